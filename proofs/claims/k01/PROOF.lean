import PyProof.Rows.All
import Wide.All
import OpenK.AllK
import Wide.FinOn
import Lean
import PyProof.EqAt
import PyProof.EqKinds
import PyProof.TupleCall
import KE.KTryMore
import PyProof.ExcAttrAll.ValueError
import PyProof.ExcBaseAll.ValueError
import PyProof.DictWalks
import PyProof.EnumIter
import PyProof.EnumFor
import PyProof.EnumMake
import PyProof.AttrMissHeap
import KE.KDictOf
import KE.KDictList
import PyProof.StrOps2
import KE.KSortTup
import PyProof.NeKinds
import PyProof.ReprRoads
import PyProof.CallFns
import PyProof.StrLawsRepr
import PyProof.Rows.SortStr
import PyProof.TupleOfSeq
import PyProof.ZipIter
import PyProof.Rows.StrJoinMade
import PyProof.Rows.SetFrom
import PyProof.WalksMore
import PyProof.Rows.StrClose
import PyProof.Rows.CatFin
import PySem.Challenge.RW_warmrows_k01_what_families_are
import PyProof.StrLawsIn
set_option Elab.async false
set_option linter.all false
set_option maxRecDepth 100000
set_option maxHeartbeats 4000000
section
namespace L2
open PySem PySem.Spec PyProof.Rows
abbrev Key := Sum Int Str
def keyIs : Key → Value → Bool
  | .inl k, v => Value.isInt k v
  | .inr x, v => Value.isStrOf x v
def keyH (w : World) : Key → Int
  | .inl k => hashInt k
  | .inr x => hashStr w x
theorem keyIs_shape : ∀ {k : Key} {v : Value}, keyIs k v = true → (∃ i t, k = Sum.inl i ∧ v = Value.int i t) ∨ (∃ x t, k = Sum.inr x ∧ v = Value.str x t)
  | .inl i, v, h => by
    obtain ⟨t, e⟩ := Value.isInt_shape (k := i) (v := v) h
    exact .inl ⟨i, t, rfl, e⟩
  | .inr x, v, h => by
    obtain ⟨t, e⟩ := Value.isStrOf_shape (x := x) (v := v) h
    exact .inr ⟨x, t, rfl, e⟩
theorem keyIs_int (i : Int) (t : Tok) : keyIs (.inl i) (.int i t) = true := by simp [keyIs, Value.isInt]
theorem keyIs_str (x : Str) (t : Tok) : keyIs (.inr x) (.str x t) = true := by simp [keyIs, Value.isStrOf]
theorem key_ll (a b : Int) : decide ((Sum.inl a : Key) = Sum.inl b) = (a == b) := by
  by_cases e : a = b
  · subst e; simp
  · have h : ¬ (Sum.inl a : Key) = Sum.inl b := fun q => e (Sum.inl.inj q)
    rw [decide_eq_false h]
    exact (beq_eq_false_iff_ne.mpr e).symm
theorem key_rr (a b : Str) : decide ((Sum.inr a : Key) = Sum.inr b) = decide (a = b) := by
  by_cases e : a = b
  · subst e; simp
  · have h : ¬ (Sum.inr a : Key) = Sum.inr b := fun q => e (Sum.inr.inj q)
    rw [decide_eq_false h, decide_eq_false e]
theorem key_lr (a : Int) (b : Str) : decide ((Sum.inl a : Key) = Sum.inr b) = false := decide_eq_false (fun q => nomatch q)
theorem key_rl (a : Str) (b : Int) : decide ((Sum.inr a : Key) = Sum.inl b) = false := decide_eq_false (fun q => nomatch q)
def mixKind (prog : Program) (w : World) : PySem.KeyKind prog w Key where
  is := keyIs
  hash := keyH w
  inj := fun v a b ha hb => by
    rcases keyIs_shape ha with ⟨i, t, rfl, rfl⟩ | ⟨x, t, rfl, rfl⟩
    · rcases keyIs_shape hb with ⟨j, u, rfl, e⟩ | ⟨y, u, rfl, e⟩
      · injection e with e1 _; rw [e1]
      · exact nomatch e
    · rcases keyIs_shape hb with ⟨j, u, rfl, e⟩ | ⟨y, u, rfl, e⟩
      · exact nomatch e
      · injection e with e1 _; rw [e1]
  byValue := fun k v h => by
    rcases keyIs_shape h with ⟨i, t, rfl, rfl⟩ | ⟨x, t, rfl, rfl⟩ <;> rfl
  pyHash := fun hv h => by
    rcases keyIs_shape hv with ⟨i, t, rfl, rfl⟩ | ⟨x, t, rfl, rfl⟩
    · exact wpAny_pyHash_int h
    · exact wpAny_pyHash_str h
  eqBool := fun hu hv h => by
    rcases keyIs_shape hu with ⟨i, t, rfl, rfl⟩ | ⟨x, t, rfl, rfl⟩
    · rcases keyIs_shape hv with ⟨j, u, rfl, rfl⟩ | ⟨y, u, rfl, rfl⟩
      · rw [key_ll] at h; exact wpAny_eqBool_int h
      · rw [key_lr] at h; exact SeqAt.EqAt.int_str i t y u _ _ _ _ h
    · rcases keyIs_shape hv with ⟨j, u, rfl, rfl⟩ | ⟨y, u, rfl, rfl⟩
      · rw [key_rl] at h; exact SeqAt.EqAt.str_int x t j u _ _ _ _ h
      · rw [key_rr] at h; exact wpAny_eqBool_str h
  «strs» := fun k x t v h => by
    rcases keyIs_shape h with ⟨i, u, rfl, e⟩ | ⟨y, u, rfl, e⟩
    · exact nomatch e
    · injection e with e1 _
      subst e1
      cases v <;> rfl
theorem mixKind_is (prog : Program) (w : World) (k : Key) (v : Value) : (mixKind prog w).is k v = keyIs k v := rfl
theorem mixKind_int (prog : Program) (w : World) (i : Int) (t : Tok) : (mixKind prog w).is (.inl i) (.int i t) = true := keyIs_int i t
theorem mixKind_str (prog : Program) (w : World) (x : Str) (t : Tok) : (mixKind prog w).is (.inr x) (.str x t) = true := keyIs_str x t
end L2
namespace L2
open PySem PySem.Spec PyProof.Rows
inductive V where
  | non | bl (b : Bool) | int (i : Int) | str (x : Str) | byt (b : Array UInt8) | flt (b : UInt64) | ref (a : Addr) | ty (n : String)
  deriving DecidableEq
def RelV : V → Value → Prop
  | .non, u => u = Value.none
  | .bl b, u => u = Value.bool b
  | .int i, u => ∃ t, u = Value.int i t
  | .str x, u => ∃ t, u = Value.str x t
  | .byt b, u => ∃ t, u = Value.bytes b t
  | .flt b, u => ∃ t, u = Value.float b t
  | .ref a, u => u = Value.ref a
  | .ty n, u => u = Value.type n
abbrev Vals : List V → List Value → Prop := Paired RelV
theorem Vals.length {xs : List V} {us : List Value} (r : Vals xs us) : xs.length = us.length := Paired.length r
theorem Vals.get : ∀ {xs : List V} {us : List Value} {i : Nat} {x : V}, Vals xs us → xs[i]? = some x → ∃ u, us[i]? = some u ∧ RelV x u
  | _, _, _, _, .nil, e => by simp at e
  | _, _, 0, _, .cons r _, e => by simp at e; subst e; exact ⟨_, rfl, r⟩
  | _, _, i + 1, x, .cons _ t, e => by
    obtain ⟨u, h1, h2⟩ := Vals.get (i := i) (x := x) t (by simpa using e)
    exact ⟨u, by simpa using h1, h2⟩
theorem Vals.set {x : V} {u : Value} (r : RelV x u) : ∀ {xs : List V} {us : List Value} (i : Nat), Vals xs us → Vals (xs.set i x) (us.set i u)
  | _, _, _, .nil => .nil
  | _, _, 0, .cons _ t => .cons r t
  | _, _, i + 1, .cons q t => .cons q (Vals.set r i t)
theorem Vals.append : ∀ {xs ys : List V} {us ws : List Value}, Vals xs us → Vals ys ws → Vals (xs ++ ys) (us ++ ws)
  | _, _, _, _, .nil, s => s
  | _, _, _, _, .cons r t, s => .cons r (Vals.append t s)
theorem Vals.take : ∀ {xs : List V} {us : List Value} (n : Nat), Vals xs us → Vals (xs.take n) (us.take n)
  | _, _, 0, _ => .nil
  | _, _, _ + 1, .nil => .nil
  | _, _, n + 1, .cons r t => .cons r (Vals.take n t)
theorem Vals.drop : ∀ {xs : List V} {us : List Value} (n : Nat), Vals xs us → Vals (xs.drop n) (us.drop n)
  | _, _, 0, r => r
  | _, _, _ + 1, .nil => .nil
  | _, _, n + 1, .cons _ t => Vals.drop n t
def RelO : Option V → Option Value → Prop
  | some v, some u => RelV v u
  | none, none => True
  | _, _ => False
def KV {κ : Type} : List (κ × V) → List (κ × Value) → Prop := Paired fun (p : κ × V) (q : κ × Value) => p.1 = q.1 ∧ RelV p.2 q.2
def kV : Key → V
  | .inl i => .int i
  | .inr x => .str x
inductive HO where
  | lst (xs : List V)
  | tup (xs : List V)
  | dK (kvs : List (Key × V)) | dT (kvs : List (List Key × V))
  | set (S : Int → Bool) (n : Nat)
  | ins (C dx : Addr) (fs : List (Str × V))
  | own (x : Addr)
  | xd (fs : List (Str × V))
  | met (f x : Addr)
  | rng (lo hi : Int)
  | frz (o : Obj) (u : HO)
  | tbl (ps : Array Value)
  | ext (φ : Heap → Prop)
abbrev Hp := Addr → Option HO
def upd (H : Hp) (a : Addr) (o : HO) : Hp := fun b => if b = a then some o else H b
theorem upd_same {H : Hp} {a : Addr} {o : HO} : upd H a o a = some o := by unfold upd; rw [if_pos rfl]
theorem upd_ne {H : Hp} {a b : Addr} {o : HO} (h : b ≠ a) : upd H a o b = H b := by unfold upd; rw [if_neg h]
theorem upd_upd {H : Hp} {a : Addr} {o u : HO} : upd (upd H a o) a u = upd H a u := by
  funext b; unfold upd; split <;> rfl
theorem ne_of {H : Hp} {a b : Addr} {o u : HO} (h : H a = some o) (h' : H b = some u) (d : o ≠ u) : a ≠ b := by
  intro e; subst e; rw [h] at h'; exact d (Option.some.inj h')
theorem ne_of_none {H : Hp} {a b : Addr} {o : HO} (h : H a = some o) (h' : H b = none) : a ≠ b := by
  intro e; subst e; rw [h] at h'; cases h'
def NoD (h : Heap) (a : Addr) : Prop := ∀ o, h.get? a = some o → o.dict = none
theorem nod_push (h : Heap) (its : Array Value) : NoD (h.push { cls := .type "tuple", data := .seq its }) h.objs.size := fun o e => by
  rw [Heap.get?_push_size _ rfl] at e
  cases e
  rfl
section
variable (P : Program) (w : World)
def ObjOk (H : Hp) (h : Heap) (a : Addr) : HO → Prop
  | .lst xs => xs.length ≤ sizeLine ∧ ∃ (its : List Value) (n : Nat), Vals xs its ∧ h.get? a = some { cls := .type "list", data := .seq its.toArray n }
  | .tup xs => (xs.length ≤ sizeLine ∧ NoD h a) ∧ ∃ its : List Value, Vals xs its ∧ IsTup h a its.toArray
  | .dK kvs => kvs.length ≤ sizeLine ∧ (a == sysModules) = false ∧ ∃ vs, KV kvs vs ∧ h.DictOf (mixKind P w) a vs
  | .dT kvs => kvs.length ≤ sizeLine ∧ (a == sysModules) = false ∧ ∃ xs : List (List Key × Addr × Value),
      Paired (fun (p : List Key × V) (q : List Key × Addr × Value) => p.1 = q.1 ∧ H q.2.1 = some (.tup (p.1.map kV)) ∧ RelV p.2 q.2.2) kvs xs ∧
      ∃ o es ep, h.get? a = some o ∧ o.ExactDict ∧ o.data = .dict es ep ∧ es.toList = xs.map (entryOfKey (tupleKind (mixKind P w))) ∧ (xs.map (·.1)).Nodup
  | .set S n => h.SetOf (intKind P w) a S n
  | .ins C dx fs => H dx = some (.own a) ∧ fs.length ≤ 1000 ∧ dx ≠ a ∧ h.get? a = some (PySem.W.instObj C dx) ∧
      ∃ mA, h.Ns1 dx mA ∧ (∀ f, RelO (fs.lookup f) (mA f)) ∧ PySem.Within mA (fs.map (·.1))
  | .own _ => ∃ o, h.get? a = some o
  | .xd fs => ∃ mA, h.Ns1 a mA ∧ ∀ f, RelO (fs.lookup f) (mA f)
  | .rng lo hi => ∃ t u v, h.get? a = some { cls := .type "range", data := .fields #[.int lo t, .int hi u, .int 1 v] }
  | .frz o u => h.get? a = some o ∧ ObjOk H h a u
  | .tbl ps => h.get? a = some { cls := .none, data := .fields ps }
  | .met f x => h.get? a = some (PySem.W.methodObj (.ref f) (.ref x))
  | .ext φ => φ h ∧ (∃ o, h.get? a = some o) ∧ ∀ h1 h2 : Heap, φ h1 → (∀ o, h1.get? a = some o → h2.get? a = some o) → φ h2
def HOk (H : Hp) (h : Heap) : Prop := ∀ a o, H a = some o → ObjOk P w H h a o
end
section
variable {P : Program} {w : World} {H H' : Hp} {h h' : Heap} {a : Addr} {o : HO}
theorem ObjOk.lt (x : ObjOk P w H h a o) : a < h.objs.size := by
  cases o with
  | lst xs => obtain ⟨_, _, _, _, e⟩ := x; exact Heap.lt_size e
  | tup xs => obtain ⟨_, _, _, p⟩ := x; exact p.lt
  | dK kvs => obtain ⟨_, _, _, _, o, _, _, e, _⟩ := x; exact Heap.lt_size e
  | dT kvs => obtain ⟨_, _, _, _, o, _, _, e, _⟩ := x; exact Heap.lt_size e
  | set S n => obtain ⟨o, _, _, _, e, _⟩ := x; exact Heap.lt_size e
  | ins C dx fs => obtain ⟨_, _, _, e, _⟩ := x; exact Heap.lt_size e
  | own y => obtain ⟨_, e⟩ := x; exact Heap.lt_size e
  | xd fs => obtain ⟨_, ⟨_, _, _, e, _⟩, _⟩ := x; exact Heap.lt_size e
  | rng lo hi => obtain ⟨_, _, _, e⟩ := x; exact Heap.lt_size e
  | frz ob u => obtain ⟨e, _⟩ := x; exact Heap.lt_size e
  | tbl ps => exact Heap.lt_size (show h.get? a = some _ from x)
  | met f y => exact Heap.lt_size (show h.get? a = some _ from x)
  | ext φ => obtain ⟨_, ⟨_, e⟩, _⟩ := x; exact Heap.lt_size e
theorem Paired.mapP {α β : Type} {F G : α → β → Prop} : ∀ {l₁ : List α} {l₂ : List β}, Paired F l₁ l₂ → (∀ a b, F a b → G a b) → Paired G l₁ l₂
  | _, _, .nil, _ => .nil
  | _, _, .cons r t, f => .cons (f _ _ r) (Paired.mapP t f)
theorem ObjOk.stay (x : ObjOk P w H h a o) (k : ∀ b u, (b = a ∨ H b = some (.own a)) → h.get? b = some u → h'.get? b = some u)
    (ho : ∀ b, H b = some (.own a) → H' b = some (.own a)) (ht : ∀ b xs, H b = some (.tup xs) → H' b = some (.tup xs)) : ObjOk P w H' h' a o := by
  induction o with
  | lst xs => obtain ⟨z, its, n, r, e⟩ := x; exact ⟨z, its, n, r, k _ _ (.inl rfl) e⟩
  | tup xs =>
    obtain ⟨z, its, r, ob, e, c⟩ := x
    have e' := k _ _ (.inl rfl) e
    exact ⟨⟨z.1, fun o q => by rw [e'] at q; cases q; exact z.2 _ e⟩, its, r, ob, e', c⟩
  | dK kvs => obtain ⟨z, y, vs, r, ob, es, ep, e, c⟩ := x; exact ⟨z, y, vs, r, ob, es, ep, k _ _ (.inl rfl) e, c⟩
  | dT kvs =>
    obtain ⟨z, y, xs, r, ob, es, ep, e, c⟩ := x
    exact ⟨z, y, xs, Paired.mapP r fun p q z => ⟨z.1, ht _ _ z.2.1, z.2.2⟩, ob, es, ep, k _ _ (.inl rfl) e, c⟩
  | set S n => obtain ⟨ob, es, ep, t, e, c⟩ := x; exact ⟨ob, es, ep, t, k _ _ (.inl rfl) e, c⟩
  | ins C dx fs =>
    obtain ⟨d, z, ne, e, mA, ⟨od, es, ep, e2, c⟩, r⟩ := x
    exact ⟨ho _ d, z, ne, k _ _ (.inl rfl) e, mA, ⟨od, es, ep, k _ _ (.inr d) e2, c⟩, r⟩
  | own y => obtain ⟨ob, e⟩ := x; exact ⟨ob, k _ _ (.inl rfl) e⟩
  | xd fs => obtain ⟨mA, ⟨od, es, ep, e, c⟩, r⟩ := x; exact ⟨mA, ⟨od, es, ep, k _ _ (.inl rfl) e, c⟩, r⟩
  | rng lo hi => obtain ⟨t, u, v, e⟩ := x; exact ⟨t, u, v, k _ _ (.inl rfl) e⟩
  | frz ob u ih => obtain ⟨e, q⟩ := x; exact ⟨k _ _ (.inl rfl) e, ih q⟩
  | tbl ps =>
    have e : h.get? a = some { cls := .none, data := .fields ps } := x
    show h'.get? a = some { cls := .none, data := .fields ps }
    exact k a _ (.inl rfl) e
  | met f y =>
    have e : h.get? a = some (PySem.W.methodObj (.ref f) (.ref y)) := x
    show h'.get? a = some (PySem.W.methodObj (.ref f) (.ref y))
    exact k a _ (.inl rfl) e
  | ext φ => obtain ⟨p, ⟨o, e⟩, st⟩ := x; exact ⟨st _ _ p fun o q => k _ _ (.inl rfl) q, ⟨o, k _ _ (.inl rfl) e⟩, st⟩
theorem HOk.lt (x : HOk P w H h) (e : H a = some o) : a < h.objs.size := (x a o e).lt
theorem HOk.fresh (x : HOk P w H h) (e : h.objs.size ≤ a) : H a = none := by
  cases q : H a with
  | none => rfl
  | some u => exact absurd (Nat.lt_of_lt_of_le (x.lt q) e) (Nat.lt_irrefl _)
theorem HOk.kept (x : HOk P w H h) (k : ∀ b u, h.get? b = some u → h'.get? b = some u) : HOk P w H h' := fun a o e =>
  (x a o e).stay (fun b u _ q => k b u q) (fun _ q => q) fun _ _ q => q
theorem HOk.laid (x : HOk P w H h) (k : ∀ b u, h.get? b = some u → h'.get? b = some u) (hp : h.objs.size ≤ a) (new : ObjOk P w (upd H a o) h' a o) : HOk P w (upd H a o) h' := fun b u e => by
  have hn := x.fresh hp
  by_cases hb : b = a
  · subst hb; rw [upd_same] at e; cases e; exact new
  · rw [upd_ne hb] at e
    exact (x b u e).stay (fun c v _ q => k c v q) (fun c q => by rw [upd_ne (ne_of_none q hn)]; exact q) fun c xs q => by rw [upd_ne (ne_of_none q hn)]; exact q
end
def Rd (H : Hp) (a : Addr) (u : HO) : Prop := H a = some u ∨ ∃ o, H a = some (.frz o u)
theorem Rd.ok {P : Program} {w : World} {H : Hp} {h : Heap} {a : Addr} {u : HO} (r : Rd H a u) (x : HOk P w H h) : ObjOk P w H h a u := by
  rcases r with r | ⟨o, r⟩
  · exact x a u r
  · obtain ⟨_, q⟩ := x a _ r
    exact q
def Mut : Option HO → Prop
  | some (.lst _) => True
  | some (.dK _) => True
  | some (.dT _) => True
  | some (.set _ _) => True
  | some (.ins _ _ _) => True
  | some (.ext _) => True
  | _ => False
section
variable {P : Program} {w : World} {H : Hp} {h h' : Heap} {x e : Addr} {o' : HO}
theorem HOk.write (ok : HOk P w H h) (mu : Mut (H x)) (he : e = x ∨ H e = some (.own x)) (k : ∀ b u, b ≠ e → h.get? b = some u → h'.get? b = some u) (heo : ∃ u, h'.get? e = some u)
    (new : ObjOk P w (upd H x o') h' x o') : HOk P w (upd H x o') h' := fun b u q => by
  have nown : ∀ c y, H c = some (.own y) → c ≠ x := fun c y r z => by subst z; rw [r] at mu; exact mu
  have ntup : ∀ c xs, H c = some (.tup xs) → c ≠ x := fun c xs r z => by subst z; rw [r] at mu; exact mu
  by_cases hb : b = x
  · subst hb; rw [upd_same] at q; cases q; exact new
  · rw [upd_ne hb] at q
    by_cases hbe : b = e
    · have q' : H b = some (.own x) := by
        rcases he with z | z
        · exact absurd (hbe.trans z) hb
        · rw [hbe]; exact z
      rw [q] at q'; cases q'
      obtain ⟨v, hv⟩ := heo
      exact ⟨v, by rw [hbe]; exact hv⟩
    · refine (ok b u q).stay (fun c v hc r => k c v ?_ r) (fun c r => by rw [upd_ne (nown c b r)]; exact r) fun c xs r => by rw [upd_ne (ntup c xs r)]; exact r
      rcases hc with rfl | hc
      · exact hbe
      · rintro rfl
        rcases he with z | z
        · exact nown c b hc z
        · rw [hc] at z; cases z; exact hb rfl
end
structure Un (fs ex : List Addr) (H H' : Hp) (h h' : Heap) : Prop where
  keep : ∀ b o, h.get? b = some o → H b = none → b ∉ fs → b ∉ ex → h'.get? b = some o
  slot : ∀ b o, h.get? b = some o → H b = none → b ∈ fs → b ∉ ex → ∃ sl, h'.get? b = some { o with slots := sl }
  free : ∀ b o, h.get? b = some o → H b = none → b ∉ ex → H' b = none
  there : ∀ b o, h.get? b = some o → b ∉ ex → ∃ o', h'.get? b = some o'
  tups : ∀ b xs, H b = some (.tup xs) → H' b = some (.tup xs)
  frzs : ∀ b o u, H b = some (.frz o u) → H' b = some (.frz o u)
  tbls : ∀ b ps, H b = some (.tbl ps) → ∃ more, H' b = some (.tbl (ps ++ more))
section
variable {fs fs' ex ex' : List Addr} {H H1 H2 : Hp} {h h1 h2 h' : Heap} {a x e : Addr} {o : HO}
theorem Un.any (u : Un fs ex H H1 h h1) {b : Addr} {ob : Obj} (q : h.get? b = some ob) (n : H b = none) (hx : b ∉ ex) : ∃ sl, h1.get? b = some { ob with slots := sl } := by
  by_cases hb : b ∈ fs
  · exact u.slot b ob q n hb hx
  · exact ⟨ob.slots, u.keep b ob q n hb hx⟩
theorem Un.kept (k : ∀ b u, h.get? b = some u → h'.get? b = some u) : Un fs ex H H h h' :=
  ⟨fun b ob q _ _ _ => k b ob q, fun b ob q _ _ _ => ⟨ob.slots, k b ob q⟩, fun _ _ _ n _ => n, fun b ob q _ => ⟨ob, k b ob q⟩, fun _ _ q => q, fun _ _ _ q => q, fun _ ps q => ⟨#[], by rw [q]; simp⟩⟩
theorem Un.refl : Un fs ex H H h h := Un.kept fun _ _ q => q
theorem Un.laid (k : ∀ b u, h.get? b = some u → h'.get? b = some u) (hp : h.objs.size ≤ a) (hn : H a = none) : Un fs ex H (upd H a o) h h' where
  keep := fun b u q _ _ _ => k b u q
  slot := fun b u q _ _ _ => ⟨u.slots, k b u q⟩
  free := fun b u q n _ => by rw [upd_ne (Nat.ne_of_lt (Nat.lt_of_lt_of_le (Heap.lt_size q) hp))]; exact n
  there := fun b u q _ => ⟨u, k b u q⟩
  tups := fun b xs q => by rw [upd_ne (ne_of_none q hn)]; exact q
  frzs := fun b u xs q => by rw [upd_ne (ne_of_none q hn)]; exact q
  tbls := fun b ps q => ⟨#[], by rw [upd_ne (ne_of_none q hn), q]; simp⟩
theorem Un.write (mu : Mut (H x)) (he : e = x ∨ H e = some (.own x)) (k : ∀ b u, b ≠ e → h.get? b = some u → h'.get? b = some u) (heo : ∃ u, h'.get? e = some u) : Un fs ex H (upd H x o) h h' := by
  have hx : ∀ b, H b = none → b ≠ x := fun b n z => by subst z; rw [n] at mu; exact mu
  have hb : ∀ b, H b = none → b ≠ e := fun b n z => by
    subst z
    rcases he with r | r
    · exact hx b n r
    · rw [n] at r; cases r
  have hm : ∀ b u, H b = some u → ¬ Mut (some u) → b ≠ x := fun b u q nm z => by subst z; rw [q] at mu; exact nm mu
  refine ⟨fun b u q n _ _ => k b u (hb b n) q, fun b u q n _ _ => ⟨u.slots, k b u (hb b n) q⟩, fun b u q n _ => by rw [upd_ne (hx b n)]; exact n, fun b u q _ => ?_,
    fun b xs q => by rw [upd_ne (hm b _ q fun z => z)]; exact q, fun b u xs q => by rw [upd_ne (hm b _ q fun z => z)]; exact q, fun b ps q => ⟨#[], by rw [upd_ne (hm b _ q fun z => z), q]; simp⟩⟩
  by_cases hbe : b = e
  · subst hbe; exact heo
  · exact ⟨u, k b u hbe q⟩
end
def trk (h : Heap) (H : Hp) : List Addr := (List.range h.objs.size).filter fun a => (H a).isSome
def hidT (h : Heap) (H : Hp) : Heap := PySem.W.hideAll h (trk h H)
theorem hidT_size (h : Heap) (H : Hp) : (hidT h H).objs.size = h.objs.size := PySem.W.hideAll_size _ _
theorem hidT_get {h : Heap} {H : Hp} {b : Addr} {o : Obj} (e : h.get? b = some o) (n : H b = none) : (hidT h H).get? b = some o :=
  PySem.W.hideAll_get _ e fun hm => by
    have q : (H b).isSome = true := (List.mem_filter.mp hm).2
    rw [n] at q; simp at q
theorem of_hidT {h : Heap} {H : Hp} {b : Addr} {o : Obj} (e : (hidT h H).get? b = some o) : h.get? b = some o ∧ H b = none := by
  have e' : h.get? b = some o := PySem.W.of_hideAll (trk h H) e
  refine ⟨e', ?_⟩
  cases q : H b with
  | none => rfl
  | some x =>
    have hm : b ∈ trk h H := List.mem_filter.mpr ⟨List.mem_range.mpr (Heap.lt_size e'), by simp [q]⟩
    have z : (hidT h H).get? b = none := PySem.W.hideAll_none (trk h H) hm
    rw [z] at e; cases e
def allNews (g h : Heap) (L : Addr) : List (Addr × Obj) := (List.range h.objs.size).filterMap fun a => if a = L ∨ (g.get? a).isSome = true then none else (h.get? a).map fun o => (a, o)
def rest (g h : Heap) (L d : Addr) : List (Addr × Obj) := (allNews g h L).filter fun p => decide (p.1 ≠ d)
end L2
namespace L2
open PySem PySem.Spec PyProof.Rows
structure Mod (K : PySem.W.Frag) (mg : Str → Option Value) (base : Heap) : Prop where
  kin : K.In base
  glob : base.Ns mainGlobals mg
  blt : ∃ mb, base.Ns builtinsNs mb ∧ ∀ x : Str, x ≠ "__name__" → mb x = bootBuiltins x
  nolimit : base.NoLimit
/-- the context: a def's body (or a comprehension's block) running. base: fixed through the whole law; s₀, H₀: the entry; outer: the frames whose slots others may change (a def's callers); stack: all frames that run;
   ex: iterators that were made ahead of the entry and are walked here (a comprehension's); fn: the names whose cells were made at the entry (a def: all; a comprehension's block: its own); calm: not within an except suite; pn: pins that every state bears; xe: what is wanted of an exception that leaves the code -/
structure Cx where
  prog : Program
  w : World
  K : PySem.W.Frag
  mg : Str → Option Value
  base : Heap
  A : Around
  N : List Str
  s₀ : Shared
  H₀ : Hp
  env : Env
  outer : List Env
  stack : List Env
  ex : List Addr
  fn : Str → Bool
  calm : Bool
  pn : List (Addr × Obj)
  xe : Value → Shared → Prop
def frs (l : List Env) : List Addr := l.filterMap (·.frame)
abbrev Cx.fs (X : Cx) : List Addr := frs X.outer
def Vis (sc : Scope) (x : Str) : Prop := sc.names.lookup x = some .local ∨ sc.names.lookup x = some .cell ∨ sc.names.lookup x = some .free
def Loc (sc : Scope) (x : Str) : Prop := sc.names.lookup x = some .local ∨ sc.names.lookup x = some .cell
def Look (env : Env) (h : Heap) (m : Str → Option Value) (x : Str) (u : Value) : Prop :=
  (env.kindOf x = some .local ∧ m x = some u) ∨ ((env.kindOf x = some .cell ∨ env.kindOf x = some .free) ∧ ∃ c, env.cells.lookup x = some c ∧ h.IsCell c (some u))
structure Cx.Ok (X : Cx) : Prop where
  mod : Mod X.K X.mg X.base
  kind : X.env.scope.kind = .function
  glob : X.env.globals = mainGlobals
  blt : X.env.builtins = builtinsNs
  above : X.s₀.heap.objs.size ≤ X.env.locals
  inj : ∀ x y c, X.env.cells.lookup x = some c → X.env.cells.lookup y = some c → x = y
  has : ∀ x, (X.env.kindOf x = some .cell ∨ X.env.kindOf x = some .free) → ∃ c, X.env.cells.lookup x = some c
  cab : ∀ x c, X.fn x = true → X.env.cells.lookup x = some c → X.s₀.heap.objs.size ≤ c
  hd : X.calm = true → X.A.handled = none
  frames : X.A.frames = some X.stack
  stk : X.stack = X.outer ∨ (X.stack = X.env :: X.outer ∧ X.env.frame = some X.env.locals)
  exf : ∀ b ∈ X.ex, b ≠ X.env.locals ∧ ∀ x c, X.env.cells.lookup x = some c → c ≠ b
  bs : ∀ b o, X.base.get? b = some o → X.s₀.heap.get? b = some o ∧ X.H₀ b = none
  bsz : X.base.objs.size ≤ X.s₀.heap.objs.size
  noex : ∀ b o, X.base.get? b = some o → b ∉ X.ex
  exfs : ∀ b ∈ X.ex, b ∉ X.fs
  funs : X.s₀.heap.FunFrames X.base X.outer
  frf : ∀ b ∈ X.fs, X.H₀ b = none
structure Inv (X : Cx) (pins : List (Addr × Obj)) (σ : List (Option V)) (H : Hp) (s : Shared) : Prop where
  ok : X.Ok
  os : s.os = X.s₀.os
  bare : AllBare s.gens
  base : Un X.fs X.ex X.H₀ H X.s₀.heap s.heap
  loc : ∃ m, s.heap.Ns X.env.locals m ∧ ∀ (i : Nat) (x : Str) (v : V), X.N[i]? = some x → σ[i]? = some (some v) → Vis X.env.scope x → ∃ u, RelV v u ∧ Look X.env s.heap m x u
  cell : ∀ x c, X.env.cells.lookup x = some c → ∃ v, s.heap.IsCell c v
  free : H X.env.locals = none
  freeC : ∀ x c, X.env.cells.lookup x = some c → H c = none
  pin : ∀ p ∈ X.pn ++ pins, s.heap.get? p.1 = some p.2 ∧ H p.1 = none ∧ p.1 ≠ X.env.locals ∧ p.1 ∉ X.fs ∧ ∀ v, p.2.data ≠ .cell v
  hok : HOk X.prog X.w H s.heap
  len : σ.length = X.N.length
section
variable {X : Cx} {pins : List (Addr × Obj)} {σ : List (Option V)} {H H' : Hp} {s : Shared} {h' : Heap}
theorem Cx.Ok.nofr (ok : X.Ok) {b : Addr} {o : Obj} (e : X.base.get? b = some o) : b ∉ X.fs := fun hb => by
  have := (ok.funs.mem hb).1
  rw [e] at this; cases this
theorem Inv.bs (I : Inv X pins σ H s) : ∀ b o, X.base.get? b = some o → s.heap.get? b = some o ∧ H b = none := fun b o e =>
  ⟨I.base.keep b o (I.ok.bs b o e).1 (I.ok.bs b o e).2 (I.ok.nofr e) (I.ok.noex b o e), I.base.free b o (I.ok.bs b o e).1 (I.ok.bs b o e).2 (I.ok.noex b o e)⟩
theorem Inv.bk (I : Inv X pins σ H s) : ∀ b o, X.base.get? b = some o → s.heap.get? b = some o := fun b o e => (I.bs b o e).1
theorem Inv.mod (I : Inv X pins σ H s) : Mod X.K X.mg X.base := I.ok.mod
theorem Inv.kIn (I : Inv X pins σ H s) : X.K.In s.heap := I.ok.mod.kin.keeps I.bk
theorem Inv.lt (I : Inv X pins σ H s) : X.env.locals < s.heap.objs.size := let ⟨_, hn, _⟩ := I.loc; hn.lt
theorem Inv.sz (I : Inv X pins σ H s) : X.s₀.heap.objs.size ≤ s.heap.objs.size := Nat.le_trans I.ok.above (Nat.le_of_lt I.lt)
theorem Inv.nofs (I : Inv X pins σ H s) {a : Addr} (h : s.heap.objs.size ≤ a) : a ∉ X.fs := fun hb => by
  obtain ⟨_, o, ho, _⟩ := I.ok.funs.mem hb
  exact absurd (Nat.lt_of_lt_of_le (Heap.lt_size ho) (Nat.le_trans I.sz h)) (Nat.lt_irrefl _)
theorem Inv.cne (I : Inv X pins σ H s) : ∀ x c, X.env.cells.lookup x = some c → c ≠ X.env.locals := fun x c e z => by
  obtain ⟨v, o, ho, hd⟩ := I.cell x c e
  obtain ⟨m, ⟨o', es, ep, ho', hd', _⟩, _⟩ := I.loc
  rw [z, ho'] at ho; cases ho; rw [hd'] at hd; cases hd
theorem Inv.funs (I : Inv X pins σ H s) : s.heap.FunFrames X.base X.outer := by
  have all : ∀ (l : List Env), (∀ b ∈ frs l, b ∈ X.fs) → X.s₀.heap.FunFrames X.base l → s.heap.FunFrames X.base l := by
    intro l
    induction l with
    | nil => intro _ _; trivial
    | cons env r ih =>
      intro hs hl
      obtain ⟨hk, ⟨L, o, hf, hn, ho, hd⟩, hr⟩ := hl
      have hL : L ∈ X.fs := hs L (by unfold frs; rw [List.filterMap_cons, hf]; exact List.mem_cons_self)
      obtain ⟨sl, e⟩ := I.base.slot L o ho (I.ok.frf L hL) hL fun z => I.ok.exfs L z hL
      exact ⟨hk, ⟨L, _, hf, hn, e, hd⟩, ih (fun b hb => hs b (by unfold frs; rw [List.filterMap_cons, hf]; exact List.mem_cons_of_mem _ hb)) hr⟩
  exact all X.outer (fun _ hb => hb) I.ok.funs
theorem Inv.stack (I : Inv X pins σ H s) : s.heap.FunFrames X.base X.stack := by
  rcases I.ok.stk with e | ⟨e, hf⟩
  · rw [e]; exact I.funs
  · rw [e]
    obtain ⟨m, hn, _⟩ := I.loc
    refine .cons (by rw [I.ok.kind]; decide) hf hn ?_ I.funs
    exact Heap.get?_none_of_le (Nat.le_trans I.ok.bsz I.ok.above)
theorem Inv.stkSub (I : Inv X pins σ H s) : ∀ b ∈ frs X.stack, b ∈ X.env.locals :: X.fs := fun b hb => by
  rcases I.ok.stk with e | ⟨e, hf⟩
  · rw [e] at hb; exact List.mem_cons_of_mem _ hb
  · rw [e] at hb
    unfold frs at hb
    rw [List.filterMap_cons, hf] at hb
    exact hb
theorem Inv.stkFree (I : Inv X pins σ H s) : ∀ b ∈ frs X.stack, H b = none := fun b hb => by
  rcases List.mem_cons.mp (I.stkSub b hb) with e | hb
  · rw [e]; exact I.free
  · obtain ⟨_, o, ho, _⟩ := I.ok.funs.mem hb
    exact I.base.free b o ho (I.ok.frf b hb) fun z => I.ok.exfs b z hb
theorem Inv.step {g' : Array GenState} {t' : Nat} {d' : Drawn} {ch : List Addr} (I : Inv X pins σ H s)
    (hch : ∀ b ∈ ch, (b ∈ X.ex ∨ X.s₀.heap.objs.size ≤ b) ∧ b ≠ X.env.locals ∧ (∀ x c, X.env.cells.lookup x = some c → c ≠ b) ∧ ∀ p ∈ X.pn ++ pins, p.1 ≠ b)
    (keep : ∀ b o, b ≠ X.env.locals → b ∉ X.fs → b ∉ ch → s.heap.get? b = some o → H b = none → h'.get? b = some o)
    (slot : ∀ b o, b ≠ X.env.locals → b ∈ X.fs → b ∉ ch → s.heap.get? b = some o → H b = none → ∃ sl, h'.get? b = some { o with slots := sl }) (free : ∀ b o, b ∉ ch → s.heap.get? b = some o → H b = none → H' b = none)
    (there : ∀ b o, b ∉ ch → s.heap.get? b = some o → ∃ o', h'.get? b = some o')
    (tups : ∀ b xs, H b = some (.tup xs) → H' b = some (.tup xs)) (frzs : ∀ b o u, H b = some (.frz o u) → H' b = some (.frz o u)) (tbls : ∀ b ps, H b = some (.tbl ps) → ∃ more, H' b = some (.tbl (ps ++ more)))
    (ns : ∀ m, s.heap.Ns X.env.locals m → h'.Ns X.env.locals m) (hok : HOk X.prog X.w H' h') (hg : AllBare g') :
    Inv X pins σ H' { s with heap := h', gens := g', drawn := d', toks := t' } := by
  have neL : ∀ b o, X.s₀.heap.get? b = some o → b ≠ X.env.locals := fun b o e => Nat.ne_of_lt (Nat.lt_of_lt_of_le (Heap.lt_size e) I.ok.above)
  have neC : ∀ b o, X.s₀.heap.get? b = some o → b ∉ X.ex → b ∉ ch := fun b o e hx hb => by
    rcases (hch b hb).1 with z | z
    · exact hx z
    · exact absurd (Nat.lt_of_lt_of_le (Heap.lt_size e) z) (Nat.lt_irrefl _)
  have cellK : ∀ x c, X.env.cells.lookup x = some c → ∀ v, s.heap.IsCell c v → h'.IsCell c v := fun x c e v ⟨o, ho, hd⟩ => by
    have nch : c ∉ ch := fun z => (hch c z).2.2.1 x c e rfl
    by_cases hc : c ∈ X.fs
    · obtain ⟨sl, q⟩ := slot c o (I.cne x c e) hc nch ho (I.freeC x c e)
      exact ⟨_, q, hd⟩
    · exact ⟨o, keep c o (I.cne x c e) hc nch ho (I.freeC x c e), hd⟩
  refine ⟨I.ok, I.os, hg, ⟨fun b o e n hb hx => ?_, fun b o e n hb hx => ?_, fun b o e n hx => ?_, fun b o e hx => ?_, fun b xs e => tups b xs (I.base.tups b xs e), fun b o xs e => frzs b o xs (I.base.frzs b o xs e), fun b ps e => ?_⟩, ?_, fun x c e => ?_, ?_, fun x c e => ?_, fun p hp => ?_, hok, I.len⟩
  · exact keep b o (neL b o e) hb (neC b o e hx) (I.base.keep b o e n hb hx) (I.base.free b o e n hx)
  · obtain ⟨sl, e1⟩ := I.base.slot b o e n hb hx
    obtain ⟨sl', e2⟩ := slot b _ (neL b o e) hb (neC b o e hx) e1 (I.base.free b o e n hx)
    exact ⟨sl', e2⟩
  · obtain ⟨o', e1⟩ := I.base.there b o e hx
    exact free b o' (neC b o e hx) e1 (I.base.free b o e n hx)
  · obtain ⟨o', e1⟩ := I.base.there b o e hx
    exact there b o' (neC b o e hx) e1
  · obtain ⟨m1, e1⟩ := I.base.tbls b ps e
    obtain ⟨m2, e2⟩ := tbls b _ e1
    exact ⟨m1 ++ m2, by rw [e2, Array.append_assoc]⟩
  · obtain ⟨m, hn, hl⟩ := I.loc
    refine ⟨m, ns m hn, fun i x v e1 e2 e3 => ?_⟩
    obtain ⟨u, r, l⟩ := hl i x v e1 e2 e3
    refine ⟨u, r, ?_⟩
    rcases l with l | ⟨k, c, e, z⟩
    · exact .inl l
    · exact .inr ⟨k, c, e, cellK x c e _ z⟩
  · obtain ⟨v, z⟩ := I.cell x c e
    exact ⟨v, cellK x c e v z⟩
  · obtain ⟨m, ⟨o, _, _, ho, _⟩, _⟩ := I.loc
    exact free _ o (fun z => (hch _ z).2.1 rfl) ho I.free
  · obtain ⟨v, o, ho, hd⟩ := I.cell x c e
    exact free c o (fun z => (hch c z).2.2.1 x c e rfl) ho (I.freeC x c e)
  · obtain ⟨e, n, ne, nf, d⟩ := I.pin p hp
    have nch : p.1 ∉ ch := fun z => (hch p.1 z).2.2.2 p hp rfl
    exact ⟨keep p.1 p.2 ne nf nch e n, free p.1 p.2 nch e n, ne, nf, d⟩
theorem Inv.un {t' : Nat} (I : Inv X pins σ H s) (u : Un X.fs [] H H' s.heap h') (hok : HOk X.prog X.w H' h') : Inv X pins σ H' { s with heap := h', toks := t' } := by
  obtain ⟨m, ⟨o, es, ep, ho, r⟩, _⟩ := id I.loc
  obtain ⟨sl, hL⟩ := u.any ho I.free (by simp)
  exact I.step (g' := s.gens) (d' := s.drawn) (ch := []) (fun _ z => nomatch z) (fun b o _ hb _ e n => u.keep b o e n hb (by simp)) (fun b o _ hb _ e n => u.slot b o e n hb (by simp)) (fun b o _ e n => u.free b o e n (by simp)) (fun b o _ e => u.there b o e (by simp)) u.tups u.frzs u.tbls (fun m' hm => by
    obtain ⟨o', es', ep', ho', r'⟩ := hm
    rw [ho] at ho'; cases ho'
    exact ⟨_, es', ep', hL, r'⟩) hok I.bare
theorem Inv.call {g' : Array GenState} {t' : Nat} {d' : Drawn} {ch : List Addr} (I : Inv X pins σ H s) (u : Un (frs X.stack) ch H H' s.heap h') (hok : HOk X.prog X.w H' h') (hg : AllBare g')
    (hch : ∀ b ∈ ch, (b ∈ X.ex ∨ X.s₀.heap.objs.size ≤ b) ∧ b ≠ X.env.locals ∧ (∀ x c, X.env.cells.lookup x = some c → c ≠ b) ∧ ∀ p ∈ X.pn ++ pins, p.1 ≠ b) :
    Inv X pins σ H' { s with heap := h', gens := g', drawn := d', toks := t' } := by
  obtain ⟨m, ⟨o, es, ep, ho, r⟩, _⟩ := id I.loc
  obtain ⟨sl, hL⟩ := u.any ho I.free fun z => (hch _ z).2.1 rfl
  exact I.step (ch := ch) hch (fun b o hL hb hc e n => u.keep b o e n (fun z => (List.mem_cons.mp (I.stkSub b z)).elim hL hb) hc) (fun b o _ _ hc e n => u.any e n hc) (fun b o hc e n => u.free b o e n hc) (fun b o hc e => u.there b o e hc) u.tups u.frzs u.tbls (fun m' hm => by
    obtain ⟨o', es', ep', ho', r'⟩ := hm
    rw [ho] at ho'; cases ho'
    exact ⟨_, es', ep', hL, r'⟩) hok hg
theorem Inv.turned {t' : Nat} {it : Addr} (I : Inv X pins σ H s) (k : ∀ b o, b ≠ it → s.heap.get? b = some o → h'.get? b = some o) (hn : H it = none) (hL : it ≠ X.env.locals)
    (h1 : it ∈ X.ex ∨ X.s₀.heap.objs.size ≤ it) (h2 : ∀ x c, X.env.cells.lookup x = some c → c ≠ it) (h3 : ∀ p ∈ X.pn ++ pins, p.1 ≠ it) : Inv X pins σ H { s with heap := h', toks := t' } := by
  have nit : ∀ b u, H b = some u → b ≠ it := fun b u e z => by rw [z, hn] at e; cases e
  refine I.step (g' := s.gens) (d' := s.drawn) (ch := [it]) (fun b hb => ?_) (fun b o _ _ hc e _ => k b o (fun z => hc (by simp [z])) e) (fun b o _ _ hc e _ => ⟨o.slots, k b o (fun z => hc (by simp [z])) e⟩) (fun _ _ _ _ n => n)
    (fun b o hc e => ⟨o, k b o (fun z => hc (by simp [z])) e⟩) (fun _ _ e => e) (fun _ _ _ e => e) (fun b ps e => ⟨#[], by rw [e]; simp⟩) (fun m hm => ?_) (fun b u e => ?_) I.bare
  · have e : b = it := by simpa using hb
    subst e
    exact ⟨h1, hL, h2, h3⟩
  · obtain ⟨o, es, ep, ho, r⟩ := hm
    exact ⟨o, es, ep, k _ o (Ne.symm hL) ho, r⟩
  · refine (I.hok b u e).stay (fun c v hc q => k c v ?_ q) (fun _ q => q) fun _ _ q => q
    rcases hc with z | z
    · rw [z]; exact nit b u e
    · exact nit c _ z
theorem Inv.tok (I : Inv X pins σ H s) (t : Nat) : Inv X pins σ H { s with toks := t } := I.un (h' := s.heap) (t' := t) Un.refl I.hok
theorem Inv.kept {t' : Nat} (I : Inv X pins σ H s) (k : ∀ b u, s.heap.get? b = some u → h'.get? b = some u) : Inv X pins σ H { s with heap := h', toks := t' } := I.un (Un.kept k) (I.hok.kept k)
theorem Inv.laid {a : Addr} {o : HO} {t' : Nat} (I : Inv X pins σ H s) (k : ∀ b u, s.heap.get? b = some u → h'.get? b = some u) (hp : s.heap.objs.size ≤ a) (new : ObjOk X.prog X.w (upd H a o) h' a o) :
    Inv X pins σ (upd H a o) { s with heap := h', toks := t' } := I.un (Un.laid k hp (I.hok.fresh hp)) (I.hok.laid k hp new)
theorem Inv.write {x e : Addr} {o : HO} {t' : Nat} (I : Inv X pins σ H s) (mu : Mut (H x)) (he : e = x ∨ H e = some (.own x)) (k : ∀ b u, b ≠ e → s.heap.get? b = some u → h'.get? b = some u) (heo : ∃ u, h'.get? e = some u)
    (new : ObjOk X.prog X.w (upd H x o) h' x o) : Inv X pins σ (upd H x o) { s with heap := h', toks := t' } := I.un (Un.write mu he k heo) (I.hok.write mu he k heo new)
theorem Inv.pins_of {pins' : List (Addr × Obj)} (I : Inv X pins σ H s) (h : ∀ p ∈ pins', s.heap.get? p.1 = some p.2 ∧ H p.1 = none ∧ p.1 ≠ X.env.locals ∧ p.1 ∉ X.fs ∧ ∀ v, p.2.data ≠ .cell v) : Inv X pins' σ H s :=
  ⟨I.ok, I.os, I.bare, I.base, I.loc, I.cell, I.free, I.freeC, fun p hp => (List.mem_append.mp hp).elim (fun z => I.pin p (List.mem_append_left _ z)) (h p), I.hok, I.len⟩
theorem nodup_ix {N : List Str} (hN : N.Nodup) {i j : Nat} {x : Str} (a : N[i]? = some x) (b : N[j]? = some x) : i = j := by
  obtain ⟨h1, e1⟩ := List.getElem?_eq_some_iff.mp a
  obtain ⟨h2, e2⟩ := List.getElem?_eq_some_iff.mp b
  exact (List.getElem_inj hN).mp (e1.trans e2.symm)
theorem store_ok2 {M : Model} {A : Around} {E : Value → Shared → Prop} {i : Nat} {x : Str} {v : V} {u : Value} {Q : Unit → Shared → Prop} (I : Inv X pins σ H s) (hN : X.N.Nodup) (hi : X.N[i]? = some x) (hx : Loc X.env.scope x) (r : RelV v u)
    (h : ∀ s', Inv X pins (σ.set i (some v)) H s' → (∃ a, Heap.SameBut a s.heap s'.heap ∧ (a = X.env.locals ∨ X.env.cells.lookup x = some a)) → Q () s') (hf : X.fn x = true ∨ X.env.scope.names.lookup x = some .local := by first | exact .inl rfl | exact .inr rfl | assumption) : wpAny M A (storeName X.env x u) Q E s := by
  obtain ⟨m, hn, hl⟩ := id I.loc
  have hcls : (X.env.scope.kind == .class || (X.env.scope.kind == .module && X.env.locals != X.env.globals)) = false := by rw [I.ok.kind]; rfl
  have hiσ : i < σ.length := by rw [I.len]; exact (List.getElem?_eq_some_iff.mp hi).1
  have cne := I.cne
  have tracked : ∀ {a : Addr} {h' : Heap}, (∃ o, s.heap.get? a = some o ∧ H a = none) → Heap.SameBut a s.heap h' → HOk X.prog X.w H h' := fun {a h'} ha hs b ob e => by
    obtain ⟨_, _, hfree⟩ := ha
    refine (I.hok b ob e).stay (fun c w' hc q => (hs.2 c ?_).trans q) (fun _ q => q) fun _ _ q => q
    rintro rfl
    rcases hc with rfl | hc
    · rw [hfree] at e; cases e
    · rw [hfree] at hc; cases hc
  rcases hx with hk | hk
  · refine wpAny_storeName_local hk hn (fun h' hn' hs => ?_) hcls
    obtain ⟨oL, _, _, hoL, _⟩ := id hn
    refine h _ ⟨I.ok, I.os, I.bare, ⟨fun b o e n hb hx => ?_, fun b o e n hb hx => ?_, I.base.free, fun b o e hx => ?_, I.base.tups, I.base.frzs, I.base.tbls⟩, ⟨_, hn', fun j y v' e1 e2 e3 => ?_⟩, fun y c e => ?_, I.free, I.freeC, fun p hp => ?_, tracked ⟨oL, hoL, I.free⟩ hs, by simpa using I.len⟩ ⟨_, hs, .inl rfl⟩
    · exact (hs.2 b (Nat.ne_of_lt (Nat.lt_of_lt_of_le (Heap.lt_size e) I.ok.above))).trans (I.base.keep b o e n hb hx)
    · obtain ⟨sl, e1⟩ := I.base.slot b o e n hb hx
      exact ⟨sl, (hs.2 b (Nat.ne_of_lt (Nat.lt_of_lt_of_le (Heap.lt_size e) I.ok.above))).trans e1⟩
    · obtain ⟨o', e1⟩ := I.base.there b o e hx
      exact ⟨o', (hs.2 b (Nat.ne_of_lt (Nat.lt_of_lt_of_le (Heap.lt_size e) I.ok.above))).trans e1⟩
    · by_cases hj : j = i
      · subst hj
        rw [hi] at e1; cases e1
        rw [List.getElem?_set_self hiσ] at e2
        cases e2
        exact ⟨u, r, .inl ⟨hk, by simp⟩⟩
      · rw [List.getElem?_set_ne (Ne.symm hj)] at e2
        obtain ⟨u', r', q⟩ := hl j y v' e1 e2 e3
        refine ⟨u', r', ?_⟩
        rcases q with ⟨k, e⟩ | ⟨k, c, e, z⟩
        · refine .inl ⟨k, ?_⟩
          have : y ≠ x := fun e => hj (nodup_ix hN e1 (e ▸ hi))
          simp [this, e]
        · exact .inr ⟨k, c, e, z.sameBut hs (cne y c e)⟩
    · obtain ⟨w', z⟩ := I.cell y c e
      exact ⟨w', z.sameBut hs (cne y c e)⟩
    · obtain ⟨e, n, ne, nf, d⟩ := I.pin p hp
      exact ⟨(hs.2 p.1 ne).trans e, n, ne, nf, d⟩
  · have hfn : X.fn x = true := by
      rcases hf with z | z
      · exact z
      · rw [z] at hk; cases hk
    obtain ⟨c, hc⟩ := I.ok.has x (.inl hk)
    obtain ⟨w', z⟩ := I.cell x c hc
    refine wpAny_storeName_cell I.ok.kind hk hc z (fun h' hc' hs => ?_)
    obtain ⟨oc, hoc, hocd⟩ := id z
    refine h { s with heap := h' } ⟨I.ok, I.os, I.bare, ⟨fun b o e n hb hx => ?_, fun b o e n hb hx => ?_, I.base.free, fun b o e hx => ?_, I.base.tups, I.base.frzs, I.base.tbls⟩, ⟨m, hn.sameBut hs (Ne.symm (cne x c hc)), fun j y v' e1 e2 e3 => ?_⟩, fun y c' e => ?_, I.free, I.freeC, fun p hp => ?_, tracked ⟨oc, hoc, I.freeC x c hc⟩ hs, by simpa using I.len⟩ ⟨c, hs, .inr hc⟩
    · exact (hs.2 b (Nat.ne_of_lt (Nat.lt_of_lt_of_le (Heap.lt_size e) (I.ok.cab x c hfn hc)))).trans (I.base.keep b o e n hb hx)
    · obtain ⟨sl, e1⟩ := I.base.slot b o e n hb hx
      exact ⟨sl, (hs.2 b (Nat.ne_of_lt (Nat.lt_of_lt_of_le (Heap.lt_size e) (I.ok.cab x c hfn hc)))).trans e1⟩
    · obtain ⟨o', e1⟩ := I.base.there b o e hx
      exact ⟨o', (hs.2 b (Nat.ne_of_lt (Nat.lt_of_lt_of_le (Heap.lt_size e) (I.ok.cab x c hfn hc)))).trans e1⟩
    · by_cases hj : j = i
      · subst hj
        rw [hi] at e1; cases e1
        rw [List.getElem?_set_self hiσ] at e2
        cases e2
        exact ⟨u, r, .inr ⟨.inl hk, c, hc, hc'⟩⟩
      · rw [List.getElem?_set_ne (Ne.symm hj)] at e2
        obtain ⟨u', r', q⟩ := hl j y v' e1 e2 e3
        refine ⟨u', r', ?_⟩
        rcases q with q | ⟨k, c', e, z'⟩
        · exact .inl q
        · refine .inr ⟨k, c', e, z'.sameBut hs ?_⟩
          rintro rfl
          exact hj (nodup_ix hN e1 (I.ok.inj _ _ _ e hc ▸ hi))
    · by_cases hcc : c' = c
      · subst hcc; exact ⟨_, hc'⟩
      · obtain ⟨w2, z2⟩ := I.cell y c' e
        exact ⟨w2, z2.sameBut hs hcc⟩
    · obtain ⟨e, n, ne, nf, d⟩ := I.pin p hp
      refine ⟨(hs.2 p.1 ?_).trans e, n, ne, nf, d⟩
      intro q
      rw [q, hoc] at e
      have q' : oc = p.2 := Option.some.inj e
      exact d w' (by rw [← q']; exact hocd)
theorem store_ok {M : Model} {A : Around} {E : Value → Shared → Prop} {i : Nat} {x : Str} {v : V} {u : Value} {Q : Unit → Shared → Prop} (I : Inv X pins σ H s) (hN : X.N.Nodup) (hi : X.N[i]? = some x) (hx : Loc X.env.scope x) (r : RelV v u)
    (h : ∀ s', Inv X pins (σ.set i (some v)) H s' → Q () s') (hf : X.fn x = true ∨ X.env.scope.names.lookup x = some .local := by first | exact .inl rfl | exact .inr rfl | assumption) : wpAny M A (storeName X.env x u) Q E s :=
  store_ok2 I hN hi hx r (fun s' I' _ => h s' I') hf
theorem Inv.call' {s' : Shared} {ch : List Addr} (I : Inv X pins σ H s) (ho : s'.os = s.os) (u : Un (frs X.stack) ch H H' s.heap s'.heap) (hok : HOk X.prog X.w H' s'.heap) (hg : AllBare s'.gens)
    (hch : ∀ b ∈ ch, (b ∈ X.ex ∨ X.s₀.heap.objs.size ≤ b) ∧ b ≠ X.env.locals ∧ (∀ x c, X.env.cells.lookup x = some c → c ≠ b) ∧ ∀ p ∈ X.pn ++ pins, p.1 ≠ b) : Inv X pins σ H' s' := by
  obtain ⟨h', g', d', t', o'⟩ := s'
  have e : o' = s.os := ho
  subst e
  exact I.call (g' := g') (t' := t') (d' := d') u hok hg hch
end
abbrev XK := Value → Option Addr → Hp → Prop
abbrev St := List (Option V)
abbrev VK := V → Hp → Prop
abbrev TE := St → Hp → VK → Prop
abbrev TT := St → Hp → (Bool → Hp → Prop) → Prop
abbrev TA := St → Hp → (List V → Hp → Prop) → Prop
structure Ends where
  nx : St → Hp → Prop
  rt : VK
  bk : St → Hp → Prop := fun _ _ => False
  ct : St → Hp → Prop := fun _ _ => False
abbrev TS := Ends → St → Hp → Prop
def EP (X : Cx) (pins : List (Addr × Obj)) (σ : St) (Q : VK) (u : Value) (s' : Shared) : Prop := ∃ v H', Inv X pins σ H' s' ∧ RelV v u ∧ Q v H'
def TP (X : Cx) (pins : List (Addr × Obj)) (σ : St) (Q : Bool → Hp → Prop) (b : Bool) (s' : Shared) : Prop := ∃ H', Inv X pins σ H' s' ∧ Q b H'
def AP (X : Cx) (pins : List (Addr × Obj)) (σ : St) (Q : List V → Hp → Prop) (us : List Value) (s' : Shared) : Prop := ∃ vs H', Inv X pins σ H' s' ∧ Vals vs us ∧ Q vs H'
def SP (X : Cx) (pins : List (Addr × Obj)) (D : Ends) (f : Flow) (s' : Shared) : Prop :=
  match f with
  | .next => ∃ σ' H', Inv X pins σ' H' s' ∧ D.nx σ' H'
  | .brk => ∃ σ' H', Inv X pins σ' H' s' ∧ D.bk σ' H'
  | .cont => ∃ σ' H', Inv X pins σ' H' s' ∧ D.ct σ' H'
  | .ret u => ∃ v σ' H', Inv X pins σ' H' s' ∧ RelV v u ∧ D.rt v H'
def PE (X : Cx) (e : Expr) (t : TE) : Prop :=
  ∀ (pins : List (Addr × Obj)) (s : Shared) (σ : St) (H : Hp) (Q : VK), Inv X pins σ H s → t σ H Q → wpAny (model X.prog X.w) X.A (eval e X.env) (EP X pins σ Q) X.xe s
def PT (X : Cx) (e : Expr) (t : TT) : Prop :=
  ∀ (pins : List (Addr × Obj)) (s : Shared) (σ : St) (H : Hp) (Q : Bool → Hp → Prop), Inv X pins σ H s → t σ H Q → wpAny (model X.prog X.w) X.A (isTrue e X.env (eval e X.env)) (TP X pins σ Q) X.xe s
def PW (X : Cx) (e : Expr) (t : TT) : Prop :=
  ∀ (whole : Sem Value) (pins : List (Addr × Obj)) (s : Shared) (σ : St) (H : Hp) (Q : Bool → Hp → Prop), Inv X pins σ H s → t σ H Q → wpAny (model X.prog X.w) X.A (isTrue e X.env whole) (TP X pins σ Q) X.xe s
theorem PW.pt {X : Cx} {e : Expr} {t : TT} (h : PW X e t) : PT X e t := h _
def PA (X : Cx) (es : List Expr) (t : TA) : Prop :=
  ∀ (pos : Pos) (pins : List (Addr × Obj)) (s : Shared) (σ : St) (H : Hp) (Q : List V → Hp → Prop), Inv X pins σ H s → t σ H Q → wpAny (model X.prog X.w) X.A (spliced (backTo pos (starEach es X.env))) (AP X pins σ Q) X.xe s
def PS (X : Cx) (st : Stmt) (t : TS) : Prop :=
  ∀ (pins : List (Addr × Obj)) (s : Shared) (σ : St) (H : Hp) (D : Ends), Inv X pins σ H s → t D σ H → wpAny (model X.prog X.w) X.A (exec st X.env) (SP X pins D) X.xe s
def PSs (X : Cx) (st : List Stmt) (t : TS) : Prop :=
  ∀ (pins : List (Addr × Obj)) (s : Shared) (σ : St) (H : Hp) (D : Ends), Inv X pins σ H s → t D σ H → wpAny (model X.prog X.w) X.A (execs st X.env) (SP X pins D) X.xe s
theorem thn {α : Type} {t : Sem α} {Q Q' : α → Shared → Prop} {M : Model} {A : Around} {E : Value → Shared → Prop} {s : Shared} (h : wpAny M A t Q E s) (hQ : ∀ a s, Q a s → Q' a s) : wpAny M A t Q' E s := wpAny_mono h hQ fun _ _ x => x
end L2
namespace L2
open PySem PySem.Spec PyProof.Rows
section
variable {X : Cx}
def tVar (i : Nat) : TE := fun σ H Q => ∃ v, σ[i]? = some (some v) ∧ Q v H
def tC (v : V) : TE := fun _ H Q => Q v H
theorem pe_var {i : Nat} {x : Str} {pos : Pos} (hN : X.N[i]? = some x) (hv : Vis X.env.scope x) (hd : (x == ("__debug__" : Str)) = false := by decide) (hcd : (x == ("__classdict__" : Str)) = false := by decide) : PE X (.Name x pos) (tVar i) := by
  intro pins s σ H Q I h
  obtain ⟨v, e, h⟩ := h
  obtain ⟨m, hn, hl⟩ := I.loc
  obtain ⟨u, r, l⟩ := hl i x v hN e hv
  have fin : EP X pins σ Q u s := ⟨v, H, I, r, h⟩
  rcases l with ⟨hk, hm⟩ | ⟨hk, c, hc, hcell⟩
  · exact wpAny_Name (wpAny_loadName_local I.ok.kind hk hn hm fin) hd
  · rcases hk with hk | hk
    · exact wpAny_Name (wpAny_loadName_cell I.ok.kind hk hc hcell fin) hd
    · exact wpAny_Name (wpAny_loadName_free I.ok.kind hk hc hcell fin hcd) hd
theorem pe_int {i j pos} : PE X (.Constant (.int i) j pos) (tC (.int i)) := fun _ _ _ H _ I h => wpAny_Constant_int ⟨.int i, H, I.tok _, ⟨_, rfl⟩, h⟩
theorem pe_bl {b j pos} : PE X (.Constant (.bool b) j pos) (tC (.bl b)) := fun _ _ _ H _ I h => Constant_bool ⟨.bl b, H, I, rfl, h⟩
theorem pe_non {j pos} : PE X (.Constant .none j pos) (tC .non) := fun _ _ _ H _ I h => Constant_none ⟨.non, H, I, rfl, h⟩
theorem pe_str {x j pos} : PE X (.Constant (.str x) j pos) (tC (.str x)) := fun _ _ _ H _ I h => Calls.Constant_str ⟨.str x, H, I.tok _, ⟨_, rfl⟩, h⟩
def Gl (X : Cx) (x : Str) : Prop := X.env.kindOf x = some .globalImplicit
theorem ld_glob {E : Value → Shared → Prop} {pins : List (Addr × Obj)} {s : Shared} {σ : St} {H : Hp} {x : Str} {u : Value} {pos : Pos} {Q : Value → Shared → Prop} (I : Inv X pins σ H s) (hg : Gl X x) (hm : X.mg x = some u) (h : Q u s)
    (hd : (x == ("__debug__" : Str)) = false := by decide) : wpAny (model X.prog X.w) X.A (eval (.Name x pos) X.env) Q E s :=
  Calls.Name_function_global I.ok.kind hg (Calls.loadGlobal_global (by rw [I.ok.glob]; exact I.mod.glob.keeps I.bk) hm h) hd
theorem ld_blt {E : Value → Shared → Prop} {pins : List (Addr × Obj)} {s : Shared} {σ : St} {H : Hp} {x : Str} {u : Value} {pos : Pos} {Q : Value → Shared → Prop} (I : Inv X pins σ H s) (hg : Gl X x) (hm : X.mg x = none) (hv : bootBuiltins x = some u) (h : Q u s)
    (hn : x ≠ "__name__" := by decide) (hd : (x == ("__debug__" : Str)) = false := by decide) : wpAny (model X.prog X.w) X.A (eval (.Name x pos) X.env) Q E s := by
  obtain ⟨mb, h1, h2⟩ := I.mod.blt
  exact Calls.Name_function_global I.ok.kind hg (Calls.loadGlobal_builtin (by rw [I.ok.glob]; exact I.mod.glob.keeps I.bk) hm (by rw [I.ok.blt]; exact h1.keeps I.bk) ((h2 x hn).trans hv) h) hd
theorem pe_glob {x : Str} {v : V} {u : Value} {pos : Pos} (hg : Gl X x) (hm : X.mg x = some u) (r : RelV v u) (hd : (x == ("__debug__" : Str)) = false := by decide) : PE X (.Name x pos) (tC v) :=
  fun _ _ _ H _ I h => ld_glob I hg hm ⟨v, H, I, r, h⟩ hd
theorem pe_bltn {x : Str} {v : V} {u : Value} {pos : Pos} (hg : Gl X x) (hm : X.mg x = none) (hv : bootBuiltins x = some u) (r : RelV v u) (hn : x ≠ "__name__" := by decide) (hd : (x == ("__debug__" : Str)) = false := by decide) : PE X (.Name x pos) (tC v) :=
  fun _ _ _ H _ I h => ld_blt I hg hm hv ⟨v, H, I, r, h⟩ hn hd
variable {a b : Expr} {ta tb : TE} {pos : Pos}
def PC (X : Cx) (op : CmpOp) (a b : Expr) (t : TE) : Prop :=
  ∀ (pins : List (Addr × Obj)) (s : Shared) (σ : St) (H : Hp) (Q : VK), Inv X pins σ H s → t σ H Q →
    wpAny (model X.prog X.w) X.A (eval a X.env) (fun v s₁ => wpAny (model X.prog X.w) X.A (eval b X.env) (fun u s₂ => wpAny (model X.prog X.w) X.A (compareOp op v u) (EP X pins σ Q) X.xe s₂) X.xe s₁) X.xe s
def tB (t : TE) : TT := fun σ H Q => t σ H fun x H1 => ∃ c, x = .bl c ∧ Q c H1
theorem pe_cmp {op : CmpOp} {t : TE} (h : PC X op a b t) (h1 : behindInMarks op b = false := by first | exact nobehind _ (by decide) (by decide) | rfl) : PE X (.Compare a [op] [b] pos) t := fun pins s σ H Q I hw => wpAny_Compare1 (h pins s σ H Q I hw) h1
theorem pt_cmp {op : CmpOp} {t : TE} (h : PC X op a b t) (h1 : behindInMarks op b = false := by first | exact nobehind _ (by decide) (by decide) | rfl) : PT X (.Compare a [op] [b] pos) (tB t) := by
  intro pins s σ H Q I hw
  refine wpAny_isTrue_Compare1 (thn (h pins s σ H _ I hw) fun v s1 h1 => thn h1 fun u s2 h2 => thn h2 fun c s3 ⟨x, H1, I1, r1, q1⟩ => ?_) h1
  obtain ⟨d, rfl, q⟩ := q1
  cases r1
  exact wpAny_truthy_bool ⟨H1, I1, q⟩
theorem pt_val {e : Expr} {t : TE} (h : PE X e t) (he : ∀ whole, isTrue e X.env whole = (do let v ← whole; standAt e.pos; holding [v] (truthy v)) := by intro _; rfl) : PT X e (tB t) := by
  intro pins s σ H Q I hw
  refine isTrue_plain (thn (h pins s σ H _ I hw) fun v s1 ⟨x, H1, I1, r1, q1⟩ => ?_) (he _)
  obtain ⟨d, rfl, q⟩ := q1
  cases r1
  exact wpAny_truthy_bool ⟨H1, I1, q⟩
variable {tA tB' : TT} {rest : List Expr}
def tAnd (t u : TT) : TT := fun σ H Q => t σ H fun c H1 => if c = true then u σ H1 Q else Q false H1
def tOr (t u : TT) : TT := fun σ H Q => t σ H fun c H1 => if c = true then Q true H1 else u σ H1 Q
def tNot (t : TT) : TT := fun σ H Q => t σ H fun c H1 => Q (!c) H1
theorem pw_and1 (ha : PT X a tA) : PW X (.BoolOp .And [a] pos) tA := by
  intro wh pins s σ H Q I h
  refine isTrue_and (thn (ha pins s σ H Q I h) fun c s1 e => ?_)
  cases c with
  | true => exact isTrue_and_nil e
  | false => exact e
theorem pw_or1 (ha : PT X a tA) : PW X (.BoolOp .Or [a] pos) tA := by
  intro wh pins s σ H Q I h
  refine isTrue_or (thn (ha pins s σ H Q I h) fun c s1 e => ?_)
  cases c with
  | false => exact isTrue_or_nil e
  | true => exact e
theorem pw_and (ha : PT X a tA) (hb : PW X (.BoolOp .And (b :: rest) pos) tB') : PW X (.BoolOp .And (a :: b :: rest) pos) (tAnd tA tB') := by
  intro wh pins s σ H Q I h
  refine isTrue_and (thn (ha pins s σ H _ I h) fun c s1 ⟨H1, I1, q1⟩ => ?_)
  cases c with
  | true => exact hb wh pins s1 σ H1 Q I1 q1
  | false => exact ⟨H1, I1, q1⟩
theorem pw_or (ha : PT X a tA) (hb : PW X (.BoolOp .Or (b :: rest) pos) tB') : PW X (.BoolOp .Or (a :: b :: rest) pos) (tOr tA tB') := by
  intro wh pins s σ H Q I h
  refine isTrue_or (thn (ha pins s σ H _ I h) fun c s1 ⟨H1, I1, q1⟩ => ?_)
  cases c with
  | true => exact ⟨H1, I1, q1⟩
  | false => exact hb wh pins s1 σ H1 Q I1 q1
theorem pt_not (ha : PT X a tA) : PT X (.UnaryOp .Not a pos) (tNot tA) := by
  intro pins s σ H Q I h
  exact isTrue_not (ha pins s σ H (fun c H1 => Q (!c) H1) I h)
def tAndV (ta tb : TE) : TE := fun σ H Q => ta σ H fun x H1 => ∃ c, x = .bl c ∧ if c = true then tb σ H1 Q else Q (.bl false) H1
theorem pe_one {op} {t : TE} (h : PE X a t) : PE X (.BoolOp op [a] pos) t := fun pins s σ H Q I hw => BoolOp_one (h pins s σ H Q I hw)
theorem pe_and (ha : PE X a ta) (hb : PE X (.BoolOp .And (b :: rest) pos) tb) : PE X (.BoolOp .And (a :: b :: rest) pos) (tAndV ta tb) := by
  intro pins s σ H Q I h
  refine BoolOp_and (thn (ha pins s σ H _ I h) fun v s1 ⟨x, H1, I1, r1, q1⟩ => ?_)
  obtain ⟨c, rfl, q1⟩ := q1
  cases r1
  refine wpAny_truthy_bool ?_
  cases c with
  | true => exact hb pins s1 σ H1 Q I1 q1
  | false => exact ⟨.bl false, H1, I1, rfl, q1⟩
end
end L2
namespace L2
open PySem PySem.Spec PyProof.Rows
def SqL (K : PySem.W.Frag) (H : Hp) (a : Addr) (xs : List V) : Prop :=
  Rd H a (.lst xs) ∨
    ∃ (o : Obj) (its : Array Value) (n : Nat), K.lookup a = some o ∧ o.cls = .type "list" ∧ o.dict = none ∧ o.data = .seq its n ∧ its.size ≤ sizeLine ∧ Vals xs its.toList
def SqT (K : PySem.W.Frag) (H : Hp) (a : Addr) (xs : List V) : Prop :=
  Rd H a (.tup xs) ∨
    ∃ (o : Obj) (its : Array Value) (n : Nat), K.lookup a = some o ∧ o.cls = .type "tuple" ∧ o.data = .seq its n ∧ its.size ≤ sizeLine ∧ Vals xs its.toList
def absV : Value → Option V
  | .none => some .non
  | .bool b => some (.bl b)
  | .int i _ => some (.int i)
  | .str x _ => some (.str x)
  | .bytes b _ => some (.byt b)
  | .float b _ => some (.flt b)
  | .ref a => some (.ref a)
  | .type n => some (.ty n)
  | _ => none
theorem RelV.abs {x : V} {u : Value} (r : RelV x u) : absV u = some x := by
  cases x with
  | non => cases r; rfl
  | bl _ => cases r; rfl
  | int _ => obtain ⟨t, rfl⟩ := r; rfl
  | str _ => obtain ⟨t, rfl⟩ := r; rfl
  | byt _ => obtain ⟨t, rfl⟩ := r; rfl
  | flt _ => obtain ⟨t, rfl⟩ := r; rfl
  | ref _ => cases r; rfl
  | ty _ => cases r; rfl
theorem RelV.inj {x y : V} {u : Value} (r : RelV x u) (q : RelV y u) : x = y := Option.some.inj (r.abs.symm.trans q.abs)
theorem Vals.inj : ∀ {xs ys : List V} {us : List Value}, Vals xs us → Vals ys us → xs = ys
  | _, _, _, .nil, .nil => rfl
  | _, _, _, .cons r t, .cons r' t' => by rw [r.inj r', Vals.inj t t']
section
variable {X : Cx} {pins : List (Addr × Obj)} {σ : St} {H : Hp} {s : Shared} {a : Addr} {xs ys : List V}
theorem SqL.of {K : PySem.W.Frag} (h : H a = some (.lst xs)) : SqL K H a xs := .inl (.inl h)
theorem SqT.of {K : PySem.W.Frag} (h : H a = some (.tup xs)) : SqT K H a xs := .inl (.inl h)
theorem Inv.list (I : Inv X pins σ H s) (h : SqL X.K H a xs) : ∃ its : List Value, Vals xs its ∧ PlainL s.heap a its.toArray ∧ xs.length ≤ sizeLine := by
  rcases h with h | ⟨o, its, n, hk, hc, hd, hs, hz, r⟩
  · obtain ⟨z, its, n, r, e⟩ := h.ok I.hok
    exact ⟨its, r, ⟨_, n, e, rfl, rfl, rfl⟩, z⟩
  · refine ⟨its.toList, r, ⟨o, n, I.kIn a o hk, hc, hd, by simpa using hs⟩, ?_⟩
    have e := r.length
    simp only [Array.length_toList] at e
    omega
theorem Inv.tuple (I : Inv X pins σ H s) (h : SqT X.K H a xs) : ∃ its : List Value, Vals xs its ∧ IsTup s.heap a its.toArray ∧ xs.length ≤ sizeLine := by
  rcases h with h | ⟨o, its, n, hk, hc, hs, hz, r⟩
  · obtain ⟨z, its, r, p⟩ := h.ok I.hok
    exact ⟨its, r, p, z.1⟩
  · refine ⟨its.toList, r, ⟨o, I.kIn a o hk, hc, n, by simpa using hs⟩, ?_⟩
    have e := r.length
    simp only [Array.length_toList] at e
    omega
theorem Inv.list_inj (I : Inv X pins σ H s) (h : SqL X.K H a xs) (h' : SqL X.K H a ys) : xs = ys := by
  obtain ⟨its, r, ⟨o, n, e, _, _, d⟩, _⟩ := I.list h
  obtain ⟨its', r', ⟨o', n', e', _, _, d'⟩, _⟩ := I.list h'
  rw [e] at e'; cases e'
  rw [d] at d'
  injection d' with d1 _
  have : its = its' := by simpa using congrArg Array.toList d1
  subst this
  exact r.inj r'
theorem Inv.tuple_inj (I : Inv X pins σ H s) (h : SqT X.K H a xs) (h' : SqT X.K H a ys) : xs = ys := by
  obtain ⟨its, r, ⟨o, e, _, n, d⟩, _⟩ := I.tuple h
  obtain ⟨its', r', ⟨o', e', _, n', d'⟩, _⟩ := I.tuple h'
  rw [e] at e'; cases e'
  rw [d] at d'
  injection d' with d1 _
  have : its = its' := by simpa using congrArg Array.toList d1
  subst this
  exact r.inj r'
end
abbrev Cx.wish (X : Cx) (E : Value → Shared → Prop) : Cx := { X with xe := E }
abbrev Cx.nox (X : Cx) : Cx := X.wish fun _ _ => False
theorem Cx.Ok.wish {X : Cx} (ok : X.Ok) (E : Value → Shared → Prop) : (X.wish E).Ok :=
  ⟨ok.mod, ok.kind, ok.glob, ok.blt, ok.above, ok.inj, ok.has, ok.cab, ok.hd, ok.frames, ok.stk, ok.exf, ok.bs, ok.bsz, ok.noex, ok.exfs, ok.funs, ok.frf⟩
theorem Cx.Ok.unwish {X : Cx} {E : Value → Shared → Prop} (ok : (X.wish E).Ok) : X.Ok :=
  ⟨ok.mod, ok.kind, ok.glob, ok.blt, ok.above, ok.inj, ok.has, ok.cab, ok.hd, ok.frames, ok.stk, ok.exf, ok.bs, ok.bsz, ok.noex, ok.exfs, ok.funs, ok.frf⟩
section
variable {X : Cx} {pins : List (Addr × Obj)} {σ : St} {H : Hp} {s : Shared} {E : Value → Shared → Prop}
theorem Inv.wish (I : Inv X pins σ H s) (E : Value → Shared → Prop) : Inv (X.wish E) pins σ H s := ⟨I.ok.wish E, I.os, I.bare, I.base, I.loc, I.cell, I.free, I.freeC, I.pin, I.hok, I.len⟩
theorem Inv.unwish (I : Inv (X.wish E) pins σ H s) : Inv X pins σ H s := ⟨I.ok.unwish, I.os, I.bare, I.base, I.loc, I.cell, I.free, I.freeC, I.pin, I.hok, I.len⟩
theorem SP.unwish {D : Ends} {f : Flow} {s' : Shared} (h : SP (X.wish E) pins D f s') : SP X pins D f s' := by
  cases f with
  | next => obtain ⟨σ', H', I, q⟩ := h; exact ⟨σ', H', I.unwish, q⟩
  | brk => obtain ⟨σ', H', I, q⟩ := h; exact ⟨σ', H', I.unwish, q⟩
  | cont => obtain ⟨σ', H', I, q⟩ := h; exact ⟨σ', H', I.unwish, q⟩
  | ret u => obtain ⟨v, σ', H', I, r, q⟩ := h; exact ⟨v, σ', H', I.unwish, r, q⟩
theorem PSs.nox {st : List Stmt} {t : TS} (h : PSs X.nox st t) : PSs X st t := fun pins s σ H D I hw =>
  wpAny_mono (h pins s σ H D (I.wish _) hw) (fun _ _ q => q.unwish) fun _ _ z => False.elim z
end
section
variable {X : Cx} {st : Stmt} {rest : List Stmt} {t u : TS} {e : Expr} {te : TE} {pos : Pos}
def tNext : TS := fun D σ H => D.nx σ H
def tSeq (t u : TS) : TS := fun D σ H => t { D with nx := u D } σ H
theorem pss_nil : PSs X [] tNext := fun _ _ σ H _ I h => wpAny_execs_nil ⟨σ, H, I, h⟩
theorem pss_cons (h1 : PS X st t) (h2 : PSs X rest u) : PSs X (st :: rest) (tSeq t u) := by
  intro pins s σ H D I h
  refine wpAny_execs_cons (thn (h1 pins s σ H { D with nx := u D } I h) fun f s1 q => ?_)
  cases f with
  | next =>
    obtain ⟨σ', H', I', q⟩ := q
    exact h2 pins s1 σ' H' D I' q
  | ret v => exact q
  | brk => exact q
  | cont => exact q
theorem pss_one (h1 : PS X st t) : PSs X [st] t := by
  intro pins s σ H D I h
  refine wpAny_execs_cons (thn (h1 pins s σ H D I h) fun f s1 q => ?_)
  cases f with
  | next => exact wpAny_execs_nil q
  | ret v => exact q
  | brk => exact q
  | cont => exact q
theorem Inv.quiet {pins : List (Addr × Obj)} {σ : St} {H : Hp} {s : Shared} (I : Inv X pins σ H s) : interactive X.env = false := by simp [interactive, I.ok.kind]
def tDrop (te : TE) : TS := fun D σ H => te σ H fun _ H1 => D.nx σ H1
theorem ps_expr (he : PE X e te) (hs : swapsWith e none pos.line X.env = pure false := by rfl) : PS X (.Expr e pos) (tDrop te) := by
  intro pins s σ H D I h
  exact wpAny_Expr_any (thn (he pins s σ H _ I h) fun v s1 ⟨x, H1, I1, r1, q1⟩ => ⟨σ, H1, I1, q1⟩) I.quiet hs
def tRet (te : TE) : TS := fun D σ H => te σ H D.rt
theorem ps_ret (he : PE X e te) : PS X (.Return (some e) pos) (tRet te) := by
  intro pins s σ H D I h
  exact wpAny_Return_some (thn (he pins s σ H _ I h) fun v s1 ⟨x, H1, I1, r1, q1⟩ => ⟨x, σ, H1, I1, r1, q1⟩)
def tIfS (c : TT) (t u : TS) : TS := fun D σ H => c σ H fun b H1 => if b = true then t D σ H1 else u D σ H1
theorem ps_if {c : Expr} {a b : List Stmt} {tc : TT} (hc : PT X c tc) (ha : PSs X a t) (hb : PSs X b u) : PS X (.If c a b pos) (tIfS tc t u) := by
  intro pins s σ H D I h
  refine wpAny_If (thn (hc pins s σ H _ I h) fun d s1 ⟨H1, I1, q1⟩ => ?_)
  cases d with
  | true => exact ha pins s1 σ H1 D I1 q1
  | false => exact hb pins s1 σ H1 D I1 q1
end
abbrev TG := V → St → Hp → (St → Hp → Prop) → Prop
abbrev TGs := List V → St → Hp → (St → Hp → Prop) → Prop
def PG (X : Cx) (target : Expr) (t : TG) : Prop :=
  ∀ (pins : List (Addr × Obj)) (s : Shared) (σ : St) (H : Hp) (v : V) (u : Value) (Q : St → Hp → Prop), Inv X pins σ H s → RelV v u → t v σ H Q →
    wpAny (model X.prog X.w) X.A (assign target X.env u) (fun _ s' => ∃ σ' H', Inv X pins σ' H' s' ∧ Q σ' H') X.xe s
def PGs (X : Cx) (ts : List Expr) (t : TGs) : Prop :=
  ∀ (pins : List (Addr × Obj)) (s : Shared) (σ : St) (H : Hp) (vs : List V) (us : List Value) (Q : St → Hp → Prop), Inv X pins σ H s → Vals vs us → t vs σ H Q →
    wpAny (model X.prog X.w) X.A (assignInOrder ((assignEach ts X.env).map (·.2)) us) (fun _ s' => ∃ σ' H', Inv X pins σ' H' s' ∧ Q σ' H') X.xe s
abbrev TSet := V → V → V → Hp → (Hp → Prop) → Prop
def PSet (X : Cx) (t : TSet) : Prop :=
  ∀ (pins : List (Addr × Obj)) (s : Shared) (σ : St) (H : Hp) (o i v : V) (ov iv u : Value) (Q : Hp → Prop), Inv X pins σ H s → RelV o ov → RelV i iv → RelV v u → t o i v H Q →
    wpAny (model X.prog X.w) X.A (setItem ov iv u) (fun _ s' => ∃ H', Inv X pins σ H' s' ∧ Q H') X.xe s
section
variable {X : Cx} {pos : Pos}
def gName (i : Nat) : TG := fun v σ H Q => Q (σ.set i (some v)) H
theorem pg_name {i : Nat} {x : Str} (hN : X.N.Nodup) (hi : X.N[i]? = some x) (hx : Loc X.env.scope x) (hf : X.fn x = true ∨ X.env.scope.names.lookup x = some .local := by first | exact .inl rfl | exact .inr rfl | assumption) : PG X (.Name x pos) (gName i) := by
  intro pins s σ H v u Q I r h
  exact wpAny_assign_Name (store_ok I hN hi hx r (fun s' I' => ⟨_, H, I', h⟩) hf)
def gNil : TGs := fun vs σ H Q => vs = [] ∧ Q σ H
def gCons (t : TG) (u : TGs) : TGs := fun vs σ H Q => ∃ v r, vs = v :: r ∧ t v σ H fun σ' H' => u r σ' H' Q
theorem pgs_nil : PGs X [] gNil := by
  intro pins s σ H vs us Q I r h
  obtain ⟨e, h⟩ := h
  subst e
  cases r
  exact assignInOrder_nil ⟨σ, H, I, h⟩
theorem pgs_cons {e : Expr} {es : List Expr} {t : TG} {u : TGs} (h1 : PG X e t) (h2 : PGs X es u)
    (hs : (assignEach (e :: es) X.env).map (·.2) = assign e X.env :: (assignEach es X.env).map (·.2) := by rfl) : PGs X (e :: es) (gCons t u) := by
  intro pins s σ H vs us Q I r h
  obtain ⟨v, vr, e1, h⟩ := h
  subst e1
  cases r with
  | cons r rr =>
    rw [hs]
    refine assignInOrder_cons (thn (h1 pins s σ H _ _ _ I r h) fun _ s1 ⟨σ1, H1, I1, q1⟩ => ?_)
    exact h2 pins s1 σ1 H1 _ _ Q I1 rr q1
def gTup (K : PySem.W.Frag) (n : Nat) (t : TGs) : TG := fun v σ H Q => ∃ a xs, v = .ref a ∧ SqT K H a xs ∧ xs.length = n ∧ t xs σ H Q
theorem pg_tup {es : List Expr} {k : Nat} {t : TGs} {n : Nat} (hc : X.calm = true) (h : PGs X es t)
    (hn : (assignEach es X.env).length = n := by rfl) (hst : (assignEach es X.env).findIdx? (·.1) = none := by rfl) : PG X (.Tuple es k pos) (gTup X.K n t) := by
  intro pins s σ H v u Q I r hw
  obtain ⟨a, xs, e1, hq, hl, hw⟩ := hw
  subst e1
  cases r
  obtain ⟨its, rv, ht, hz⟩ := I.tuple hq
  refine assign_Tuple_tuple (I.ok.hd hc) ht (by simp [hn, ← hl, rv.length]) hst fun h' hx => ?_
  have I1 : Inv X pins σ H { s with heap := h' } := I.kept (t' := s.toks) fun b o e => hx b o (Nat.ne_of_lt (Heap.lt_size e)) e
  exact h pins _ σ H xs _ Q I1 (by simpa using rv) hw
def gSub (to ti : TE) (t : TSet) : TG := fun v σ H Q => to σ H fun o H1 => ti σ H1 fun i H2 => t o i v H2 fun H3 => Q σ H3
theorem pg_sub {o i : Expr} {to ti : TE} {t : TSet} (ho : PE X o to) (hi : PE X i ti) (hs : PSet X t)
    (ha : ∀ v, assign (.Subscript o i pos) X.env v = (do
      let ov ← holding [v] (eval o X.env)
      let iv ← holding [v, ov] (eval i X.env)
      standAt pos
      holding [v, ov, iv] (setItem ov iv v)
      release [v, ov, iv] []) := by intro _; rfl) : PG X (.Subscript o i pos) (gSub to ti t) := by
  intro pins s σ H v u Q I r h
  rw [ha]
  refine wpAny_bind (wpAny_holding (thn (ho pins s σ H _ I h) fun ov s1 ⟨x, H1, I1, r1, q1⟩ => ?_))
  refine wpAny_bind (wpAny_holding (thn (hi pins s1 σ H1 _ I1 q1) fun iv s2 ⟨y, H2, I2, r2, q2⟩ => ?_))
  refine wpAny_bind (wpAny_standAt (wpAny_bind (wpAny_holding (thn (hs pins s2 σ H2 x y v ov iv u _ I2 r1 r2 r q2) fun _ s3 ⟨H3, I3, q3⟩ => ?_))))
  exact wpAny_release ⟨σ, H3, I3, q3⟩
def tAsg (te : TE) (g : TG) : TS := fun D σ H => te σ H fun x H1 => g x σ H1 D.nx
theorem ps_asg {tg e : Expr} {te : TE} {g : TG} (he : PE X e te) (hg : PG X tg g) (hs : swapsWithSole [tg] e pos.line X.env = pure false := by rfl) (hw : swappedStores [tg] e X.env = pure none := by rfl)
    (h1 : (assignEach [tg] X.env).map (·.2) = [assign tg X.env] := by rfl) : PS X (.Assign [tg] e pos) (tAsg te g) := by
  intro pins s σ H D I h
  refine wpAny_Assign_stores (thn (he pins s σ H _ I h) fun v s1 ⟨x, H1, I1, r1, q1⟩ => ?_) hs hw
  rw [h1]
  exact thn (hg pins s1 σ H1 x v _ I1 r1 q1) fun _ s2 q => q
theorem ps_set {i : Nat} {x : Str} {e : Expr} {te : TE} {pos' : Pos} (hN : X.N.Nodup) (hi : X.N[i]? = some x) (hx : Loc X.env.scope x) (he : PE X e te) (hs : swapsWith e (some (.Name x pos')) pos.line X.env = pure false := by rfl) (hf : X.fn x = true ∨ X.env.scope.names.lookup x = some .local := by first | exact .inl rfl | exact .inr rfl | assumption) :
    PS X (.Assign [.Name x pos'] e pos) (tAsg te (gName i)) := by
  intro pins s σ H D I h
  refine wpAny_Assign_Name (thn (he pins s σ H _ I h) fun v s1 ⟨y, H1, I1, r1, q1⟩ => ?_) hs
  exact store_ok I1 hN hi hx r1 (fun s2 I2 => ⟨_, H1, I2, q1⟩) hf
end
section
variable {X : Cx} {pos : Pos}
def tWhile (c : TT) (tb : TS) : TS := fun D σ H => ∃ W : Nat → St → Hp → Prop, (∃ m, W m σ H) ∧ ∀ m σ H, W m σ H →
  c σ H fun b H1 => if b = true then ∃ N : St → Hp → Prop, (∀ σ' H', N σ' H' → ∃ m', m' < m ∧ W m' σ' H') ∧ tb { D with nx := N, ct := N, bk := D.nx } σ H1 else D.nx σ H1
theorem ps_while {c : Expr} {body : List Stmt} {tc : TT} {tb : TS} (hp : PassesOwn (model X.prog X.w) X.A X.env X.xe) (hc : PT X c tc) (hb : PSs X body tb) : PS X (.While c body [] pos) (tWhile tc tb) := by
  intro pins s σ H D I h
  obtain ⟨W, ⟨m0, w0⟩, turn⟩ := h
  refine wpAny_While (codeAny_whileLoop (fun n s' => ∃ σ' H', Inv X pins σ' H' s' ∧ W n σ' H') ?_ m0 ⟨σ, H, I, w0⟩)
  rintro n s1 ⟨σ1, H1, I1, w1⟩
  refine wpAny_passesOwn hp (thn (hc pins s1 σ1 H1 _ I1 (turn n σ1 H1 w1)) fun b s2 ⟨H2, I2, q2⟩ => ?_)
  cases b with
  | true =>
    obtain ⟨N, hN, q2⟩ := q2
    rw [if_pos rfl]
    refine wpAny_passesOwn hp (thn (hb pins s2 σ1 H2 _ I2 q2) fun f s3 q3 => ?_)
    cases f with
    | next =>
      obtain ⟨σ3, H3, I3, n3⟩ := q3
      obtain ⟨m', hm, w3⟩ := hN σ3 H3 n3
      exact ⟨m', hm, σ3, H3, I3, w3⟩
    | cont =>
      obtain ⟨σ3, H3, I3, n3⟩ := q3
      obtain ⟨m', hm, w3⟩ := hN σ3 H3 n3
      exact ⟨m', hm, σ3, H3, I3, w3⟩
    | brk => exact q3
    | ret v => exact q3
  | false =>
    rw [if_neg Bool.false_ne_true]
    exact wpAny_execs_nil ⟨σ1, H2, I2, q2⟩
end
structure It where
  go : Nat → Hp → Prop
  yld : Nat → Hp → V → Hp → Prop
  stop : Nat → Hp → Prop
def FpOk (X : Cx) (pins : List (Addr × Obj)) (H : Hp) (b : Addr) : Prop :=
  H b = none ∧ b ≠ X.env.locals ∧ b ∉ X.fs ∧ (b ∈ X.ex ∨ X.s₀.heap.objs.size ≤ b) ∧ (∀ x c, X.env.cells.lookup x = some c → c ≠ b) ∧ ∀ p ∈ X.pn ++ pins, p.1 ≠ b
theorem Inv.fpOk {X : Cx} {pins : List (Addr × Obj)} {σ : St} {H H' : Hp} {s : Shared} {b : Addr} (I : Inv X pins σ H s) (hb : s.heap.objs.size ≤ b) (hn : H' b = none) : FpOk X pins H' b := by
  refine ⟨hn, Nat.ne_of_gt (Nat.lt_of_lt_of_le I.lt hb), I.nofs hb, .inr (Nat.le_trans I.sz hb), fun x c e z => ?_, fun p hp z => ?_⟩
  · obtain ⟨v, q⟩ := I.cell x c e
    exact absurd (Nat.lt_of_lt_of_le q.lt (by rw [z]; exact hb)) (Nat.lt_irrefl _)
  · exact absurd (Nat.lt_of_lt_of_le (Heap.lt_size (I.pin p hp).1) (by rw [z]; exact hb)) (Nat.lt_irrefl _)
structure Turn (P : Program) (w : World) (K : PySem.W.Frag) (tg : Expr) (J : It) (fp : List Addr) (it : Addr) (tn : Nat → Heap → Prop) : Prop where
  mem : it ∈ fp
  obj : ∀ i h, tn i h → ∀ b ∈ fp, ∃ o, h.get? b = some o ∧ ∀ v, o.data ≠ .cell v
  keep : ∀ i h h', tn i h → (∀ b ∈ fp, ∀ o, h.get? b = some o → h'.get? b = some o) → tn i h'
  item : ∀ (X : Cx), X.prog = P → X.w = w → X.K = K → X.calm = true → ∀ (i : Nat) (pins : List (Addr × Obj)) (s : Shared) (σ : St) (H : Hp) (E : Value → Shared → Prop), Inv X pins σ H s → (∀ b ∈ fp, FpOk X pins H b) → tn i s.heap → J.go i H →
    wpAny (model P w) X.A (pyNext (.ref it)) (fun r s1 => ∃ u, r = some u ∧
      wpAny (model P w) X.A (letOwnedTupleGo tg (.ref it) u) (fun _ s2 => ∃ x H', Inv X pins σ H' s2 ∧ RelV x u ∧ J.yld i H x H' ∧ tn (i + 1) s2.heap ∧ ∀ b ∈ fp, H' b = none) E s1) E s
  done : ∀ (X : Cx), X.prog = P → X.w = w → X.K = K → X.calm = true → ∀ (i : Nat) (pins : List (Addr × Obj)) (s : Shared) (σ : St) (H : Hp) (E : Value → Shared → Prop), Inv X pins σ H s → (∀ b ∈ fp, FpOk X pins H b) → tn i s.heap → J.stop i H →
    wpAny (model P w) X.A (pyNext (.ref it)) (fun r s1 => r = none ∧ Inv X pins σ H s1) E s
  self : ∀ (A : Around) (i : Nat) (s : Shared) (Q : Value → Shared → Prop) (E : Value → Shared → Prop), tn i s.heap → Q (.ref it) s → wpAny (model P w) A (pyIter (.ref it)) Q E s
abbrev TI := St → Hp → (It → Hp → Prop) → Prop
def PIE (X : Cx) (pins : List (Addr × Obj)) (σ : St) (tg : Expr) (R : It → Hp → Prop) (itv : Value) (s2 : Shared) : Prop :=
  ∃ (it : Addr) (fp : List Addr) (tn : Nat → Heap → Prop) (J : It) (H' : Hp), itv = .ref it ∧ Inv X pins σ H' s2 ∧ Turn X.prog X.w X.K tg J fp it tn ∧ tn 0 s2.heap ∧ (∀ b ∈ fp, FpOk X pins H' b) ∧ R J H'
def PI (X : Cx) (tg iter : Expr) (wi : TI) : Prop :=
  ∀ (pins : List (Addr × Obj)) (s : Shared) (σ : St) (H : Hp) (R : It → Hp → Prop), Inv X pins σ H s → wi σ H R →
    wpAny (model X.prog X.w) X.A (eval iter X.env) (fun v s1 => wpAny (model X.prog X.w) X.A (pyIter v) (PIE X pins σ tg R) X.xe s1) X.xe s
theorem go_of {M : Model} {A : Around} {E : Value → Shared → Prop} {s : Shared} {tg : Expr} {it : Addr} {u : Value} {o : Obj} {n : String} {vs : Array Value} {Q : Unit → Shared → Prop} (ho : s.heap.get? it = some o) (hc : o.cls = .type n) (hd : o.data = .fields vs)
    (hn : ["enumerate", "zip", "dict_itemiterator", "dict_reverseitemiterator", "odict_iterator", "itertools.zip_longest", "itertools.pairwise"].contains n = false) (hQ : Q () s) : wpAny M A (letOwnedTupleGo tg (.ref it) u) Q E s := by
  unfold letOwnedTupleGo
  cases tg <;> first
    | exact wpAny_pure hQ
    | (cases u <;> first
        | exact wpAny_pure hQ
        | (refine wpAny_bind (wpAny_load ho ?_)
           rw [hc, hd]
           show wpAny M A (if (["enumerate", "zip", "dict_itemiterator", "dict_reverseitemiterator", "odict_iterator", "itertools.zip_longest", "itertools.pairwise"].contains n && vs[0]? == some (rawInt _)) = true then _ else _) Q E s
           rw [if_neg (by intro h; rw [hn, Bool.false_and] at h; cases h)]
           exact wpAny_pure hQ))
def Itl (K : PySem.W.Frag) (a : Addr) : It :=
  ⟨fun i H => ∃ xs x, SqL K H a xs ∧ xs[i]? = some x, fun i H x H' => H' = H ∧ ∀ xs, SqL K H a xs → xs[i]? = some x, fun i H => ∃ xs, SqL K H a xs ∧ xs.length ≤ i⟩
def Itt (K : PySem.W.Frag) (a : Addr) : It :=
  ⟨fun i H => ∃ xs x, SqT K H a xs ∧ xs[i]? = some x, fun i H x H' => H' = H ∧ ∀ xs, SqT K H a xs → xs[i]? = some x, fun i H => ∃ xs, SqT K H a xs ∧ xs.length ≤ i⟩
def Itr (lo : Int) (n : Nat) : It := ⟨fun i _ => i < n, fun i H x H' => H' = H ∧ x = .int (lo + i), fun i _ => n ≤ i⟩
theorem turn_list {P : Program} {w : World} {K : PySem.W.Frag} {tg : Expr} (a it : Addr) : Turn P w K tg (Itl K a) [it] it (fun i h => h.IsListIter it a i) where
  mem := by simp
  obj := fun i h st b hb => by
    have e : b = it := by simpa using hb
    subst e
    obtain ⟨o, e, c, d⟩ := st
    exact ⟨o, e, fun v z => by rw [d] at z; cases z⟩
  keep := fun i h h' st k => st.at fun o e => k it (by simp) o e
  item := by
    intro X hP hw hK hc i pins s σ H E I hf st hg
    subst hP hw hK
    obtain ⟨xs, x, hq, hx⟩ := hg
    obtain ⟨its, rv, p, hz⟩ := I.list hq
    obtain ⟨u, hu, ru⟩ := rv.get hx
    obtain ⟨f0, f1, f2, f3, f4, f5⟩ := hf it (by simp)
    refine wpAny_pyNext_list_item st p.isList (x := u) (by simpa using hu) fun h' st' sb => ?_
    have I1 : Inv X pins σ H { s with heap := h' } := I.turned (t' := s.toks) (fun b o hb e => (sb.2 b hb).trans e) f0 f1 f3 f4 f5
    obtain ⟨o, e, c, d⟩ := id st'
    exact ⟨u, rfl, go_of (s := { s with heap := h' }) e c d (by decide) ⟨x, H, I1, ru, ⟨rfl, fun ys hy => by rw [I.list_inj hy hq]; exact hx⟩, st', fun b hb => (hf b hb).1⟩⟩
  done := by
    intro X hP hw hK hc i pins s σ H E I hf st hg
    subst hP hw hK
    obtain ⟨xs, hq, hx⟩ := hg
    obtain ⟨its, rv, p, hz⟩ := I.list hq
    obtain ⟨f0, f1, f2, f3, f4, f5⟩ := hf it (by simp)
    have hl := rv.length
    exact wpAny_pyNext_list_end (I.ok.hd hc) st p.isList (by simp; omega) fun h' eb => ⟨rfl, I.turned (t' := s.toks) (fun b o hb e => eb b o hb e) f0 f1 f3 f4 f5⟩
  self := fun _ _ _ _ _ st h => wpAny_pyIter_listiter st h
theorem turn_tuple {P : Program} {w : World} {K : PySem.W.Frag} {tg : Expr} (a it : Addr) : Turn P w K tg (Itt K a) [it] it (fun i h => h.IsTupleIter it a i) where
  mem := by simp
  obj := fun i h st b hb => by
    have e : b = it := by simpa using hb
    subst e
    obtain ⟨o, e, c, d⟩ := st
    exact ⟨o, e, fun v z => by rw [d] at z; cases z⟩
  keep := fun i h h' st k => st.at fun o e => k it (by simp) o e
  item := by
    intro X hP hw hK hc i pins s σ H E I hf st hg
    subst hP hw hK
    obtain ⟨xs, x, hq, hx⟩ := hg
    obtain ⟨its, rv, p, hz⟩ := I.tuple hq
    obtain ⟨u, hu, ru⟩ := rv.get hx
    obtain ⟨f0, f1, f2, f3, f4, f5⟩ := hf it (by simp)
    refine wpAny_pyNext_tuple_item st (show s.heap.IsTuple a its.toArray from p) (x := u) (by simpa using hu) fun h' st' sb => ?_
    have I1 : Inv X pins σ H { s with heap := h' } := I.turned (t' := s.toks) (fun b o hb e => (sb.2 b hb).trans e) f0 f1 f3 f4 f5
    obtain ⟨o, e, c, d⟩ := id st'
    exact ⟨u, rfl, go_of (s := { s with heap := h' }) e c d (by decide) ⟨x, H, I1, ru, ⟨rfl, fun ys hy => by rw [I.tuple_inj hy hq]; exact hx⟩, st', fun b hb => (hf b hb).1⟩⟩
  done := by
    intro X hP hw hK hc i pins s σ H E I hf st hg
    subst hP hw hK
    obtain ⟨xs, hq, hx⟩ := hg
    obtain ⟨its, rv, p, hz⟩ := I.tuple hq
    obtain ⟨f0, f1, f2, f3, f4, f5⟩ := hf it (by simp)
    have hl := rv.length
    exact wpAny_pyNext_tuple_end (I.ok.hd hc) st (show s.heap.IsTuple a its.toArray from p) (by simp; omega) fun h' eb => ⟨rfl, I.turned (t' := s.toks) (fun b o hb e => eb b o hb e) f0 f1 f3 f4 f5⟩
  self := fun _ _ _ _ _ st h => wpAny_pyIter_tupleiter st h
theorem turn_range {P : Program} {w : World} {K : PySem.W.Frag} {tg : Expr} (it : Addr) (lo : Int) (n : Nat) : Turn P w K tg (Itr lo n) [it] it (fun i h => IsRangeIter h it (lo + (i : Nat) * 1) ((n : Int) - (i : Nat)) 1) where
  mem := by simp
  obj := fun i h st b hb => by
    have e : b = it := by simpa using hb
    subst e
    exact ⟨_, st, fun v z => by
      have z' : Data.fields _ = Data.cell v := z
      cases z'⟩
  keep := fun i h h' st k => k it (by simp) _ st
  item := by
    intro X hP hw hK hc i pins s σ H E I hf st hg
    subst hP hw hK
    obtain ⟨f0, f1, f2, f3, f4, f5⟩ := hf it (by simp)
    have W := Walks.range (prog := X.prog) (w := X.w) (I.ok.hd hc) it lo 1 n
    refine W.item i s _ _ hg st fun v h' tk hv st' kk => ?_
    obtain ⟨t, rfl⟩ := hv
    have I1 : Inv X pins σ H { s with heap := h', toks := tk } := I.turned (fun b o hb e => kk b o (by simpa using hb) e) f0 f1 f3 f4 f5
    refine ⟨_, rfl, go_of (s := { s with heap := h', toks := tk }) (n := "range_iterator") st' rfl rfl (by decide) ⟨.int (lo + i), H, I1, ⟨t, ?_⟩, ⟨rfl, rfl⟩, st', fun b hb => (hf b hb).1⟩⟩
    rw [Int.mul_one]
  done := by
    intro X hP hw hK hc i pins s σ H E I hf st hg
    subst hP hw hK
    obtain ⟨f0, f1, f2, f3, f4, f5⟩ := hf it (by simp)
    exact wpAny_pyNext_range_end (I.ok.hd hc) st (by have : n ≤ i := hg; omega) fun h' eb => ⟨rfl, I.turned (t' := s.toks) (fun b o hb e => eb b o hb e) f0 f1 f3 f4 f5⟩
  self := fun _ _ _ _ _ st h => wpAny_pyIter_rangeiter st h
end L2
namespace L2
open PySem PySem.Spec PyProof.Rows
section
variable {X : Cx} {tg : Expr}
def iList (K : PySem.W.Frag) (tl : TE) : TI := fun σ H R => tl σ H fun x H1 => ∃ a, x = .ref a ∧ (∃ xs, SqL K H1 a xs) ∧ R (Itl K a) H1
def iTup (K : PySem.W.Frag) (tl : TE) : TI := fun σ H R => tl σ H fun x H1 => ∃ a, x = .ref a ∧ (∃ xs, SqT K H1 a xs) ∧ R (Itt K a) H1
theorem pi_list {l : Expr} {tl : TE} (hl : PE X l tl) : PI X tg l (iList X.K tl) := by
  intro pins s σ H R I h
  refine thn (hl pins s σ H _ I h) fun v s1 ⟨x, H1, I1, r1, q1⟩ => ?_
  obtain ⟨a, e, ⟨xs, hq⟩, q⟩ := q1
  subst e
  cases r1
  obtain ⟨its, rv, p, hz⟩ := I1.list hq
  refine wpAny_pyIter_list p.isList ?_
  refine ⟨s1.heap.objs.size, [s1.heap.objs.size], _, _, H1, rfl, I1.kept (t' := s1.toks) fun b o e => Heap.get?_push_of_some _ e, turn_list a _, ⟨_, Heap.get?_push_size _ rfl, rfl, rfl⟩, fun b hb => ?_, q⟩
  have e : b = s1.heap.objs.size := by simpa using hb
  subst e
  exact I1.fpOk (Nat.le_refl _) (I1.hok.fresh (Nat.le_refl _))
theorem pi_tup {l : Expr} {tl : TE} (hl : PE X l tl) : PI X tg l (iTup X.K tl) := by
  intro pins s σ H R I h
  refine thn (hl pins s σ H _ I h) fun v s1 ⟨x, H1, I1, r1, q1⟩ => ?_
  obtain ⟨a, e, ⟨xs, hq⟩, q⟩ := q1
  subst e
  cases r1
  obtain ⟨its, rv, p, hz⟩ := I1.tuple hq
  refine wpAny_pyIter_tuple (show s1.heap.IsTuple a its.toArray from p) ?_
  refine ⟨s1.heap.objs.size, [s1.heap.objs.size], _, _, H1, rfl, I1.kept (t' := s1.toks) fun b o e => Heap.get?_push_of_some _ e, turn_tuple a _, ⟨_, Heap.get?_push_size _ rfl, rfl, rfl⟩, fun b hb => ?_, q⟩
  have e : b = s1.heap.objs.size := by simpa using hb
  subst e
  exact I1.fpOk (Nat.le_refl _) (I1.hok.fresh (Nat.le_refl _))
theorem range_it {pins : List (Addr × Obj)} {σ : St} {H : Hp} {s : Shared} {R : It → Hp → Prop} {E : Value → Shared → Prop} {lo hi : Int} {t u v : Tok} {tk : Nat} (I : Inv X pins σ H s) (h1 : -(2 ^ 62) ≤ lo) (h2 : lo < 2 ^ 62) (h3 : -(2 ^ 62) ≤ hi) (h4 : hi < 2 ^ 62)
    (q : R (Itr lo (hi - lo).toNat) H) : wpAny (model X.prog X.w) X.A (pyIter (.ref s.heap.objs.size)) (PIE X pins σ tg R) E { s with heap := s.heap.push { cls := .type "range", data := .fields #[.int lo t, .int hi u, .int 1 v] }, toks := tk } := by
  refine wpAny_pyIter_range (IsRange.new ..) (small_one h1 h2 h3 h4) ?_
  have I1 : Inv X pins σ H { s with heap := s.heap.push { cls := .type "range", data := .fields #[.int lo t, .int hi u, .int 1 v] }, toks := tk } := I.kept fun b o e => Heap.get?_push_of_some _ e
  refine ⟨(s.heap.push { cls := .type "range", data := .fields #[.int lo t, .int hi u, .int 1 v] }).objs.size, [(s.heap.push { cls := .type "range", data := .fields #[.int lo t, .int hi u, .int 1 v] }).objs.size], _, _, H, rfl,
    I1.kept (t' := tk) fun b o e => Heap.get?_push_of_some _ e, turn_range _ lo (hi - lo).toNat, ?_, fun b hb => ?_, q⟩
  · have e1 : lo + ((0 : Nat) : Int) * 1 = lo := by simp
    have e2 : (((hi - lo).toNat : Nat) : Int) - ((0 : Nat) : Int) = Builtin.Range.rangeSize lo hi 1 := by rw [rangeSize_one]; split <;> omega
    show IsRangeIter _ _ (lo + ((0 : Nat) : Int) * 1) ((((hi - lo).toNat : Nat) : Int) - ((0 : Nat) : Int)) 1
    rw [e1, e2]
    exact Heap.get?_push_size _ rfl
  · have e : b = (s.heap.push { cls := .type "range", data := .fields #[.int lo t, .int hi u, .int 1 v] }).objs.size := by simpa using hb
    subst e
    exact I1.fpOk (Nat.le_refl _) (I1.hok.fresh (Nat.le_refl _))
def iRng1 (ta : TA) : TI := fun σ H R => ta σ H fun vs H1 => ∃ j : Int, vs = [.int j] ∧ -(2 ^ 62) ≤ j ∧ j < 2 ^ 62 ∧ R (Itr 0 j.toNat) H1
theorem pi_range1 {a : Expr} {ta : TA} {p pos : Pos} (hg : Gl X "range") (hm : X.mg "range" = none) (ha : PA X [a] ta) (hs : starEach [a] X.env = [(false, eval a X.env)] := by rfl) : PI X tg (.Call (.Name "range" p) [a] [] pos) (iRng1 ta) := by
  intro pins s σ H R I h
  refine Call_ (ld_blt I hg hm boot_range (PyProof.Rows.callWith_type1 (thn (ha pos pins s σ H _ I h) fun us s1 ⟨vs, H1, I1, r1, q1⟩ => ?_) hs rfl))
  obtain ⟨j, e, q1, q2, q⟩ := q1
  subst e
  cases r1 with
  | cons r rr =>
    cases rr
    obtain ⟨t, rfl⟩ := r
    exact call_range_1 (range_it I1 (by omega) (by omega) q1 q2 (by simpa using q))
def tFor (wi : TI) (g : TG) (tb : TS) : TS := fun D σ H => wi σ H fun J H1 => ∃ W : Nat → Nat → St → Hp → Prop, (∃ m, W 0 m σ H1) ∧ ∀ i m σ H, W i m σ H →
  (J.stop i H ∧ D.nx σ H) ∨ (J.go i H ∧ ∃ N : St → Hp → Prop, (∀ σ' H', N σ' H' → ∃ m', m' < m ∧ W (i + 1) m' σ' H') ∧ ∀ x H', J.yld i H x H' → g x σ H' fun σ2 H2 => tb { D with nx := N, ct := N, bk := D.nx } σ2 H2)
def pinsAt (fp : List Addr) (h : Heap) : List (Addr × Obj) := fp.filterMap fun b => (h.get? b).map fun o => (b, o)
theorem mem_pinsAt {fp : List Addr} {h : Heap} {b : Addr} {o : Obj} (hb : b ∈ fp) (e : h.get? b = some o) : (b, o) ∈ pinsAt fp h := List.mem_filterMap.mpr ⟨b, hb, by rw [e]; rfl⟩
theorem of_pinsAt {fp : List Addr} {h : Heap} {p : Addr × Obj} (hp : p ∈ pinsAt fp h) : p.1 ∈ fp ∧ h.get? p.1 = some p.2 := by
  obtain ⟨b, hb, e⟩ := List.mem_filterMap.mp hp
  cases q : h.get? b with
  | none => rw [q] at e; cases e
  | some o =>
    rw [q] at e
    have e' : (b, o) = p := Option.some.inj e
    subst e'
    exact ⟨hb, q⟩
theorem Inv.pinned {pins : List (Addr × Obj)} {σ : St} {H : Hp} {s : Shared} {fp : List Addr} (I : Inv X pins σ H s) (hf : ∀ b ∈ fp, FpOk X pins H b) (ho : ∀ b ∈ fp, ∃ o, s.heap.get? b = some o ∧ ∀ v, o.data ≠ .cell v) : Inv X (pins ++ pinsAt fp s.heap) σ H s :=
  I.pins_of fun p hp => (List.mem_append.mp hp).elim (fun z => I.pin p (List.mem_append_right _ z)) fun z => by
    obtain ⟨hb, e⟩ := of_pinsAt z
    obtain ⟨f0, f1, f2, _⟩ := hf p.1 hb
    obtain ⟨o, e', d⟩ := ho p.1 hb
    rw [e] at e'; cases e'
    exact ⟨e, f0, f1, f2, d⟩
theorem Inv.unpinned {pins pl : List (Addr × Obj)} {σ : St} {H : Hp} {s : Shared} (I : Inv X (pins ++ pl) σ H s) : Inv X pins σ H s := I.pins_of fun p hp => I.pin p (List.mem_append_right _ (List.mem_append_left _ hp))
theorem ps_for {iter : Expr} {body : List Stmt} {wi : TI} {g : TG} {tb : TS} {pos : Pos} (hp : PassesOwn (model X.prog X.w) X.A X.env X.xe) (hc : X.calm = true) (hi : PI X tg iter wi) (hg : PG X tg g) (hb : PSs X body tb)
    (hs : ∀ x, foldedSetIterable iter X.env x = pure x := by intro _; rfl) : PS X (.For tg iter body [] pos) (tFor wi g tb) := by
  intro pins s σ H D I h
  refine wpAny_For (thn (hi pins s σ H _ I h) fun v s1 h1 => thn h1 fun itv s2 h2 => ?_) hs
  obtain ⟨it, fp, tn, J, H2, e, I2, T, st2, f2, W, ⟨m0, w0⟩, turn⟩ := h2
  subst e
  have stat : ∀ {H' : Hp}, (∀ b ∈ fp, H' b = none) → ∀ b ∈ fp, FpOk X pins H' b := fun hn b hb => ⟨hn b hb, (f2 b hb).2⟩
  refine codeAny_forLoop_any (fun n s' => ∃ i σ' H', Inv X pins σ' H' s' ∧ tn i s'.heap ∧ (∀ b ∈ fp, H' b = none) ∧ W i n σ' H') ?_ m0 ⟨0, σ, H2, I2, st2, fun b hb => (f2 b hb).1, w0⟩
  rintro n s3 ⟨i, σ3, H3, I3, st3, fr3, w3⟩
  rcases turn i n σ3 H3 w3 with ⟨stop, qn⟩ | ⟨go, N, hN, step⟩
  · refine wpAny_passesOwn hp (thn (T.done X rfl rfl rfl hc i pins s3 σ3 H3 X.xe I3 (stat fr3) st3 stop) fun r s4 ⟨hr, I4⟩ => ?_)
    subst hr
    exact wpAny_execs_nil ⟨σ3, H3, I4, qn⟩
  · refine wpAny_passesOwn hp (thn (T.item X rfl rfl rfl hc i pins s3 σ3 H3 X.xe I3 (stat fr3) st3 go) fun r s4 ⟨u, hr, h4⟩ => ?_)
    subst hr
    refine wpAny_passesOwn hp (thn h4 fun _ s5 ⟨x, H5, I5, r5, y5, st5, fr5⟩ => ?_)
    have I5' := I5.pinned (stat fr5) (T.obj _ _ st5)
    refine wpAny_passesOwn hp (thn (hg _ s5 σ3 H5 x u _ I5' r5 (step x H5 y5)) fun _ s6 ⟨σ6, H6, I6, q6⟩ => ?_)
    refine wpAny_passesOwn hp (thn (hb _ s6 σ6 H6 _ I6 q6) fun f s7 q7 => ?_)
    have again : ∀ {σ7 : St} {H7 : Hp}, Inv X (pins ++ pinsAt fp s5.heap) σ7 H7 s7 → N σ7 H7 → ∃ m, m < n ∧ ∃ i σ' H', Inv X pins σ' H' s7 ∧ tn i s7.heap ∧ (∀ b ∈ fp, H' b = none) ∧ W i m σ' H' := fun {σ7 H7} I7 n7 => by
      obtain ⟨m', hm, w7⟩ := hN σ7 H7 n7
      refine ⟨m', hm, i + 1, σ7, H7, I7.unpinned, T.keep _ _ _ st5 fun b hb o e => (I7.pin (b, o) (List.mem_append_right _ (List.mem_append_right _ (mem_pinsAt hb e)))).1, fun b hb => ?_, w7⟩
      obtain ⟨o, e, d⟩ := T.obj _ _ st5 b hb
      exact (I7.pin (b, o) (List.mem_append_right _ (List.mem_append_right _ (mem_pinsAt hb e)))).2.1
    cases f with
    | next => obtain ⟨σ7, H7, I7, n7⟩ := q7; exact again I7 n7
    | cont => obtain ⟨σ7, H7, I7, n7⟩ := q7; exact again I7 n7
    | brk => obtain ⟨σ7, H7, I7, q7⟩ := q7; exact ⟨σ7, H7, I7.unpinned, q7⟩
    | ret v => obtain ⟨x7, σ7, H7, I7, r7, q7⟩ := q7; exact ⟨x7, σ7, H7, I7.unpinned, r7, q7⟩
end
theorem for_list {K : PySem.W.Frag} {a : Addr} {xs : List V} {g : TG} {tb : TS} {D : Ends} {σ : St} {H : Hp} (Pv : Nat → St → Hp → Prop) (h0 : Pv 0 σ H) (hl : ∀ i σ H, i ≤ xs.length → Pv i σ H → SqL K H a xs)
    (hs : ∀ i x σ H, xs[i]? = some x → Pv i σ H → g x σ H fun σ2 H2 => tb { D with nx := Pv (i + 1), ct := Pv (i + 1), bk := D.nx } σ2 H2) (hd : ∀ σ H, Pv xs.length σ H → D.nx σ H) :
    ∃ W : Nat → Nat → St → Hp → Prop, (∃ m, W 0 m σ H) ∧ ∀ i m σ H, W i m σ H →
      ((Itl K a).stop i H ∧ D.nx σ H) ∨ ((Itl K a).go i H ∧ ∃ N : St → Hp → Prop, (∀ σ' H', N σ' H' → ∃ m', m' < m ∧ W (i + 1) m' σ' H') ∧ ∀ x H', (Itl K a).yld i H x H' → g x σ H' fun σ2 H2 => tb { D with nx := N, ct := N, bk := D.nx } σ2 H2) := by
  refine ⟨fun i m σ H => m = xs.length - i ∧ i ≤ xs.length ∧ Pv i σ H, ⟨xs.length, by simp, Nat.zero_le _, h0⟩, ?_⟩
  rintro i m σ H ⟨rfl, hi, p⟩
  have q := hl i σ H hi p
  by_cases hlt : i < xs.length
  · refine .inr ⟨⟨xs, xs[i], q, by simp [hlt]⟩, Pv (i + 1), fun σ' H' p' => ⟨xs.length - (i + 1), by omega, rfl, hlt, p'⟩, fun x H' y => ?_⟩
    obtain ⟨e, y⟩ := y
    subst e
    exact hs i x σ _ (y xs q) p
  · have e : i = xs.length := by omega
    subst e
    exact .inl ⟨⟨xs, q, Nat.le_refl _⟩, hd σ H p⟩
theorem for_tup {K : PySem.W.Frag} {a : Addr} {xs : List V} {g : TG} {tb : TS} {D : Ends} {σ : St} {H : Hp} (Pv : Nat → St → Hp → Prop) (h0 : Pv 0 σ H) (hl : ∀ i σ H, i ≤ xs.length → Pv i σ H → SqT K H a xs)
    (hs : ∀ i x σ H, xs[i]? = some x → Pv i σ H → g x σ H fun σ2 H2 => tb { D with nx := Pv (i + 1), ct := Pv (i + 1), bk := D.nx } σ2 H2) (hd : ∀ σ H, Pv xs.length σ H → D.nx σ H) :
    ∃ W : Nat → Nat → St → Hp → Prop, (∃ m, W 0 m σ H) ∧ ∀ i m σ H, W i m σ H →
      ((Itt K a).stop i H ∧ D.nx σ H) ∨ ((Itt K a).go i H ∧ ∃ N : St → Hp → Prop, (∀ σ' H', N σ' H' → ∃ m', m' < m ∧ W (i + 1) m' σ' H') ∧ ∀ x H', (Itt K a).yld i H x H' → g x σ H' fun σ2 H2 => tb { D with nx := N, ct := N, bk := D.nx } σ2 H2) := by
  refine ⟨fun i m σ H => m = xs.length - i ∧ i ≤ xs.length ∧ Pv i σ H, ⟨xs.length, by simp, Nat.zero_le _, h0⟩, ?_⟩
  rintro i m σ H ⟨rfl, hi, p⟩
  have q := hl i σ H hi p
  by_cases hlt : i < xs.length
  · refine .inr ⟨⟨xs, xs[i], q, by simp [hlt]⟩, Pv (i + 1), fun σ' H' p' => ⟨xs.length - (i + 1), by omega, rfl, hlt, p'⟩, fun x H' y => ?_⟩
    obtain ⟨e, y⟩ := y
    subst e
    exact hs i x σ _ (y xs q) p
  · have e : i = xs.length := by omega
    subst e
    exact .inl ⟨⟨xs, q, Nat.le_refl _⟩, hd σ H p⟩
theorem for_range {lo : Int} {n : Nat} {g : TG} {tb : TS} {D : Ends} {σ : St} {H : Hp} (Pv : Nat → St → Hp → Prop) (h0 : Pv 0 σ H)
    (hs : ∀ i σ H, i < n → Pv i σ H → g (.int (lo + i)) σ H fun σ2 H2 => tb { D with nx := Pv (i + 1), ct := Pv (i + 1), bk := D.nx } σ2 H2) (hd : ∀ σ H, Pv n σ H → D.nx σ H) :
    ∃ W : Nat → Nat → St → Hp → Prop, (∃ m, W 0 m σ H) ∧ ∀ i m σ H, W i m σ H →
      ((Itr lo n).stop i H ∧ D.nx σ H) ∨ ((Itr lo n).go i H ∧ ∃ N : St → Hp → Prop, (∀ σ' H', N σ' H' → ∃ m', m' < m ∧ W (i + 1) m' σ' H') ∧ ∀ x H', (Itr lo n).yld i H x H' → g x σ H' fun σ2 H2 => tb { D with nx := N, ct := N, bk := D.nx } σ2 H2) := by
  refine ⟨fun i m σ H => m = n - i ∧ i ≤ n ∧ Pv i σ H, ⟨n, by simp, Nat.zero_le _, h0⟩, ?_⟩
  rintro i m σ H ⟨rfl, hi, p⟩
  by_cases hlt : i < n
  · refine .inr ⟨hlt, Pv (i + 1), fun σ' H' p' => ⟨n - (i + 1), by omega, rfl, hlt, p'⟩, fun x H' y => ?_⟩
    obtain ⟨e, y⟩ := y
    subst e y
    exact hs i σ _ hlt p
  · have e : i = n := by omega
    subst e
    exact .inl ⟨Nat.le_refl _, hd σ H p⟩
end L2
namespace L2
open PySem PySem.Spec PyProof.Rows
abbrev R2 := V → V → Hp → VK → Prop
def OpR (X : Cx) (f : Value → Value → Sem Value) (r : R2) : Prop :=
  ∀ (pins : List (Addr × Obj)) (s : Shared) (σ : St) (H : Hp) (x y : V) (v u : Value) (Q : VK), Inv X pins σ H s → RelV x v → RelV y u → r x y H Q →
    wpAny (model X.prog X.w) X.A (f v u) (EP X pins σ Q) X.xe s
def UnR (X : Cx) (f : Value → Sem Value) (r : V → Hp → VK → Prop) : Prop :=
  ∀ (pins : List (Addr × Obj)) (s : Shared) (σ : St) (H : Hp) (x : V) (v : Value) (Q : VK), Inv X pins σ H s → RelV x v → r x H Q →
    wpAny (model X.prog X.w) X.A (f v) (EP X pins σ Q) X.xe s
def CallR (X : Cx) (f : Value) (r : List V → Hp → VK → Prop) : Prop :=
  ∀ (pins : List (Addr × Obj)) (s : Shared) (σ : St) (H : Hp) (xs : List V) (us : List Value) (Q : VK), Inv X pins σ H s → Vals xs us → r xs H Q →
    wpAny (model X.prog X.w) X.A (call f us) (EP X pins σ Q) X.xe s
def TruR (X : Cx) (r : V → Hp → (Bool → Hp → Prop) → Prop) : Prop :=
  ∀ (pins : List (Addr × Obj)) (s : Shared) (σ : St) (H : Hp) (x : V) (v : Value) (Q : Bool → Hp → Prop), Inv X pins σ H s → RelV x v → r x H Q →
    wpAny (model X.prog X.w) X.A (truthy v) (TP X pins σ Q) X.xe s
def tOp (r : R2) (ta tb : TE) : TE := fun σ H Q => ta σ H fun x H1 => tb σ H1 fun y H2 => r x y H2 Q
def tUn (r : V → Hp → VK → Prop) (ta : TE) : TE := fun σ H Q => ta σ H fun x H1 => r x H1 Q
def rI (C : Int → Int → Prop) (g : Int → Int → V) : R2 := fun x y H Q => ∃ i j, x = .int i ∧ y = .int j ∧ C i j ∧ Q (g i j) H
def rI0 (g : Int → Int → V) : R2 := fun x y H Q => ∃ i j, x = .int i ∧ y = .int j ∧ Q (g i j) H
def rU (g : Int → V) : V → Hp → VK → Prop := fun x H Q => ∃ i, x = .int i ∧ Q (g i) H
section
variable {X : Cx} {a b c : Expr} {ta tb tc : TE} {pos : Pos}
theorem binT (ha : PE X a ta) (hb : PE X b tb) {pins : List (Addr × Obj)} {s : Shared} {σ : St} {H : Hp} {R : V → V → Hp → Prop} (I : Inv X pins σ H s)
    (h : ta σ H fun x H1 => tb σ H1 fun y H2 => R x y H2) {Q : Value → Shared → Prop} {f : Value → Value → Sem Value}
    (hf : ∀ v u s2 x y H2, Inv X pins σ H2 s2 → RelV x v → RelV y u → R x y H2 → wpAny (model X.prog X.w) X.A (f v u) Q X.xe s2) :
    wpAny (model X.prog X.w) X.A (eval a X.env) (fun v s₁ => wpAny (model X.prog X.w) X.A (eval b X.env) (fun u s₂ => wpAny (model X.prog X.w) X.A (f v u) Q X.xe s₂) X.xe s₁) X.xe s := by
  refine thn (ha pins s σ H _ I h) fun v s1 ⟨x, H1, I1, r1, q1⟩ => ?_
  refine thn (hb pins s1 σ H1 _ I1 q1) fun u s2 ⟨y, H2, I2, r2, q2⟩ => ?_
  exact hf v u s2 x y H2 I2 r1 r2 q2
theorem pe_op {op : Operator} {r : R2} (ho : OpR X (binaryOp op) r) (ha : PE X a ta) (hb : PE X b tb) : PE X (.BinOp a op b pos) (tOp r ta tb) := by
  intro pins s σ H Q I h
  exact wpAny_BinOp (binT ha hb I h fun v u s2 x y H2 I2 rx ry q => ho pins s2 σ H2 x y v u Q I2 rx ry q)
theorem pe_un {op : UnaryOp} {r : V → Hp → VK → Prop} (ho : UnR X (unaryOp op) r) (ha : PE X a ta) : PE X (.UnaryOp op a pos) (tUn r ta) := by
  intro pins s σ H Q I h
  exact UnaryOp_ (thn (ha pins s σ H _ I h) fun v s1 ⟨x, H1, I1, r1, q1⟩ => ho pins s1 σ H1 x v Q I1 r1 q1)
theorem opI {f : Value → Value → Sem Value} {C : Int → Int → Prop} {g : Int → Int → Int}
    (rule : ∀ (i j : Int) (t u : Tok) (s : Shared) (Q : Value → Shared → Prop) (E : Value → Shared → Prop), C i j → Q (.int (g i j) s.toks) { s with toks := s.toks + 1 } → wpAny (model X.prog X.w) X.A (f (.int i t) (.int j u)) Q E s) :
    OpR X f (rI C fun i j => .int (g i j)) := by
  intro pins s σ H x y v u Q I rx ry h
  obtain ⟨i, j, rfl, rfl, hc, q⟩ := h
  obtain ⟨t, rfl⟩ := rx
  obtain ⟨t', rfl⟩ := ry
  exact rule i j t t' s _ _ hc ⟨.int (g i j), H, I.tok _, ⟨_, rfl⟩, q⟩
theorem opI0 {f : Value → Value → Sem Value} {g : Int → Int → Int}
    (rule : ∀ (i j : Int) (t u : Tok) (s : Shared) (Q : Value → Shared → Prop) (E : Value → Shared → Prop), Q (.int (g i j) s.toks) { s with toks := s.toks + 1 } → wpAny (model X.prog X.w) X.A (f (.int i t) (.int j u)) Q E s) :
    OpR X f (rI0 fun i j => .int (g i j)) := by
  intro pins s σ H x y v u Q I rx ry h
  obtain ⟨i, j, rfl, rfl, q⟩ := h
  obtain ⟨t, rfl⟩ := rx
  obtain ⟨t', rfl⟩ := ry
  exact rule i j t t' s _ _ ⟨.int (g i j), H, I.tok _, ⟨_, rfl⟩, q⟩
theorem opB0 {f : Value → Value → Sem Value} {g : Int → Int → Bool}
    (rule : ∀ (i j : Int) (t u : Tok) (s : Shared) (Q : Value → Shared → Prop) (E : Value → Shared → Prop), Q (.bool (g i j)) s → wpAny (model X.prog X.w) X.A (f (.int i t) (.int j u)) Q E s) :
    OpR X f (rI0 fun i j => .bl (g i j)) := by
  intro pins s σ H x y v u Q I rx ry h
  obtain ⟨i, j, rfl, rfl, q⟩ := h
  obtain ⟨t, rfl⟩ := rx
  obtain ⟨t', rfl⟩ := ry
  exact rule i j t t' s _ _ ⟨.bl (g i j), H, I, rfl, q⟩
def CDiv (i j : Int) : Prop := 0 < j ∧ j < 1073741824
def CPow (i j : Int) : Prop := 0 ≤ j ∧ j ≤ 1000000 ∧ i.natAbs < 2 ^ 64
def CMul (i j : Int) : Prop := (-(2 ^ 64) < i ∧ i < 2 ^ 64) ∨ (-(2 ^ 64) < j ∧ j < 2 ^ 64)
theorem CMul.ok {i j : Int} (h : CMul i j) : IntMulOk i j := by
  rcases h with ⟨h1, h2⟩ | ⟨h1, h2⟩
  · exact .of_left (intBits_le_64 h1 h2)
  · exact .of_right (intBits_le_64 h1 h2)
theorem op_add : OpR X (binaryOp .Add) (rI0 fun i j => .int (i + j)) := opI0 fun _ _ _ _ _ _ _ q => add_int q
theorem op_sub : OpR X (binaryOp .Sub) (rI0 fun i j => .int (i - j)) := opI0 fun _ _ _ _ _ _ _ q => sub_int q
theorem op_mul : OpR X (binaryOp .Mult) (rI CMul fun i j => .int (i * j)) := opI fun _ _ _ _ _ _ _ hc q => mul_int q hc.ok
theorem op_fdiv : OpR X (binaryOp .FloorDiv) (rI CDiv fun i j => .int (i / j)) := opI fun i j _ _ _ _ _ hc q => by
  have h1 : (0 : Int) < j := hc.1
  have h2 : j < 1073741824 := hc.2
  exact floordiv_int (by omega) (by rw [Int.fdiv_eq_ediv_of_nonneg i (by omega)]; exact q) (.inl (PyProof.noPylong_small (by omega)))
theorem op_mod : OpR X (binaryOp .Mod) (rI (fun _ j => 0 < j) fun i j => .int (i % j)) := opI fun i j _ _ _ _ _ hc q => by
  have h1 : (0 : Int) < j := hc
  exact mod_int' (by omega) (by rw [Int.fmod_eq_emod_of_nonneg i (by omega)]; exact q)
theorem op_pow : OpR X (binaryOp .Pow) (rI CPow fun i j => .int (i ^ j.toNat)) := opI fun _ _ _ _ _ _ _ hc q => pow_int_small hc.1 hc.2.1 hc.2.2 q
theorem unI {f : Value → Sem Value} {g : Int → Int}
    (rule : ∀ (i : Int) (t : Tok) (s : Shared) (Q : Value → Shared → Prop) (E : Value → Shared → Prop), Q (.int (g i) s.toks) { s with toks := s.toks + 1 } → wpAny (model X.prog X.w) X.A (f (.int i t)) Q E s) :
    UnR X f (rU fun i => .int (g i)) := by
  intro pins s σ H x v Q I rx h
  obtain ⟨i, rfl, q⟩ := h
  obtain ⟨t, rfl⟩ := rx
  exact rule i t s _ _ ⟨.int (g i), H, I.tok _, ⟨_, rfl⟩, q⟩
theorem un_neg : UnR X (unaryOp .USub) (rU fun i => .int (-i)) := unI fun _ _ _ _ _ q => neg_int q
end
def scal : V → V → Bool
  | .non, .non => true | .non, .int _ => true | .int _, .non => true | .non, .bl _ => true | .bl _, .non => true | .non, .str _ => true | .str _, .non => true
  | .int _, .int _ => true | .bl _, .bl _ => true | .str _, .str _ => true | .byt _, .byt _ => true
  | .int _, .str _ => true | .str _, .int _ => true | .bl _, .str _ => true | .str _, .bl _ => true
  | _, _ => false
def rEq : R2 := fun x y H Q => scal x y = true ∧ Q (.bl (decide (x = y))) H
def rNe : R2 := fun x y H Q => scal x y = true ∧ Q (.bl (!decide (x = y))) H
theorem dec_int {i j : Int} : decide (V.int i = V.int j) = (i == j) := by
  rw [Bool.eq_iff_iff]
  simp
theorem dec_bl {i j : Bool} : decide (V.bl i = V.bl j) = (i == j) := by
  rw [Bool.eq_iff_iff]
  simp
theorem dec_str {i j : Str} : decide (V.str i = V.str j) = (i == j) := by
  rw [Bool.eq_iff_iff]
  simp
theorem dec_byt {i j : Array UInt8} : decide (V.byt i = V.byt j) = (i.toList == j.toList) := by
  rw [Bool.eq_iff_iff]
  cases i
  cases j
  simp
section
variable {X : Cx} {a b c : Expr} {ta tb tc : TE} {pos : Pos}
theorem fin_bl {pins : List (Addr × Obj)} {σ : St} {H : Hp} {s : Shared} {Q : VK} {k k' : Bool} (I : Inv X pins σ H s) (q : Q (.bl k) H) (e : k = k') : EP X pins σ Q (.bool k') s := by
  subst e
  exact ⟨.bl k, H, I, rfl, q⟩
theorem op_eq : OpR X (compareOp .Eq) rEq := by
  intro pins s σ H x y v u Q I rx ry h
  obtain ⟨hs, q⟩ := h
  cases x with
  | non =>
    cases rx
    cases y with
    | non => cases ry; exact PySem.EqNone.eq_none_none (fin_bl I q (by simp))
    | bl j => cases ry; exact PySem.EqNone.eq_none_bool (fin_bl I q (by simp))
    | int j => obtain ⟨t', rfl⟩ := ry; exact PySem.EqNone.eq_none_int (fin_bl I q (by simp))
    | str j => obtain ⟨t', rfl⟩ := ry; exact PySem.EqNone.eq_none_str (fin_bl I q (by simp))
    | _ => exact absurd (show false = true from hs) Bool.false_ne_true
  | bl i =>
    cases rx
    cases y with
    | non => cases ry; exact PySem.EqNone.eq_bool_none (fin_bl I q (by simp))
    | bl j => cases ry; exact eq_bool (fin_bl I q dec_bl)
    | str j => obtain ⟨t', rfl⟩ := ry; exact PySem.EqMixed.eq_bool_str (fin_bl I q (by simp))
    | _ => exact absurd (show false = true from hs) Bool.false_ne_true
  | int i =>
    obtain ⟨t, rfl⟩ := rx
    cases y with
    | non => cases ry; exact PySem.EqNone.eq_int_none (fin_bl I q (by simp))
    | int j => obtain ⟨t', rfl⟩ := ry; exact eq_int (fin_bl I q dec_int)
    | str j => obtain ⟨t', rfl⟩ := ry; exact PySem.EqMixed.eq_int_str (fin_bl I q (by simp))
    | _ => exact absurd (show false = true from hs) Bool.false_ne_true
  | str i =>
    obtain ⟨t, rfl⟩ := rx
    cases y with
    | non => cases ry; exact PySem.EqNone.eq_str_none (fin_bl I q (by simp))
    | bl j => cases ry; exact PySem.EqMixed.eq_str_bool (fin_bl I q (by simp))
    | int j => obtain ⟨t', rfl⟩ := ry; exact PySem.EqMixed.eq_str_int (fin_bl I q (by simp))
    | str j => obtain ⟨t', rfl⟩ := ry; exact eq_str (fin_bl I q dec_str)
    | _ => exact absurd (show false = true from hs) Bool.false_ne_true
  | byt i =>
    obtain ⟨t, rfl⟩ := rx
    cases y with
    | byt j => obtain ⟨t', rfl⟩ := ry; exact PySem.W.eq_bytes (fin_bl I q dec_byt)
    | _ => exact absurd (show false = true from hs) Bool.false_ne_true
  | _ => cases y <;> exact absurd (show false = true from hs) Bool.false_ne_true
theorem op_ne : OpR X (compareOp .NotEq) rNe := by
  intro pins s σ H x y v u Q I rx ry h
  obtain ⟨hs, q⟩ := h
  cases x with
  | non =>
    cases rx
    cases y with
    | non => cases ry; exact PySem.EqNone.ne_none_none (fin_bl I q (by simp))
    | bl j => cases ry; exact PySem.EqNone.ne_none_bool (fin_bl I q (by simp))
    | int j => obtain ⟨t', rfl⟩ := ry; exact PySem.EqNone.ne_none_int (fin_bl I q (by simp))
    | str j => obtain ⟨t', rfl⟩ := ry; exact PySem.EqNone.ne_none_str (fin_bl I q (by simp))
    | _ => exact absurd (show false = true from hs) Bool.false_ne_true
  | bl i =>
    cases rx
    cases y with
    | non => cases ry; exact PySem.EqNone.ne_bool_none (fin_bl I q (by simp))
    | bl j => cases ry; exact ne_bool (fin_bl I q (congrArg not dec_bl))
    | str j => obtain ⟨t', rfl⟩ := ry; exact PySem.EqMixed.ne_bool_str (fin_bl I q (by simp))
    | _ => exact absurd (show false = true from hs) Bool.false_ne_true
  | int i =>
    obtain ⟨t, rfl⟩ := rx
    cases y with
    | non => cases ry; exact PySem.EqNone.ne_int_none (fin_bl I q (by simp))
    | int j => obtain ⟨t', rfl⟩ := ry; exact ne_int (fin_bl I q (congrArg not dec_int))
    | str j => obtain ⟨t', rfl⟩ := ry; exact PySem.EqMixed.ne_int_str (fin_bl I q (by simp))
    | _ => exact absurd (show false = true from hs) Bool.false_ne_true
  | str i =>
    obtain ⟨t, rfl⟩ := rx
    cases y with
    | non => cases ry; exact PySem.EqNone.ne_str_none (fin_bl I q (by simp))
    | bl j => cases ry; exact PySem.EqMixed.ne_str_bool (fin_bl I q (by simp))
    | int j => obtain ⟨t', rfl⟩ := ry; exact PySem.EqMixed.ne_str_int (fin_bl I q (by simp))
    | str j => obtain ⟨t', rfl⟩ := ry; exact ne_str (fin_bl I q (congrArg not dec_str))
    | _ => exact absurd (show false = true from hs) Bool.false_ne_true
  | byt i =>
    obtain ⟨t, rfl⟩ := rx
    cases y with
    | byt j => obtain ⟨t', rfl⟩ := ry; exact PySem.W.ne_bytes (fin_bl I q (congrArg not dec_byt))
    | _ => exact absurd (show false = true from hs) Bool.false_ne_true
  | _ => cases y <;> exact absurd (show false = true from hs) Bool.false_ne_true
theorem op_lt : OpR X (compareOp .Lt) (rI0 fun i j => .bl (decide (i < j))) := opB0 fun _ _ _ _ _ _ _ q => lt_int q
theorem op_le : OpR X (compareOp .LtE) (rI0 fun i j => .bl (decide (i ≤ j))) := opB0 fun _ _ _ _ _ _ _ q => le_int q
theorem op_gt : OpR X (compareOp .Gt) (rI0 fun i j => .bl (decide (j < i))) := opB0 fun _ _ _ _ _ _ _ q => gt_int q
theorem op_ge : OpR X (compareOp .GtE) (rI0 fun i j => .bl (decide (j ≤ i))) := opB0 fun _ _ _ _ _ _ _ q => ge_int q
theorem nomark (b : Expr) {op : CmpOp} (h : op ≠ .In := by decide) (h2 : op ≠ .NotIn := by decide) : behindInMarks op b = false := by
  have e1 : (op == CmpOp.In) = false := by cases op <;> first | rfl | exact absurd rfl h
  have e2 : (op == CmpOp.NotIn) = false := by cases op <;> first | rfl | exact absurd rfl h2
  cases b <;> simp [behindInMarks, e1, e2]
theorem pe_cmpR {op : CmpOp} {r : R2} (ho : OpR X (compareOp op) r) (ha : PE X a ta) (hb : PE X b tb) (hm : behindInMarks op b = false) : PE X (.Compare a [op] [b] pos) (tOp r ta tb) := by
  intro pins s σ H Q I h
  exact wpAny_Compare1 (binT ha hb I h fun v u s2 x y H2 I2 rx ry q => ho pins s2 σ H2 x y v u Q I2 rx ry q) hm
def tTest (t : TE) : TT := fun σ H Q => t σ H fun x H' => ∃ k, x = .bl k ∧ Q k H'
theorem pt_cmpR {op : CmpOp} {r : R2} (ho : OpR X (compareOp op) r) (ha : PE X a ta) (hb : PE X b tb) (hm : behindInMarks op b = false) : PT X (.Compare a [op] [b] pos) (tTest (tOp r ta tb)) := by
  intro pins s σ H Q I h
  refine wpAny_isTrue_Compare1 (thn (ha pins s σ H _ I h) fun v s1 ⟨x, H1, I1, r1, q1⟩ => thn (hb pins s1 σ H1 _ I1 q1) fun u s2 ⟨y, H2, I2, r2, q2⟩ =>
    thn (ho pins s2 σ H2 x y v u _ I2 r1 r2 q2) fun c s3 ⟨z, H3, I3, r3, k, e, q3⟩ => ?_) hm
  subst e
  cases r3
  exact wpAny_truthy_bool ⟨H3, I3, q3⟩
def tChain (r r' : R2) (ta tb tc : TE) : TE := fun σ H Q => ta σ H fun x H1 => tb σ H1 fun y H2 => r x y H2 fun z H3 => ∃ k, z = .bl k ∧
  (if k = true then tc σ H3 fun w' H4 => r' y w' H4 Q else Q (.bl false) H3)
theorem pt_chain {op op' : CmpOp} {r r' : R2} (ho : OpR X (compareOp op) r) (ho' : OpR X (compareOp op') r') (ha : PE X a ta) (hb : PE X b tb) (hc : PE X c tc)
    (hm : lastMarks [op, op'] [b, c] = false := by with_unfolding_all rfl) : PT X (.Compare a [op, op'] [b, c] pos) (tTest (tChain r r' ta tb tc)) := by
  intro pins s σ H Q I h
  refine isTrue_chain (thn (ha pins s σ H _ I h) fun v s1 ⟨x, H1, I1, r1, q1⟩ => test_link (thn (hb pins s1 σ H1 _ I1 q1) fun u s2 ⟨y, H2, I2, r2, q2⟩ =>
    thn (ho pins s2 σ H2 x y v u _ I2 r1 r2 q2) fun d s3 ⟨z, H3, I3, r3, k, e, q3⟩ => ?_)) hm
  subst e
  cases r3
  refine wpAny_truthy_bool ?_
  cases k with
  | false =>
    obtain ⟨k', e', q'⟩ := q3
    cases e'
    exact ite_ff ⟨H3, I3, q'⟩
  | true =>
    refine ite_tt (test_last (thn (hc pins s3 σ H3 _ I3 q3) fun w' s4 ⟨z', H4, I4, r4, q4⟩ => thn (ho' pins s4 σ H4 y z' u w' _ I4 r2 r4 q4) fun d' s5 ⟨z2, H5, I5, r5, k2, e2, q5⟩ => ?_))
    subst e2
    cases r5
    exact wpAny_truthy_bool ⟨H5, I5, q5⟩
def TruV (K : PySem.W.Frag) (x : V) (H : Hp) (k : Bool) : Prop :=
  match x with
  | .non => k = false
  | .bl b => k = b
  | .int i => k = (i != 0)
  | .str y => y.length ≤ sizeLine ∧ k = ((y.length : Int) != 0)
  | .byt y => y.size ≤ sizeLine ∧ k = ((y.size : Int) != 0)
  | .ref p => (∃ xs, SqL K H p xs ∧ k = !xs.isEmpty) ∨ (∃ xs, SqT K H p xs ∧ k = !xs.isEmpty) ∨ ∃ kvs, H p = some (.dK kvs) ∧ k = !kvs.isEmpty
  | _ => False
theorem isEmpty_kv {κ : Type} {kvs : List (κ × V)} {vs : List (κ × Value)} (r : KV kvs vs) : (!vs.isEmpty) = !kvs.isEmpty := by
  cases r <;> rfl
theorem isEmpty_of {xs : List V} {its : List Value} (r : Vals xs its) : (!its.toArray.isEmpty) = !xs.isEmpty := by
  cases r <;> simp
theorem line63 : (sizeLine : Nat) < 2 ^ 63 := by rw [sizeLine_eq]; decide
theorem tru_ok : TruR X (fun x H Q => ∃ k, TruV X.K x H k ∧ Q k H) := by
  intro pins s σ H x v Q I rx h
  obtain ⟨k, e, q⟩ := h
  have hl := line63
  have hs : sizeLine = 16777216 := sizeLine_eq
  cases x with
  | non =>
    cases rx
    have e' : k = false := e
    subst e'
    exact truthy_none ⟨H, I, q⟩
  | bl b =>
    cases rx
    have e' : k = b := e
    subst e'
    exact wpAny_truthy_bool ⟨H, I, q⟩
  | int i =>
    obtain ⟨t, rfl⟩ := rx
    have e' : k = (i != 0) := e
    subst e'
    exact PySem.P.truthy_int ⟨H, I, q⟩
  | str y =>
    obtain ⟨t, rfl⟩ := rx
    obtain ⟨hy, e'⟩ : y.length ≤ sizeLine ∧ k = ((y.length : Int) != 0) := e
    subst e'
    exact PySem.P.truthy_str (by omega) ⟨H, I.tok _, q⟩
  | byt y =>
    obtain ⟨t, rfl⟩ := rx
    obtain ⟨hy, e'⟩ : y.size ≤ sizeLine ∧ k = ((y.size : Int) != 0) := e
    subst e'
    exact PySem.W.truthy_bytes (by omega) ⟨H, I.tok _, q⟩
  | ref p =>
    cases rx
    have e' : (∃ xs, SqL X.K H p xs ∧ k = !xs.isEmpty) ∨ (∃ xs, SqT X.K H p xs ∧ k = !xs.isEmpty) ∨ ∃ kvs, H p = some (.dK kvs) ∧ k = !kvs.isEmpty := e
    rcases e' with ⟨xs, hx, e'⟩ | ⟨xs, hx, e'⟩ | ⟨kvs, hx, e'⟩
    · subst e'
      obtain ⟨its, r, pl, hz⟩ := I.list hx
      have hlen := r.length
      exact wpAny_truthy_list pl.isList (by simp only [List.size_toArray]; omega) ⟨H, I.tok _, by rw [isEmpty_of r]; exact q⟩
    · subst e'
      obtain ⟨its, r, pl, hz⟩ := I.tuple hx
      have hlen := r.length
      exact truthy_tuple pl (by simp only [List.size_toArray]; omega) ⟨H, I.tok _, by rw [isEmpty_of r]; exact q⟩
    · subst e'
      obtain ⟨hz, hS, vs, r, m⟩ : kvs.length ≤ sizeLine ∧ (p == sysModules) = false ∧ ∃ vs, KV kvs vs ∧ s.heap.DictOf (mixKind X.prog X.w) p vs := I.hok p _ hx
      have hlen : kvs.length = vs.length := Paired.length r
      exact wpAny_truthy_dict hS m (by omega) ⟨H, I.tok _, by rw [isEmpty_kv r]; exact q⟩
  | _ => exact (show False from e).elim
theorem pt_truth (ha : PE X a ta) (he : ∀ whole, isTrue a X.env whole = (do let v ← whole; standAt a.pos; holding [v] (truthy v))) :
    PT X a (fun σ H Q => ta σ H fun x H' => ∃ k, TruV X.K x H' k ∧ Q k H') := by
  intro pins s σ H Q I h
  exact isTrue_plain (thn (ha pins s σ H _ I h) fun v s1 ⟨x, H1, I1, r1, q1⟩ => tru_ok pins s1 σ H1 x v Q I1 r1 q1) (he _)
theorem op_add_str : OpR X (binaryOp .Add) (fun x y H Q => ∃ i j, x = .str i ∧ y = .str j ∧ i.length + j.length ≤ sizeLine ∧ Q (.str (i ++ j)) H) := by
  intro pins s σ H x y v u Q I rx ry h
  obtain ⟨i, j, rfl, rfl, hz, q⟩ := h
  obtain ⟨t, rfl⟩ := rx
  obtain ⟨t', rfl⟩ := ry
  exact add_str (fun t' tk => ⟨.str (i ++ j), H, I.tok _, ⟨_, rfl⟩, q⟩) hz
theorem vals1 {x : V} {us : List Value} (r : Vals [x] us) : ∃ u, us = [u] ∧ RelV x u := by
  cases r with
  | cons r1 r2 => cases r2; exact ⟨_, rfl, r1⟩
theorem vals2 {x y : V} {us : List Value} (r : Vals [x, y] us) : ∃ u w', us = [u, w'] ∧ RelV x u ∧ RelV y w' := by
  cases r with
  | cons r1 r2 =>
    cases r2 with
    | cons r3 r4 => cases r4; exact ⟨_, _, rfl, r1, r3⟩
theorem call_abs : CallR X (.builtin "abs") (fun xs H Q => ∃ i, xs = [.int i] ∧ Q (.int (if i < 0 then -i else i)) H) := by
  intro pins s σ H xs us Q I r h
  obtain ⟨i, rfl, q⟩ := h
  obtain ⟨u, rfl, t, rfl⟩ := vals1 r
  exact call_abs_int fun u tk => ⟨.int (if i < 0 then -i else i), H, I.tok _, ⟨_, rfl⟩, q⟩
theorem call_max2 (hc : X.calm = true) : CallR X (.builtin "max") (fun xs H Q => ∃ i j, xs = [.int i, .int j] ∧ Q (.int (if j > i then j else i)) H) := by
  intro pins s σ H xs us Q I r h
  obtain ⟨i, j, rfl, q⟩ := h
  obtain ⟨u, w', rfl, ⟨t, rfl⟩, ⟨t', rfl⟩⟩ := vals2 r
  refine max_two_ints (I.ok.hd hc) fun h' tk k => ⟨_, H, I.kept k, ?_, q⟩
  by_cases hj : j > i
  · rw [if_pos hj, if_pos hj]; exact ⟨_, rfl⟩
  · rw [if_neg hj, if_neg hj]; exact ⟨_, rfl⟩
theorem call_min2 (hc : X.calm = true) : CallR X (.builtin "min") (fun xs H Q => ∃ i j, xs = [.int i, .int j] ∧ Q (.int (if j < i then j else i)) H) := by
  intro pins s σ H xs us Q I r h
  obtain ⟨i, j, rfl, q⟩ := h
  obtain ⟨u, w', rfl, ⟨t, rfl⟩, ⟨t', rfl⟩⟩ := vals2 r
  refine min_two_ints (I.ok.hd hc) fun h' tk k => ⟨_, H, I.kept k, ?_, q⟩
  by_cases hj : j < i
  · rw [if_pos hj, if_pos hj]; exact ⟨_, rfl⟩
  · rw [if_neg hj, if_neg hj]; exact ⟨_, rfl⟩
theorem call_int1 : CallR X (.type "int") (fun xs H Q => (∃ i, xs = [.int i] ∧ Q (.int i) H) ∨ ∃ k, xs = [.bl k] ∧ Q (.int (if k then 1 else 0)) H) := by
  intro pins s σ H xs us Q I r h
  rcases h with ⟨i, rfl, q⟩ | ⟨k, rfl, q⟩
  · obtain ⟨u, rfl, t, rfl⟩ := vals1 r
    exact call_int_int ⟨.int i, H, I, ⟨_, rfl⟩, q⟩
  · obtain ⟨u, rfl, r1⟩ := vals1 r
    cases r1
    exact call_int_bool ⟨.int (if k then 1 else 0), H, I.tok _, ⟨_, rfl⟩, q⟩
end
end L2
namespace L2
open PySem PySem.Spec PyProof.Rows
structure ObjM (h : Heap) (x dx C : Addr) (mA : Str → Option Value) : Prop where
  obj : h.get? x = some (PySem.W.instObj C dx)
  ns : h.Ns1 dx mA
  ne : dx ≠ x
theorem lookIn_ns {h : Heap} {dx : Addr} {mA : Str → Option Value} (n : h.Ns1 dx mA) : ∃ od, h.get? dx = some od ∧ ∀ name, PySem.W.lookIn name od = some (mA name) := by
  obtain ⟨o, es, ep, ho, hd, hk, _, hm⟩ := n
  refine ⟨o, ho, fun name => ?_⟩
  have e := hm name
  unfold nsFind findBy at e
  rw [← Array.find?_toList] at e
  unfold PySem.W.lookIn
  rw [hd]
  dsimp only
  split
  · rename_i y q
    rw [q] at e
    exact congrArg some e
  · rename_i q
    rw [q] at e
    have a : es.toList.any (·.refKey) = false := by
      rw [List.any_eq_false]
      intro y hy
      obtain ⟨z, t, hkey⟩ := hk y (Array.mem_toList_iff.mp hy)
      simp [DictEntry.refKey, hkey]
    have a' : ¬ es.toList.any (·.refKey) = true := by rw [a]; exact Bool.false_ne_true
    rw [if_neg a']
    exact congrArg some e
theorem ObjM.look {h : Heap} {x dx C : Addr} {mA : Str → Option Value} (I : ObjM h x dx C mA) : ∃ od, PySem.W.InstAt h x (PySem.W.instObj C dx) C (some od) ∧ ∀ name, PySem.W.lookIn name od = some (mA name) :=
  let ⟨od, ho, hl⟩ := lookIn_ns I.ns
  ⟨od, ⟨I.obj, rfl, rfl, ho⟩, hl⟩
section
variable {prog : Program} {w : World} {A : Around} {E : Value → Shared → Prop} {s : Shared} {K : PySem.W.Frag} {x dx C f : Addr} {mA : Str → Option Value} {name : Str} {v : Value}
end
section
variable {P : Program} {w : World} {H H' : Hp} {h h' : Heap} {a C dx : Addr} {fs fs' : List (Str × V)}
theorem ins_get (hok : HOk P w H h) (e : H a = some (.ins C dx fs)) : ∃ mA, ObjM h a dx C mA ∧ (∀ f, RelO (fs.lookup f) (mA f)) ∧ PySem.Within mA (fs.map (·.1)) ∧ fs.length ≤ 1000 ∧ H dx = some (.own a) := by
  obtain ⟨d, z, ne, ob, mA, n, r, q⟩ := (show ObjOk P w H h a (.ins C dx fs) from hok a _ e)
  exact ⟨mA, ⟨ob, n, ne⟩, r, q, z, d⟩
end
structure Cls (K : PySem.W.Frag) (C : Addr) : Prop where
  pg : PySem.W.plainGet K C Str.empty = true
  hd : PySem.W.hasDictIn K C = true
  po : PySem.W.plainOver K C = true
  sa : PySem.W.findIn K (.ref C) "__setattr__" = some (some (.builtin "object.__setattr__"))
theorem Cls.get {K : PySem.W.Frag} {C : Addr} (c : Cls K C) (f : Str) : PySem.W.plainGet K C f = true := c.pg
structure Con (K : PySem.W.Frag) (C : Addr) (f : Str) (v : V) (u : Value) : Prop where
  at_ : PySem.W.findIn K (.ref C) f = some (some u)
  rel : RelV v u
  get : PySem.W.specialIn K u "__get__" = some none
  cp : PySem.W.copiedNames.contains f = false
structure Meth (K : PySem.W.Frag) (C : Addr) (m : Str) (f : Addr) : Prop where
  at_ : PySem.W.findIn K (.ref C) m = some (some (.ref f))
  fn : PySem.W.isFn K (.ref f) = true
  kp : PySem.W.keepIn K (.ref f) = true
section
variable {X : Cx} {pins : List (Addr × Obj)} {σ : St} {H : Hp} {s : Shared} {a C dx : Addr} {fs : List (Str × V)} {f : Str} {v : V} {A : Around} {E : Value → Shared → Prop}
end
section
variable {X : Cx} {o e value : Expr} {f : Str} {pos pos' tpos : Pos} {ta tv : TE}
end
section
variable {X : Cx} {pins : List (Addr × Obj)} {σ : St} {H : Hp} {s : Shared} {A : Around} {E : Value → Shared → Prop} {Q : Value → Shared → Prop} {c : Value} {b : Bool}
inductive TyOf (K : PySem.W.Frag) (H : Hp) : V → Value → Prop where
  | non : TyOf K H .non (.type "NoneType")
  | bl (x : Bool) : TyOf K H (.bl x) (.type "bool")
  | int (i : Int) : TyOf K H (.int i) (.type "int")
  | str (x : Str) : TyOf K H (.str x) (.type "str")
  | flt (x : UInt64) : TyOf K H (.flt x) (.type "float")
  | lst {a : Addr} {xs : List V} (e : H a = some (.lst xs)) : TyOf K H (.ref a) (.type "list")
  | frz {a : Addr} {o : Obj} {xs : List V} (e : H a = some (.frz o (.lst xs))) : TyOf K H (.ref a) (.type "list")
  | tup {a : Addr} {xs : List V} (e : H a = some (.tup xs)) : TyOf K H (.ref a) (.type "tuple")
  | dK {a : Addr} {kvs : List (Key × V)} (e : H a = some (.dK kvs)) : TyOf K H (.ref a) (.type "dict")
  | dT {a : Addr} {kvs : List (List Key × V)} (e : H a = some (.dT kvs)) : TyOf K H (.ref a) (.type "dict")
  | ins {a C dx : Addr} {fs : List (Str × V)} (e : H a = some (.ins C dx fs)) (cl : Cls K C) (ha : PySem.W.findIn K (.ref C) "__class__" = some (some (.builtin "object.__class__")))
      (hn : PySem.W.specialIn K (.builtin "object.__class__") "__get__" = some (some (.builtin "getset_descriptor.__get__"))) (htk : PySem.W.takesIn K (.builtin "object.__class__") = some true)
      (hm : PySem.W.mroIn K C (.type "object") = some true) : TyOf K H (.ref a) (.ref C)
theorem isinst_ok {x : V} {u t : Value} (I : Inv X pins σ H s) (rx : RelV x u) (ty : TyOf X.K H x t) (e : PySem.W.kitOne X.K t c = some b) (h : ∀ tk, Q (.bool b) { s with toks := tk }) :
    wpAny (model X.prog X.w) A (call (.builtin "isinstance") [u, c]) Q E s := by
  cases ty with
  | non => cases (show u = Value.none from rx); exact PySem.W.kia_one PySem.W.kitx_none I.kIn True.intro e (fun z => nomatch z) h
  | bl y => cases (show u = Value.bool y from rx); exact PySem.W.kia_one PySem.W.kitx_bool I.kIn True.intro e (fun z => nomatch z) h
  | int i => obtain ⟨t, q⟩ := (show ∃ t, u = Value.int i t from rx); cases q; exact PySem.W.kia_one PySem.W.kitx_int I.kIn True.intro e (fun z => nomatch z) h
  | str y => obtain ⟨t, q⟩ := (show ∃ t, u = Value.str y t from rx); cases q; exact PySem.W.kia_one PySem.W.kitx_str I.kIn True.intro e (fun z => nomatch z) h
  | flt y => obtain ⟨t, q⟩ := (show ∃ t, u = Value.float y t from rx); cases q; exact PySem.W.kia_one PySem.W.kitx_float I.kIn True.intro e (fun z => nomatch z) h
  | @lst a xs ea =>
    cases (show u = Value.ref a from rx)
    obtain ⟨_, _, n, _, h1⟩ := (show ObjOk X.prog X.w H s.heap a (.lst xs) from I.hok a _ ea)
    exact PySem.W.kia_one PySem.W.kitx_list I.kIn ⟨_, h1, rfl⟩ e (fun z => nomatch z) h
  | @frz a ob xs ea =>
    cases (show u = Value.ref a from rx)
    obtain ⟨_, _, _, n, _, h1⟩ := (show ObjOk X.prog X.w H s.heap a (.frz ob (.lst xs)) from I.hok a _ ea)
    exact PySem.W.kia_one PySem.W.kitx_list I.kIn ⟨_, h1, rfl⟩ e (fun z => nomatch z) h
  | @tup a xs ea =>
    cases (show u = Value.ref a from rx)
    obtain ⟨_, _, _, p⟩ := (show ObjOk X.prog X.w H s.heap a (.tup xs) from I.hok a _ ea)
    obtain ⟨o, h1, h2, _⟩ := p
    exact PySem.W.kia_one PySem.W.kitx_tuple I.kIn ⟨o, h1, h2⟩ e (fun z => nomatch z) h
  | @dK a kvs ea =>
    cases (show u = Value.ref a from rx)
    obtain ⟨_, _, vs, _, p⟩ := (show ObjOk X.prog X.w H s.heap a (.dK kvs) from I.hok a _ ea)
    obtain ⟨o, es, ep, h1, h2, _⟩ := p
    exact PySem.W.kia_one PySem.W.kitx_dict I.kIn ⟨o, h1, h2.1⟩ e (fun z => nomatch z) h
  | @dT a kvs ea =>
    cases (show u = Value.ref a from rx)
    obtain ⟨_, _, xs, _, o, es, ep, h1, h2, _⟩ := (show ObjOk X.prog X.w H s.heap a (.dT kvs) from I.hok a _ ea)
    exact PySem.W.kia_one PySem.W.kitx_dict I.kIn ⟨o, h1, h2.1⟩ e (fun z => nomatch z) h
  | @ins a C dx fs ea cl ha hn htk hm =>
    cases (show u = Value.ref a from rx)
    obtain ⟨mA, O, _⟩ := ins_get I.hok ea
    obtain ⟨od, J, _⟩ := O.look
    exact PySem.W.kia_one (PySem.W.kitx_own (cl.get _) cl.hd ha hn htk hm) I.kIn J e (fun z => nomatch z) h
end
end L2
namespace L2
open PySem PySem.Spec PyProof.Rows
structure Room (k : Nat) (A : Around) : Prop where
  hd : A.handled = none
  dp : A.depth + 3 * k + 5 < recursionLimit
  un : A.units + 16 * k + 200 < cLine
  gd : A.guards = some []
theorem Room.mono {j k : Nat} {A : Around} (r : Room k A) (h : j ≤ k) : Room j A := ⟨r.hd, by have := r.dp; omega, by have := r.un; omega, r.gd⟩
theorem Room.deeper {k : Nat} {A : Around} (r : Room (k + 1) A) (env : Env) : Room k (A.deeper env) :=
  ⟨r.hd, by have := r.dp; show A.depth + 1 + 3 * k + 5 < _; omega, by have := r.un; show A.units + 3 + 16 * k + 200 < _; omega, by have := r.gd; first | exact this | simp [Around.deeper, this, pushGuards]⟩
theorem Room.depth {k : Nat} {A : Around} (r : Room k A) : A.depth < recursionLimit := by have := r.dp; omega
theorem Room.units {k : Nat} {A : Around} (r : Room k A) : A.units + 64 < cLine := by have := r.un; omega
theorem Room.units0 {k : Nat} {A : Around} (r : Room k A) : A.units < cLine := by have := r.un; omega
def tNil : TA := fun _ H Q => Q [] H
def tCons (ta : TE) (tr : TA) : TA := fun σ H Q => ta σ H fun x H1 => tr σ H1 fun xs H2 => Q (x :: xs) H2
section
variable {X : Cx} {e : Expr} {es : List Expr} {te : TE} {t : TA} {pos : Pos}
theorem pa_nil : PA X [] tNil := fun _ _ _ _ H Q I h => Calls.spliced_nil ⟨[], H, I, .nil, h⟩
theorem pa_cons (ha : PE X e te) (hr : PA X es t) (hs : starEach (e :: es) X.env = (false, eval e X.env) :: starEach es X.env := by rfl) : PA X (e :: es) (tCons te t) := by
  intro pos pins s σ H Q I h
  rw [hs]
  show wpAny _ _ (spliced ((false, eval e X.env) :: backTo pos (starEach es X.env))) _ _ s
  refine Calls.spliced_cons (thn (ha pins s σ H _ I h) fun u s1 ⟨x, H1, I1, r1, q1⟩ => ?_)
  exact thn (hr pos pins s1 σ H1 _ I1 q1) fun us s2 ⟨xs, H2, I2, r2, q2⟩ => ⟨x :: xs, H2, I2, .cons r1 r2, q2⟩
def tTup (t : TA) : TE := fun σ H Q => t σ H fun xs H1 => xs.length ≤ sizeLine ∧ ∀ p, H1 p = none → Q (.ref p) (upd H1 p (.tup xs))
def tLst (t : TA) : TE := fun σ H Q => t σ H fun xs H1 => xs.length ≤ sizeLine ∧ ∀ p, H1 p = none → Q (.ref p) (upd H1 p (.lst xs))
theorem pe_tup {x1} (h : PA X es t) : PE X (.Tuple es x1 pos) (tTup t) := by
  intro pins s σ H Q I hq
  refine wpAny_Tuple_spliced (thn (h pos pins s σ H _ I hq) fun us s1 ⟨xs, H1, I1, r, z, q⟩ => ⟨by rw [← r.length]; exact z, ?_⟩)
  have hf : H1 s1.heap.objs.size = none := I1.hok.fresh (Nat.le_refl _)
  refine ⟨.ref s1.heap.objs.size, upd H1 s1.heap.objs.size (.tup xs), I1.laid (t' := s1.toks) (fun b u e => Heap.get?_push_of_some _ e) (Nat.le_refl _) ?_, rfl, q _ hf⟩
  exact ⟨⟨z, nod_push _ _⟩, us, r, ⟨_, Heap.get?_push_size _ rfl, rfl, _, rfl⟩⟩
theorem pe_lst (h : PA X es t) : PE X (.List es pos) (tLst t) := by
  intro pins s σ H Q I hq
  refine wpAny_List_spliced (thn (h pos pins s σ H _ I hq) fun us s1 ⟨xs, H1, I1, r, z, q⟩ => ⟨by rw [← r.length]; exact z, ?_⟩)
  have hf : H1 s1.heap.objs.size = none := I1.hok.fresh (Nat.le_refl _)
  refine ⟨.ref s1.heap.objs.size, upd H1 s1.heap.objs.size (.lst xs), I1.laid (t' := s1.toks) (fun b u e => Heap.get?_push_of_some _ e) (Nat.le_refl _) ?_, rfl, q _ hf⟩
  exact ⟨z, us, 0, r, Heap.get?_push_size _ rfl⟩
end
abbrev Sp := List V → Hp → VK → XK → Prop
abbrev CXT := List Env → Hp → Shared → XK → Value → Shared → Prop
structure Env0 (P : Program) (w : World) (K : PySem.W.Frag) (mg : Str → Option Value) (base : Heap) (A : Around) (outer : List Env) (s : Shared) (H : Hp) : Prop where
  frames : A.frames = some outer
  mod : Mod K mg base
  bs : ∀ b o, base.get? b = some o → s.heap.get? b = some o ∧ H b = none
  bsz : base.objs.size ≤ s.heap.objs.size
  funs : s.heap.FunFrames base outer
  frf : ∀ b ∈ frs outer, H b = none
  hok : HOk P w H s.heap
  bare : AllBare s.gens
def CE (outer : List Env) (P : Program) (w : World) (H : Hp) (s : Shared) (Q : VK) (u : Value) (s' : Shared) : Prop :=
  ∃ v H', s'.os = s.os ∧ AllBare s'.gens ∧ Un (frs outer) [] H H' s.heap s'.heap ∧ HOk P w H' s'.heap ∧ RelV v u ∧ Q v H'
def CR (CX : CXT) (outer : List Env) (P : Program) (w : World) (H : Hp) (s : Shared) (Q : VK) (E : XK) (r : Result) (s' : Shared) : Prop :=
  match r with
  | .ok (.ret u) => CE outer P w H s Q u s'
  | .ok _ => False
  | .error e => CX outer H s E e s'
structure FnOk (P : Program) (w : World) (K : PySem.W.Frag) (mg : Str → Option Value) (base : Heap) (CX : CXT) (k : Nat) (f : Addr) (fd : FuncData) (ps : List Str) (sp : Sp) : Prop where
  len : ∀ vs H Q E, sp vs H Q E → vs.length = ps.length
  run : ∀ (A : Around) (outer : List Env) (s : Shared) (H : Hp) (args : Args) (us : List Value) (vs : List V) (Q : VK) (E : XK), Room k A → Env0 P w K mg base A outer s H → BindsTo s fd args (ps.zip us) → Vals vs us → sp vs H Q E →
    codeAny (model P w) A (.call (.ref f) args) (CR CX outer P w H s Q E) s
section
variable {X : Cx} {pins : List (Addr × Obj)} {σ : St} {H : Hp} {s s' : Shared}
theorem Inv.env0 (I : Inv X pins σ H s) : Env0 X.prog X.w X.K X.mg X.base X.A X.stack s H :=
  ⟨I.ok.frames, I.ok.mod, I.bs, Nat.le_trans I.ok.bsz I.sz, I.stack, I.stkFree, I.hok, I.bare⟩
theorem Inv.after {Q : VK} {u : Value} (I : Inv X pins σ H s) (h : CE X.stack X.prog X.w H s Q u s') : EP X pins σ Q u s' := by
  obtain ⟨v, H', os, bare, un, hok, r, q⟩ := h
  obtain ⟨hh, g, d, t, os'⟩ := s'
  obtain rfl : os' = s.os := os
  exact ⟨v, H', I.call (h' := hh) (g' := g) (d' := d) (t' := t) (ch := []) un hok bare (fun b z => absurd z (by simp)), r, q⟩
end
def tCall (sp : Sp) (dvs : List V) (E : XK) (t : TA) : TE := fun σ H Q => t σ H fun vs H1 => sp (vs ++ dvs) H1 Q E
def Binds (K : PySem.W.Frag) (fd : FuncData) (ps : List Str) (ds : List Value) : Prop :=
  ∀ (s : Shared) (us : List Value), K.In s.heap → (us ++ ds).length = ps.length → BindsTo s fd ⟨us, []⟩ (ps.zip (us ++ ds))
theorem Binds.all {K : PySem.W.Frag} {fd : FuncData} {ps : List Str} (h : ∀ us : List Value, us.length = ps.length → bindArgs fd ⟨us, []⟩ = pure (ps.zip us)) : Binds K fd ps [] := fun s us _ hl => by
  rw [List.append_nil] at hl ⊢
  exact .of_eq (h us hl)
def Passes (CX : CXT) (X : Cx) (E : XK) : Prop := ∀ (pins : List (Addr × Obj)) (σ : St) (H : Hp) (s : Shared) (e : Value) (s' : Shared), Inv X pins σ H s → CX X.stack H s E e s' → X.xe e s'
section
variable {X : Cx} {CX : CXT} {k : Nat} {f C : Addr} {fd : FuncData} {ps : List Str} {sp : Sp} {dvs : List V} {ds : List Value} {E : XK} {x m : Str} {p pos apos : Pos} {e o : Expr} {es : List Expr} {ta : TE} {t : TA}
theorem run_fn {pins : List (Addr × Obj)} {σ : St} {H : Hp} {s : Shared} {Q : VK} {us : List Value} {vs : List V} (F : FnOk X.prog X.w X.K X.mg X.base CX k f fd ps sp) (hr : Room k X.A) (hb : Binds X.K fd ps ds) (hd : Vals dvs ds) (hx : Passes CX X E)
    (I : Inv X pins σ H s) (r : Vals vs us) (h : sp (vs ++ dvs) H Q E) : wpAny (model X.prog X.w) X.A (call (.ref f) us) (EP X pins σ Q) X.xe s := by
  have r2 : Vals (vs ++ dvs) (us ++ ds) := r.append hd
  have hl : (us ++ ds).length = ps.length := by rw [← r2.length]; exact F.len _ _ _ _ h
  refine wpAny_call (codeAny_mono (F.run X.A X.stack s H ⟨us, []⟩ (us ++ ds) (vs ++ dvs) Q E hr I.env0 (hb s us I.kIn hl) r2 h) fun r s' hq => ?_)
  cases r with
  | error e => exact hx pins σ H s e s' I hq
  | ok fl =>
    cases fl with
    | ret u => exact I.after hq
    | next => exact False.elim hq
    | brk => exact False.elim hq
    | cont => exact False.elim hq
theorem pe_call (F : FnOk X.prog X.w X.K X.mg X.base CX k f fd ps sp) (hr : Room k X.A) (hg : Gl X x) (hm : X.mg x = some (.ref f)) (hk : PySem.W.keepIn X.K (.ref f) = true) (hb : Binds X.K fd ps ds) (hd : Vals dvs ds) (hx : Passes CX X E)
    (ha : PA X (e :: es) t) (hdb : (x == ("__debug__" : Str)) = false := by decide) (he : starEach (e :: es) X.env = (false, eval e X.env) :: starEach es X.env := by rfl) (hpl : (backTo pos (starEach es X.env)).any (·.1) = false := by rfl) :
    PE X (.Call (.Name x p) (e :: es) [] pos) (tCall sp dvs E t) := by
  intro pins s σ H Q I h
  refine wpAny_Call_Name_kw (ld_glob I hg hm ?_ hdb)
  refine PySem.W.callWith_K (h₀ := X.base) I.ok.mod.kin hk (thn (ha pos pins s σ H _ I h) fun us s1 ⟨vs, H1, I1, r, q⟩ => ⟨I1.kIn, ?_⟩) he hpl
  exact run_fn F hr hb hd hx I1 r q
structure Mk (K : PySem.W.Frag) (C f : Addr) : Prop where
  makes : PySem.W.makesIn K C = true
  init : PySem.W.findIn K (.ref C) "__init__" = some (some (.ref f))
  fn : PySem.W.isFn K (.ref f) = true
  kp : PySem.W.keepIn K (.ref C) = true
end
section
variable {X : Cx} {CX : CXT} {k : Nat} {f C : Addr} {fd : FuncData} {ps ks : List Str} {sp : Sp} {E : XK} {x m : Str} {p pos apos kpos : Pos} {e o : Expr} {es : List Expr} {kws : List Keyword} {te ta : TE} {t tk : TA} {nm : Option Str}
structure KBinds (K : PySem.W.Frag) (fd : FuncData) (ps ks : List Str) (g : List Value → List Value → List Value) (gV : List V → List V → List V) : Prop where
  to : ∀ (s : Shared) (us ws : List Value), K.In s.heap → (g us ws).length = ps.length → BindsTo s fd ⟨us, ks.zip ws⟩ (ps.zip (g us ws))
  rel : ∀ {vs : List V} {us : List Value} {zs : List V} {ws : List Value}, Vals vs us → Vals zs ws → Vals (gV vs zs) (g us ws)
variable {g : List Value → List Value → List Value} {gV : List V → List V → List V}
end
structure FnScope (N P : List Str) (sc : Scope) : Prop where
  kind : sc.kind = .function
  co : sc.isCoroutine = false
  gen : sc.isGenerator = false
  nd : N.Nodup
  pre : N.take P.length = P
  par : ∀ x ∈ P, sc.names.lookup x = some .local ∨ sc.names.lookup x = some .cell
  nofree : ∀ y ∈ sc.names, y.2 ≠ .free
theorem bindL_out {kindOf : Str → Option NameKind} {x : Str} : ∀ {binds : List (Str × Value)} {m : Str → Option Value}, (∀ v, (x, v) ∉ binds) → bindL kindOf binds m x = m x
  | [], _, _ => rfl
  | (n, v) :: r, m, h => by
    unfold bindL
    rw [bindL_out fun w hw => h w (List.mem_cons_of_mem _ hw)]
    split
    · have : x ≠ n := by rintro rfl; exact h v List.mem_cons_self
      simp [this]
    · rfl
theorem bindC_out {kindOf : Str → Option NameKind} {x : Str} : ∀ {binds : List (Str × Value)} {m : Str → Option Value}, (∀ v, (x, v) ∉ binds) → bindC kindOf binds m x = m x
  | [], _, _ => rfl
  | (n, v) :: r, m, h => by
    unfold bindC
    rw [bindC_out fun w hw => h w (List.mem_cons_of_mem _ hw)]
    split
    · rfl
    · have : x ≠ n := by rintro rfl; exact h v List.mem_cons_self
      simp [this]
theorem bindL_get {kindOf : Str → Option NameKind} {x : Str} {v : Value} : ∀ {P : List Str} {vs : List Value} {i : Nat} {m : Str → Option Value}, P.Nodup → P[i]? = some x → vs[i]? = some v → kindOf x = some .local →
    bindL kindOf (P.zip vs) m x = some v
  | [], _, _, _, _, h, _, _ => by simp at h
  | _ :: _, [], _, _, _, _, h, _ => by simp at h
  | p :: P, w :: vs, 0, m, nd, h1, h2, hk => by
    simp at h1 h2; subst h1; subst h2
    show bindL kindOf ((p, w) :: P.zip vs) m p = _
    unfold bindL
    rw [bindL_out fun v hv => (List.nodup_cons.mp nd).1 (List.of_mem_zip hv).1, if_pos hk]
    simp
  | p :: P, w :: vs, i + 1, m, nd, h1, h2, hk => by
    show bindL kindOf ((p, w) :: P.zip vs) m x = _
    unfold bindL
    exact bindL_get (i := i) (List.nodup_cons.mp nd).2 (by simpa using h1) (by simpa using h2) hk
theorem bindC_get {kindOf : Str → Option NameKind} {x : Str} {v : Value} : ∀ {P : List Str} {vs : List Value} {i : Nat} {m : Str → Option Value}, P.Nodup → P[i]? = some x → vs[i]? = some v → kindOf x ≠ some .local →
    bindC kindOf (P.zip vs) m x = some v
  | [], _, _, _, _, h, _, _ => by simp at h
  | _ :: _, [], _, _, _, _, h, _ => by simp at h
  | p :: P, w :: vs, 0, m, nd, h1, h2, hk => by
    simp at h1 h2; subst h1; subst h2
    show bindC kindOf ((p, w) :: P.zip vs) m p = _
    unfold bindC
    rw [bindC_out fun v hv => (List.nodup_cons.mp nd).1 (List.of_mem_zip hv).1, if_neg hk]
    simp
  | p :: P, w :: vs, i + 1, m, nd, h1, h2, hk => by
    show bindC kindOf ((p, w) :: P.zip vs) m x = _
    unfold bindC
    exact bindC_get (i := i) (List.nodup_cons.mp nd).2 (by simpa using h1) (by simpa using h2) hk
def start (N : List Str) (vs : List V) : St := vs.map some ++ List.replicate (N.length - vs.length) none
def cxOf (CX : CXT) (P : Program) (w : World) (K : PySem.W.Frag) (mg : Str → Option Value) (base : Heap) (N : List Str) (qual : Str) (scope : Scope) (f : Addr) (cd : Value) (A : Around) (outer : List Env) (s : Shared) (H : Hp) (E : XK) : Cx where
  prog := P
  w := w
  K := K
  mg := mg
  base := base
  A := A.deeper (envOfC qual scope s.heap.objs.size f cd)
  N := N
  s₀ := s
  H₀ := H
  env := envOfC qual scope s.heap.objs.size f cd
  outer := outer
  stack := envOfC qual scope s.heap.objs.size f cd :: outer
  ex := []
  calm := true
  fn := fun _ => true
  pn := []
  xe := fun e s' => wpAny (model P w) (A.deeper (envOfC qual scope s.heap.objs.size f cd)) (leaving (envOfC qual scope s.heap.objs.size f cd) e) (fun _ s'' => CX outer H s E e s'') (fun e' s'' => CX outer H s E e' s'') s'
theorem cell_has {sc : Scope} {n : Nat} {x : Str} (h : sc.names.lookup x = some .cell) : ∃ c, (cellsFrom n sc.names []).lookup x = some c := by
  have q := PySem.W.cellsFrom_some sc.names n [] (.inl h)
  exact Option.isSome_iff_exists.mp q
theorem inv_start {CX : CXT} {P : Program} {w : World} {K : PySem.W.Frag} {mg : Str → Option Value} {base : Heap} {N ps : List Str} {qual : Str} {scope : Scope} {f : Addr} {cd : Value} {A : Around} {outer : List Env} {s s1 : Shared} {H : Hp} {E : XK} {us : List Value} {vs : List V}
    (S : FnScope N ps scope) (hd : A.handled = none) (e0 : Env0 P w K mg base A outer s H) (hl : vs.length = ps.length) (r : Vals vs us)
    (x : InCallC s s.heap.objs.size (bindL (envOfC qual scope s.heap.objs.size f cd).kindOf (ps.zip us) fun _ => none) (cellsFrom (s.heap.objs.size + 1) scope.names []) (bindC (envOfC qual scope s.heap.objs.size f cd).kindOf (ps.zip us) fun _ => none) s1) :
    Inv (cxOf CX P w K mg base N qual scope f cd A outer s H E) [] (start N vs) H s1 := by
  have hpl : ps.length ≤ N.length := by have := congrArg List.length S.pre; rw [List.length_take] at this; omega
  obtain ⟨h1, tk, rfl, hk⟩ := x.done
  have noA : ∀ b : Addr, b ∉ (cxOf CX P w K mg base N qual scope f cd A outer s H E).ex := fun b z => absurd (show b ∈ ([] : List Addr) from z) (by simp)
  refine ⟨⟨e0.mod, S.kind, rfl, rfl, Nat.le_refl _, fun y z c h1 h2 => ?_, fun y hy => ?_, fun y c _ h => ?_, fun _ => hd, Around.frames_deeper e0.frames, .inr ⟨rfl, rfl⟩, fun b z => absurd z (noA b), e0.bs, e0.bsz, fun b _ _ => noA b, fun b z => absurd z (noA b), e0.funs, e0.frf⟩,
    rfl, e0.bare, Un.kept hk, ⟨_, x.toInCall.ns, fun i y v h1 h2 h3 => ?_⟩, fun y c h => ⟨_, x.cell y c h⟩, e0.hok.fresh (Nat.le_refl _), fun y c h => ?_, fun p hp => absurd (show p ∈ ([] : List (Addr × Obj)) from hp) (by simp), e0.hok.kept hk, ?_⟩
  · exact name_of_addr x.apart (PySem.mem_of_lookup h1) (PySem.mem_of_lookup h2)
  · have hy : scope.names.lookup y = some .cell ∨ scope.names.lookup y = some .free := hy
    rcases hy with hy | hy
    · exact cell_has hy
    · exact absurd rfl (S.nofree _ (PySem.mem_of_lookup hy))
  · exact Nat.le_of_lt (x.above y c (PySem.mem_of_lookup h))
  · have hi : i < vs.length := by
      unfold start at h2
      by_cases hi : i < vs.length
      · exact hi
      · rw [List.getElem?_append_right (by simpa using hi)] at h2
        rw [List.getElem?_replicate] at h2
        split at h2 <;> cases h2
    have ha : vs[i]? = some v := by
      unfold start at h2
      rw [List.getElem?_append_left (by simpa using hi), List.getElem?_map] at h2
      cases e : vs[i]? with
      | none => rw [e] at h2; cases h2
      | some a => rw [e] at h2; cases h2; rfl
    obtain ⟨u, hu, rv⟩ := r.get ha
    have hp : ps[i]? = some y := by
      rw [← S.pre, List.getElem?_take_of_lt (by omega)]; exact h1
    have ndP : ps.Nodup := by rw [← S.pre]; exact S.nd.sublist (List.take_sublist _ _)
    refine ⟨u, rv, ?_⟩
    rcases S.par y (List.mem_of_getElem? hp) with k | k
    · exact .inl ⟨k, bindL_get ndP hp hu k⟩
    · obtain ⟨c, e⟩ := cell_has (n := s.heap.objs.size + 1) k
      refine .inr ⟨.inl k, c, e, ?_⟩
      have q := x.cell y c e
      rw [bindC_get ndP hp hu (by show scope.names.lookup y ≠ _; rw [k]; decide)] at q
      exact q
  · exact e0.hok.fresh (Nat.le_of_lt (x.above y c (PySem.mem_of_lookup h)))
  · unfold start
    show _ = N.length
    rw [List.length_append, List.length_map, List.length_replicate]
    omega
theorem fn_of {CX : CXT} {P : Program} {w : World} {K : PySem.W.Frag} {mg : Str → Option Value} {base : Heap} {k : Nat} {f : Addr} {name qual : Str} {params : Arguments} {body : List Stmt} {scope : Scope} {dV kV doc pm cdv ct oc : Value} {an od : Option Addr}
    {osl : Array (Option Value)} {N ps : List Str} {sp : Sp} (lk : K.lookup f = some ⟨oc, od, .func (PySem.W.fnOf name qual params body scope dV kV doc pm an cdv ct), osl⟩) (hcd : PySem.W.codeIn K cdv qual = true) (S : FnScope N ps scope)
    (len : ∀ vs H Q E, sp vs H Q E → vs.length = ps.length)
    (hbody : ∀ (A : Around) (outer : List Env) (s : Shared) (H : Hp) (vs : List V) (Q : VK) (E : XK), Room k (A.deeper (envOfC qual scope s.heap.objs.size f cdv)) → sp vs H Q E →
      ∃ t, PSs (cxOf CX P w K mg base N qual scope f cdv A outer s H E) body t ∧ t { nx := fun _ H' => Q .non H', rt := Q } (start N vs) H) :
    FnOk P w K mg base CX (k + 1) f (PySem.W.fnOf name qual params body scope dV kV doc pm an cdv ct) ps sp := by
  refine ⟨len, fun A outer s H args us vs Q E hr e0 hb r hsp => ?_⟩
  have hl := len _ _ _ _ hsp
  have KX : K.In s.heap := e0.mod.kin.keeps fun b o e => (e0.bs b o e).1
  have lim : s.heap.NoLimit := e0.mod.nolimit.keeps fun b o e => (e0.bs b o e).1
  have hkind : ∀ y ∈ ps.zip us, scope.names.lookup y.1 = some .local ∨ (scope.names.lookup y.1 = some .cell ∧ ((cellsFrom (s.heap.objs.size + 1) scope.names []).lookup y.1).isSome = true) := fun ⟨n, v⟩ hy => by
    rcases S.par n (List.of_mem_zip hy).1 with q | q
    · exact .inl q
    · exact .inr ⟨q, PySem.W.cellsFrom_some _ _ _ (.inl q)⟩
  refine codeAny_call_function hr.depth (KX _ _ lk) rfl S.co S.gen rfl (PySem.W.codeRec_of KX hcd) (hb _ _ _ _ ?_)
  refine wpAny_newFunctionEnv_cells S.kind hkind fun env he s1 x => ?_
  subst he
  refine ⟨lim.keeps x.toInCall.keep, codeAny_func ?_⟩
  obtain ⟨t, ht, hq⟩ := hbody A outer s H vs Q E (hr.deeper _) hsp
  have I : Inv (cxOf CX P w K mg base N qual scope f cdv A outer s H E) [] (start N vs) H s1 := inv_start S hr.hd e0 hl r x
  refine wpAny_mono (ht [] s1 (start N vs) H _ I hq) (fun fl s' hs => ?_) fun e s' hs => hs
  have fin : ∀ {σ' : St} {H' : Hp} {v : V} {u : Value}, Inv (cxOf CX P w K mg base N qual scope f cdv A outer s H E) [] σ' H' s' → RelV v u → Q v H' → CE outer P w H s Q u s' :=
    fun {σ' H' v u} J rv q => ⟨v, H', J.os, J.bare, J.base, J.hok, rv, q⟩
  cases fl with
  | ret u =>
    obtain ⟨v, σ', H', J, rv, q⟩ := hs
    exact fin J rv q
  | next =>
    obtain ⟨σ', H', J, q⟩ := hs
    exact fin (v := V.non) (u := Value.none) J rfl q
  | brk =>
    obtain ⟨_, _, _, q⟩ := hs
    exact False.elim q
  | cont =>
    obtain ⟨_, _, _, q⟩ := hs
    exact False.elim q
end L2
namespace L2
open PySem PySem.Spec PyProof.Rows
section
variable {X : Cx} {x : Str} {p pos : Pos} {e : Expr} {es : List Expr} {t : TA} {id T : String} {r : List V → Hp → VK → Prop}
def tCB (r : List V → Hp → VK → Prop) (t : TA) : TE := fun σ H Q => t σ H fun vs H1 => r vs H1 Q
theorem pe_callB (hc : CallR X (.builtin id) r) (hg : Gl X x) (hm : X.mg x = none) (hv : bootBuiltins x = some (.builtin id)) (ha : PA X (e :: es) t) (hn : x ≠ "__name__" := by decide) (hdb : (x == ("__debug__" : Str)) = false := by decide)
    (he : starEach (e :: es) X.env = (false, eval e X.env) :: starEach es X.env := by rfl) (hpl : (backTo pos (starEach es X.env)).any (·.1) = false := by rfl) : PE X (.Call (.Name x p) (e :: es) [] pos) (tCB r t) := by
  intro pins s σ H Q I h
  refine wpAny_Call_Name_kw (ld_blt I hg hm hv ?_ hn hdb)
  exact PyProof.Rows.callWith_builtin1 (thn (ha pos pins s σ H _ I h) fun us s1 ⟨vs, H1, I1, r1, q1⟩ => hc pins s1 σ H1 vs us Q I1 r1 q1) he hpl
theorem pe_callTy (hc : CallR X (.type T) r) (hg : Gl X x) (hm : X.mg x = none) (hv : bootBuiltins x = some (.type T)) (ha : PA X (e :: es) t) (hn : x ≠ "__name__" := by decide) (hdb : (x == ("__debug__" : Str)) = false := by decide)
    (he : starEach (e :: es) X.env = (false, eval e X.env) :: starEach es X.env := by rfl) (hpl : (backTo pos (starEach es X.env)).any (·.1) = false := by rfl) : PE X (.Call (.Name x p) (e :: es) [] pos) (tCB r t) := by
  intro pins s σ H Q I h
  refine wpAny_Call_Name_kw (ld_blt I hg hm hv ?_ hn hdb)
  exact PyProof.Rows.callWith_type1 (thn (ha pos pins s σ H _ I h) fun us s1 ⟨vs, H1, I1, r1, q1⟩ => hc pins s1 σ H1 vs us Q I1 r1 q1) he hpl
end
end L2
end
section
namespace HT
open PySem PyProof.Rows
section
open PySem.SeqAt
open PySem.AutoSeq1 (wpAny_loadPart')
open PySem.MeetsSeq PySem.MeetsSeq2 PySem.MeetsSeq3
end
section
variable {prog : Program} {w : World} {A : Around} {E : Value → Shared → Prop} {s : Shared}
theorem cat_tup {t b : Addr} {vs ws : List Value} {Q : Value → Shared → Prop} (ht : IsTup s.heap t vs.toArray) (hb : IsTup s.heap b ws.toArray) (hv : vs ≠ [])
    (h1 : ws = [] → Q (.ref t) s) (h2 : ws ≠ [] → Q (.ref s.heap.objs.size) { s with heap := s.heap.push { cls := .type "tuple", data := .seq (vs ++ ws).toArray } })
    (hsz : vs.length + ws.length ≤ sizeLine) : wpAny (model prog w) A (binaryOp .Add (.ref t) (.ref b)) Q E s := by
  obtain ⟨⟨cls, dd, data, sl⟩, ho, hc, n, hd⟩ := id ht
  obtain ⟨⟨cls2, dd2, data2, sl2⟩, ho2, hc2, n2, hd2⟩ := id hb
  simp only at hc hd hc2 hd2
  subst hc hd hc2 hd2
  have e : vs.toArray ++ ws.toArray = (vs ++ ws).toArray := by simp
  by_cases hw : ws = []
  · exact concat_meets ⟨_, ho, rfl⟩ ⟨_, ho2, rfl⟩ noFill_tuple_add seq_tuple_add PySem.F.slot_tuple_add PySem.F.entry_tuple_add (PySem.F.args_tuple_add_2 _ _)
      (tuple_addW1 t b vs.toArray ws.toArray n n2 dd dd2 sl sl2 (by simpa using hv) (by simp [hw])) ⟨ho, ho2, h1 hw⟩
  · refine concat_meets ⟨_, ho, rfl⟩ ⟨_, ho2, rfl⟩ noFill_tuple_add seq_tuple_add PySem.F.slot_tuple_add PySem.F.entry_tuple_add (PySem.F.args_tuple_add_2 _ _)
      (tuple_addW2 t b vs.toArray ws.toArray n n2 dd dd2 sl sl2 (by simpa using hv) (by simpa using hw) (by rw [List.size_toArray, List.size_toArray]; exact hsz)) ⟨ho, ho2, ?_⟩
    rw [e]
    exact h2 hw
def sIx (n d : Nat) : Option Int → Nat
  | none => d
  | some v => if v < 0 then (v + (n : Int)).toNat else min v.toNat n
theorem sIx_none (n d : Nat) : sIx n d none = d := rfl
theorem sIx_nat (n d k : Nat) : sIx n d (some (k : Int)) = min k n := by
  show (if (k : Int) < 0 then ((k : Int) + (n : Int)).toNat else min (k : Int).toNat n) = min k n
  rw [if_neg (by omega), Int.toNat_natCast]
theorem sIx_le (n d : Nat) (hd : d ≤ n) (o : Option Int) : sIx n d o ≤ n := by
  cases o with
  | none => exact hd
  | some v =>
    show (if v < 0 then (v + (n : Int)).toNat else min v.toNat n) ≤ n
    by_cases hv : v < 0
    · rw [if_pos hv]; omega
    · rw [if_neg hv]; exact Nat.min_le_right _ _
theorem clip_eq (v : Int) (n d : Nat) : (if v < 0 then max (v + (n : Int)) 0 else min v (n : Int)) = ((sIx n d (some v) : Nat) : Int) := by
  show (if v < 0 then max (v + (n : Int)) 0 else min v (n : Int)) = (((if v < 0 then (v + (n : Int)).toNat else min v.toNat n) : Nat) : Int)
  by_cases hv : v < 0
  · simp only [if_pos hv]; omega
  · simp only [if_neg hv]; omega
theorem adjust_gen (lo hi : Option Int) (n : Nat) : Builtin.Slice.sliceAdjust lo hi 1 (n : Int) = (((sIx n 0 lo : Nat) : Int), ((sIx n n hi : Nat) : Int)) := by
  have h1 : ¬ ((1 : Int) < 0) := by omega
  unfold Builtin.Slice.sliceAdjust
  simp only [h1, if_false]
  refine Prod.ext ?_ ?_
  · cases lo with
    | none => rfl
    | some v => exact clip_eq v n 0
  · cases hi with
    | none => rfl
    | some v => exact clip_eq v n n
theorem places_gen (i j : Nat) : Builtin.Slice.slicePlaces (i : Int) (j : Int) 1 = j - i := by
  unfold Builtin.Slice.slicePlaces
  have h1 : (1 : Int) > 0 := by omega
  simp only [h1, if_true, Int.ediv_one]
  split <;> omega
theorem slicePart_ {v : Value} {o : Option Int} {Q : Option Int → Shared → Prop} (p : IsPart v o) (h : Q o s) : wpAny (model prog w) A (Builtin.Slice.slicePartIndex v) Q E s := by
  cases p with
  | none => exact slicePart_none h
  | int i t => exact slicePart_int h
theorem sliceApplied_gen {sl : Addr} {vl vu : Value} {lo hi : Option Int} {n : Nat} {Q : Int × Int × Nat → Shared → Prop} (hs : s.heap.IsSliceOf sl vl vu .none) (pl : IsPart vl lo) (pu : IsPart vu hi)
    (h : Q (((sIx n 0 lo : Nat) : Int), 1, sIx n n hi - sIx n 0 lo) s) : wpAny (model prog w) A (Builtin.Slice.sliceApplied (.ref sl) (pure (n : Int))) Q E s := by
  obtain ⟨os, hos, hcs, hds⟩ := id hs
  unfold Builtin.Slice.sliceApplied Builtin.Slice.sliceFields
  refine wpAny_bind (wpAny_bind (wpAny_field hos hds (x := vl) rfl (wpAny_bind (wpAny_field hos hds (x := vu) rfl (wpAny_bind (wpAny_field hos hds (x := .none) rfl (wpAny_pure ?_)))))))
  refine wpAny_bind (slicePart_none ?_)
  show wpAny _ _ (if ((1 : Int) == 0) = true then _ else _) _ _ s
  rw [if_neg (by decide)]
  refine wpAny_bind (slicePart_ pl (wpAny_bind (slicePart_ pu (wpAny_bind (wpAny_pure ?_)))))
  show wpAny _ _ (match Builtin.Slice.sliceAdjust lo hi 1 (n : Int) with | (lo, hi) => pure (lo, (1 : Int), Builtin.Slice.slicePlaces lo hi 1)) _ _ s
  rw [adjust_gen lo hi n]
  show wpAny _ _ (pure (((sIx n 0 lo : Nat) : Int), (1 : Int), Builtin.Slice.slicePlaces ((sIx n 0 lo : Nat) : Int) ((sIx n n hi : Nat) : Int) 1)) _ _ s
  rw [places_gen]
  exact wpAny_pure h
theorem pick_gen (xs : Array Value) (i k : Nat) : ((List.range k).filterMap fun (m : Nat) => xs[((i : Int) + (m : Int) * 1).toNat]?).toArray = ((xs.toList.drop i).take k).toArray := by
  have e : (fun (m : Nat) => xs[((i : Int) + (m : Int) * 1).toNat]?) = fun m => xs[i + m]? := by
    funext m
    have : ((i : Int) + (m : Int) * 1).toNat = i + m := by omega
    rw [this]
  rw [e]
  have := pick_run xs i k
  rw [List.filterMap_map] at this
  have e2 : ((fun x => xs[x]?) ∘ fun x => i + x) = fun m => xs[i + m]? := rfl
  rw [e2] at this
  rw [this]
theorem getItem_tuple_cut {t sl : Addr} {items : Array Value} {vl vu : Value} {lo hi : Option Int} {Q : Value → Shared → Prop} (ht : IsTup s.heap t items) (hs : s.heap.IsSliceOf sl vl vu .none) (pl : IsPart vl lo) (pu : IsPart vu hi)
    (hw : ¬ (sIx items.size 0 lo = 0 ∧ sIx items.size items.size hi = items.size))
    (h : Q (.ref s.heap.objs.size) { s with heap := s.heap.push { cls := .type "tuple", data := .seq ((items.toList.drop (sIx items.size 0 lo)).take (sIx items.size items.size hi - sIx items.size 0 lo)).toArray } })
    (hsz : items.size ≤ sizeLine) : wpAny (model prog w) A (getItem (.ref t) (.ref sl)) Q E s := by
  have htake : sizeOk (.seq ((items.toList.drop (sIx items.size 0 lo)).take (sIx items.size items.size hi - sIx items.size 0 lo)).toArray) := by
    show ((items.toList.drop (sIx items.size 0 lo)).take (sIx items.size items.size hi - sIx items.size 0 lo)).toArray.size ≤ sizeLine
    rw [List.size_toArray, List.length_take, List.length_drop, Array.length_toList]
    omega
  have hj : sIx items.size items.size hi ≤ items.size := sIx_le _ _ (Nat.le_refl _) hi
  obtain ⟨os, hos, hcs, hds⟩ := id hs
  have hTs : s.TypeIs (.ref sl) "slice" := ⟨os, hos, hcs⟩
  unfold getItem
  try with_reducible refine wpAny_holding ?_
  first | refine wpAny_bind (wpAny_pure ?_) | skip
  refine wpAny_bind (wpAny_sequenceKey ht.typeIs (by decide) ?_)
  refine wpAny_bind (wpAny_callSpecial?_slot (name := Str.ofString "__getitem__") ht.typeIs PyProof.Rows.slot_tuple_getitem
    (wpAny_call_entry PyProof.Rows.slot_tuple_getitem ht.typeIs entry_tuple_getitem ?_ (args_tuple_getitem _ _)))
  show wpAny _ _ (Builtin.Tuple.tupleItemsOf (.ref t) >>= _) _ _ s
  refine wpAny_bind (tupleItemsOf_ ht ?_)
  refine wpAny_bind (wpAny_typeOf hTs ?_)
  rw [if_pos (by decide)]
  refine wpAny_bind (sliceApplied_gen hs pl pu ?_)
  have hno : ¬ ((((sIx items.size 0 lo : Nat) : Int) == 0 && (1 : Int) == 1 && (sIx items.size items.size hi - sIx items.size 0 lo) == items.size) = true) := by
    intro q
    rw [Bool.and_eq_true, Bool.and_eq_true] at q
    have q1 : ((sIx items.size 0 lo : Nat) : Int) = 0 := eq_of_beq q.1.1
    have q2 : sIx items.size items.size hi - sIx items.size 0 lo = items.size := eq_of_beq q.2
    exact hw ⟨by omega, by omega⟩
  show wpAny _ _ (if (((sIx items.size 0 lo : Nat) : Int) == 0 && (1 : Int) == 1 && (sIx items.size items.size hi - sIx items.size 0 lo) == items.size) = true then _ else _) _ _ s
  rw [if_neg hno, pick_gen]
  first
    | exact wpAny_bind (m := Builtin.Tuple.tupleExact _) (wpAny_newObj_type (wpAny_pure ⟨_, rfl, wpAny_pure h⟩) htake)
    | exact wpAny_bind (m := Builtin.Tuple.tupleExact _) (wpAny_newObj_type (wpAny_bind (wpAny_pure (wpAny_pure ⟨_, rfl, wpAny_pure h⟩))) htake)
    | exact wpAny_bind (wpAny_bind (m := Builtin.Tuple.tupleExact _) (wpAny_newObj_type (wpAny_pure (wpAny_pure ⟨_, rfl, wpAny_pure h⟩)) htake))
    | exact wpAny_bind (wpAny_bind (m := Builtin.Tuple.tupleExact _) (wpAny_newObj_type (wpAny_pure ⟨_, rfl, wpAny_pure h⟩) htake))
end
end HT
namespace L2
open PySem PySem.Spec PyProof.Rows
abbrev TO := St → Hp → (Option Int → Hp → Prop) → Prop
def PO (X : Cx) (e : Option Expr) (t : TO) : Prop :=
  ∀ (pins : List (Addr × Obj)) (s : Shared) (σ : St) (H : Hp) (Q : Option Int → Hp → Prop), Inv X pins σ H s → t σ H Q →
    wpAny (model X.prog X.w) X.A (evalPart e X.env) (fun u s' => ∃ o H', Inv X pins σ H' s' ∧ IsPart u o ∧ Q o H') X.xe s
def tNoPart : TO := fun _ H Q => Q none H
def tPart (t : TE) : TO := fun σ H Q => t σ H fun x H1 => ∃ i, x = .int i ∧ Q (some i) H1
section
variable {X : Cx} {e : Expr} {te : TE} {lo hi : Option Expr} {tl th : TO} {pos p2 : Pos}
theorem po_none : PO X none tNoPart := by
  intro pins s σ H Q I h
  rw [evalPart_none]
  exact wpAny_pure ⟨none, H, I, .none, h⟩
theorem po_some (h : PE X e te) : PO X (some e) (tPart te) := by
  intro pins s σ H Q I hw
  rw [evalPart_some]
  refine thn (h pins s σ H _ I hw) fun u s1 ⟨x, H1, I1, r1, q1⟩ => ?_
  obtain ⟨i, rfl, q⟩ := q1
  obtain ⟨t, rfl⟩ := r1
  exact ⟨some i, H1, I1, .int i t, q⟩
def SlR (X : Cx) (r : V → Option Int → Option Int → Hp → VK → Prop) : Prop :=
  ∀ (pins : List (Addr × Obj)) (s : Shared) (σ : St) (H : Hp) (x : V) (v vl vu : Value) (lo hi : Option Int) (sl : Addr) (Q : VK), Inv X pins σ H s → RelV x v → s.heap.IsSliceOf sl vl vu .none → IsPart vl lo → IsPart vu hi → r x lo hi H Q →
    ∃ T id, typeLookup (.type T) "__getitem__" = pure (some (.builtin id)) ∧ s.TypeIs v T ∧ wpAny (model X.prog X.w) X.A (getItem v (.ref sl)) (EP X pins σ Q) X.xe s
def tSl (r : V → Option Int → Option Int → Hp → VK → Prop) (te : TE) (tl th : TO) : TE := fun σ H Q => te σ H fun x H1 => tl σ H1 fun l H2 => th σ H2 fun u H3 => r x l u H3 Q
theorem pe_slice {r : V → Option Int → Option Int → Hp → VK → Prop} (hr : SlR X r) (he : PE X e te) (hl : PO X lo tl) (hu : PO X hi th) : PE X (.Subscript e (.Slice lo hi none p2) pos) (tSl r te tl th) := by
  intro pins s σ H Q I h
  refine Subscript_ (thn (he pins s σ H _ I h) fun v s1 ⟨x, H1, I1, r1, q1⟩ => ?_)
  refine wpAny_Slice (thn (hl pins s1 σ H1 _ I1 q1) fun vl s2 ⟨l, H2, I2, pl, q2⟩ => thn (hu pins s2 σ H2 _ I2 q2) fun vu s3 ⟨u, H3, I3, pu, q3⟩ => ?_)
  rw [evalPart_none]
  refine wpAny_pure ?_
  have I4 : Inv X pins σ H3 { s3 with heap := s3.heap.push { cls := .type "slice", data := .fields #[vl, vu, .none] } } := I3.kept (t' := s3.toks) fun b ob q => Heap.get?_push_of_some _ q
  obtain ⟨T, id, hT, ht, hg⟩ := hr pins { s3 with heap := s3.heap.push { cls := .type "slice", data := .fields #[vl, vu, .none] } } σ H3 x v vl vu l u s3.heap.objs.size Q I4 r1 (Heap.IsSliceOf.new ..) pl pu q3
  show wpAny (model X.prog X.w) X.A (subscriptTail e (.Slice lo hi none p2) v (.ref s3.heap.objs.size)) (EP X pins σ Q) X.xe { s3 with heap := s3.heap.push { cls := .type "slice", data := .fields #[vl, vu, .none] } }
  exact tail_any (ops := [.ref s3.heap.objs.size, v]) ht hT hg (by with_unfolding_all rfl)
def cutV (xs : List V) (lo hi : Option Int) : List V := (xs.drop (HT.sIx xs.length 0 lo)).take (HT.sIx xs.length xs.length hi - HT.sIx xs.length 0 lo)
theorem cutV_length (xs : List V) (lo hi : Option Int) : (cutV xs lo hi).length ≤ xs.length := by
  unfold cutV
  rw [List.length_take, List.length_drop]
  omega
def rSlT (K : PySem.W.Frag) : V → Option Int → Option Int → Hp → VK → Prop := fun x lo hi H Q => ∃ a xs, x = .ref a ∧ SqT K H a xs ∧
  ¬ (HT.sIx xs.length 0 lo = 0 ∧ HT.sIx xs.length xs.length hi = xs.length) ∧ ∀ p, H p = none → Q (.ref p) (upd H p (.tup (cutV xs lo hi)))
theorem sl_tup : SlR X (rSlT X.K) := by
  intro pins s σ H x v vl vu lo hi sl Q I rx hs pl pu h
  obtain ⟨a, xs, rfl, hx, hw, q⟩ := h
  cases rx
  obtain ⟨its, r, ht, hz⟩ := I.tuple hx
  have hlen : its.toArray.size = xs.length := by rw [List.size_toArray]; exact r.length.symm
  refine ⟨"tuple", _, PyProof.Rows.slot_tuple_getitem.lookup, ht.typeIs, ?_⟩
  refine HT.getItem_tuple_cut ht hs pl pu (by rw [hlen]; exact hw) ?_ (by rw [hlen]; exact hz)
  rw [hlen]
  refine ⟨.ref s.heap.objs.size, _, I.laid (t' := s.toks) (o := .tup (cutV xs lo hi)) (fun b ob q => Heap.get?_push_of_some _ q) (Nat.le_refl _) ?_, rfl, q _ (I.hok.fresh (Nat.le_refl _))⟩
  exact ⟨⟨Nat.le_trans (cutV_length xs lo hi) hz, nod_push _ _⟩, _, (r.drop (HT.sIx xs.length 0 lo)).take (HT.sIx xs.length xs.length hi - HT.sIx xs.length 0 lo), IsTup.new _ _⟩
def rCatT (K : PySem.W.Frag) : R2 := fun x y H Q => ∃ a b xs ys, x = .ref a ∧ y = .ref b ∧ SqT K H a xs ∧ SqT K H b ys ∧ xs ≠ [] ∧ xs.length + ys.length ≤ sizeLine ∧
  (ys = [] → Q (.ref a) H) ∧ (ys ≠ [] → ∀ p, H p = none → Q (.ref p) (upd H p (.tup (xs ++ ys))))
theorem Vals.nil_iff {xs : List V} {us : List Value} (r : Vals xs us) : us = [] ↔ xs = [] := by
  cases r with
  | nil => simp
  | cons _ _ => simp
theorem op_catT : OpR X (binaryOp .Add) (rCatT X.K) := by
  intro pins s σ H x y v u Q I rx ry h
  obtain ⟨a, b, xs, ys, rfl, rfl, ha, hb, hx, hz, q1, q2⟩ := h
  cases rx
  cases ry
  obtain ⟨its, r1, p1, _⟩ := I.tuple ha
  obtain ⟨its2, r2, p2, _⟩ := I.tuple hb
  refine HT.cat_tup p1 p2 (fun z => hx (r1.nil_iff.mp z)) (fun z => ⟨.ref a, H, I, rfl, q1 (r2.nil_iff.mp z)⟩) (fun z => ?_) (by rw [← r1.length, ← r2.length]; exact hz)
  refine ⟨.ref s.heap.objs.size, _, I.laid (t' := s.toks) (o := .tup (xs ++ ys)) (fun b ob q => Heap.get?_push_of_some _ q) (Nat.le_refl _) ?_, rfl, q2 (fun w => z (r2.nil_iff.mpr w)) _ (I.hok.fresh (Nat.le_refl _))⟩
  exact ⟨⟨by rw [List.length_append]; exact hz, nod_push _ _⟩, _, r1.append r2, IsTup.new _ _⟩
end
end L2
namespace L2
open PySem PySem.Spec PyProof.Rows
def ixN (n : Nat) (i : Int) : Option Nat := if 0 ≤ i then (if i < n then some i.toNat else none) else if -(n : Int) ≤ i then some (i + n).toNat else none
def atI {α : Type} (xs : List α) (i : Int) : Option α := (ixN xs.length i).bind fun j => xs[j]?
theorem ixN_seq {n : Nat} {i : Int} {j : Nat} (h : ixN n i = some j) : seqIndex? i n = some j ∧ j < n ∧ -(n : Int) ≤ i ∧ i < n := by
  unfold ixN at h
  by_cases h0 : 0 ≤ i
  · rw [if_pos h0] at h
    by_cases h1 : i < n
    · rw [if_pos h1] at h
      have e : i.toNat = j := Option.some.inj h
      exact ⟨by rw [seqIndex_of h0 h1, e], by omega, by omega, h1⟩
    · rw [if_neg h1] at h; cases h
  · rw [if_neg h0] at h
    by_cases h1 : -(n : Int) ≤ i
    · rw [if_pos h1] at h
      have e : (i + n).toNat = j := Option.some.inj h
      exact ⟨by rw [seqIndex_neg (by omega) h1, e], by omega, h1, by omega⟩
    · rw [if_neg h1] at h; cases h
theorem atI_get {α : Type} {xs : List α} {i : Int} {v : α} (h : atI xs i = some v) : ∃ j, seqIndex? i xs.length = some j ∧ xs[j]? = some v ∧ j < xs.length ∧ -(xs.length : Int) ≤ i ∧ i < xs.length := by
  unfold atI at h
  cases e : ixN xs.length i with
  | none => rw [e] at h; cases h
  | some j =>
    rw [e] at h
    obtain ⟨h1, h2, h3, h4⟩ := ixN_seq e
    exact ⟨j, h1, h, h2, h3, h4⟩
theorem atI_nat {α : Type} {xs : List α} {j : Nat} {v : α} (h : xs[j]? = some v) : atI xs (j : Int) = some v := by
  have hj : j < xs.length := (List.getElem?_eq_some_iff.mp h).1
  have e : ixN xs.length (j : Int) = some j := by
    unfold ixN
    rw [if_pos (by omega), if_pos (by omega)]; simp
  unfold atI; rw [e]; exact h
def PlainIx (b : Expr) : Prop := ∀ o i, subscripted b false o i = operate [o, i] (getItem o i)
def IxR (X : Cx) (r : R2) : Prop :=
  ∀ (value slice : Expr) (pins : List (Addr × Obj)) (s : Shared) (σ : St) (H : Hp) (x y : V) (v u : Value) (Q : VK), Inv X pins σ H s → RelV x v → RelV y u → r x y H Q →
    subscripted slice false v u = operate [v, u] (getItem v u) → wpAny (model X.prog X.w) X.A (subscriptTail value slice v u) (EP X pins σ Q) X.xe s
def MtR (X : Cx) (id : String) (r : V → List V → Hp → VK → Prop) : Prop :=
  ∀ (pins : List (Addr × Obj)) (s : Shared) (σ : St) (H : Hp) (x : V) (xs : List V) (v : Value) (us : List Value) (Q : VK), Inv X pins σ H s → RelV x v → Vals xs us → r x xs H Q →
    wpAny (model X.prog X.w) X.A (call (.builtin id) (v :: us)) (EP X pins σ Q) X.xe s
section
variable {X : Cx} {a b : Expr} {ta tb : TE} {pos : Pos}
theorem pe_ix {r : R2} (hr : IxR X r) (ha : PE X a ta) (hb : PE X b tb) (hs : PlainIx b) : PE X (.Subscript a b pos) (tOp r ta tb) := by
  intro pins s σ H Q I h
  exact Subscript_ (binT ha hb I h fun v u s2 x y H2 I2 rx ry q => hr a b pins s2 σ H2 x y v u Q I2 rx ry q (hs _ _))
def rIxL (K : PySem.W.Frag) : R2 := fun x y H Q => ∃ p xs i v, x = .ref p ∧ y = .int i ∧ SqL K H p xs ∧ atI xs i = some v ∧ Q v H
def rIxT (K : PySem.W.Frag) : R2 := fun x y H Q => ∃ p xs i v, x = .ref p ∧ y = .int i ∧ SqT K H p xs ∧ atI xs i = some v ∧ Q v H
def rIxS : R2 := fun x y H Q => ∃ z i c, x = .str z ∧ y = .int i ∧ z.length ≤ sizeLine ∧ atI z.cps.toList i = some c ∧ Q (.str ⟨#[c]⟩) H
theorem ix_list : IxR X (rIxL X.K) := by
  intro value slice pins s σ H x y v u Q I rx ry h hs
  obtain ⟨p, xs, i, z, rfl, rfl, hq, he, q⟩ := h
  cases rx
  obtain ⟨t, rfl⟩ := ry
  obtain ⟨its, r, pl, hz⟩ := I.list hq
  obtain ⟨j, h1, h2, h3, h4, h5⟩ := atI_get he
  obtain ⟨w, ew, rw'⟩ := r.get h2
  have hl := r.length
  have hn := line63
  have fin : EP X pins σ Q w s := ⟨z, H, I, rw', q⟩
  by_cases h0 : 0 ≤ i
  · have hj : i.toNat = j := by
      rw [seqIndex_of h0 h5] at h1
      exact Option.some.inj h1
    exact item_listR pl.isList h0 (by omega) (by rw [hj]; simpa using ew) fin hs
  · have hj : (i + (its.toArray.size : Int)).toNat = j := by
      rw [seqIndex_neg (by omega) h4] at h1
      rw [List.size_toArray, ← hl]
      exact Option.some.inj h1
    exact subscriptTail_builtinR (x := w) pl.isList.typeIs slot_list_getitem.lookup
      (wpAny_getItem_list_neg (Q := fun r s' => r = w ∧ EP X pins σ Q r s') pl.isList (by omega) (by rw [List.size_toArray] <;> omega) (by omega) (by rw [hj]; simpa using ew) ⟨rfl, fin⟩) hs
theorem ix_tup : IxR X (rIxT X.K) := by
  intro value slice pins s σ H x y v u Q I rx ry h hs
  obtain ⟨p, xs, i, z, rfl, rfl, hq, he, q⟩ := h
  cases rx
  obtain ⟨t, rfl⟩ := ry
  obtain ⟨its, r, pl, hz⟩ := I.tuple hq
  obtain ⟨j, h1, h2, h3, h4, h5⟩ := atI_get he
  obtain ⟨w, ew, rw'⟩ := r.get h2
  have hl := r.length
  have hn := line63
  have fin : EP X pins σ Q w s := ⟨z, H, I, rw', q⟩
  exact subscriptTail_builtinR (x := w) pl.typeIs slot_tuple_getitem.lookup
    (getItem_tuple (j := j) (Q := fun r s' => r = w ∧ EP X pins σ Q r s') pl (by omega) (by omega) (by rw [List.size_toArray, ← hl]; exact h1) (by simpa using ew) ⟨rfl, fin⟩) hs
theorem ix_str : IxR X rIxS := by
  intro value slice pins s σ H x y v u Q I rx ry h hs
  obtain ⟨z, i, c, rfl, rfl, hz, he, q⟩ := h
  obtain ⟨t, rfl⟩ := rx
  obtain ⟨t', rfl⟩ := ry
  obtain ⟨j, h1, h2, h3, h4, h5⟩ := atI_get he
  have hl : z.cps.toList.length = z.length := by simp [Str.length]
  rw [hl] at h1 h4 h5
  have hn := line63
  exact tail_any (typeIs_str s z t) slot_str_getitem.lookup (getItem_str (c := c) (by
    have e1 : decide (i < -(2 ^ 63 : Int)) = false := decide_eq_false (by omega)
    have e2 : decide (i ≥ 2 ^ 63) = false := decide_eq_false (by omega)
    rw [e1, e2, Bool.or_false]) (by rw [h1]; simpa using h2) ⟨.str ⟨#[c]⟩, H, I.tok _, ⟨_, rfl⟩, q⟩) hs
theorem mapSeq_set (its : List Value) (n j : Nat) (u : Value) : Obj.mapSeq (·.setIfInBounds j u) { cls := .type "list", data := .seq its.toArray n } = { cls := .type "list", data := .seq (its.set j u).toArray n } := by
  simp [Obj.mapSeq]
theorem Inv.lst {pins : List (Addr × Obj)} {σ : St} {H : Hp} {s : Shared} {p : Addr} {xs : List V} (I : Inv X pins σ H s) (h : H p = some (.lst xs)) :
    ∃ (its : List Value) (n : Nat), Vals xs its ∧ s.heap.get? p = some { cls := .type "list", data := .seq its.toArray n } ∧ xs.length ≤ sizeLine := by
  obtain ⟨z, its, n, r, e⟩ := I.hok p _ h
  exact ⟨its, n, r, e, z⟩
theorem Inv.lstUpd {pins : List (Addr × Obj)} {σ : St} {H : Hp} {s : Shared} {p : Addr} {xs ys : List V} {its its' : List Value} {n n' : Nat} {f : Obj → Obj} (I : Inv X pins σ H s) (h : H p = some (.lst xs))
    (ho : s.heap.get? p = some { cls := .type "list", data := .seq its.toArray n }) (hf : f { cls := .type "list", data := .seq its.toArray n } = { cls := .type "list", data := .seq its'.toArray n' }) (r : Vals ys its') (hz : ys.length ≤ sizeLine) (t : Nat) :
    Inv X pins σ (upd H p (.lst ys)) { s with heap := s.heap.update p f, toks := t } := by
  have e : (s.heap.update p f).get? p = some { cls := .type "list", data := .seq its'.toArray n' } := by
    rw [Heap.get?_update_self f ho (by rw [hf] <;> rfl), hf]
  refine I.write (x := p) (e := p) (by rw [h]; trivial) (.inl rfl) (fun b u hb q => (Heap.get?_update_other _ _ (Ne.symm hb)).trans q) ⟨_, e⟩ ?_
  exact ⟨hz, its', n', r, e⟩
def rSetL : V → V → V → Hp → (Hp → Prop) → Prop := fun o i v H Q => ∃ p xs k j, o = .ref p ∧ i = .int k ∧ H p = some (.lst xs) ∧ ixN xs.length k = some j ∧ Q (upd H p (.lst (xs.set j v)))
theorem set_list : PSet X rSetL := by
  intro pins s σ H o i v ov iv u Q I ro ri rv h
  obtain ⟨p, xs, k, j, rfl, rfl, hp, hj, q⟩ := h
  cases ro
  obtain ⟨t, rfl⟩ := ri
  obtain ⟨its, n, r, ho, hz⟩ := I.lst hp
  obtain ⟨h1, h2, h3, h4⟩ := ixN_seq hj
  have hl := r.length
  have hn := line63
  have I' : Inv X pins σ (upd H p (.lst (xs.set j v))) { s with heap := s.heap.update p (Obj.mapSeq (·.setIfInBounds j u)) } :=
    I.lstUpd hp ho (mapSeq_set its n j u) (r.set rv j) (by rw [List.length_set]; exact hz) s.toks
  by_cases h0 : 0 ≤ k
  · have hk : k.toNat = j := by
      rw [seqIndex_of h0 h4] at h1
      exact Option.some.inj h1
    exact PySem.W.ki_setAt ho h0 (by omega) (by rw [List.size_toArray, ← hl]; exact h4) (by rw [hk]; exact ⟨_, I', q⟩)
  · have hk : (k + (its.toArray.size : Int)).toNat = j := by
      rw [seqIndex_neg (by omega) h3] at h1
      rw [List.size_toArray, ← hl]
      exact Option.some.inj h1
    exact PySem.W.ki_setBack ho (by omega) (by rw [List.size_toArray, ← hl]; exact h3) (by omega) (by rw [hk]; exact ⟨_, I', q⟩)
theorem slice_bounds (lo hi : Option Int) (n : Nat) : (sliceBounds lo hi none n).1 = ((HT.sIx n 0 lo : Nat) : Int) ∧ (sliceBounds lo hi none n).2.1 = ((HT.sIx n n hi : Nat) : Int) ∧ (sliceBounds lo hi none n).2.2 = 1 := by
  refine ⟨?_, ?_, rfl⟩
  · cases lo with
    | none => simp [sliceBounds, HT.sIx]
    | some i =>
      simp only [sliceBounds, HT.sIx, Option.getD_none, show (1 : Int) > 0 by decide, if_true]
      by_cases h : i < 0
      · simp only [h, if_true] <;> omega
      · simp only [h, if_false] <;> omega
  · cases hi with
    | none => simp [sliceBounds, HT.sIx]
    | some i =>
      simp only [sliceBounds, HT.sIx, Option.getD_none, show (1 : Int) > 0 by decide, if_true]
      by_cases h : i < 0
      · simp only [h, if_true] <;> omega
      · simp only [h, if_false] <;> omega
theorem slicePick_cut (its : List Value) (lo hi : Option Int) : slicePick its.toArray lo hi none = ((its.drop (HT.sIx its.length 0 lo)).take (HT.sIx its.length its.length hi - HT.sIx its.length 0 lo)).toArray := by
  obtain ⟨h1, h2, h3⟩ := slice_bounds lo hi its.toArray.size
  unfold slicePick
  rw [h1, h2, h3]
  simp only [sliceRange_one, pick_run, List.size_toArray] <;> rfl
def rSlL (K : PySem.W.Frag) : V → Option Int → Option Int → Hp → VK → Prop := fun x lo hi H Q => ∃ a xs, x = .ref a ∧ SqL K H a xs ∧ ∀ p, H p = none → Q (.ref p) (upd H p (.lst (cutV xs lo hi)))
theorem sl_list : SlR X (rSlL X.K) := by
  intro pins s σ H x v vl vu lo hi sl Q I rx hs pl pu h
  obtain ⟨a, xs, rfl, hx, q⟩ := h
  cases rx
  obtain ⟨its, r, ht, hz⟩ := I.list hx
  have hlen := r.length
  refine ⟨"list", _, slot_list_getitem.lookup, ht.isList.typeIs, ?_⟩
  refine wpAny_getItem_list_slice ht.isList hs pl pu .none (by simp) ?_ (by rw [List.size_toArray] <;> omega)
  rw [slicePick_cut, ← hlen]
  refine ⟨.ref s.heap.objs.size, _, I.laid (t' := s.toks) (o := .lst (cutV xs lo hi)) (fun b ob q => Heap.get?_push_of_some _ q) (Nat.le_refl _) ?_, rfl, q _ (I.hok.fresh (Nat.le_refl _))⟩
  exact ⟨Nat.le_trans (cutV_length xs lo hi) hz, _, 0, (r.drop (HT.sIx xs.length 0 lo)).take (HT.sIx xs.length xs.length hi - HT.sIx xs.length 0 lo), Heap.get?_push_size _ rfl⟩
def flatV : V → Bool
  | .non => true
  | .bl _ => true
  | .int _ => true
  | .str _ => true
  | _ => false
def eqV : V → V → Bool
  | .non, .non => true
  | .bl a, .bl b => a == b
  | .bl a, .int b => (if a then 1 else 0) == b
  | .int a, .bl b => a == (if b then 1 else 0)
  | .int a, .int b => a == b
  | .str a, .str b => a == b
  | _, _ => false
theorem eqAt_V {A : Around} {s : Shared} {y x : V} {u v : Value} (ry : RelV y u) (rx : RelV x v) (fy : flatV y = true) (fx : flatV x = true) : SeqAt.EqAt A s u v (eqV y x) := by
  cases y with
  | non =>
    cases ry
    cases x with
    | non => cases rx; exact SeqAt.EqAt.same _
    | bl b => cases rx; exact SeqAt.EqAt.none_bool b
    | int b => obtain ⟨t, rfl⟩ := rx; exact SeqAt.EqAt.none_int b t
    | str b => obtain ⟨t, rfl⟩ := rx; exact SeqAt.EqAt.none_str b t
    | _ => exact absurd (show false = true from fx) Bool.false_ne_true
  | bl a =>
    cases ry
    cases x with
    | non => cases rx; exact SeqAt.EqAt.bool_none a
    | bl b => cases rx; exact SeqAt.EqAt.bool_bool a b
    | int b => obtain ⟨t, rfl⟩ := rx; exact SeqAt.EqAt.bool_int a b t
    | str b => obtain ⟨t, rfl⟩ := rx; exact SeqAt.EqAt.bool_str a b t
    | _ => exact absurd (show false = true from fx) Bool.false_ne_true
  | int a =>
    obtain ⟨t', rfl⟩ := ry
    cases x with
    | non => cases rx; exact SeqAt.EqAt.int_none a t'
    | bl b => cases rx; exact SeqAt.EqAt.int_bool a t' b
    | int b => obtain ⟨t, rfl⟩ := rx; exact SeqAt.EqAt.int_int a t' b t
    | str b => obtain ⟨t, rfl⟩ := rx; exact SeqAt.EqAt.int_str a t' b t
    | _ => exact absurd (show false = true from fx) Bool.false_ne_true
  | str a =>
    obtain ⟨t', rfl⟩ := ry
    cases x with
    | non => cases rx; exact SeqAt.EqAt.str_none a t'
    | bl b => cases rx; exact SeqAt.EqAt.str_bool a t' b
    | int b => obtain ⟨t, rfl⟩ := rx; exact SeqAt.EqAt.str_int a t' b t
    | str b => obtain ⟨t, rfl⟩ := rx; exact SeqAt.EqAt.str_str a t' b t
    | _ => exact absurd (show false = true from fx) Bool.false_ne_true
  | _ => exact absurd (show false = true from fy) Bool.false_ne_true
def eqU (x : V) (u : Value) : Bool := match u with
  | .none => eqV .non x
  | .bool b => eqV (.bl b) x
  | .int i _ => eqV (.int i) x
  | .str z _ => eqV (.str z) x
  | _ => false
theorem eqU_of {x y : V} {u : Value} (r : RelV y u) (f : flatV y = true) : eqU x u = eqV y x := by
  cases y with
  | non => cases r; rfl
  | bl b => cases r; rfl
  | int i => obtain ⟨t, rfl⟩ := r; rfl
  | str z => obtain ⟨t, rfl⟩ := r; rfl
  | _ => exact absurd (show false = true from f) Bool.false_ne_true
theorem any_eqU {x : V} : ∀ {xs : List V} {us : List Value}, Vals xs us → xs.all flatV = true → us.any (eqU x) = xs.any fun y => eqV y x
  | _, _, .nil, _ => rfl
  | y :: xs, u :: us, .cons r t, f => by
    rw [List.all_cons, Bool.and_eq_true] at f
    rw [List.any_cons, List.any_cons, eqU_of r f.1, any_eqU t f.2]
theorem mem_eqAt {A : Around} {s : Shared} {x : V} {v : Value} (rx : RelV x v) (fx : flatV x = true) : ∀ {xs : List V} {us : List Value}, Vals xs us → xs.all flatV = true → ∀ u ∈ us, SeqAt.EqAt A s u v (eqU x u)
  | _, _, .nil, _ => fun u hu => by cases hu
  | y :: xs, u :: us, .cons r t, f => fun u' hu => by
    rw [List.all_cons, Bool.and_eq_true] at f
    rcases List.mem_cons.mp hu with rfl | hu
    · rw [eqU_of r f.1]; exact eqAt_V r rx f.1 fx
    · exact mem_eqAt rx fx t f.2 u' hu
def inV (x : V) (xs : List V) : Bool := xs.any fun y => eqV y x
def rIn (K : PySem.W.Frag) (neg : Bool) : R2 := fun x y H Q => ∃ p xs, y = .ref p ∧ (SqL K H p xs ∨ SqT K H p xs) ∧ flatV x = true ∧ xs.all flatV = true ∧ Q (.bl (if neg then !inV x xs else inV x xs)) H
theorem op_in_seq : OpR X (compareOp .In) (rIn X.K false) := by
  intro pins s σ H x y v u Q I rx ry h
  obtain ⟨p, xs, rfl, hq, fx, fs, q⟩ := h
  cases ry
  rcases hq with hq | hq
  · obtain ⟨its, r, pl, hz⟩ := I.list hq
    refine SeqAt.in_listAt (eqU x) pl.isList (fun w hw => mem_eqAt rx fx r fs w (by simpa using hw)) ⟨.bl _, H, I, rfl, ?_⟩
    rw [show its.toArray.any (eqU x) = its.any (eqU x) by simp, any_eqU r fs]
    exact q
  · obtain ⟨its, r, pl, hz⟩ := I.tuple hq
    refine SeqAt.in_tupleAt (eqU x) pl (fun w hw => mem_eqAt rx fx r fs w (by simpa using hw)) ⟨.bl _, H, I, rfl, ?_⟩
    rw [show its.toArray.any (eqU x) = its.any (eqU x) by simp, any_eqU r fs]
    exact q
theorem op_notIn_seq : OpR X (compareOp .NotIn) (rIn X.K true) := by
  intro pins s σ H x y v u Q I rx ry h
  obtain ⟨p, xs, rfl, hq, fx, fs, q⟩ := h
  cases ry
  rcases hq with hq | hq
  · obtain ⟨its, r, pl, hz⟩ := I.list hq
    refine SeqAt.notIn_listAt (eqU x) pl.isList (fun w hw => mem_eqAt rx fx r fs w (by simpa using hw)) ⟨.bl _, H, I, rfl, ?_⟩
    rw [show its.toArray.any (eqU x) = its.any (eqU x) by simp, any_eqU r fs]
    exact q
  · obtain ⟨its, r, pl, hz⟩ := I.tuple hq
    refine SeqAt.notIn_tupleAt (eqU x) pl (fun w hw => mem_eqAt rx fx r fs w (by simpa using hw)) ⟨.bl _, H, I, rfl, ?_⟩
    rw [show its.toArray.any (eqU x) = its.any (eqU x) by simp, any_eqU r fs]
    exact q
theorem call_len_seq : CallR X (.builtin "len") (fun xs H Q => ∃ p ys, xs = [.ref p] ∧ (SqL X.K H p ys ∨ SqT X.K H p ys) ∧ Q (.int ys.length) H) := by
  intro pins s σ H xs us Q I r h
  obtain ⟨p, ys, rfl, hq, q⟩ := h
  obtain ⟨u, rfl, rx⟩ := vals1 r
  cases rx
  have hn := line63
  rcases hq with hq | hq
  · obtain ⟨its, r', pl, hz⟩ := I.list hq
    have hlen := r'.length
    exact Calls.call_len_list pl.isList (by simp only [List.size_toArray] <;> omega) ⟨.int ys.length, H, I.tok _, ⟨s.toks + 1, by rw [List.size_toArray, hlen]⟩, q⟩
  · obtain ⟨its, r', pl, hz⟩ := I.tuple hq
    have hlen := r'.length
    exact len_tuple pl (by simp only [List.size_toArray] <;> omega) ⟨.int ys.length, H, I.tok _, ⟨s.toks + 1, by rw [List.size_toArray, hlen]⟩, q⟩
theorem call_len_str : CallR X (.builtin "len") (fun xs H Q => ∃ z, xs = [.str z] ∧ z.length ≤ sizeLine ∧ Q (.int z.length) H) := by
  intro pins s σ H xs us Q I r h
  obtain ⟨z, rfl, hz, q⟩ := h
  obtain ⟨u, rfl, t, rfl⟩ := vals1 r
  have hn := line63
  exact len_str (by omega) ⟨.int z.length, H, I.tok _, ⟨_, rfl⟩, q⟩
theorem call_list_of : CallR X (.type "list") (fun xs H Q => ∃ p ys, xs = [.ref p] ∧ (SqL X.K H p ys ∨ SqT X.K H p ys) ∧ ∀ l, H l = none → Q (.ref l) (upd H l (.lst ys))) := by
  intro pins s σ H xs us Q I r h
  obtain ⟨p, ys, rfl, hq, q⟩ := h
  obtain ⟨u, rfl, rx⟩ := vals1 r
  cases rx
  have fin : ∀ (its : List Value), Vals ys its → ys.length ≤ sizeLine → ∀ (h' : Heap) (c' : Nat), (∀ b o', s.heap.get? b = some o' → h'.get? b = some o') →
      h'.get? s.heap.objs.size = some { cls := .type "list", dict := none, data := .seq its.toArray c', slots := #[] } → EP X pins σ Q (.ref s.heap.objs.size) { s with heap := h' } := fun its r' hz h' c' kp e =>
    ⟨.ref s.heap.objs.size, _, I.laid (t' := s.toks) kp (Nat.le_refl _) (show ObjOk X.prog X.w _ h' _ (.lst ys) from ⟨hz, its, c', r', e⟩), rfl, q _ (I.hok.fresh (Nat.le_refl _))⟩
  rcases hq with hq | hq
  · obtain ⟨its, r', pl, hz⟩ := I.list hq
    have hlen := r'.length
    obtain ⟨o, ho, hc, n, hd⟩ := pl.isList
    exact call_list_seq p (.inl rfl) ho hc hd (fun h' c' kp e => fin its r' hz h' c' kp e) (by simp only [List.size_toArray] <;> omega)
  · obtain ⟨its, r', pl, hz⟩ := I.tuple hq
    have hlen := r'.length
    obtain ⟨o, ho, hc, n, hd⟩ := pl
    exact call_list_seq p (.inr rfl) ho hc hd (fun h' c' kp e => fin its r' hz h' c' kp e) (by simp only [List.size_toArray] <;> omega)
theorem call_tuple_of : CallR X (.type "tuple") (fun xs H Q => ∃ p ys, xs = [.ref p] ∧ ((SqL X.K H p ys ∧ ∀ l, H l = none → Q (.ref l) (upd H l (.tup ys))) ∨ (SqT X.K H p ys ∧ Q (.ref p) H))) := by
  intro pins s σ H xs us Q I r h
  obtain ⟨p, ys, rfl, h⟩ := h
  obtain ⟨u, rfl, rx⟩ := vals1 r
  cases rx
  rcases h with ⟨hq, q⟩ | ⟨hq, q⟩
  · obtain ⟨its, r', pl, hz⟩ := I.list hq
    have hlen := r'.length
    refine call_tuple_list pl.isList (fun h' kp => ?_) (by simp only [List.size_toArray] <;> omega)
    have I1 : Inv X pins σ H { s with heap := h' } := I.kept (t' := s.toks) kp
    have I2 : Inv X pins σ (upd H h'.objs.size (.tup ys)) { s with heap := h'.push { cls := .type "tuple", data := .seq its.toArray } } :=
      I1.laid (t' := s.toks) (fun b o e => Heap.get?_push_of_some _ e) (Nat.le_refl _) (show ObjOk X.prog X.w _ _ _ (.tup ys) from ⟨⟨hz, nod_push _ _⟩, its, r', IsTup.new _ _⟩)
    exact ⟨.ref h'.objs.size, _, I2, rfl, q _ (I1.hok.fresh (Nat.le_refl _))⟩
  · obtain ⟨its, r', pl, hz⟩ := I.tuple hq
    exact call_tuple_same pl ⟨.ref p, H, I, rfl, q⟩
def tyV (K : PySem.W.Frag) (T : String) (x : V) (H : Hp) : Prop := match x with
  | .str _ => T = "str"
  | .int _ => T = "int"
  | .ref p => (T = "list" ∧ ∃ xs, SqL K H p xs) ∨ (T = "tuple" ∧ ∃ o, K.lookup p = some o ∧ o.cls = .type "tuple" ∧ o.dict = none) ∨
      (T = "dict" ∧ ((∃ kvs, H p = some (.dK kvs)) ∨ ∃ kvs, H p = some (.dT kvs))) ∨ (T = "set" ∧ ∃ S n, H p = some (.set S n))
  | _ => False
theorem tyV_is {pins : List (Addr × Obj)} {σ : St} {H : Hp} {s : Shared} {T : String} {x : V} {v : Value} (I : Inv X pins σ H s) (r : RelV x v) (ty : tyV X.K T x H) :
    s.TypeIs v T ∧ ∀ a, v = .ref a → ∃ ob, s.heap.get? a = some ob ∧ ob.dict = none := by
  cases x with
  | str z =>
    obtain ⟨t, rfl⟩ := r
    cases (show T = "str" from ty)
    exact ⟨typeIs_str s z t, fun _ e => nomatch e⟩
  | int i =>
    obtain ⟨t, rfl⟩ := r
    cases (show T = "int" from ty)
    exact ⟨typeIs_int s i t, fun _ e => nomatch e⟩
  | ref p =>
    cases r
    rcases ty with ⟨rfl, xs, hq⟩ | ⟨rfl, o, hk, hc, hd⟩ | ⟨rfl, hk⟩ | ⟨rfl, S, n, hk⟩
    · obtain ⟨its, _, pl, _⟩ := I.list hq
      refine ⟨pl.isList.typeIs, fun a e => ?_⟩
      cases e
      obtain ⟨o, n, e, c, hd, _⟩ := pl
      exact ⟨o, e, hd⟩
    · refine ⟨⟨o, I.kIn p o hk, hc⟩, fun a e => ?_⟩
      cases e
      exact ⟨o, I.kIn _ o hk, hd⟩
    · have z : ∃ o, s.heap.get? p = some o ∧ o.ExactDict := by
        rcases hk with ⟨kvs, hk⟩ | ⟨kvs, hk⟩
        · obtain ⟨_, _, _, _, o, _, _, e, ex, _⟩ := I.hok p _ hk
          exact ⟨o, e, ex⟩
        · obtain ⟨_, _, _, _, o, _, _, e, ex, _⟩ := I.hok p _ hk
          exact ⟨o, e, ex⟩
      obtain ⟨o, e, ex⟩ := z
      refine ⟨⟨o, e, ex.1⟩, fun a e2 => ?_⟩
      cases e2
      exact ⟨o, e, ex.2.1⟩
    · obtain ⟨o, _, _, _, e, ex, _⟩ := I.hok p _ hk
      refine ⟨⟨o, e, ex.1⟩, fun a e2 => ?_⟩
      cases e2
      exact ⟨o, e, ex.2.1⟩
  | _ => exact False.elim ty
def tBM (K : PySem.W.Frag) (T : String) (r : V → List V → Hp → VK → Prop) (to : TE) (t : TA) : TE := fun σ H Q => to σ H fun x H1 => tyV K T x H1 ∧ t σ H1 fun xs H2 => r x xs H2 Q
variable {o e : Expr} {es : List Expr} {to : TE} {t : TA} {name : Str} {apos cpos : Pos} {T id : String} {r : V → List V → Hp → VK → Prop}
theorem pe_bm (pa : PlainAttrs T) (slot : Slot T name id) (hty : typeOf (.builtin id) = pure (.type "method_descriptor")) (hm : MtR X id r) (ho : PE X o to) (ha : PA X (e :: es) t)
    (hbase : attributeBase o name X.env (eval o X.env) = eval o X.env := by rfl)
    (hfew : ((backTo cpos (starEach (e :: es) X.env)).all (fun x => !x.1) && (backToKw cpos (keywordEach [] X.env)).all (fun x => x.1.isSome)
      && decide ((e :: es).length + ([] : List Keyword).length + (if ([] : List Keyword).isEmpty then 0 else 1) < 30)) = true := by rfl)
    (hline : (apos.endLine == cpos.line) = true := by rfl) (hs : starEach (e :: es) X.env = (false, eval e X.env) :: starEach es X.env := by rfl) (hplain : (backTo cpos (starEach es X.env)).any (·.1) = false := by rfl) :
    PE X (.Call (.Attribute o name apos) (e :: es) [] cpos) (tBM X.K T r to t) := by
  intro pins s σ H Q I h
  refine wpAny_Call_method_late hbase hfew hline rfl (thn (ho pins s σ H _ I h) fun v s1 ⟨x, H1, I1, r1, ty, q1⟩ => ?_)
  obtain ⟨h1, h2⟩ := tyV_is I1 r1 ty
  refine ⟨T, id, pa, slot, hty, h1, h2, ?_⟩
  have hA := ha cpos pins s1 σ H1 _ I1 q1
  rw [hs] at hA ⊢
  refine Calls.callWith_builtin (by show (false || (backTo cpos (starEach es X.env)).any (·.1)) = false; rw [hplain] <;> rfl) (Calls.evalArgs_plain ?_)
  exact thn hA fun us s2 ⟨vs, H2, I2, r2, q2⟩ => hm pins s2 σ H2 x vs v us Q I2 r1 r2 q2
/- xs.append(e), list.index on a module's tuple .. are MtR facts of 06m -/
end
end L2
namespace L2
open PySem PySem.Spec PyProof.Rows
def MtM (X : Cx) (id : String) (r : V → List V → Hp → VK → Prop) : Prop :=
  ∀ (pins : List (Addr × Obj)) (s : Shared) (σ : St) (H : Hp) (x : V) (xs : List V) (v : Value) (us : List Value) (Q : VK), Inv X pins σ H s → RelV x v → Vals xs us → r x xs H Q →
    wpAny (model X.prog X.w) X.A (call (.builtin id) (v :: us)) (EP X pins σ Q) X.xe s
theorem Vals.one : ∀ {x : V} {us : List Value}, Vals [x] us → ∃ u, us = [u] ∧ RelV x u
  | _, _, .cons r .nil => ⟨_, rfl, r⟩
theorem Vals.two : ∀ {x y : V} {us : List Value}, Vals [x, y] us → ∃ u v, us = [u, v] ∧ RelV x u ∧ RelV y v
  | _, _, _, .cons r (.cons q .nil) => ⟨_, _, rfl, r, q⟩
theorem Vals.reverse {xs : List V} {us : List Value} (h : Vals xs us) : Vals xs.reverse us.reverse := by
  induction h with
  | nil => exact .nil
  | cons r t ih => rw [List.reverse_cons, List.reverse_cons]; exact Vals.append ih (.cons r .nil)
section
variable {X : Cx} {pins : List (Addr × Obj)} {σ : St} {H : Hp} {s : Shared} {l b : Addr} {xs ys zs : List V}
theorem Inv.lset {its its' : List Value} {n : Nat} {f : Array Value → Array Value} {t' : Nat} (I : Inv X pins σ H s) (hH : H l = some (.lst xs))
    (e : s.heap.get? l = some { cls := .type "list", data := .seq its.toArray n }) (hf : f its.toArray = its'.toArray) (hv : Vals ys its') (hz : ys.length ≤ sizeLine) :
    Inv X pins σ (upd H l (.lst ys)) { s with heap := s.heap.update l (Obj.mapSeq f), toks := t' } := by
  have q := PySem.IsL.update e f
  rw [hf] at q
  refine I.write (x := l) (e := l) (by rw [hH]; exact trivial) (.inl rfl) (fun b' u hb hu => (Heap.get?_update_other s.heap (Obj.mapSeq f) (Ne.symm hb)).trans hu) ⟨_, q⟩ ?_
  exact ⟨hz, its', _, hv, q⟩
theorem Inv.lnew {its : List Value} {t' : Nat} (I : Inv X pins σ H s) (hv : Vals ys its) (hz : ys.length ≤ sizeLine) :
    Inv X pins σ (upd H s.heap.objs.size (.lst ys)) { s with heap := s.heap.push { cls := .type "list", data := .seq its.toArray }, toks := t' } :=
  I.laid (fun _ _ q => Heap.get?_push_of_some _ q) (Nat.le_refl _) ⟨hz, its, 0, hv, Heap.get?_push_size _ rfl⟩
theorem Inv.fresh (I : Inv X pins σ H s) : H s.heap.objs.size = none := I.hok.fresh (Nat.le_refl _)
theorem Inv.lstM (I : Inv X pins σ H s) (hH : H l = some (.lst xs)) : xs.length ≤ sizeLine ∧ ∃ (its : List Value) (n : Nat), Vals xs its ∧ xs.length = its.length ∧ s.heap.get? l = some { cls := .type "list", data := .seq its.toArray n } := by
  obtain ⟨z, its, n, r, e⟩ := I.hok l _ hH
  exact ⟨z, its, n, r, r.length, e⟩
end
section
variable {X : Cx}
def rAppend : V → List V → Hp → VK → Prop := fun x vs H Q => ∃ l xs y, x = .ref l ∧ vs = [y] ∧ H l = some (.lst xs) ∧ xs.length < sizeLine ∧ Q .non (upd H l (.lst (xs ++ [y])))
theorem mt_append : MtM X "list.append" rAppend := by
  intro pins s σ H x vs v us Q I rx rv h
  obtain ⟨l, xs, y, rfl, rfl, hH, hz, q⟩ := h
  cases rx
  obtain ⟨u, rfl, ru⟩ := rv.one
  obtain ⟨z, its, n, r, hl, e⟩ := I.lstM hH
  refine call_meets F.slot_list_append ⟨_, e, rfl⟩ F.entry_list_append (F.args_list_append_2 _ _) (PySem.list_append l its.toArray n u (by rw [List.size_toArray]; omega)) ⟨e, ?_⟩
  refine ⟨.non, _, I.lset (its' := its ++ [u]) hH e (by simp) (r.append (.cons ru .nil)) ?_, rfl, q⟩
  rw [List.length_append, List.length_singleton]
  omega
def rCat : R2 := fun x y H Q => ∃ l b xs zs, x = .ref l ∧ y = .ref b ∧ H l = some (.lst xs) ∧ H b = some (.lst zs) ∧ xs.length + zs.length ≤ sizeLine ∧ ∀ p, H p = none → Q (.ref p) (upd H p (.lst (xs ++ zs)))
theorem op_cat : OpR X (binaryOp .Add) rCat := by
  intro pins s σ H x y v u Q I rx ry h
  obtain ⟨l, b, xs, zs, rfl, rfl, hH, hB, hz, q⟩ := h
  cases rx
  cases ry
  obtain ⟨z, its, n, r, hl, e⟩ := I.lstM hH
  obtain ⟨z2, its2, n2, r2, hl2, e2⟩ := I.lstM hB
  refine PySem.P.add_list e e2 ?_ (by rw [List.size_toArray, List.size_toArray]; omega)
  have ea : its.toArray ++ its2.toArray = (its ++ its2).toArray := by simp
  rw [ea]
  exact ⟨.ref _, _, I.lnew (t' := s.toks) (r.append r2) (by rw [List.length_append]; omega), rfl, q _ I.fresh⟩
end
section
variable {prog : Program} {w : World} {A : Around} {E : Value → Shared → Prop} {s : Shared}
set_option maxRecDepth 100000 in
end
section
variable {X : Cx}
end
end L2
end
section
namespace L2
open PySem PySem.Spec PyProof.Rows
section
variable {κ : Type} [DecidableEq κ]
def valV (kvs : List (κ × V)) (k : κ) : Option V := (kvs.find? fun kv => decide (kv.1 = k)).map (·.2)
def putK (kvs : List (κ × V)) (k : κ) (v : V) : List (κ × V) :=
  if (kvs.any fun kv => decide (kv.1 = k)) = true then kvs.map (fun kv => if kv.1 = k then (kv.1, v) else kv) else kvs ++ [(k, v)]
def dropK (kvs : List (κ × V)) (k : κ) : List (κ × V) := kvs.filter fun kv => decide (kv.1 ≠ k)
theorem valV_pos {p : κ × V} {r : List (κ × V)} {k : κ} (e : p.1 = k) : valV (p :: r) k = some p.2 := by simp [valV, List.find?_cons, e]
theorem valV_neg {p : κ × V} {r : List (κ × V)} {k : κ} (e : ¬ p.1 = k) : valV (p :: r) k = valV r k := by simp [valV, List.find?_cons, e]
theorem valV_any (k : κ) : ∀ kvs : List (κ × V), (kvs.any fun kv => decide (kv.1 = k)) = (valV kvs k).isSome
  | [] => rfl
  | p :: r => by
    rw [List.any_cons]
    by_cases e : p.1 = k
    · simp only [valV_pos e, decide_eq_true e, Bool.true_or, Option.isSome_some]
    · rw [valV_neg e, decide_eq_false e, Bool.false_or]; exact valV_any k r
theorem length_putK (kvs : List (κ × V)) (k : κ) (v : V) : (putK kvs k v).length ≤ kvs.length + 1 := by
  unfold putK
  split
  · rw [List.length_map]; omega
  · rw [List.length_append, List.length_cons, List.length_nil]; omega
theorem putK_new {kvs : List (κ × V)} {k : κ} (v : V) (h : valV kvs k = none) : putK kvs k v = kvs ++ [(k, v)] := by
  unfold putK
  rw [valV_any, h]
  exact if_neg (by decide)
theorem RelO.isSome_eq {o : Option V} {u : Option Value} (r : RelO o u) : o.isSome = u.isSome := by
  cases o with
  | none => cases u with
    | none => rfl
    | some _ => exact (show False from r).elim
  | some _ => cases u with
    | none => exact (show False from r).elim
    | some _ => rfl
theorem KV.val {kvs : List (κ × V)} {vs : List (κ × Value)} (r : KV kvs vs) (k : κ) : RelO (valV kvs k) (valueAt vs k) := by
  unfold KV at r
  induction r with
  | nil => exact True.intro
  | @cons p q ps qs h t ih =>
    obtain ⟨h1, h2⟩ := h
    by_cases e : p.1 = k
    · have e' : q.1 = k := h1.symm.trans e
      have b : valueAt (q :: qs) k = some q.2 := by simp [valueAt, List.find?_cons, e']
      rw [valV_pos e, b]; exact h2
    · have e' : ¬ q.1 = k := fun z => e (h1.trans z)
      have b : valueAt (q :: qs) k = valueAt qs k := by simp [valueAt, List.find?_cons, e']
      rw [valV_neg e, b]; exact ih
theorem KV.any {kvs : List (κ × V)} {vs : List (κ × Value)} (r : KV kvs vs) (k : κ) : (kvs.any fun kv => decide (kv.1 = k)) = vs.any fun kv => decide (kv.1 = k) := by
  unfold KV at r
  induction r with
  | nil => rfl
  | cons h t ih => rw [List.any_cons, List.any_cons, ih, h.1]
theorem KV.repl {kvs : List (κ × V)} {vs : List (κ × Value)} (r : KV kvs vs) (k : κ) {y : V} {u : Value} (ry : RelV y u) :
    KV (kvs.map fun kv => if kv.1 = k then (kv.1, y) else kv) (vs.map fun kv => if kv.1 = k then (kv.1, u) else kv) := by
  unfold KV at r ⊢
  induction r with
  | nil => exact .nil
  | @cons p q ps qs h t ih =>
    rw [List.map_cons, List.map_cons]
    refine .cons ?_ ih
    obtain ⟨h1, h2⟩ := h
    by_cases e : p.1 = k
    · rw [if_pos e, if_pos (h1.symm.trans e)]; exact ⟨h1, ry⟩
    · rw [if_neg e, if_neg (fun z => e (h1.trans z))]; exact ⟨h1, h2⟩
theorem KV.put {kvs : List (κ × V)} {vs : List (κ × Value)} (r : KV kvs vs) (k : κ) {y : V} {u : Value} (ry : RelV y u) : KV (putK kvs k y) (stored vs k u) := by
  unfold putK stored
  rw [r.any k]
  by_cases e : (vs.any fun kv => decide (kv.1 = k)) = true
  · rw [if_pos e, if_pos e]; exact r.repl k ry
  · rw [if_neg e, if_neg e]; exact Paired.snoc r ⟨rfl, ry⟩
theorem KV.length {kvs : List (κ × V)} {vs : List (κ × Value)} (r : KV kvs vs) : kvs.length = vs.length := Paired.length r
end
theorem kV_is {P : Program} {w : World} {k : Key} {u : Value} (r : RelV (kV k) u) : (mixKind P w).is k u = true := by
  cases k with
  | inl i => obtain ⟨t, e⟩ := (show ∃ t, u = Value.int i t from r); subst e; exact mixKind_int P w i t
  | inr x => obtain ⟨t, e⟩ := (show ∃ t, u = Value.str x t from r); subst e; exact mixKind_str P w x t
theorem items_are {P : Program} {w : World} : ∀ {ks : List Key} {us : List Value}, Vals (ks.map kV) us → ItemsAre (mixKind P w) ks us
  | [], _, r => by rw [List.map_nil] at r; cases r; exact .nil
  | k :: ks, _, r => by
    rw [List.map_cons] at r
    cases r with
    | cons h t => exact .cons (kV_is h) (items_are t)
abbrev KT (H : Hp) : List (List Key × V) → List (List Key × Addr × Value) → Prop := Paired fun p q => p.1 = q.1 ∧ H q.2.1 = some (.tup (p.1.map kV)) ∧ RelV p.2 q.2.2
theorem KT.val {H : Hp} {kvs : List (List Key × V)} {xs : List (List Key × Addr × Value)} (r : KT H kvs xs) (k : List Key) : RelO (valV kvs k) ((atKey xs k).map (·.2)) := by
  induction r with
  | nil => exact True.intro
  | @cons p q ps qs h t ih =>
    obtain ⟨h1, _, h2⟩ := h
    by_cases e : p.1 = k
    · have e' : q.1 = k := h1.symm.trans e
      have b : atKey (q :: qs) k = some q.2 := by simp [atKey, List.find?_cons, e']
      rw [valV_pos e, b]; exact h2
    · have e' : ¬ q.1 = k := fun z => e (h1.trans z)
      have b : atKey (q :: qs) k = atKey qs k := by simp [atKey, List.find?_cons, e']
      rw [valV_neg e, b]; exact ih
theorem KT.repl {H : Hp} {kvs : List (List Key × V)} {xs : List (List Key × Addr × Value)} (r : KT H kvs xs) (k : List Key) {y : V} {u : Value} (ry : RelV y u) :
    KT H (kvs.map fun kv => if kv.1 = k then (kv.1, y) else kv) (xs.map (putAt k u)) := by
  induction r with
  | nil => exact .nil
  | @cons p q ps qs h t ih =>
    rw [List.map_cons, List.map_cons]
    refine .cons ?_ ih
    obtain ⟨h1, h2, h3⟩ := h
    unfold putAt
    by_cases e : p.1 = k
    · rw [if_pos e, if_pos (h1.symm.trans e)]; exact ⟨h1, h2, ry⟩
    · rw [if_neg e, if_neg (fun z => e (h1.trans z))]; exact ⟨h1, h2, h3⟩
theorem KT.put {H : Hp} {kvs : List (List Key × V)} {xs : List (List Key × Addr × Value)} (r : KT H kvs xs) (k : List Key) {b : Addr} {y : V} {u : Value} (hb : H b = some (.tup (k.map kV))) (ry : RelV y u) :
    KT H (putK kvs k y) (storedH xs k b u) := by
  have e : (kvs.any fun kv => decide (kv.1 = k)) = (atKey xs k).isSome := by
    rw [valV_any, (r.val k).isSome_eq, Option.isSome_map]
  unfold putK storedH
  rw [e]
  by_cases q : (atKey xs k).isSome = true
  · rw [if_pos q, if_pos q]; exact r.repl k ry
  · rw [if_neg q, if_neg q]; exact Paired.snoc r ⟨rfl, hb, ry⟩
theorem KT.keeps {H H' : Hp} {kvs : List (List Key × V)} {xs : List (List Key × Addr × Value)} (r : KT H kvs xs) (ht : ∀ b ys, H b = some (.tup ys) → H' b = some (.tup ys)) : KT H' kvs xs :=
  Paired.mapP r fun _ _ z => ⟨z.1, ht _ _ z.2.1, z.2.2⟩
section
variable {P : Program} {w : World} {H : Hp} {h : Heap} {a : Addr}
theorem rd_of {u : HO} (ok : HOk P w H h) (e : Rd H a u) : ObjOk P w H h a u := e.ok ok
theorem dk_rd {kvs : List (Key × V)} (ok : HOk P w H h) (e : Rd H a (.dK kvs)) : kvs.length ≤ sizeLine ∧ (a == sysModules) = false ∧ ∃ vs, KV kvs vs ∧ h.DictOf (mixKind P w) a vs :=
  show ObjOk P w H h a (.dK kvs) from rd_of ok e
theorem dk_of {kvs : List (Key × V)} (ok : HOk P w H h) (e : H a = some (.dK kvs)) : kvs.length ≤ sizeLine ∧ (a == sysModules) = false ∧ ∃ vs, KV kvs vs ∧ h.DictOf (mixKind P w) a vs := dk_rd ok (.inl e)
theorem key_of {ks : List Key} (ok : HOk P w H h) (e : H a = some (.tup (ks.map kV))) : (tupleKind (mixKind P w)).is h ks a := by
  obtain ⟨_, its, r, o, h1, h2, n, h3⟩ := (show ObjOk P w H h a (.tup (ks.map kV)) from ok a _ e)
  exact ⟨o, its.toArray, n, h1, h2, h3, by simpa using items_are r⟩
theorem dt_rd {kvs : List (List Key × V)} (ok : HOk P w H h) (e : Rd H a (.dT kvs)) : kvs.length ≤ sizeLine ∧ (a == sysModules) = false ∧
    ∃ xs, KT H kvs xs ∧ h.DictOfH (tupleKind (mixKind P w)) a xs := by
  obtain ⟨z, y, xs, r, o, es, ep, h1, h2, h3, h4, h5⟩ := (show ObjOk P w H h a (.dT kvs) from rd_of ok e)
  refine ⟨z, y, xs, r, o, es, ep, h1, h2, h3, h4, fun x hx => ?_, h5⟩
  have all : ∀ {l : List (List Key × V)} {m : List (List Key × Addr × Value)}, KT H l m → ∀ x ∈ m, (tupleKind (mixKind P w)).is h x.1 x.2.1 := by
    intro l m q
    induction q with
    | nil => intro x hx; exact nomatch hx
    | @cons p q ps qs hq t ih =>
      intro x hx
      rcases List.mem_cons.mp hx with e | hx
      · subst e
        exact key_of ok (by rw [← hq.1]; exact hq.2.1)
      · exact ih x hx
  exact all r x hx
theorem dt_of {kvs : List (List Key × V)} (ok : HOk P w H h) (e : H a = some (.dT kvs)) : kvs.length ≤ sizeLine ∧ (a == sysModules) = false ∧
    ∃ xs, KT H kvs xs ∧ h.DictOfH (tupleKind (mixKind P w)) a xs := dt_rd ok (.inl e)
end
def DGet (H : Hp) (a : Addr) (y : V) (r : Option V) : Prop :=
  (∃ kvs k, Rd H a (.dK kvs) ∧ y = kV k ∧ r = valV kvs k) ∨ ∃ kvs k b, Rd H a (.dT kvs) ∧ y = .ref b ∧ H b = some (.tup (k.map kV)) ∧ r = valV kvs k
def DPut (H : Hp) (a : Addr) (y v : V) (H' : Hp) : Prop :=
  (∃ kvs k, H a = some (.dK kvs) ∧ y = kV k ∧ kvs.length < sizeLine ∧ H' = upd H a (.dK (putK kvs k v))) ∨
  ∃ kvs k b, H a = some (.dT kvs) ∧ y = .ref b ∧ H b = some (.tup (k.map kV)) ∧ kvs.length < sizeLine ∧ H' = upd H a (.dT (putK kvs k v))
theorem DGet.k {H : Hp} {a : Addr} {kvs : List (Key × V)} {k : Key} (e : H a = some (.dK kvs)) : DGet H a (kV k) (valV kvs k) := .inl ⟨kvs, k, .inl e, rfl, rfl⟩
theorem DPut.k {H : Hp} {a : Addr} {kvs : List (Key × V)} {k : Key} {v : V} (e : H a = some (.dK kvs)) (hl : kvs.length < sizeLine) : DPut H a (kV k) v (upd H a (.dK (putK kvs k v))) := .inl ⟨kvs, k, e, rfl, hl, rfl⟩
section
variable {X : Cx} {pins : List (Addr × Obj)} {σ : St} {H : Hp} {s : Shared} {a : Addr} {y v : V} {u r : Value} {o : Option V} {A : Around} {E : Value → Shared → Prop}
theorem Inv.big (I : Inv X pins σ H s) : sysModules < s.heap.objs.size := by
  have h : mainGlobals < s.heap.objs.size := (I.mod.glob.keeps I.bk).lt
  exact Nat.lt_trans (by decide) h
theorem d_in {Q : Value → Shared → Prop} (hu : A.units + 1 < cLine) (I : Inv X pins σ H s) (g : DGet H a y o) (ry : RelV y u) (h : ∀ s', Inv X pins σ H s' → Q (.bool o.isSome) s') :
    wpAny (model X.prog X.w) A (compareOp .In u (.ref a)) Q E s := by
  rcases g with ⟨kvs, k, e, ey, l⟩ | ⟨kvs, k, b, e, ey, eb, l⟩
  · subst ey
    obtain ⟨z, hd, vs, rel, dd⟩ := dk_rd I.hok e
    refine wpAny_in_of (kV_is ry) hd dd.mapOf ?_
    rw [← (rel.val k).isSome_eq, ← l]
    exact h _ (I.tok _)
  · subst ey
    cases (show u = Value.ref b from ry)
    obtain ⟨z, hd, xs, rel, dd⟩ := dt_rd I.hok e
    refine wpAny_in_heap (tupleKind_room_in1 hu) (key_of I.hok eb) hd dd ?_
    have q := (rel.val k).isSome_eq
    rw [Option.isSome_map] at q
    rw [← q, ← l]
    exact h _ (I.tok _)
theorem d_notIn {Q : Value → Shared → Prop} (hu : A.units + 1 < cLine) (I : Inv X pins σ H s) (g : DGet H a y o) (ry : RelV y u) (h : ∀ s', Inv X pins σ H s' → Q (.bool (!o.isSome)) s') :
    wpAny (model X.prog X.w) A (compareOp .NotIn u (.ref a)) Q E s := by
  rcases g with ⟨kvs, k, e, ey, l⟩ | ⟨kvs, k, b, e, ey, eb, l⟩
  · subst ey
    obtain ⟨z, hd, vs, rel, dd⟩ := dk_rd I.hok e
    refine wpAny_notIn_of (kV_is ry) hd dd.mapOf ?_
    rw [← (rel.val k).isSome_eq, ← l]
    exact h _ (I.tok _)
  · subst ey
    cases (show u = Value.ref b from ry)
    obtain ⟨z, hd, xs, rel, dd⟩ := dt_rd I.hok e
    refine wpAny_notIn_heap (tupleKind_room_in1 hu) (key_of I.hok eb) hd dd ?_
    have q := (rel.val k).isSome_eq
    rw [Option.isSome_map] at q
    rw [← q, ← l]
    exact h _ (I.tok _)
theorem d_write {h' : Heap} {t' : Nat} {ob : HO} (I : Inv X pins σ H s) (mu : Mut (H a)) (hs : Heap.SameBut a s.heap h') (he : ∃ q, h'.get? a = some q) (new : ObjOk X.prog X.w (upd H a ob) h' a ob) :
    Inv X pins σ (upd H a ob) { s with heap := h', toks := t' } :=
  I.write (x := a) (e := a) mu (.inl rfl) (fun b q hb z => (hs.2 b hb).trans z) he new
theorem dk_new {P : Program} {w : World} {H' : Hp} {h' : Heap} {kvs : List (Key × V)} {vs : List (Key × Value)} (z : kvs.length ≤ sizeLine) (hd : (a == sysModules) = false) (rel : KV kvs vs) (dd : h'.DictOf (mixKind P w) a vs) :
    ObjOk P w H' h' a (.dK kvs) := ⟨z, hd, vs, rel, dd⟩
theorem d_setItem {H' : Hp} {Q : Unit → Shared → Prop} (hu : A.units + 1 < cLine) (I : Inv X pins σ H s) (g : DPut H a y v H') (ry : RelV y u) (rv : RelV v r) (h : ∀ s', Inv X pins σ H' s' → Q () s') :
    wpAny (model X.prog X.w) A (setItem (.ref a) u r) Q E s := by
  rcases g with ⟨kvs, k, e, ey, l, eH⟩ | ⟨kvs, k, b, e, ey, eb, l, eH⟩
  · subst ey eH
    obtain ⟨z, hd, vs, rel, dd⟩ := dk_of I.hok e
    have hz : vs.length ≤ sizeLine := by rw [← rel.length]; exact z
    have hl : (putK kvs k v).length ≤ sizeLine := by have := length_putK kvs k v; omega
    refine wpAny_setItem_pairs (hsz := hz) (kV_is ry) dd fun h' dd' hs => h _ ?_
    have he : ∃ q, h'.get? a = some q := let ⟨q, _, _, hq, _⟩ := dd'; ⟨q, hq⟩
    exact d_write I (by rw [e]; exact True.intro) hs he (dk_new hl hd (rel.put k rv) dd')
  · subst ey eH
    cases (show u = Value.ref b from ry)
    obtain ⟨z, hd, xs, rel, dd⟩ := dt_of I.hok e
    have hz : xs.length ≤ sizeLine := by rw [← Paired.length rel]; exact z
    have hl : (putK kvs k v).length ≤ sizeLine := by have := length_putK kvs k v; omega
    refine wpAny_setItem_heap (hsz := hz) (tupleKind_room_in1 hu) (key_of I.hok eb) dd fun h' dd' hs => h _ ?_
    obtain ⟨q, es, ep, hq, h2, h3, h4, _, h5⟩ := dd'
    refine d_write I (by rw [e]; exact True.intro) hs ⟨q, hq⟩ ⟨hl, hd, _, (rel.put k eb rv).keeps fun c ys ec => ?_, q, es, ep, hq, h2, h3, h4, h5⟩
    rw [upd_ne (ne_of ec e (fun z => nomatch z))]
    exact ec
end
section
variable {X : Cx} {pins : List (Addr × Obj)} {σ : St} {H : Hp} {s : Shared} {a : Addr} {kvs : List (Key × V)} {k : Key} {u : Value} {A : Around} {E : Value → Shared → Prop}
end
def tDIn (ty td : TE) : TE := fun σ H Q => ty σ H fun y H1 => td σ H1 fun x H2 => ∃ a o, x = .ref a ∧ DGet H2 a y o ∧ Q (.bl o.isSome) H2
def tDNotIn (ty td : TE) : TE := fun σ H Q => ty σ H fun y H1 => td σ H1 fun x H2 => ∃ a o, x = .ref a ∧ DGet H2 a y o ∧ Q (.bl (!o.isSome)) H2
def sDPut (td ty tv : TE) : TS := fun D σ H => tv σ H fun v H1 => td σ H1 fun x H2 => ty σ H2 fun y H3 => ∃ a H4, x = .ref a ∧ DPut H3 a y v H4 ∧ D.nx σ H4
section
variable {X : Cx} {o i e value : Expr} {pos pos' tpos : Pos} {td ty tv : TE}
theorem pc_din (hu : X.A.units + 1 < cLine) (hi : PE X i ty) (ho : PE X o td) : PC X .In i o (tDIn ty td) := by
  intro pins s σ H Q I h
  refine thn (hi pins s σ H _ I h) fun iv s1 ⟨y, H1, I1, ry, q1⟩ => thn (ho pins s1 σ H1 _ I1 q1) fun u s2 ⟨x, H2, I2, rx, a, ov, ex, g, q2⟩ => ?_
  subst ex
  obtain rfl : u = Value.ref a := rx
  exact d_in hu I2 g ry fun s3 I3 => ⟨.bl ov.isSome, H2, I3, rfl, q2⟩
theorem pc_dnotin (hu : X.A.units + 1 < cLine) (hi : PE X i ty) (ho : PE X o td) : PC X .NotIn i o (tDNotIn ty td) := by
  intro pins s σ H Q I h
  refine thn (hi pins s σ H _ I h) fun iv s1 ⟨y, H1, I1, ry, q1⟩ => thn (ho pins s1 σ H1 _ I1 q1) fun u s2 ⟨x, H2, I2, rx, a, ov, ex, g, q2⟩ => ?_
  subst ex
  obtain rfl : u = Value.ref a := rx
  exact d_notIn hu I2 g ry fun s3 I3 => ⟨.bl (!ov.isSome), H2, I3, rfl, q2⟩
theorem ps_dput (hu : X.A.units + 1 < cLine) (ho : PE X o td) (hi : PE X i ty) (hv : PE X value tv) (hs : swapsWith value (some (.Subscript o i pos')) pos.line X.env = pure false) :
    PS X (.Assign [.Subscript o i pos'] value pos) (sDPut td ty tv) := by
  intro pins s σ H D I h
  refine wpAny_Assign_Subscript (thn (hv pins s σ H _ I h) fun r s1 ⟨v, H1, I1, rv, q1⟩ => thn (ho pins s1 σ H1 _ I1 q1) fun u s2 ⟨x, H2, I2, rx, q2⟩ => thn (hi pins s2 σ H2 _ I2 q2) fun iv s3 ⟨y, H3, I3, ry, a, H4, ex, g, q3⟩ => ?_) hs
  subst ex
  obtain rfl : u = Value.ref a := rx
  exact d_setItem hu I3 g ry rv fun s4 I4 => ⟨σ, H4, I4, q3⟩
end
theorem dk_empty {P : Program} {w : World} {H : Hp} (h : Heap) (hb : sysModules < h.objs.size) : ObjOk P w H (h.push { cls := .type "dict", data := .dict #[] }) h.objs.size (.dK []) :=
  ⟨Nat.zero_le _, beq_eq_false_iff_ne.mpr (Ne.symm (Nat.ne_of_lt hb)), [], .nil, Heap.DictOf.new h⟩
def tDNewK : TE := fun _ H Q => ∀ p, H p = none → Q (.ref p) (upd H p (.dK []))
section
variable {X : Cx} {pos : Pos}
theorem pe_dnewK : PE X (.Dict [] [] pos) tDNewK := fun pins s σ H Q I h =>
  wpAny_Dict_empty ⟨.ref s.heap.objs.size, _, I.laid (a := s.heap.objs.size) (o := .dK []) (t' := s.toks) (fun _ _ q => Heap.get?_push_of_some _ q) (Nat.le_refl _) (dk_empty s.heap I.big), rfl, h _ (I.hok.fresh (Nat.le_refl _))⟩
end
def tPairs : List (TE × TE) → St → Hp → (List (V × V) → Hp → Prop) → Prop
  | [], _, H, Q => Q [] H
  | (tk, tv) :: r, σ, H, Q => tk σ H fun x H1 => tv σ H1 fun y H2 => tPairs r σ H2 fun ps H3 => Q ((x, y) :: ps) H3
abbrev VV : List (V × V) → List (Value × Value) → Prop := Paired fun p q => RelV p.1 q.1 ∧ RelV p.2 q.2
def PPs (X : Cx) (pos : Pos) (keys : List (Option Expr)) (values : List Expr) (trs : List (TE × TE)) : Prop :=
  ∀ (pins : List (Addr × Obj)) (s : Shared) (σ : St) (H : Hp) (Q : List (V × V) → Hp → Prop), Inv X pins σ H s → tPairs trs σ H Q →
    wpAny (model X.prog X.w) X.A (evalPairs (pairTrees keys values X.env pos)) (fun vs s' => ∃ ps H', Inv X pins σ H' s' ∧ VV ps vs ∧ Q ps H') X.xe s
theorem pps_nil {X : Cx} {pos : Pos} : PPs X pos [] [] [] := fun pins s σ H Q I h => pairTrees_nil_walk ⟨[], H, I, .nil, h⟩
theorem pps_cons {X : Cx} {pos : Pos} {k v : Expr} {ks : List (Option Expr)} {vs : List Expr} {tk tv : TE} {trs : List (TE × TE)} (hk : PE X k tk) (hv : PE X v tv) (hr : PPs X pos ks vs trs) :
    PPs X pos (some k :: ks) (v :: vs) ((tk, tv) :: trs) := fun pins s σ H Q I h =>
  pairTrees_cons_walk (thn (hk pins s σ H _ I h) fun u s1 ⟨x, H1, I1, rx, q1⟩ => thn (hv pins s1 σ H1 _ I1 q1) fun w2 s2 ⟨y, H2, I2, ry, q2⟩ =>
    thn (hr pins s2 σ H2 _ I2 q2) fun ws s3 ⟨ps, H3, I3, rel, q3⟩ => ⟨(x, y) :: ps, H3, I3, .cons ⟨rx, ry⟩ rel, q3⟩)
def mergeK (kvs more : List (Key × V)) : List (Key × V) := more.foldl (fun acc kv => putK acc kv.1 kv.2) kvs
theorem KV.merge : ∀ {more : List (Key × V)} {rs : List (Key × Value)} {kvs : List (Key × V)} {vs : List (Key × Value)}, KV more rs → KV kvs vs → KV (mergeK kvs more) (merged vs rs) := by
  intro more rs kvs vs r
  unfold KV at r
  induction r generalizing kvs vs with
  | nil => intro q; exact q
  | @cons p q ps qs h t ih =>
    intro r0
    have e : KV (putK kvs p.1 p.2) (stored vs q.1 q.2) := by
      have := r0.put p.1 h.2
      rw [← h.1]; exact this
    exact ih e
theorem length_mergeK : ∀ (more kvs : List (Key × V)), (mergeK kvs more).length ≤ kvs.length + more.length
  | [], kvs => by show kvs.length ≤ kvs.length + 0; omega
  | p :: r, kvs => by
    have h1 := length_mergeK r (putK kvs p.1 p.2)
    have h2 := length_putK kvs p.1 p.2
    show (mergeK (putK kvs p.1 p.2) r).length ≤ _
    rw [List.length_cons]; omega
theorem carries_of {P : Program} {w : World} : ∀ {kvs : List (Key × V)} {ws : List (Value × Value)}, VV (kvs.map fun kv => (kV kv.1, kv.2)) ws → ∃ rs, Carries (mixKind P w) ws rs ∧ KV kvs rs
  | [], _, r => by rw [List.map_nil] at r; cases r; exact ⟨[], True.intro, .nil⟩
  | p :: kvs, _, r => by
    rw [List.map_cons] at r
    cases r with
    | @cons a b as bs h t =>
      obtain ⟨rs, c, q⟩ := carries_of (P := P) (w := w) t
      obtain ⟨b1, b2⟩ := b
      exact ⟨(p.1, b2) :: rs, ⟨kV_is h.1, rfl, c⟩, .cons ⟨rfl, h.2⟩ q⟩
def tDisp (trs : List (TE × TE)) : TE := fun σ H Q => ∀ p, H p = none → tPairs trs σ (upd H p (.dK [])) fun ps H2 => H2 p = some (.dK []) ∧ ∃ kvs : List (Key × V), ps = kvs.map (fun kv => (kV kv.1, kv.2)) ∧ kvs.length ≤ 15 ∧ Q (.ref p) (upd H2 p (.dK (mergeK [] kvs)))
theorem pe_disp {X : Cx} {pos : Pos} {keys : List (Option Expr)} {values : List Expr} {trs : List (TE × TE)} (h : PPs X pos keys values trs) (hall : keys.all (·.isSome) = true) (hl : keys.length = values.length) (h0 : keys ≠ [])
    (h15 : keys.length ≤ 15) : PE X (.Dict keys values pos) (tDisp trs) := by
  intro pins s σ H Q I q
  have hn := I.hok.fresh (Nat.le_refl s.heap.objs.size)
  have I1 := I.laid (a := s.heap.objs.size) (o := .dK []) (h' := s.heap.push { cls := .type "dict", data := .dict #[] }) (t' := s.toks) (fun _ _ q => Heap.get?_push_of_some _ q) (Nat.le_refl _) (dk_empty s.heap I.big)
  refine wpAny_Dict_walk (knd := mixKind X.prog X.w) hall hl h0 h15 (thn (h pins _ σ _ _ I1 (q _ hn)) fun ws s2 ⟨ps, H2, I2, rel, e, kvs, ep, lk, q2⟩ => ?_)
  subst ep
  obtain ⟨rs, c, rk⟩ := carries_of (P := X.prog) (w := X.w) rel
  obtain ⟨z, hd, vs0, r0, dd⟩ := dk_of I2.hok e
  cases r0
  refine ⟨rs, c, dd, fun h' dd' hs => ⟨.ref s.heap.objs.size, _, ?_, rfl, q2⟩⟩
  have hz : (mergeK [] kvs).length ≤ sizeLine := by
    have h1 := length_mergeK kvs []
    rw [List.length_nil] at h1
    rw [sizeLine_eq]; omega
  have he : ∃ q, h'.get? s.heap.objs.size = some q := let ⟨q, _, _, hq, _⟩ := dd'; ⟨q, hq⟩
  exact d_write I2 (by rw [e]; exact True.intro) hs he (dk_new hz hd (rk.merge .nil) dd')
structure M1 (X : Cx) (o : Expr) (m : Str) (apos : Pos) (e : Expr) (cpos : Pos) : Prop where
  base : attributeBase o m X.env (eval o X.env) = eval o X.env
  few : ((backTo cpos (starEach [e] X.env)).all (fun x => !x.1) && (backToKw cpos (keywordEach [] X.env)).all (fun x => x.1.isSome)
    && decide (([e] : List Expr).length + ([] : List Keyword).length + (if ([] : List Keyword).isEmpty then 0 else 1) < 30)) = true
  line : (apos.endLine == cpos.line) = true
  trees : backTo cpos (starEach [e] X.env) = [(false, eval e X.env)]
structure M2 (X : Cx) (o : Expr) (m : Str) (apos : Pos) (e f : Expr) (cpos : Pos) : Prop where
  base : attributeBase o m X.env (eval o X.env) = eval o X.env
  few : ((backTo cpos (starEach [e, f] X.env)).all (fun x => !x.1) && (backToKw cpos (keywordEach [] X.env)).all (fun x => x.1.isSome)
    && decide (([e, f] : List Expr).length + ([] : List Keyword).length + (if ([] : List Keyword).isEmpty then 0 else 1) < 30)) = true
  line : (apos.endLine == cpos.line) = true
  trees : backTo cpos (starEach [e, f] X.env) = [(false, eval e X.env), (false, eval f X.env)]
section
variable {X : Cx} {pins : List (Addr × Obj)} {σ : St} {H : Hp} {s : Shared} {a : Addr} {y d : V} {u r : Value} {o : Option V} {A : Around} {E : Value → Shared → Prop}
end
section
variable {X : Cx} {o e f : Expr} {apos cpos : Pos} {td ty tx : TE}
end
section
variable {X : Cx} {pins : List (Addr × Obj)} {σ : St} {H : Hp} {s : Shared} {a : Addr} {kvs : List (Key × V)} {A : Around} {E : Value → Shared → Prop}
end
section
variable {X : Cx} {pins : List (Addr × Obj)} {σ : St} {H : Hp} {s : Shared} {a : Addr} {y : V} {u : Value} {A : Around} {E : Value → Shared → Prop}
end
end L2
end
section
namespace Att
open PySem PySem.W PySem.Calls PyProof.Rows
theorem ints_of_wellAll {P : Params} {h : Heap} : ∀ (ns : List Int) (vs : List Value), WellAll P h vs (ns.map WData.int) → IntsAre vs ns := by
  intro ns
  induction ns with
  | nil =>
    intro vs w
    rw [List.map_nil] at w
    cases w
    exact .nil
  | cons n ns ih =>
    intro vs w
    rw [List.map_cons] at w
    cases w with
    | cons a b =>
      cases a
      exact .cons _ _ (ih _ b)
theorem script_of {l : OpenLaw} {n : Nat} (hn : l.most = some n) {P : Params} {h : Heap} {args : List WData} {vals : List Value}
    (hpre : l.row.toRowW.claim.pre args = true) (hwl : WellAll P h vals args) :
    ∃ a vs ns, vals = [Value.ref a] ∧ args = [WData.list (ns.map WData.int)] ∧ h.get? a = some { cls := .type "list", data := .seq vs.toArray } ∧ IntsAre vs ns ∧ ns.length ≤ n := by
  have hsh : WShape.hasAll [] args [.list .int] = true := (pre_splitW hpre).1
  have hc : l.pre.holds [] { args := args } = true := (pre_splitW hpre).2
  obtain ⟨d, r, rfl, h1, h2⟩ := hasAllW_cons hsh
  obtain rfl := hasAllW_nil h2
  obtain ⟨xs, rfl, h3⟩ := hasW_list h1
  obtain ⟨ns, rfl⟩ := items_int h3
  have hlen : ns.length ≤ n := by
    unfold OpenLaw.pre at hc
    have h4 : (WTm.not (.lt (.lit (.int (n : Int))) (.len (.arg 0)))).holds [] { args := [.list (ns.map .int)] } = true := by
      have h4 := (holds_andW hc).1
      rw [hn] at h4
      exact h4
    have h5 := condW_of h4 (w_not (w_lt w_lit (w_len_list (w_arg rfl))))
    rw [List.length_map] at h5
    refine Nat.le_of_not_lt fun q => ?_
    have q' : (n : Int) < ((ns.length : Nat) : Int) := by omega
    first
      | (rw [decide_eq_true q'] at h5; exact absurd h5 (by decide))
      | (simp at h5; omega)
  cases hwl with
  | cons w1 w2 =>
    cases w2
    cases w1 with
    | list ho hall => exact ⟨_, _, ns, rfl, rfl, ho, ints_of_wellAll ns _ hall, hlen⟩
theorem post_true (l : OpenLaw) (args : List WData) : l.row.toRowW.claim.post args (.bool true) args = true :=
  postW_of (r := l.row.toRowW) (X := (true == true))
    (show WShape.has [] (.bool true) .bool = true by first | rfl | decide | simp [WShape.has, WShape.arms, WShape.armsAll])
    (show (WTm.eq .res (.lit (.bool true))).value [] { args := args, res := some (.bool true), after := args } = some (.bool (true == true)) from w_eq_bool (w_res rfl) w_lit) rfl
theorem attach_call {l : OpenLaw} {n : Nat} {q : Program} {loose : List Str} {XP : (Str → Option Value) → Heap → Prop} {YP : World → Heap → Prop} {d : DefRec}
    (hn : l.most = some n) (hdf : d.params.defaults = [])
    (call : ∀ (w : World) (s₀ s₁ : Shared) (mg mb : Str → Option Value) (fa : Addr) (o : Obj) (pm cd doc : Value) (a : Addr) (vs : List Value) (ns : List Int),
      Ground q loose [] XP w s₀ mg mb s₁.heap → YP w s₁.heap →
      s₁.heap.get? fa = some o → o.data = .func (docDef d.name d.params d.body d.scope pm cd doc) → s₁.heap.CodeRec cd d.name → mg d.name = some (.ref fa) →
      s₁.heap.get? a = some { cls := .type "list", data := .seq vs.toArray } → IntsAre vs ns → ns.length ≤ n → s₁.gens = #[] →
      codeAny (model l.prog w) callerA (.call (.ref fa) ⟨[.ref a], []⟩) (fun r s' => r = .ok (.ret (.bool true)) ∧ OldK s₁.heap s'.heap ∧ s'.os = s₁.os ∧ AllBare s'.gens) s₁) :
    WalkO q loose XP YP l.row.toRowW d [] (fun f vs => PySem.call f vs) := by
  intro w s₀ s₁ mg mb G Y fa o pm cd doc dV kV ho hd hcd hD hmg hg args vals as hpre hlay hrd hwl hlo
  obtain rfl : dV = .none := Dflts.none hD hdf
  obtain rfl : kV = .none := Dflts.noKw hD
  obtain ⟨a, vs, ns, rfl, rfl, hobj, hints, hlen⟩ := script_of hn hpre hwl
  refine enter_call (codeAny_mono (call w s₀ s₁ mg mb fa o pm cd doc a vs ns G Y ho (fd_plain hd) hcd hmg hobj hints hlen hg) fun r s' hq => ?_)
  obtain ⟨rfl, h2, h3, h4⟩ := hq
  exact ⟨.inl ⟨.bool true, .bool true, [], rfl, fun _ => rfl, .bool true, post_true l _, fun _ => ⟨List.Pairwise.nil, fun _ hm => (nomatch hm)⟩⟩, h2, h3, h4⟩
section
variable {prog : Program} {w : World} {A : Around} {E : Value → Shared → Prop} {s : Shared} {K : Frag}
def ledger (h : Heap) (L d : Addr) : List (Addr × Obj) := (List.range h.objs.size).filterMap fun a => if a = L ∨ a = d then none else (h.get? a).map fun o => (a, o)
end
end Att
namespace L2
open PySem PySem.Spec PyProof.Rows
theorem vals_ints : ∀ {vs : List Value} {ns : List Int}, IntsAre vs ns → Vals (ns.map V.int) vs
  | _, _, .nil => .nil
  | _, _, .cons n t h => .cons ⟨t, rfl⟩ (vals_ints h)
def Only (H : Hp) : Prop := ∀ b, H b = none ∨ ∃ o xs, H b = some (.frz o (.lst xs))
theorem law_call {P : Program} {w : World} {K : PySem.W.Frag} {mg mb : Str → Option Value} {CX : CXT} {k : Nat} {fa a : Addr} {fd : FuncData} {x : Str} {sp : Sp} {s₁ : Shared} {vs : List Value} {ns : List Int}
    (KX : K.In s₁.heap) (hns : s₁.heap.Ns mainGlobals mg) (hb : s₁.heap.Ns builtinsNs mb) (hbb : ∀ x : Str, x ≠ "__name__" → mb x = bootBuiltins x) (hlim : s₁.heap.NoLimit) (hg : s₁.gens = #[])
    (ha : s₁.heap.get? a = some { cls := .type "list", data := .seq vs.toArray }) (hi : IntsAre vs ns) (hl : ns.length ≤ sizeLine) (hr : Room k callerA)
    (F : ∀ base : Heap, K.In base → base.Ns mainGlobals mg → FnOk P w K mg base CX k fa fd [x] sp) (hbind : ∀ (s : Shared) (u : Value), BindsTo s fd ⟨[u], []⟩ [(x, u)])
    (hsp : ∀ H : Hp, Only H → SqL K H a (ns.map V.int) → sp [.ref a] H (fun v _ => v = .bl true) fun _ _ _ => False)
    (hCX : ∀ H e s', CX [] H s₁ (fun _ _ _ => False) e s' → False) :
    codeAny (model P w) callerA (.call (.ref fa) ⟨[.ref a], []⟩) (fun r s' => r = .ok (.ret (.bool true)) ∧ OldK s₁.heap s'.heap ∧ s'.os = s₁.os ∧ AllBare s'.gens) s₁ := by
  have rv := vals_ints hi
  have lenV := hi.length
  have core : ∀ H : Hp, Only H → SqL K H a (ns.map V.int) → HOk P w H s₁.heap → (∀ b, H b ≠ none → b = a) → (H a ≠ none → K.lookup a = none) →
      codeAny (model P w) callerA (.call (.ref fa) ⟨[.ref a], []⟩) (fun r s' => r = .ok (.ret (.bool true)) ∧ OldK s₁.heap s'.heap ∧ s'.os = s₁.os ∧ AllBare s'.gens) s₁ := by
    intro H hO hS hok hA hK
    have base_of : ∀ {b : Addr} {o : Obj}, s₁.heap.get? b = some o → H b = none → (hidT s₁.heap H).get? b = some o := fun e n => hidT_get e n
    have noA : ∀ {b : Addr} {o : Obj} {es : Array DictEntry} {ep : Nat}, s₁.heap.get? b = some o → o.data = .dict es ep → H b = none := fun {b o es ep} e d => by
      cases q : H b with
      | none => rfl
      | some u =>
        have e' : b = a := hA b (by rw [q]; simp)
        subst e'
        rw [ha] at e; cases e
        have d' : Data.seq vs.toArray _ = Data.dict es ep := d
        cases d'
    have nsK : ∀ {b : Addr} {m : Str → Option Value}, s₁.heap.Ns b m → (hidT s₁.heap H).Ns b m := fun {b m} ⟨o, es, ep, e, d, r⟩ => ⟨o, es, ep, base_of e (noA e d), d, r⟩
    have hKb : K.In (hidT s₁.heap H) := fun b o e => base_of (KX b o e) (by
      cases q : H b with
      | none => rfl
      | some u =>
        have e' : b = a := hA b (by rw [q]; simp)
        subst e'
        rw [hK (by rw [q]; simp)] at e; cases e)
    have hM : Mod K mg (hidT s₁.heap H) := ⟨hKb, nsK hns, ⟨mb, nsK hb, hbb⟩, let ⟨mc, h1, h2⟩ := hlim; ⟨mc, nsK h1, h2⟩⟩
    have e0 : Env0 P w K mg (hidT s₁.heap H) callerA [] s₁ H := ⟨rfl, hM, fun b o e => of_hidT e, Nat.le_of_eq (hidT_size _ _), trivial, fun b hb => absurd (show b ∈ ([] : List Addr) from hb) (by simp), hok, .of_eq hg⟩
    refine codeAny_mono ((F _ hKb (nsK hns)).run callerA [] s₁ H ⟨[.ref a], []⟩ [.ref a] [.ref a] _ _ hr e0 (hbind s₁ (.ref a)) (.cons rfl .nil) (hsp H hO hS)) fun r s' h => ?_
    cases r with
    | error e => exact (hCX H e s' h).elim
    | ok fl =>
      cases fl with
      | next => exact False.elim h
      | brk => exact False.elim h
      | cont => exact False.elim h
      | ret u =>
        obtain ⟨v, H', os, bare, un, hok', r', q⟩ := h
        have q' : v = .bl true := q
        subst q'
        obtain rfl : u = Value.bool true := r'
        refine ⟨rfl, OldK.of_keep fun b o e => ?_, os, bare⟩
        cases q : H b with
        | none => exact un.keep b o e q (by intro z; exact absurd (show b ∈ ([] : List Addr) from z) (by simp)) (by simp)
        | some u =>
          rcases hO b with z | ⟨ob, xs, z⟩
          · rw [q] at z; cases z
          · have z2 := un.frzs b ob _ z
            obtain ⟨e1, _⟩ := hok b _ z
            obtain ⟨e2, _⟩ := hok' b _ z2
            rw [e] at e1; cases e1
            exact e2
  cases hk : K.lookup a with
  | some o =>
    have e := KX a o hk
    rw [ha] at e
    cases e
    refine core (fun _ => none) (fun _ => .inl rfl) (.inr ⟨_, vs.toArray, _, hk, rfl, rfl, rfl, by rw [List.size_toArray, lenV]; exact hl, by simpa using rv⟩) (fun b u z => by have z' : (none : Option HO) = some u := z; cases z') (fun b z => absurd rfl z) fun z => absurd rfl z
  | none =>
    refine core (fun b => if b = a then some (.frz { cls := .type "list", data := .seq vs.toArray } (.lst (ns.map V.int))) else none) (fun b => ?_) (.inl (.inr ⟨{ cls := .type "list", data := .seq vs.toArray }, if_pos rfl⟩)) (fun b u z => ?_) (fun b z => ?_) fun _ => hk
    · by_cases hb : b = a
      · exact .inr ⟨_, _, if_pos hb⟩
      · exact .inl (if_neg hb)
    · by_cases hb : b = a
      · have z' := (if_pos hb).symm.trans z
        cases z'
        subst hb
        exact ⟨ha, by rw [List.length_map]; exact hl, vs, _, rv, ha⟩
      · have z' := (if_neg hb).symm.trans z
        cases z'
    · by_cases hb : b = a
      · exact hb
      · exact absurd (if_neg hb) z
end L2
namespace L2
open PySem PySem.Spec PyProof.Rows
theorem walk_of {l : PySem.W.OpenLaw} {n k : Nat} {q : Program} {loose : List Str} {XP : (Str → Option Value) → Heap → Prop} {YP : World → Heap → Prop} {d : DefRec} {K : Params → PySem.W.Frag} {CX : World → CXT} {sp : World → Sp} {x : Str}
    (hn : l.most = some n) (hn2 : n ≤ sizeLine) (hdf : d.params.defaults = []) (hr : Room k callerA)
    (hY : ∀ (w : World) (h : Heap), YP w h → (K w.params).In h)
    (F : ∀ (w : World) (mg : Str → Option Value) (fa : Addr) (h : Heap), (K w.params).In h → h.Ns mainGlobals mg → mg d.name = some (.ref fa) →
      ∃ fd : FuncData, (∀ (s : Shared) (u : Value), BindsTo s fd ⟨[u], []⟩ [(x, u)]) ∧
        ∀ base : Heap, (K w.params).In base → base.Ns mainGlobals mg → FnOk l.prog w (K w.params) mg base (CX w) k fa fd [x] (sp w))
    (hsp : ∀ (w : World) (H : Hp) (a : Addr) (ns : List Int), ns.length ≤ n → Only H → SqL (K w.params) H a (ns.map V.int) → sp w [.ref a] H (fun v _ => v = .bl true) fun _ _ _ => False)
    (hCX : ∀ (w : World) (H : Hp) (s : Shared) (e : Value) (s' : Shared), CX w [] H s (fun _ _ _ => False) e s' → False) :
    PySem.W.WalkO q loose XP YP l.row.toRowW d [] (fun f vs => PySem.call f vs) := by
  refine Att.attach_call hn hdf fun w s₀ s₁ mg mb fa o pm cd doc a vs ns G Y ho hd hcd hmg hobj hints hlen hg => ?_
  have KX := hY w _ Y
  obtain ⟨fd, hb, hF⟩ := F w mg fa _ KX G.T.g hmg
  exact law_call KX G.T.g G.T.b G.T.builtins G.T.nolimit hg hobj hints (Nat.le_trans hlen hn2) hr hF hb (fun H hO hS => hsp w H a ns hlen hO hS) fun H e s' => hCX w H s₁ e s'
end L2
/- THE LAST THEOREM (shape; LID, My.* are yours):
   My.Adr: a structure of the addresses that your layer names (classes, functions); My.Txt K t: a structure (Prop) of the equations over K;
   My.txt_mk : {K} {implicit addresses ..} (e1 : nsIn K mainGlobals "law" = some (some (.ref f))) (e2 : K.lookup f = some ⟨oc, od, .func (fnOf "law" "law" params body scope dV kV doc pm an cdv ct), sl⟩) (e3 : codeIn K cdv "law" = true) .. : ∃ t, My.Txt K t
set_option maxRecDepth 100000 in
set_option maxHeartbeats 0 in
(the tactic k_is has no namespace: write k_is) -/
namespace L2
open PySem PySem.Spec PyProof.Rows
def defArgs (s : Stmt) : Arguments := match s with
  | .FunctionDef _ a _ _ _ _ _ _ _ _ => a
  | _ => { posonlyargs := [], args := [], vararg := none, kwonlyargs := [], kw_defaults := [], kwarg := none, defaults := [] }
def defBody (s : Stmt) : List Stmt := match s with
  | .FunctionDef _ _ b _ _ _ _ _ _ _ => b
  | _ => []
def defScope (s : Stmt) : Scope := match s with
  | .FunctionDef _ _ _ _ _ _ sc _ _ _ => sc
  | _ => { kind := .function, names := [], isGenerator := false, isCoroutine := false }
abbrev CX0 : CXT := fun _ _ _ _ _ _ => False
abbrev E0 : XK := fun _ _ _ => False
theorem pass0 {X : Cx} : Passes CX0 X E0 := fun _ _ _ _ _ _ _ h => h.elim
structure Fun (K : PySem.W.Frag) (x qual : Str) (st : Stmt) (f : Addr) (fd : FuncData) : Prop where
  ex : ∃ (oc : Value) (od : Option Addr) (kV doc pm : Value) (an : Option Addr) (cdv ct : Value) (osl : Array (Option Value)),
    fd = PySem.W.fnOf x qual (defArgs st) (defBody st) (defScope st) .none kV doc pm an cdv ct ∧ K.lookup f = some ⟨oc, od, .func fd, osl⟩ ∧ PySem.W.codeIn K cdv qual = true
  kp : PySem.W.keepIn K (.ref f) = true
section
variable {P : Program} {w : World} {K : PySem.W.Frag} {mg : Str → Option Value} {base : Heap}
theorem Fun.ok {x qual : Str} {st : Stmt} {f : Addr} {fd : FuncData} {N ps : List Str} {k : Nat} {sp : Sp} (F : Fun K x qual st f fd) (S : FnScope N ps (defScope st)) (len : ∀ vs H Q E, sp vs H Q E → vs.length = ps.length)
    (hbody : ∀ (cdv : Value) (A : Around) (outer : List Env) (s : Shared) (H : Hp) (vs : List V) (Q : VK) (E : XK), Room k (A.deeper (envOfC qual (defScope st) s.heap.objs.size f cdv)) → sp vs H Q E →
      ∃ t, PSs (cxOf CX0 P w K mg base N qual (defScope st) f cdv A outer s H E).nox (defBody st) t ∧ t { nx := fun _ H' => Q .non H', rt := Q } (start N vs) H) : FnOk P w K mg base CX0 (k + 1) f fd ps sp := by
  obtain ⟨oc, od, kV, doc, pm, an, cdv, ct, osl, rfl, lk, hcd⟩ := F.ex
  refine fn_of lk hcd S len fun A outer s H vs Q E hr hsp => ?_
  obtain ⟨t, h, q⟩ := hbody cdv A outer s H vs Q E hr hsp
  exact ⟨t, h.nox, q⟩
theorem Fun.binds {x qual : Str} {st : Stmt} {f : Addr} {fd : FuncData} {ps : List Str} (F : Fun K x qual st f fd)
    (h : ∀ (kV doc pm : Value) (an : Option Addr) (cdv ct : Value) (us : List Value), us.length = ps.length → bindArgs (PySem.W.fnOf x qual (defArgs st) (defBody st) (defScope st) .none kV doc pm an cdv ct) ⟨us, []⟩ = pure (ps.zip us)) : Binds K fd ps [] := by
  obtain ⟨oc, od, kV, doc, pm, an, cdv, ct, osl, rfl, lk, hcd⟩ := F.ex
  exact .all (h kV doc pm an cdv ct)
theorem fun_mk {x qual : Str} {st : Stmt} {f : Addr} {oc : Value} {od an : Option Addr} {osl : Array (Option Value)} {kV doc pm cdv ct : Value} (l : K.lookup f = some ⟨oc, od, .func (PySem.W.fnOf x qual (defArgs st) (defBody st) (defScope st) .none kV doc pm an cdv ct), osl⟩)
    (c : PySem.W.codeIn K cdv qual = true) (k : PySem.W.keepIn K (.ref f) = true) : Fun K x qual st f (PySem.W.fnOf x qual (defArgs st) (defBody st) (defScope st) .none kV doc pm an cdv ct) := ⟨⟨oc, od, kV, doc, pm, an, cdv, ct, osl, rfl, l, c⟩, k⟩
end
theorem hu_of {A : Around} {k : Nat} (hr : Room k A) : A.units + 1 < cLine := Nat.lt_of_le_of_lt (Nat.add_le_add_left (by decide : 1 ≤ 64) _) hr.units
section
variable {X : Cx}
theorem pv (i : Nat) {x : Str} {pos : Pos} (hN : X.N[i]? = some x := by rfl) (hv : Vis X.env.scope x := by first | exact Or.inl rfl | exact Or.inr (Or.inl rfl) | exact Or.inr (Or.inr rfl)) (hd : (x == ("__debug__" : Str)) = false := by decide)
    (hcd : (x == ("__classdict__" : Str)) = false := by decide) : PE X (.Name x pos) (tVar i) := pe_var hN hv hd hcd
end
theorem iteF {A B : Prop} (h : B) : if false = true then A else B := by
  rw [if_neg Bool.false_ne_true]
  exact h
theorem iteT {A B : Prop} (h : A) : if true = true then A else B := by
  rw [if_pos rfl]
  exact h
theorem ite2 {c A B : Prop} [Decidable c] (h1 : c → A) (h2 : ¬ c → B) : if c then A else B := by
  by_cases h : c
  · rw [if_pos h]
    exact h1 h
  · rw [if_neg h]
    exact h2 h
def Same (H H' : Hp) : Prop := ∀ b o, H b = some o → H' b = some o
theorem Same.refl (H : Hp) : Same H H := fun _ _ h => h
theorem Same.trans {H H1 H2 : Hp} (a : Same H H1) (b : Same H1 H2) : Same H H2 := fun c o h => b c o (a c o h)
section
variable {κ : Type} [DecidableEq κ]
end
end L2
end
section
set_option autoImplicit false
namespace L2
open PySem PySem.Spec PyProof.Rows
def clo (cells : List (Str × Addr)) : List (Str × NameKind) → List (Str × Addr) → List (Str × Addr)
  | [], acc => acc
  | (n, k) :: r, acc => if k == .free then clo cells r ((n, (cells.lookup n).getD 0) :: acc) else clo cells r acc
theorem clo_of {cells : List (Str × Addr)} : ∀ {names : List (Str × NameKind)} {acc : List (Str × Addr)} {x : Str} {c : Addr}, (∀ y ∈ names, y.2 = .free → ∃ c, cells.lookup y.1 = some c) →
    (clo cells names acc).lookup x = some c → cells.lookup x = some c ∨ acc.lookup x = some c
  | [], acc, x, c, _, h => .inr h
  | (n, k) :: r, acc, x, c, ha, h => by
    have har : ∀ y ∈ r, y.2 = .free → ∃ c, cells.lookup y.1 = some c := fun y hy => ha y (List.mem_cons_of_mem _ hy)
    unfold clo at h
    by_cases hk : k = .free
    · subst hk
      rw [if_pos (by rfl)] at h
      rcases clo_of har h with q | q
      · exact .inl q
      · obtain ⟨c', e⟩ := ha (n, .free) List.mem_cons_self rfl
        rw [List.lookup_cons] at q
        cases hx : x == n with
        | true =>
          rw [hx] at q
          have hx' : x = n := by simpa using hx
          have e' : cells.lookup n = some c' := e
          rw [e'] at q
          rw [hx', e']
          exact .inl q
        | false =>
          rw [hx] at q
          exact .inr q
    · rw [if_neg (by simpa using hk)] at h
      exact clo_of har h
theorem clo_acc {cells : List (Str × Addr)} : ∀ {names : List (Str × NameKind)} {acc : List (Str × Addr)} {x : Str}, (∃ c, acc.lookup x = some c) → ∃ c, (clo cells names acc).lookup x = some c
  | [], _, _, h => h
  | (n, k) :: r, acc, x, h => by
    unfold clo
    split
    · refine clo_acc ?_
      rw [List.lookup_cons]
      cases hx : x == n with
      | true => exact ⟨_, rfl⟩
      | false => exact h
    · exact clo_acc h
theorem clo_has {cells : List (Str × Addr)} : ∀ {names : List (Str × NameKind)} {acc : List (Str × Addr)} {x : Str}, (x, NameKind.free) ∈ names → ∃ c, (clo cells names acc).lookup x = some c
  | [], _, _, h => by simp at h
  | (n, k) :: r, acc, x, h => by
    unfold clo
    rcases List.mem_cons.mp h with e | e
    · cases e
      rw [if_pos (by rfl)]
      exact clo_acc ⟨(cells.lookup n).getD 0, by simp [List.lookup_cons]⟩
    · split
      · exact clo_has e
      · exact clo_has e
theorem closure_go {env : Env} {scope : Scope}
    (ha : ∀ y ∈ scope.names, y.2 = .free → ∃ c, env.cells.lookup y.1 = some c) : closureFor scope env = pure (clo env.cells scope.names []) := by
  have go : ∀ (names : List (Str × NameKind)) (acc : List (Str × Addr)), (∀ y ∈ names, y.2 = .free → ∃ c, env.cells.lookup y.1 = some c) →
      (forIn names acc fun (x : Str × NameKind) (cs : List (Str × Addr)) => (do
        if x.2 == .free then
          let c ← cellOf env x.1
          pure (ForInStep.yield ((x.1, c) :: cs))
        else pure (ForInStep.yield cs) : Sem (ForInStep (List (Str × Addr))))) = pure (clo env.cells names acc) := by
    intro names
    induction names with
    | nil => intro acc _; rfl
    | cons y r ih =>
      intro acc h
      obtain ⟨n, k⟩ := y
      have hr : ∀ y ∈ r, y.2 = .free → ∃ c, env.cells.lookup y.1 = some c := fun y hy => h y (List.mem_cons_of_mem _ hy)
      rw [List.forIn_cons]
      unfold clo
      by_cases hk : k = .free
      · subst hk
        obtain ⟨c, e⟩ := h (n, .free) List.mem_cons_self rfl
        have e' : env.cells.lookup n = some c := e
        have hc : cellOf env n = pure c := by
          unfold cellOf
          rw [e']
        simp only [beq_self_eq_true, if_true, hc, pure_bind, e', Option.getD_some]
        exact ih _ hr
      · have hb : (k == NameKind.free) = false := by simpa using hk
        simp only [hb, Bool.false_eq_true, if_false, pure_bind]
        exact ih _ hr
  have q := go scope.names [] ha
  unfold closureFor
  simp only [bind_pure]
  exact q
theorem relabel_lookup {scope : Scope} {env : Env} {x : Str} : ∀ {names : List (Str × NameKind)},
    (names.map fun (n, k) => if (k == NameKind.free && env.scope.kind == .function && env.kindOf n == some .cell) then (n, NameKind.cell) else (n, k)).lookup x =
      (names.lookup x).map fun k => if (k == NameKind.free && env.scope.kind == .function && env.kindOf x == some .cell) then NameKind.cell else k
  | [] => rfl
  | (n, k) :: r => by
    have ih := @relabel_lookup scope env x r
    show List.lookup x ((if (k == NameKind.free && env.scope.kind == .function && env.kindOf n == some .cell) = true then (n, NameKind.cell) else (n, k)) :: _) = _
    cases hx : x == n with
    | true =>
      have hx' : x = n := by simpa using hx
      subst hx'
      by_cases hc : (k == NameKind.free && env.scope.kind == .function && env.kindOf x == some .cell) = true
      · rw [if_pos hc]
        simp only [List.lookup_cons, hx, Option.map_some, hc, if_true]
      · rw [if_neg hc]
        simp only [List.lookup_cons, hx, Option.map_some, if_neg hc]
    | false =>
      by_cases hc : (k == NameKind.free && env.scope.kind == .function && env.kindOf n == some .cell) = true
      · rw [if_pos hc]
        simp only [List.lookup_cons, hx]
        exact ih
      · rw [if_neg hc]
        simp only [List.lookup_cons, hx]
        exact ih
theorem cells_app : ∀ (names : List (Str × NameKind)) (n : Nat) (acc : List (Str × Addr)), cellsFrom n names acc = cellsFrom n names [] ++ acc
  | [], _, _ => rfl
  | (x, k) :: r, n, acc => by
    unfold cellsFrom
    split
    · rw [cells_app r (n + 1) ((x, n) :: acc), cells_app r (n + 1) [(x, n)], List.append_assoc]
      rfl
    · exact cells_app r n acc
theorem cells_mem : ∀ {names : List (Str × NameKind)} {n : Nat} {x : Str} {c : Addr}, (x, c) ∈ cellsFrom n names [] → (x, NameKind.cell) ∈ names ∧ n ≤ c
  | [], _, _, _, h => by cases h
  | (y, k) :: r, n, x, c, h => by
    unfold cellsFrom at h
    split at h
    · rename_i hk
      rw [cells_app] at h
      rcases List.mem_append.mp h with q | q
      · obtain ⟨h1, h2⟩ := cells_mem q
        exact ⟨List.mem_cons_of_mem _ h1, by omega⟩
      · cases List.mem_singleton.mp q
        have e : k = .cell := by simpa using hk
        rw [e]
        exact ⟨List.mem_cons_self, Nat.le_refl _⟩
    · obtain ⟨h1, h2⟩ := cells_mem h
      exact ⟨List.mem_cons_of_mem _ h1, h2⟩
theorem look_app {α : Type} {x : Str} : ∀ (l m : List (Str × α)), (l ++ m).lookup x = (l.lookup x).or (m.lookup x)
  | [], m => by simp
  | (k, v) :: r, m => by
    rw [List.cons_append, List.lookup_cons, List.lookup_cons]
    cases x == k with
    | true => rfl
    | false => exact look_app r m
theorem nd_kind : ∀ {names : List (Str × NameKind)} {x : Str} {k k' : NameKind}, (names.map (·.1)).Nodup → names.lookup x = some k → (x, k') ∈ names → k' = k
  | [], _, _, _, _, h, _ => by cases h
  | (y, j) :: r, x, k, k', hn, h, hm => by
    rw [List.map_cons] at hn
    obtain ⟨n1, n2⟩ := List.nodup_cons.mp hn
    rw [List.lookup_cons] at h
    rcases List.mem_cons.mp hm with e | e
    · cases e
      rw [show (y == y) = true by simp] at h
      exact Option.some.inj h
    · cases hx : x == y with
      | true =>
        have hx' : x = y := by simpa using hx
        subst hx'
        exact absurd (List.mem_map.mpr ⟨_, e, rfl⟩) n1
      | false =>
        rw [hx] at h
        exact nd_kind n2 h e
abbrev allC (C : Addr) (cells : List (Str × Addr)) (names : List (Str × NameKind)) : List (Str × Addr) := cellsFrom (C + 1) names (clo cells names [])
theorem allC_cases {C : Addr} {cells : List (Str × Addr)} {names : List (Str × NameKind)} {x : Str} {c : Addr} (h : (allC C cells names).lookup x = some c) :
    ((x, c) ∈ cellsFrom (C + 1) names [] ∧ (x, NameKind.cell) ∈ names ∧ C + 1 ≤ c) ∨ (clo cells names []).lookup x = some c := by
  unfold allC at h
  rw [cells_app, look_app] at h
  cases q : (cellsFrom (C + 1) names []).lookup x with
  | none =>
    rw [q] at h
    exact .inr h
  | some d =>
    rw [q] at h
    cases h
    have m := PySem.mem_of_lookup q
    exact .inl ⟨m, cells_mem m⟩
theorem allC_free {C : Addr} {cells : List (Str × Addr)} {names : List (Str × NameKind)} {x : Str} (hn : (names.map (·.1)).Nodup) (h : names.lookup x = some .free) : (allC C cells names).lookup x = (clo cells names []).lookup x := by
  unfold allC
  rw [cells_app, look_app]
  cases q : (cellsFrom (C + 1) names []).lookup x with
  | none => rfl
  | some d =>
    have m := (cells_mem (PySem.mem_of_lookup q)).1
    cases nd_kind hn h m
theorem newEnv_comp {M : Model} {A : Around} {E : Value → Shared → Prop} {s : Shared} {scope : Scope} {cl : List (Str × Addr)} {env : Env} {Q : Env → Shared → Prop}
    (hQ : ∀ h', h'.Ns s.heap.objs.size (fun _ => none) → (∀ b o, s.heap.get? b = some o → h'.get? b = some o) → CellsOk h' (s.heap.objs.size + 1) (cellsFrom (s.heap.objs.size + 1) scope.names []) →
      Q { scope := scope, locals := s.heap.objs.size, globals := env.globals, cells := cellsFrom (s.heap.objs.size + 1) scope.names cl, qual := env.qual, func := none, code := env.code, frame := env.frame, builtins := env.builtins } { s with heap := h' }) :
    wpAny M A (newFunctionEnv scope env.globals cl [] env.qual none .none (some env)) Q E s := by
  simp only [newFunctionEnv, Option.isSome_some, if_true]
  refine wpAny_bind (wpAny_alloc ?_)
  refine wpAny_bind (wpAny_layCells _ (fun name kind cells => by cases hkc : kind == NameKind.cell <;> simp [hkc]) _ _ _ _ ?_)
  have ok := cellsFrom_ok scope.names (s.heap.push { cls := .type "dict", data := .dict #[] }) (s.heap.objs.size + 1) [] ⟨fun _ _ hm => (nomatch hm), List.Pairwise.nil⟩ (by rw [Heap.size_push]; exact Nat.le_refl _)
  rw [Heap.size_push] at ok
  rw [show ({ s with heap := s.heap.push { cls := .type "dict", data := .dict #[] } } : Shared).heap.objs.size = s.heap.objs.size + 1 from Heap.size_push ..]
  refine wpAny_bind ?_
  rw [List.forIn_nil]
  exact wpAny_pure (wpAny_pure (hQ _ ((Heap.Ns.new s.heap (.type "dict")).keeps (pushCells_keeps _ _)) (fun b o e => pushCells_keeps _ _ b o (Heap.get?_push_of_some _ e)) ok))
def cxComp (X : Cx) (scope : Scope) (cl : List (Str × Addr)) (N : List Str) (C : Addr) (s₃ : Shared) (H₃ : Hp) (fp : List Addr) : Cx where
  prog := X.prog
  w := X.w
  K := X.K
  mg := X.mg
  base := X.base
  A := X.A
  N := N
  s₀ := s₃
  H₀ := H₃
  env := compEnvC scope cl C X.env
  outer := X.stack
  stack := X.stack
  ex := fp
  calm := X.calm
  fn := fun x => scope.names.lookup x == some .cell
  pn := []
  xe := fun _ _ => False
structure CompScope (X : Cx) (scope : Scope) (own : List Str) (fr : List Nat) (N : List Str) : Prop where
  kind : scope.kind = .function
  nodup : (scope.names.map (·.1)).Nodup
  names : ∀ y ∈ scope.names, y.2 = .local → scope.names.lookup y.1 = some .local
  free : ∀ y ∈ scope.names, y.2 = .free → X.env.kindOf y.1 = some .cell ∨ X.env.kindOf y.1 = some .free
  len : N.length = own.length + fr.length
  isfr : ∀ (j i : Nat), fr[j]? = some i → ∃ x, N[own.length + j]? = some x ∧ X.N[i]? = some x ∧ scope.names.lookup x = some .free
  frs : ∀ (j : Nat) (x : Str), N[j]? = some x → j < own.length → own[j]? = some x
def frv (σ : St) (fr : List Nat) : St := fr.map fun i => (σ[i]?).join
def PTs (X : Cx) (ifs : List Expr) (t : TT) : Prop :=
  ∀ (pins : List (Addr × Obj)) (s : Shared) (σ : St) (H : Hp) (Q : Bool → Hp → Prop), Inv X pins σ H s → t σ H Q →
    wpAny (model X.prog X.w) X.A (forIn ifs true fun c r => if r = true then do let ok ← isTrue c X.env (eval c X.env); pure (ForInStep.yield ok) else pure (ForInStep.yield r)) (TP X pins σ Q) X.xe s
def tYes : TT := fun _ H Q => Q true H
theorem pts_nil {X : Cx} : PTs X [] tYes := fun _ _ _ H _ I h => wpAny_tests_nil ⟨H, I, h⟩
theorem pts_one {X : Cx} {c : Expr} {t : TT} (h : PT X c t) : PTs X [c] t := fun pins s σ H Q I hq => wpAny_tests_one (h pins s σ H Q I hq)
theorem compLoop_any {prog : Program} {w : World} {A : Around} {R : Result → Shared → Prop} {s : Shared} {elt target iter : Expr} {ifs : List Expr} {scope : Scope} {pos : Pos} {it acc : Value} {env : Env} (I : Nat → Shared → Prop)
    (turn : ∀ n s, I n s → wpAny (model prog w) A (pyNext it) (fun r s₁ => match r with
      | none => R (.ok .next) s₁
      | some v => wpAny (model prog w) A (letOwnedTupleGo target it v) (fun _ s₁' => wpAny (model prog w) A (assign target env v) (fun _ s₂ =>
          wpAny (model prog w) A (forIn ifs true fun c r => if r = true then do let ok ← isTrue c env (eval c env); pure (ForInStep.yield ok) else pure (ForInStep.yield r)) (fun ok s₃ =>
            if ok = true then wpAny (model prog w) A (eval elt env) (fun x s₄ =>
              wpAny (model prog w) A (call (.builtin "list.append") [acc, x]) (fun _ s₅ => ∃ m, m < n ∧ I m s₅) (fun _ _ => False) s₄) (fun _ _ => False) s₃
            else ∃ m, m < n ∧ I m s₃) (fun _ _ => False) s₂) (fun _ _ => False) s₁') (fun _ _ => False) s₁) (fun _ _ => False) s)
    (n : Nat) (h : I n s) :
    codeAny (model prog w) A (.compLoop (.ListComp elt [⟨target, iter, ifs, 0⟩] scope pos) 0 it acc env) R s := by
  refine codeAny_loop rfl I (fun n s hI => ?_) n h
  show wpAny _ A ((compTurn (.ListComp elt [⟨target, iter, ifs, 0⟩] scope pos) 0 it acc env).onRaise (fun x => do noteFrame x env; theTreesLotGoes x)) _ _ s
  refine wpAny_noted ?_
  rw [compTurn_list]
  refine wpAny_bind (wpAny_standAt (wpAny_bind (wpAny_mono (turn n s hI) (fun r s₁ h₁ => ?_) fun _ _ h' => h'.elim)))
  cases r with
  | none => exact wpAny_pure h₁
  | some v =>
    refine wpAny_bind (wpAny_mono h₁ (fun _ s₁' h₁' => ?_) fun _ _ h' => h'.elim)
    refine wpAny_bind (wpAny_mono h₁' (fun _ s₂ h₂ => wpAny_bind (wpAny_mono h₂ (fun ok s₃ h₃ => ?_) fun _ _ h' => h'.elim)) fun _ _ h' => h'.elim)
    cases ok with
    | false => exact wpAny_pure ⟨rfl, h₃⟩
    | true =>
      exact wpAny_bind (wpAny_bind (wpAny_mono h₃ (fun x s₄ h₄ => wpAny_bind (wpAny_mono h₄ (fun _ s₅ h₅ => wpAny_pure (wpAny_pure ⟨rfl, h₅⟩)) fun _ _ h' => h'.elim)) fun _ _ h' => h'.elim))
section
variable {X : Cx} {scope : Scope} {own N : List Str} {fr : List Nat} {pins : List (Addr × Obj)} {σ : St} {H2 H3 : Hp} {s2 s3 : Shared}
theorem CompScope.clo (S : CompScope X scope own fr N) (ok : X.Ok) : ∀ y ∈ scope.names, y.2 = .free → ∃ c, X.env.cells.lookup y.1 = some c := fun y hy e => ok.has y.1 (S.free y hy e)
theorem CompScope.sub (S : CompScope X scope own fr N) (ok : X.Ok) {x : Str} {c : Addr} (h : (L2.clo X.env.cells scope.names []).lookup x = some c) : X.env.cells.lookup x = some c := by
  rcases clo_of (S.clo ok) h with q | q
  · exact q
  · simp at q
theorem CompScope.look (S : CompScope X scope own fr N) (ok : X.Ok) {x : Str} (h : scope.names.lookup x = some .free) {cl : List (Str × Addr)} {C : Addr} :
    (compEnvC scope cl C X.env).kindOf x = some .cell ∨ (compEnvC scope cl C X.env).kindOf x = some .free := by
  show ((relabel scope X.env).names.lookup x) = _ ∨ ((relabel scope X.env).names.lookup x) = _
  unfold relabel
  show List.lookup x (List.map _ _) = _ ∨ List.lookup x (List.map _ _) = _
  rw [relabel_lookup (scope := scope), h]
  simp only [Option.map_some]
  split
  · exact .inl rfl
  · exact .inr rfl
theorem comp_ok (S : CompScope X scope own fr N) (I : Inv X pins σ H3 s3) {fp : List Addr} (hf : ∀ b ∈ fp, FpOk X pins H3 b) (hlt : ∀ b ∈ fp, b < s3.heap.objs.size) :
    (cxComp X scope (allC s3.heap.objs.size X.env.cells scope.names) N s3.heap.objs.size s3 H3 fp).Ok where
  mod := I.ok.mod
  kind := S.kind
  glob := I.ok.glob
  blt := I.ok.blt
  above := Nat.le_refl _
  inj := fun x y c h1 h2 => by
    have old : ∀ {z : Str}, (L2.clo X.env.cells scope.names []).lookup z = some c → c < s3.heap.objs.size := fun {z} h => by
      obtain ⟨v, q⟩ := I.cell z c (S.sub I.ok h)
      exact q.lt
    have ap := (cellsFrom_ok scope.names (s3.heap.push { cls := .type "dict", data := .dict #[] }) (s3.heap.objs.size + 1) [] ⟨fun _ _ hm => (nomatch hm), List.Pairwise.nil⟩ (by rw [Heap.size_push]; exact Nat.le_refl _)).apart
    rw [Heap.size_push] at ap
    rcases allC_cases h1 with ⟨m1, _, l1⟩ | q1
    · rcases allC_cases h2 with ⟨m2, _, _⟩ | q2
      · exact name_of_addr ap m1 m2
      · exact absurd (Nat.lt_trans l1 (old q2)) (Nat.lt_irrefl _)
    · rcases allC_cases h2 with ⟨m2, _, l2⟩ | q2
      · exact absurd (Nat.lt_trans l2 (old q1)) (Nat.lt_irrefl _)
      · exact I.ok.inj x y c (S.sub I.ok q1) (S.sub I.ok q2)
  has := fun x hx => by
    have hx : (relabel scope X.env).names.lookup x = some .cell ∨ (relabel scope X.env).names.lookup x = some .free := hx
    unfold relabel at hx
    have hx : List.lookup x (scope.names.map _) = some NameKind.cell ∨ List.lookup x (scope.names.map _) = some NameKind.free := hx
    rw [relabel_lookup (scope := scope)] at hx
    cases e : scope.names.lookup x with
    | none => rw [e] at hx; simp at hx
    | some k =>
      have hm := PySem.mem_of_lookup e
      rw [e] at hx
      simp only [Option.map_some] at hx
      have hk : k = .free ∨ k = .cell := by
        by_cases hk : k = .free
        · exact .inl hk
        · have hb : (k == NameKind.free) = false := by simpa using hk
          simp only [hb, Bool.false_and, Bool.false_eq_true, if_false] at hx
          rcases hx with z | z
          · exact .inr (Option.some.inj z)
          · exact .inl (Option.some.inj z)
      rcases hk with hk | hk
      · subst hk
        obtain ⟨c, q⟩ := clo_has (cells := X.env.cells) (acc := []) hm
        exact ⟨c, (allC_free S.nodup e).trans q⟩
      · subst hk
        exact Option.isSome_iff_exists.mp (PySem.W.cellsFrom_some scope.names _ _ (.inl e))
  cab := fun x c h q => by
    have e : scope.names.lookup x = some .cell := beq_iff_eq.mp h
    show s3.heap.objs.size ≤ c
    have q' : (allC s3.heap.objs.size X.env.cells scope.names).lookup x = some c := q
    unfold allC at q'
    rw [cells_app, look_app] at q'
    obtain ⟨d, z⟩ := Option.isSome_iff_exists.mp (PySem.W.cellsFrom_some scope.names (s3.heap.objs.size + 1) [] (.inl e))
    rw [z] at q'
    cases q'
    have := (cells_mem (PySem.mem_of_lookup z)).2
    omega
  hd := I.ok.hd
  frames := I.ok.frames
  stk := .inl rfl
  exf := fun b hb => ⟨Nat.ne_of_lt (hlt b hb), fun x c e => by
    rcases allC_cases e with ⟨_, _, l⟩ | q
    · exact Nat.ne_of_gt (Nat.lt_trans (hlt b hb) l)
    · exact (hf b hb).2.2.2.2.1 x c (S.sub I.ok q)⟩
  bs := I.bs
  bsz := Nat.le_trans I.ok.bsz I.sz
  noex := fun b o e hb => by
    rcases (hf b hb).2.2.2.1 with z | z
    · exact I.ok.noex b o e z
    · exact absurd (Nat.lt_of_lt_of_le (Nat.lt_of_lt_of_le (Heap.lt_size e) I.ok.bsz) z) (Nat.lt_irrefl _)
  exfs := fun b hb hm => by
    rcases List.mem_cons.mp (I.stkSub b hm) with z | z
    · exact (hf b hb).2.1 z
    · exact (hf b hb).2.2.1 z
  funs := I.stack
  frf := I.stkFree
theorem comp_inv (S : CompScope X scope own fr N) (I : Inv X pins σ H3 s3) {fp : List Addr} (hf : ∀ b ∈ fp, FpOk X pins H3 b) (hlt : ∀ b ∈ fp, b < s3.heap.objs.size) {h1 : Heap} {t : Nat} {m : Str → Option Value}
    (hn : h1.Ns s3.heap.objs.size m) (hk : ∀ b o, s3.heap.get? b = some o → h1.get? b = some o) (hco : CellsOk h1 (s3.heap.objs.size + 1) (cellsFrom (s3.heap.objs.size + 1) scope.names [])) :
    Inv (cxComp X scope (allC s3.heap.objs.size X.env.cells scope.names) N s3.heap.objs.size s3 H3 fp) [] (List.replicate own.length none ++ frv σ fr) H3 { s3 with heap := h1, toks := t } where
  ok := comp_ok S I hf hlt
  os := rfl
  bare := I.bare
  base := Un.kept hk
  loc := by
    refine ⟨m, hn, fun j x v e1 e2 e3 => ?_⟩
    have e1 : N[j]? = some x := e1
    by_cases hj : j < own.length
    · rw [List.getElem?_append_left (by simpa using hj), List.getElem?_replicate] at e2
      split at e2 <;> cases e2
    · rw [List.getElem?_append_right (by simpa using hj), List.length_replicate] at e2
      unfold frv at e2
      rw [List.getElem?_map] at e2
      cases ef : fr[j - own.length]? with
      | none => rw [ef] at e2; cases e2
      | some i =>
        rw [ef] at e2
        obtain ⟨x', n1, n2, n3⟩ := S.isfr _ _ ef
        rw [show own.length + (j - own.length) = j by omega, e1] at n1
        cases n1
        have e4 : (σ[i]?).join = some v := by simpa using e2
        have e5 : σ[i]? = some (some v) := by
          cases q : σ[i]? with
          | none => rw [q] at e4; cases e4
          | some z => rw [q] at e4; have e4 : z = some v := e4; rw [e4]
        have hfree := S.free _ (PySem.mem_of_lookup n3) rfl
        obtain ⟨mX, hnX, hl⟩ := I.loc
        have hv : Vis X.env.scope x := by
          rcases hfree with z | z
          · exact .inr (.inl z)
          · exact .inr (.inr z)
        obtain ⟨u, r, l⟩ := hl i x v n2 e5 hv
        refine ⟨u, r, .inr ⟨S.look I.ok n3, ?_⟩⟩
        rcases l with ⟨z, _⟩ | ⟨_, c, ec, hc⟩
        · rcases hfree with y | y
          · rw [z] at y; cases y
          · rw [z] at y; cases y
        · obtain ⟨c', e'⟩ := clo_has (cells := X.env.cells) (acc := []) (PySem.mem_of_lookup n3)
          have := S.sub I.ok e'
          rw [ec] at this
          cases this
          exact ⟨c, (allC_free S.nodup n3).trans e', hc.keeps hk⟩
  cell := fun x c e => by
    rcases allC_cases e with ⟨mm, _, _⟩ | q
    · exact ⟨none, (hco.empty x c mm).1⟩
    · obtain ⟨v, z⟩ := I.cell x c (S.sub I.ok q)
      exact ⟨v, z.keeps hk⟩
  free := I.hok.fresh (Nat.le_refl _)
  freeC := fun x c e => by
    rcases allC_cases e with ⟨_, _, l⟩ | q
    · exact I.hok.fresh (Nat.le_of_lt l)
    · exact I.freeC x c (S.sub I.ok q)
  pin := fun p hp => by
    have hp : p ∈ ([] : List (Addr × Obj)) := hp
    simp at hp
  hok := I.hok.kept hk
  len := by
    show _ = N.length
    rw [S.len, List.length_append, List.length_replicate]
    unfold frv
    rw [List.length_map]
end
def CompB (own : Nat) (fr : List Nat) (g : TG) (tc : TT) (te : TE) (σ : St) (Q : VK) (J : It) (D : Addr) (H0 : Hp) : Prop := ∃ W : Nat → Nat → List V → Hp → Prop, (∃ m, W 0 m [] H0) ∧
  ∀ i m ys H, W i m ys H → (J.stop i H ∧ Q (.ref D) H) ∨ (J.go i H ∧ ∀ x H', J.yld i H x H' → ∀ σo : St, σo.length = own → g x (σo ++ frv σ fr) H' fun σ2 H2 => (∃ σo' : St, σo'.length = own ∧ σ2 = σo' ++ frv σ fr) ∧
    tc σ2 H2 fun b H3 => if b = true then te σ2 H3 fun y H4 => ys.length < sizeLine ∧ H4 D = some (.lst ys) ∧ ∃ m', m' < m ∧ W (i + 1) m' (ys ++ [y]) (upd H4 D (.lst (ys ++ [y]))) else ∃ m', m' < m ∧ W (i + 1) m' ys H3)
def tComp (own : Nat) (fr : List Nat) (wi : TI) (g : TG) (tc : TT) (te : TE) : TE := fun σ H Q => wi σ H fun J H1 => ∀ D, H1 D = none → CompB own fr g tc te σ Q J D (upd H1 D (.lst []))
structure CompParts (X : Cx) (scope : Scope) (N : List Str) (tg elt : Expr) (ifs : List Expr) (g : TG) (tc : TT) (te : TE) : Prop where
  tg : ∀ (cl : List (Str × Addr)) (C : Addr) (s₃ : Shared) (H₃ : Hp) (fp : List Addr), PG (cxComp X scope cl N C s₃ H₃ fp) tg g
  ifs : ∀ (cl : List (Str × Addr)) (C : Addr) (s₃ : Shared) (H₃ : Hp) (fp : List Addr), PTs (cxComp X scope cl N C s₃ H₃ fp) ifs tc
  elt : ∀ (cl : List (Str × Addr)) (C : Addr) (s₃ : Shared) (H₃ : Hp) (fp : List Addr), PE (cxComp X scope cl N C s₃ H₃ fp) elt te
section
variable {X : Cx} {scope : Scope} {own N : List Str} {fr : List Nat} {tg elt iter : Expr} {ifs : List Expr} {g : TG} {tc : TT} {te : TE} {wi : TI} {pos : Pos}
theorem comp_run (hc : X.calm = true) (S : CompScope X scope own fr N) (CP : CompParts X scope N tg elt ifs g tc te) {pins : List (Addr × Obj)} {σ : St} {H2 : Hp} {s2 : Shared} (I2 : Inv X pins σ H2 s2) {it : Addr} {fp : List Addr} {tn : Nat → Heap → Prop} {J : It}
    (T : Turn X.prog X.w X.K tg J fp it tn) (st2 : tn 0 s2.heap) (f2 : ∀ b ∈ fp, FpOk X pins H2 b) {Q : VK} {E : Value → Shared → Prop} {RR : Value → Addr → Result → Shared → Prop}
    (hw : ∀ D, H2 D = none → CompB own.length fr g tc te σ Q J D (upd H2 D (.lst [])))
    (hR : ∀ D C s' H' m, Inv X pins σ H' s' → FpOk X pins H' C → s'.heap.Ns C m → Q (.ref D) H' → RR (.ref D) C (.ok .next) s') :
    wpAny (model X.prog X.w) X.A (newList []) (fun acc s₃ => wpAny (model X.prog X.w) X.A (newFunctionEnv scope X.env.globals (clo X.env.cells scope.names []) [] X.env.qual none .none (some X.env)) (fun cenv s₄ =>
      codeAny (model X.prog X.w) X.A (.compStart (.ListComp elt [⟨tg, iter, ifs, 0⟩] scope pos) 0 (.ref it) acc { cenv with scope := relabel scope X.env }) (RR acc cenv.locals) s₄) E s₃) E s2 := by
  have hD : H2 s2.heap.objs.size = none := I2.hok.fresh (Nat.le_refl _)
  have I3 : Inv X pins σ (upd H2 s2.heap.objs.size (.lst [])) { s2 with heap := s2.heap.push { cls := .type "list", data := .seq ([] : List Value).toArray } } :=
    I2.lnew (t' := s2.toks) (ys := []) (its := []) .nil (Nat.zero_le _)
  have hltf : ∀ b ∈ fp, b < s2.heap.objs.size := fun b hb => by
    obtain ⟨o, e, _⟩ := T.obj _ _ st2 b hb
    exact Heap.lt_size e
  have f3 : ∀ b ∈ fp, FpOk X pins (upd H2 s2.heap.objs.size (.lst [])) b := fun b hb => ⟨by rw [upd_ne (Nat.ne_of_lt (hltf b hb))]; exact (f2 b hb).1, (f2 b hb).2⟩
  obtain ⟨W, ⟨m0, w0⟩, turn⟩ := hw _ hD
  refine wpAny_newObj_type (newEnv_comp fun h₁ hns₁ old₁ hco₁ => ?_)
  suffices main : ∀ s3 : Shared, s3 = { s2 with heap := s2.heap.push { cls := .type "list", data := .seq ([] : List Value).toArray } } → Inv X pins σ (upd H2 s2.heap.objs.size (.lst [])) s3 → ∀ m : Str → Option Value, h₁.Ns s3.heap.objs.size m →
      (∀ b o, s3.heap.get? b = some o → h₁.get? b = some o) → CellsOk h₁ (s3.heap.objs.size + 1) (cellsFrom (s3.heap.objs.size + 1) scope.names []) → codeAny (model X.prog X.w) X.A (.compStart (.ListComp elt [⟨tg, iter, ifs, 0⟩] scope pos) 0 (.ref it) (.ref s2.heap.objs.size) (compEnvC scope (allC s3.heap.objs.size X.env.cells scope.names) s3.heap.objs.size X.env))
        (RR (.ref s2.heap.objs.size) s3.heap.objs.size) { s3 with heap := h₁, toks := s3.toks } from
    main _ rfl I3 _ hns₁ old₁ hco₁
  clear hns₁ old₁ hco₁
  intro s3 hH3 I3 m3 hns₁ old hco
  have e3 : s3.heap = s2.heap.push { cls := .type "list", data := .seq ([] : List Value).toArray } := by rw [hH3]
  have hs3 : s2.heap.objs.size < s3.heap.objs.size := by rw [e3, Heap.size_push]; exact Nat.lt_succ_self _
  have hlt3 : ∀ b ∈ fp, b < s3.heap.objs.size := fun b hb => Nat.lt_trans (hltf b hb) hs3
  have I4 := comp_inv S I3 f3 hlt3 (t := s3.toks) hns₁ old hco
  have ok' := comp_ok S I3 f3 hlt3
  have st4 : tn 0 h₁ := T.keep 0 s2.heap h₁ st2 fun b hb o e => old b o (by rw [e3]; exact Heap.get?_push_of_some _ e)
  have stat : ∀ {H' : Hp}, (∀ b ∈ fp, H' b = none) → ∀ b ∈ fp, FpOk (cxComp X scope (allC s3.heap.objs.size X.env.cells scope.names) N s3.heap.objs.size s3 (upd H2 s2.heap.objs.size (.lst [])) fp) [] H' b := fun {H'} hn b hb =>
    ⟨hn b hb, Nat.ne_of_lt (hlt3 b hb), ok'.exfs b hb, .inl hb, (ok'.exf b hb).2, fun p hp => by
      have hp : p ∈ ([] : List (Addr × Obj)) := hp
      simp at hp⟩
  have loop : ∀ s₄ : Shared, s₄ = { s3 with heap := h₁, toks := s3.toks } →
      codeAny (model X.prog X.w) X.A (.compLoop (.ListComp elt [⟨tg, iter, ifs, 0⟩] scope pos) 0 (.ref it) (.ref s2.heap.objs.size) (compEnvC scope (allC s3.heap.objs.size X.env.cells scope.names) s3.heap.objs.size X.env))
        (RR (.ref s2.heap.objs.size) s3.heap.objs.size) s₄ := by
    rintro s₄ rfl
    refine compLoop_any (fun n s' => ∃ i ys σo H', σo.length = own.length ∧ Inv (cxComp X scope (allC s3.heap.objs.size X.env.cells scope.names) N s3.heap.objs.size s3 (upd H2 s2.heap.objs.size (.lst [])) fp) [] (σo ++ frv σ fr) H' s' ∧
      tn i s'.heap ∧ (∀ b ∈ fp, H' b = none) ∧ W i n ys H') ?_ m0 ⟨0, [], List.replicate own.length none, _, List.length_replicate, I4, st4, fun b hb => (f3 b hb).1, w0⟩
    rintro n s5 ⟨i, ys, σo, H5, hσ, I5, st5, fr5, w5⟩
    rcases turn i n ys H5 w5 with ⟨stop, qn⟩ | ⟨go, step⟩
    · refine thn (T.done (cxComp X scope (allC s3.heap.objs.size X.env.cells scope.names) N s3.heap.objs.size s3 (upd H2 s2.heap.objs.size (.lst [])) fp) rfl rfl rfl hc i [] s5 (σo ++ frv σ fr) H5 _ I5 (stat fr5) st5 stop) fun r s6 ⟨hr, I6⟩ => ?_
      subst hr
      obtain ⟨m, hn6, _⟩ := I6.loc
      refine hR _ _ s6 H5 m (I3.call' (ch := fp) I6.os I6.base I6.hok I6.bare fun b hb => ⟨(f3 b hb).2.2.2.1, (f3 b hb).2.1, (f3 b hb).2.2.2.2.1, (f3 b hb).2.2.2.2.2⟩) (I3.fpOk (Nat.le_refl _) I6.free) hn6 qn
    · refine thn (T.item (cxComp X scope (allC s3.heap.objs.size X.env.cells scope.names) N s3.heap.objs.size s3 (upd H2 s2.heap.objs.size (.lst [])) fp) rfl rfl rfl hc i [] s5 (σo ++ frv σ fr) H5 _ I5 (stat fr5) st5 go) fun r s6 ⟨u, hr, h6⟩ => ?_
      subst hr
      refine thn h6 fun _ s7 ⟨x, H7, I7, r7, y7, st7, fr7⟩ => ?_
      have I7' := I7.pinned (stat fr7) (T.obj _ _ st7)
      have again : ∀ {σ8 : St} {H8 : Hp} {s8 : Shared} {zs : List V}, Inv (cxComp X scope (allC s3.heap.objs.size X.env.cells scope.names) N s3.heap.objs.size s3 (upd H2 s2.heap.objs.size (.lst [])) fp) ([] ++ pinsAt fp s7.heap) (σ8 ++ frv σ fr) H8 s8 → σ8.length = own.length →
          (∃ m', m' < n ∧ W (i + 1) m' zs H8) → ∃ m, m < n ∧ ∃ i ys σo H', σo.length = own.length ∧ Inv (cxComp X scope (allC s3.heap.objs.size X.env.cells scope.names) N s3.heap.objs.size s3 (upd H2 s2.heap.objs.size (.lst [])) fp) [] (σo ++ frv σ fr) H' s8 ∧
            tn i s8.heap ∧ (∀ b ∈ fp, H' b = none) ∧ W i m ys H' := fun {σ8 H8 s8 zs} I8 h8 ⟨m', hm, w8⟩ => by
        refine ⟨m', hm, i + 1, zs, σ8, H8, h8, I8.unpinned, T.keep _ _ _ st7 fun b hb o e => (I8.pin (b, o) (List.mem_append_right _ (List.mem_append_right _ (mem_pinsAt hb e)))).1, fun b hb => ?_, w8⟩
        obtain ⟨o, e, d⟩ := T.obj _ _ st7 b hb
        exact (I8.pin (b, o) (List.mem_append_right _ (List.mem_append_right _ (mem_pinsAt hb e)))).2.1
      refine thn (CP.tg _ _ _ _ _ _ s7 _ H7 x u _ I7' r7 (step x H7 y7 σo hσ)) fun _ s8 ⟨σ8, H8, I8, ⟨σo', hσ', eσ⟩, q8⟩ => ?_
      subst eσ
      refine thn (CP.ifs _ _ _ _ _ _ s8 _ H8 _ I8 q8) fun b s9 ⟨H9, I9, q9⟩ => ?_
      cases b with
      | false =>
        rw [if_neg Bool.false_ne_true] at q9 ⊢
        exact again I9 hσ' q9
      | true =>
        rw [if_pos rfl] at q9 ⊢
        refine thn (CP.elt _ _ _ _ _ _ s9 _ H9 _ I9 q9) fun z s10 ⟨y, H10, I10, r10, hz, hD10, q10⟩ => ?_
        exact thn (mt_append _ s10 _ H10 (.ref s2.heap.objs.size) [y] (.ref s2.heap.objs.size) [z] (fun _ H => ∃ m', m' < n ∧ W (i + 1) m' (ys ++ [y]) H) I10 rfl (.cons r10 .nil) ⟨_, ys, y, rfl, rfl, hD10, hz, q10⟩)
          fun _ s11 ⟨_, H11, I11, _, q11⟩ => again I11 hσ' q11
  exact codeAny_compStart_list (loop _ rfl) (T.self _ 0 _ _ _ st4 (loop _ rfl))
theorem pe_comp (hc : X.calm = true) (S : CompScope X scope own fr N) (CP : CompParts X scope N tg elt ifs g tc te) (hi : PI X tg iter wi) (hs : ∀ x, foldedSetIterable iter X.env x = pure x := by intro _; rfl) :
    PE X (.ListComp elt [⟨tg, iter, ifs, 0⟩] scope pos) (tComp own.length fr wi g tc te) := by
  intro pins s σ H Q I h
  rw [eval_ListComp]
  refine wpAny_comprehension_free (use := none) (g := ⟨tg, iter, ifs, 0⟩) (gs := []) rfl hs (closure_go (S.clo I.ok)) S.kind S.names (thn (hi pins s σ H _ I h) fun v s1 h1 => thn h1 fun itv s2 h2 => ?_)
  obtain ⟨it, fp, tn, J, H2, e, I2, T, st2, f2, hw⟩ := h2
  subst e
  exact comp_run (RR := fun acc C => compPost (model X.prog X.w) X.A X.xe none (EP X pins σ Q) acc C) hc S CP I2 T st2 f2 hw fun D C s' H' m I' fC hn q =>
    ⟨m, hn, fun h' hb => ⟨.ref D, H', I'.turned (t' := s'.toks) (fun b o hne e => hb.extBut b o hne e) fC.1 fC.2.1 fC.2.2.2.1 fC.2.2.2.2.1 fC.2.2.2.2.2, rfl, q⟩⟩
theorem ps_setc {i : Nat} {x : Str} {posc pos' : Pos} (hc : X.calm = true) (hN : X.N.Nodup) (hi' : X.N[i]? = some x) (hx : Loc X.env.scope x) (S : CompScope X scope own fr N) (CP : CompParts X scope N tg elt ifs g tc te) (hi : PI X tg iter wi)
    (hsw : swapsWith (.ListComp elt [⟨tg, iter, ifs, 0⟩] scope posc) (some (.Name x pos')) pos.line X.env = pure true := by rfl)
    (hf : X.fn x = true ∨ X.env.scope.names.lookup x = some .local := by first | exact .inl rfl | exact .inr rfl | assumption) (hs : ∀ x, foldedSetIterable iter X.env x = pure x := by intro _; rfl) :
    PS X (.Assign [.Name x pos'] (.ListComp elt [⟨tg, iter, ifs, 0⟩] scope posc) pos) (tAsg (tComp own.length fr wi g tc te) (gName i)) := by
  intro pins s σ H D I h
  rw [exec_Assign_Name_used _ _ _ _ hsw]
  refine wpAny_bind (wpAny_standAt (wpAny_bind ?_))
  show wpAny _ X.A (do let _ ← comprehension (.ListComp elt [⟨tg, iter, ifs, 0⟩] scope posc) scope X.env _ (newList []) false (eval iter X.env) (some (assign (.Name x pos') X.env))) _ _ s
  refine wpAny_bind (wpAny_mono (wpAny_comprehension_free (use := some (assign (.Name x pos') X.env)) (g := ⟨tg, iter, ifs, 0⟩) (gs := []) (Q := fun _ s' => SP X pins D .next s') rfl hs (closure_go (S.clo I.ok)) S.kind S.names
    (thn (hi pins s σ H _ I h) fun v s1 h1 => thn h1 fun itv s2 h2 => ?_)) (fun _ _ q => wpAny_pure (wpAny_pure q)) fun _ _ e => e)
  obtain ⟨it, fp, tn, J, H2, e, I2, T, st2, f2, hw⟩ := h2
  subst e
  refine comp_run (Q := fun x H1 => gName i x σ H1 D.nx) (RR := fun acc C => compPost (model X.prog X.w) X.A X.xe (some (assign (.Name x pos') X.env)) (fun _ s' => SP X pins D .next s') acc C) hc S CP I2 T st2 f2 hw fun Dd C s' H' m I' fC hn q => ?_
  refine wpAny_assign_Name (store_ok2 I' hN hi' hx (show RelV (.ref Dd) (.ref Dd) from rfl) (fun s'' I'' ⟨a, hsb, ha⟩ => ?_) hf)
  have hCa : C ≠ a := by
    rcases ha with z | z
    · rw [z]; exact fC.2.1
    · exact fun e => fC.2.2.2.2.1 x a z e.symm
  refine ⟨m, hn.sameBut hsb hCa, fun h' hb => ?_⟩
  exact ⟨_, H', I''.turned (t' := s''.toks) (fun b o hne e => hb.extBut b o hne e) fC.1 fC.2.1 fC.2.2.2.1 fC.2.2.2.2.1 fC.2.2.2.2.2, q⟩
end
end L2
end
section
set_option autoImplicit false
namespace L2
open PySem PySem.Spec PyProof.Rows
inductive T where
  | non | int (i : Int) | str (x : Str) | tup (ts : List T)
mutual
def Dp (H : Hp) : T → V → Prop
  | .non, v => v = V.non
  | .int i, v => v = V.int i
  | .str x, v => v = V.str x
  | .tup ts, v => ∃ a xs, v = V.ref a ∧ H a = some (.tup xs) ∧ DpL H ts xs
def DpL (H : Hp) : List T → List V → Prop
  | [], xs => xs = []
  | t :: ts, xs => ∃ x r, xs = x :: r ∧ Dp H t x ∧ DpL H ts r
end
def Tups (H H' : Hp) : Prop := ∀ a xs, H a = some (.tup xs) → H' a = some (.tup xs)
theorem Tups.trans {H H1 H2 : Hp} (a : Tups H H1) (b : Tups H1 H2) : Tups H H2 := fun c o h => b c o (a c o h)
theorem Same.tups {H H' : Hp} (h : Same H H') : Tups H H' := fun a xs e => h a _ e
mutual
theorem Dp.mono {H H' : Hp} (h : Tups H H') : ∀ {t : T} {v : V}, Dp H t v → Dp H' t v
  | .non, _, e => by rw [Dp] at e ⊢; exact e
  | .int _, _, e => by rw [Dp] at e ⊢; exact e
  | .str _, _, e => by rw [Dp] at e ⊢; exact e
  | .tup ts, v, e => by
    rw [Dp] at e ⊢
    obtain ⟨a, xs, e, ha, hl⟩ := e
    exact ⟨a, xs, e, h a xs ha, DpL.mono h hl⟩
theorem DpL.mono {H H' : Hp} (h : Tups H H') : ∀ {ts : List T} {xs : List V}, DpL H ts xs → DpL H' ts xs
  | [], _, e => by rw [DpL] at e ⊢; exact e
  | t :: ts, xs, e => by
    rw [DpL] at e ⊢
    obtain ⟨x, r, e, h1, h2⟩ := e
    exact ⟨x, r, e, Dp.mono h h1, DpL.mono h h2⟩
end
theorem DpL.nil {H : Hp} : DpL H [] [] := by rw [DpL]
theorem DpL.cons {H : Hp} {t : T} {ts : List T} {x : V} {xs : List V} (h : Dp H t x) (r : DpL H ts xs) : DpL H (t :: ts) (x :: xs) := by
  rw [DpL]
  exact ⟨x, xs, rfl, h, r⟩
theorem DpL.cases {H : Hp} {t : T} {ts : List T} {xs : List V} (h : DpL H (t :: ts) xs) : ∃ x r, xs = x :: r ∧ Dp H t x ∧ DpL H ts r := by
  rw [DpL] at h
  exact h
theorem DpL.of_nil {H : Hp} {xs : List V} (h : DpL H [] xs) : xs = [] := by
  rw [DpL] at h
  exact h
theorem Dp.int {H : Hp} (i : Int) : Dp H (.int i) (.int i) := by rw [Dp]
theorem Dp.str {H : Hp} (x : Str) : Dp H (.str x) (.str x) := by rw [Dp]
theorem Dp.of_int {H : Hp} {i : Int} {v : V} (h : Dp H (.int i) v) : v = .int i := by
  rw [Dp] at h
  exact h
theorem Dp.of_str {H : Hp} {x : Str} {v : V} (h : Dp H (.str x) v) : v = .str x := by
  rw [Dp] at h
  exact h
theorem Dp.of_tup {H : Hp} {ts : List T} {v : V} (h : Dp H (.tup ts) v) : ∃ a xs, v = V.ref a ∧ H a = some (.tup xs) ∧ DpL H ts xs := by
  rw [Dp] at h
  exact h
theorem Dp.tup {H : Hp} {ts : List T} {a : Addr} {xs : List V} (h : H a = some (.tup xs)) (r : DpL H ts xs) : Dp H (.tup ts) (.ref a) := by
  rw [Dp]
  exact ⟨a, xs, rfl, h, r⟩
theorem DpL.length {H : Hp} : ∀ {ts : List T} {xs : List V}, DpL H ts xs → xs.length = ts.length
  | [], xs, h => by rw [h.of_nil]; rfl
  | t :: ts, xs, h => by
    obtain ⟨x, r, rfl, _, h2⟩ := h.cases
    rw [List.length_cons, List.length_cons, h2.length]
theorem DpL.get {H : Hp} : ∀ {ts : List T} {xs : List V} {i : Nat} {t : T}, DpL H ts xs → ts[i]? = some t → ∃ x, xs[i]? = some x ∧ Dp H t x
  | [], _, _, _, _, e => by simp at e
  | t :: ts, xs, 0, t', h, e => by
    obtain ⟨x, r, rfl, h1, _⟩ := h.cases
    simp at e
    subst e
    exact ⟨x, rfl, h1⟩
  | t :: ts, xs, i + 1, t', h, e => by
    obtain ⟨x, r, rfl, _, h2⟩ := h.cases
    obtain ⟨y, e1, e2⟩ := h2.get (i := i) (t := t') (by simpa using e)
    exact ⟨y, by simpa using e1, e2⟩
theorem DpL.append {H : Hp} : ∀ {ts us : List T} {xs ys : List V}, DpL H ts xs → DpL H us ys → DpL H (ts ++ us) (xs ++ ys)
  | [], _, xs, _, h, g => by rw [h.of_nil]; exact g
  | t :: ts, us, xs, ys, h, g => by
    obtain ⟨x, r, rfl, h1, h2⟩ := h.cases
    exact .cons h1 (h2.append g)
theorem DpL.strs {H : Hp} : ∀ (ns : List Str), DpL H (ns.map T.str) (ns.map V.str)
  | [] => .nil
  | n :: ns => .cons (Dp.str n) (DpL.strs ns)
theorem DpL.of_strs {H : Hp} : ∀ {ns : List Str} {xs : List V}, DpL H (ns.map T.str) xs → xs = ns.map V.str
  | [], _, h => h.of_nil
  | n :: ns, xs, h => by
    obtain ⟨x, r, rfl, h1, h2⟩ := DpL.cases (t := T.str n) (ts := ns.map T.str) h
    rw [h1.of_str, DpL.of_strs h2]
    rfl
mutual
theorem Dp.fn {H : Hp} : ∀ {t t' : T} {v : V}, Dp H t v → Dp H t' v → t = t'
  | .non, t', v, h, g => by
    rw [Dp] at h
    subst h
    cases t' <;> rw [Dp] at g
    all_goals first | rfl | (cases g; done) | (obtain ⟨_, _, e, _⟩ := g; cases e)
  | .int i, t', v, h, g => by
    rw [Dp] at h
    subst h
    cases t' <;> rw [Dp] at g
    all_goals first | (cases g; rfl) | (cases g; done) | (obtain ⟨_, _, e, _⟩ := g; cases e)
  | .str i, t', v, h, g => by
    rw [Dp] at h
    subst h
    cases t' <;> rw [Dp] at g
    all_goals first | (cases g; rfl) | (cases g; done) | (obtain ⟨_, _, e, _⟩ := g; cases e)
  | .tup ts, t', v, h, g => by
    obtain ⟨a, xs, rfl, ha, hl⟩ := h.of_tup
    cases t' with
    | tup us =>
      obtain ⟨b, ys, e, hb, gl⟩ := g.of_tup
      cases e
      rw [ha] at hb
      cases hb
      rw [DpL.fn hl gl]
    | _ => rw [Dp] at g; cases g
theorem DpL.fn {H : Hp} : ∀ {ts us : List T} {xs : List V}, DpL H ts xs → DpL H us xs → ts = us
  | [], us, xs, h, g => by
    have e := h.of_nil
    subst e
    cases us with
    | nil => rfl
    | cons u us =>
      obtain ⟨_, _, e, _⟩ := g.cases
      cases e
  | t :: ts, us, xs, h, g => by
    obtain ⟨x, r, rfl, h1, h2⟩ := h.cases
    cases us with
    | nil =>
      have e := g.of_nil
      cases e
    | cons u us =>
      obtain ⟨_, _, e, g1, g2⟩ := g.cases
      cases e
      rw [Dp.fn h1 g1, DpL.fn h2 g2]
end
def Lv : Nat → T → Prop
  | _, .non => True
  | _, .int _ => True
  | _, .str _ => True
  | 0, .tup _ => False
  | n + 1, .tup ts => ∀ t ∈ ts, Lv n t
noncomputable def dcd (p : Prop) : Bool := @decide p (Classical.propDecidable p)
theorem dcd_t {p : Prop} (h : p) : dcd p = true := @decide_eq_true p (Classical.propDecidable p) h
theorem dcd_f {p : Prop} (h : ¬ p) : dcd p = false := @decide_eq_false p (Classical.propDecidable p) h
theorem dcd_iff {p : Prop} : dcd p = true ↔ p := ⟨fun h => @of_decide_eq_true p (Classical.propDecidable p) h, dcd_t⟩
theorem dcd_eq {p q : Prop} (h : p ↔ q) : dcd p = dcd q := by rw [propext h]
theorem dcd_of {p : Prop} {b : Bool} (h : b = true ↔ p) : b = dcd p := by
  by_cases hp : p
  · rw [dcd_t hp]
    exact h.mpr hp
  · rw [dcd_f hp]
    cases b with
    | false => rfl
    | true => exact absurd (h.mp rfl) hp
section
variable {X : Cx} {pins : List (Addr × Obj)} {σ : St} {H : Hp} {s : Shared}
theorem tup_at (I : Inv X pins σ H s) {a : Addr} {xs : List V} (h : H a = some (.tup xs)) : ∃ its : List Value, Vals xs its ∧ s.heap.IsTuple a its.toArray := by
  obtain ⟨its, r, p, _⟩ := I.tuple (SqT.of h)
  exact ⟨its, r, p⟩
theorem eqAt_T (I : Inv X pins σ H s) : ∀ (n : Nat) (A : Around) (t1 t2 : T) (v1 v2 : V) (u1 u2 : Value), Lv n t1 → A.units + n < cLine → Dp H t1 v1 → Dp H t2 v2 → RelV v1 u1 → RelV v2 u2 → SeqAt.EqAt A s u1 u2 (dcd (t1 = t2)) := by
  have flat : ∀ (A : Around) (t1 t2 : T) (v1 v2 : V) (u1 u2 : Value), flatV v1 = true → flatV v2 = true → Dp H t1 v1 → Dp H t2 v2 → RelV v1 u1 → RelV v2 u2 → eqV v1 v2 = dcd (t1 = t2) → SeqAt.EqAt A s u1 u2 (dcd (t1 = t2)) :=
    fun A t1 t2 v1 v2 u1 u2 f1 f2 _ _ r1 r2 e => by
      rw [← e]
      exact eqAt_V r1 r2 f1 f2
  intro n
  induction n with
  | zero =>
    intro A t1 t2 v1 v2 u1 u2 hn hu d1 d2 r1 r2
    have hu0 : A.units < cLine := by omega
    cases t1 with
    | tup ts => exact (show False from hn).elim
    | non =>
      rw [Dp] at d1
      subst d1
      cases t2 with
      | tup us =>
        obtain ⟨b, ys, rfl, hb, _⟩ := d2.of_tup
        obtain ⟨its, r, p⟩ := tup_at I hb
        cases r1
        cases r2
        rw [dcd_f (by intro h; cases h)]
        exact SeqAt.EqAt.none_tuple p hu0
      | non => rw [Dp] at d2; subst d2; exact flat A _ _ _ _ _ _ rfl rfl (by rw [Dp]) (by rw [Dp]) r1 r2 (dcd_t rfl).symm
      | int j => rw [Dp] at d2; subst d2; exact flat A _ _ _ _ _ _ rfl rfl (by rw [Dp]) (by rw [Dp]) r1 r2 (dcd_f (by intro h; cases h)).symm
      | str j => rw [Dp] at d2; subst d2; exact flat A _ _ _ _ _ _ rfl rfl (by rw [Dp]) (by rw [Dp]) r1 r2 (dcd_f (by intro h; cases h)).symm
    | int i =>
      rw [Dp] at d1
      subst d1
      cases t2 with
      | tup us =>
        obtain ⟨b, ys, rfl, hb, _⟩ := d2.of_tup
        obtain ⟨its, r, p⟩ := tup_at I hb
        obtain ⟨t, rfl⟩ := r1
        cases r2
        rw [dcd_f (by intro h; cases h)]
        exact SeqAt.EqAt.int_tuple i t p hu0
      | non => rw [Dp] at d2; subst d2; exact flat A _ _ _ _ _ _ rfl rfl (by rw [Dp]) (by rw [Dp]) r1 r2 (dcd_f (by intro h; cases h)).symm
      | int j =>
        rw [Dp] at d2
        subst d2
        exact flat A _ _ _ _ _ _ rfl rfl (by rw [Dp]) (by rw [Dp]) r1 r2 (dcd_of (by show (i == j) = true ↔ _; rw [beq_iff_eq]; exact ⟨fun h => by rw [h], fun h => by cases h; rfl⟩))
      | str j => rw [Dp] at d2; subst d2; exact flat A _ _ _ _ _ _ rfl rfl (by rw [Dp]) (by rw [Dp]) r1 r2 (dcd_f (by intro h; cases h)).symm
    | str i =>
      rw [Dp] at d1
      subst d1
      cases t2 with
      | tup us =>
        obtain ⟨b, ys, rfl, hb, _⟩ := d2.of_tup
        obtain ⟨its, r, p⟩ := tup_at I hb
        obtain ⟨t, rfl⟩ := r1
        cases r2
        rw [dcd_f (by intro h; cases h)]
        exact SeqAt.EqAt.str_tuple i t p hu0
      | non => rw [Dp] at d2; subst d2; exact flat A _ _ _ _ _ _ rfl rfl (by rw [Dp]) (by rw [Dp]) r1 r2 (dcd_f (by intro h; cases h)).symm
      | int j => rw [Dp] at d2; subst d2; exact flat A _ _ _ _ _ _ rfl rfl (by rw [Dp]) (by rw [Dp]) r1 r2 (dcd_f (by intro h; cases h)).symm
      | str j =>
        rw [Dp] at d2
        subst d2
        exact flat A _ _ _ _ _ _ rfl rfl (by rw [Dp]) (by rw [Dp]) r1 r2 (dcd_of (by show (i == j) = true ↔ _; rw [beq_iff_eq]; exact ⟨fun h => by rw [h], fun h => by cases h; rfl⟩))
  | succ n ih =>
    intro A t1 t2 v1 v2 u1 u2 hn hu d1 d2 r1 r2
    cases t1 with
    | non => exact (ih A .non t2 v1 v2 u1 u2 (by cases n <;> trivial) (by omega) d1 d2 r1 r2)
    | int i => exact (ih A (.int i) t2 v1 v2 u1 u2 (by cases n <;> trivial) (by omega) d1 d2 r1 r2)
    | str i => exact (ih A (.str i) t2 v1 v2 u1 u2 (by cases n <;> trivial) (by omega) d1 d2 r1 r2)
    | tup ts =>
      have hn : ∀ t ∈ ts, Lv n t := hn
      have hu0 : A.units < cLine := by omega
      obtain ⟨a, xs, rfl, ha, hl⟩ := d1.of_tup
      obtain ⟨its, r, p⟩ := tup_at I ha
      cases r1
      cases t2 with
      | non =>
        rw [Dp] at d2
        subst d2
        cases r2
        rw [dcd_f (by intro h; cases h)]
        exact SeqAt.EqAt.tuple_none p hu0
      | int j =>
        rw [Dp] at d2
        subst d2
        obtain ⟨t, rfl⟩ := r2
        rw [dcd_f (by intro h; cases h)]
        exact SeqAt.EqAt.tuple_int j t p hu0
      | str j =>
        rw [Dp] at d2
        subst d2
        obtain ⟨t, rfl⟩ := r2
        rw [dcd_f (by intro h; cases h)]
        exact SeqAt.EqAt.tuple_str j t p hu0
      | tup us =>
        obtain ⟨b, ys, rfl, hb, gl⟩ := d2.of_tup
        obtain ⟨its2, q, p2⟩ := tup_at I hb
        cases r2
        by_cases hab : a = b
        · subst hab
          rw [ha] at hb
          cases hb
          rw [dcd_t (by rw [DpL.fn hl gl])]
          exact SeqAt.EqAt.same _
        · have l1 : its.toArray.size = ts.length := by rw [List.size_toArray, ← r.length, hl.length]
          have l2 : its2.toArray.size = us.length := by rw [List.size_toArray, ← q.length, gl.length]
          have key := SeqAt.RcAt.tuples (A := A) (s := s) (e := fun j => dcd (ts[j]? = us[j]?)) p p2 hu0 (fun j h1 h2 => by
            have j1 : j < ts.length := by omega
            have j2 : j < us.length := by omega
            have e1 : ts[j]? = some ts[j] := List.getElem?_eq_getElem j1
            have e2 : us[j]? = some us[j] := List.getElem?_eq_getElem j2
            obtain ⟨x1, f1, g1⟩ := hl.get e1
            obtain ⟨x2, f2, g2⟩ := gl.get e2
            obtain ⟨w1, k1, m1⟩ := r.get f1
            obtain ⟨w2, k2, m2⟩ := q.get f2
            have n1 : its.toArray[j] = w1 := by
              have : its.toArray[j]? = some w1 := by simpa using k1
              rw [Array.getElem?_eq_getElem h1] at this
              exact Option.some.inj this
            have n2 : its2.toArray[j] = w2 := by
              have : its2.toArray[j]? = some w2 := by simpa using k2
              rw [Array.getElem?_eq_getElem h2] at this
              exact Option.some.inj this
            rw [n1, n2]
            have := ih A.in1 ts[j] us[j] x1 x2 w1 w2 (hn _ (List.getElem_mem j1)) (by show A.units + 1 + n < cLine; omega) g1 g2 m1 m2
            rw [show dcd (ts[j]? = us[j]?) = dcd (ts[j] = us[j]) from dcd_eq (by rw [e1, e2]; exact ⟨fun h => Option.some.inj h, fun h => by rw [h]⟩)]
            exact this)
          have fin := SeqAt.EqAt.of_refs hab key
          have ee : ((List.range (min its.toArray.size its2.toArray.size)).all (fun j => dcd (ts[j]? = us[j]?)) && its.toArray.size == its2.toArray.size) = dcd (T.tup ts = T.tup us) := by
            refine dcd_of ?_
            rw [l1, l2, Bool.and_eq_true, List.all_eq_true, beq_iff_eq]
            constructor
            · rintro ⟨h1, h2⟩
              have : ts = us := by
                apply List.ext_getElem?
                intro j
                by_cases hj : j < ts.length
                · exact dcd_iff.mp (h1 j (List.mem_range.mpr (by omega)))
                · rw [List.getElem?_eq_none (by omega), List.getElem?_eq_none (by omega)]
              rw [this]
            · intro h
              cases h
              exact ⟨fun j _ => dcd_t rfl, rfl⟩
          rw [ee] at fin
          exact fin
end
section
variable {X : Cx}
end
end L2
end
section
set_option autoImplicit false
namespace L2
open PySem PySem.Spec PyProof.Rows
section
variable {X : Cx}
def rSlS : V → Option Int → Option Int → Hp → VK → Prop := fun x lo hi H Q => ∃ z, x = .str z ∧ z.length ≤ sizeLine ∧ Q (.str (Txt.slice z lo hi)) H
theorem sl_str : SlR X rSlS := by
  intro pins s σ H x v vl vu lo hi sl Q I rx hs pl pu h
  obtain ⟨z, rfl, hz, q⟩ := h
  obtain ⟨t, rfl⟩ := rx
  obtain ⟨o, ho, hc, hd⟩ := hs
  have fin : ∀ (t' : Tok) (k : Nat), EP X pins σ Q (.str (Txt.slice z lo hi) t') { s with toks := k } := fun t' k => ⟨.str _, H, I.tok k, ⟨_, rfl⟩, q⟩
  refine ⟨"str", _, F.slot_str_getitem.lookup, typeIs_str _ _ _, ?_⟩
  cases pl with
  | none =>
    cases pu with
    | none => exact wpAny_getItem_str_slice (l := none) (u := none) (st := none) ⟨o, ho, hc, hd⟩ rfl (post_val_or_str ⟨Nat.le_trans (Txt.slice_le z _ _) hz, fin⟩)
    | int j uj => exact wpAny_getItem_str_slice (l := none) (u := some (j, uj)) (st := none) ⟨o, ho, hc, hd⟩ rfl (post_val_or_str ⟨Nat.le_trans (Txt.slice_le z _ _) hz, fin⟩)
  | int i ui =>
    cases pu with
    | none => exact wpAny_getItem_str_slice (l := some (i, ui)) (u := none) (st := none) ⟨o, ho, hc, hd⟩ rfl (post_val_or_str ⟨Nat.le_trans (Txt.slice_le z _ _) hz, fin⟩)
    | int j uj => exact wpAny_getItem_str_slice (l := some (i, ui)) (u := some (j, uj)) (st := none) ⟨o, ho, hc, hd⟩ rfl (post_val_or_str ⟨Nat.le_trans (Txt.slice_le z _ _) hz, fin⟩)
def tSlK (K : PySem.W.Frag) (te tk : TE) : TE := fun σ H Q => te σ H fun x H1 => tk σ H1 fun y H2 => ∃ a xs i, x = .ref a ∧ y = .int i ∧ SqL K H2 a xs ∧
  ((i = 1 ∧ ∀ p, H2 p = none → Q (.ref p) (upd H2 p (.lst xs))) ∨ (i = -1 ∧ ∀ p, H2 p = none → Q (.ref p) (upd H2 p (.lst xs.reverse))))
theorem pick_one (its : List Value) : slicePick its.toArray none none (some 1) = its.toArray := by
  have e : slicePick its.toArray none none (some 1) = slicePick its.toArray none none none := rfl
  rw [e, slicePick_cut]
  simp [HT.sIx]
theorem pe_slK {e k : Expr} {te tk : TE} {pos p2 : Pos} (he : PE X e te) (hk : PE X k tk) : PE X (.Subscript e (.Slice none none (some k) p2) pos) (tSlK X.K te tk) := by
  intro pins s σ H Q I h
  refine Subscript_ (thn (he pins s σ H _ I h) fun v s1 ⟨x, H1, I1, r1, q1⟩ => ?_)
  refine wpAny_Slice ?_
  rw [evalPart_none]
  refine wpAny_pure ?_
  refine wpAny_pure ?_
  rw [evalPart_some]
  refine thn (hk pins s1 σ H1 _ I1 q1) fun vk s3 ⟨y, H3, I3, r3, q3⟩ => ?_
  obtain ⟨a, xs, i, rfl, rfl, hq, q⟩ := q3
  cases r1
  obtain ⟨t, rfl⟩ := r3
  have I4 : Inv X pins σ H3 { s3 with heap := s3.heap.push { cls := .type "slice", data := .fields #[.none, .none, .int i t] } } := I3.kept (t' := s3.toks) fun b ob q => Heap.get?_push_of_some _ q
  obtain ⟨its, r, ht, hz⟩ := I4.list hq
  have hlen : its.toArray.size = xs.length := by rw [List.size_toArray]; exact r.length.symm
  show wpAny (model X.prog X.w) X.A (subscriptTail e (.Slice none none (some k) p2) (.ref a) (.ref s3.heap.objs.size)) (EP X pins σ Q) X.xe { s3 with heap := s3.heap.push { cls := .type "slice", data := .fields #[.none, .none, .int i t] } }
  have fin : ∀ ys : List V, ys.length ≤ sizeLine → ∀ jts : List Value, Vals ys jts → (∀ p, H3 p = none → Q (.ref p) (upd H3 p (.lst ys))) →
      EP X pins σ Q (.ref (s3.heap.push { cls := .type "slice", data := .fields #[.none, .none, .int i t] }).objs.size)
        { s3 with heap := (s3.heap.push { cls := .type "slice", data := .fields #[.none, .none, .int i t] }).push { cls := .type "list", data := .seq jts.toArray } } := fun ys hy jts rj hQ =>
    ⟨.ref _, _, I4.lnew (t' := s3.toks) rj hy, rfl, hQ _ I4.fresh⟩
  rcases q with ⟨rfl, q⟩ | ⟨rfl, q⟩
  · refine tail_any (ops := [.ref a, .ref s3.heap.objs.size]) ht.isList.typeIs slot_list_getitem.lookup (wpAny_getItem_list_slice ht.isList (Heap.IsSliceOf.new ..) .none .none (.int 1 t) (by decide) ?_ (by rw [hlen]; exact hz)) (by with_unfolding_all rfl)
    rw [pick_one]
    exact fin xs hz its r q
  · refine tail_any (ops := [.ref a, .ref s3.heap.objs.size]) ht.isList.typeIs slot_list_getitem.lookup (wpAny_getItem_list_slice ht.isList (Heap.IsSliceOf.new ..) .none .none (.int (-1) t) (by decide) ?_ (by rw [hlen]; exact hz)) (by with_unfolding_all rfl)
    rw [PySem.W.krv_pick, List.toList_toArray]
    exact fin xs.reverse (by rw [List.length_reverse]; exact hz) its.reverse r.reverse q
end
end L2
end
section
set_option autoImplicit false
namespace L2
open PySem PySem.Spec PyProof.Rows
open AutoSeq1 (wpAny_loadPart') in
open MeetsSeq MeetsSeq2 MeetsSeq3 SeqRoads2 SeqAt in
section
variable {prog : Program} {w : World} {A : Around} {E : Value → Shared → Prop} {s : Shared}
structure ZA (z TI TO i1 i2 t1 t2 : Addr) : Prop where
  a1 : TI ≠ z
  a2 : TO ≠ z
  a3 : i1 ≠ z
  a4 : i2 ≠ z
  a5 : TI ≠ TO
  a6 : TI ≠ i1
  a7 : TI ≠ i2
  a8 : TO ≠ i1
  a9 : TO ≠ i2
  b1 : i1 ≠ i2
  b2 : t1 ≠ z
  b3 : t1 ≠ TO
  b4 : t1 ≠ i1
  b5 : t1 ≠ i2
  b6 : t2 ≠ z
  b7 : t2 ≠ TO
  b8 : t2 ≠ i1
  b9 : t2 ≠ i2
end
theorem Inv.turnLaid {X : Cx} {pins : List (Addr × Obj)} {σ : St} {H : Hp} {s : Shared} {h' : Heap} {fp : List Addr} {a : Addr} {o : HO} {t' : Nat} (I : Inv X pins σ H s) (hf : ∀ b ∈ fp, FpOk X pins H b)
    (k : ∀ b u, b ∉ fp → s.heap.get? b = some u → h'.get? b = some u) (hp : s.heap.objs.size ≤ a) (new : ObjOk X.prog X.w (upd H a o) h' a o) : Inv X pins σ (upd H a o) { s with heap := h', toks := t' } := by
  have hn : H a = none := I.hok.fresh hp
  have nf : ∀ b u, H b = some u → b ∉ fp := fun b u e hb => by rw [(hf b hb).1] at e; cases e
  refine I.step (g' := s.gens) (d' := s.drawn) (ch := fp) (fun b hb => ⟨(hf b hb).2.2.2.1, (hf b hb).2.1, (hf b hb).2.2.2.2.1, (hf b hb).2.2.2.2.2⟩) (fun b u _ _ hc e _ => k b u hc e) (fun b u _ _ hc e _ => ⟨u.slots, k b u hc e⟩)
    (fun b u _ e n => by rw [upd_ne (Nat.ne_of_lt (Nat.lt_of_lt_of_le (Heap.lt_size e) hp))]; exact n) (fun b u hc e => ⟨u, k b u hc e⟩) (fun b xs e => by rw [upd_ne (ne_of_none e hn)]; exact e)
    (fun b u v e => by rw [upd_ne (ne_of_none e hn)]; exact e) (fun b ps e => ⟨#[], by rw [upd_ne (ne_of_none e hn), e]; simp⟩) (fun m hm => ?_) (fun b u e => ?_) I.bare
  · obtain ⟨ob, es, ep, ho, r⟩ := hm
    exact ⟨ob, es, ep, k _ ob (fun z => (hf _ z).2.1 rfl) ho, r⟩
  · by_cases hb : b = a
    · subst hb
      rw [upd_same] at e
      cases e
      exact new
    · rw [upd_ne hb] at e
      refine (I.hok b u e).stay (fun c v hc q => k c v ?_ q) (fun c q => by rw [upd_ne (ne_of_none q hn)]; exact q) fun c xs q => by rw [upd_ne (ne_of_none q hn)]; exact q
      rcases hc with z | z
      · rw [z]; exact nf b u e
      · exact nf c _ z
theorem Inv.turnedL {X : Cx} {pins : List (Addr × Obj)} {σ : St} {H : Hp} {s : Shared} {h' : Heap} {fp : List Addr} {t' : Nat} (I : Inv X pins σ H s) (hf : ∀ b ∈ fp, FpOk X pins H b)
    (k : ∀ b u, b ∉ fp → s.heap.get? b = some u → h'.get? b = some u) : Inv X pins σ H { s with heap := h', toks := t' } := by
  have nf : ∀ b u, H b = some u → b ∉ fp := fun b u e hb => by rw [(hf b hb).1] at e; cases e
  refine I.step (g' := s.gens) (d' := s.drawn) (ch := fp) (fun b hb => ⟨(hf b hb).2.2.2.1, (hf b hb).2.1, (hf b hb).2.2.2.2.1, (hf b hb).2.2.2.2.2⟩) (fun b u _ _ hc e _ => k b u hc e) (fun b u _ _ hc e _ => ⟨u.slots, k b u hc e⟩)
    (fun b u _ e n => n) (fun b u hc e => ⟨u, k b u hc e⟩) (fun b xs e => e) (fun b u v e => e) (fun b ps e => ⟨#[], by rw [e]; simp⟩) (fun m hm => ?_) (fun b u e => ?_) I.bare
  · obtain ⟨ob, es, ep, ho, r⟩ := hm
    exact ⟨ob, es, ep, k _ ob (fun z => (hf _ z).2.1 rfl) ho, r⟩
  · refine (I.hok b u e).stay (fun c v hc q => k c v ?_ q) (fun c q => q) fun c xs q => q
    rcases hc with z | z
    · rw [z]; exact nf b u e
    · exact nf c _ z
section
variable {X : Cx}
theorem call_all (hc : X.calm = true) : CallR X (.builtin "all") (fun xs H Q => ∃ (p : Addr) (bs : List Bool), xs = [.ref p] ∧ SqL X.K H p (bs.map V.bl) ∧ Q (.bl (bs.all id)) H) := by
  intro pins s σ H xs us Q I r h
  obtain ⟨p, bs, rfl, hq, q⟩ := h
  obtain ⟨u, rfl, ru⟩ := vals1 r
  cases ru
  obtain ⟨its, rv, pl, hz⟩ := I.list hq
  have hl := rv.length
  rw [List.length_map] at hl
  refine call_all_walk (wpAny_pyIter_list pl.isList ?_)
  have plt : p < s.heap.objs.size := by obtain ⟨o, e, _⟩ := pl.isList; exact Heap.lt_size e
  refine ⟨s.heap.objs.size, _, _, _, _, _, fun i => bs.getD i true, rfl, Walks.list (A := X.A.in1) (I.ok.hd hc) s.heap.objs.size p (Nat.ne_of_lt plt) its.toArray, ⟨⟨_, Heap.get?_push_size _ rfl, rfl, rfl⟩, pl.isList.push _⟩, fun i v s' Q' E' hv hQ => ?_, fun h' tk kk => ?_⟩
  · have hi : i < bs.length := by
      have := (Array.getElem?_eq_some_iff.mp hv).1
      rw [List.size_toArray] at this
      omega
    obtain ⟨u, hu, ru⟩ := rv.get (i := i) (x := V.bl bs[i]) (by simp [hi])
    have hv' : its[i]? = some v := by simpa using hv
    rw [hv'] at hu
    cases hu
    cases ru
    refine wpAny_truthy_bool ?_
    simpa [hi] using hQ
  · have ee : ((List.range its.toArray.size).all fun i => bs.getD i true) = bs.all id := by
      rw [List.size_toArray, ← hl]
      apply Bool.eq_iff_iff.mpr
      rw [List.all_eq_true, List.all_eq_true]
      constructor
      · intro h b hb
        obtain ⟨i, hi, rfl⟩ := List.getElem_of_mem hb
        have := h i (List.mem_range.mpr hi)
        simpa [hi] using this
      · intro h i hi
        have hi' := List.mem_range.mp hi
        have := h bs[i] (List.getElem_mem hi')
        simpa [hi'] using this
    rw [ee]
    have I1 : Inv X pins σ H { s with heap := s.heap.push { cls := .type "list_iterator", data := .fields #[.ref p, .int 0 0] } } := I.kept (t' := s.toks) fun b o e => Heap.get?_push_of_some _ e
    refine ⟨.bl _, H, I1.turned (t' := tk) (it := s.heap.objs.size) (fun b o hb e => kk b o (by simpa using hb) e) (I.hok.fresh (Nat.le_refl _)) (Nat.ne_of_gt I.lt) (.inr I.sz) ?_ ?_, rfl, q⟩
    · exact (I.fpOk (Nat.le_refl _) (I.hok.fresh (Nat.le_refl _))).2.2.2.2.1
    · exact (I.fpOk (Nat.le_refl _) (I.hok.fresh (Nat.le_refl _))).2.2.2.2.2
def Its (x : Str) : It := ⟨fun i _ => i < x.cps.size, fun i H v H' => H' = H ∧ ∃ c, x.cps[i]? = some c ∧ v = .str ⟨#[c]⟩, fun i _ => x.cps.size ≤ i⟩
theorem turn_str {P : Program} {w : World} {K : PySem.W.Frag} {tg : Expr} (x : Str) (t : Tok) (it : Addr) : Turn P w K tg (Its x) [it] it (fun i h => h.IsStrIter it "str_ascii_iterator" x t i) where
  mem := by simp
  obj := fun i h st b hb => by
    have e : b = it := by simpa using hb
    subst e
    obtain ⟨o, e, c, d⟩ := st
    exact ⟨o, e, fun v z => by rw [d] at z; cases z⟩
  keep := fun i h h' st k => by
    obtain ⟨o, e, r⟩ := st
    exact ⟨o, k it (by simp) o e, r⟩
  item := by
    intro X hP hw hK hc i pins s σ H E I hf st hg
    subst hP hw hK
    have hg : i < x.cps.size := hg
    obtain ⟨f0, f1, f2, f3, f4, f5⟩ := hf it (by simp)
    refine wpAny_pyNext_ascii_item st (c := x.cps[i]) (by simp [hg]) fun h' st' sb => ?_
    have I1 : Inv X pins σ H { s with heap := h', toks := s.toks + 1 } := I.turned (fun b o hb e => (sb.2 b hb).trans e) f0 f1 f3 f4 f5
    obtain ⟨o, e, c, d⟩ := id st'
    exact ⟨_, rfl, go_of (s := { s with heap := h', toks := s.toks + 1 }) e c d (by decide) ⟨.str ⟨#[x.cps[i]]⟩, H, I1, ⟨_, rfl⟩, ⟨rfl, _, by simp [hg], rfl⟩, st', fun b hb => (hf b hb).1⟩⟩
  done := by
    intro X hP hw hK hc i pins s σ H E I hf st hg
    subst hP hw hK
    have hg : x.cps.size ≤ i := hg
    obtain ⟨f0, f1, f2, f3, f4, f5⟩ := hf it (by simp)
    exact wpAny_pyNext_ascii_end (I.ok.hd hc) st (by simp [hg]) fun h' eb => ⟨rfl, I.turned (t' := s.toks) (fun b o hb e => eb b o hb e) f0 f1 f3 f4 f5⟩
  self := fun _ _ _ _ _ st h => wpAny_pyIter_striter_ascii st h
def iStr (te : TE) : TI := fun σ H R => te σ H fun v H1 => ∃ x, v = .str x ∧ x.cps.all (· < 128) = true ∧ R (Its x) H1
theorem pi_str {tg e : Expr} {te : TE} (he : PE X e te) : PI X tg e (iStr te) := by
  intro pins s σ H R I h
  refine thn (he pins s σ H _ I h) fun v s1 ⟨y, H1, I1, r1, x, e, hx, q⟩ => ?_
  subst e
  obtain ⟨t, rfl⟩ := r1
  refine wpAny_pyIter_ascii hx ?_
  refine ⟨s1.heap.objs.size, [s1.heap.objs.size], _, _, H1, rfl, I1.kept (t' := s1.toks) fun b o e => Heap.get?_push_of_some _ e, turn_str x t _, ⟨_, Heap.get?_push_size _ rfl, rfl, rfl⟩, fun b hb => ?_, q⟩
  have e : b = s1.heap.objs.size := by simpa using hb
  subst e
  exact I1.fpOk (Nat.le_refl _) (I1.hok.fresh (Nat.le_refl _))
theorem call_isinst : CallR X (.builtin "isinstance") (fun xs H Q => ∃ x n t b, xs = [x, .ty n] ∧ TyOf X.K H x t ∧ PySem.W.kitOne X.K t (.type n) = some b ∧ Q (.bl b) H) := by
  intro pins s σ H xs us Q I r h
  obtain ⟨x, n, t, b, rfl, ty, e, q⟩ := h
  obtain ⟨u, w', rfl, ru, rw'⟩ := vals2 r
  cases rw'
  exact isinst_ok I ru ty e fun tk => ⟨.bl b, H, I.tok _, rfl, q⟩
theorem kit_same (K : PySem.W.Frag) (n : String) : PySem.W.kitOne K (.type n) (.type n) = some true := by
  unfold PySem.W.kitOne
  rw [if_pos (by simp)]
end
end L2
end
section
set_option autoImplicit false
namespace L2
open PySem PySem.Spec PyProof.Rows
structure Flies (P : Program) (w : World) (outer : List Env) (H : Hp) (s : Shared) (e : Addr) (cls : Value) (H' : Hp) (B : Heap) (a0 : Value) (s' : Shared) : Prop where
  os : s'.os = s.os
  bare : AllBare s'.gens
  un : Un (frs outer) [] H H' s.heap s'.heap
  hok : HOk P w H' s'.heap
  fl : Heap.FlyingW B outer e cls a0 s'.heap
  covH : ∀ b, H' b ≠ none → ∃ o, B.get? b = some o
  covS : ∀ b o, s.heap.get? b = some o → b ∉ frs outer → ∃ o, B.get? b = some o
section
variable {P : Program} {w : World} {outer : List Env} {H H' : Hp} {s s' : Shared} {e : Addr} {cls a0 : Value} {B h2 : Heap}
end
section
variable {X : Cx} {pins : List (Addr × Obj)} {σ : St} {H H' : Hp} {s s' : Shared} {e : Addr} {cls a0 : Value} {B h2 : Heap}
end
section
variable {P : Program} {w : World} {K : PySem.W.Frag} {mg : Str → Option Value} {base : Heap} {N : List Str} {qual : Str} {scope : Scope} {f : Addr} {cd : Value} {A : Around} {outer : List Env} {s : Shared} {H : Hp} {E : XK}
end
end L2
end
section
set_option autoImplicit false
namespace L2
open PySem PySem.Spec PyProof.Rows
def ExAt (ea C : Addr) (h : Heap) : Prop := ∃ ob, h.get? ea = some ob ∧ ob.cls = .ref C
structure XIn (K : PySem.W.Frag) (C : Addr) : Prop where
  ga : PySem.W.findIn K (.ref C) "__getattribute__" = some (some (.builtin "BaseException.__getattribute__"))
  hk : PySem.W.findIn K (.ref C) "__getattr__" = some none
  ca : PySem.W.findIn K (.ref C) "__class__" = some (some (.builtin "object.__class__"))
  gt : PySem.W.specialIn K (.builtin "object.__class__") "__get__" = some (some (.builtin "getset_descriptor.__get__"))
  tk : PySem.W.takesIn K (.builtin "object.__class__") = some true
  ob : PySem.W.mroIn K C (.type "object") = some true
  be : PySem.W.mroIn K C (.type "BaseException") = some true
  cl : (PySem.W.clsIn K C).isSome = true
section
open Builtin Builtin.ObjectAttr Builtin.Getset_descriptor PySem.W
variable {prog : Program} {w : World} {K : PySem.W.Frag} {ea C : Addr}
end
end L2
end
section
set_option autoImplicit false
namespace L2
open PySem PySem.Spec PyProof.Rows
def ExcO (ea C : Addr) : HO := .ext (ExAt ea C)
section
variable {X : Cx}
end
structure XCls (K : PySem.W.Frag) (mg : Str → Option Value) (x : Str) (C : Addr) : Prop where
  m : mg x = some (.ref C)
  ex : PySem.W.excIn K C [.type "ValueError", .type "Exception", .type "BaseException", .type "object"] "ValueError.__new__" = true
  i : XIn K C
end L2
end
section
set_option autoImplicit false
namespace L2
open PySem PySem.Spec PyProof.Rows
structure Fnd (K : PySem.W.Frag) (mg : Str → Option Value) (x : Str) (st : Stmt) (ps : List Str) (f : Addr) (fd : FuncData) : Prop where
  fn : Fun K x x st f fd
  b : Binds K fd ps []
  m : mg x = some (.ref f)
theorem pe_callF {X : Cx} {x : Str} {st : Stmt} {ps : List Str} {f : Addr} {fd : FuncData} {k : Nat} {sp : Sp} {e : Expr} {es : List Expr} {t : TA} {p pos : Pos} (D : Fnd X.K X.mg x st ps f fd) (G : FnOk X.prog X.w X.K X.mg X.base CX0 k f fd ps sp) (hr : Room k X.A) (hg : Gl X x) (ha : PA X (e :: es) t)
    (hdb : (x == ("__debug__" : Str)) = false := by decide) (he : starEach (e :: es) X.env = (false, eval e X.env) :: starEach es X.env := by rfl) (hpl : (backTo pos (starEach es X.env)).any (·.1) = false := by rfl) : PE X (.Call (.Name x p) (e :: es) [] pos) (tCall sp [] E0 t) :=
  pe_call G hr hg D.m D.fn.kp D.b .nil pass0 ha hdb he hpl
theorem bt_len : bootBuiltins "len" = some (.builtin "len") := by decide +kernel
theorem bt_isinstance : bootBuiltins "isinstance" = some (.builtin "isinstance") := by decide +kernel
theorem bt_int : bootBuiltins "int" = some (.type "int") := by decide +kernel
theorem bt_bool : bootBuiltins "bool" = some (.type "bool") := by decide +kernel
theorem bt_str : bootBuiltins "str" = some (.type "str") := by decide +kernel
theorem bt_tuple : bootBuiltins "tuple" = some (.type "tuple") := by decide +kernel
theorem bt_list : bootBuiltins "list" = some (.type "list") := by decide +kernel
theorem bt_abs : bootBuiltins "abs" = some (.builtin "abs") := by decide +kernel
theorem bt_all : bootBuiltins "all" = some (.builtin "all") := by decide +kernel
theorem bt_max : bootBuiltins "max" = some (.builtin "max") := by decide +kernel
theorem bt_min : bootBuiltins "min" = some (.builtin "min") := by decide +kernel
def tJoin (t u : TS) : TS := fun D σ H => ∃ M : St → Hp → Prop, t { D with nx := M } σ H ∧ ∀ σ' H', M σ' H' → u D σ' H'
theorem pss_join {X : Cx} {st : Stmt} {rest : List Stmt} {t u : TS} (h1 : PS X st t) (h2 : PSs X rest u) : PSs X (st :: rest) (tJoin t u) := by
  intro pins s σ H D I h
  obtain ⟨M, h, hM⟩ := h
  refine wpAny_execs_cons (thn (h1 pins s σ H _ I h) fun f s1 q => ?_)
  cases f with
  | next =>
    obtain ⟨σ1, H1, I1, m1⟩ := q
    exact h2 pins s1 σ1 H1 D I1 (hM σ1 H1 m1)
  | brk => exact q
  | cont => exact q
  | ret u => exact q
def Off (p : Addr) (H H' : Hp) : Prop := ∀ b o, b ≠ p → H b = some o → H' b = some o
theorem Off.refl (p : Addr) (H : Hp) : Off p H H := fun _ _ _ e => e
theorem Off.trans {p : Addr} {H H1 H2 : Hp} (a : Off p H H1) (b : Off p H1 H2) : Off p H H2 := fun c o n e => b c o n (a c o n e)
theorem Off.upd {p : Addr} {H : Hp} {o : HO} : Off p H (upd H p o) := fun c u n e => by rw [upd_ne n]; exact e
theorem Off.new {p q : Addr} {H : Hp} {o : HO} (h : H q = none) : Off p H (L2.upd H q o) := fun c u _ e => by rw [upd_ne (ne_of_none e h)]; exact e
theorem Same.off {p : Addr} {H H' : Hp} (h : Same H H') : Off p H H' := fun c u _ e => h c u e
theorem Same.new {q : Addr} {H : Hp} {o : HO} (h : H q = none) : Same H (upd H q o) := fun c u e => by rw [upd_ne (ne_of_none e h)]; exact e
theorem atI_in {α : Type} {xs : List α} {i : Int} (h0 : 0 ≤ i) (h1 : i < xs.length) : ∃ v, atI xs i = some v ∧ v ∈ xs ∧ xs[i.toNat]? = some v := by
  have h : i.toNat < xs.length := by omega
  refine ⟨xs[i.toNat], ?_, List.getElem_mem h, List.getElem?_eq_getElem h⟩
  have := atI_nat (xs := xs) (j := i.toNat) (v := xs[i.toNat]) (List.getElem?_eq_getElem h)
  rw [Int.toNat_of_nonneg h0] at this
  exact this
theorem atI_strs {ns : List Str} {i : Int} (h0 : 0 ≤ i) (h1 : i < ns.length) : ∃ x, atI (ns.map V.str) i = some (.str x) ∧ x ∈ ns ∧ ns[i.toNat]? = some x := by
  obtain ⟨v, e, m, g⟩ := atI_in (xs := ns.map V.str) h0 (by rw [List.length_map]; exact h1)
  rw [List.getElem?_map] at g
  cases q : ns[i.toNat]? with
  | none => rw [q] at g; cases g
  | some x =>
    rw [q] at g
    cases g
    exact ⟨x, e, List.mem_of_getElem? q, rfl⟩
theorem strs_ne {as : List Str} {a b c : Int} : ¬ HO.lst [.int a, .int b, .int c] = HO.lst (as.map V.str) := by
  intro h
  cases as with
  | nil => cases h
  | cons x r =>
    injection h with h
    injection h with h
    cases h
theorem inV_strs {x : Str} {ns : List Str} : inV (.str x) (ns.map V.str) = decide (x ∈ ns) := by
  unfold inV
  rw [List.any_map]
  apply Bool.eq_iff_iff.mpr
  rw [List.any_eq_true, decide_eq_true_iff]
  constructor
  · rintro ⟨y, hy, e⟩
    have : (y == x) = true := e
    rw [beq_iff_eq] at this
    rw [← this]
    exact hy
  · intro h
    exact ⟨x, h, by show (x == x) = true; simp⟩
theorem flat_strs (ns : List Str) : (ns.map V.str).all flatV = true := by
  rw [List.all_map, List.all_eq_true]
  exact fun _ _ => rfl
theorem op_in_K {X : Cx} {K : PySem.W.Frag} (h : X.K = K) : OpR X (compareOp .In) (rIn K false) := by subst h; exact op_in_seq
theorem op_notIn_K {X : Cx} {K : PySem.W.Frag} (h : X.K = K) : OpR X (compareOp .NotIn) (rIn K true) := by subst h; exact op_notIn_seq
theorem ix_list_K {X : Cx} {K : PySem.W.Frag} (h : X.K = K) : IxR X (rIxL K) := by subst h; exact ix_list
theorem ix_tup_K {X : Cx} {K : PySem.W.Frag} (h : X.K = K) : IxR X (rIxT K) := by subst h; exact ix_tup
theorem pg_tup_K {X : Cx} {K : PySem.W.Frag} {es : List Expr} {k : Nat} {t : TGs} {n : Nat} {pos : Pos} (hk : X.K = K) (hc : X.calm = true) (h : PGs X es t) (hn : (assignEach es X.env).length = n := by rfl) (hst : (assignEach es X.env).findIdx? (·.1) = none := by rfl) :
    PG X (.Tuple es k pos) (gTup K n t) := by subst hk; exact pg_tup hc h hn hst
def okF (scope : Scope) (N0 N own : List Str) (fr : List Nat) (j : Nat) : Bool := match fr[j]? with
  | none => false
  | some i => match N[own.length + j]?, N0[i]? with
    | some x, some y => (x == y) && (scope.names.lookup x == some .free)
    | _, _ => false
def CSc (scX : Scope) (N0 : List Str) (scope : Scope) (own : List Str) (fr : List Nat) (N : List Str) : Prop :=
  scope.kind = .function ∧ (scope.names.map (·.1)).Nodup ∧ (∀ y ∈ scope.names, y.2 = .local → scope.names.lookup y.1 = some .local) ∧ (∀ y ∈ scope.names, y.2 = .free → scX.names.lookup y.1 = some .cell ∨ scX.names.lookup y.1 = some .free) ∧
    N.length = own.length + fr.length ∧ (∀ j ∈ List.range fr.length, okF scope N0 N own fr j = true) ∧ N.take own.length = own
instance (scX : Scope) (N0 : List Str) (scope : Scope) (own : List Str) (fr : List Nat) (N : List Str) : Decidable (CSc scX N0 scope own fr N) := by
  unfold CSc
  infer_instance
theorem CompScope.of {X : Cx} {scope : Scope} (own : List Str) (fr : List Nat) (N : List Str) (scX : Scope) (N0 : List Str) (hsc : X.env.scope = scX) (hN : X.N = N0) (h : CSc scX N0 scope own fr N) : CompScope X scope own fr N where
  kind := h.1
  nodup := h.2.1
  names := h.2.2.1
  free := fun y hy e => by
    show X.env.scope.names.lookup y.1 = _ ∨ X.env.scope.names.lookup y.1 = _
    rw [hsc]
    exact h.2.2.2.1 y hy e
  len := h.2.2.2.2.1
  isfr := fun j i e => by
    have hj : j < fr.length := (List.getElem?_eq_some_iff.mp e).1
    have q := h.2.2.2.2.2.1 j (List.mem_range.mpr hj)
    unfold okF at q
    rw [e] at q
    simp only at q
    cases e1 : N[own.length + j]? with
    | none => rw [e1] at q; simp at q
    | some x =>
      cases e2 : N0[i]? with
      | none => rw [e1, e2] at q; simp at q
      | some y =>
        rw [e1, e2] at q
        simp only [Bool.and_eq_true, beq_iff_eq] at q
        exact ⟨x, rfl, by rw [hN, e2, q.1], q.2⟩
  frs := fun j x e hj => by
    rw [← h.2.2.2.2.2.2, List.getElem?_take_of_lt hj]
    exact e
theorem lookup_relabel_cell {env : Env} {scope : Scope} {x : Str} (h : scope.names.lookup x = some .cell) : (relabel scope env).names.lookup x = some .cell := by
  unfold relabel
  show List.lookup x (List.map _ _) = _
  rw [relabel_lookup (scope := scope), h]
  rfl
theorem CompScope.of2 {X : Cx} {scope sc0 : Scope} {e0 : Env} (own : List Str) (fr : List Nat) (N : List Str) (N0 : List Str) (hsc : X.env.scope = relabel sc0 e0) (hN : X.N = N0) (h : CSc sc0 N0 scope own fr N) : CompScope X scope own fr N where
  kind := h.1
  nodup := h.2.1
  names := h.2.2.1
  free := fun y hy e => by
    show X.env.scope.names.lookup y.1 = _ ∨ X.env.scope.names.lookup y.1 = _
    rw [hsc]
    rcases h.2.2.2.1 y hy e with z | z
    · exact .inl (lookup_relabel_cell z)
    · unfold relabel
      show List.lookup y.1 (List.map _ _) = _ ∨ List.lookup y.1 (List.map _ _) = _
      rw [relabel_lookup (scope := sc0), z]
      simp only [Option.map_some]
      split
      · exact .inl rfl
      · exact .inr rfl
  len := h.2.2.2.2.1
  isfr := fun j i e => by
    have hj : j < fr.length := (List.getElem?_eq_some_iff.mp e).1
    have q := h.2.2.2.2.2.1 j (List.mem_range.mpr hj)
    unfold okF at q
    rw [e] at q
    simp only at q
    cases e1 : N[own.length + j]? with
    | none => rw [e1] at q; simp at q
    | some x =>
      cases e2 : N0[i]? with
      | none => rw [e1, e2] at q; simp at q
      | some y =>
        rw [e1, e2] at q
        simp only [Bool.and_eq_true, beq_iff_eq] at q
        exact ⟨x, rfl, by rw [hN, e2, q.1], q.2⟩
  frs := fun j x e hj => by
    rw [← h.2.2.2.2.2.2, List.getElem?_take_of_lt hj]
    exact e
end L2
end
section
set_option autoImplicit false
namespace L2
open PySem PySem.Spec PyProof.Rows
section
variable {X : Cx} {pins : List (Addr × Obj)} {σ : St} {H : Hp} {s : Shared}
abbrev Cx.suite (X : Cx) (ea : Addr) : Cx := { X with A := X.A.mark (some (.ref ea)), calm := false, xe := fun _ _ => False }
end
def XP (X : Cx) (pins : List (Addr × Obj)) (σ : St) (E : XK) (e : Value) (s' : Shared) : Prop := ∃ ea C H s H' B a0, e = .ref ea ∧ Inv X pins σ H s ∧ Flies X.prog X.w X.stack H s ea (.ref C) H' B a0 s' ∧ E (.ref C) none H'
end L2
end
section
set_option autoImplicit false
namespace L2
open PySem PySem.Spec PyProof.Rows
structure RoomS (k : Nat) (A : Around) : Prop where
  dp : A.depth + 3 * k + 5 < recursionLimit
  un : A.units + 16 * k + 200 < cLine
structure FnOkS (P : Program) (w : World) (K : PySem.W.Frag) (mg : Str → Option Value) (base : Heap) (k : Nat) (f : Addr) (fd : FuncData) (ps : List Str) (sp : Sp) : Prop where
  len : ∀ vs H Q E, sp vs H Q E → vs.length = ps.length
  run : ∀ (A : Around) (outer : List Env) (s : Shared) (H : Hp) (args : Args) (us : List Value) (vs : List V) (Q : VK), RoomS k A → Env0 P w K mg base A outer s H → BindsTo s fd args (ps.zip us) → Vals vs us → sp vs H Q E0 →
    codeAny (model P w) A (.call (.ref f) args) (CR CX0 outer P w H s Q E0) s
end L2
end
section
set_option autoImplicit false
namespace L2
open PySem PySem.Spec PyProof.Rows
def CDivL (_ j : Int) : Prop := 0 < j ∧ j < 1606938044258990275541962092341162602522202993782792835301376
theorem op_fdivL {X : Cx} : OpR X (binaryOp .FloorDiv) (rI CDivL fun i j => .int (i / j)) := opI fun i j _ _ _ _ _ hc q => by
  have h1 : (0 : Int) < j := hc.1
  have h2 : j < 1606938044258990275541962092341162602522202993782792835301376 := hc.2
  refine floordiv_int (by omega) (by rw [Int.fdiv_eq_ediv_of_nonneg i (by omega)]; exact q) (.inl (PyProof.noPylong_of_log2 ?_))
  have h3 : j.natAbs ≠ 0 := by omega
  have h4 : j.natAbs < 2 ^ 200 := by
    have e : (2 : Nat) ^ 200 = 1606938044258990275541962092341162602522202993782792835301376 := by decide +kernel
    rw [e]
    omega
  exact Nat.lt_trans ((Nat.log2_lt h3).mpr h4) (by decide)
theorem eqV_self : ∀ {x : V}, flatV x = true → eqV x x = true := by
  intro x h
  cases x with
  | byt b => cases h
  | flt b => cases h
  | ref a => cases h
  | ty n => cases h
  | non => rfl
  | bl b => simp [eqV]
  | int i => simp [eqV]
  | str z => simp [eqV]
def rCatT0 : R2 := fun x y H Q => ∃ (a b : Addr) (ys : List V), x = .ref a ∧ y = .ref b ∧ H a = some (.tup []) ∧ H b = some (.tup ys) ∧ Q (.ref b) H
theorem op_catT0 {X : Cx} : OpR X (binaryOp .Add) rCatT0 := by
  intro pins s σ H x y v u Q I rx ry h
  obtain ⟨a, b, ys, rfl, rfl, ha, hb, q⟩ := h
  cases rx
  cases ry
  obtain ⟨its, r, p⟩ := tup_at I ha
  obtain ⟨its2, r2, p2⟩ := tup_at I hb
  have e0 : its = [] := r.nil_iff.mpr rfl
  subst e0
  obtain ⟨⟨cls, dd, data, sl⟩, ho, hc, n, hd⟩ := id p
  obtain ⟨⟨cls2, dd2, data2, sl2⟩, ho2, hc2, n2, hd2⟩ := id p2
  simp only at hc hd hc2 hd2
  subst hc hd hc2 hd2
  exact concat_meets ⟨_, ho, rfl⟩ ⟨_, ho2, rfl⟩ noFill_tuple_add seq_tuple_add PySem.F.slot_tuple_add PySem.F.entry_tuple_add (PySem.F.args_tuple_add_2 _ _) (tuple_addW0 a b [].toArray its2.toArray n n2 dd dd2 sl sl2 rfl) ⟨ho, ho2, ⟨.ref b, H, I, rfl, q⟩⟩
end L2
end
section
set_option autoImplicit false
namespace L2
open PySem PySem.Spec PyProof.Rows
section
variable {X : Cx} {pins : List (Addr × Obj)} {σ : St} {H : Hp} {s : Shared} {d : Addr} {u u' : HO}
end
theorem relV_key {P : Program} {w : World} {k : Key} {v : Value} (h : (mixKind P w).is k v = true) : RelV (kV k) v := by
  rw [mixKind_is] at h
  rcases keyIs_shape h with ⟨i, t, rfl, rfl⟩ | ⟨x, t, rfl, rfl⟩
  · exact ⟨t, rfl⟩
  · exact ⟨t, rfl⟩
theorem paired_get {α β : Type} {F : α → β → Prop} : ∀ {l₁ : List α} {l₂ : List β}, Paired F l₁ l₂ → ∀ (i : Nat) (h1 : i < l₁.length) (h2 : i < l₂.length), F l₁[i] l₂[i]
  | _, _, .nil, i, h1, _ => by simp at h1
  | _, _, .cons r t, 0, _, _ => r
  | _, _, .cons r t, i + 1, h1, h2 => paired_get t i (by simpa using h1) (by simpa using h2)
section
variable {X : Cx}
end
end L2
end
section
set_option autoImplicit false
namespace L2
open PySem PySem.Spec PyProof.Rows
def Ite (K : PySem.W.Frag) (a : Addr) : It :=
  ⟨fun i H => ∃ xs x, SqL K H a xs ∧ xs[i]? = some x, fun i H v H' => ∃ p, H p = none ∧ v = .ref p ∧ ∀ xs x, SqL K H a xs → xs[i]? = some x → H' = upd H p (.tup [.int i, x]), fun i H => ∃ xs, SqL K H a xs ∧ xs.length ≤ i⟩
theorem turn_enum {P : Program} {w : World} {K : PySem.W.Frag} {elts : List Expr} {x1 : Nat} {tpos : Pos} {e it l : Addr} (hne : e ≠ it) : Turn P w K (.Tuple elts x1 tpos) (Ite K l) [e, it] e
    (fun i h => (∃ old, IsEnum h e it i old) ∧ h.IsListIter it l i) where
  mem := by simp
  obj := fun i h st b hb => by
    obtain ⟨⟨old, he⟩, o, ei, c, d⟩ := st
    simp only [List.mem_cons, List.not_mem_nil, or_false] at hb
    rcases hb with rfl | rfl
    · exact ⟨_, he, fun v q => nomatch q⟩
    · exact ⟨o, ei, fun v z => by rw [d] at z; cases z⟩
  keep := fun i h h' st k => by
    obtain ⟨⟨old, he⟩, o, ei, r⟩ := st
    exact ⟨⟨old, k e (by simp) _ he⟩, o, k it (by simp) _ ei, r⟩
  item := by
    intro X hP hw hK hc i pins s σ H E I hf st hg
    subst hP hw hK
    obtain ⟨xs, x, hq, hx⟩ := hg
    obtain ⟨its, rv, p, hz⟩ := I.list hq
    obtain ⟨u, hu, ru⟩ := rv.get hx
    obtain ⟨⟨old, he⟩, hit⟩ := st
    refine wpAny_pyNext_enum_item he hit p.isList (x := u) (by simpa using hu) hne fun h' a1 a2 a3 a4 a5 => ?_
    refine ⟨_, rfl, wpAny_letOwnedTupleGo_enum a1 fun h2' a1' q' => ?_⟩
    have hn : H s.heap.objs.size = none := I.hok.fresh (Nat.le_refl _)
    have elt : e < s.heap.objs.size := Heap.lt_size he
    have ilt : it < s.heap.objs.size := by obtain ⟨_, e, _⟩ := hit; exact Heap.lt_size e
    have kk : ∀ b ob, b ∉ [e, it] → s.heap.get? b = some ob → h2'.get? b = some ob := fun b ob hb ee => by
      simp only [List.mem_cons, List.not_mem_nil, or_false, not_or] at hb
      exact q'.extBut _ _ hb.1 (a5 b ob hb.1 hb.2 ee)
    have I1 : Inv X pins σ (upd H s.heap.objs.size (.tup [.int i, x])) { s with heap := h2', toks := s.toks + 1 } := I.turnLaid (t' := s.toks + 1) hf kk (Nat.le_refl _)
      ⟨⟨by show 2 ≤ sizeLine; decide, fun o ee => by rw [q'.extBut _ _ (Nat.ne_of_gt elt) a3] at ee; cases ee; rfl⟩, [.int i s.toks, u], .cons ⟨_, rfl⟩ (.cons ru .nil), ⟨_, q'.extBut _ _ (Nat.ne_of_gt elt) a3, rfl, _, rfl⟩⟩
    refine ⟨.ref s.heap.objs.size, _, I1, rfl, ⟨_, hn, rfl, fun xs' x' k1 k3 => ?_⟩, ⟨⟨_, by simpa using a1'⟩, a2.extBut q'.extBut hne.symm⟩, fun b hb => ?_⟩
    · rw [I.list_inj k1 hq, hx] at k3
      cases k3
      rfl
    · have hb' := hb
      simp only [List.mem_cons, List.not_mem_nil, or_false] at hb'
      have hlt : b < s.heap.objs.size := by
        rcases hb' with rfl | rfl
        · exact elt
        · exact ilt
      rw [upd_ne (Nat.ne_of_lt hlt)]
      exact (hf b hb).1
  done := by
    intro X hP hw hK hc i pins s σ H E I hf st hg
    subst hP hw hK
    obtain ⟨xs, hq, hx⟩ := hg
    obtain ⟨its, rv, p, hz⟩ := I.list hq
    obtain ⟨⟨old, he⟩, hit⟩ := st
    have hl := rv.length
    refine wpAny_pyNext_enum_end (I.ok.hd hc) he hit p.isList (by simp; omega) fun h' eb => ⟨rfl, I.turnedL (t' := s.toks) hf fun b u hb q => ?_⟩
    simp only [List.mem_cons, List.not_mem_nil, or_false, not_or] at hb
    exact eb b u hb.2 q
  self := fun _ _ _ _ _ st h => by
    obtain ⟨⟨old, he⟩, _⟩ := st
    exact wpAny_pyIter_enum he h
section
variable {X : Cx}
def iEnum (K : PySem.W.Frag) (ta : TA) : TI := fun σ H R => ta σ H fun vs H1 => ∃ a xs, vs = [.ref a] ∧ SqL K H1 a xs ∧ R (Ite K a) H1
theorem pi_enumerate {elts : List Expr} {x1 : Nat} {tpos : Pos} {a : Expr} {ta : TA} {p pos : Pos} (hg : Gl X "enumerate") (hm : X.mg "enumerate" = none) (ha : PA X [a] ta)
    (he : starEach [a] X.env = (false, eval a X.env) :: starEach [] X.env := by rfl) (hpl : (backTo pos (starEach [] X.env)).any (·.1) = false := by rfl) : PI X (.Tuple elts x1 tpos) (.Call (.Name "enumerate" p) [a] [] pos) (iEnum X.K ta) := by
  intro pins s σ H R I h
  have boot_enum : bootBuiltins "enumerate" = some (.type "enumerate") := by decide +kernel
  refine wpAny_Call_Name_kw (ld_blt I hg hm boot_enum ?_)
  refine PyProof.Rows.callWith_type1 (thn (ha pos pins s σ H _ I h) fun us s1 ⟨vs, H1, I1, r1, t1, xs, e, q1, q⟩ => ?_) he hpl
  subst e
  obtain ⟨u, rfl, ru⟩ := vals1 r1
  cases ru
  obtain ⟨its, rv, p1, hz1⟩ := I1.list q1
  refine call_enumerate_list p1.isList fun h' hE hI hsz hk => ?_
  refine wpAny_pyIter_enum hE ?_
  have I2 : Inv X pins σ H1 { s1 with heap := h' } := I1.kept (t' := s1.toks) hk
  have hne : s1.heap.objs.size + 1 ≠ s1.heap.objs.size := by change @Ne Nat _ _; omega
  refine ⟨s1.heap.objs.size + 1, [s1.heap.objs.size + 1, s1.heap.objs.size], _, Ite X.K t1, H1, rfl, I2, turn_enum hne, ⟨⟨_, hE⟩, hI⟩, fun b hb => ?_, q⟩
  have hle : s1.heap.objs.size ≤ b := by
    simp only [List.mem_cons, List.not_mem_nil, or_false] at hb
    rcases hb with h | h <;> rw [h] <;> first | exact Nat.le_refl _ | exact Nat.le_add_right _ _
  exact I1.fpOk hle (I1.hok.fresh hle)
end
end L2
end
section
set_option autoImplicit false
namespace L2
open PySem PySem.Spec PyProof.Rows
section
variable {prog : Program} {w : World} {A : Around} {E : Value → Shared → Prop} {s : Shared}
end
end L2
end
section
set_option autoImplicit false
namespace L2
open PySem PySem.Spec PyProof.Rows
section
variable {X : Cx} {pins : List (Addr × Obj)} {σ : St} {A : Around}
end
end L2
end
section
set_option autoImplicit false
namespace L2
open PySem PySem.Spec PyProof.Rows
section
variable {X : Cx}
end
end L2
end
section
set_option autoImplicit false
namespace L2
open PySem PySem.Spec PyProof.Rows
section
variable {X : Cx}
abbrev tooLongS := @Builtin.Str.tooLong
theorem size_rep (xs : Array Nat) : ∀ (k : Nat) (acc : Array Nat), (List.foldl (fun x1 x2 => x1 ++ x2) acc (List.replicate k xs)).size = acc.size + k * xs.size
  | 0, acc => by simp
  | k + 1, acc => by
    rw [List.replicate_succ, List.foldl_cons, size_rep xs k, Array.size_append, Nat.succ_mul]
    omega
def strRep (x : Str) (n : Int) : Str := if n < 1 then Str.empty else if (n == 1 || x.length == 0) = true then x else ⟨(List.replicate n.toNat x.cps).foldl (· ++ ·) #[]⟩
theorem op_mulS : OpR X (binaryOp .Mult) (fun a b H Q => ∃ x n, a = .str x ∧ b = .int n ∧ 0 ≤ n ∧ n ≤ 1000 ∧ x.length ≤ 1000 ∧ Q (.str (strRep x n)) H) := by
  intro pins s σ H a b u v Q I ra rb h
  obtain ⟨x, n, rfl, rfl, h0, h1, hx, q⟩ := h
  obtain ⟨t, rfl⟩ := ra
  obtain ⟨t', rfl⟩ := rb
  have hz : sizeLine = 16777216 := sizeLine_eq
  have hm : x.length * n.toNat ≤ 1000000 := by
    have : x.length * n.toNat ≤ 1000 * 1000 := Nat.mul_le_mul hx (by omega)
    omega
  have h3 : tooLongS (x.length * n.toNat) = false := by
    unfold tooLongS
    exact decide_eq_false (by omega)
  refine P.mul_str ?_ ?_ (fun _ _ => h3) ?_
  · rw [decide_eq_false (by omega), decide_eq_false (by omega)]
    rfl
  · intro hn _ hgt
    have h4 : (x.length : Int) * n ≤ 2 ^ 63 - 1 := by
      have : (x.length : Int) * n ≤ 1000 * 1000 := Int.mul_le_mul (by omega) h1 h0 (by decide)
      omega
    have := (Int.le_ediv_iff_mul_le (by omega : 0 < n)).mpr h4
    omega
  · unfold strRep at q
    by_cases c1 : n < 1
    · rw [if_pos c1] at q ⊢
      exact ⟨by decide, .str _, H, I.tok _, ⟨_, rfl⟩, q⟩
    · rw [if_neg c1] at q ⊢
      by_cases c2 : (n == 1 || x.length == 0) = true
      · rw [if_pos c2] at q ⊢
        exact ⟨.str _, H, I, ⟨_, rfl⟩, q⟩
      · rw [if_neg c2] at q ⊢
        refine ⟨?_, .str _, H, I.tok _, ⟨_, rfl⟩, q⟩
        show (List.foldl (fun x1 x2 => x1 ++ x2) #[] (List.replicate n.toNat x.cps)).size ≤ sizeLine
        rw [size_rep]
        have : x.cps.size = x.length := rfl
        have : n.toNat * x.cps.size = x.length * n.toNat := by rw [this, Nat.mul_comm]
        rw [Array.size_empty]
        omega
end
end L2
end
section
set_option autoImplicit false
namespace L2
open PySem PySem.Spec PyProof.Rows PySem.W
def KOk {α : Type} (n : Nat) (P : α → Prop) : KasT α → Prop
  | .ret a => P a
  | .ask i j k => i < n ∧ j < n ∧ ∀ b, KOk n P (k b)
theorem KOk.bind {α β : Type} {n : Nat} {P : α → Prop} {Q : β → Prop} {f : α → KasT β} (hf : ∀ a, P a → KOk n Q (f a)) : ∀ {t : KasT α}, KOk n P t → KOk n Q (t.bind f)
  | .ret a, h => hf a h
  | .ask i j k, h => ⟨h.1, h.2.1, fun b => KOk.bind hf (h.2.2 b)⟩
theorem KOk.wp {α : Type} {n : Nat} {P : α → Prop} {Q : α → Shared → Prop} {s : Shared} {cmp : Nat → Nat → (Bool → Shared → Prop) → Shared → Prop} (hc : ∀ i j C, i < n → j < n → (∀ b, C b s) → cmp i j C s) (hq : ∀ a, P a → Q a s) : ∀ {t : KasT α}, KOk n P t → t.kasWp cmp Q s
  | .ret a, h => hq a h
  | .ask i j k, h => hc i j _ h.1 h.2.1 fun b => KOk.wp hc hq (h.2.2 b)
def Pm (n : Nat) (p : Array Nat) : Prop := p.Perm (List.range n).toArray
theorem Pm.lt {n : Nat} {p : Array Nat} (h : Pm n p) (h0 : 0 < n) (i : Nat) : p.getD i 0 < n := by
  by_cases hi : i < p.size
  · have e : p.getD i 0 = p[i] := by simp [Array.getD, hi]
    rw [e]
    have m : p[i] ∈ (List.range n).toArray := h.mem_iff.mp (Array.getElem_mem hi)
    simpa using m
  · have e : p.getD i 0 = 0 := by simp [Array.getD, hi]
    rw [e]
    exact h0
theorem Pm.rev {n : Nat} {p : Array Nat} (h : Pm n p) (i j : Nat) : Pm n (kas_rev p i j) := Array.Perm.trans (mirror_perm p i j _) h
theorem Pm.bub {n : Nat} {p : Array Nat} (h : Pm n p) (k d : Nat) : Pm n (bubble p k d) := Array.Perm.trans (bubble_perm p k d) h
section
variable {n : Nat} (h0 : 0 < n)
include h0
theorem ok_asc {p : Array Nat} (h : Pm n p) : ∀ (f m : Nat), KOk n (fun _ => True) (kas_asc p f m)
  | 0, m => trivial
  | f + 1, m => ⟨h.lt h0 _, h.lt h0 _, fun b => by
      cases b with
      | true => exact trivial
      | false => exact ok_asc h f (m + 1)⟩
theorem ok_desc : ∀ (f : Nat) {p : Array Nat} (m q : Nat), Pm n p → KOk n (fun r => Pm n r.1) (kas_desc f p m q)
  | 0, p, m, q, h => h
  | f + 1, p, m, q, h => ⟨h.lt h0 _, h.lt h0 _, fun b => by
      cases b with
      | true =>
        show KOk n _ (if true = true then _ else _)
        rw [if_pos rfl]
        split
        · exact ok_desc f _ _ (h.rev _ _)
        · exact ok_desc f _ _ h
      | false =>
        refine ⟨h.lt h0 _, h.lt h0 _, fun d => ?_⟩
        cases d with
        | true => exact h
        | false => exact ok_desc f _ _ h⟩
theorem ok_tail3 (m nrem : Nat) {p : Array Nat} (h : Pm n p) : KOk n (fun r => Pm n r.2) (kas_tail3 m nrem p) := by
  unfold kas_tail3
  refine KOk.bind (P := fun _ => True) (fun a _ => ?_) (ok_asc h0 (h.rev 0 m) _ _)
  exact h.rev 0 m
theorem ok_descPart (m nrem : Nat) {p : Array Nat} (h : Pm n p) : KOk n (fun r => Pm n r.2) (kas_descPart m nrem p) := by
  refine KOk.bind (fun r hr => ?_) (ok_desc h0 _ _ _ h)
  split
  · exact ok_tail3 h0 _ _ (hr.rev _ _)
  · exact ok_tail3 h0 _ _ hr
theorem ok_count (nrem : Nat) {p : Array Nat} (h : Pm n p) : KOk n (fun r => Pm n r.2) (kas_count nrem p) := by
  refine KOk.bind (fun r _ => ?_) (ok_asc h0 h _ _)
  split
  · exact h
  · split
    · refine ⟨h.lt h0 _, h.lt h0 _, fun b => ?_⟩
      cases b with
      | true => exact h
      | false => exact ok_descPart h0 _ _ (h.rev _ _)
    · exact ok_descPart h0 _ _ h
theorem ok_place {p : Array Nat} (h : Pm n p) (k : Nat) : ∀ (f l r : Nat), KOk n (fun _ => True) (kas_place p k f l r)
  | 0, l, r => trivial
  | f + 1, l, r => by
    unfold kas_place
    split
    · exact trivial
    · refine ⟨h.lt h0 _, h.lt h0 _, fun b => ?_⟩
      cases b with
      | true => exact ok_place h k f _ _
      | false => exact ok_place h k f _ _
theorem ok_bin : ∀ (f : Nat) {p : Array Nat} (k : Nat), Pm n p → KOk n (Pm n) (kas_bin f p k)
  | 0, p, k, h => h
  | f + 1, p, k, h => KOk.bind (fun l _ => ok_bin f (k + 1) (h.bub _ _)) (ok_place h0 h k _ _ _)
theorem ok_sort : KOk n (Pm n) (kas_sort n) := by
  refine KOk.bind (fun r hr => ?_) (ok_count h0 n (Array.Perm.refl _))
  split
  · exact ok_bin h0 _ _ hr
  · exact hr
end
theorem Pm.out {vs : List Value} {p : Array Nat} (h : Pm vs.length p) : (p.toList.map fun i => vs.getD i Value.none).Perm vs := by
  have h1 : p.toList.Perm (List.range vs.length) := by simpa using h.toList
  have h2 := h1.map fun i => vs.getD i Value.none
  have h3 : (List.range vs.length).map (fun i => vs.getD i Value.none) = vs := by
    apply List.ext_getElem (by simp)
    intro i a b
    simp [b]
  rw [h3] at h2
  exact h2
section
variable {prog : Program} {w : World} {A : Around} {E : Value → Shared → Prop} {s : Shared}
structure Cmps (prog : Program) (w : World) (A : Around) (κ : SortKind) (vs : List Value) (h : Heap) : Prop where
  kind : ∀ (s' : Shared) (Q : SortKind → Shared → Prop) (E : Value → Shared → Prop), (∀ b o, h.get? b = some o → s'.heap.get? b = some o) → Q κ s' → wpAny (model prog w) A (keyKind' vs.toArray) Q E s'
  lt : ∀ x ∈ vs, ∀ y ∈ vs, ∀ (s' : Shared) (C : Bool → Shared → Prop), (∀ b o, h.get? b = some o → s'.heap.get? b = some o) → (∀ b, C b s') → wpAny (model prog w) A (keyLt' κ x y) C (fun _ _ => False) s'
theorem list_sort_any {a : Addr} {vs : List Value} {n : Nat} {P : Fin → Shared → Prop} {h₀ : Heap} {κ : SortKind} (ho : s.heap.get? a = some (seqObj "list" vs.toArray n)) (h64 : vs.length < 64) (keep : ∀ b o, h₀.get? b = some o → s.heap.get? b = some o ∧ b ≠ a)
    (hc : 2 ≤ vs.length → Cmps prog w A κ vs h₀)
    (h : ∀ out : Array Value, out.toList.Perm vs → P (.done (.ret .none)) { s with heap := sortedHeap s.heap a vs out }) :
    wpAny (model prog w) A (Builtin.«list.sort» ⟨[.ref a], []⟩) P E s := by
  rw [list_sort_plain]
  have ha : a < s.heap.objs.size := Heap.lt_size ho
  refine wpAny_bind (listItems_at ho rfl ?_)
  refine wpAny_bind (listUpdate_at ho rfl ?_ (by rw [List.size_toArray, sizeLine_eq]; omega) (Nat.zero_le _))
  obtain ⟨e1, ho1⟩ : ∃ e1, (s.heap.update a (Obj.mapSeq fun _ => #[])).get? a = some (seqObj "list" #[] e1) := ⟨_, get?_update_seq ho (fun _ => #[])⟩
  refine wpAny_bind (seqEpoch_at ho1 rfl ?_)
  refine wpAny_bind (wpAny_newTuple ?_ (by show vs.length ≤ _; rw [sizeLine_eq]; omega))
  refine wpAny_bind (wpAny_newList ?_ (Nat.zero_le _))
  refine wpAny_holding ?_
  have ho6 : (((s.heap.update a (Obj.mapSeq fun _ => #[])).push (seqObj "tuple" vs.toArray 0)).push (seqObj "list" #[] 0)).get? a = some (seqObj "list" #[] e1) := by
    rw [Heap.get?_push_ne _ _ _ (by rw [size_push', Heap.size_update]; exact Nat.ne_of_lt (Nat.lt_succ_of_lt ha)), Heap.get?_push_ne _ _ _ (by rw [Heap.size_update]; exact Nat.ne_of_lt ha)]
    exact ho1
  have kp : ∀ b o, h₀.get? b = some o → (((s.heap.update a (Obj.mapSeq fun _ => #[])).push (seqObj "tuple" vs.toArray 0)).push (seqObj "list" #[] 0)).get? b = some o := fun b o e => by
    obtain ⟨e', ne⟩ := keep b o e
    exact Heap.get?_push_of_some _ (Heap.get?_push_of_some _ ((Heap.get?_update_other _ _ (Ne.symm ne)).trans e'))
  show wpAny (model prog w) A _ P E { s with heap := ((s.heap.update a (Obj.mapSeq fun _ => #[])).push (seqObj "tuple" vs.toArray 0)).push (seqObj "list" #[] 0) }
  dsimp only
  have hsz : vs.toArray.size = vs.length := by simp
  have fin : ∀ st' : SortSt, failedOf st' = none → ((arrOf st').map (·.2)).toList.Perm vs → wpAny (model prog w) A (do
      let touched := (← seqEpoch a) != e1
      Builtin.List.listUpdate (.ref a) fun _ => (arrOf st').map (·.2)
      if let some e := failedOf st' then rule "list.sort.comparison-raised"; throw e
      if touched then rule "list.sort.modified"; raiseError "ValueError" "list modified during sort"
      ret .none) P E { s with heap := ((s.heap.update a (Obj.mapSeq fun _ => #[])).push (seqObj "tuple" vs.toArray 0)).push (seqObj "list" #[] 0) } := fun st' hf hp => by
    refine wpAny_bind (seqEpoch_at ho6 rfl ?_)
    refine wpAny_bind (listUpdate_at ho6 rfl ?_ (Nat.zero_le _) (by
      have := hp.length_eq
      rw [Array.length_toList] at this
      show ((arrOf st').map (·.2)).size ≤ _
      rw [this, sizeLine_eq]
      omega))
    rw [hf]
    simp only [bne_self_eq_false, Bool.false_eq_true, if_false]
    exact wpAny_pure (h _ hp)
  by_cases h2 : vs.toArray.size < 2
  · rw [if_pos h2, if_pos h2]
    refine wpAny_bind (wpAny_pure ?_)
    rw [StateT.run_pure]
    refine wpAny_bind (wpAny_pure ?_)
    refine fin (SortSt.mk' general' (vs.toArray.zip vs.toArray) #[] 7 none) rfl ?_
    have e : ((vs.toArray.zip vs.toArray).map (·.2)).toList = vs := by
      simp only [List.zip_toArray, List.map_toArray]
      exact List.map_snd_zip (Nat.le_refl _)
    show ((vs.toArray.zip vs.toArray).map (·.2)).toList.Perm vs
    rw [e]
  · rw [if_neg h2, if_neg h2]
    rw [hsz] at h2
    have C := hc (by omega)
    refine wpAny_bind (C.kind _ _ _ kp ?_)
    refine wpAny_bind (wpAny_mono (kat_run (ks := vs) (Q := fun st' s' => s' = { s with heap := ((s.heap.update a (Obj.mapSeq fun _ => #[])).push (seqObj "tuple" vs.toArray 0)).push (seqObj "list" #[] 0) } ∧ failedOf st' = none ∧ ((arrOf st').map (·.2)).toList.Perm vs)
      (G := fun p s' => s' = { s with heap := ((s.heap.update a (Obj.mapSeq fun _ => #[])).push (seqObj "tuple" vs.toArray 0)).push (seqObj "list" #[] 0) } ∧ Pm vs.length p) rfl (by omega) h64 (fun p st' s' _ e1 e2 ⟨e3, e4⟩ => ⟨e3, e2, ?_⟩) ?_) ?_ fun _ _ e => e)
    · rw [kat_snds rfl e1]
      exact e4.out
    · refine KOk.wp (fun i j Cc hi hj hC => ?_) (fun p hp => ⟨rfl, hp⟩) (ok_sort (by omega))
      have gm : ∀ i, i < vs.length → vs.getD i Value.none ∈ vs := fun i hi => by
        have : vs.getD i Value.none = vs[i] := by simp [hi]
        rw [this]
        exact List.getElem_mem hi
      exact C.lt _ (gm i hi) _ (gm j hj) _ _ kp hC
    · rintro ⟨⟨⟩, st'⟩ s' ⟨rfl, hf, hp⟩
      exact fin st' hf hp
theorem sorted_any {l : Addr} {vs : List Value} {Q : Value → Shared → Prop} {κ : SortKind} (hl : s.heap.IsList l vs.toArray) (h64 : vs.length < 64) (hc : 2 ≤ vs.length → Cmps prog w A.in1.in1 κ vs s.heap)
    (h : ∀ out : Array Value, out.toList.Perm vs → Q (.ref (s.heap.objs.size + 1)) { s with heap := sortedAll s.heap vs out }) :
    wpAny (model prog w) A (call (.builtin "sorted") [.ref l]) Q E s := by
  refine Calls.call_function_entry kind_sorted plain_sorted entry_sorted (args_sorted1 _) ?_
  unfold Builtin.«sorted»
  refine wpAny_bind (m := checkCount "sorted" 1 1 _) (wpAny_pure ?_)
  refine wpAny_bind (collect_list hl ?_ (by rw [sizeLine_eq]; omega))
  refine wpAny_bind (wpAny_newList ?_ (by rw [sizeLine_eq]; omega))
  have hsz : ((s.heap.push (seqObj "list" #[] 0)).update s.heap.objs.size (Obj.mapSeq (· ++ vs.toArray))).objs.size = s.heap.objs.size + 1 := by
    rw [Heap.size_update, size_push']
  have hoL : (((s.heap.push (seqObj "list" #[] 0)).update s.heap.objs.size (Obj.mapSeq (· ++ vs.toArray))).push (seqObj "list" vs.toArray 0)).get? (s.heap.objs.size + 1) = some (seqObj "list" vs.toArray 0) := by
    rw [← hsz]; exact Heap.get?_push_size _ rfl
  have keep : ∀ b o, s.heap.get? b = some o → (((s.heap.push (seqObj "list" #[] 0)).update s.heap.objs.size (Obj.mapSeq (· ++ vs.toArray))).push (seqObj "list" vs.toArray 0)).get? b = some o ∧ b ≠ s.heap.objs.size + 1 := fun b o q => by
    have hlt : b < s.heap.objs.size := Heap.lt_size q
    refine ⟨?_, Nat.ne_of_lt (Nat.lt_succ_of_lt hlt)⟩
    rw [Heap.get?_push_ne _ _ _ (by rw [hsz]; exact Nat.ne_of_lt (Nat.lt_succ_of_lt hlt)), Heap.get?_update_ne _ _ _ _ (Nat.ne_of_lt hlt), Heap.get?_push_ne _ _ _ (Nat.ne_of_lt hlt)]
    exact q
  show wpAny _ _ _ _ _ { s with heap := ((s.heap.push (seqObj "list" #[] 0)).update s.heap.objs.size (Obj.mapSeq (· ++ vs.toArray))).push (seqObj "list" vs.toArray 0) }
  rw [hsz]
  refine wpAny_bind (wpAny_holding (wpAny_call_entry slot_list_sort ⟨_, hoL, rfl⟩ entry_list_sort (list_sort_any hoL h64 keep hc fun out a1 => ⟨_, rfl, ?_⟩) (args_list_sort _)))
  exact wpAny_pure ⟨_, rfl, h out a1⟩
end
theorem Vals.perm : ∀ {us ws : List Value}, us.Perm ws → ∀ {xs : List V}, Vals xs ws → ∃ ys, ys.Perm xs ∧ Vals ys us := by
  intro us ws h
  induction h with
  | nil => exact fun {xs} r => ⟨xs, .refl _, r⟩
  | cons a _ ih =>
    intro xs r
    cases r with
    | cons q t =>
      obtain ⟨ys, p, r'⟩ := ih t
      exact ⟨_ :: ys, p.cons _, .cons q r'⟩
  | swap a b l =>
    intro xs r
    cases r with
    | cons q t =>
      cases t with
      | cons q' t' => exact ⟨_, .swap _ _ _, .cons q' (.cons q t')⟩
  | trans _ _ i1 i2 =>
    intro xs r
    obtain ⟨ys, p, r'⟩ := i2 r
    obtain ⟨zs, p', r''⟩ := i1 r'
    exact ⟨zs, p'.trans p, r''⟩
def SecS (b : Bool) (y : V) : Prop := if b then (∃ x, y = .str x) else ∃ i, y = .int i
section
variable {X : Cx}
theorem call_sorted (b : Bool) : CallR X (.builtin "sorted") (fun xs H Q => ∃ l ps, xs = [.ref l] ∧ SqL X.K H l ps ∧ ps.length < 64 ∧ (∀ x ∈ ps, ∃ p i y, x = .ref p ∧ H p = some (.tup [.int i, y]) ∧ SecS b y) ∧ ∀ d qs, qs.Perm ps → H d = none → Q (.ref d) (upd H d (.lst qs))) := by
  intro pins s σ H xs us Q I r h
  obtain ⟨l, ps, rfl, hl, h64, hp, q⟩ := h
  obtain ⟨u, rfl, ru⟩ := vals1 r
  cases ru
  obtain ⟨its, rv, pl, hz⟩ := I.list hl
  have hlen := rv.length
  have item : ∀ v ∈ its, ∃ (p : Addr) (o : Obj) (i : Int) (t : Tok) (y : Value) (n : Nat), v = .ref p ∧ s.heap.get? p = some o ∧ o.cls = .type "tuple" ∧ o.data = .seq #[.int i t, y] n ∧ (if b then ∃ x t', y = Value.str x t' else ∃ j t', y = Value.int j t') := fun v hv => by
    obtain ⟨i, hi, rfl⟩ := List.getElem_of_mem hv
    have hi' : i < ps.length := by omega
    obtain ⟨w', hw, rw'⟩ := rv.get (i := i) (x := ps[i]) (List.getElem?_eq_getElem hi')
    rw [List.getElem?_eq_getElem hi] at hw
    cases hw
    obtain ⟨p, j, y, e, hH, hy⟩ := hp ps[i] (List.getElem_mem hi')
    rw [e] at rw'
    have rw' : its[i] = .ref p := rw'
    obtain ⟨jts, rj, ⟨o, go, co, n, dn⟩, _⟩ := I.tuple (SqT.of hH)
    obtain ⟨v1, v2, rfl, ⟨t, rfl⟩, r2⟩ := rj.two
    refine ⟨p, o, j, t, v2, n, rw', go, co, dn, ?_⟩
    unfold SecS at hy
    cases b with
    | true =>
      obtain ⟨x, rfl⟩ := (by simpa using hy : ∃ x, y = V.str x)
      obtain ⟨t', rfl⟩ := r2
      simp
    | false =>
      obtain ⟨x, rfl⟩ := (by simpa using hy : ∃ x, y = V.int x)
      obtain ⟨t', rfl⟩ := r2
      simp
  have hcmp : 2 ≤ its.length → Cmps X.prog X.w X.A.in1.in1 (tuples' ((Value.type "int") != Value.type "tuple")) its s.heap := fun h2 => by
    refine ⟨fun s' Q' E' kp hq => ?_, fun x hx y hy s' C kp hC => ?_⟩
    · have tups : ∀ vs : List Value, (∀ v ∈ vs, v ∈ its) → ∃ fs : List Value, KatTups s'.heap vs fs ∧ fs.length = vs.length ∧ ∀ f ∈ fs, ∃ i t, f = Value.int i t := by
        intro vs
        induction vs with
        | nil => exact fun _ => ⟨[], .nil, rfl, fun _ h => nomatch h⟩
        | cons v vs ih =>
          intro hm
          obtain ⟨fs, k, e, hf⟩ := ih fun v hv => hm v (List.mem_cons_of_mem _ hv)
          obtain ⟨p, o, i, t, y, n, rfl, go, co, dn, _⟩ := item v (hm v List.mem_cons_self)
          refine ⟨.int i t :: fs, .cons (kp p o go) co dn rfl k, by rw [List.length_cons, List.length_cons, e], fun f hf' => ?_⟩
          rcases List.mem_cons.mp hf' with rfl | h'
          · exact ⟨i, t, rfl⟩
          · exact hf f h'
      obtain ⟨fs, k, e, hf⟩ := tups its fun _ h => h
      refine kat_kind (T := .type "int") k (by omega) (fun v hv => ?_) rfl hq
      obtain ⟨i, t, rfl⟩ := hf v hv
      exact .now
    · obtain ⟨p, o, i, t, y1, n, rfl, go, co, dn, h1⟩ := item x hx
      obtain ⟨p', o', i', t', y2, n', rfl, go', co', dn', h1'⟩ := item y hy
      refine kat_lt (kp p o go) dn (kp p' o' go') dn' ?_
      show KatLex _ _ _ _ _ _ [(Value.int i t, Value.int i' t'), (y1, y2)] 0 s'
      refine kat_cons (wpAny_eqBool_int (kat_go (fun _ => kat_yes ?_) fun _ => kat_no ?_))
      · cases b with
        | true =>
          obtain ⟨x1, u1, rfl⟩ := (by simpa using h1 : ∃ x t', y1 = Value.str x t')
          obtain ⟨x2, u2, rfl⟩ := (by simpa using h1' : ∃ x t', y2 = Value.str x t')
          refine kat_cons (wpAny_eqBool_str (kat_go (fun _ => kat_yes (kat_nil (hC _))) fun _ => kat_no ?_))
          exact kat_one _ _ (lt_str (hC _))
        | false =>
          obtain ⟨x1, u1, rfl⟩ := (by simpa using h1 : ∃ x t', y1 = Value.int x t')
          obtain ⟨x2, u2, rfl⟩ := (by simpa using h1' : ∃ x t', y2 = Value.int x t')
          refine kat_cons (wpAny_eqBool_int (kat_go (fun _ => kat_yes (kat_nil (hC _))) fun _ => kat_no ?_))
          exact kat_one _ _ (PyProof.Rows.lt_int (hC _))
      · exact oneLt_int (hC _)
  refine sorted_any pl.isList (by omega) hcmp fun out hperm => ?_
  obtain ⟨ys, py, ry⟩ := rv.perm hperm
  obtain ⟨e, he⟩ := sortedAll_at s.heap its out
  have hd : H (s.heap.objs.size + 1) = none := I.hok.fresh (Nat.le_succ _)
  refine ⟨.ref (s.heap.objs.size + 1), _, I.laid (t' := s.toks) (o := .lst ys) (fun b o q => sortedAll_old q) (Nat.le_succ _) ⟨by rw [py.length_eq]; exact hz, out.toList, e, ry, by rw [Array.toArray_toList]; exact he⟩, rfl, q _ ys py hd⟩
end
end L2
end
section
set_option autoImplicit false
namespace L2
open PySem PySem.Spec PyProof.Rows
theorem bt_sorted : bootBuiltins "sorted" = some (.builtin "sorted") := by decide +kernel
section
variable {X : Cx} {K : PySem.W.Frag}
theorem pi_tup_K {tg l : Expr} {tl : TE} (h : X.K = K) (hl : PE X l tl) : PI X tg l (iTup K tl) := by subst h; exact pi_tup hl
end
end L2
end
section
set_option autoImplicit false
namespace L2
open PySem PyProof.Rows
theorem comp_by {J : It} {n own : Nat} {fr : List Nat} {g : TG} {tc : TT} {te : TE} {σ : St} {Q : VK} {D : Addr} {H0 : Hp} (Pv : Nat → List V → Hp → Prop) (h0 : Pv 0 [] H0) (stop : ∀ ys H, Pv n ys H → J.stop n H ∧ Q (.ref D) H)
    (go : ∀ i ys H, i < n → Pv i ys H → J.go i H ∧ ∀ x H', J.yld i H x H' → ∀ σo : St, σo.length = own → g x (σo ++ frv σ fr) H' fun σ2 H2 => (∃ σo' : St, σo'.length = own ∧ σ2 = σo' ++ frv σ fr) ∧
      tc σ2 H2 fun b H3 => if b = true then te σ2 H3 fun y H4 => ys.length < sizeLine ∧ H4 D = some (.lst ys) ∧ ∃ m', m' < n - i ∧ (m' = n - (i + 1) ∧ i + 1 ≤ n ∧ Pv (i + 1) (ys ++ [y]) (upd H4 D (.lst (ys ++ [y])))) else ∃ m', m' < n - i ∧ (m' = n - (i + 1) ∧ i + 1 ≤ n ∧ Pv (i + 1) ys H3)) :
    CompB own fr g tc te σ Q J D H0 := by
  refine ⟨fun i m ys H => m = n - i ∧ i ≤ n ∧ Pv i ys H, ⟨n, by simp, Nat.zero_le _, h0⟩, ?_⟩
  rintro i m ys H ⟨rfl, hi, p⟩
  by_cases hlt : i < n
  · exact .inr (go i ys H hlt p)
  · have e : i = n := by omega
    subst e
    exact .inl (stop ys H p)
theorem less_by {n i : Nat} (h : i < n) {P : Prop} (p : P) : ∃ m', m' < n - i ∧ (m' = n - (i + 1) ∧ i + 1 ≤ n ∧ P) := ⟨n - (i + 1), by omega, rfl, h, p⟩
theorem own1 {σo : St} (h : σo.length = 1) : ∃ o, σo = [o] := by
  cases σo with
  | nil => cases h
  | cons o r =>
    cases r with
    | nil => exact ⟨o, rfl⟩
    | cons _ _ => cases h
theorem own2 {σo : St} (h : σo.length = 2) : ∃ o o', σo = [o, o'] := by
  cases σo with
  | nil => cases h
  | cons o r =>
    cases r with
    | nil => cases h
    | cons o' r =>
      cases r with
      | nil => exact ⟨o, o', rfl⟩
      | cons _ _ => cases h
theorem nodup_map {α β : Type} {f : α → β} : ∀ {l : List α}, (∀ a ∈ l, ∀ b ∈ l, f a = f b → a = b) → l.Nodup → (l.map f).Nodup
  | [], _, _ => List.nodup_nil
  | a :: r, hi, hn => by
    obtain ⟨h1, h2⟩ := List.nodup_cons.mp hn
    rw [List.map_cons]
    refine List.nodup_cons.mpr ⟨fun m => ?_, nodup_map (fun x hx y hy => hi x (List.mem_cons_of_mem _ hx) y (List.mem_cons_of_mem _ hy)) h2⟩
    obtain ⟨b, hb, e⟩ := List.mem_map.mp m
    exact h1 (hi b (List.mem_cons_of_mem _ hb) a List.mem_cons_self e ▸ hb)
theorem nodup_le {α : Type} [DecidableEq α] : ∀ {l m : List α}, l.Nodup → (∀ x ∈ l, x ∈ m) → l.length ≤ m.length
  | [], _, _, _ => Nat.zero_le _
  | a :: r, m, hn, hs => by
    obtain ⟨h1, h2⟩ := List.nodup_cons.mp hn
    have hm : a ∈ m := hs a List.mem_cons_self
    have := nodup_le (l := r) (m := m.erase a) h2 fun x hx => by
      have ne : x ≠ a := fun e => h1 (e ▸ hx)
      exact (List.mem_erase_of_ne ne).mpr (hs x (List.mem_cons_of_mem _ hx))
    have e := List.length_erase_of_mem hm
    have p : 0 < m.length := List.length_pos_of_mem hm
    rw [List.length_cons]
    omega
theorem hu10 {A : Around} {k : Nat} (hr : Room k A) : A.units + 10 < cLine := by
  have := hr.units
  omega
def Pu (H : Hp) (p : Addr) : Prop := ∃ a b c : Int, H p = some (.lst [.int a, .int b, .int c])
theorem Pu.ne {H : Hp} {p u : Addr} {us : List Str} (h : Pu H p) (g : H u = some (.lst (us.map V.str))) : u ≠ p := by
  obtain ⟨a, b, c, e⟩ := h
  exact (ne_of e g strs_ne).symm
theorem Pu.upd {H : Hp} {p : Addr} {a b c : Int} : Pu (upd H p (.lst [.int a, .int b, .int c])) p := ⟨a, b, c, upd_same⟩
theorem Pu.same {H H' : Hp} {p : Addr} (h : Pu H p) (s : Same H H') : Pu H' p := by
  obtain ⟨a, b, c, e⟩ := h
  exact ⟨a, b, c, s p _ e⟩
theorem Pu.neN {H : Hp} {p q : Addr} (h : Pu H p) (g : H q = none) : p ≠ q := by
  obtain ⟨a, b, c, e⟩ := h
  exact ne_of_none e g
theorem Pu.upd_ne {H : Hp} {p q : Addr} {o : HO} (h : Pu H p) (g : p ≠ q) : Pu (L2.upd H q o) p := by
  obtain ⟨a, b, c, e⟩ := h
  exact ⟨a, b, c, by rw [L2.upd_ne g]; exact e⟩
theorem itePos {c A B : Prop} [Decidable c] (h : c) (a : A) : if c then A else B := by
  rw [if_pos h]
  exact a
theorem iteNeg {c A B : Prop} [Decidable c] (h : ¬ c) (b : B) : if c then A else B := by
  rw [if_neg h]
  exact b
def abc : Str := "abcdefghijklmnopqrstuvwxyz"
def letters : List Str := abc.cps.toList.map fun c => ⟨#[c]⟩
theorem letters_len : letters.length = 26 := by decide +kernel
theorem abc_len : abc.cps.size = 26 := by decide +kernel
theorem letters_one : ∀ x ∈ letters, x.length = 1 := by
  intro x hx
  obtain ⟨c, _, rfl⟩ := List.mem_map.mp hx
  rfl
theorem letters_nodup : letters.Nodup := by decide +kernel
theorem str_app_inj {a b z : Str} (ha : a.length = 1) (hb : b.length = 1) (h : a ++ z = b ++ z) : a = b := by
  obtain ⟨⟨a⟩⟩ := a
  obtain ⟨⟨b⟩⟩ := b
  have h' : (a ++ z.cps.toList) = (b ++ z.cps.toList) := by
    have e : ∀ y : List Nat, ((⟨⟨y⟩⟩ : Str) ++ z).cps.toList = y ++ z.cps.toList := fun y => by
      show ((⟨y⟩ : Array Nat) ++ z.cps).toList = _
      rw [Array.toList_append]
    rw [← e, ← e, h]
  have := List.append_cancel_right h'
  rw [this]
theorem str_len_app (a b : Str) : (a ++ b).length = a.length + b.length := by
  show (a.cps ++ b.cps).size = _
  rw [Array.size_append]
  rfl
theorem some_letter {us : List Str} (h : us.length ≤ 25) (z : Str) : ∃ c ∈ letters, ¬ (c ++ z) ∈ us := by
  apply Classical.byContradiction
  intro hn
  have all : ∀ c ∈ letters, (c ++ z) ∈ us := fun c hc => Classical.byContradiction fun hx => hn ⟨c, hc, hx⟩
  have nd : (letters.map (· ++ z)).Nodup := by
    exact nodup_map (fun a ha b hb e => str_app_inj (letters_one a ha) (letters_one b hb) e) letters_nodup
  have := nodup_le nd fun x hx => by
    obtain ⟨c, hc, rfl⟩ := List.mem_map.mp hx
    exact all c hc
  rw [List.length_map, letters_len] at this
  omega
theorem slice_len (z : Str) (lo hi : Option Int) : (Txt.slice z lo hi).length ≤ z.length := Txt.slice_le z lo hi
theorem for_enum {K : PySem.W.Frag} {a : Addr} {xs : List V} {g : TG} {tb : TS} {D : Ends} {σ : St} {H : Hp} (Pv : Nat → St → Hp → Prop) (h0 : Pv 0 σ H) (hl : ∀ i σ H, i ≤ xs.length → Pv i σ H → SqL K H a xs)
    (hs : ∀ i x σ H p, xs[i]? = some x → Pv i σ H → H p = none → g (.ref p) σ (upd H p (.tup [.int i, x])) fun σ2 H2 => tb { D with nx := Pv (i + 1), ct := Pv (i + 1), bk := D.nx } σ2 H2) (hd : ∀ σ H, Pv xs.length σ H → D.nx σ H) :
    ∃ W : Nat → Nat → St → Hp → Prop, (∃ m, W 0 m σ H) ∧ ∀ i m σ H, W i m σ H →
      ((Ite K a).stop i H ∧ D.nx σ H) ∨ ((Ite K a).go i H ∧ ∃ N : St → Hp → Prop, (∀ σ' H', N σ' H' → ∃ m', m' < m ∧ W (i + 1) m' σ' H') ∧ ∀ x H', (Ite K a).yld i H x H' → g x σ H' fun σ2 H2 => tb { D with nx := N, ct := N, bk := D.nx } σ2 H2) := by
  refine ⟨fun i m σ H => m = xs.length - i ∧ i ≤ xs.length ∧ Pv i σ H, ⟨xs.length, by simp, Nat.zero_le _, h0⟩, ?_⟩
  rintro i m σ H ⟨rfl, hi, p⟩
  have q := hl i σ H hi p
  by_cases hlt : i < xs.length
  · refine .inr ⟨⟨xs, xs[i], q, by simp [hlt]⟩, Pv (i + 1), fun σ' H' p' => ⟨xs.length - (i + 1), by omega, rfl, hlt, p'⟩, fun x H' y => ?_⟩
    obtain ⟨r, hr, rfl, y⟩ := y
    have e := y xs xs[i] q (by simp [hlt])
    subst e
    exact hs i xs[i] σ _ r (by simp [hlt]) p hr
  · have e : i = xs.length := by omega
    subst e
    exact .inl ⟨⟨xs, q, Nat.le_refl _⟩, hd σ H p⟩
end L2
end
section
set_option autoImplicit false
namespace L2
open PySem PySem.Spec PyProof.Rows
section
variable {X : Cx} {K : PySem.W.Frag}
theorem call_len_seqK (hK : X.K = K) : CallR X (.builtin "len") (fun xs H Q => ∃ p ys, xs = [.ref p] ∧ (SqL K H p ys ∨ SqT K H p ys) ∧ Q (.int ys.length) H) := by subst hK; exact call_len_seq
end
end L2
end
section
set_option autoImplicit false
namespace L2
open PySem PySem.Spec PyProof.Rows
section
variable {X : Cx} {K : PySem.W.Frag}
def SeqAt' (H : Hp) (v : V) (ys : List V) : Prop := ∃ p, v = .ref p ∧ (H p = some (.lst ys) ∨ H p = some (.tup ys))
end
end L2
end
section
set_option autoImplicit false
namespace L2
open PySem PySem.Spec PyProof.Rows
section
variable {X : Cx} {K : PySem.W.Frag}
end
end L2
end
section
set_option autoImplicit false
namespace L2
open PySem PySem.Spec PyProof.Rows PySem.W
section
variable {prog : Program} {w : World} {A : Around} {E : Value → Shared → Prop} {s : Shared} {T : String} {r d : Addr} {n : Nat} {P : Nat → Value → Prop} {OK : Heap → Prop}
theorem collect_src {Q : List Value → Shared → Prop} (K : KdlSrc prog w T r d n P OK) (hh : A.handled = none) (hok : OK s.heap) (hn : n ≤ sizeLine)
    (hQ : ∀ (h' : Heap) (tk : Nat) (acc : Array Value), (∀ b o, s.heap.get? b = some o → h'.get? b = some o) → ItemsOf P acc n → Q acc.toList { s with heap := h', toks := tk }) : wpAny (model prog w) A (collect (.ref r)) Q E s := by
  obtain ⟨l1, l2⟩ := K.there _ hok
  unfold collect
  refine wpAny_bind (wpAny_runValue (codeAny_builtin F.entry_proto_collect ?_))
  rw [Around.under_plainId F.plain_proto_collect _]
  show wpAny _ A.in1 (newList [] >>= fun l => again (.builtin "list.__iadd__" ⟨[l, .ref r], []⟩)) _ _ s
  refine wpAny_bind (wpAny_newObj_type ?_)
  refine wpAny_pure ⟨plainId_quiet F.plain_list_iadd _, codeAny_builtin F.entry_list_iadd ?_⟩
  rw [Around.under_plainId F.plain_list_iadd _]
  show wpAny _ A.in1 (Builtin.List.listExtendWith (.ref s.heap.objs.size) (.ref r) (.ref s.heap.objs.size)) _ _ _
  have fin' : ∀ s' : Shared, (∃ (h' : Heap) (tk : Nat) (acc : Array Value) (c : Nat), s' = { s with heap := h', toks := tk } ∧ (∀ b o, s.heap.get? b = some o → h'.get? b = some o) ∧ h'.get? s.heap.objs.size = some { cls := .type "list", dict := none, data := .seq acc c, slots := #[] } ∧ ItemsOf P acc n) →
      wpAny (model prog w) A (do
        let o ← load s.heap.objs.size
        match o.data with
        | .seq xs _ => pure xs.toList
        | _ => unsupported "internal:collect") Q E s' := by
    rintro s' ⟨h', tk, acc, c, rfl, kp, hS, hacc⟩
    exact wpAny_bind (wpAny_load hS (wpAny_pure (hQ h' tk acc kp hacc)))
  refine wpAny_mono (kdl_extend (s := { s with heap := s.heap.push { cls := .type "list", data := .seq ([] : List Value).toArray } }) (A := A)
    (R := fun r' s' => r' = .ok (.ret (.ref s.heap.objs.size)) ∧ ∃ (h' : Heap) (tk : Nat) (acc : Array Value) (c : Nat), s' = { s with heap := h', toks := tk } ∧ (∀ b o, s.heap.get? b = some o → h'.get? b = some o) ∧ h'.get? s.heap.objs.size = some { cls := .type "list", dict := none, data := .seq acc c, slots := #[] } ∧ ItemsOf P acc n)
    K hh (K.keep _ _ hok fun b _ o e => Heap.get?_push_of_some _ e) s.heap.objs.size (Nat.ne_of_gt l1) (Nat.ne_of_gt l2) _ 0 (Heap.get?_push_size _ rfl)
    (fun h' tk acc c kp hS hacc => ⟨rfl, h', tk, acc, c, rfl, fun b o e => kp b o (Nat.ne_of_lt (Heap.lt_size e)) (Heap.get?_push_of_some _ e), hS, hacc⟩) hn) (fun fin s' h => ?_) (fun e s' h => ?_)
  · cases fin with
    | done f =>
      obtain ⟨e, h⟩ := h
      cases e
      exact fin' s' h
    | again c' => exact ⟨h.1, codeAny_mono h.2 fun r s'' hr => by obtain ⟨rfl, hr⟩ := hr; exact fin' s'' hr⟩
  · exact absurd h.1 (by simp)
theorem call_tuple_src {Q : Value → Shared → Prop} (K : KdlSrc prog w "dict" r d n P OK) (hh : A.handled = none) (hok : OK s.heap) (hn : n ≤ sizeLine)
    (hQ : ∀ (h' : Heap) (tk : Nat) (acc : Array Value), (∀ b o, s.heap.get? b = some o → h'.get? b = some o) → ItemsOf P acc n → Q (.ref h'.objs.size) { s with heap := h'.push { cls := .type "tuple", data := .seq acc }, toks := tk }) :
    wpAny (model prog w) A (call (.type "tuple") [.ref r]) Q E s := by
  refine callType_codes (Q₁ := fun obj s₁ => s₁.TypeIs obj "tuple" ∧ Q obj s₁) F.called_tuple (F.typeCall_tuple_1 _) F.entry_object_init (codeAny_call_builtin (by decide +kernel) F.entry_tuple_new (wpAny_of_eq (F.newCall_tuple_1 _) ?_)) fun obj s₁ h₁ => ?_
  · have hT : ∀ tk', ({ s with toks := tk' } : Shared).TypeIs (.ref r) "dict" := fun tk' => K.type _ hok
    obtain ⟨hp, g, dd, tk, os⟩ := s
    have hsub := sub_tuple_self
    have hinit := init_tuple_lookup
    have hmh := madeHere_tuple
    have hT0 : Shared.TypeIs ⟨hp, g, dd, tk, os⟩ (.ref r) "dict" := hT tk
    wp_walk using wpAny_typeOf hT0, collect_src (A := A.in1.in1) K hh hok hn
    intro h' tk' acc kp hacc
    show wpAny _ _ (Builtin.Tuple.tupleExact acc.toList.toArray >>= fun v => ret v) _ _ _
    unfold Builtin.Tuple.tupleExact
    refine wpAny_bind (wpAny_newObj_type ?_ (by show acc.toList.toArray.size ≤ sizeLine; simp; rw [hacc.1]; exact hn))
    have e : acc.toList.toArray = acc := by simp
    rw [e]
    refine wpAny_pure ⟨⟨_, Heap.get?_push_size _ rfl, rfl⟩, hQ h' tk' acc kp hacc⟩
  · exact ⟨h₁.1, F.args_object_init_2 _ _, object_init_meets F.called_tuple.init.lookup F.called_tuple.made (by decide) prog w A.in1 _ s₁ ⟨h₁.1, rfl, h₁.2⟩⟩
end
end L2
end
section
set_option autoImplicit false
namespace L2
open PySem PySem.Spec PyProof.Rows
section
variable {X : Cx}
theorem vals_keys {X : Cx} : ∀ (ks : List (Key × V)) (ws : List (Key × Value)) (us : List Value), KV ks ws → us.length = ws.length → (∀ (j : Nat) (v : Value), us[j]? = some v → ∃ k x, ws[j]? = some (k, x) ∧ (mixKind X.prog X.w).is k v = true) → Vals (ks.map fun kv => kV kv.1) us := by
  intro ks ws us rr
  induction rr generalizing us with
  | nil =>
    intro hl _
    cases us with
    | nil => exact .nil
    | cons _ _ => cases hl
  | @cons p w' ks ws r t ih =>
    intro hl hi
    cases us with
    | nil => cases hl
    | cons u us =>
      obtain ⟨k, x, e1, e2⟩ := hi 0 u rfl
      cases e1
      exact .cons (by show RelV (kV p.1) u; rw [r.1]; exact relV_key e2) (ih us (by simpa using hl) fun j v e => hi (j + 1) v e)
theorem call_tupleD (hc : X.calm = true) : CallR X (.type "tuple") (fun xs H Q => ∃ d kvs, xs = [.ref d] ∧ Rd H d (.dK kvs) ∧ ∀ l, H l = none → Q (.ref l) (upd H l (.tup (kvs.map fun kv => kV kv.1)))) := by
  intro pins s σ H xs us Q I r h
  obtain ⟨d, kvs, rfl, hd, q⟩ := h
  obtain ⟨u, rfl, ru⟩ := vals1 r
  cases ru
  have hh : X.A.handled = none := I.ok.hd hc
  obtain ⟨hz, hs, vs, rv, od, es, ep, ho, r1, r2, r3⟩ := (show ObjOk X.prog X.w H s.heap d (.dK kvs) from hd.ok I.hok)
  have hl : vs.length = kvs.length := (Paired.length rv).symm
  refine call_tuple_src (PySem.W.kdl_dict (knd := mixKind X.prog X.w) (kvs := vs) (ep := ep) hs) hh ⟨_, _, ho, r1, r2, r3⟩ (by omega) fun h' tk acc kp it => ?_
  obtain ⟨i1, i2⟩ := it
  have rk := vals_keys (X := X) kvs vs acc.toList rv (by rw [Array.length_toList]; exact i1) fun j v e => i2 j v (by simpa using e)
  have I1 : Inv X pins σ H { s with heap := h', toks := tk } := I.kept (t' := tk) kp
  have I2 : Inv X pins σ (upd H h'.objs.size (.tup (kvs.map fun kv => kV kv.1))) { s with heap := h'.push { cls := .type "tuple", data := .seq acc }, toks := tk } :=
    I1.laid (t' := tk) (fun b o e => Heap.get?_push_of_some _ e) (Nat.le_refl _) (show ObjOk X.prog X.w _ _ _ (.tup (kvs.map fun kv => kV kv.1)) from ⟨⟨by rw [List.length_map]; exact hz, nod_push _ _⟩, acc.toList, rk, by rw [Array.toArray_toList]; exact IsTup.new _ _⟩)
  exact ⟨.ref h'.objs.size, _, I2, rfl, q _ (I1.hok.fresh (Nat.le_refl _))⟩
end
section
variable {prog : Program} {w : World} {A : Around} {E : Value → Shared → Prop} {s : Shared}
end
end L2
end
section
set_option autoImplicit false
namespace L2
open PySem PySem.Spec PyProof.Rows
section
variable {prog : Program} {w : World} {A : Around} {E : Value → Shared → Prop} {s : Shared}
end
end L2
end
section
set_option autoImplicit false
namespace L2
open PySem PySem.Spec PyProof.Rows
section
variable {X : Cx} {K : PySem.W.Frag}
end
end L2
end
section
set_option autoImplicit false
namespace L2
open PySem PyProof.Rows
def RowsS (H : Hp) (vs : List V) (rows : List (List Str)) : Prop := Paired (fun (v : V) (r : List Str) => SeqAt' H v (r.map V.str)) vs rows
end L2
end
section
set_option autoImplicit false
namespace L2
open PySem PySem.Spec PyProof.Rows
section
variable {X : Cx}
end
end L2
end
section
set_option autoImplicit false
namespace L2
open PySem PySem.Spec PyProof.Rows
def keyD : Key → PyData
  | .inl i => .int i
  | .inr x => .str x
mutual
def noL : PyData → Bool
  | .none | .bool _ | .int _ | .str _ => true
  | .list _ => false
  | .tuple xs => noLA xs
  | .dict kvs => noLK kvs
def noLA : List PyData → Bool
  | [] => true
  | x :: xs => noL x && noLA xs
def noLK : List (PyData × PyData) → Bool
  | [] => true
  | (_, v) :: r => noL v && noLK r
end
theorem noLK_map : ∀ (ks : List PyData) (ds : List PyData), ks.length = ds.length → noLK (ks.zip ds) = noLA ds
  | [], [], _ => by simp [noLK, noLA]
  | k :: ks, d :: ds, h => by
    have ih := noLK_map ks ds (by simpa using h)
    simp [noLK, noLA, ih]
  | [], _ :: _, h => nomatch h
  | _ :: _, [], h => nomatch h
mutual
inductive RdV (H : Hp) : V → PyData → Prop
  | non : RdV H .non .none
  | bl (b : Bool) : RdV H (.bl b) (.bool b)
  | int (i : Int) : RdV H (.int i) (.int i)
  | str (x : Str) : RdV H (.str x) (.str x)
  | tup {a : Addr} {xs : List V} {ds : List PyData} : H a = some (.tup xs) → RdA H xs ds → RdV H (.ref a) (.tuple ds)
  | lst {a : Addr} {xs : List V} {ds : List PyData} : H a = some (.lst xs) → RdA H xs ds → RdV H (.ref a) (.list ds)
  | dct {a : Addr} {kvs : List (Key × V)} {ds : List PyData} : H a = some (.dK kvs) → RdA H (kvs.map (·.2)) ds → RdV H (.ref a) (.dict ((kvs.map fun p => keyD p.1).zip ds))
inductive RdA (H : Hp) : List V → List PyData → Prop
  | nil : RdA H [] []
  | cons {v : V} {d : PyData} {vs : List V} {ds : List PyData} : RdV H v d → RdA H vs ds → RdA H (v :: vs) (d :: ds)
end
theorem RdA.length {H : Hp} : ∀ {vs : List V} {ds : List PyData}, RdA H vs ds → vs.length = ds.length
  | _, _, .nil => rfl
  | _, _, .cons _ r => by simp [RdA.length r]
theorem RdA.strs (H : Hp) : ∀ xs : List Str, RdA H (xs.map V.str) (xs.map PyData.str)
  | [] => .nil
  | x :: xs => .cons (.str x) (RdA.strs H xs)
theorem readsKeys {P : Program} {w : World} {h : Heap} : ∀ {es : List DictEntry} {vs : List (Key × Value)}, Pairs (mixKind P w) es vs → ReadsAll h (es.map (·.key)) (vs.map fun p => keyD p.1) []
  | _, _, .nil => .nil
  | _, _, .cons (e := e) (kv := kv) hk _ r => by
    have r' := readsKeys (h := h) r
    rcases keyIs_shape (show keyIs kv.1 e.key = true from hk) with ⟨i, t, e1, e2⟩ | ⟨x, t, e1, e2⟩
    · have c : Reads h e.key (keyD kv.1) [] := by rw [e1, e2]; exact .int i t
      exact .cons c r'
    · have c : Reads h e.key (keyD kv.1) [] := by rw [e1, e2]; exact .str x t
      exact .cons c r'
theorem pairs_vals {P : Program} {w : World} : ∀ {es : List DictEntry} {vs : List (Key × Value)}, Pairs (mixKind P w) es vs → es.map (·.val) = vs.map (·.2)
  | _, _, .nil => rfl
  | _, _, .cons _ e r => by rw [List.map_cons, List.map_cons, e, pairs_vals r]
theorem kv_vals : ∀ {kvs : List (Key × V)} {vs : List (Key × Value)}, KV kvs vs → Vals (kvs.map (·.2)) (vs.map (·.2)) ∧ kvs.map (fun p => keyD p.1) = vs.map fun p => keyD p.1
  | _, _, .nil => ⟨.nil, rfl⟩
  | _, _, .cons ⟨e, r⟩ q => ⟨.cons r (kv_vals q).1, by rw [List.map_cons, List.map_cons, e, (kv_vals q).2]⟩
theorem zip_fst {α β : Type} : ∀ {l : List α} {m : List β}, l.length = m.length → (l.zip m).map (·.1) = l ∧ (l.zip m).map (·.2) = m
  | [], [], _ => ⟨rfl, rfl⟩
  | a :: l, b :: m, h => by
    have := zip_fst (l := l) (m := m) (by simpa using h)
    exact ⟨by rw [List.zip_cons_cons, List.map_cons, this.1], by rw [List.zip_cons_cons, List.map_cons, this.2]⟩
  | [], _ :: _, h => nomatch h
  | _ :: _, [], h => nomatch h
section
variable {X : Cx} {pins : List (Addr × Obj)} {σ : St} {H : Hp} {s : Shared}
mutual
theorem RdV.reads (I : Inv X pins σ H s) : ∀ {v : V} {d : PyData}, RdV H v d → ∀ {u : Value}, RelV v u → ∃ as, Reads s.heap u d as ∧ (noL d = true → sysModules ∉ as)
  | _, _, .non, u, r => by
    cases u <;> first | exact ⟨[], .none, fun _ => List.not_mem_nil⟩ | cases r
  | _, _, .bl b, u, r => by
    obtain rfl : u = .bool b := r
    exact ⟨[], .bool b, fun _ => List.not_mem_nil⟩
  | _, _, .int i, u, r => by
    obtain ⟨t, rfl⟩ := r
    exact ⟨[], .int i t, fun _ => List.not_mem_nil⟩
  | _, _, .str x, u, r => by
    obtain ⟨t, rfl⟩ := r
    exact ⟨[], .str x t, fun _ => List.not_mem_nil⟩
  | _, _, .tup (a := a) h q, u, r => by
    obtain rfl : u = .ref a := r
    obtain ⟨its, rv, p, _⟩ := I.tuple (SqT.of h)
    obtain ⟨as, ra, hn⟩ := RdA.reads I q rv
    obtain ⟨o, ho, hc, n, hd⟩ := p
    exact ⟨as, .tuple ho hc hd ra, fun e => hn (by simpa [noL] using e)⟩
  | _, _, .lst (a := a) h q, u, r => by
    obtain rfl : u = .ref a := r
    obtain ⟨its, rv, p, _⟩ := I.list (SqL.of h)
    obtain ⟨as, ra, hn⟩ := RdA.reads I q rv
    obtain ⟨o, ho, hc, n, hd⟩ := p.isList
    exact ⟨_, .list ho hc hd ra, fun e => absurd e (by simp [noL])⟩
  | _, _, .dct (a := a) (kvs := kvs) (ds := ds) h q, u, r => by
    obtain rfl : u = .ref a := r
    obtain ⟨_, hs, vs, kv, o, es, ep, ho, hx, hd, ko, pr, nd⟩ := I.hok _ _ h
    obtain ⟨kv1, kv2⟩ := kv_vals kv
    obtain ⟨bs, rb, hn⟩ := RdA.reads I q kv1
    have hl : (kvs.map fun p => keyD p.1).length = ds.length := by rw [List.length_map, ← q.length, List.length_map]
    refine ⟨_, .dict (as := []) (bs := bs) ho hx.1 hd ?_ ?_, fun e => ?_⟩
    · rw [(zip_fst hl).1, kv2]
      exact readsKeys pr
    · rw [(zip_fst hl).2, pairs_vals pr]
      exact rb
    · have e2 : noLA ds = true := by rw [← noLK_map _ _ hl]; simpa [noL] using e
      intro hm
      rcases List.mem_cons.mp (by simpa using hm) with e3 | e3
      · rw [← e3] at hs
        simp at hs
      · exact hn e2 e3
theorem RdA.reads (I : Inv X pins σ H s) : ∀ {vs : List V} {ds : List PyData}, RdA H vs ds → ∀ {us : List Value}, Vals vs us → ∃ as, ReadsAll s.heap us ds as ∧ (noLA ds = true → sysModules ∉ as)
  | _, _, .nil, _, .nil => ⟨[], .nil, fun _ => List.not_mem_nil⟩
  | _, _, .cons q r, _, .cons a b => by
    obtain ⟨as, h1, n1⟩ := RdV.reads I q a
    obtain ⟨bs, h2, n2⟩ := RdA.reads I r b
    refine ⟨as ++ bs, .cons h1 h2, fun e => ?_⟩
    rw [noLA, Bool.and_eq_true] at e
    intro hm
    rcases List.mem_append.mp hm with hm | hm
    · exact n1 e.1 hm
    · exact n2 e.2 hm
end
def rRepr : List V → Hp → VK → Prop := fun xs H Q => ∃ v d, xs = [v] ∧ RdV H v d ∧ d.showable = true ∧ (d.hasDict = true → noL d = true) ∧ d.depth ≤ 60 ∧ d.shown.length ≤ sizeLine ∧ Q (.str d.shown) H
theorem call_repr {k : Nat} (hr : Room k X.A) : CallR X (.builtin "repr") rRepr := by
  intro pins s σ H xs us Q I r h
  obtain ⟨v, d, rfl, hv, sh, hd, dp, hz, q⟩ := h
  obtain ⟨u, rfl, ru⟩ := vals1 r
  obtain ⟨as, ra, hn⟩ := hv.reads I ru
  have un := hr.units
  cases hv with
  | non =>
    cases u <;> first | exact PySem.P.repr_of_none ⟨.str _, H, I.tok _, ⟨_, rfl⟩, q⟩ | cases ru
  | bl b =>
    obtain rfl : u = .bool b := ru
    exact PySem.P.repr_of_bool ⟨.str _, H, I.tok _, ⟨_, rfl⟩, by cases b <;> exact q⟩
  | int i =>
    obtain ⟨t, rfl⟩ := ru
    exact PySem.P.repr_of_int (by simpa [PyData.showable] using sh) ⟨.str _, H, I.tok _, ⟨_, rfl⟩, q⟩
  | str x =>
    obtain ⟨t, rfl⟩ := ru
    exact PySem.P.repr_of_str ⟨.str _, H, I.tok _, ⟨_, rfl⟩, q⟩ hz
  | @tup a _ _ _ _ =>
    obtain rfl : u = .ref a := ru
    exact repr_of_reads' ra sh (fun e => hn (hd e)) hr.gd (by omega) (fun _ _ e => e) (fun h' u tk hk => ⟨.str _, H, I.kept hk, ⟨_, rfl⟩, q⟩) hz
  | @lst a _ _ _ _ =>
    obtain rfl : u = .ref a := ru
    exact repr_of_reads' ra sh (fun e => hn (hd e)) hr.gd (by omega) (fun _ _ e => e) (fun h' u tk hk => ⟨.str _, H, I.kept hk, ⟨_, rfl⟩, q⟩) hz
  | @dct a _ _ _ _ =>
    obtain rfl : u = .ref a := ru
    exact repr_of_reads' ra sh (fun e => hn (hd e)) hr.gd (by omega) (fun _ _ e => e) (fun h' u tk hk => ⟨.str _, H, I.kept hk, ⟨_, rfl⟩, q⟩) hz
end
end L2
end
section
set_option autoImplicit false
namespace L2
open PySem PySem.Spec PyProof.Rows
def Lw (x : Str) : Prop := ∀ c ∈ x.cps.toList, c ∈ abc.cps.toList
theorem Lw.empty : Lw Str.empty := fun c hc => nomatch hc
theorem Lw.nil : Lw "" := by
  unfold Lw
  decide +kernel
theorem Lw.app {x y : Str} (h : Lw x) (g : Lw y) : Lw (x ++ y) := fun c hc => by
  have hc : c ∈ (x.cps ++ y.cps).toList := hc
  rw [Array.toList_append] at hc
  rcases List.mem_append.mp hc with q | q
  · exact h c q
  · exact g c q
theorem Lw.one {c : Nat} (h : c ∈ abc.cps.toList) : Lw ⟨#[c]⟩ := fun d hd => by
  rw [List.mem_singleton.mp (show d ∈ [c] from hd)]
  exact h
theorem Lw.letter {x : Str} (h : x ∈ letters) : Lw x := by
  obtain ⟨c, hc, rfl⟩ := List.mem_map.mp h
  exact Lw.one hc
theorem Lw.slice {x : Str} (h : Lw x) (lo hi : Option Int) : Lw (Txt.slice x lo hi) := by
  unfold Txt.slice
  split
  · exact h
  · intro c hc
    obtain ⟨i, _, e⟩ := List.mem_filterMap.mp (show c ∈ (List.filterMap (x.cps[·]?) _) from hc)
    exact h c (Array.mem_toList_iff.mpr (Array.mem_of_getElem? e))
theorem mem_rep {c : Nat} {xs : Array Nat} : ∀ {k : Nat} {acc : Array Nat}, c ∈ (List.foldl (fun x1 x2 => x1 ++ x2) acc (List.replicate k xs)).toList → c ∈ acc.toList ∨ c ∈ xs.toList
  | 0, _, h => .inl h
  | k + 1, acc, h => by
    rcases mem_rep (k := k) (acc := acc ++ xs) h with q | q
    · rw [Array.toList_append] at q
      exact List.mem_append.mp q
    · exact .inr q
theorem Lw.rep {x : Str} (h : Lw x) (n : Int) : Lw (strRep x n) := by
  unfold strRep
  split
  · exact Lw.empty
  · split
    · exact h
    · intro c hc
      rcases mem_rep hc with q | q
      · exact nomatch q
      · exact h c q
theorem abc_lt : ∀ c ∈ abc.cps.toList, 97 ≤ c ∧ c ≤ 122 := by decide +kernel
theorem mem_of_atI {xs : List Nat} {i : Int} {c : Nat} (h : atI xs i = some c) : c ∈ xs := by
  unfold atI at h
  obtain ⟨j, _, e⟩ := Option.bind_eq_some_iff.mp h
  exact List.mem_of_getElem? e
end L2
end
section
set_option autoImplicit false
namespace L2
open PySem PySem.Spec PyProof.Rows
def RowsI (H : Hp) (us : List V) (tbl : List (List Int)) : Prop := Paired (fun (v : V) (js : List Int) => ∃ a, v = .ref a ∧ H a = some (.tup (js.map V.int))) us tbl
end L2
end
section
set_option autoImplicit false
namespace L2
open PySem PySem.Spec PyProof.Rows
section
variable {prog : Program} {w : World} {A : Around} {E : Value → Shared → Prop} {s : Shared}
end
section
variable {X : Cx}
end
end L2
end
section
set_option autoImplicit false
namespace L2
open PySem PySem.Spec PyProof.Rows
section
variable {X : Cx}
end
end L2
end
section
set_option autoImplicit false
namespace L2
open PySem PySem.Spec PyProof.Rows
end L2
end
section
set_option autoImplicit false
namespace HT
open PySem PySem.Spec PyProof.Rows
section
variable {prog : Program} {w : World} {A : Around} {E : Value → Shared → Prop} {s : Shared}
theorem getItem_tuple_whole {t sl : Addr} {items : Array Value} {vl vu : Value} {lo hi : Option Int} {Q : Value → Shared → Prop} (ht : IsTup s.heap t items) (hs : s.heap.IsSliceOf sl vl vu .none) (pl : IsPart vl lo) (pu : IsPart vu hi)
    (hw : sIx items.size 0 lo = 0 ∧ sIx items.size items.size hi = items.size) (h : Q (.ref t) s) : wpAny (model prog w) A (getItem (.ref t) (.ref sl)) Q E s := by
  obtain ⟨os, hos, hcs, hds⟩ := id hs
  have hTs : s.TypeIs (.ref sl) "slice" := ⟨os, hos, hcs⟩
  unfold getItem
  try with_reducible refine wpAny_holding ?_
  first | refine wpAny_bind (wpAny_pure ?_) | skip
  refine wpAny_bind (wpAny_sequenceKey ht.typeIs (by decide) ?_)
  refine wpAny_bind (wpAny_callSpecial?_slot (name := Str.ofString "__getitem__") ht.typeIs PyProof.Rows.slot_tuple_getitem
    (wpAny_call_entry PyProof.Rows.slot_tuple_getitem ht.typeIs entry_tuple_getitem ?_ (args_tuple_getitem _ _)))
  show wpAny _ _ (Builtin.Tuple.tupleItemsOf (.ref t) >>= _) _ _ s
  refine wpAny_bind (tupleItemsOf_ ht ?_)
  refine wpAny_bind (wpAny_typeOf hTs ?_)
  rw [if_pos (by decide)]
  refine wpAny_bind (sliceApplied_gen hs pl pu ?_)
  have hyes : (((sIx items.size 0 lo : Nat) : Int) == 0 && (1 : Int) == 1 && (sIx items.size items.size hi - sIx items.size 0 lo) == items.size) = true := by
    rw [hw.1, hw.2]
    simp
  show wpAny _ _ (if (((sIx items.size 0 lo : Nat) : Int) == 0 && (1 : Int) == 1 && (sIx items.size items.size hi - sIx items.size 0 lo) == items.size) = true then _ else _) _ _ s
  rw [if_pos hyes]
  unfold Builtin.Tuple.tupleIsExact
  refine wpAny_bind (wpAny_bind (wpAny_typeOf ht.typeIs (wpAny_pure ?_)))
  rw [if_pos (by decide)]
  refine wpAny_bind (wpAny_rule ?_)
  exact wpAny_pure ⟨_, rfl, wpAny_pure h⟩
end
end HT
namespace L2
open PySem PySem.Spec PyProof.Rows
section
variable {X : Cx}
def rSlW (K : PySem.W.Frag) : V → Option Int → Option Int → Hp → VK → Prop := fun x lo hi H Q => ∃ a xs, x = .ref a ∧ H a = some (.tup xs) ∧
  ∀ p H', H' p = some (.tup (cutV xs lo hi)) → Same H H' → Q (.ref p) H'
theorem sl_tupW : SlR X (rSlW X.K) := by
  intro pins s σ H x v vl vu lo hi sl Q I rx hs pl pu h
  obtain ⟨a, xs, rfl, hx, q⟩ := h
  by_cases hw : HT.sIx xs.length 0 lo = 0 ∧ HT.sIx xs.length xs.length hi = xs.length
  · cases rx
    obtain ⟨its, r, ht, hz⟩ := I.tuple (SqT.of (K := X.K) hx)
    have hlen : its.toArray.size = xs.length := by rw [List.size_toArray]; exact r.length.symm
    refine ⟨"tuple", _, PyProof.Rows.slot_tuple_getitem.lookup, ht.typeIs, ?_⟩
    refine HT.getItem_tuple_whole ht hs pl pu (by rw [hlen]; exact hw) ?_
    have e : cutV xs lo hi = xs := by
      unfold cutV
      rw [hw.1, hw.2]
      simp
    exact ⟨.ref a, H, I, rfl, q a H (by rw [e]; exact hx) (Same.refl H)⟩
  · exact sl_tup pins s σ H (.ref a) v vl vu lo hi sl Q I rx hs pl pu ⟨a, xs, rfl, SqT.of hx, hw, fun p hp => q p _ upd_same (Same.new hp)⟩
def rCatW : R2 := fun x y H Q => ∃ a b xs ys, x = .ref a ∧ y = .ref b ∧ H a = some (.tup xs) ∧ H b = some (.tup ys) ∧ xs ≠ [] ∧ xs.length + ys.length ≤ sizeLine ∧ ∀ p H', H' p = some (.tup (xs ++ ys)) → Same H H' → Q (.ref p) H'
theorem op_catW : OpR X (binaryOp .Add) rCatW := by
  intro pins s σ H x y v u Q I rx ry h
  obtain ⟨a, b, xs, ys, rfl, rfl, ha, hb, hne, hz, q⟩ := h
  exact op_catT pins s σ H (.ref a) (.ref b) v u Q I rx ry ⟨a, b, xs, ys, rfl, rfl, SqT.of ha, SqT.of hb, hne, hz, fun e => q a H (by rw [e, List.append_nil]; exact ha) (Same.refl H), fun _ p hp => q p _ upd_same (Same.new hp)⟩
end
end L2
end
section
set_option autoImplicit false
namespace L2
open PySem PySem.Spec PyProof.Rows
section
variable {prog : Program} {w : World} {A : Around} {E : Value → Shared → Prop} {s : Shared}
end
section
variable {X : Cx}
end
end L2
end
section
set_option autoImplicit false
namespace L2
open PySem PySem.Spec PyProof.Rows
section
variable {X : Cx}
def rCatN : R2 := fun x y H Q => ∃ a b xs ys, x = .ref a ∧ y = .ref b ∧ H a = some (.tup xs) ∧ H b = some (.tup ys) ∧ xs.length + ys.length ≤ sizeLine ∧ ∀ p H', H' p = some (.tup (xs ++ ys)) → Same H H' → Q (.ref p) H'
theorem op_catN : OpR X (binaryOp .Add) rCatN := by
  intro pins s σ H x y v u Q I rx ry h
  obtain ⟨a, b, xs, ys, rfl, rfl, ha, hb, hz, q⟩ := h
  cases xs with
  | nil => exact op_catT0 pins s σ H (.ref a) (.ref b) v u Q I rx ry ⟨a, b, ys, rfl, rfl, ha, hb, q b H hb (Same.refl H)⟩
  | cons x0 xr => exact op_catW pins s σ H (.ref a) (.ref b) v u Q I rx ry ⟨a, b, x0 :: xr, ys, rfl, rfl, ha, hb, List.cons_ne_nil _ _, hz, q⟩
end
end L2
end
section
set_option autoImplicit false
namespace L2
open PySem PySem.Spec PyProof.Rows
section
variable {X : Cx}
def rEqT : R2 := fun x y H Q => ∃ (a b : Addr) (xs ys : List V) (ts us : List T), x = .ref a ∧ y = .ref b ∧ H a = some (.tup xs) ∧ H b = some (.tup ys) ∧ DpL H ts xs ∧ DpL H us ys ∧ (∀ t ∈ ts, Lv 5 t) ∧ Q (.bl (dcd (ts = us))) H
theorem op_eqT (hu : X.A.units + 10 < cLine) : OpR X (compareOp .Eq) rEqT := by
  intro pins s σ H x y v u Q I rx ry h
  obtain ⟨a, b, xs, ys, ts, us, rfl, rfl, ha, hb, d1, d2, lv, q⟩ := h
  cases rx
  cases ry
  obtain ⟨its, r, p⟩ := tup_at I ha
  obtain ⟨its2, r2, p2⟩ := tup_at I hb
  have l1 := r.length
  have l2 := r2.length
  have n1 := d1.length
  have n2 := d2.length
  have key := SeqAt.RcAt.tuples (A := X.A) (s := s) (e := fun j => dcd (ts[j]? = us[j]?)) p p2 (by omega) (fun j h1 h2 => by
    have h1' : j < its.length := by simpa using h1
    have h2' : j < its2.length := by simpa using h2
    have j1 : j < ts.length := by omega
    have j2 : j < us.length := by omega
    obtain ⟨v1, e1, dv1⟩ := d1.get (List.getElem?_eq_getElem j1)
    obtain ⟨v2, e2, dv2⟩ := d2.get (List.getElem?_eq_getElem j2)
    obtain ⟨w1, k1, m1⟩ := r.get e1
    obtain ⟨w2, k2, m2⟩ := r2.get e2
    have e3 : its.toArray[j] = w1 := by
      have : its.toArray[j]? = some w1 := by simpa using k1
      rw [Array.getElem?_eq_getElem h1] at this
      exact Option.some.inj this
    have e4 : its2.toArray[j] = w2 := by
      have : its2.toArray[j]? = some w2 := by simpa using k2
      rw [Array.getElem?_eq_getElem h2] at this
      exact Option.some.inj this
    rw [e3, e4]
    have := eqAt_T I 5 X.A.in1 ts[j] us[j] v1 v2 w1 w2 (lv _ (List.getElem_mem j1)) (by show X.A.units + 1 + 5 < cLine; omega) dv1 dv2 m1 m2
    rw [List.getElem?_eq_getElem j1, List.getElem?_eq_getElem j2]
    have e5 : dcd (some ts[j] = some us[j]) = dcd (ts[j] = us[j]) := dcd_eq ⟨fun h => Option.some.inj h, fun h => by rw [h]⟩
    rw [e5]
    exact this)
  have ee : ((List.range (min its.toArray.size its2.toArray.size)).all (fun j => dcd (ts[j]? = us[j]?)) && its.toArray.size == its2.toArray.size) = dcd (ts = us) := by
    apply dcd_of
    rw [Bool.and_eq_true, List.all_eq_true, beq_iff_eq]
    constructor
    · rintro ⟨h1, h2⟩
      have h2 : its.length = its2.length := by simpa using h2
      apply List.ext_getElem?
      intro j
      by_cases hj : j < ts.length
      · exact dcd_iff.mp (h1 j (List.mem_range.mpr (by simp; omega)))
      · rw [List.getElem?_eq_none (by omega), List.getElem?_eq_none (by omega)]
    · intro h
      refine ⟨fun j _ => dcd_t (by rw [h]), ?_⟩
      have : its.length = its2.length := by rw [← l1, ← l2, n1, n2, h]
      simpa using this
  rw [ee] at key
  exact key X.prog X.w X.xe _ ⟨.bl _, H, I, rfl, q⟩
end
end L2
end
section
set_option autoImplicit false
namespace L2
open PySem PySem.Spec PyProof.Rows
structure Shw (d : PyData) (n k : Nat) : Prop where
  sh : d.showable = true
  sz : d.shown.length ≤ n
  dp : d.depth ≤ k
def Cps (x : Str) : Prop := ∀ c ∈ x.cps.toList, c < 16 ^ 8
theorem Shw.non : Shw .none 4 0 := ⟨by simp only [PyData.showable], by simp only [PyData.shown]; decide +kernel, by simp only [PyData.depth]; exact Nat.le_refl _⟩
theorem Shw.bl (b : Bool) : Shw (.bool b) 5 0 := ⟨by simp only [PyData.showable], by simp only [PyData.shown]; cases b <;> decide +kernel, by simp only [PyData.depth]; exact Nat.le_refl _⟩
theorem Shw.nat {i : Int} (h0 : 0 ≤ i) (h : i < 1000000000) : Shw (.int i) 9 0 := by
  refine ⟨?_, ?_, by simp only [PyData.depth]; exact Nat.le_refl _⟩
  · simp only [PyData.showable]
    refine decide_eq_true ?_
    by_cases e : i.natAbs = 0
    · rw [e]; decide
    · exact (Nat.log2_lt e).mpr (Nat.lt_trans (show i.natAbs < 2 ^ 30 by have : (2 : Nat) ^ 30 = 1073741824 := by decide
                                                                         omega) (Nat.pow_lt_pow_right (by decide) (by decide)))
  · simp only [PyData.shown]
    exact toString_length_le h0 (by decide) h
theorem Shw.neg1 : Shw (.int (-1)) 2 0 := ⟨by simp only [PyData.showable]; decide +kernel, by simp only [PyData.shown]; decide +kernel, by simp only [PyData.depth]; exact Nat.le_refl _⟩
theorem textFrom_le : ∀ (ts : List Str) (k : Nat) (acc : Str), (textFrom k acc ts).length ≤ acc.length + piled ts
  | [], k, acc => Nat.le_refl _
  | t :: r, k, acc => by
    have ih := textFrom_le r (k + 1) (acc ++ (if k > 0 then ", " else "" : String) ++ t)
    have e : (acc ++ (if k > 0 then ", " else "" : String) ++ t).length = acc.length + (if k > 0 then 2 else 0) + t.length := by
      rw [strLen_append, strLen_append]
      split <;> rfl
    rw [e] at ih
    rw [piled_cons]
    show (textFrom (k + 1) _ r).length ≤ _
    have : (if k > 0 then 2 else 0 : Nat) ≤ 2 := by split <;> omega
    omega
theorem join_le (ts : List Str) : (Str.join ", " ts).length ≤ piled ts := by
  cases ts with
  | nil => exact Nat.zero_le _
  | cons t r =>
    have := join_length_add (t :: r) (by simp)
    omega
mutual
def toD : T → PyData
  | .non => .none
  | .int i => .int i
  | .str x => .str x
  | .tup ts => .tuple (toDA ts)
def toDA : List T → List PyData
  | [] => []
  | t :: ts => toD t :: toDA ts
end
theorem toDA_map : ∀ ts : List T, toDA ts = ts.map toD
  | [] => by rw [toDA, List.map_nil]
  | t :: ts => by rw [toDA, List.map_cons, toDA_map ts]
mutual
theorem Dp.rd {H : Hp} : ∀ {t : T} {v : V}, Dp H t v → RdV H v (toD t)
  | .non, _, e => by rw [Dp] at e; rw [toD, e]; exact .non
  | .int i, _, e => by rw [Dp] at e; rw [toD, e]; exact .int i
  | .str x, _, e => by rw [Dp] at e; rw [toD, e]; exact .str x
  | .tup ts, v, e => by
    rw [Dp] at e
    obtain ⟨a, xs, rfl, ha, hl⟩ := e
    rw [toD]
    exact .tup ha (DpL.rd hl)
theorem DpL.rd {H : Hp} : ∀ {ts : List T} {xs : List V}, DpL H ts xs → RdA H xs (toDA ts)
  | [], _, e => by rw [DpL] at e; rw [toDA, e]; exact .nil
  | t :: ts, xs, e => by
    rw [DpL] at e
    obtain ⟨x, r, rfl, h1, h2⟩ := e
    rw [toDA]
    exact .cons (Dp.rd h1) (DpL.rd h2)
end
mutual
theorem noL_toD : ∀ t : T, noL (toD t) = true
  | .non => by rw [toD, noL]
  | .int i => by rw [toD, noL]
  | .str x => by rw [toD, noL]
  | .tup ts => by rw [toD, noL]; exact noLA_toD ts
theorem noLA_toD : ∀ ts : List T, noLA (toDA ts) = true
  | [] => by rw [toDA, noLA]
  | t :: ts => by rw [toDA, noLA, noL_toD t, noLA_toD ts]; rfl
end
mutual
theorem hasDict_toD : ∀ t : T, (toD t).hasDict = false
  | .non => by rw [toD, PyData.hasDict]
  | .int i => by rw [toD, PyData.hasDict]
  | .str x => by rw [toD, PyData.hasDict]
  | .tup ts => by rw [toD, PyData.hasDict]; exact hasDictA_toD ts
theorem hasDictA_toD : ∀ ts : List T, PyData.hasDictAll (toDA ts) = false
  | [] => by rw [toDA, PyData.hasDictAll]
  | t :: ts => by rw [toDA, PyData.hasDictAll, hasDict_toD t, hasDictA_toD ts]; rfl
end
end L2
end
section
set_option autoImplicit false
namespace L2
open PySem PySem.Spec PyProof.Rows
section
variable {X : Cx} {K : PySem.W.Frag}
end
end L2
end
section
set_option autoImplicit false
namespace L2
open PySem PyProof.Rows
section
variable {prog : Program} {w : World} {A : Around} {R : Result → Shared → Prop} {I : Addr} {fp wr : List Addr} {G : Array GenState → Array GenState → Prop} {n : Nat} {P : Nat → Value → Prop} {St : Nat → Shared → Prop}
theorem setOf_at {knd : KeyKind prog w Str} {h h' : Heap} {a : Addr} {S : Str → Bool} {n : Nat} (x : h.SetOf knd a S n) (k : ∀ o, h.get? a = some o → h'.get? a = some o) : h'.SetOf knd a S n := by
  obtain ⟨o, es, ep, t, ho, rest⟩ := x
  exact ⟨o, es, ep, t, k _ ho, rest⟩
end
section
variable {X : Cx}
def SetS (P : Program) (w : World) (a : Addr) (n : Nat) : HO := .ext fun h => ∃ S : Str → Bool, h.SetOf (strKind P w) a S n
theorem call_len_setS : CallR X (.builtin "len") (fun xs H Q => ∃ a n, xs = [.ref a] ∧ H a = some (SetS X.prog X.w a n) ∧ Q (.int n) H) := by
  intro pins s σ H xs us Q I r h
  obtain ⟨a, n, rfl, ha, q⟩ := h
  obtain ⟨u, rfl, ru⟩ := vals1 r
  cases ru
  obtain ⟨⟨S, o, es, ep, t, ho, hex, hd, _, _, hb, hf, rfl⟩, _⟩ := I.hok a _ ha
  refine call_len_set ho hex hd hf (by unfold scanBound at hb; omega) ⟨.int es.size, H, I.tok _, ⟨_, rfl⟩, q⟩
end
end L2
end
section
set_option autoImplicit false
namespace L2
open PySem PyProof.Rows
def un (ns : List Str) : Nat → Nat
  | 0 => 0
  | i + 1 => if decide (ns.getD i "" ∈ ns.take i) = true then un ns i else un ns i + 1
theorem un_le (ns : List Str) : ∀ i, un ns i ≤ i
  | 0 => Nat.le_refl _
  | i + 1 => by
    have := un_le ns i
    rw [un]
    split <;> omega
theorem un_nd (ns : List Str) : ∀ i, i ≤ ns.length → (un ns i = i ↔ (ns.take i).Nodup)
  | 0, _ => by simp [un]
  | i + 1, h => by
    have ih := un_nd ns i (by omega)
    have hl := un_le ns i
    have hil : i < ns.length := h
    have ex : ns.getD i "" = ns[i] := by simp [hil]
    have et : ns.take (i + 1) = ns.take i ++ [ns[i]] := by rw [List.take_succ, List.getElem?_eq_getElem hil]; rfl
    rw [un, ex, et, List.nodup_append]
    by_cases hm : ns[i] ∈ ns.take i
    · rw [if_pos (decide_eq_true hm)]
      refine ⟨fun e => by omega, fun q => absurd rfl (q.2.2 _ hm _ List.mem_cons_self)⟩
    · rw [if_neg (by rw [decide_eq_false hm]; exact Bool.false_ne_true)]
      refine ⟨fun e => ⟨ih.mp (by omega), by simp, fun a ha b hb e' => ?_⟩, fun q => by rw [ih.mpr q.1]⟩
      rw [List.mem_singleton.mp hb] at e'
      exact hm (e' ▸ ha)
theorem un_all (ns : List Str) : un ns ns.length = ns.length ↔ ns.Nodup := by
  rw [un_nd ns ns.length (Nat.le_refl _), List.take_of_length_le (Nat.le_refl _)]
section
variable {prog : Program} {w : World} {A : Around} {R : Result → Shared → Prop} {I : Addr} {fp wr : List Addr} {G : Array GenState → Array GenState → Prop} {n : Nat} {P : Nat → Value → Prop} {St : Nat → Shared → Prop}
theorem sul_runU (W : WalksS prog w A.in1 I fp wr G n P St) (S : Addr) (hSf : S ∉ fp) (ns : List Str) (hn : ns.length = n)
    (hval : ∀ i v, P i v → ∃ t, v = .str (ns.getD i "") t) (hb : n + 1 < scanBound) :
    ∀ (k i : Nat) (s : Shared), n - i = k → i ≤ n → St i s → s.heap.SetOf (strKind prog w) S (fun k' => decide (k' ∈ ns.take i)) (un ns i) →
      (∀ s', Moved (S :: wr) G s s' → s'.heap.SetOf (strKind prog w) S (fun k' => decide (k' ∈ ns.take n)) (un ns n) → R (.ok (.ret .none)) s') →
      codeAny (model prog w) A (.builtin "set.update.loop" ⟨[.ref S, .ref I], []⟩) R s := by
  have hSw : S ∉ wr := fun h => hSf (W.sub _ h)
  have hsub : ∀ b ∈ wr, b ∈ S :: wr := fun b hb => List.mem_cons_of_mem _ hb
  intro k
  induction k with
  | zero =>
    intro i s hk hi hst hS hR
    have hin : i = n := by omega
    subst hin
    refine codeAny_builtin F.entry_set_update_loop ?_
    rw [Around.under_plainId F.plain_set_update_loop _]
    show wpAny _ A.in1 (pyNext (.ref I) >>= _) _ _ s
    refine wpAny_bind (W.done s _ _ hst fun s' hm => ?_)
    show wpAny _ A.in1 (ret Value.none) _ _ s'
    exact wpAny_pure (hR s' (hm.mono hsub) (setOf_at hS fun o e => hm.heap S _ hSw e))
  | succ k ih =>
    intro i s hk hi hst hS hR
    have hlt : i < n := by omega
    refine codeAny_builtin F.entry_set_update_loop ?_
    rw [Around.under_plainId F.plain_set_update_loop _]
    show wpAny _ A.in1 (pyNext (.ref I) >>= _) _ _ s
    refine wpAny_bind (W.item i s _ _ hlt hst fun v s' hP hst' hm => ?_)
    obtain ⟨t, rfl⟩ := hval i v hP
    have hS' := setOf_at hS fun o e => hm.heap S o hSw e
    have hil : i < ns.length := by omega
    have ex : ns.getD i "" = ns[i] := by simp [hil]
    rw [ex]
    show wpAny _ A.in1 (holding [Value.str ns[i] t] (setAdd S (.str ns[i] t)) >>= _) _ _ s'
    refine wpAny_bind (wpAny_holding ?_)
    unfold setAdd
    refine wpAny_holding ?_
    refine wpAny_bind ((strKind prog w).pyHash (k := ns[i]) (strKind_is _ _ _ _) ?_)
    refine wpAny_setAddHashed_of (knd := strKind prog w) (s := { s' with toks := s'.toks + 1 }) (strKind_is _ _ _ _) rfl hS' (by have := un_le ns i; omega) fun h' hsb hS2 => ?_
    have hSi : h'.SetOf (strKind prog w) S (fun k' => decide (k' ∈ ns.take (i + 1))) (un ns (i + 1)) :=
      SetOf_congr hS2 (fun k' => by
        rw [List.take_succ, List.getElem?_eq_getElem hil]
        show (decide (k' ∈ ns.take i) || decide (k' = ns[i])) = decide (k' ∈ ns.take i ++ [ns[i]])
        rw [Bool.eq_iff_iff, Bool.or_eq_true, decide_eq_true_eq, decide_eq_true_eq, decide_eq_true_eq, List.mem_append, List.mem_singleton]) (by rw [un, ex])
    refine wpAny_pure ⟨plainId_quiet F.plain_set_update_loop _, ih (i + 1) _ (by omega) hlt (W.frame _ s' _ _ hst' (Nat.le_succ _) fun b hb o e => ?_) hSi fun s'' hm'' hS'' => ?_⟩
    · rw [hsb.2 b (fun h : b = S => hSf (by rw [← h]; exact hb))]; exact e
    · refine hR s'' (Moved.trans W.gtrans ((hm.mono hsub).then_heap (Nat.le_succ _) fun b o hb e => ?_) hm'') hS''
      rw [hsb.2 b (fun h : b = S => hb (by rw [h]; exact List.mem_cons_self))]; exact e
end
theorem set_strsU {prog : Program} {w : World} {A : Around} {E : Value → Shared → Prop} {s : Shared} {l : Addr} {its : List Value} {ns : List Str} {Q : Value → Shared → Prop} (hh : A.handled = none) (hl : s.heap.IsList l its.toArray)
    (hi : ∀ (i : Nat) v, its[i]? = some v → ∃ t, v = .str (ns.getD i "") t) (hn : ns.length = its.length) (hb : ns.length + 1 < scanBound)
    (h : ∀ (h' : Heap) (tk : Nat) (S : Str → Bool), h'.SetOf (strKind prog w) s.heap.objs.size S (un ns ns.length) → (∀ b o, b < s.heap.objs.size → s.heap.get? b = some o → h'.get? b = some o) → Q (.ref s.heap.objs.size) { s with heap := h', toks := tk }) :
    wpAny (model prog w) A (call (.type "set") [.ref l]) Q E s := by
  obtain ⟨c, tl, hmro⟩ := F.called_set.mro
  have hmade := F.called_set.made
  have hsub := F.called_set.sub
  refine wpAny_call (codeAny_of_tree ?_)
  show wpAny _ _ (callAny (.type "set") _) _ _ _
  refine wpAny_pure ⟨Code.quiet_builtin _ (by decide +kernel), codeAny_builtin F.entry_type_call ?_⟩
  rw [Around.under_plain (weight_type_call_type "set" [.ref l] []) rfl]
  have h1 := F.called_set.notType
  have h2 := F.called_set.canCreate
  have hct := F.typeCall_set_1 (.ref l)
  repeat (any_goals (first | assumption | wp_step))
  refine codeAny_mono (code_set_new_1 (.ref l) (E := E) (Q₁ := fun obj s₁ => ∃ led : Bool, obj = .ref s.heap.objs.size ∧ s₁ = { s with heap := s.heap.push { cls := .type "set", dict := none, data := .set #[] 0 (.fresh 0 0 led) } }) fun led => ⟨led, rfl, rfl⟩) fun r s₁ hr => ?_
  cases r with
  | error e => exact hr
  | ok fl =>
    cases fl with
    | ret obj =>
      obtain ⟨led, rfl, rfl⟩ := hr
      have e0 : (s.heap.push { cls := .type "set", dict := none, data := .set #[] 0 (.fresh 0 0 led) }).objs.size = s.heap.objs.size + 1 := Heap.size_push ..
      have old : ∀ b o, s.heap.get? b = some o → (s.heap.push { cls := .type "set", dict := none, data := .set #[] 0 (.fresh 0 0 led) }).get? b = some o := fun b o e => Heap.get?_push_of_some _ e
      have hS : (s.heap.push { cls := .type "set", dict := none, data := .set #[] 0 (.fresh 0 0 led) }).get? s.heap.objs.size = some { cls := .type "set", dict := none, data := .set #[] 0 (.fresh 0 0 led) } := Heap.get?_push_size _ rfl
      have hl1 : (s.heap.push { cls := .type "set", dict := none, data := .set #[] 0 (.fresh 0 0 led) }).IsList l its.toArray := hl.push _
      generalize s.heap.push { cls := .type "set", dict := none, data := .set #[] 0 (.fresh 0 0 led) } = h0 at e0 old hS hl1
      have hT : Shared.TypeIs { s with heap := h0 } (.ref s.heap.objs.size) "set" := ⟨_, hS, rfl⟩
      have hli := F.called_set.init.lookup
      have hbi := F.called_set.init.bind (.ref s.heap.objs.size)
      repeat (any_goals (first | assumption | wp_step))
      refine codeAny_mono (codeAny_call_builtin (R := wants (fun r s₂ => r = .none ∧ ∃ h' tk S, s₂ = { s with heap := h', toks := tk } ∧
          h'.SetOf (strKind prog w) s.heap.objs.size S (un ns ns.length) ∧ (∀ b o, b < s.heap.objs.size → s.heap.get? b = some o → h'.get? b = some o)) E) F.called_set.init.plain F.entry_set_init (check_set_init_1 hT ?_)) fun r₂ s₂ hr₂ => ?_
      · have hll : l < s.heap.objs.size := by
          obtain ⟨ol, hol, _⟩ := hl
          exact Heap.lt_size hol
        obtain ⟨ol, hol, hcl, nl, hdl⟩ := id hl1
        obtain ⟨ocls, odict, odata, oslots⟩ := ol
        simp only at hcl hdl
        subst hcl; subst hdl
        have hsls := F.sub_list_set
        have hslf := F.sub_list_frozenset
        have hne : (Value.type "list" == Value.type "dict") = false := by decide
        unfold Builtin.«set.__init__» noKeywords Builtin.Frozenset.updateFrom
        generalize hPI : pyIter = PI
        wp_walk
        subst hPI
        refine wpAny_pyIter_list hl1 ?_
        refine wpAny_bind (wpAny_runValue ?_)
        have hh3 : A.in1.in1.in1.handled = none := by simp [hh]
        have hneI : l ≠ h0.objs.size := by rw [e0]; exact Nat.ne_of_lt (Nat.lt_succ_of_lt hll)
        have hSf : s.heap.objs.size ∉ [h0.objs.size, l] := by
          simp only [List.mem_cons, List.mem_singleton, List.not_mem_nil, or_false, not_or]
          exact ⟨by rw [e0]; exact Nat.ne_of_lt (Nat.lt_succ_self _), Nat.ne_of_gt hll⟩
        have hsz : its.toArray.size = ns.length := by rw [List.size_toArray, hn]
        refine sul_runU ((Walks.list hh3 _ l hneI its.toArray).toS) s.heap.objs.size hSf ns hsz.symm (fun i v hv => hi i v (by simpa using hv)) (by omega) (its.toArray.size - 0) 0 _ (by omega) (Nat.zero_le _)
          ⟨⟨_, Heap.get?_push_size _ rfl, rfl, rfl⟩, (hl1.push _)⟩ ?hS0 ?hR
        case hS0 =>
          exact SetOf_congr ((setObjOf_fresh (knd := strKind prog w) led).setOf (Heap.get?_push_of_some _ hS) (by unfold scanBound; omega)) (fun _ => rfl) rfl
        case hR =>
          intro s' hm hS'
          obtain ⟨h', g', d', tk', os'⟩ := s'
          have eg : g' = s.gens := hm.gens
          have ed : d' = s.drawn := hm.drawn
          have eo : os' = s.os := hm.os
          subst eg; subst ed; subst eo
          show wpAny _ _ _ _ _ _
          refine wpAny_pure ?_
          show wpAny _ _ (ret Value.none) _ _ _
          refine wpAny_pure ⟨rfl, h', tk', _, rfl, by rw [hsz] at hS'; exact hS', fun b o hb e => ?_⟩
          exact hm.heap b o (by simp only [List.mem_cons, List.mem_singleton, List.not_mem_nil, or_false, not_or]; exact ⟨Nat.ne_of_lt hb, by rw [e0]; exact Nat.ne_of_lt (Nat.lt_succ_of_lt hb)⟩) (Heap.get?_push_of_some _ (old b o e))
      · cases r₂ with
        | error e => exact hr₂
        | ok fl₂ =>
          cases fl₂ with
          | ret r =>
            obtain ⟨rfl, h', tk, S, rfl, hS', hk'⟩ := hr₂
            repeat (any_goals (first | assumption | wp_step))
            exact h _ _ _ hS' hk'
          | _ => exact hr₂.elim
    | _ => exact hr.elim
theorem set_strsT {prog : Program} {w : World} {A : Around} {E : Value → Shared → Prop} {s : Shared} {l : Addr} {its : List Value} {ns : List Str} {Q : Value → Shared → Prop} (hh : A.handled = none) (hl : s.heap.IsTuple l its.toArray)
    (hi : ∀ (i : Nat) v, its[i]? = some v → ∃ t, v = .str (ns.getD i "") t) (hn : ns.length = its.length) (hb : ns.length + 1 < scanBound)
    (h : ∀ (h' : Heap) (tk : Nat) (S : Str → Bool), h'.SetOf (strKind prog w) s.heap.objs.size S (un ns ns.length) → (∀ b o, b < s.heap.objs.size → s.heap.get? b = some o → h'.get? b = some o) → Q (.ref s.heap.objs.size) { s with heap := h', toks := tk }) :
    wpAny (model prog w) A (call (.type "set") [.ref l]) Q E s := by
  obtain ⟨c, tl, hmro⟩ := F.called_set.mro
  have hmade := F.called_set.made
  have hsub := F.called_set.sub
  refine wpAny_call (codeAny_of_tree ?_)
  show wpAny _ _ (callAny (.type "set") _) _ _ _
  refine wpAny_pure ⟨Code.quiet_builtin _ (by decide +kernel), codeAny_builtin F.entry_type_call ?_⟩
  rw [Around.under_plain (weight_type_call_type "set" [.ref l] []) rfl]
  have h1 := F.called_set.notType
  have h2 := F.called_set.canCreate
  have hct := F.typeCall_set_1 (.ref l)
  repeat (any_goals (first | assumption | wp_step))
  refine codeAny_mono (code_set_new_1 (.ref l) (E := E) (Q₁ := fun obj s₁ => ∃ led : Bool, obj = .ref s.heap.objs.size ∧ s₁ = { s with heap := s.heap.push { cls := .type "set", dict := none, data := .set #[] 0 (.fresh 0 0 led) } }) fun led => ⟨led, rfl, rfl⟩) fun r s₁ hr => ?_
  cases r with
  | error e => exact hr
  | ok fl =>
    cases fl with
    | ret obj =>
      obtain ⟨led, rfl, rfl⟩ := hr
      have e0 : (s.heap.push { cls := .type "set", dict := none, data := .set #[] 0 (.fresh 0 0 led) }).objs.size = s.heap.objs.size + 1 := Heap.size_push ..
      have old : ∀ b o, s.heap.get? b = some o → (s.heap.push { cls := .type "set", dict := none, data := .set #[] 0 (.fresh 0 0 led) }).get? b = some o := fun b o e => Heap.get?_push_of_some _ e
      have hS : (s.heap.push { cls := .type "set", dict := none, data := .set #[] 0 (.fresh 0 0 led) }).get? s.heap.objs.size = some { cls := .type "set", dict := none, data := .set #[] 0 (.fresh 0 0 led) } := Heap.get?_push_size _ rfl
      have hl1 : (s.heap.push { cls := .type "set", dict := none, data := .set #[] 0 (.fresh 0 0 led) }).IsTuple l its.toArray := hl.push _
      generalize s.heap.push { cls := .type "set", dict := none, data := .set #[] 0 (.fresh 0 0 led) } = h0 at e0 old hS hl1
      have hT : Shared.TypeIs { s with heap := h0 } (.ref s.heap.objs.size) "set" := ⟨_, hS, rfl⟩
      have hli := F.called_set.init.lookup
      have hbi := F.called_set.init.bind (.ref s.heap.objs.size)
      repeat (any_goals (first | assumption | wp_step))
      refine codeAny_mono (codeAny_call_builtin (R := wants (fun r s₂ => r = .none ∧ ∃ h' tk S, s₂ = { s with heap := h', toks := tk } ∧
          h'.SetOf (strKind prog w) s.heap.objs.size S (un ns ns.length) ∧ (∀ b o, b < s.heap.objs.size → s.heap.get? b = some o → h'.get? b = some o)) E) F.called_set.init.plain F.entry_set_init (check_set_init_1 hT ?_)) fun r₂ s₂ hr₂ => ?_
      · have hll : l < s.heap.objs.size := by
          obtain ⟨ol, hol, _⟩ := hl
          exact Heap.lt_size hol
        obtain ⟨ol, hol, hcl, nl, hdl⟩ := id hl1
        obtain ⟨ocls, odict, odata, oslots⟩ := ol
        simp only at hcl hdl
        subst hcl; subst hdl
        have hsls := F.sub_tuple_set
        have hslf := F.sub_tuple_frozenset
        have hne : (Value.type "tuple" == Value.type "dict") = false := by decide
        unfold Builtin.«set.__init__» noKeywords Builtin.Frozenset.updateFrom
        generalize hPI : pyIter = PI
        wp_walk
        subst hPI
        refine wpAny_pyIter_tuple hl1 ?_
        refine wpAny_bind (wpAny_runValue ?_)
        have hh3 : A.in1.in1.in1.handled = none := by simp [hh]
        have hneI : l ≠ h0.objs.size := by rw [e0]; exact Nat.ne_of_lt (Nat.lt_succ_of_lt hll)
        have hSf : s.heap.objs.size ∉ [h0.objs.size, l] := by
          simp only [List.mem_cons, List.mem_singleton, List.not_mem_nil, or_false, not_or]
          exact ⟨by rw [e0]; exact Nat.ne_of_lt (Nat.lt_succ_self _), Nat.ne_of_gt hll⟩
        have hsz : its.toArray.size = ns.length := by rw [List.size_toArray, hn]
        refine sul_runU ((Walks.tuple hh3 _ l hneI its.toArray).toS) s.heap.objs.size hSf ns hsz.symm (fun i v hv => hi i v (by simpa using hv)) (by omega) (its.toArray.size - 0) 0 _ (by omega) (Nat.zero_le _)
          ⟨⟨_, Heap.get?_push_size _ rfl, rfl, rfl⟩, (hl1.push _)⟩ ?hS0 ?hR
        case hS0 =>
          exact SetOf_congr ((setObjOf_fresh (knd := strKind prog w) led).setOf (Heap.get?_push_of_some _ hS) (by unfold scanBound; omega)) (fun _ => rfl) rfl
        case hR =>
          intro s' hm hS'
          obtain ⟨h', g', d', tk', os'⟩ := s'
          have eg : g' = s.gens := hm.gens
          have ed : d' = s.drawn := hm.drawn
          have eo : os' = s.os := hm.os
          subst eg; subst ed; subst eo
          show wpAny _ _ _ _ _ _
          refine wpAny_pure ?_
          show wpAny _ _ (ret Value.none) _ _ _
          refine wpAny_pure ⟨rfl, h', tk', _, rfl, by rw [hsz] at hS'; exact hS', fun b o hb e => ?_⟩
          exact hm.heap b o (by simp only [List.mem_cons, List.mem_singleton, List.not_mem_nil, or_false, not_or]; exact ⟨Nat.ne_of_lt hb, by rw [e0]; exact Nat.ne_of_lt (Nat.lt_succ_of_lt hb)⟩) (Heap.get?_push_of_some _ (old b o e))
      · cases r₂ with
        | error e => exact hr₂
        | ok fl₂ =>
          cases fl₂ with
          | ret r =>
            obtain ⟨rfl, h', tk, S, rfl, hS', hk'⟩ := hr₂
            repeat (any_goals (first | assumption | wp_step))
            exact h _ _ _ hS' hk'
          | _ => exact hr₂.elim
    | _ => exact hr.elim
section
variable {X : Cx}
theorem call_setU (hc : X.calm = true) : CallR X (.type "set") (fun xs H Q => ∃ (l : Addr) (ns : List Str), xs = [.ref l] ∧ (SqL X.K H l (ns.map V.str) ∨ SqT X.K H l (ns.map V.str)) ∧ ns.length ≤ 3000 ∧ ∀ d, H d = none → Q (.ref d) (upd H d (SetS X.prog X.w d (un ns ns.length)))) := by
  intro pins s σ H xs us Q I r h
  obtain ⟨l, ns, rfl, hl, hn, q⟩ := h
  obtain ⟨u, rfl, ru⟩ := vals1 r
  cases ru
  have hh : X.A.handled = none := I.ok.hd hc
  have fin : ∀ (h' : Heap) (tk : Nat) (S : Str → Bool), h'.SetOf (strKind X.prog X.w) s.heap.objs.size S (un ns ns.length) → (∀ b o, b < s.heap.objs.size → s.heap.get? b = some o → h'.get? b = some o) → (∃ (v : V) (H' : Hp), Inv X pins σ H' { s with heap := h', toks := tk } ∧ RelV v (.ref s.heap.objs.size) ∧ Q v H') := fun h' tk S hS hk => by
    refine ⟨.ref s.heap.objs.size, _, I.laid (o := SetS X.prog X.w s.heap.objs.size (un ns ns.length)) (fun b u e => hk b u (Heap.lt_size e) e) (Nat.le_refl _) ⟨⟨S, hS⟩, ?_, fun h1 h2 ⟨S', x⟩ k => ⟨S', setOf_at x k⟩⟩, rfl, q _ (I.hok.fresh (Nat.le_refl _))⟩
    obtain ⟨o, _, _, _, ho, _⟩ := hS
    exact ⟨o, ho⟩
  have val : ∀ {its : List Value}, Vals (ns.map V.str) its → ∀ (i : Nat) v, its[i]? = some v → ∃ t, v = .str (ns.getD i "") t := fun {its} rv i v hv => by
    have hlen := rv.length
    rw [List.length_map] at hlen
    have hil : i < ns.length := by
      have := (List.getElem?_eq_some_iff.mp hv).1
      omega
    obtain ⟨w', hw, rw'⟩ := rv.get (i := i) (x := .str ns[i]) (by rw [List.getElem?_map, List.getElem?_eq_getElem hil]; rfl)
    rw [hv] at hw
    cases hw
    obtain ⟨t, rfl⟩ := rw'
    exact ⟨t, by simp [hil]⟩
  rcases hl with hl | hl
  · obtain ⟨its, rv, pl, hz⟩ := I.list hl
    have hlen := rv.length
    rw [List.length_map] at hlen
    exact set_strsU hh pl.isList (ns := ns) (val rv) (by omega) (by unfold scanBound; omega) fin
  · obtain ⟨its, rv, pl, hz⟩ := I.tuple hl
    have hlen := rv.length
    rw [List.length_map] at hlen
    exact set_strsT hh pl (ns := ns) (val rv) (by omega) (by unfold scanBound; omega) fin
end
end L2
end
section
set_option autoImplicit false
namespace L2
open PySem PyProof.Rows
def heldIn (rows : List (List Str)) (x : Str) : Bool := rows.any fun o => decide (x ∈ o.drop 1)
def freeOf (rows : List (List Str)) : List Str → List Str
  | [] => []
  | x :: _ => if heldIn rows x = true then [] else [x]
def frees (rows : List (List Str)) : List Str := rows.flatMap (freeOf rows)
def outOf (x : Str) (r : List Str) : List Str := r.filter fun y => decide (y ≠ x)
def full (rows : List (List Str)) : List (List Str) := rows.filter fun r => !r.isEmpty
inductive Mg : List (List Str) → Option (List Str) → Prop where
  | nil : Mg [] (some [])
  | stuck {rows : List (List Str)} : rows ≠ [] → frees rows = [] → Mg rows none
  | step {rows : List (List Str)} {x : Str} {more : List Str} {r : Option (List Str)} : frees rows = x :: more → Mg (full (rows.map (outOf x))) r → Mg rows (r.map (x :: ·))
def RowsT (H : Hp) (vs : List V) (rows : List (List Str)) : Prop := Paired (fun (v : V) (r : List Str) => ∃ a, v = .ref a ∧ H a = some (.tup (r.map V.str))) vs rows
def RowsL (H : Hp) (vs : List V) (rows : List (List Str)) : Prop := Paired (fun (v : V) (r : List Str) => ∃ a, v = .ref a ∧ H a = some (.lst (r.map V.str))) vs rows
def RowsX (H : Hp) (D : Addr) (vs : List V) (rows : List (List Str)) : Prop := Paired (fun (v : V) (r : List Str) => ∃ a, v = .ref a ∧ a ≠ D ∧ H a = some (.lst (r.map V.str))) vs rows
def RowsY (H : Hp) (D E : Addr) (vs : List V) (rows : List (List Str)) : Prop := Paired (fun (v : V) (r : List Str) => ∃ a, v = .ref a ∧ a ≠ D ∧ a ≠ E ∧ H a = some (.lst (r.map V.str))) vs rows
theorem take_snoc {α : Type} {l : List α} {i : Nat} (h : i < l.length) : l.take (i + 1) = l.take i ++ [l[i]] := by
  rw [List.take_succ, List.getElem?_eq_getElem h]
  rfl
theorem yes_by {σ : L2.St} {H : Hp} {A B : Hp → Prop} (h : A H) : tYes σ H (fun b H3 => if b = true then A H3 else B H3) := by
  show (if true = true then A H else B H)
  rw [if_pos rfl]
  exact h
end L2
end
section
set_option autoImplicit false
namespace L2
open PySem PySem.Spec PyProof.Rows
def Nm (x : Str) : Prop := 1 ≤ x.length ∧ x.length ≤ 6 ∧ Lw x
theorem slice_to_len {x : Str} {j : Int} (h0 : 0 ≤ j) (h : j ≤ x.length) : (Txt.slice x none (some j)).length = j.toNat := by
  have e : x.cps.toList.length = x.length := Array.length_toList
  show (StrLaws.sliceText x none (some j)).length = _
  rw [StrLaws.sliceText_to ⟨h0, by rw [e]; exact h⟩]
  show (List.toArray _).size = _
  rw [List.size_toArray, List.length_take, List.length_drop, e]
  omega
theorem slice_from_len {x : Str} {i : Int} (h0 : 0 ≤ i) (h : i ≤ x.length) : (Txt.slice x (some i) none).length = x.length - i.toNat := by
  have e : x.cps.toList.length = x.length := Array.length_toList
  show (StrLaws.sliceText x (some i) none).length = _
  rw [StrLaws.sliceText_from ⟨h0, by rw [e]; exact h⟩]
  show (List.toArray _).size = _
  rw [List.size_toArray, List.length_take, List.length_drop, e]
  omega
theorem slice5 (x : Str) : (Txt.slice x none (some 5)).length ≤ 5 := by
  by_cases h : 5 ≤ x.length
  · rw [slice_to_len (by decide) (by omega)]
    decide
  · exact Nat.le_trans (slice_len x _ _) (by omega)
theorem strRep6 {x : Str} : (strRep x 6).length = 6 * x.length := by
  unfold strRep
  rw [if_neg (by decide)]
  split
  · rename_i h
    have h0 : x.length = 0 := by simpa using h
    rw [h0]
  · show (List.foldl (fun x1 x2 => x1 ++ x2) #[] (List.replicate (6 : Int).toNat x.cps)).size = _
    rw [size_rep, Array.size_empty, Nat.zero_add]
    rfl
theorem near1 {x : Str} (h : Nm x) (i : Nat) : Nm (Txt.slice (strRep x 6) none (some (if 0 + (i : Int) + 1 < 6 then 0 + (i : Int) + 1 else 6))) := by
  obtain ⟨h1, h6, hl⟩ := h
  have e6 : (strRep x 6).length = 6 * x.length := strRep6
  have hj : ∃ j : Int, (if 0 + (i : Int) + 1 < 6 then 0 + (i : Int) + 1 else 6) = j ∧ 1 ≤ j ∧ j ≤ 6 := ⟨_, rfl, by split <;> omega, by split <;> omega⟩
  obtain ⟨j, e, j1, j6⟩ := hj
  rw [e]
  have := slice_to_len (x := strRep x 6) (j := j) (by omega) (by omega)
  exact ⟨by omega, by omega, (hl.rep _).slice _ _⟩
theorem near2 {x : Str} (h : Nm x) {pl : Int} {c : Nat} (h0 : 0 ≤ pl) (hp : pl < x.length) (hc : c ∈ abc.cps.toList) : Nm (Txt.slice x none (some pl) ++ ⟨#[c]⟩ ++ Txt.slice x (some (pl + 1)) none) := by
  obtain ⟨h1, h6, hl⟩ := h
  have a := slice_to_len (x := x) h0 (by omega)
  have b := slice_from_len (x := x) (i := pl + 1) (by omega) (by omega)
  have e : (Txt.slice x none (some pl) ++ ⟨#[c]⟩ ++ Txt.slice x (some (pl + 1)) none).length = x.length := by
    rw [str_len_app, str_len_app, a, b]
    show pl.toNat + 1 + _ = _
    omega
  exact ⟨by rw [e]; exact h1, by rw [e]; exact h6, ((hl.slice _ _).app (Lw.one hc)).app (hl.slice _ _)⟩
end L2
end
section
set_option autoImplicit false
namespace K01
open PySem L2
def top (i : Nat) : Stmt := PySem.Challenge.pw_warmrows_k01_what_families_are.main.body.getD i (.Pass ⟨0, 0, 0, 0⟩)
structure Adr where
  is_tuple_of : Addr × FuncData
  is_name : Addr × FuncData
  is_kind : Addr × FuncData
  are_kinds : Addr × FuncData
  kinds_of : Addr × FuncData
  is_family : Addr × FuncData
  elders_first : Addr × FuncData
  _law_cell : Addr × FuncData
  _law_purse : Addr × FuncData
  _law_take : Addr × FuncData
  _law_word : Addr × FuncData
  _law_names : Addr × FuncData
  _law_some : Addr × FuncData
  _law_all : Addr × FuncData
  _law_family : Addr × FuncData
  _law_put : Addr × FuncData
  _law_named : Addr × FuncData
  _law_is : Addr × FuncData
  _law_any : Addr × FuncData
  _law_badly : Addr × FuncData
  _law_renamed : Addr × FuncData
  _law_ringed : Addr × FuncData
  _law_way : Addr × FuncData
  _law_part : Addr × FuncData
  _law_row_bent : Addr × FuncData
  _law_bent : Addr × FuncData
  _law_right : Addr × FuncData
  law : Addr × FuncData
structure Defs (K : PySem.W.Frag) (mg : Str → Option Value) (t : Adr) : Prop where
  is_tuple_of : Fnd K mg "is_tuple_of" (top 4) ["thing", "many"] t.is_tuple_of.1 t.is_tuple_of.2
  is_name : Fnd K mg "is_name" (top 5) ["thing"] t.is_name.1 t.is_name.2
  is_kind : Fnd K mg "is_kind" (top 6) ["thing", "kinds"] t.is_kind.1 t.is_kind.2
  are_kinds : Fnd K mg "are_kinds" (top 7) ["thing", "kinds"] t.are_kinds.1 t.are_kinds.2
  kinds_of : Fnd K mg "kinds_of" (top 8) ["rows"] t.kinds_of.1 t.kinds_of.2
  is_family : Fnd K mg "is_family" (top 9) ["thing"] t.is_family.1 t.is_family.2
  elders_first : Fnd K mg "elders_first" (top 10) ["family"] t.elders_first.1 t.elders_first.2
  _law_cell : Fnd K mg "_law_cell" (top 12) ["_law_script", "_law_k"] t._law_cell.1 t._law_cell.2
  _law_purse : Fnd K mg "_law_purse" (top 13) ["_law_cell_here"] t._law_purse.1 t._law_purse.2
  _law_take : Fnd K mg "_law_take" (top 14) ["_law_purse_here", "_law_many"] t._law_take.1 t._law_take.2
  _law_word : Fnd K mg "_law_word" (top 15) ["_law_purse_here", "_law_used"] t._law_word.1 t._law_word.2
  _law_names : Fnd K mg "_law_names" (top 16) ["_law_purse_here", "_law_many", "_law_used"] t._law_names.1 t._law_names.2
  _law_some : Fnd K mg "_law_some" (top 17) ["_law_purse_here", "_law_menu", "_law_most"] t._law_some.1 t._law_some.2
  _law_all : Fnd K mg "_law_all" (top 18) ["_law_purse_here", "_law_names_here", "_law_last"] t._law_all.1 t._law_all.2
  _law_family : Fnd K mg "_law_family" (top 19) ["_law_purse_here", "_law_most"] t._law_family.1 t._law_family.2
  _law_put : Fnd K mg "_law_put" (top 20) ["_law_thing", "_law_way_here", "_law_new"] t._law_put.1 t._law_put.2
  _law_named : Fnd K mg "_law_named" (top 21) ["_law_thing"] t._law_named.1 t._law_named.2
  _law_is : Fnd K mg "_law_is" (top 22) ["_law_thing"] t._law_is.1 t._law_is.2
  _law_any : Fnd K mg "_law_any" (top 23) ["_law_purse_here", "_law_old"] t._law_any.1 t._law_any.2
  _law_badly : Fnd K mg "_law_badly" (top 24) ["_law_purse_here", "_law_name"] t._law_badly.1 t._law_badly.2
  _law_renamed : Fnd K mg "_law_renamed" (top 25) ["_law_family_here", "_law_old", "_law_new"] t._law_renamed.1 t._law_renamed.2
  _law_ringed : Fnd K mg "_law_ringed" (top 26) ["_law_family_here", "_law_first", "_law_many"] t._law_ringed.1 t._law_ringed.2
  _law_way : Fnd K mg "_law_way" (top 27) ["_law_purse_here", "_law_family_here"] t._law_way.1 t._law_way.2
  _law_part : Fnd K mg "_law_part" (top 28) ["_law_thing", "_law_way_here"] t._law_part.1 t._law_part.2
  _law_row_bent : Fnd K mg "_law_row_bent" (top 29) ["_law_purse_here", "_law_family_here", "_law_k"] t._law_row_bent.1 t._law_row_bent.2
  _law_bent : Fnd K mg "_law_bent" (top 30) ["_law_purse_here"] t._law_bent.1 t._law_bent.2
  _law_right : Fnd K mg "_law_right" (top 31) ["_law_purse_here"] t._law_right.1 t._law_right.2
  law : Fnd K mg "law" (top 32) ["_law_script"] t.law.1 t.law.2
  b_abs : mg "abs" = none
  b_all : mg "all" = none
  b_bool : mg "bool" = none
  b_enumerate : mg "enumerate" = none
  b_int : mg "int" = none
  b_isinstance : mg "isinstance" = none
  b_len : mg "len" = none
  b_list : mg "list" = none
  b_max : mg "max" = none
  b_min : mg "min" = none
  b_range : mg "range" = none
  b_repr : mg "repr" = none
  b_set : mg "set" = none
  b_sorted : mg "sorted" = none
  b_str : mg "str" = none
  b_tuple : mg "tuple" = none
structure Glb (mg : Str → Option Value) : Prop where
  g_LETTERS : ∃ tk, mg "LETTERS" = some (.str abc tk)
  g_MOST_LETTERS : ∃ tk, mg "MOST_LETTERS" = some (.int 6 tk)
  g_MOST_KINDS : ∃ tk, mg "MOST_KINDS" = some (.int 7 tk)
theorem sc_is_tuple_of : FnScope ["thing", "many"] ["thing", "many"] (defScope (top 4)) := ⟨rfl, rfl, rfl, by decide +kernel, rfl, by decide +kernel, by decide +kernel⟩
theorem sc_is_name : FnScope ["thing"] ["thing"] (defScope (top 5)) := ⟨rfl, rfl, rfl, by decide +kernel, rfl, by decide +kernel, by decide +kernel⟩
theorem sc_is_kind : FnScope ["thing", "kinds"] ["thing", "kinds"] (defScope (top 6)) := ⟨rfl, rfl, rfl, by decide +kernel, rfl, by decide +kernel, by decide +kernel⟩
theorem sc_are_kinds : FnScope ["thing", "kinds"] ["thing", "kinds"] (defScope (top 7)) := ⟨rfl, rfl, rfl, by decide +kernel, rfl, by decide +kernel, by decide +kernel⟩
theorem sc_kinds_of : FnScope ["rows"] ["rows"] (defScope (top 8)) := ⟨rfl, rfl, rfl, by decide +kernel, rfl, by decide +kernel, by decide +kernel⟩
theorem sc_is_family : FnScope ["thing", "kinds"] ["thing"] (defScope (top 9)) := ⟨rfl, rfl, rfl, by decide +kernel, rfl, by decide +kernel, by decide +kernel⟩
theorem sc_elders_first : FnScope ["family", "placed", "waiting", "ready", "kind"] ["family"] (defScope (top 10)) := ⟨rfl, rfl, rfl, by decide +kernel, rfl, by decide +kernel, by decide +kernel⟩
theorem sc__law_cell : FnScope ["_law_script", "_law_k", "_law_state", "_law_cell_here"] ["_law_script", "_law_k"] (defScope (top 12)) := ⟨rfl, rfl, rfl, by decide +kernel, rfl, by decide +kernel, by decide +kernel⟩
theorem sc__law_purse : FnScope ["_law_cell_here", "_law_digits"] ["_law_cell_here"] (defScope (top 13)) := ⟨rfl, rfl, rfl, by decide +kernel, rfl, by decide +kernel, by decide +kernel⟩
theorem sc__law_take : FnScope ["_law_purse_here", "_law_many", "_law_state", "_law_taken"] ["_law_purse_here", "_law_many"] (defScope (top 14)) := ⟨rfl, rfl, rfl, by decide +kernel, rfl, by decide +kernel, by decide +kernel⟩
theorem sc__law_word : FnScope ["_law_purse_here", "_law_used", "_law_word_here", "_law_k"] ["_law_purse_here", "_law_used"] (defScope (top 15)) := ⟨rfl, rfl, rfl, by decide +kernel, rfl, by decide +kernel, by decide +kernel⟩
theorem sc__law_names : FnScope ["_law_purse_here", "_law_many", "_law_used", "_law_pick", "_law_word_here", "_law_place", "_law_first", "_law_names_here", "_law_k", "_law_sign", "_law_near"] ["_law_purse_here", "_law_many", "_law_used"] (defScope (top 16)) := ⟨rfl, rfl, rfl, by decide +kernel, rfl, by decide +kernel, by decide +kernel⟩
theorem sc__law_some : FnScope ["_law_purse_here", "_law_menu", "_law_most", "_law_some_here", "_law_k", "_law_one"] ["_law_purse_here", "_law_menu", "_law_most"] (defScope (top 17)) := ⟨rfl, rfl, rfl, by decide +kernel, rfl, by decide +kernel, by decide +kernel⟩
theorem sc__law_all : FnScope ["_law_purse_here", "_law_names_here", "_law_last", "_law_turn"] ["_law_purse_here", "_law_names_here", "_law_last"] (defScope (top 18)) := ⟨rfl, rfl, rfl, by decide +kernel, rfl, by decide +kernel, by decide +kernel⟩
theorem sc__law_family : FnScope ["_law_purse_here", "_law_most", "_law_shape", "_law_names_here", "_law_family_here", "_law_k", "_law_kind", "_law_elders", "_law_order"] ["_law_purse_here", "_law_most"] (defScope (top 19)) := ⟨rfl, rfl, rfl, by decide +kernel, rfl, by decide +kernel, by decide +kernel⟩
theorem sc__law_put : FnScope ["_law_thing", "_law_way_here", "_law_new", "_law_at"] ["_law_thing", "_law_way_here", "_law_new"] (defScope (top 20)) := ⟨rfl, rfl, rfl, by decide +kernel, rfl, by decide +kernel, by decide +kernel⟩
theorem sc__law_named : FnScope ["_law_thing"] ["_law_thing"] (defScope (top 21)) := ⟨rfl, rfl, rfl, by decide +kernel, rfl, by decide +kernel, by decide +kernel⟩
theorem sc__law_is : FnScope ["_law_thing", "_law_row", "_law_done", "_law_turn"] ["_law_thing"] (defScope (top 22)) := ⟨rfl, rfl, rfl, by decide +kernel, rfl, by decide +kernel, by decide +kernel⟩
theorem sc__law_any : FnScope ["_law_purse_here", "_law_old", "_law_some_here"] ["_law_purse_here", "_law_old"] (defScope (top 23)) := ⟨rfl, rfl, rfl, by decide +kernel, rfl, by decide +kernel, by decide +kernel⟩
theorem sc__law_badly : FnScope ["_law_purse_here", "_law_name", "_law_pick", "_law_at", "_law_signs", "_law_sign"] ["_law_purse_here", "_law_name"] (defScope (top 24)) := ⟨rfl, rfl, rfl, by decide +kernel, rfl, by decide +kernel, by decide +kernel⟩
theorem sc__law_renamed : FnScope ["_law_family_here", "_law_old", "_law_new", "_law_rows", "_law_kind", "_law_elders", "_law_names_here"] ["_law_family_here", "_law_old", "_law_new"] (defScope (top 25)) := ⟨rfl, rfl, rfl, by decide +kernel, rfl, by decide +kernel, by decide +kernel⟩
theorem sc__law_ringed : FnScope ["_law_family_here", "_law_first", "_law_many", "_law_rows", "_law_step", "_law_at", "_law_coming", "_law_kind", "_law_elders"] ["_law_family_here", "_law_first", "_law_many"] (defScope (top 26)) := ⟨rfl, rfl, rfl, by decide +kernel, rfl, by decide +kernel, by decide +kernel⟩
theorem sc__law_way : FnScope ["_law_purse_here", "_law_family_here", "_law_deep", "_law_k", "_law_part_here"] ["_law_purse_here", "_law_family_here"] (defScope (top 27)) := ⟨rfl, rfl, rfl, by decide +kernel, rfl, by decide +kernel, by decide +kernel⟩
theorem sc__law_part : FnScope ["_law_thing", "_law_way_here", "_law_at"] ["_law_thing", "_law_way_here"] (defScope (top 28)) := ⟨rfl, rfl, rfl, by decide +kernel, rfl, by decide +kernel, by decide +kernel⟩
theorem sc__law_row_bent : FnScope ["_law_purse_here", "_law_family_here", "_law_k", "_law_pick", "_law_kind", "_law_elders", "_law_at"] ["_law_purse_here", "_law_family_here", "_law_k"] (defScope (top 29)) := ⟨rfl, rfl, rfl, by decide +kernel, rfl, by decide +kernel, by decide +kernel⟩
theorem sc__law_bent : FnScope ["_law_purse_here", "_law_pick", "_law_family_here", "_law_k", "_law_kind", "_law_elders", "_law_at", "_law_other", "_law_way_here", "_law_old"] ["_law_purse_here"] (defScope (top 30)) := ⟨rfl, rfl, rfl, by decide +kernel, rfl, by decide +kernel, by decide +kernel⟩
theorem sc__law_right : FnScope ["_law_purse_here", "_law_thing", "_law_text", "_law_other", "_law_told", "_law_due"] ["_law_purse_here"] (defScope (top 31)) := ⟨rfl, rfl, rfl, by decide +kernel, rfl, by decide +kernel, by decide +kernel⟩
theorem sc_law : FnScope ["_law_script"] ["_law_script"] (defScope (top 32)) := ⟨rfl, rfl, rfl, by decide +kernel, rfl, by decide +kernel, by decide +kernel⟩
end K01
end
section
set_option autoImplicit false
namespace K01
open PySem PyProof.Rows L2
section
variable {P : Program} {w : World} {K : PySem.W.Frag} {mg : Str → Option Value} {base : Heap} {t : Adr}
def spTake : Sp := fun vs H Q _ => ∃ (p : Addr) (n : Int), vs = [.ref p, .int n] ∧ Pu H p ∧ 0 < n ∧ n < 1606938044258990275541962092341162602522202993782792835301376 ∧ ∀ (r a b c : Int), 0 ≤ r → r < n → Q (.int r) (upd H p (.lst [.int a, .int b, .int c]))
theorem ok_take (D : Defs K mg t) : FnOk P w K mg base CX0 1 t._law_take.1 t._law_take.2 ["_law_purse_here", "_law_many"] spTake := by
  refine D._law_take.fn.ok sc__law_take (fun vs H Q E h => ?_) (fun cdv A outer s H vs Q E hr h => ?_)
  · obtain ⟨p, n, rfl, _⟩ := h
    rfl
  · obtain ⟨p, n, rfl, ⟨a, b, c, hp⟩, h0, h1, k⟩ := h
    refine ⟨_, (pss_cons (ps_asg (pe_op op_add (pe_ix ix_list (pv 0) pe_int (fun _ _ => rfl)) pe_int) (pg_sub (pv 0) pe_int set_list))
      (pss_cons (ps_set (i := 2) sc__law_take.nd rfl (Or.inl rfl) (pe_ix ix_list (pv 0) pe_int (fun _ _ => rfl)))
      (pss_cons (ps_asg (pe_op op_mod (pe_op op_add (pe_op op_mul (pv 2) (pe_op op_add (pe_op op_mod (pv 2) pe_int) pe_int)) (pe_op op_mul pe_int (pe_ix ix_list (pv 0) pe_int (fun _ _ => rfl)))) pe_int) (pg_sub (pv 0) pe_int set_list))
      (pss_cons (ps_if (pt_cmpR op_gt (pe_ix ix_list (pv 0) pe_int (fun _ _ => rfl)) pe_int (nomark _))
      (pss_cons (ps_set (i := 3) sc__law_take.nd rfl (Or.inl rfl) (pe_op op_mod (pe_ix ix_list (pv 0) pe_int (fun _ _ => rfl)) (pv 1)))
      (pss_cons (ps_asg (pe_op op_fdivL (pe_ix ix_list (pv 0) pe_int (fun _ _ => rfl)) (pv 1)) (pg_sub (pv 0) pe_int set_list))
      (pss_one (ps_ret (pv 3)))))
      pss_nil)
      (pss_one (ps_ret (pe_op op_mod (pe_op op_fdiv (pe_ix ix_list (pv 0) pe_int (fun _ _ => rfl)) pe_int) (pv 1)))))))), ?_⟩
    refine ⟨_, rfl, p, _, _, _, rfl, rfl, SqL.of hp, rfl, _, _, rfl, rfl, _, rfl, p, _, _, 2, rfl, rfl, hp, rfl, ?_⟩
    refine ⟨_, rfl, p, _, _, _, rfl, rfl, SqL.of upd_same, rfl, ?_⟩
    refine ⟨_, rfl, _, rfl, _, _, rfl, rfl, (by show (0 : Int) < 46337; decide), _, _, rfl, rfl, _, _, rfl, rfl, .inr ⟨?_, ?_⟩, _, rfl, p, _, _, _, rfl, rfl, SqL.of upd_same, rfl, _, _, rfl, rfl, .inl ⟨by decide, by decide⟩, _, _, rfl, rfl, _, _, rfl, rfl,
      (by show (0 : Int) < 2147483587; decide), _, rfl, p, _, _, 0, rfl, rfl, upd_same, rfl, ?_⟩
    · have := Int.emod_nonneg a (show (46337 : Int) ≠ 0 by decide)
      omega
    · have := Int.emod_lt_of_pos a (show (0 : Int) < 46337 by decide)
      omega
    rw [upd_upd]
    refine ⟨_, rfl, p, _, _, _, rfl, rfl, SqL.of upd_same, rfl, _, _, rfl, rfl, _, rfl, ite2 (fun hb => ?_) (fun hb => ?_)⟩
    · refine ⟨_, rfl, p, _, _, _, rfl, rfl, SqL.of upd_same, rfl, _, rfl, _, _, rfl, rfl, h0, _, rfl, p, _, _, _, rfl, rfl, SqL.of upd_same, rfl, _, rfl, _, _, rfl, rfl, ⟨h0, h1⟩, _, rfl, p, _, _, 1, rfl, rfl, upd_same, rfl, _, rfl, ?_⟩
      rw [upd_upd]
      exact k _ _ _ _ (Int.emod_nonneg _ (by omega)) (Int.emod_lt_of_pos _ h0)
    · refine ⟨_, rfl, p, _, _, _, rfl, rfl, SqL.of upd_same, rfl, _, _, rfl, rfl, ⟨by decide, by decide⟩, _, rfl, _, _, rfl, rfl, h0, ?_⟩
      exact k _ _ _ _ (Int.emod_nonneg _ (by omega)) (Int.emod_lt_of_pos _ h0)
def spPurse : Sp := fun vs H Q _ => ∃ (n : Int), vs = [.int n] ∧ ∀ (p : Addr) (a b c : Int), H p = none → Q (.ref p) (upd H p (.lst [.int a, .int b, .int c]))
theorem ok_purse (D : Defs K mg t) : FnOk P w K mg base CX0 1 t._law_purse.1 t._law_purse.2 ["_law_cell_here"] spPurse := by
  refine D._law_purse.fn.ok sc__law_purse (fun vs H Q E h => ?_) (fun cdv A outer s H vs Q E hr h => ?_)
  · obtain ⟨n, rfl, _⟩ := h
    rfl
  · obtain ⟨n, rfl, k⟩ := h
    refine ⟨_, (pss_cons (ps_set (i := 1) sc__law_purse.nd rfl (Or.inl rfl) pe_int)
      (pss_join (ps_if (PW.pt (pw_or (pt_cmpR op_lt (pv 0) pe_int (nomark _)) (pw_or1 (pt_cmpR op_ge (pv 0) (pe_op op_pow pe_int pe_int) (nomark _)))))
      (pss_one (ps_set (i := 1) sc__law_purse.nd rfl (Or.inl rfl) (pe_callB call_abs (by rfl) D.b_abs bt_abs (pa_cons (pv 0) pa_nil))))
      pss_nil)
      (pss_one (ps_ret (pe_lst (pa_cons (pe_op op_mod (pv 0) pe_int) (pa_cons (pv 1) (pa_cons pe_int pa_nil)))))))), ?_⟩
    refine ⟨fun σ' H' => ∃ d : Int, σ' = [some (.int n), some (.int d)] ∧ H' = H, ?_, ?_⟩
    · refine ⟨_, rfl, _, _, rfl, rfl, _, rfl, ite2 (fun hb => ?_) (fun hb => ?_)⟩
      · exact iteT ⟨_, rfl, _, rfl, _, rfl, rfl⟩
      · refine ⟨_, rfl, _, _, rfl, rfl, ⟨by decide, by decide, by decide⟩, _, _, rfl, rfl, _, rfl, ite2 (fun hc => ?_) (fun hc => ?_)⟩
        · exact ⟨_, rfl, _, rfl, _, rfl, rfl⟩
        · exact ⟨_, rfl, rfl⟩
    · rintro σ' H' ⟨d, rfl, rfl⟩
      exact ⟨_, rfl, _, _, rfl, rfl, (by show (0 : Int) < 2147483587; decide), _, rfl, (by show 3 ≤ sizeLine; decide), fun p hp => k p _ _ _ hp⟩
def spCell (K : PySem.W.Frag) : Sp := fun vs H Q _ => ∃ (a : Addr) (ns : List Int) (k : Int), vs = [.ref a, .int k] ∧ SqL K H a (ns.map V.int) ∧ ns.length ≤ 63 ∧ 0 ≤ k ∧ k ≤ 1000 ∧ ∀ (n : Int) H', Same H H' → Q (.int n) H'
theorem ok_cell (D : Defs K mg t) : FnOk P w K mg base CX0 1 t._law_cell.1 t._law_cell.2 ["_law_script", "_law_k"] (spCell K) := by
  refine D._law_cell.fn.ok sc__law_cell (fun vs H Q E h => ?_) (fun cdv A outer s H vs Q E hr h => ?_)
  · obtain ⟨a, ns, k, rfl, _⟩ := h
    rfl
  · obtain ⟨a, ns, k, rfl, hS, hl, h0, h1, q⟩ := h
    refine ⟨_, (pss_cons (ps_if (pt_cmpR op_lt (pv 1) (pe_callB call_len_seq (by rfl) D.b_len bt_len (pa_cons (pv 0) pa_nil)) (nomark _))
      (pss_one (ps_ret (pe_ix ix_list (pv 0) (pv 1) (fun _ _ => rfl))))
      pss_nil)
      (pss_cons (ps_set (i := 2) sc__law_cell.nd rfl (Or.inl rfl) (pe_op op_mul (pe_op op_mul pe_int (pe_op op_add (pv 1) pe_int)) (pe_op op_add (pv 1) pe_int)))
      (pss_cons (ps_for PassesOwn.never rfl (pi_list (pe_slice sl_list (pv 0) po_none (po_some pe_int))) (pg_name (i := 3) sc__law_cell.nd rfl (Or.inl rfl))
      (pss_one (ps_set (i := 2) sc__law_cell.nd rfl (Or.inl rfl) (pe_op op_mod (pe_op op_add (pe_op op_mul (pv 2) pe_int) (pv 3)) pe_int))))
      (pss_one (ps_ret (pv 2)))))), ?_⟩
    refine ⟨_, rfl, _, rfl, a, _, rfl, .inl hS, _, _, rfl, rfl, _, rfl, ite2 (fun hb => ?_) (fun hb => ?_)⟩
    · have hk : k < (ns.map V.int).length := of_decide_eq_true hb
      obtain ⟨v, e, m, _⟩ := atI_in h0 hk
      obtain ⟨z, _, rfl⟩ := List.mem_map.mp m
      exact ⟨_, rfl, _, rfl, a, _, _, _, rfl, rfl, hS, e, q z H (Same.refl H)⟩
    · refine ⟨_, rfl, _, _, rfl, rfl, _, _, rfl, rfl, .inl ⟨by decide, by decide⟩, _, rfl, _, _, rfl, rfl, _, _, rfl, rfl, .inr ⟨by omega, by omega⟩, ?_⟩
      refine ⟨_, rfl, _, rfl, a, _, rfl, hS, fun p hp => ⟨p, rfl, ⟨_, SqL.of upd_same⟩, for_list (K := K) (a := p) (xs := cutV (ns.map V.int) none (some 4)) (fun i σ H2 => ∃ (st : Int) (v : Option V), σ = [some (.ref a), some (.int k), some (.int st), v] ∧ H2 = upd H p (.lst (cutV (ns.map V.int) none (some 4))))
        ⟨_, _, rfl, rfl⟩ (fun i σ H2 _ ⟨_, _, _, e⟩ => by rw [e]; exact SqL.of upd_same) ?_ ?_⟩⟩
      · rintro i x σ H2 hi ⟨st, v, rfl, rfl⟩
        have m : x ∈ ns.map V.int := List.mem_of_mem_drop (List.mem_of_mem_take (List.mem_of_getElem? hi))
        obtain ⟨z, _, rfl⟩ := List.mem_map.mp m
        exact ⟨_, rfl, _, _, rfl, rfl, .inr ⟨by decide, by decide⟩, _, rfl, _, _, rfl, rfl, _, _, rfl, rfl, (by show (0 : Int) < 2147483587; decide), _, _, rfl, rfl⟩
      · rintro σ H2 ⟨st, v, rfl, rfl⟩
        exact ⟨_, rfl, q st _ (Same.new hp)⟩
end
end K01
end
section
set_option autoImplicit false
namespace K01
open PySem PyProof.Rows L2
section
variable {P : Program} {w : World} {K : PySem.W.Frag} {mg : Str → Option Value} {base : Heap} {t : Adr}
def spWord : Sp := fun vs H Q _ => ∃ (p u : Addr) (us : List Str), vs = [.ref p, .ref u] ∧ Pu H p ∧ H u = some (.lst (us.map V.str)) ∧ us.length ≤ 25 ∧ ∀ (x : Str) H', 1 ≤ x.length → x.length ≤ 6 → Lw x → ¬ x ∈ us → Off p H H' → Pu H' p → Q (.str x) H'
theorem ok_word (D : Defs K mg t) : FnOk P w K mg base CX0 2 t._law_word.1 t._law_word.2 ["_law_purse_here", "_law_used"] spWord := by
  have G__law_take : FnOk P w K mg base CX0 1 t._law_take.1 t._law_take.2 _ spTake := ok_take D
  have hz : sizeLine = 16777216 := sizeLine_eq
  refine D._law_word.fn.ok sc__law_word (fun vs H Q E h => ?_) (fun cdv A outer s H vs Q E hr h => ?_)
  · obtain ⟨p, u, us, rfl, _⟩ := h
    rfl
  · obtain ⟨p, u, us, rfl, hp, hu, hl, k⟩ := h
    have up : u ≠ p := hp.ne hu
    refine ⟨_, (pss_cons (ps_set (i := 2) sc__law_word.nd rfl (Or.inr rfl) pe_str)
      (pss_cons (ps_for PassesOwn.never rfl (pi_range1 rfl D.b_range (pa_cons (pe_op op_add pe_int (pe_callF D._law_take G__law_take (hr.mono (by omega)) (by rfl) (pa_cons (pv 0) (pa_cons pe_int pa_nil)))) pa_nil)) (pg_name (i := 3) sc__law_word.nd rfl (Or.inl rfl))
      (pss_one (ps_set (i := 2) sc__law_word.nd rfl (Or.inr rfl) (pe_op op_add_str (pv 2) (pe_ix ix_str pe_str (pe_callF D._law_take G__law_take (hr.mono (by omega)) (by rfl) (pa_cons (pv 0) (pa_cons pe_int pa_nil))) (fun _ _ => rfl))))))
      (pss_cons (ps_if (pt_cmpR op_notIn_seq (pv 2) (pv 1) (by with_unfolding_all rfl))
      (pss_one (ps_ret (pv 2)))
      pss_nil)
      (pss_one (ps_ret (pe_ix ix_list (pe_comp rfl (CompScope.of ["_law_a"] [1, 2] ["_law_a", "_law_used", "_law_word_here"] (defScope (top 15)) ["_law_purse_here", "_law_used", "_law_word_here", "_law_k"] rfl rfl (by decide +kernel)) ⟨fun _ _ _ _ _ => (pg_name (i := 0) (show List.Nodup [("_law_a" : Str), ("_law_used" : Str), ("_law_word_here" : Str)] by decide +kernel) rfl (Or.inl (lookup_relabel_local rfl)) (.inr (lookup_relabel_local rfl))), fun _ _ _ _ _ => (pts_one (pt_cmpR (op_notIn_K (K := K) rfl) (pe_op op_add_str (pv 0) (pe_slice sl_str (pv 2) po_none (po_some pe_int))) (pv 1) (by with_unfolding_all rfl))), fun _ _ _ _ _ => (pe_op op_add_str (pv 0) (pe_slice sl_str (pv 2) po_none (po_some pe_int)))⟩ (pi_str pe_str)) pe_int (fun _ _ => rfl))))))), ?_⟩
    refine ⟨_, rfl, p, 6, rfl, hp, by decide, by decide, fun r2 a2 b2 c2 g0 g1 => ⟨_, _, rfl, rfl, _, rfl, by omega, by omega, ?_⟩⟩
    refine for_range (lo := 0) (n := (1 + r2).toNat) (fun i σ H2 => ∃ (x : Str) (v : Option V), σ = [some (.ref p), some (.ref u), some (.str x), v] ∧ x.length = i ∧ Lw x ∧ Off p H H2 ∧ Pu H2 p)
      ⟨_, _, rfl, by decide, Lw.nil, Off.upd, Pu.upd⟩ ?_ ?_
    · rintro i σ H2 hi ⟨x, v, rfl, hx, xl, o2, p2⟩
      refine ⟨_, rfl, _, rfl, p, 26, rfl, p2, by decide, by decide, fun r3 a3 b3 c3 f0 f1 => ?_⟩
      obtain ⟨cc, ec, _, _⟩ := atI_in (xs := abc.cps.toList) f0 (by rw [Array.length_toList, abc_len]; exact f1)
      refine ⟨abc, _, cc, rfl, rfl, by decide +kernel, ec, _, _, rfl, rfl, ?_, _, _, rfl, ?_, xl.app (Lw.one (mem_of_atI ec)), o2.trans Off.upd, Pu.upd⟩
      · show x.length + 1 ≤ sizeLine
        omega
      · rw [str_len_app]
        show x.length + 1 = i + 1
        omega
    · rintro σ' H' ⟨x, v, rfl, hx, xl, oh, ph⟩
      have hx1 : 1 ≤ x.length := by omega
      have hx6 : x.length ≤ 6 := by omega
      have hu' : H' u = some (.lst (us.map V.str)) := oh u _ up hu
      refine ⟨_, rfl, _, rfl, u, _, rfl, .inl (SqL.of hu'), rfl, flat_strs us, _, rfl, ite2 (fun hb => ?_) (fun hb => ?_)⟩
      · refine ⟨_, rfl, k x H' hx1 (by omega) xl ?_ oh ph⟩
        intro hm
        have hb : (!inV (.str x) (us.map V.str)) = true := hb
        rw [inV_strs, decide_eq_true hm] at hb
        cases hb
      · have s5 : (Txt.slice x none (some 5)).length ≤ 5 := slice5 x
        refine ⟨_, rfl, by decide +kernel, fun Dd hD => ?_⟩
        have uD : u ≠ Dd := ne_of_none hu' hD
        have pD : p ≠ Dd := ph.neN hD
        refine comp_by (n := 26) (fun i ys H2 => ys = ((letters.take i).filter fun c => decide (¬ (c ++ Txt.slice x none (some 5)) ∈ us)).map (fun c => V.str (c ++ Txt.slice x none (some 5))) ∧ H2 = upd H' Dd (.lst ys)) ⟨rfl, rfl⟩ ?_ ?_
        · rintro ys H2 ⟨rfl, rfl⟩
          refine ⟨by show abc.cps.size ≤ 26; rw [abc_len]; exact Nat.le_refl _, ?_⟩
          rw [show letters.take 26 = letters from List.take_of_length_le (by rw [letters_len]; exact Nat.le_refl _)]
          obtain ⟨c, hc, hn⟩ := some_letter hl (Txt.slice x none (some 5))
          have hmem : c ∈ letters.filter fun c => decide (¬ (c ++ Txt.slice x none (some 5)) ∈ us) := List.mem_filter.mpr ⟨hc, decide_eq_true hn⟩
          obtain ⟨d, rest, ed⟩ := List.exists_cons_of_ne_nil (List.ne_nil_of_mem hmem)
          have hd : d ∈ letters.filter fun c => decide (¬ (c ++ Txt.slice x none (some 5)) ∈ us) := by rw [ed]; exact List.mem_cons_self
          obtain ⟨hd1, hd2⟩ := List.mem_filter.mp hd
          refine ⟨Dd, _, _, .str (d ++ Txt.slice x none (some 5)), rfl, rfl, SqL.of upd_same, by rw [ed]; exact atI_nat (j := 0) rfl, ?_⟩
          refine k _ _ ?_ ?_ ((Lw.letter hd1).app (xl.slice _ _)) (of_decide_eq_true hd2) (oh.trans (Off.new hD)) (ph.upd_ne pD)
          · rw [str_len_app, letters_one d hd1]
            omega
          · rw [str_len_app, letters_one d hd1]
            omega
        · rintro i ys H2 hi ⟨rfl, rfl⟩
          refine ⟨by show i < abc.cps.size; rw [abc_len]; exact hi, ?_⟩
          rintro y H3 ⟨rfl, c, ec, rfl⟩ σo ho
          obtain ⟨o, rfl⟩ := own1 ho
          have el : letters[i]? = some ⟨#[c]⟩ := by
            have ec' : abc.cps[i]? = some c := ec
            unfold letters
            rw [List.getElem?_map, Array.getElem?_toList, ec']
            rfl
          have et : letters.take (i + 1) = letters.take i ++ [⟨#[c]⟩] := by
            rw [List.take_succ, el]
            rfl
          have hlen : (((letters.take i).filter fun c => decide (¬ (c ++ Txt.slice x none (some 5)) ∈ us)).map (fun c => V.str (c ++ Txt.slice x none (some 5)))).length ≤ 26 := by
            rw [List.length_map]
            refine Nat.le_trans (List.length_filter_le _ _) ?_
            rw [List.length_take]
            omega
          refine ⟨⟨[_], rfl, rfl⟩, _, rfl, _, rfl, _, rfl, x, rfl, by omega, _, _, rfl, rfl, (by show 1 + _ ≤ sizeLine; omega), _, rfl, u, _, rfl, .inl (SqL.of (by rw [upd_ne uD]; exact hu')), rfl, flat_strs us, _, rfl, ite2 (fun hb => ?_) (fun hb => ?_)⟩
          · have hb : (!inV (.str (⟨#[c]⟩ ++ Txt.slice x none (some 5))) (us.map V.str)) = true := hb
            rw [inV_strs] at hb
            have hn : ¬ ((⟨#[c]⟩ : Str) ++ Txt.slice x none (some 5)) ∈ us := by simpa using hb
            refine ⟨_, rfl, _, rfl, _, rfl, x, rfl, by omega, _, _, rfl, rfl, (by show 1 + _ ≤ sizeLine; omega), by omega, upd_same, less_by hi ⟨?_, by rw [upd_upd]⟩⟩
            rw [et, List.filter_append, List.map_append]
            congr 1
            rw [List.filter_cons, if_pos (decide_eq_true hn)]
            rfl
          · have hb : ¬ (!inV (.str (⟨#[c]⟩ ++ Txt.slice x none (some 5))) (us.map V.str)) = true := hb
            rw [inV_strs] at hb
            have hn : ((⟨#[c]⟩ : Str) ++ Txt.slice x none (some 5)) ∈ us := by simpa using hb
            refine less_by hi ⟨?_, rfl⟩
            rw [et, List.filter_append]
            rw [show List.filter (fun c => decide (¬ (c ++ Txt.slice x none (some 5)) ∈ us)) [(⟨#[c]⟩ : Str)] = [] by rw [List.filter_cons, if_neg (by simpa using hn)]; rfl, List.append_nil]
end
end K01
end
section
set_option autoImplicit false
namespace K01
open PySem PyProof.Rows L2
section
variable {P : Program} {w : World} {K : PySem.W.Frag} {mg : Str → Option Value} {base : Heap} {t : Adr}
theorem strRep_len (x : Str) {n : Int} (h : 1 ≤ n) : (strRep x n).length ≤ x.length * n.toNat := by
  unfold strRep
  rw [if_neg (by omega)]
  split
  · have : 1 ≤ n.toNat := by omega
    exact Nat.le_mul_of_pos_right _ (by omega)
  · show (List.foldl (fun x1 x2 => x1 ++ x2) #[] (List.replicate n.toNat x.cps)).size ≤ _
    rw [size_rep, Array.size_empty, Nat.mul_comm, Nat.zero_add]
    exact Nat.le_refl _
def spNames : Sp := fun vs H Q _ => ∃ (p u : Addr) (us : List Str) (n : Int), vs = [.ref p, .int n, .ref u] ∧ Pu H p ∧ H u = some (.lst (us.map V.str)) ∧ 0 ≤ n ∧ us.length + n.toNat ≤ 25 ∧
  ∀ (l : Addr) (ns : List Str) H', H l = none → ns.length = n.toNat → ns.Nodup → (∀ x ∈ ns, ¬ x ∈ us ∧ Nm x) → H' l = some (.lst (ns.map V.str)) → Off p H H' → Pu H' p → Q (.ref l) H'
theorem nd_snoc {α : Type} {l : List α} {x : α} (h : l.Nodup) (hx : ¬ x ∈ l) : (l ++ [x]).Nodup := by
  rw [List.nodup_append]
  refine ⟨h, by simp, fun a ha b hb e => ?_⟩
  have : b = x := by simpa using hb
  rw [e, this] at ha
  exact hx ha
theorem ok_names (D : Defs K mg t) : FnOk P w K mg base CX0 3 t._law_names.1 t._law_names.2 ["_law_purse_here", "_law_many", "_law_used"] spNames := by
  have G__law_take : FnOk P w K mg base CX0 1 t._law_take.1 t._law_take.2 _ spTake := ok_take D
  have G__law_word : FnOk P w K mg base CX0 2 t._law_word.1 t._law_word.2 _ spWord := ok_word D
  have hz : sizeLine = 16777216 := sizeLine_eq
  refine D._law_names.fn.ok sc__law_names (fun vs H Q E h => ?_) (fun cdv A outer s H vs Q E hr h => ?_)
  · obtain ⟨p, u, us, n, rfl, _⟩ := h
    rfl
  · obtain ⟨p, u, us, n, rfl, hp, hu, h0, h1, k⟩ := h
    have up : u ≠ p := hp.ne hu
    refine ⟨_, (pss_cons (ps_set (i := 3) sc__law_names.nd rfl (Or.inl rfl) (pe_callF D._law_take G__law_take (hr.mono (by omega)) (by rfl) (pa_cons (pv 0) (pa_cons pe_int pa_nil))))
      (pss_cons (ps_set (i := 4) sc__law_names.nd rfl (Or.inl rfl) (pe_callF D._law_word G__law_word (hr.mono (by omega)) (by rfl) (pa_cons (pv 0) (pa_cons (pv 2) pa_nil))))
      (pss_cons (ps_set (i := 5) sc__law_names.nd rfl (Or.inl rfl) (pe_callF D._law_take G__law_take (hr.mono (by omega)) (by rfl) (pa_cons (pv 0) (pa_cons (pe_callB call_len_str (by rfl) D.b_len bt_len (pa_cons (pv 4) pa_nil)) pa_nil))))
      (pss_cons (ps_set (i := 6) sc__law_names.nd rfl (Or.inl rfl) (pe_callF D._law_take G__law_take (hr.mono (by omega)) (by rfl) (pa_cons (pv 0) (pa_cons pe_int pa_nil))))
      (pss_cons (ps_set (i := 7) sc__law_names.nd rfl (Or.inl rfl) (pe_lst pa_nil))
      (pss_cons (ps_for PassesOwn.never rfl (pi_range1 rfl D.b_range (pa_cons (pv 1) pa_nil)) (pg_name (i := 8) sc__law_names.nd rfl (Or.inl rfl))
      (pss_cons (ps_set (i := 9) sc__law_names.nd rfl (Or.inl rfl) (pe_ix ix_str pe_str (pe_op op_mod (pe_op op_add (pv 6) (pe_op op_mul pe_int (pv 8))) pe_int) (fun _ _ => rfl)))
      (pss_cons (ps_set (i := 10) sc__law_names.nd rfl (Or.inl rfl) (pe_op op_add_str (pe_op op_add_str (pe_slice sl_str (pv 4) po_none (po_some (pv 5))) (pv 9)) (pe_slice sl_str (pv 4) (po_some (pe_op op_add (pv 5) pe_int)) po_none)))
      (pss_join (ps_if (pt_cmpR op_eq (pv 3) pe_int (nomark _))
      (pss_one (ps_set (i := 10) sc__law_names.nd rfl (Or.inl rfl) (pe_slice sl_str (pe_op op_mulS (pv 4) pe_int) po_none (po_some (pe_callB (call_min2 rfl) (by rfl) D.b_min bt_min (pa_cons pe_int (pa_cons (pe_op op_add (pv 8) pe_int) pa_nil)))))))
      pss_nil)
      (pss_join (ps_if (PW.pt (pw_or (pt_cmpR op_gt (pv 3) pe_int (nomark _)) (pw_or1 (pt_cmpR op_in_seq (pv 10) (pe_op op_cat (pv 2) (pv 7)) (by with_unfolding_all rfl)))))
      (pss_one (ps_set (i := 10) sc__law_names.nd rfl (Or.inl rfl) (pe_callF D._law_word G__law_word (hr.mono (by omega)) (by rfl) (pa_cons (pv 0) (pa_cons (pe_op op_cat (pv 2) (pv 7)) pa_nil)))))
      pss_nil)
      (pss_one (ps_expr (pe_bm PySem.F.plainAttrs_list PySem.F.slot_list_append PySem.F.type_list_append mt_append (pv 7) (pa_cons (pv 10) pa_nil)))))))))
      (pss_one (ps_ret (pv 7))))))))), ?_⟩
    refine ⟨_, rfl, p, 4, rfl, hp, by decide, by decide, fun pick a1 b1 c1 l1 u1 => ?_⟩
    refine ⟨_, rfl, _, rfl, p, u, us, rfl, Pu.upd, by rw [upd_ne up]; exact hu, by omega, fun x H1 hx1 hx7 xl _ o1 p1 => ?_⟩
    have o1 : Off p H H1 := Off.upd.trans o1
    refine ⟨_, rfl, _, rfl, x, rfl, by omega, p, _, rfl, p1, by omega, by omega, fun place a2 b2 c2 l2 u2 => ?_⟩
    refine ⟨_, rfl, p, 26, rfl, Pu.upd, by decide, by decide, fun first a3 b3 c3 l3 u3 => ?_⟩
    rw [upd_upd]
    have o3 : Off p H (upd H1 p (.lst [.int a3, .int b3, .int c3])) := o1.trans Off.upd
    refine ⟨Nat.zero_le _, fun l hl => ?_⟩
    have hlH : H l = none := by
      by_cases e : l = p
      · rw [e, upd_same] at hl
        cases hl
      · cases q : H l with
        | none => rfl
        | some o =>
          rw [o3 l o e q] at hl
          cases hl
    have pl : p ≠ l := hp.neN hlH
    have ul : u ≠ l := ne_of_none hu hlH
    refine ⟨_, rfl, n, rfl, by omega, by omega, for_range (lo := 0) (n := n.toNat) (fun i σ H2 => ∃ (ns : List Str) (v8 v9 v10 : Option V), σ = [some (.ref p), some (.int n), some (.ref u), some (.int pick), some (.str x), some (.int place), some (.int first), some (.ref l), v8, v9, v10] ∧
      ns.length = i ∧ ns.Nodup ∧ (∀ x ∈ ns, ¬ x ∈ us ∧ Nm x) ∧ H2 l = some (.lst (ns.map V.str)) ∧ Off p H H2 ∧ Pu H2 p)
      ⟨[], _, _, _, rfl, rfl, List.nodup_nil, by simp, upd_same, o3.trans (Off.new hl), Pu.upd.upd_ne pl⟩ ?_ ?_⟩
    · rintro i σ H2 hi ⟨ns, v8, v9, v10, rfl, hns, nd, nu, hl2, o2, p2⟩
      have hu2 : H2 u = some (.lst (us.map V.str)) := o2 u _ up hu
      have m0 := Int.emod_nonneg (first + 7 * (0 + (i : Int))) (show (26 : Int) ≠ 0 by decide)
      have m1 := Int.emod_lt_of_pos (first + 7 * (0 + (i : Int))) (show (0 : Int) < 26 by decide)
      obtain ⟨cc, ec, _, _⟩ := atI_in (xs := abc.cps.toList) m0 (by rw [Array.length_toList, abc_len]; exact m1)
      refine ⟨_, rfl, _, rfl, _, _, rfl, rfl, .inl ⟨by decide, by decide⟩, _, _, rfl, rfl, _, _, rfl, rfl, (by show (0 : Int) < 26; decide), abc, _, cc, rfl, rfl, by decide +kernel, ec, ?_⟩
      have q1 := slice_len x none (some place)
      have q2 := slice_len x (some (place + 1)) none
      refine ⟨_, rfl, _, rfl, _, rfl, x, rfl, by omega, _, rfl, _, _, rfl, rfl, (by show (Txt.slice x none (some place)).length + 1 ≤ sizeLine; omega), _, rfl, _, rfl, _, _, rfl, rfl, _, rfl, x, rfl, by omega, _, _, rfl, rfl, ?_, ?_⟩
      · rw [str_len_app]
        show (Txt.slice x none (some place)).length + 1 + _ ≤ sizeLine
        omega
      refine ⟨fun σ' H' => ∃ (y : Str) (v8 v9 : Option V), σ' = [some (.ref p), some (.int n), some (.ref u), some (.int pick), some (.str x), some (.int place), some (.int first), some (.ref l), some (.int (0 + (i : Int))), v9, some (.str y)] ∧ H' = H2 ∧ Nm y, ?_, ?_⟩
      · refine ⟨_, rfl, rfl, _, rfl, ite2 (fun hb => ?_) (fun hb => ?_)⟩
        · have q3 := strRep_len x (n := 6) (by decide)
          refine ⟨_, rfl, x, 6, rfl, rfl, by decide, by decide, by omega, _, rfl, _, _, rfl, rfl, _, _, rfl, _, rfl, _, rfl, by show (strRep x 6).length ≤ sizeLine; have : (6 : Int).toNat = 6 := rfl; rw [this] at q3; omega, _, none, _, rfl, rfl, ?_⟩
          exact near1 ⟨hx1, hx7, xl⟩ i
        · exact ⟨_, none, _, rfl, rfl, near2 ⟨hx1, hx7, xl⟩ l2 u2 (mem_of_atI ec)⟩
      · rintro σ' H' ⟨y, v8', v9', rfl, rfl, hyl⟩
        refine ⟨fun σ' H'' => ∃ (y : Str) (v9 : Option V), σ' = [some (.ref p), some (.int n), some (.ref u), some (.int pick), some (.str x), some (.int place), some (.int first), some (.ref l), some (.int (0 + (i : Int))), v9, some (.str y)] ∧ (¬ y ∈ us ∧ Nm y) ∧ ¬ y ∈ ns ∧ Off p H' H'' ∧ Pu H'' p, ?_, ?_⟩
        · have cl : (us.map V.str).length + (ns.map V.str).length ≤ sizeLine := by rw [List.length_map, List.length_map]; omega
          have fresh : ∀ (q : Addr) (H0 : Hp), Off p H' H0 → Pu H0 p → H0 q = none → ∀ (y : Str) (H3 : Hp), ¬ y ∈ us ++ ns → Off p (upd H0 q (.lst (us.map V.str ++ ns.map V.str))) H3 → Pu H3 p → ¬ y ∈ us ∧ ¬ y ∈ ns ∧ Off p H' H3 ∧ Pu H3 p := fun q H0 o0 p0 hq y H3 hy o3 p3 =>
            ⟨fun h => hy (List.mem_append_left _ h), fun h => hy (List.mem_append_right _ h), (o0.trans (Off.new hq)).trans o3, p3⟩
          refine ⟨_, rfl, _, _, rfl, rfl, _, rfl, ite2 (fun hb => ?_) (fun hb => ?_)⟩
          · refine iteT ⟨_, rfl, _, rfl, _, rfl, u, l, _, _, rfl, rfl, hu2, hl2, cl, fun q hq => ⟨p, q, us ++ ns, rfl, p2.upd_ne (p2.neN hq), by rw [upd_same, List.map_append], by rw [List.length_append]; omega, fun y' H3 hy1 hy7 yl hy o3 p3 => ?_⟩⟩
            obtain ⟨f1, f2, f3, f4⟩ := fresh q H' (Off.refl p H') p2 hq y' H3 hy o3 p3
            exact ⟨y', _, rfl, ⟨f1, hy1, hy7, yl⟩, f2, f3, f4⟩
          · refine ⟨_, rfl, _, rfl, _, rfl, u, l, _, _, rfl, rfl, hu2, hl2, cl, fun q hq => ⟨q, _, rfl, .inl (SqL.of upd_same), rfl, ?_, _, rfl, ite2 (fun hc => ?_) (fun hc => ?_)⟩⟩
            · rw [List.all_append, flat_strs, flat_strs]
              rfl
            · have uq : u ≠ q := ne_of_none hu2 hq
              have lq : l ≠ q := ne_of_none hl2 hq
              refine ⟨_, rfl, _, rfl, _, rfl, u, l, _, _, rfl, rfl, by rw [upd_ne uq]; exact hu2, by rw [upd_ne lq]; exact hl2, cl, fun q2 hq2 => ⟨p, q2, us ++ ns, rfl, (p2.upd_ne (p2.neN hq)).upd_ne ((p2.upd_ne (p2.neN hq)).neN hq2), by rw [upd_same, List.map_append], by rw [List.length_append]; omega, fun y' H3 hy1 hy7 yl hy o3 p3 => ?_⟩⟩
              obtain ⟨f1, f2, f3, f4⟩ := fresh q2 _ (Off.new hq) (p2.upd_ne (p2.neN hq)) hq2 y' H3 hy o3 p3
              exact ⟨y', _, rfl, ⟨f1, hy1, hy7, yl⟩, f2, f3, f4⟩
            · have hc : ¬ inV (.str y) (us.map V.str ++ ns.map V.str) = true := hc
              rw [← List.map_append, inV_strs] at hc
              have hc : ¬ y ∈ us ++ ns := fun h => hc (decide_eq_true h)
              exact ⟨y, _, rfl, ⟨fun h => hc (List.mem_append_left _ h), hyl⟩, fun h => hc (List.mem_append_right _ h), Off.new hq, p2.upd_ne (p2.neN hq)⟩
        · rintro σ'' H3 ⟨y', v9'', rfl, y1, y2, o3, p3⟩
          have hl3 : H3 l = some (.lst (ns.map V.str)) := o3 l _ pl.symm hl2
          refine ⟨_, rfl, .inl ⟨rfl, _, SqL.of hl3⟩, _, rfl, l, ns.map V.str, .str y', rfl, rfl, hl3, by rw [List.length_map]; omega, ns ++ [y'], _, _, _, rfl, by rw [List.length_append, hns]; rfl, nd_snoc nd y2, ?_, by rw [upd_same, List.map_append]; rfl, ?_, p3.upd_ne pl⟩
          · intro z hz
            rcases List.mem_append.mp hz with h | h
            · exact nu z h
            · rw [List.mem_singleton.mp h]
              exact y1
          · intro b o hb e
            rw [upd_ne (ne_of_none e hlH)]
            exact o3 b o hb (o2 b o hb e)
    · rintro σ H2 ⟨ns, v8, v9, v10, rfl, hns, nd, nu, hl2, o2, p2⟩
      exact ⟨_, rfl, k l ns H2 hlH hns nd nu hl2 o2 p2⟩
end
end K01
end
section
set_option autoImplicit false
namespace K01
open PySem PyProof.Rows L2
section
variable {P : Program} {w : World} {K : PySem.W.Frag} {mg : Str → Option Value} {base : Heap} {t : Adr}
def spSome : Sp := fun vs H Q _ => ∃ (p m : Addr) (ns : List Str) (n : Nat), vs = [.ref p, .ref m, .int n] ∧ Pu H p ∧ H m = some (.lst (ns.map V.str)) ∧ n ≤ 100 ∧ ns.length ≤ 100 ∧
  ∀ (q : Addr) (es : List Str) H', H' q = some (.tup (es.map V.str)) → (∀ x ∈ es, x ∈ ns) → es.Nodup → es.length ≤ n → Off p H H' → Pu H' p → Q (.ref q) H'
theorem ok_some (D : Defs K mg t) : FnOk P w K mg base CX0 2 t._law_some.1 t._law_some.2 ["_law_purse_here", "_law_menu", "_law_most"] spSome := by
  have G__law_take : FnOk P w K mg base CX0 1 t._law_take.1 t._law_take.2 _ spTake := ok_take D
  have hz : sizeLine = 16777216 := sizeLine_eq
  refine D._law_some.fn.ok sc__law_some (fun vs H Q E h => ?_) (fun cdv A outer s H vs Q E hr h => ?_)
  · obtain ⟨p, m, ns, n, rfl, _⟩ := h
    rfl
  · obtain ⟨p, m, ns, n, rfl, hp, hm, hn, hl, k⟩ := h
    have mp : m ≠ p := hp.ne hm
    refine ⟨_, (pss_cons (ps_set (i := 3) sc__law_some.nd rfl (Or.inl rfl) (pe_lst pa_nil))
      (pss_cons (ps_if (pt_cmpR op_eq (pe_callB call_len_seq (by rfl) D.b_len bt_len (pa_cons (pv 1) pa_nil)) pe_int (nomark _))
      (pss_one (ps_ret (pe_tup pa_nil)))
      pss_nil)
      (pss_cons (ps_for PassesOwn.never rfl (pi_range1 rfl D.b_range (pa_cons (pe_callF D._law_take G__law_take (hr.mono (by omega)) (by rfl) (pa_cons (pv 0) (pa_cons (pe_op op_add (pv 2) pe_int) pa_nil))) pa_nil)) (pg_name (i := 4) sc__law_some.nd rfl (Or.inl rfl))
      (pss_cons (ps_set (i := 5) sc__law_some.nd rfl (Or.inl rfl) (pe_ix ix_list (pv 1) (pe_callF D._law_take G__law_take (hr.mono (by omega)) (by rfl) (pa_cons (pv 0) (pa_cons (pe_callB call_len_seq (by rfl) D.b_len bt_len (pa_cons (pv 1) pa_nil)) pa_nil))) (fun _ _ => rfl)))
      (pss_one (ps_if (pt_cmpR op_notIn_seq (pv 5) (pv 3) (by with_unfolding_all rfl))
      (pss_one (ps_expr (pe_bm PySem.F.plainAttrs_list PySem.F.slot_list_append PySem.F.type_list_append mt_append (pv 3) (pa_cons (pv 5) pa_nil))))
      pss_nil))))
      (pss_one (ps_ret (pe_callTy call_tuple_of (by rfl) D.b_tuple bt_tuple (pa_cons (pv 3) pa_nil))))))), ?_⟩
    refine ⟨Nat.zero_le _, fun l hll => ?_⟩
    have pl : p ≠ l := hp.neN hll
    have ml : m ≠ l := ne_of_none hm hll
    refine ⟨_, rfl, m, _, rfl, .inl (SqL.of (by rw [upd_ne ml]; exact hm)), rfl, _, rfl, ite2 (fun hb => ?_) (fun hb => ?_)⟩
    · exact ⟨Nat.zero_le _, fun q hq => k q [] _ upd_same (by simp) List.nodup_nil (Nat.zero_le _) ((Off.new hll).trans (Off.new hq)) ((hp.upd_ne pl).upd_ne ((hp.upd_ne pl).neN hq))⟩
    · have hpos : 0 < ns.length := by
        have hb : ¬ decide (V.int ((ns.map V.str).length : Int) = V.int 0) = true := hb
        rcases Nat.eq_zero_or_pos ns.length with h | h
        · exfalso
          apply hb
          rw [List.length_map, h]
          exact decide_eq_true rfl
        · exact h
      refine ⟨_, rfl, _, rfl, _, _, rfl, rfl, p, _, rfl, hp.upd_ne pl, by omega, by omega, fun r a1 b1 c1 l1 u1 => ⟨r, rfl, by omega, by omega, ?_⟩⟩
      refine for_range (lo := 0) (n := r.toNat) (fun i σ H2 => ∃ (es : List Str) (v4 v5 : Option V), σ = [some (.ref p), some (.ref m), some (.int n), some (.ref l), v4, v5] ∧ es.length ≤ i ∧ es.Nodup ∧ (∀ x ∈ es, x ∈ ns) ∧ H2 l = some (.lst (es.map V.str)) ∧ Off p H H2 ∧ Pu H2 p)
        ⟨[], _, _, rfl, Nat.le_refl _, List.nodup_nil, by simp, by rw [upd_ne pl.symm, upd_same]; rfl, (Off.new hll).trans Off.upd, Pu.upd⟩ ?_ ?_
      · rintro i σ H2 hi ⟨es, v4, v5, rfl, he, nd, sub, hl2, o2, p2⟩
        have hm2 : H2 m = some (.lst (ns.map V.str)) := o2 m _ mp hm
        refine ⟨_, rfl, _, rfl, _, rfl, m, _, rfl, .inl (SqL.of hm2), p, _, rfl, p2, by rw [List.length_map]; omega, by rw [List.length_map]; omega, fun r2 a2 b2 c2 l2 u2 => ?_⟩
        rw [List.length_map] at u2
        obtain ⟨x, ex, mx, _⟩ := atI_strs (ns := ns) l2 u2
        refine ⟨m, _, _, _, rfl, rfl, SqL.of (by rw [upd_ne mp]; exact hm2), ex, ?_⟩
        have lp : l ≠ p := pl.symm
        refine ⟨_, rfl, _, rfl, l, _, rfl, .inl (SqL.of (by rw [upd_ne lp]; exact hl2)), rfl, flat_strs es, _, rfl, ite2 (fun hc => ?_) (fun hc => ?_)⟩
        · have hc : (!inV (.str x) (es.map V.str)) = true := hc
          rw [inV_strs] at hc
          have hx : ¬ x ∈ es := by simpa using hc
          refine ⟨_, rfl, .inl ⟨rfl, _, SqL.of (by rw [upd_ne lp]; exact hl2)⟩, _, rfl, l, es.map V.str, .str x, rfl, rfl, by rw [upd_ne lp]; exact hl2, by rw [List.length_map]; omega, es ++ [x], _, _, rfl, by rw [List.length_append]; exact Nat.succ_le_succ he, nd_snoc nd hx, ?_, by rw [upd_same, List.map_append]; rfl, ?_, Pu.upd.upd_ne pl⟩
          · intro z hz
            rcases List.mem_append.mp hz with h | h
            · exact sub z h
            · rw [List.mem_singleton.mp h]
              exact mx
          · intro b o hb e
            rw [upd_ne (ne_of_none e hll), upd_ne hb]
            exact o2 b o hb e
        · exact ⟨es, _, _, rfl, Nat.le_succ_of_le he, nd, sub, by rw [upd_ne lp]; exact hl2, o2.trans Off.upd, Pu.upd⟩
      · rintro σ H2 ⟨es, v4, v5, rfl, he, nd, sub, hl2, o2, p2⟩
        refine ⟨_, rfl, l, _, rfl, .inl ⟨SqL.of hl2, fun q hq => ?_⟩⟩
        exact k q es _ upd_same sub nd (by omega) (o2.trans (Off.new hq)) (p2.upd_ne (p2.neN hq))
end
end K01
end
section
set_option autoImplicit false
namespace K01
open PySem PyProof.Rows L2
section
variable {P : Program} {w : World} {K : PySem.W.Frag} {mg : Str → Option Value} {base : Heap} {t : Adr}
theorem Paired.perm {α β : Type} {F : α → β → Prop} : ∀ {us ws : List α}, us.Perm ws → ∀ {xs : List β}, Paired F ws xs → ∃ ys, ys.Perm xs ∧ Paired F us ys := by
  intro us ws h
  induction h with
  | nil => exact fun {xs} r => ⟨xs, .refl _, r⟩
  | cons a _ ih =>
    intro xs r
    cases r with
    | cons q t =>
      obtain ⟨ys, p, r'⟩ := ih t
      exact ⟨_ :: ys, p.cons _, .cons q r'⟩
  | swap a b l =>
    intro xs r
    cases r with
    | cons q t =>
      cases t with
      | cons q' t' => exact ⟨_, .swap _ _ _, .cons q' (.cons q t')⟩
  | trans _ _ i1 i2 =>
    intro xs r
    obtain ⟨ys, p, r'⟩ := i2 r
    obtain ⟨zs, p', r''⟩ := i1 r'
    exact ⟨zs, p'.trans p, r''⟩
def NumsP (H : Hp) (ys : List V) (xs : List Str) : Prop := Paired (fun (y : V) (x : Str) => ∃ (q : Addr) (i : Int), y = .ref q ∧ H q = some (.tup [.int i, .str x])) ys xs
def spAll : Sp := fun vs H Q _ => ∃ (p m : Addr) (ns : List Str) (b : Bool), vs = [.ref p, .ref m, .bl b] ∧ Pu H p ∧ H m = some (.lst (ns.map V.str)) ∧ ns.length < 64 ∧ ns.Nodup ∧
  ∀ (q : Addr) (es : List Str) H', H' q = some (.tup (es.map V.str)) → (∀ x ∈ es, x ∈ ns) → es.length ≤ ns.length → es.Nodup → Off p H H' → Pu H' p → Q (.ref q) H'
theorem ok_all (D : Defs K mg t) : FnOk P w K mg base CX0 2 t._law_all.1 t._law_all.2 ["_law_purse_here", "_law_names_here", "_law_last"] spAll := by
  have G__law_take : FnOk P w K mg base CX0 1 t._law_take.1 t._law_take.2 _ spTake := ok_take D
  have hz : sizeLine = 16777216 := sizeLine_eq
  refine D._law_all.fn.ok sc__law_all (fun vs H Q E h => ?_) (fun cdv A outer s H vs Q E hr h => ?_)
  · obtain ⟨p, m, ns, b, rfl, _⟩ := h
    rfl
  · obtain ⟨p, m, ns, b, rfl, hp, hm, hl, ndn, k⟩ := h
    have mp : m ≠ p := hp.ne hm
    refine ⟨_, (pss_cons (ps_set (i := 3) sc__law_all.nd rfl (Or.inl rfl) (pe_callB (call_sorted true) (by rfl) D.b_sorted bt_sorted (pa_cons (pe_comp rfl (CompScope.of ["_law_one"] [0] ["_law_one", "_law_purse_here"] (defScope (top 18)) ["_law_purse_here", "_law_names_here", "_law_last", "_law_turn"] rfl rfl (by decide +kernel)) ⟨fun _ _ _ _ _ => (pg_name (i := 0) (show List.Nodup [("_law_one" : Str), ("_law_purse_here" : Str)] by decide +kernel) rfl (Or.inl (lookup_relabel_local rfl)) (.inr (lookup_relabel_local rfl))), fun _ _ _ _ _ => pts_nil, fun _ _ _ _ _ => (pe_tup (pa_cons (pe_callF D._law_take G__law_take (hr.mono (by omega)) (by rfl) (pa_cons (pv 1) (pa_cons pe_int pa_nil))) (pa_cons (pv 0) pa_nil)))⟩ (pi_list (pv 1))) pa_nil)))
      (pss_cons (ps_if (PW.pt (pw_or (pt_truth (pv 2) (by intro _; rfl)) (pw_or1 (pt_cmpR op_eq (pe_callF D._law_take G__law_take (hr.mono (by omega)) (by rfl) (pa_cons (pv 0) (pa_cons pe_int pa_nil))) pe_int (nomark _)))))
      (pss_one (ps_ret (pe_callTy call_tuple_of (by rfl) D.b_tuple bt_tuple (pa_cons (pe_comp rfl (CompScope.of ["_law_number", "_law_one"] [] ["_law_number", "_law_one"] (defScope (top 18)) ["_law_purse_here", "_law_names_here", "_law_last", "_law_turn"] rfl rfl (by decide +kernel)) ⟨fun _ _ _ _ _ => (pg_tup_K (K := K) (n := 2) rfl rfl (pgs_cons (pg_name (i := 0) (show List.Nodup [("_law_number" : Str), ("_law_one" : Str)] by decide +kernel) rfl (Or.inl (lookup_relabel_local rfl)) (.inr (lookup_relabel_local rfl))) (pgs_cons (pg_name (i := 1) (show List.Nodup [("_law_number" : Str), ("_law_one" : Str)] by decide +kernel) rfl (Or.inl (lookup_relabel_local rfl)) (.inr (lookup_relabel_local rfl))) pgs_nil))), fun _ _ _ _ _ => pts_nil, fun _ _ _ _ _ => (pv 1)⟩ (pi_list (pv 3))) pa_nil))))
      pss_nil)
      (pss_one (ps_ret (pe_tup pa_nil))))), ?_⟩
    refine ⟨_, rfl, m, rfl, ⟨_, SqL.of hm⟩, fun Dd hD => ?_⟩
    have pD : p ≠ Dd := hp.neN hD
    have mD : m ≠ Dd := ne_of_none hm hD
    refine comp_by (n := ns.length) (fun i ys H2 => ys.length = i ∧ H2 Dd = some (.lst ys) ∧ NumsP H2 ys (ns.take i) ∧ Off p H H2 ∧ Pu H2 p) ⟨rfl, upd_same, .nil, Off.new hD, hp.upd_ne pD⟩ ?_ ?_
    · rintro ys H2 ⟨hy, hD2, nu, o2, p2⟩
      have hm2 : H2 m = some (.lst (ns.map V.str)) := o2 m _ mp hm
      refine ⟨⟨_, SqL.of hm2, by rw [List.length_map]; exact Nat.le_refl _⟩, Dd, ys, rfl, SqL.of hD2, by omega, ?_, fun d qs pq hd => ?_⟩
      · intro y hy
        obtain ⟨j, hj, rfl⟩ := List.getElem_of_mem hy
        obtain ⟨q, i, e, hq⟩ := paired_get nu j hj (by rw [← Paired.length nu]; exact hj)
        exact ⟨q, i, .str _, e, hq, by unfold SecS; rw [if_pos rfl]; exact ⟨_, rfl⟩⟩
      rw [List.take_of_length_le (Nat.le_refl _)] at nu
      obtain ⟨xs2, px, nu2⟩ := K01.Paired.perm pq nu
      have hx2 : xs2.length = qs.length := (Paired.length nu2).symm
      have subx : ∀ x ∈ xs2, x ∈ ns := fun x hx => px.mem_iff.mp hx
      have ndx : xs2.Nodup := px.nodup_iff.mpr ndn
      have pd : p ≠ d := p2.neN hd
      have nu3 : NumsP (upd H2 d (.lst qs)) qs xs2 := Paired.mapP nu2 fun y x ⟨q, i, e, hq⟩ => ⟨q, i, e, by rw [upd_ne (ne_of_none hq hd)]; exact hq⟩
      have o3 : Off p H (upd H2 d (.lst qs)) := o2.trans (Off.new hd)
      have p3 : Pu (upd H2 d (.lst qs)) p := p2.upd_ne pd
      refine ⟨_, rfl, b, rfl, ite2 (fun hb => iteT ?_) (fun hb => ⟨_, rfl, p, 3, rfl, p3, by decide, by decide, fun r a4 b4 c4 l4 u4 => ⟨rfl, _, rfl, ite2 (fun hc => ?_) (fun hc => ?_)⟩⟩)⟩
      · refine ⟨_, rfl, d, rfl, ⟨_, SqL.of upd_same⟩, fun D2 hD2' => ?_⟩
        have dD2 : d ≠ D2 := ne_of_none upd_same hD2'
        have pD2 : p ≠ D2 := p3.neN hD2'
        refine comp_by (n := qs.length) (fun i ys H5 => ys = (xs2.take i).map V.str ∧ H5 = upd (upd H2 d (.lst qs)) D2 (.lst ys)) ⟨rfl, rfl⟩ ?_ ?_
        · rintro ys' H5 ⟨rfl, rfl⟩
          rw [List.take_of_length_le (by omega)]
          refine ⟨⟨_, SqL.of (by rw [upd_ne dD2]; exact upd_same), Nat.le_refl _⟩, D2, _, rfl, .inl ⟨SqL.of upd_same, fun q hq => ?_⟩⟩
          have hql := pq.length_eq
          exact k q xs2 _ upd_same subx (by omega) ndx ((o3).trans ((Off.new hD2').trans (Off.new hq))) (((p3).upd_ne pD2).upd_ne (((p3).upd_ne pD2).neN hq))
        · rintro i ys' H5 hi ⟨rfl, rfl⟩
          have hix : i < xs2.length := by omega
          have ei : qs[i]? = some qs[i] := List.getElem?_eq_getElem hi
          refine ⟨⟨_, _, SqL.of (by rw [upd_ne dD2]; exact upd_same), ei⟩, ?_⟩
          rintro y H6 ⟨rfl, yy⟩ σo ho
          obtain ⟨o, o', rfl⟩ := own2 ho
          have ey := yy _ (SqL.of (by rw [upd_ne dD2]; exact upd_same))
          rw [ei] at ey
          have ey := (Option.some.inj ey).symm
          obtain ⟨q', j, e, hq'⟩ := paired_get nu3 i hi hix
          rw [e] at ey
          subst ey
          refine ⟨q', _, rfl, SqT.of (by rw [upd_ne (ne_of_none hq' hD2')]; exact hq'), rfl, _, _, rfl, _, _, rfl, rfl, ⟨[_, _], rfl, rfl⟩, ?_⟩
          refine yes_by ⟨_, rfl, by rw [List.length_map, List.length_take]; have := pq.length_eq; omega, upd_same, less_by hi ⟨?_, by rw [upd_upd]⟩⟩
          rw [List.take_succ, List.getElem?_eq_getElem hix, List.map_append]
          rfl
      · have dp : d ≠ p := pd.symm
        have hd4 : (upd (upd H2 d (.lst qs)) p (.lst [.int a4, .int b4, .int c4])) d = some (.lst qs) := by rw [upd_ne dp, upd_same]
        have nu4 : NumsP (upd (upd H2 d (.lst qs)) p (.lst [.int a4, .int b4, .int c4])) qs xs2 := Paired.mapP nu3 fun y x ⟨q, i, e, hq⟩ => ⟨q, i, e, by
          obtain ⟨a, b, c, ep⟩ := p3
          rw [upd_ne (ne_of hq ep (fun z => nomatch z))]
          exact hq⟩
        have o4 : Off p H (upd (upd H2 d (.lst qs)) p (.lst [.int a4, .int b4, .int c4])) := o3.trans Off.upd
        have p4 : Pu (upd (upd H2 d (.lst qs)) p (.lst [.int a4, .int b4, .int c4])) p := Pu.upd
        refine ⟨_, rfl, d, rfl, ⟨_, SqL.of hd4⟩, fun D2 hD2' => ?_⟩
        have dD2 : d ≠ D2 := ne_of_none hd4 hD2'
        have pD2 : p ≠ D2 := p4.neN hD2'
        refine comp_by (n := qs.length) (fun i ys H5 => ys = (xs2.take i).map V.str ∧ H5 = upd (upd (upd H2 d (.lst qs)) p (.lst [.int a4, .int b4, .int c4])) D2 (.lst ys)) ⟨rfl, rfl⟩ ?_ ?_
        · rintro ys' H5 ⟨rfl, rfl⟩
          rw [List.take_of_length_le (by omega)]
          refine ⟨⟨_, SqL.of (by rw [upd_ne dD2]; exact hd4), Nat.le_refl _⟩, D2, _, rfl, .inl ⟨SqL.of upd_same, fun q hq => ?_⟩⟩
          have hql := pq.length_eq
          exact k q xs2 _ upd_same subx (by omega) ndx ((o4).trans ((Off.new hD2').trans (Off.new hq))) (((p4).upd_ne pD2).upd_ne (((p4).upd_ne pD2).neN hq))
        · rintro i ys' H5 hi ⟨rfl, rfl⟩
          have hix : i < xs2.length := by omega
          have ei : qs[i]? = some qs[i] := List.getElem?_eq_getElem hi
          refine ⟨⟨_, _, SqL.of (by rw [upd_ne dD2]; exact hd4), ei⟩, ?_⟩
          rintro y H6 ⟨rfl, yy⟩ σo ho
          obtain ⟨o, o', rfl⟩ := own2 ho
          have ey := yy _ (SqL.of (by rw [upd_ne dD2]; exact hd4))
          rw [ei] at ey
          have ey := (Option.some.inj ey).symm
          obtain ⟨q', j, e, hq'⟩ := paired_get nu4 i hi hix
          rw [e] at ey
          subst ey
          refine ⟨q', _, rfl, SqT.of (by rw [upd_ne (ne_of_none hq' hD2')]; exact hq'), rfl, _, _, rfl, _, _, rfl, rfl, ⟨[_, _], rfl, rfl⟩, ?_⟩
          refine yes_by ⟨_, rfl, by rw [List.length_map, List.length_take]; have := pq.length_eq; omega, upd_same, less_by hi ⟨?_, by rw [upd_upd]⟩⟩
          rw [List.take_succ, List.getElem?_eq_getElem hix, List.map_append]
          rfl
      · exact ⟨Nat.zero_le _, fun q hq => k q [] _ upd_same (by simp) (Nat.zero_le _) List.nodup_nil (o3.trans (Off.upd.trans (Off.new hq))) (Pu.upd.upd_ne (Pu.upd.neN hq))⟩
    · rintro i ys H2 hi ⟨hy, hD2, nu, o2, p2⟩
      have hm2 : H2 m = some (.lst (ns.map V.str)) := o2 m _ mp hm
      have ei : (ns.map V.str)[i]? = some (.str ns[i]) := by rw [List.getElem?_map, List.getElem?_eq_getElem hi]; rfl
      refine ⟨⟨_, _, SqL.of hm2, ei⟩, ?_⟩
      rintro y H3 ⟨rfl, yy⟩ σo ho
      obtain ⟨o, rfl⟩ := own1 ho
      have ey := yy _ (SqL.of hm2)
      rw [ei] at ey
      cases ey
      refine ⟨⟨[_], rfl, rfl⟩, yes_by ⟨_, rfl, p, 997, rfl, p2, by decide, by decide, fun r a1 b1 c1 l1 u1 => ⟨_, rfl, by show 2 ≤ sizeLine; decide, fun q hq => ?_⟩⟩⟩
      have qD : q ≠ Dd := by
        intro e
        rw [e, upd_ne pD.symm, hD2] at hq
        cases hq
      refine ⟨by omega, by rw [upd_ne qD.symm, upd_ne pD.symm]; exact hD2, less_by hi ⟨by rw [List.length_append, hy]; rfl, upd_same, ?_, ?_, ?_⟩⟩
      · rw [List.take_succ, List.getElem?_eq_getElem hi]
        have key : ∀ {as : List V} {bs : List Str} {y : V} {j : Str} {F : V → Str → Prop}, Paired F as bs → F y j → Paired F (as ++ [y]) (bs ++ [j]) := by
          intro as bs y j F h hy
          induction h with
          | nil => exact .cons hy .nil
          | cons a _ ih => exact .cons a ih
        refine key (Paired.mapP nu fun y x ⟨q', j, e, hq'⟩ => ⟨q', j, e, ?_⟩) ⟨q, r, rfl, by rw [upd_ne qD, upd_same]⟩
        have d1 : q' ≠ Dd := ne_of hq' hD2 (fun z => nomatch z)
        have d2 : q' ≠ p := by
          obtain ⟨a, b, c, ep⟩ := p2
          exact ne_of hq' ep (fun z => nomatch z)
        have d3 : q' ≠ q := by
          intro e
          rw [← e, upd_ne d2, hq'] at hq
          cases hq
        rw [upd_ne d1, upd_ne d3, upd_ne d2]
        exact hq'
      · exact fun b o hb e => by
          rw [upd_ne (ne_of_none e hD)]
          exact (Off.new hq : L2.Off p _ _) b o hb (by rw [upd_ne hb]; exact o2 b o hb e)
      · exact (Pu.upd.upd_ne (Pu.upd.neN hq)).upd_ne pD
end
end K01
end
section
set_option autoImplicit false
namespace K01
open PySem PyProof.Rows L2
abbrev Fam := List (Str × List Str)
def rowT (r : Str × List Str) : T := .tup [.str r.1, .tup (r.2.map T.str)]
def famT (f : Fam) : T := .tup (f.map rowT)
abbrev nms (f : Fam) : List Str := f.map (·.1)
structure GoodF (f : Fam) : Prop where
  nd : (nms f).Nodup
  sub : ∀ r ∈ f, ∀ e ∈ r.2, e ∈ nms f
  len : f.length ≤ 8
  pos : 0 < f.length
  el : ∀ r ∈ f, r.2.length ≤ 8
  elnd : ∀ r ∈ f, r.2.Nodup
  topo : ∃ top : List Str, top.Nodup ∧ (∀ x, x ∈ top ↔ x ∈ nms f) ∧ ∀ r ∈ f, ∃ j, top[j]? = some r.1 ∧ ∀ e ∈ r.2, e ∈ top.take j
  lw : ∀ x ∈ nms f, Nm x
theorem GoodF.perm {f g : Fam} (h : GoodF f) (p : g.Perm f) : GoodF g where
  lw := fun x hx => h.lw x ((p.map (·.1)).mem_iff.mp hx)
  nd := (p.map (·.1)).nodup_iff.mpr h.nd
  sub := fun r hr e he => (p.map (·.1)).mem_iff.mpr (h.sub r (p.mem_iff.mp hr) e he)
  len := by rw [p.length_eq]; exact h.len
  pos := by rw [p.length_eq]; exact h.pos
  el := fun r hr => h.el r (p.mem_iff.mp hr)
  elnd := fun r hr => h.elnd r (p.mem_iff.mp hr)
  topo := by
    obtain ⟨top, h0, h1, h2⟩ := h.topo
    exact ⟨top, h0, fun x => (h1 x).trans (p.map (·.1)).mem_iff.symm, fun r hr => h2 r (p.mem_iff.mp hr)⟩
theorem cut_take {ns : List Str} (ndn : ns.Nodup) (lo : Option Int) (i : Nat) : ∃ ms : List Str, cutV (ns.map V.str) lo (some (i : Int)) = ms.map V.str ∧ (∀ x ∈ ms, x ∈ ns.take i) ∧ ms.length ≤ ns.length ∧ ms.Nodup := by
  unfold cutV
  rw [List.length_map]
  have e : HT.sIx ns.length ns.length (some (i : Int)) = min i ns.length := HT.sIx_nat ns.length ns.length i
  rw [e]
  refine ⟨(ns.drop (HT.sIx ns.length 0 lo)).take (min i ns.length - HT.sIx ns.length 0 lo), ?_, ?_, ?_, ndn.sublist ((List.take_sublist _ _).trans (List.drop_sublist _ _))⟩
  · rw [List.map_take, List.map_drop]
  · intro x hx
    rw [← List.drop_take] at hx
    have h := List.mem_of_mem_drop hx
    have e2 : ns.take (min i ns.length) = ns.take i := by
      rcases Nat.le_total i ns.length with h' | h'
      · rw [Nat.min_eq_left h']
      · rw [Nat.min_eq_right h', List.take_of_length_le (Nat.le_refl _), List.take_of_length_le h']
    rw [e2] at h
    exact h
  · rw [List.length_take, List.length_drop]
    omega
theorem Dp.row {H : Hp} {q e : Addr} {x : Str} {es : List Str} (hq : H q = some (.tup [.str x, .ref e])) (he : H e = some (.tup (es.map V.str))) : Dp H (rowT (x, es)) (.ref q) :=
  L2.Dp.tup hq (.cons (L2.Dp.str x) (.cons (L2.Dp.tup he (DpL.strs es)) .nil))
theorem Dp.of_row {H : Hp} {r : Str × List Str} {v : V} (d : Dp H (rowT r) v) : ∃ q e, v = .ref q ∧ H q = some (.tup [.str r.1, .ref e]) ∧ H e = some (.tup (r.2.map V.str)) := by
  obtain ⟨q, xs, rfl, hq, dl⟩ := L2.Dp.of_tup d
  obtain ⟨x1, r1, rfl, d1, dl⟩ := dl.cases
  obtain ⟨x2, r2, rfl, d2, dl3⟩ := dl.cases
  have e1 := L2.Dp.of_str d1
  have e3 := dl3.of_nil
  obtain ⟨e, ys, rfl, he, dl2⟩ := L2.Dp.of_tup d2
  subst e1 e3
  rw [DpL.of_strs dl2] at he
  exact ⟨q, e, rfl, hq, he⟩
def Eld (sf : V → L2.St) (ns : List Str) (p : Addr) (H2 : Hp) : L2.St → Hp → Prop := fun σ' H' => ∃ (q : Addr) (es : List Str), σ' = sf (.ref q) ∧ H' q = some (.tup (es.map V.str)) ∧ (∀ x ∈ es, x ∈ ns) ∧ (es.length ≤ 8 ∧ es.Nodup) ∧ L2.Off p H2 H' ∧ Pu H' p
end K01
end
section
set_option autoImplicit false
namespace K01
open PySem PyProof.Rows L2
section
variable {P : Program} {w : World} {K : PySem.W.Frag} {mg : Str → Option Value} {base : Heap} {t : Adr}
def AtJ (H : Hp) (y : V) (j : Nat) : Prop := ∃ (q : Addr) (i : Int), y = .ref q ∧ H q = some (.tup [.int i, .int j])
def spFamily : Sp := fun vs H Q _ => ∃ (p : Addr) (n : Nat), vs = [.ref p, .int n] ∧ Pu H p ∧ 1 ≤ n ∧ n ≤ 8 ∧ ∀ (v : V) (f : Fam) H', Dp H' (famT f) v → GoodF f → f.length ≤ n → Off p H H' → Pu H' p → Q v H'
theorem ok_family (D : Defs K mg t) : FnOk P w K mg base CX0 4 t._law_family.1 t._law_family.2 ["_law_purse_here", "_law_most"] spFamily := by
  have G__law_take : FnOk P w K mg base CX0 1 t._law_take.1 t._law_take.2 _ spTake := ok_take D
  have G__law_names : FnOk P w K mg base CX0 3 t._law_names.1 t._law_names.2 _ spNames := ok_names D
  have G__law_some : FnOk P w K mg base CX0 2 t._law_some.1 t._law_some.2 _ spSome := ok_some D
  have G__law_all : FnOk P w K mg base CX0 2 t._law_all.1 t._law_all.2 _ spAll := ok_all D
  have hz : sizeLine = 16777216 := sizeLine_eq
  refine D._law_family.fn.ok sc__law_family (fun vs H Q E h => ?_) (fun cdv A outer s H vs Q E hr h => ?_)
  · obtain ⟨p, n, rfl, _⟩ := h
    rfl
  · obtain ⟨p, n, rfl, hp, hn1, hn7, k⟩ := h
    refine ⟨_, (pss_cons (ps_set (i := 2) sc__law_family.nd rfl (Or.inl rfl) (pe_callF D._law_take G__law_take (hr.mono (by omega)) (by rfl) (pa_cons (pv 0) (pa_cons pe_int pa_nil))))
      (pss_cons (ps_set (i := 3) sc__law_family.nd rfl (Or.inl rfl) (pe_callF D._law_names G__law_names (hr.mono (by omega)) (by rfl) (pa_cons (pv 0) (pa_cons (pe_op op_add pe_int (pe_callF D._law_take G__law_take (hr.mono (by omega)) (by rfl) (pa_cons (pv 0) (pa_cons (pv 1) pa_nil)))) (pa_cons (pe_lst pa_nil) pa_nil)))))
      (pss_cons (ps_set (i := 4) sc__law_family.nd rfl (Or.inr rfl) (pe_lst pa_nil))
      (pss_cons (ps_for PassesOwn.never rfl (pi_enumerate rfl D.b_enumerate (pa_cons (pv 3) pa_nil)) (pg_tup rfl (pgs_cons (pg_name (i := 5) sc__law_family.nd rfl (Or.inl rfl)) (pgs_cons (pg_name (i := 6) sc__law_family.nd rfl (Or.inl rfl)) pgs_nil)))
      (pss_cons (ps_set (i := 7) sc__law_family.nd rfl (Or.inl rfl) (pe_callF D._law_some G__law_some (hr.mono (by omega)) (by rfl) (pa_cons (pv 0) (pa_cons (pe_slice sl_list (pv 3) po_none (po_some (pv 5))) (pa_cons pe_int pa_nil)))))
      (pss_join (ps_if (pt_cmpR op_eq (pv 2) pe_int (nomark _))
      (pss_one (ps_set (i := 7) sc__law_family.nd rfl (Or.inl rfl) (pe_callTy call_tuple_of (by rfl) D.b_tuple bt_tuple (pa_cons (pe_slice sl_list (pv 3) (po_some (pe_callB (call_max2 rfl) (by rfl) D.b_max bt_max (pa_cons pe_int (pa_cons (pe_op op_sub (pv 5) pe_int) pa_nil)))) (po_some (pv 5))) pa_nil))))
      pss_nil)
      (pss_join (ps_if (pt_cmpR op_eq (pv 2) pe_int (nomark _))
      (pss_one (ps_set (i := 7) sc__law_family.nd rfl (Or.inl rfl) (pe_callTy call_tuple_of (by rfl) D.b_tuple bt_tuple (pa_cons (pe_slK (pe_slice sl_list (pv 3) (po_some (pe_callB (call_max2 rfl) (by rfl) D.b_max bt_max (pa_cons pe_int (pa_cons (pe_op op_sub (pv 5) pe_int) pa_nil)))) (po_some (pv 5))) (pe_op op_sub pe_int (pe_op op_mul pe_int (pe_callF D._law_take G__law_take (hr.mono (by omega)) (by rfl) (pa_cons (pv 0) (pa_cons pe_int pa_nil)))))) pa_nil))))
      pss_nil)
      (pss_join (ps_if (pt_cmpR op_eq (pv 2) pe_int (nomark _))
      (pss_one (ps_set (i := 7) sc__law_family.nd rfl (Or.inl rfl) (pe_callF D._law_all G__law_all (hr.mono (by omega)) (by rfl) (pa_cons (pv 0) (pa_cons (pe_slice sl_list (pv 3) po_none (po_some (pv 5))) (pa_cons (pe_cmpR op_eq (pe_op op_add (pv 5) pe_int) (pe_callB call_len_seq (by rfl) D.b_len bt_len (pa_cons (pv 3) pa_nil)) (nomark _)) pa_nil))))))
      pss_nil)
      (pss_one (ps_expr (pe_bm PySem.F.plainAttrs_list PySem.F.slot_list_append PySem.F.type_list_append mt_append (pv 4) (pa_cons (pe_tup (pa_cons (pv 6) (pa_cons (pv 7) pa_nil))) pa_nil)))))))))
      (pss_cons (ps_set (i := 8) sc__law_family.nd rfl (Or.inl rfl) (pe_callB (call_sorted false) (by rfl) D.b_sorted bt_sorted (pa_cons (pe_comp rfl (CompScope.of ["_law_k"] [0] ["_law_k", "_law_purse_here"] (defScope (top 19)) ["_law_purse_here", "_law_most", "_law_shape", "_law_names_here", "_law_family_here", "_law_k", "_law_kind", "_law_elders", "_law_order"] rfl rfl (by decide +kernel)) ⟨fun _ _ _ _ _ => (pg_name (i := 0) (show List.Nodup [("_law_k" : Str), ("_law_purse_here" : Str)] by decide +kernel) rfl (Or.inl (lookup_relabel_local rfl)) (.inr (lookup_relabel_local rfl))), fun _ _ _ _ _ => pts_nil, fun _ _ _ _ _ => (pe_tup (pa_cons (pe_callF D._law_take G__law_take (hr.mono (by omega)) (by rfl) (pa_cons (pv 1) (pa_cons pe_int pa_nil))) (pa_cons (pv 0) pa_nil)))⟩ (pi_range1 rfl D.b_range (pa_cons (pe_callB call_len_seq (by rfl) D.b_len bt_len (pa_cons (pv 4) pa_nil)) pa_nil))) pa_nil)))
      (pss_one (ps_ret (pe_callTy call_tuple_of (by rfl) D.b_tuple bt_tuple (pa_cons (pe_comp rfl (CompScope.of ["_law_number", "_law_k"] [4] ["_law_number", "_law_k", "_law_family_here"] (defScope (top 19)) ["_law_purse_here", "_law_most", "_law_shape", "_law_names_here", "_law_family_here", "_law_k", "_law_kind", "_law_elders", "_law_order"] rfl rfl (by decide +kernel)) ⟨fun _ _ _ _ _ => (pg_tup_K (K := K) (n := 2) rfl rfl (pgs_cons (pg_name (i := 0) (show List.Nodup [("_law_number" : Str), ("_law_k" : Str), ("_law_family_here" : Str)] by decide +kernel) rfl (Or.inl (lookup_relabel_local rfl)) (.inr (lookup_relabel_local rfl))) (pgs_cons (pg_name (i := 1) (show List.Nodup [("_law_number" : Str), ("_law_k" : Str), ("_law_family_here" : Str)] by decide +kernel) rfl (Or.inl (lookup_relabel_local rfl)) (.inr (lookup_relabel_local rfl))) pgs_nil))), fun _ _ _ _ _ => pts_nil, fun _ _ _ _ _ => (pe_ix (ix_list_K (K := K) rfl) (pv 2) (pv 1) (fun _ _ => rfl))⟩ (pi_list (pv 8))) pa_nil))))))))), ?_⟩
    refine ⟨_, rfl, p, 6, rfl, hp, by decide, by decide, fun sh a1 b1 c1 l1 u1 => ?_⟩
    refine ⟨_, rfl, _, rfl, _, rfl, p, n, rfl, Pu.upd, by omega, by omega, fun r a2 b2 c2 l2 u2 => ⟨_, _, rfl, rfl, Nat.zero_le _, fun u hu => ?_⟩⟩
    rw [upd_upd] at hu ⊢
    have pu : p ≠ u := Pu.upd.neN hu
    have hu0 : H u = none := by rw [upd_ne pu.symm] at hu; exact hu
    refine ⟨p, u, [], 1 + r, rfl, Pu.upd.upd_ne pu, upd_same, by omega, by show 0 + _ ≤ 25; omega, fun l ns H1 hl hns nd nwd hl1 o1 p1 => ?_⟩
    have o1 : Off p H H1 := (Off.upd.trans (Off.new hu)).trans o1
    have lp : l ≠ p := p1.ne hl1
    have hlH : H l = none := by
      rw [upd_ne (show l ≠ u from fun e => by rw [e, upd_same] at hl; cases hl), upd_ne lp] at hl
      exact hl
    have hns7 : ns.length ≤ 8 := by omega
    refine ⟨Nat.zero_le _, fun fa hfa => ?_⟩
    have pf : p ≠ fa := p1.neN hfa
    have lf : l ≠ fa := ne_of_none hl1 hfa
    have hfH : H fa = none := by
      cases q : H fa with
      | none => rfl
      | some o =>
        rw [o1 fa o pf.symm q] at hfa
        cases hfa
    refine ⟨_, rfl, l, _, rfl, SqL.of (by rw [upd_ne lf]; exact hl1), for_enum (K := K) (a := l) (xs := ns.map V.str) (fun i σ H2 => ∃ (rows : Fam) (ys : List V) (v5 v6 v7 : Option V), σ = [some (.ref p), some (.int n), some (.int sh), some (.ref l), some (.ref fa), v5, v6, v7, none] ∧
      nms rows = ns.take i ∧ (∀ r ∈ rows, (∃ j, ns[j]? = some r.1 ∧ ∀ e ∈ r.2, e ∈ ns.take j) ∧ r.2.length ≤ 8 ∧ r.2.Nodup) ∧ H2 fa = some (.lst ys) ∧ DpL H2 (rows.map rowT) ys ∧ H2 l = some (.lst (ns.map V.str)) ∧ Off p H H2 ∧ Pu H2 p)
      ⟨[], [], _, _, _, rfl, rfl, by simp, upd_same, .nil, by rw [upd_ne lf]; exact hl1, o1.trans (Off.new hfa), p1.upd_ne pf⟩ (fun i σ H2 _ ⟨_, _, _, _, _, _, _, _, _, _, e, _⟩ => SqL.of e) ?_ ?_⟩
    · rintro i x σ H2 q0 hi ⟨rows, ys, v5, v6, v7, rfl, hrn, hrs, hf2, dl, hl2, o2, p2⟩ hq0
      have hil : i < ns.length := by
        have := (List.getElem?_eq_some_iff.mp hi).1
        rwa [List.length_map] at this
      have ex : x = .str ns[i] := by
        rw [List.getElem?_map, List.getElem?_eq_getElem hil] at hi
        exact (Option.some.inj hi).symm
      subst ex
      have fp2 : fa ≠ p := pf.symm
      refine ⟨q0, _, rfl, SqT.of upd_same, rfl, _, _, rfl, _, _, rfl, rfl, ?_⟩
      have s0 : Same H2 (upd H2 q0 (.tup [.int i, .str ns[i]])) := Same.new hq0
      obtain ⟨ms, em, subm, lenm, ndm⟩ := cut_take nd none i
      refine ⟨_, rfl, _, rfl, _, rfl, _, rfl, l, _, rfl, SqL.of (s0 l _ hl2), fun m hm => ?_⟩
      have s1 := s0.trans (Same.new (o := .lst (cutV (ns.map V.str) none (some (i : Int)))) hm)
      refine ⟨p, m, ms, 4, rfl, p2.same s1, by rw [upd_same, em], by decide, by omega, fun q es H4 hq sub nde len o4 p4 => ?_⟩
      have o4 : Off p H2 H4 := s1.off.trans o4
      refine ⟨Eld (fun v => [some (.ref p), some (.int n), some (.int sh), some (.ref l), some (.ref fa), some (.int i), some (.str ns[i]), some v, none]) (ns.take i) p H2, ?_, ?_⟩
      · refine ⟨_, rfl, rfl, _, rfl, ite2 (fun hb => ?_) (fun hb => ⟨q, es, rfl, hq, fun x hx => subm x (sub x hx), ⟨by omega, nde⟩, o4, p4⟩)⟩
        refine ⟨_, rfl, _, rfl, _, _, rfl, rfl, _, _, rfl, _, rfl, _, rfl, _, rfl, l, _, rfl, SqL.of (o4 l _ lp hl2), fun m2 hm2 => ⟨m2, _, rfl, .inl ⟨SqL.of upd_same, fun q2 hq2 => ?_⟩⟩⟩
        obtain ⟨ms2, em2, sub2, len2, nd2⟩ := cut_take nd (some (if (i : Int) - 1 > 0 then (i : Int) - 1 else 0)) i
        have p5 := p4.upd_ne (o := .lst (cutV (ns.map V.str) (some (if (i : Int) - 1 > 0 then (i : Int) - 1 else 0)) (some (i : Int)))) (p4.neN hm2)
        exact ⟨q2, ms2, rfl, by rw [upd_same, em2], sub2, ⟨by omega, nd2⟩, o4.trans ((Off.new hm2).trans (Off.new hq2)), p5.upd_ne (p5.neN hq2)⟩
      · rintro σ' H5 ⟨q5, es5, rfl, hq5, sub5, len5, o5, p5⟩
        refine ⟨Eld (fun v => [some (.ref p), some (.int n), some (.int sh), some (.ref l), some (.ref fa), some (.int i), some (.str ns[i]), some v, none]) (ns.take i) p H2, ?_, ?_⟩
        · refine ⟨_, rfl, rfl, _, rfl, ite2 (fun hb => ?_) (fun hb => ⟨q5, es5, rfl, hq5, sub5, len5, o5, p5⟩)⟩
          refine ⟨_, rfl, _, rfl, _, _, rfl, rfl, _, _, rfl, _, rfl, _, rfl, _, rfl, l, _, rfl, SqL.of (o5 l _ lp hl2), fun m2 hm2 => ?_⟩
          obtain ⟨ms2, em2, sub2, len2, nd2⟩ := cut_take nd (some (if (i : Int) - 3 > 0 then (i : Int) - 3 else 0)) i
          have p6 := p5.upd_ne (o := .lst (cutV (ns.map V.str) (some (if (i : Int) - 3 > 0 then (i : Int) - 3 else 0)) (some (i : Int)))) (p5.neN hm2)
          refine ⟨_, rfl, p, 2, rfl, p6, by decide, by decide, fun r7 a7 b7 c7 l7 u7 => ⟨_, _, rfl, rfl, .inl ⟨by decide, by decide⟩, _, _, rfl, rfl, m2, _, _, rfl, rfl, SqL.of (by rw [upd_ne (p5.neN hm2).symm, upd_same]), ?_⟩⟩
          have o7 : Off p H2 (upd (upd H5 m2 (.lst (cutV (ns.map V.str) (some (if (i : Int) - 3 > 0 then (i : Int) - 3 else 0)) (some (i : Int))))) p (.lst [.int a7, .int b7, .int c7])) := o5.trans ((Off.new hm2).trans Off.upd)
          rcases (by omega : r7 = 0 ∨ r7 = 1) with rfl | rfl
          · refine .inl ⟨by decide, fun q6 hq6 => ⟨q6, _, rfl, .inl ⟨SqL.of upd_same, fun q8 hq8 => ?_⟩⟩⟩
            have p8 := (Pu.upd (H := upd H5 m2 (.lst (cutV (ns.map V.str) (some (if (i : Int) - 3 > 0 then (i : Int) - 3 else 0)) (some (i : Int))))) (p := p) (a := a7) (b := b7) (c := c7)).upd_ne (o := .lst (cutV (ns.map V.str) (some (if (i : Int) - 3 > 0 then (i : Int) - 3 else 0)) (some (i : Int)))) (Pu.upd.neN hq6)
            exact ⟨q8, ms2, rfl, by rw [upd_same, em2], sub2, ⟨by omega, nd2⟩, o7.trans ((Off.new hq6).trans (Off.new hq8)), p8.upd_ne (p8.neN hq8)⟩
          · refine .inr ⟨by decide, fun q6 hq6 => ⟨q6, _, rfl, .inl ⟨SqL.of upd_same, fun q8 hq8 => ?_⟩⟩⟩
            have p8 := (Pu.upd (H := upd H5 m2 (.lst (cutV (ns.map V.str) (some (if (i : Int) - 3 > 0 then (i : Int) - 3 else 0)) (some (i : Int))))) (p := p) (a := a7) (b := b7) (c := c7)).upd_ne (o := .lst (cutV (ns.map V.str) (some (if (i : Int) - 3 > 0 then (i : Int) - 3 else 0)) (some (i : Int))).reverse) (Pu.upd.neN hq6)
            exact ⟨q8, ms2.reverse, rfl, by rw [upd_same, em2, List.map_reverse], fun x hx => sub2 x (List.mem_reverse.mp hx), ⟨by rw [List.length_reverse]; omega, (List.reverse_perm ms2).nodup_iff.mpr nd2⟩, o7.trans ((Off.new hq6).trans (Off.new hq8)), p8.upd_ne (p8.neN hq8)⟩
        · rintro σ' H6 ⟨q6, es6, rfl, hq6, sub6, len6, o6, p6⟩
          refine ⟨Eld (fun v => [some (.ref p), some (.int n), some (.int sh), some (.ref l), some (.ref fa), some (.int i), some (.str ns[i]), some v, none]) (ns.take i) p H2, ?_, ?_⟩
          · refine ⟨_, rfl, rfl, _, rfl, ite2 (fun hb => ?_) (fun hb => ⟨q6, es6, rfl, hq6, sub6, len6, o6, p6⟩)⟩
            refine ⟨_, rfl, _, rfl, _, rfl, _, rfl, l, _, rfl, SqL.of (o6 l _ lp hl2), fun m2 hm2 => ⟨_, rfl, _, _, rfl, rfl, _, rfl, l, _, rfl, .inl (SqL.of (by rw [upd_ne (ne_of_none (o6 l _ lp hl2) hm2)]; exact o6 l _ lp hl2)), rfl, p, m2, ms, _, rfl, p6.upd_ne (p6.neN hm2), by rw [upd_same, em], by omega, ndm, fun q7 es7 H7 hq7 sub7 len7 nd7 o7 p7 => ?_⟩⟩
            exact ⟨q7, es7, rfl, hq7, fun x hx => subm x (sub7 x hx), ⟨by omega, nd7⟩, o6.trans ((Off.new hm2).trans o7), p7⟩
          · rintro σ' H7 ⟨q7, es7, rfl, hq7, sub7, len7, o7, p7⟩
            have hf7 : H7 fa = some (.lst ys) := o7 fa _ fp2 hf2
            have hyl : ys.length = i := by
              have e1 := dl.length
              rw [List.length_map] at e1
              have e2 := congrArg List.length hrn
              rw [List.length_map, List.length_take] at e2
              omega
            refine ⟨_, rfl, .inl ⟨rfl, _, SqL.of hf7⟩, _, rfl, _, rfl, by show 2 ≤ sizeLine; decide, fun q8 hq8 => ⟨fa, ys, .ref q8, rfl, rfl, by rw [upd_ne (ne_of_none hf7 hq8)]; exact hf7, by omega, ?_⟩⟩
            have tu : Tups H7 (upd (upd H7 q8 (.tup [.str ns[i], .ref q7])) fa (.lst (ys ++ [.ref q8]))) := fun c zs e => by
              rw [upd_ne (ne_of e hf7 (fun z => nomatch z)), upd_ne (ne_of_none e hq8)]
              exact e
            have tu0 : Tups H2 H7 := fun c zs e => by
              obtain ⟨a, b, cc, ep⟩ := p2
              exact o7 c _ (ne_of e ep (fun z => nomatch z)) e
            have q8f : q8 ≠ fa := fun e => by
              rw [e, hf7] at hq8
              cases hq8
            refine ⟨rows ++ [(ns[i], es7)], ys ++ [.ref q8], _, _, _, rfl, ?_, ?_, upd_same, ?_, ?_, ?_, ?_⟩
            · show List.map (·.1) (rows ++ [(ns[i], es7)]) = _
              rw [List.map_append]
              show nms rows ++ [ns[i]] = _
              rw [hrn, List.take_succ, List.getElem?_eq_getElem hil]
              rfl
            · intro r hr'
              rcases List.mem_append.mp hr' with h | h
              · exact hrs r h
              · rw [List.mem_singleton.mp h]
                exact ⟨⟨i, List.getElem?_eq_getElem hil, sub7⟩, len7⟩
            · rw [List.map_append]
              refine ((dl.mono (tu0.trans tu)).append (.cons (K01.Dp.row (e := q7) ?_ (tu q7 _ hq7)) .nil))
              rw [upd_ne q8f, upd_same]
            · have h7 : H7 l = some (.lst (ns.map V.str)) := o7 l _ lp hl2
              rw [upd_ne lf, upd_ne (ne_of_none h7 hq8)]
              exact h7
            · intro b o hb e
              rw [upd_ne (ne_of_none e hfH)]
              exact (Off.new hq8 : L2.Off p _ _) b o hb (o7 b o hb (o2 b o hb e))
            · exact (p7.upd_ne (p7.neN hq8)).upd_ne pf
    · rintro σ H2 ⟨rows, ys, v5, v6, v7, rfl, hrn, hrs, hf2, dl, hl2, o2, p2⟩
      have hrn : nms rows = ns := by rw [hrn, List.length_map, List.take_of_length_le (Nat.le_refl _)]
      have hrl : rows.length = ns.length := by rw [← hrn]; exact (List.length_map _).symm
      have good : GoodF rows := ⟨by rw [hrn]; exact nd, fun r hr e he => by obtain ⟨⟨j, _, h⟩, _⟩ := hrs r hr; rw [hrn]; exact List.mem_of_mem_take (h e he), by omega, by omega, fun r hr => (hrs r hr).2.1, fun r hr => (hrs r hr).2.2, ⟨ns, nd, fun x => by rw [hrn], fun r hr => (hrs r hr).1⟩, fun x hx => (nwd x (by rw [← hrn]; exact hx)).2⟩
      have hyl : ys.length = rows.length := by have := dl.length; rwa [List.length_map] at this
      refine ⟨_, rfl, fa, _, rfl, .inl (SqL.of hf2), _, rfl, by omega, by omega, fun Dd hD => ?_⟩
      have pD : p ≠ Dd := p2.neN hD
      have fD : fa ≠ Dd := ne_of_none hf2 hD
      have hDH : H Dd = none := by
        cases q : H Dd with
        | none => rfl
        | some o =>
          rw [o2 Dd o pD.symm q] at hD
          cases hD
      have fp2 : fa ≠ p := pf.symm
      refine comp_by (n := ((ys.length : Nat) : Int).toNat) (fun i zs H3 => Paired (AtJ H3) zs (List.range i) ∧ H3 Dd = some (.lst zs) ∧ H3 fa = some (.lst ys) ∧ DpL H3 (rows.map rowT) ys ∧ Off p H H3 ∧ Pu H3 p)
        ⟨.nil, upd_same, by rw [upd_ne fD]; exact hf2, dl.mono (Same.tups (Same.new hD)), o2.trans (Off.new hD), p2.upd_ne pD⟩ ?_ ?_
      · rintro zs H3 ⟨pz, hD3, hf3, dl3, o3, p3⟩
        have hzl : zs.length = ys.length := by have := Paired.length pz; rw [List.length_range] at this; omega
        refine ⟨Nat.le_refl _, Dd, zs, rfl, SqL.of hD3, by omega, ?_, fun d qs pq hd => ?_⟩
        · intro z hz'
          obtain ⟨i, hi, rfl⟩ := List.getElem_of_mem hz'
          obtain ⟨q, j, e, hq⟩ := paired_get pz i hi (by rw [← Paired.length pz]; exact hi)
          exact ⟨q, j, _, e, hq, by unfold SecS; rw [if_neg Bool.false_ne_true]; exact ⟨_, rfl⟩⟩
        obtain ⟨js, pj, pqj⟩ := K01.Paired.perm pq pz
        have pd : p ≠ d := p3.neN hd
        have fd : fa ≠ d := ne_of_none hf3 hd
        have hql : qs.length = ys.length := by rw [pq.length_eq]; exact hzl
        have hjl : js.length = qs.length := (Paired.length pqj).symm
        have hjm : ∀ j ∈ js, j < rows.length := fun j hj => by
          have := List.mem_range.mp (pj.mem_iff.mp hj)
          omega
        refine ⟨_, rfl, d, rfl, ⟨_, SqL.of upd_same⟩, fun D2 hD2 => ?_⟩
        have dD2 : d ≠ D2 := ne_of_none upd_same hD2
        have s4 : Same H3 (upd H3 d (.lst qs)) := Same.new hd
        have fD2 : fa ≠ D2 := ne_of_none (s4 fa _ hf3) hD2
        have p4 : Pu (upd H3 d (.lst qs)) p := p3.same s4
        have s5 : ∀ o, Same H3 (upd (upd H3 d (.lst qs)) D2 o) := fun o => s4.trans (Same.new hD2)
        refine comp_by (n := qs.length) (fun i ws H5 => ws = (js.take i).map (fun j => ys.getD j .non) ∧ H5 = upd (upd H3 d (.lst qs)) D2 (.lst ws)) ⟨rfl, rfl⟩ ?_ ?_
        · rintro ws H5 ⟨rfl, rfl⟩
          rw [List.take_of_length_le (by omega)]
          refine ⟨⟨_, SqL.of (by rw [upd_ne dD2, upd_same]), Nat.le_refl _⟩, D2, _, rfl, .inl ⟨SqL.of upd_same, fun q hq => ?_⟩⟩
          have s6 := (s5 (.lst (js.map fun j => ys.getD j .non))).trans (Same.new (o := .tup (js.map fun j => ys.getD j .non)) hq)
          refine k (.ref q) (js.map fun j => rows.getD j ("", [])) _ (L2.Dp.tup upd_same ?_) (good.perm ?_) (by rw [List.length_map]; omega) (o3.trans s6.off) (p3.same s6)
          · have key : ∀ js : List Nat, (∀ j ∈ js, j < rows.length) → DpL H3 ((js.map fun j => rows.getD j ("", [])).map rowT) (js.map fun j => ys.getD j .non) := by
              intro js
              induction js with
              | nil => exact fun _ => .nil
              | cons j js ih =>
                intro h
                have hj : j < rows.length := h j List.mem_cons_self
                obtain ⟨y, ey, dy⟩ := dl3.get (i := j) (t := rowT rows[j]) (by rw [List.getElem?_map, List.getElem?_eq_getElem hj]; rfl)
                have e1 : rows.getD j ("", []) = rows[j] := by simp [hj]
                have e2 : ys.getD j .non = y := by rw [List.getD_eq_getElem?_getD, ey]; rfl
                rw [List.map_cons, List.map_cons, List.map_cons, e1, e2]
                exact .cons dy (ih fun j' h' => h j' (List.mem_cons_of_mem _ h'))
            exact (key js hjm).mono (Same.tups s6)
          · have := pj.map fun j => rows.getD j ("", [])
            have e3 : (List.range ((ys.length : Nat) : Int).toNat).map (fun j => rows.getD j ("", [])) = rows := by
              apply List.ext_getElem (by rw [List.length_map, List.length_range]; omega)
              intro i a b
              simp [b]
            rw [e3] at this
            exact this
        · rintro i ws H5 hi ⟨rfl, rfl⟩
          have ei : qs[i]? = some qs[i] := List.getElem?_eq_getElem hi
          have hd5 : (upd (upd H3 d (.lst qs)) D2 (.lst ((js.take i).map fun j => ys.getD j .non))) d = some (.lst qs) := by rw [upd_ne dD2, upd_same]
          refine ⟨⟨_, _, SqL.of hd5, ei⟩, ?_⟩
          rintro y H6 ⟨rfl, yy⟩ σo ho
          obtain ⟨o, o', rfl⟩ := own2 ho
          have ey := yy _ (SqL.of hd5)
          rw [ei] at ey
          have ey := (Option.some.inj ey).symm
          have hij : i < js.length := by omega
          obtain ⟨q', r', e, hq'⟩ := paired_get pqj i hi hij
          rw [e] at ey
          subst ey
          have hj := hjm js[i] (List.getElem_mem hij)
          have ey : ys[js[i]]? = some ys[js[i]] := List.getElem?_eq_getElem (by omega)
          refine ⟨q', _, rfl, SqT.of (s5 _ q' _ hq'), rfl, _, _, rfl, _, _, rfl, rfl, ⟨[_, _], rfl, rfl⟩, yes_by ⟨_, rfl, _, rfl, fa, ys, _, _, rfl, rfl, SqL.of (s5 _ fa _ hf3), atI_nat ey, by rw [List.length_map, List.length_take]; omega, upd_same, less_by hi ⟨?_, by rw [upd_upd]⟩⟩⟩
          rw [List.take_succ, List.getElem?_eq_getElem hij, List.map_append]
          congr 1
          show [ys[js[i]]] = [ys.getD js[i] .non]
          rw [List.getD_eq_getElem?_getD, ey]
          rfl
      · rintro i zs H3 hi ⟨pz, hD3, hf3, dl3, o3, p3⟩
        refine ⟨hi, ?_⟩
        rintro x H4 ⟨rfl, rfl⟩ σo ho
        obtain ⟨o, rfl⟩ := own1 ho
        have hzl : zs.length = i := by have := Paired.length pz; rwa [List.length_range] at this
        refine ⟨⟨[_], rfl, rfl⟩, yes_by ⟨_, rfl, p, 997, rfl, p3, by decide, by decide, fun r a4 b4 c4 l4 u4 => ⟨_, rfl, by show 2 ≤ sizeLine; decide, fun q hq => ?_⟩⟩⟩
        have qD : q ≠ Dd := by
          intro e
          rw [e, upd_ne pD.symm, hD3] at hq
          cases hq
        have qp : q ≠ p := fun e => by
          rw [e, upd_same] at hq
          cases hq
        rw [upd_ne qp] at hq
        have tu : ∀ o, Tups H4 (upd (upd (upd H4 p (.lst [.int a4, .int b4, .int c4])) q (.tup [.int r, .int (0 + (i : Int))])) Dd (.lst o)) := fun o c zs' e => by
          obtain ⟨a, b, cc, ep⟩ := p3
          rw [upd_ne (ne_of e hD3 (fun z => nomatch z)), upd_ne (ne_of_none e hq), upd_ne (ne_of e ep (fun z => nomatch z))]
          exact e
        refine ⟨by omega, by rw [upd_ne qD.symm, upd_ne pD.symm]; exact hD3, less_by hi ⟨?_, upd_same, ?_, dl3.mono (tu _), ?_, ?_⟩⟩
        · rw [List.range_succ]
          have key : ∀ {as : List V} {bs : List Nat} {y : V} {j : Nat} {F : V → Nat → Prop}, Paired F as bs → F y j → Paired F (as ++ [y]) (bs ++ [j]) := by
            intro as bs y j F h hy
            induction h with
            | nil => exact .cons hy .nil
            | cons a _ ih => exact .cons a ih
          refine key (Paired.mapP pz fun y j ⟨q', r', e, hq'⟩ => ⟨q', r', e, tu _ q' _ hq'⟩) ⟨q, r, rfl, ?_⟩
          rw [upd_ne qD, upd_same]
          simp
        · rw [upd_ne fD, upd_ne (ne_of_none hf3 hq), upd_ne fp2]
          exact hf3
        · intro b o hb e
          rw [upd_ne (ne_of_none e hDH), upd_ne (fun z => by rw [← z] at hq; rw [o3 b o hb e] at hq; cases hq), upd_ne hb]
          exact o3 b o hb e
        · exact (Pu.upd.upd_ne qp.symm).upd_ne pD
end
end K01
end
section
set_option autoImplicit false
namespace L2
open PySem PySem.Spec PyProof.Rows
def rInC : R2 := fun x y H Q => ∃ c j, x = .str ⟨#[c]⟩ ∧ y = .str j ∧ Q (.bl (decide (c ∈ j.cps.toList))) H
theorem op_inC {X : Cx} : OpR X (compareOp .In) rInC := by
  intro pins s σ H x y v u Q I rx ry h
  obtain ⟨c, j, rfl, rfl, q⟩ := h
  obtain ⟨t, rfl⟩ := rx
  obtain ⟨t', rfl⟩ := ry
  refine in_str ⟨.bl _, H, I, rfl, ?_⟩
  rw [PySem.StrLaws.found_one]
  exact q
def tyD : PyData → String
  | .none => "NoneType"
  | .bool _ => "bool"
  | .int _ => "int"
  | .str _ => "str"
  | .list _ => "list"
  | .tuple _ => "tuple"
  | .dict _ => "dict"
theorem RdV.ty {K : PySem.W.Frag} {H : Hp} {v : V} {d : PyData} (h : RdV H v d) : TyOf K H v (.type (tyD d)) := by
  cases h with
  | non => exact .non
  | bl b => exact .bl b
  | int i => exact .int i
  | str x => exact .str x
  | tup e _ => exact .tup e
  | lst e _ => exact .lst e
  | dct e _ => exact .dK e
def isTu : PyData → Bool
  | .tuple _ => true
  | _ => false
def isSt : PyData → Bool
  | .str _ => true
  | _ => false
theorem kit_T (K : PySem.W.Frag) (d : PyData) : PySem.W.kitOne K (.type (tyD d)) (.type "tuple") = some (isTu d) := by
  cases d <;> first | exact kit_same K "tuple" | rfl
theorem kit_S (K : PySem.W.Frag) (d : PyData) : PySem.W.kitOne K (.type (tyD d)) (.type "str") = some (isSt d) := by
  cases d <;> first | exact kit_same K "str" | rfl
theorem isTu_t {d : PyData} (h : isTu d = true) : ∃ ds, d = .tuple ds := by
  cases d <;> first | exact ⟨_, rfl⟩ | cases h
theorem isSt_t {d : PyData} (h : isSt d = true) : ∃ x, d = .str x := by
  cases d <;> first | exact ⟨_, rfl⟩ | cases h
theorem RdV.of_tuple {H : Hp} {v : V} {ds : List PyData} (h : RdV H v (.tuple ds)) : ∃ a xs, v = .ref a ∧ H a = some (.tup xs) ∧ RdA H xs ds := by
  cases h with
  | tup e q => exact ⟨_, _, rfl, e, q⟩
theorem RdV.of_str {H : Hp} {v : V} {x : Str} (h : RdV H v (.str x)) : v = .str x := by
  cases h
  rfl
theorem RdA.get {H : Hp} : ∀ {vs : List V} {ds : List PyData}, RdA H vs ds → ∀ {i : Nat} {d : PyData}, ds[i]? = some d → ∃ v, vs[i]? = some v ∧ RdV H v d
  | _, _, .nil, _, _, h => nomatch h
  | _, _, .cons q r, 0, _, h => by cases h; exact ⟨_, rfl, q⟩
  | _, _, .cons q r, i + 1, _, h => RdA.get r h
theorem RdA.of_strs {H : Hp} : ∀ {xs : List Str} {vs : List V}, RdA H vs (xs.map PyData.str) → vs = xs.map V.str
  | [], _, .nil => rfl
  | x :: xs, _, .cons q r => by rw [q.of_str, RdA.of_strs r]; rfl
mutual
theorem RdV.same' {H H' : Hp} (s : Same H H') : ∀ {v : V} {d : PyData}, RdV H v d → RdV H' v d
  | _, _, .non => .non
  | _, _, .bl b => .bl b
  | _, _, .int i => .int i
  | _, _, .str x => .str x
  | _, _, .tup e q => .tup (s _ _ e) (RdA.same' s q)
  | _, _, .lst e q => .lst (s _ _ e) (RdA.same' s q)
  | _, _, .dct e q => .dct (s _ _ e) (RdA.same' s q)
theorem RdA.same' {H H' : Hp} (s : Same H H') : ∀ {vs : List V} {ds : List PyData}, RdA H vs ds → RdA H' vs ds
  | _, _, .nil => .nil
  | _, _, .cons q r => .cons (RdV.same' s q) (RdA.same' s r)
end
mutual
theorem RdV.dp {H : Hp} : ∀ (t : T) {v : V}, RdV H v (toD t) → Dp H t v
  | .non, v, h => by
    rw [toD] at h
    cases h
    rw [Dp]
  | .int i, v, h => by
    rw [toD] at h
    cases h
    rw [Dp]
  | .str x, v, h => by
    rw [toD] at h
    cases h
    rw [Dp]
  | .tup ts, v, h => by
    rw [toD] at h
    obtain ⟨a, xs, rfl, e, q⟩ := h.of_tuple
    exact L2.Dp.tup e (RdA.dp ts q)
theorem RdA.dp {H : Hp} : ∀ (ts : List T) {vs : List V}, RdA H vs (toDA ts) → DpL H ts vs
  | [], vs, h => by
    rw [toDA] at h
    cases h
    exact .nil
  | t :: ts, vs, h => by
    rw [toDA] at h
    cases h with
    | cons q r => exact .cons (RdV.dp t q) (RdA.dp ts r)
end
def Asc (x : Str) : Prop := x.cps.all (· < 128) = true
theorem Asc.cps {x : Str} (h : Asc x) : Cps x := fun c hc => by
  have := Array.all_eq_true_iff_forall_mem.mp h c (Array.mem_toList_iff.mp hc)
  have h2 : c < 128 := by simpa using this
  have e : (16 : Nat) ^ 8 = 4294967296 := by decide
  omega
theorem Asc.of {x : Str} (h : ∀ c ∈ x.cps.toList, c < 128) : Asc x := Array.all_eq_true_iff_forall_mem.mpr fun c hc => decide_eq_true (h c (Array.mem_toList_iff.mpr hc))
theorem Asc.to {x : Str} (h : Asc x) : ∀ c ∈ x.cps.toList, c < 128 := fun c hc => by
  have := Array.all_eq_true_iff_forall_mem.mp h c (Array.mem_toList_iff.mp hc)
  simpa using this
theorem Lw.asc {x : Str} (h : Lw x) : Asc x := .of fun c hc => Nat.lt_of_le_of_lt (abc_lt c (h c hc)).2 (by decide)
theorem Asc.app {x y : Str} (h : Asc x) (g : Asc y) : Asc (x ++ y) := .of fun c hc => by
  have hc : c ∈ (x.cps ++ y.cps).toList := hc
  rw [Array.toList_append] at hc
  rcases List.mem_append.mp hc with q | q
  · exact h.to c q
  · exact g.to c q
theorem Asc.slice {x : Str} (h : Asc x) (lo hi : Option Int) : Asc (Txt.slice x lo hi) := .of fun c hc => by
  unfold Txt.slice at hc
  split at hc
  · exact h.to c hc
  · obtain ⟨i, _, e⟩ := List.mem_filterMap.mp (show c ∈ (List.filterMap (x.cps[·]?) _) from hc)
    exact h.to c (Array.mem_toList_iff.mpr (Array.mem_of_getElem? e))
mutual
def gd : PyData → Prop
  | .none | .bool _ => True
  | .int i => (0 ≤ i ∧ i < 1000000000) ∨ i = -1 ∨ i = -3
  | .str x => x.length ≤ 4000 ∧ Asc x
  | .list xs | .tuple xs => gdA xs
  | .dict kvs => gdK kvs
def gdA : List PyData → Prop
  | [] => True
  | d :: ds => gd d ∧ gdA ds
def gdK : List (PyData × PyData) → Prop
  | [] => True
  | (k, v) :: r => gd k ∧ gd v ∧ gdK r
end
mutual
def wt : PyData → Nat
  | .none | .bool _ | .int _ => 1
  | .str x => x.length + 1
  | .list xs | .tuple xs => 1 + wtA xs
  | .dict kvs => 1 + wtK kvs
def wtA : List PyData → Nat
  | [] => 0
  | d :: ds => wt d + wtA ds
def wtK : List (PyData × PyData) → Nat
  | [] => 0
  | (k, v) :: r => wt k + wt v + wtK r
end
theorem gdA_iff : ∀ {ds : List PyData}, gdA ds ↔ ∀ d ∈ ds, gd d
  | [] => by simp [gdA]
  | d :: ds => by
    rw [gdA, gdA_iff]
    simp
theorem gdA_app {ds es : List PyData} : gdA (ds ++ es) ↔ gdA ds ∧ gdA es := by
  rw [gdA_iff, gdA_iff, gdA_iff]
  exact ⟨fun h => ⟨fun d hd => h d (List.mem_append_left _ hd), fun d hd => h d (List.mem_append_right _ hd)⟩, fun h d hd => (List.mem_append.mp hd).elim (h.1 d) (h.2 d)⟩
theorem wtA_app : ∀ (ds es : List PyData), wtA (ds ++ es) = wtA ds + wtA es
  | [], es => by rw [List.nil_append, wtA, Nat.zero_add]
  | d :: ds, es => by rw [List.cons_append, wtA, wtA, wtA_app ds es, Nat.add_assoc]
theorem wt_pos : ∀ d : PyData, 1 ≤ wt d
  | .none | .bool _ | .int _ => by rw [wt]; exact Nat.le_refl _
  | .str x => by rw [wt]; omega
  | .list xs | .tuple xs => by rw [wt]; omega
  | .dict kvs => by rw [wt]; omega
theorem wtA_len : ∀ ds : List PyData, ds.length ≤ wtA ds
  | [] => Nat.zero_le _
  | d :: ds => by
    have := wtA_len ds
    have := wt_pos d
    rw [wtA, List.length_cons]
    omega
mutual
theorem gd_shown : ∀ d : PyData, gd d → d.showable = true ∧ d.shown.length + 2 ≤ 14 * wt d
  | .none, _ => by
    rw [wt]
    exact ⟨by simp only [PyData.showable], Nat.le_trans (Nat.add_le_add_right Shw.non.sz 2) (by decide)⟩
  | .bool b, _ => by
    rw [wt]
    exact ⟨by simp only [PyData.showable], Nat.le_trans (Nat.add_le_add_right (Shw.bl b).sz 2) (by decide)⟩
  | .int i, h => by
    rw [gd] at h
    rw [wt]
    rcases h with ⟨h0, h1⟩ | rfl | rfl
    · exact ⟨(Shw.nat h0 h1).sh, Nat.le_trans (Nat.add_le_add_right (Shw.nat h0 h1).sz 2) (by decide)⟩
    · exact ⟨Shw.neg1.sh, Nat.le_trans (Nat.add_le_add_right Shw.neg1.sz 2) (by decide)⟩
    · exact ⟨by simp only [PyData.showable]; decide +kernel, by simp only [PyData.shown]; decide +kernel⟩
  | .str x, h => by
    rw [gd] at h
    rw [wt]
    have := PySem.StrLaws.reprText_len x h.2.cps
    refine ⟨by simp only [PyData.showable], ?_⟩
    simp only [PyData.shown]
    omega
  | .list xs, h => by
    rw [gd] at h
    obtain ⟨a, b⟩ := gd_shownA xs h
    rw [wt]
    refine ⟨by simp only [PyData.showable]; exact a, ?_⟩
    simp only [PyData.shown]
    unfold listText
    rw [strLen_append]
    have e1 : (("]" : String) : Str).length = 1 := rfl
    have e2 : (("[" : String) : Str).length = 1 := rfl
    have := textFrom_le (PyData.shownAll xs) 0 "["
    omega
  | .tuple xs, h => by
    rw [gd] at h
    obtain ⟨a, b⟩ := gd_shownA xs h
    rw [wt]
    refine ⟨by simp only [PyData.showable]; exact a, ?_⟩
    simp only [PyData.shown]
    unfold tupleText
    rw [strLen_append, strLen_append]
    have e1 : (("(" : String) : Str).length = 1 := rfl
    have e2 : ((if (PyData.shownAll xs).length == 1 then ",)" else ")" : String) : Str).length ≤ 2 := by split <;> decide
    have := join_le (PyData.shownAll xs)
    omega
  | .dict kvs, h => by
    rw [gd] at h
    obtain ⟨a, b⟩ := gd_shownK kvs h
    rw [wt]
    refine ⟨by simp only [PyData.showable]; exact a, ?_⟩
    simp only [PyData.shown]
    unfold dictText
    rw [strLen_append, strLen_append]
    have e1 : (("{" : String) : Str).length = 1 := rfl
    have e2 : (("}" : String) : Str).length = 1 := rfl
    have := join_le (PyData.shownKv kvs)
    omega
theorem gd_shownA : ∀ ds : List PyData, gdA ds → PyData.showableAll ds = true ∧ piled (PyData.shownAll ds) ≤ 14 * wtA ds
  | [], _ => ⟨by simp only [PyData.showableAll], by simp only [PyData.shownAll]; exact Nat.zero_le _⟩
  | d :: ds, h => by
    rw [gdA] at h
    obtain ⟨a, b⟩ := gd_shown d h.1
    obtain ⟨c, e⟩ := gd_shownA ds h.2
    refine ⟨by simp only [PyData.showableAll, a, c, Bool.and_self], ?_⟩
    simp only [PyData.shownAll]
    rw [piled_cons, wtA]
    omega
theorem gd_shownK : ∀ kvs : List (PyData × PyData), gdK kvs → PyData.showableKv kvs = true ∧ piled (PyData.shownKv kvs) ≤ 14 * wtK kvs
  | [], _ => ⟨by simp only [PyData.showableKv], by simp only [PyData.shownKv]; exact Nat.zero_le _⟩
  | (k, v) :: r, h => by
    rw [gdK] at h
    obtain ⟨a, b⟩ := gd_shown k h.1
    obtain ⟨a2, b2⟩ := gd_shown v h.2.1
    obtain ⟨c, e⟩ := gd_shownK r h.2.2
    refine ⟨by simp only [PyData.showableKv, a, a2, c, Bool.and_self], ?_⟩
    simp only [PyData.shownKv]
    rw [piled_cons, wtK, strLen_append, strLen_append]
    have e3 : ((": " : String) : Str).length = 2 := rfl
    omega
end
structure Th (d : PyData) : Prop where
  g : gd d
  w : wt d ≤ 1900
  dp : d.depth ≤ 50
  nl : d.hasDict = true → noL d = true
end L2
end
section
set_option autoImplicit false
namespace K01
open PySem PyProof.Rows L2
def NmD (d : PyData) : Prop := ∃ x, d = .str x ∧ Nm x
def rowD (r : Str × List Str) : PyData := .tuple [.str r.1, .tuple (r.2.map .str)]
theorem toDA_strs (es : List Str) : toDA (es.map T.str) = es.map PyData.str := by
  rw [toDA_map, List.map_map]
  apply List.map_congr_left
  intro x _
  show toD (.str x) = _
  rw [toD]
theorem toD_row (r : Str × List Str) : toD (rowT r) = rowD r := by
  unfold rowT rowD
  rw [toD, toDA, toDA, toDA, toD, toD, toDA_strs]
theorem toD_fam (f : Fam) : toD (famT f) = .tuple (f.map rowD) := by
  unfold famT
  rw [toD, toDA_map, List.map_map]
  congr 1
  apply List.map_congr_left
  intro r _
  exact toD_row r
inductive Pl (f : Fam) : Str → Prop
  | mk {r : Str × List Str} : r ∈ f → (∀ e ∈ r.2, Pl f e) → Pl f r.1
def RowOk (r : Str × List Str) : Prop := Nm r.1 ∧ (∀ e ∈ r.2, Nm e) ∧ r.2.Nodup
def IsF (d : PyData) : Prop := ∃ f : Fam, d = .tuple (f.map rowD) ∧ 1 ≤ f.length ∧ f.length ≤ 7 ∧ (∀ r ∈ f, RowOk r) ∧ (nms f).Nodup ∧ ∀ x ∈ nms f, Pl f x
theorem rowD_inj {r q : Str × List Str} (h : rowD r = rowD q) : r = q := by
  unfold rowD at h
  injection h with h
  injection h with h1 h2
  injection h1 with h1
  injection h2 with h2 _
  injection h2 with h2
  have e := List.map_inj_right (f := PyData.str) (fun a b e => by injection e) |>.mp h2
  exact Prod.ext h1 e
theorem famD_inj {f g : Fam} (h : PyData.tuple (f.map rowD) = .tuple (g.map rowD)) : f = g := by
  injection h with h
  exact List.map_inj_right (f := rowD) (fun a b e => rowD_inj e) |>.mp h
section
variable {P : Program} {w : World} {K : PySem.W.Frag} {mg : Str → Option Value} {base : Heap} {t : Adr}
def spTupOf : Sp := fun vs H Q _ => ∃ (v : V) (d : PyData) (n : Nat), vs = [v, .int n] ∧ RdV H v d ∧ Q (.bl (dcd (∃ ds, d = .tuple ds ∧ ds.length = n))) H
theorem ok_tupOf (D : Defs K mg t) : FnOk P w K mg base CX0 1 t.is_tuple_of.1 t.is_tuple_of.2 ["thing", "many"] spTupOf := by
  refine D.is_tuple_of.fn.ok sc_is_tuple_of (fun vs H Q E h => ?_) (fun cdv A outer s H vs Q E hr h => ?_)
  · obtain ⟨v, d, n, rfl, _⟩ := h
    rfl
  · obtain ⟨v, d, n, rfl, rd, k⟩ := h
    refine ⟨_, (pss_one (ps_ret (pe_and (pe_callB call_isinst (by rfl) D.b_isinstance bt_isinstance (pa_cons (pv 0) (pa_cons (pe_bltn (v := V.ty "tuple") rfl D.b_tuple bt_tuple rfl) pa_nil))) (pe_one (pe_cmpR op_eq (pe_callB call_len_seq (by rfl) D.b_len bt_len (pa_cons (pv 0) pa_nil)) (pv 1) (nomark _)))))), ?_⟩
    refine ⟨_, rfl, _, _, _, isTu d, rfl, rd.ty, kit_T K d, _, rfl, ?_⟩
    cases hb : isTu d with
    | true =>
      obtain ⟨ds, rfl⟩ := isTu_t hb
      obtain ⟨a, xs, rfl, ha, rl⟩ := rd.of_tuple
      have hl := rl.length
      refine iteT ⟨_, rfl, a, _, rfl, .inr (SqT.of ha), _, rfl, rfl, ?_⟩
      by_cases e : ds.length = n
      · rw [dcd_t ⟨ds, rfl, e⟩] at k
        rw [decide_eq_true (by rw [hl, e])]
        exact k
      · rw [dcd_f (fun ⟨es, e1, e2⟩ => by injection e1 with e1; exact e (by rw [e1]; exact e2))] at k
        rw [decide_eq_false (fun z => by injection z with z; omega)]
        exact k
    | false =>
      rw [dcd_f (fun ⟨es, e1, _⟩ => by rw [e1] at hb; cases hb)] at k
      exact iteF k
theorem all_letters (x : Str) : (x.cps.toList.map fun c => decide (c ∈ abc.cps.toList)).all id = dcd (Lw x) := by
  refine dcd_of ?_
  rw [List.all_map, List.all_eq_true]
  exact ⟨fun h c hc => of_decide_eq_true (h c hc), fun h c hc => decide_eq_true (h c hc)⟩
def spName : Sp := fun vs H Q _ => ∃ (v : V) (d : PyData), vs = [v] ∧ RdV H v d ∧ gd d ∧ ∀ H', Same H H' → Q (.bl (dcd (NmD d))) H'
theorem ok_name (D : Defs K mg t) (GL : Glb mg) : FnOk P w K mg base CX0 1 t.is_name.1 t.is_name.2 ["thing"] spName := by
  obtain ⟨tk1, hLET⟩ := GL.g_LETTERS
  obtain ⟨tk2, hMOL⟩ := GL.g_MOST_LETTERS
  have hz : sizeLine = 16777216 := sizeLine_eq
  refine D.is_name.fn.ok sc_is_name (fun vs H Q E h => ?_) (fun cdv A outer s H vs Q E hr h => ?_)
  · obtain ⟨v, d, rfl, _⟩ := h
    rfl
  · obtain ⟨v, d, rfl, rd, g, k⟩ := h
    refine ⟨_, (pss_cons (ps_if (PW.pt (pw_or (pt_not (pt_val (pe_callB call_isinst (by rfl) D.b_isinstance bt_isinstance (pa_cons (pv 0) (pa_cons (pe_bltn (v := V.ty "str") rfl D.b_str bt_str rfl) pa_nil))))) (pw_or1 (pt_not (pt_chain op_le op_le pe_int (pe_callB call_len_str (by rfl) D.b_len bt_len (pa_cons (pv 0) pa_nil)) (pe_glob (v := V.int 6) (by rfl) hMOL ⟨_, rfl⟩))))))
      (pss_one (ps_ret pe_bl))
      pss_nil)
      (pss_one (ps_ret (pe_callB (call_all rfl) (by rfl) D.b_all bt_all (pa_cons (pe_comp rfl (CompScope.of ["sign"] [] ["sign"] (defScope (top 5)) ["thing"] rfl rfl (by decide +kernel)) ⟨fun _ _ _ _ _ => (pg_name (i := 0) (show List.Nodup [("sign" : Str)] by decide +kernel) rfl (Or.inl (lookup_relabel_local rfl)) (.inr (lookup_relabel_local rfl))), fun _ _ _ _ _ => pts_nil, fun _ _ _ _ _ => (pe_cmpR op_inC (pv 0) (pe_glob (v := V.str abc) (by rfl) hLET ⟨_, rfl⟩) (by with_unfolding_all rfl))⟩ (pi_str (pv 0))) pa_nil))))), ?_⟩
    refine ⟨_, rfl, _, _, _, isSt d, rfl, rd.ty, kit_S K d, _, rfl, ?_⟩
    cases hb : isSt d with
    | false =>
      have kf := k H (Same.refl H)
      rw [dcd_f (fun ⟨x, e, _⟩ => by rw [e] at hb; cases hb)] at kf
      exact iteT (iteT kf)
    | true =>
      obtain ⟨x, rfl⟩ := isSt_t hb
      obtain rfl := rd.of_str
      rw [gd] at g
      have nf : ¬ (1 ≤ x.length ∧ x.length ≤ 6) → Q (.bl false) H := fun h => by
        have kf := k H (Same.refl H)
        rw [dcd_f (fun ⟨y, e, n1, n2, _⟩ => by injection e with e; rw [← e] at n1 n2; exact h ⟨n1, n2⟩)] at kf
        exact kf
      refine iteF ⟨_, rfl, x, rfl, by omega, _, _, rfl, rfl, _, rfl, ?_⟩
      by_cases h1 : 1 ≤ x.length
      · refine itePos (decide_eq_true (by omega)) ⟨_, _, rfl, rfl, _, rfl, ?_⟩
        by_cases h6 : x.length ≤ 6
        · refine iteNeg (by rw [decide_eq_true (show (x.length : Int) ≤ 6 by omega)]; exact Bool.false_ne_true) ?_
          refine ⟨_, rfl, x, rfl, g.2, fun Dd hD => ?_⟩
          refine comp_by (n := x.length) (fun i ys H2 => ys = ((x.cps.toList.take i).map fun c => decide (c ∈ abc.cps.toList)).map V.bl ∧ H2 = upd H Dd (.lst ys)) ⟨rfl, rfl⟩ ?_ ?_
          · rintro ys H2 ⟨rfl, rfl⟩
            rw [List.take_of_length_le (by rw [Array.length_toList]; exact Nat.le_refl _)]
            refine ⟨Nat.le_refl _, Dd, _, rfl, SqL.of upd_same, ?_⟩
            rw [all_letters]
            have kf := k _ (Same.new (o := .lst ((x.cps.toList.map fun c => decide (c ∈ abc.cps.toList)).map V.bl)) hD)
            rw [dcd_eq (q := Lw x) ⟨fun ⟨y, e, _, _, n3⟩ => by injection e with e; rw [e]; exact n3, fun l => ⟨x, rfl, h1, h6, l⟩⟩] at kf
            exact kf
          · rintro i ys H2 hi ⟨rfl, rfl⟩
            refine ⟨hi, ?_⟩
            rintro y H3 ⟨rfl, c, ec, rfl⟩ σo ho
            obtain ⟨o, rfl⟩ := own1 ho
            have ec' : x.cps[i]? = some c := ec
            refine ⟨⟨[_], rfl, rfl⟩, yes_by ⟨_, rfl, c, abc, rfl, rfl, by rw [List.length_map, List.length_map, List.length_take]; omega, upd_same, less_by hi ⟨?_, by rw [upd_upd]⟩⟩⟩
            rw [List.take_succ, Array.getElem?_toList, ec', List.map_append, List.map_append]
            rfl
        · refine itePos (by rw [decide_eq_false (show ¬ (x.length : Int) ≤ 6 by omega)]; rfl) (nf fun h => h6 h.2)
      · refine iteNeg (by rw [decide_eq_false (show ¬ (1 : Int) ≤ (x.length : Int) by omega)]; exact Bool.false_ne_true) ?_
        exact ⟨_, rfl, iteT (nf fun h => h1 h.1)⟩
def spKind : Sp := fun vs H Q _ => ∃ (v : V) (d : PyData) (a : Addr) (ks : List Str), vs = [v, .ref a] ∧ RdV H v d ∧ H a = some (.tup (ks.map V.str)) ∧ Q (.bl (dcd (∃ x, d = .str x ∧ x ∈ ks))) H
theorem ok_kind (D : Defs K mg t) : FnOk P w K mg base CX0 1 t.is_kind.1 t.is_kind.2 ["thing", "kinds"] spKind := by
  refine D.is_kind.fn.ok sc_is_kind (fun vs H Q E h => ?_) (fun cdv A outer s H vs Q E hr h => ?_)
  · obtain ⟨v, d, a, ks, rfl, _⟩ := h
    rfl
  · obtain ⟨v, d, a, ks, rfl, rd, ha, k⟩ := h
    refine ⟨_, (pss_one (ps_ret (pe_and (pe_callB call_isinst (by rfl) D.b_isinstance bt_isinstance (pa_cons (pv 0) (pa_cons (pe_bltn (v := V.ty "str") rfl D.b_str bt_str rfl) pa_nil))) (pe_one (pe_cmpR op_in_seq (pv 0) (pv 1) (by with_unfolding_all rfl)))))), ?_⟩
    refine ⟨_, rfl, _, _, _, isSt d, rfl, rd.ty, kit_S K d, _, rfl, ?_⟩
    cases hb : isSt d with
    | true =>
      obtain ⟨x, rfl⟩ := isSt_t hb
      obtain rfl := rd.of_str
      refine iteT ⟨_, rfl, _, rfl, a, _, rfl, .inr (SqT.of ha), rfl, flat_strs ks, ?_⟩
      show Q (.bl (inV (.str x) (ks.map V.str))) H
      rw [inV_strs]
      have e : dcd (∃ y, PyData.str x = .str y ∧ y ∈ ks) = decide (x ∈ ks) := by
        by_cases h : x ∈ ks
        · rw [dcd_t ⟨x, rfl, h⟩, decide_eq_true h]
        · rw [dcd_f (fun ⟨y, e, hy⟩ => by injection e with e; exact h (e ▸ hy)), decide_eq_false h]
      rw [e] at k
      exact k
    | false =>
      rw [dcd_f (fun ⟨x, e, _⟩ => by rw [e] at hb; cases hb)] at k
      exact iteF k
end
end K01
end
section
set_option autoImplicit false
namespace L2
open PySem PyProof.Rows
theorem call_all_K {X : Cx} {K : PySem.W.Frag} (h : X.K = K) (hc : X.calm = true) : CallR X (.builtin "all") (fun xs H Q => ∃ (p : Addr) (bs : List Bool), xs = [.ref p] ∧ SqL K H p (bs.map V.bl) ∧ Q (.bl (bs.all id)) H) := by subst h; exact call_all hc
end L2
namespace K01
open PySem PyProof.Rows L2
theorem valV_key {κ : Type} [DecidableEq κ] : ∀ {kvs : List (κ × V)} {k : κ}, (valV kvs k).isSome = true ↔ k ∈ kvs.map (·.1)
  | [], k => by simp [valV]
  | p :: kvs, k => by
    by_cases e : p.1 = k
    · rw [valV_pos e]
      simp [e]
    · rw [valV_neg e, valV_key]
      have : ¬ k = p.1 := fun z => e z.symm
      simp [this]
def setD (rs : List Str) : List (Key × V) := rs.map fun y => (.inr y, .bl true)
theorem setD_has (rs : List Str) (x : Str) : (valV (setD rs) (.inr x)).isSome = true ↔ x ∈ rs := by
  rw [valV_key]
  unfold setD
  rw [List.map_map, List.mem_map]
  constructor
  · rintro ⟨y, hy, e⟩
    have e : (Sum.inr y : Key) = Sum.inr x := e
    injection e with e
    exact e ▸ hy
  · exact fun h => ⟨x, h, rfl⟩
theorem setD_put {rs : List Str} {x : Str} (h : ¬ x ∈ rs) : putK (setD rs) (.inr x) (.bl true) = setD (rs ++ [x]) := by
  have hn : valV (setD rs) (.inr x) = none := by
    cases q : valV (setD rs) (.inr x) with
    | none => rfl
    | some y => exact absurd ((setD_has rs x).mp (by rw [q]; rfl)) h
  rw [putK_new _ hn]
  unfold setD
  rw [List.map_append]
  rfl
structure Rws (f : Fam) : Prop where
  nd : (nms f).Nodup
  len : f.length ≤ 8
  el : ∀ r ∈ f, r.2.length ≤ 1900
theorem row_uniq {f : Fam} (nd : (nms f).Nodup) {r q : Str × List Str} (hr : r ∈ f) (hq : q ∈ f) (e : r.1 = q.1) : r = q := by
  induction f with
  | nil => cases hr
  | cons a f ih =>
    have nd' : (a.1 :: nms f).Nodup := nd
    obtain ⟨n1, n2⟩ := List.nodup_cons.mp nd'
    rcases List.mem_cons.mp hr with rfl | hr' <;> rcases List.mem_cons.mp hq with rfl | hq'
    · rfl
    · exact absurd (List.mem_map.mpr ⟨q, hq', e.symm⟩) n1
    · exact absurd (List.mem_map.mpr ⟨r, hr', e⟩) n1
    · exact ih n2 hr' hq'
structure Topo (f : Fam) (pl : List Str) : Prop where
  nd : pl.Nodup
  sub : ∀ x ∈ pl, x ∈ nms f
  el : ∀ x ∈ pl, Pl f x
def leftOf (f : Fam) (pl : List Str) : Fam := f.filter fun r => decide (¬ r.1 ∈ pl)
def readyOf (f : Fam) (pl : List Str) : List Str := ((leftOf f pl).filter fun r => r.2.all fun e => decide (e ∈ pl)).map (·.1)
theorem ready_mem {f : Fam} {pl : List Str} {x : Str} : x ∈ readyOf f pl ↔ ∃ r ∈ f, r.1 = x ∧ ¬ x ∈ pl ∧ ∀ e ∈ r.2, e ∈ pl := by
  constructor
  · intro hx
    obtain ⟨r, hr, rfl⟩ := List.mem_map.mp hx
    obtain ⟨h1, h2⟩ := List.mem_filter.mp hr
    obtain ⟨h3, h4⟩ := List.mem_filter.mp h1
    exact ⟨r, h3, rfl, of_decide_eq_true h4, fun e he => of_decide_eq_true (List.all_eq_true.mp h2 e he)⟩
  · rintro ⟨r, hr, rfl, h1, h2⟩
    exact List.mem_map.mpr ⟨r, List.mem_filter.mpr ⟨List.mem_filter.mpr ⟨hr, decide_eq_true h1⟩, List.all_eq_true.mpr fun e he => decide_eq_true (h2 e he)⟩, rfl⟩
theorem Topo.more {f : Fam} (nd : (nms f).Nodup) {pl : List Str} (T : Topo f pl) : Topo f (pl ++ readyOf f pl) := by
  have ndr : (readyOf f pl).Nodup := by
    have : (readyOf f pl).Sublist (nms f) := List.Sublist.map _ (List.Sublist.trans List.filter_sublist List.filter_sublist)
    exact nd.sublist this
  refine ⟨?_, fun x hx => ?_, fun x hx => ?_⟩
  · rw [List.nodup_append]
    refine ⟨T.nd, ndr, fun a ha b hb e => ?_⟩
    obtain ⟨_, _, _, h, _⟩ := ready_mem.mp hb
    exact h (e ▸ ha)
  · rcases List.mem_append.mp hx with h | h
    · exact T.sub x h
    · obtain ⟨r, hr, e, _⟩ := ready_mem.mp h
      rw [← e]
      exact List.mem_map.mpr ⟨r, hr, rfl⟩
  · rcases List.mem_append.mp hx with h | h
    · exact T.el x h
    · obtain ⟨r, hr, rfl, _, h2⟩ := ready_mem.mp h
      exact .mk hr fun e he => T.el e (h2 e he)
theorem Topo.nil (f : Fam) : Topo f [] := ⟨List.nodup_nil, (fun x hx => nomatch hx), (fun x hx => nomatch hx)⟩
theorem Topo.len {f : Fam} {pl : List Str} (T : Topo f pl) : pl.length ≤ f.length := by
  have h1 := nodup_le T.nd (m := nms f) T.sub
  have h2 : (nms f).length = f.length := List.length_map _
  omega
theorem Topo.full {f : Fam} {pl : List Str} (T : Topo f pl) (h0 : readyOf f pl = []) : ∀ {x : Str}, Pl f x → x ∈ pl := by
  intro x hx
  induction hx with
  | mk hr _ ih =>
    apply Classical.byContradiction
    intro hn
    have := ready_mem.mpr ⟨_, hr, rfl, hn, ih⟩
    rw [h0] at this
    cases this
theorem nodup_full {l m : List Str} (nd : l.Nodup) (hl : l.length = m.length) (sub : ∀ x ∈ l, x ∈ m) : ∀ x ∈ m, x ∈ l := by
  intro x hx
  apply Classical.byContradiction
  intro hn
  have h1 := nodup_le (l := x :: l) (m := m) (List.nodup_cons.mpr ⟨hn, nd⟩) (fun y hy => (List.mem_cons.mp hy).elim (fun e => e ▸ hx) (sub y))
  rw [List.length_cons] at h1
  omega
theorem Topo.all {f : Fam} {pl : List Str} (nd : (nms f).Nodup) (T : Topo f pl) (h0 : readyOf f pl = [] ∨ f.length ≤ pl.length) : pl.length = f.length ↔ ∀ x ∈ nms f, Pl f x := by
  have h2 : (nms f).length = f.length := List.length_map _
  constructor
  · intro e x hx
    exact T.el x (nodup_full T.nd (by omega) T.sub x hx)
  · intro h
    rcases h0 with h0 | h0
    · have := nodup_le nd (m := pl) fun x hx => T.full h0 (h x hx)
      have := T.len
      omega
    · have := T.len
      omega
section
variable {P : Program} {w : World} {K : PySem.W.Frag} {mg : Str → Option Value} {base : Heap} {t : Adr}
def spElders : Sp := fun vs H Q _ => ∃ (v : V) (f : Fam), vs = [v] ∧ Dp H (famT f) v ∧ Rws f ∧ ∀ (q : Addr) (pl : List Str) H', H' q = some (.tup (pl.map V.str)) → Topo f pl → readyOf f pl = [] → Same H H' → Q (.ref q) H'
theorem ok_elders (D : Defs K mg t) : FnOk P w K mg base CX0 1 t.elders_first.1 t.elders_first.2 ["family"] spElders := by
  have hz : sizeLine = 16777216 := sizeLine_eq
  refine D.elders_first.fn.ok sc_elders_first (fun vs H Q E h => ?_) (fun cdv A outer s H vs Q E hr h => ?_)
  · obtain ⟨v, f, rfl, _⟩ := h
    rfl
  · obtain ⟨v, f, rfl, dv, gf, k⟩ := h
    obtain ⟨a, xs, rfl, ha, dl⟩ := L2.Dp.of_tup dv
    have hxl : xs.length = f.length := by have := dl.length; rwa [List.length_map] at this
    have f7 := gf.len
    refine ⟨_, (pss_cons (ps_set (i := 1) sc_elders_first.nd rfl (Or.inr rfl) pe_dnewK)
      (pss_cons (ps_set (i := 2) sc_elders_first.nd rfl (Or.inl rfl) (pe_callTy call_list_of (by rfl) D.b_list bt_list (pa_cons (pv 0) pa_nil)))
      (pss_cons (ps_set (i := 3) sc_elders_first.nd rfl (Or.inl rfl) (pv 2))
      (pss_cons (ps_while PassesOwn.never (pt_truth (pv 3) (by intro _; rfl))
      (pss_cons (ps_setc (i := 3) rfl sc_elders_first.nd rfl (Or.inl rfl) (CompScope.of ["kind", "elders"] [1] ["kind", "elders", "placed"] (defScope (top 10)) ["family", "placed", "waiting", "ready", "kind"] rfl rfl (by decide +kernel)) ⟨fun _ _ _ _ _ => (pg_tup_K (K := K) (n := 2) rfl rfl (pgs_cons (pg_name (i := 0) (show List.Nodup [("kind" : Str), ("elders" : Str), ("placed" : Str)] by decide +kernel) rfl (Or.inl (lookup_relabel_local rfl)) (.inr (lookup_relabel_local rfl))) (pgs_cons (pg_name (i := 1) (show List.Nodup [("kind" : Str), ("elders" : Str), ("placed" : Str)] by decide +kernel) rfl (Or.inl (lookup_relabel_local rfl)) (.inr (lookup_relabel_local rfl))) pgs_nil))), fun _ _ _ _ _ => (pts_one (pt_val (pe_callB (call_all_K (K := K) rfl rfl) (by rfl) D.b_all bt_all (pa_cons (pe_comp rfl (CompScope.of2 ["elder"] [2] ["elder", "placed"] ["kind", "elders", "placed"] rfl rfl (by decide +kernel)) ⟨fun _ _ _ _ _ => (pg_name (i := 0) (show List.Nodup [("elder" : Str), ("placed" : Str)] by decide +kernel) rfl (Or.inl (lookup_relabel_local rfl)) (.inr (lookup_relabel_local rfl))), fun _ _ _ _ _ => pts_nil, fun _ _ _ _ _ => (pe_cmp (pc_din (hu_of hr) (pv 0) (pv 1)))⟩ (pi_tup_K (K := K) rfl (pv 1))) pa_nil)))), fun _ _ _ _ _ => (pv 0)⟩ (pi_list (pv 2)))
      (pss_cons (ps_for PassesOwn.never rfl (pi_list (pv 3)) (pg_name (i := 4) sc_elders_first.nd rfl (Or.inl rfl))
      (pss_one (ps_dput (hu_of hr) (pv 1) (pv 4) pe_bl rfl)))
      (pss_one (ps_setc (i := 2) rfl sc_elders_first.nd rfl (Or.inl rfl) (CompScope.of ["pair"] [1] ["pair", "placed"] (defScope (top 10)) ["family", "placed", "waiting", "ready", "kind"] rfl rfl (by decide +kernel)) ⟨fun _ _ _ _ _ => (pg_name (i := 0) (show List.Nodup [("pair" : Str), ("placed" : Str)] by decide +kernel) rfl (Or.inl (lookup_relabel_local rfl)) (.inr (lookup_relabel_local rfl))), fun _ _ _ _ _ => (pts_one (pt_cmp (pc_dnotin (hu_of hr) (pe_ix (ix_tup_K (K := K) rfl) (pv 0) pe_int (fun _ _ => rfl)) (pv 1)))), fun _ _ _ _ _ => (pv 0)⟩ (pi_list (pv 2)))))))
      (pss_one (ps_ret (pe_callTy (call_tupleD rfl) (by rfl) D.b_tuple bt_tuple (pa_cons (pv 1) pa_nil)))))))), ?_⟩
    intro pd hpd
    have s1 : Same H (upd H pd (.dK [])) := Same.new hpd
    have hpd1 : (upd H pd (.dK [])) pd = some (.dK (setD [])) := upd_same
    generalize upd H pd (.dK []) = H1 at s1 hpd1
    refine ⟨_, rfl, a, _, rfl, .inr (SqT.of (s1 a _ ha)), fun w0 hw0 => ?_⟩
    have s2 : Same H1 (upd H1 w0 (.lst xs)) := Same.new hw0
    refine ⟨_, rfl, ?_⟩
    refine ⟨fun m σ H2 => ∃ (pl : List Str) (wl rl : Addr) (ws rs : List V) (v4 : Option V), σ = [some (.ref a), some (.ref pd), some (.ref wl), some (.ref rl), v4] ∧ H2 pd = some (.dK (setD pl)) ∧ Topo f pl ∧ H2 wl = some (.lst ws) ∧ DpL H2 ((leftOf f pl).map rowT) ws ∧ H2 rl = some (.lst rs) ∧ (rs = [] → readyOf f pl = []) ∧ m = 2 * (leftOf f pl).length + (if rs.isEmpty = true then 0 else 1) ∧ Same H H2, ?_, ?_⟩
    · have e0 : leftOf f [] = f := by
        unfold leftOf
        rw [List.filter_eq_self]
        simp
      refine ⟨_, [], w0, w0, xs, xs, _, rfl, s2 pd _ hpd1, Topo.nil f, upd_same, ?_, upd_same, fun h => ?_, rfl, s1.trans s2⟩
      · rw [e0]
        exact dl.mono (Same.tups (s1.trans s2))
      · rw [h] at hxl
        rw [List.eq_nil_of_length_eq_zero hxl.symm]
        rfl
    · rintro m σ H2 ⟨pl, wl, rl, ws, rs, v4, rfl, hpd2, T, hw2, dw, hr2, hex, rfl, sm2⟩
      refine ⟨_, rfl, _, .inl ⟨_, SqL.of hr2, rfl⟩, ?_⟩
      cases hrs : rs with
      | nil =>
        refine iteF ⟨_, rfl, pd, _, rfl, .inl hpd2, fun q hq => ?_⟩
        have ek : (setD pl).map (fun kv => kV kv.1) = pl.map V.str := by
          unfold setD
          rw [List.map_map]
          rfl
        rw [ek]
        exact k q pl _ upd_same T (hex hrs) (sm2.trans (Same.new hq))
      | cons r0 rr =>
        have hem : (!(r0 :: rr).isEmpty) = true := rfl
        rw [hem]
        refine iteT ⟨fun σ' H' => ∃ m', m' < 2 * (leftOf f pl).length + 1 ∧ ∃ (pl : List Str) (wl rl : Addr) (ws rs : List V) (v4 : Option V), σ' = [some (.ref a), some (.ref pd), some (.ref wl), some (.ref rl), v4] ∧ H' pd = some (.dK (setD pl)) ∧ Topo f pl ∧ H' wl = some (.lst ws) ∧ DpL H' ((leftOf f pl).map rowT) ws ∧ H' rl = some (.lst rs) ∧ (rs = [] → readyOf f pl = []) ∧ m' = 2 * (leftOf f pl).length + (if rs.isEmpty = true then 0 else 1) ∧ Same H H', fun σ' H' h => h, ?_⟩
        have hwl : ws.length = (leftOf f pl).length := by have := dw.length; rwa [List.length_map] at this
        have hl7 : (leftOf f pl).length ≤ 8 := Nat.le_trans (List.length_filter_le _ _) f7
        have pwne : ∀ {H3 : Hp}, Same H2 H3 → True := fun _ => trivial
        refine ⟨_, rfl, wl, rfl, ⟨_, SqL.of hw2⟩, fun D1 hD1 => ?_⟩
        refine comp_by (n := ws.length) (fun i ys H3 => ys = ((((leftOf f pl).take i).filter fun r => r.2.all fun e => decide (e ∈ pl)).map (·.1)).map V.str ∧ H3 D1 = some (.lst ys) ∧ Same H2 H3) ⟨rfl, upd_same, Same.new hD1⟩ ?_ ?_
        · rintro ys H3 ⟨rfl, hD3, sm3⟩
          rw [List.take_of_length_le (by omega)] at hD3
          have hD3 : H3 D1 = some (.lst ((readyOf f pl).map V.str)) := hD3
          refine ⟨⟨_, SqL.of (sm3 wl _ hw2), Nat.le_refl _⟩, ?_⟩
          have hwD : wl ≠ D1 := ne_of_none hw2 hD1
          have pdD : pd ≠ D1 := ne_of_none hpd2 hD1
          have hrdy : (readyOf f pl).length ≤ 8 := by
            unfold readyOf
            rw [List.length_map]
            exact Nat.le_trans (List.length_filter_le _ _) hl7
          have Tm := T.more gf.nd
          have plx : pl.length ≤ 8 := Nat.le_trans T.len f7
          have newk : ∀ (i : Nat) (hi : i < (readyOf f pl).length), ¬ (readyOf f pl)[i] ∈ pl ++ (readyOf f pl).take i := fun i hi h => by
            have nd := Tm.nd
            have e : pl ++ readyOf f pl = (pl ++ (readyOf f pl).take i) ++ ((readyOf f pl)[i] :: (readyOf f pl).drop (i + 1)) := by
              rw [List.append_assoc, List.getElem_cons_drop, List.take_append_drop]
            rw [e, List.nodup_append] at nd
            exact nd.2.2 _ h _ List.mem_cons_self rfl
          refine ⟨_, rfl, D1, rfl, ⟨_, SqL.of hD3⟩, for_list (K := K) (a := D1) (xs := (readyOf f pl).map V.str) (fun i σ H4 => ∃ v4 : Option V, σ = [some (.ref a), some (.ref pd), some (.ref wl), some (.ref D1), v4] ∧ H4 pd = some (.dK (setD (pl ++ (readyOf f pl).take i))) ∧ ∀ b u, b ≠ pd → H3 b = some u → H4 b = some u)
            ⟨_, rfl, by rw [List.take_zero, List.append_nil]; exact sm3 pd _ hpd2, fun b u _ e => e⟩ (fun i σ H4 _ ⟨_, _, _, kp⟩ => SqL.of (kp D1 _ pdD.symm hD3)) ?_ ?_⟩
          · rintro i x σ H4 hi ⟨v4', rfl, hpd4, kp4⟩
            have hil : i < (readyOf f pl).length := by
              have := (List.getElem?_eq_some_iff.mp hi).1
              rwa [List.length_map] at this
            have ex : x = .str (readyOf f pl)[i] := by
              rw [List.getElem?_map, List.getElem?_eq_getElem hil] at hi
              exact (Option.some.inj hi).symm
            subst ex
            refine ⟨_, rfl, _, rfl, pd, _, rfl, DPut.k (k := .inr (readyOf f pl)[i]) hpd4 (by unfold setD; rw [List.length_map, List.length_append, List.length_take]; omega), ?_⟩
            rw [setD_put (newk i hil)]
            exact ⟨_, rfl, by rw [upd_same, take_snoc hil, List.append_assoc], fun b u hb e => by rw [upd_ne hb]; exact kp4 b u hb e⟩
          · rintro σ H4 ⟨v4', rfl, hpd4, kp4⟩
            rw [List.length_map, List.take_of_length_le (Nat.le_refl _)] at hpd4
            have wpd : wl ≠ pd := ne_of hw2 hpd2 (fun z => nomatch z)
            have hw4 := kp4 wl _ wpd (sm3 wl _ hw2)
            have tu4 : Tups H2 H4 := fun c zs e => kp4 c _ (ne_of e hpd2 (fun z => nomatch z)) (sm3 c _ e)
            have sm4 : Same H H4 := fun b u e => kp4 b u (ne_of_none e hpd) (sm3 b u (sm2 b u e))
            have dw4 := dw.mono tu4
            refine ⟨_, rfl, wl, rfl, ⟨_, SqL.of hw4⟩, fun D2 hD2 => ?_⟩
            refine comp_by (n := ws.length) (fun i ys H5 => H5 D2 = some (.lst ys) ∧ DpL H4 ((((leftOf f pl).take i).filter fun r => decide (¬ r.1 ∈ pl ++ readyOf f pl)).map rowT) ys ∧ Same H4 H5) ⟨upd_same, .nil, Same.new hD2⟩ ?_ ?_
            · rintro ys H5 ⟨hD5, dy, sm5⟩
              rw [List.take_of_length_le (by omega)] at dy
              refine ⟨⟨_, SqL.of (sm5 wl _ hw4), Nat.le_refl _⟩, ?_⟩
              have el : (leftOf f pl).filter (fun r => decide (¬ r.1 ∈ pl ++ readyOf f pl)) = leftOf f (pl ++ readyOf f pl) := by
                unfold leftOf
                rw [List.filter_filter]
                apply List.filter_congr
                intro r _
                by_cases h1 : r.1 ∈ pl
                · simp [h1]
                · simp [h1]
              rw [el] at dy
              have hle : (leftOf f (pl ++ readyOf f pl)).length ≤ (leftOf f pl).length := by rw [← el]; exact List.length_filter_le _ _
              have hmm : 2 * (leftOf f (pl ++ readyOf f pl)).length + (if ((readyOf f pl).map V.str).isEmpty = true then 0 else 1) < 2 * (leftOf f pl).length + 1 := by
                cases hrd : readyOf f pl with
                | nil =>
                  rw [hrd] at hle
                  simp
                | cons x0 xr =>
                  have : (leftOf f (pl ++ readyOf f pl)).length < (leftOf f pl).length := by
                    rw [← el]
                    have hx0 : x0 ∈ readyOf f pl := by rw [hrd]; exact List.mem_cons_self
                    obtain ⟨r, hr', e⟩ := List.mem_map.mp hx0
                    have hrl := (List.mem_filter.mp hr').1
                    refine Nat.lt_of_le_of_ne (List.length_filter_le _ _) fun e2 => ?_
                    have := List.length_filter_eq_length_iff.mp e2 r hrl
                    have := of_decide_eq_true this
                    exact this (List.mem_append_right _ (by show r.1 ∈ _; rw [show r.1 = x0 from e]; exact hx0))
                  rw [hrd] at this
                  simp
                  omega
              refine ⟨_, hmm, pl ++ readyOf f pl, D2, D1, ys, (readyOf f pl).map V.str, _, rfl, sm5 pd _ hpd4, Tm, hD5, dy.mono (Same.tups sm5), sm5 D1 _ (kp4 D1 _ pdD.symm hD3), fun h => ?_, rfl, sm4.trans sm5⟩
              have hrd : readyOf f pl = [] := List.map_eq_nil_iff.mp h
              rw [hrd, List.append_nil]
              exact hrd
            · rintro i ys H5 hi ⟨hD5, dy, sm5⟩
              have hif : i < (leftOf f pl).length := by omega
              obtain ⟨y, ey, dyy⟩ := dw4.get (i := i) (t := rowT (leftOf f pl)[i]) (by rw [List.getElem?_map, List.getElem?_eq_getElem hif]; rfl)
              obtain ⟨q, e, rfl, hq, he⟩ := K01.Dp.of_row dyy
              refine ⟨⟨_, _, SqL.of (sm5 wl _ hw4), ey⟩, ?_⟩
              rintro z H6 ⟨rfl, yy⟩ σo ho
              obtain ⟨oo, rfl⟩ := own1 ho
              have ez := yy _ (SqL.of (sm5 wl _ hw4))
              rw [ey] at ez
              cases ez
              have hyl : ys.length ≤ 8 := by
                rw [dy.length, List.length_map]
                refine Nat.le_trans (List.length_filter_le _ _) ?_
                rw [List.length_take]
                omega
              have efl : ((leftOf f pl).take (i + 1)).filter (fun r => decide (¬ r.1 ∈ pl ++ readyOf f pl)) = ((leftOf f pl).take i).filter (fun r => decide (¬ r.1 ∈ pl ++ readyOf f pl)) ++ (if decide (¬ ((leftOf f pl)[i]).1 ∈ pl ++ readyOf f pl) = true then [(leftOf f pl)[i]] else []) := by
                rw [take_snoc hif, List.filter_append]
                congr 1
                rw [List.filter_cons]
                rfl
              refine ⟨⟨[_], rfl, rfl⟩, _, rfl, q, _, _, _, rfl, rfl, SqT.of (sm5 q _ hq), rfl, _, rfl, pd, _, rfl, DGet.k (k := .inr ((leftOf f pl)[i]).1) (sm5 pd _ hpd4), _, rfl, ?_⟩
              cases hin : (valV (setD (pl ++ readyOf f pl)) (.inr ((leftOf f pl)[i]).1)).isSome with
              | true =>
                have hm := (setD_has _ _).mp hin
                refine iteF (less_by hi ⟨hD5, ?_, sm5⟩)
                rw [efl, if_neg (fun h => (of_decide_eq_true h) hm), List.append_nil]
                exact dy
              | false =>
                have hm : ¬ ((leftOf f pl)[i]).1 ∈ pl ++ readyOf f pl := fun h => by rw [(setD_has _ _).mpr h] at hin; cases hin
                refine iteT ⟨_, rfl, by omega, hD5, less_by hi ⟨upd_same, ?_, fun b u e' => ?_⟩⟩
                · rw [efl, if_pos (decide_eq_true hm), List.map_append]
                  exact dy.append (.cons dyy .nil)
                · rw [upd_ne (ne_of_none e' hD2)]
                  exact sm5 b _ e'
        · rintro i ys H3 hi ⟨rfl, hD3, sm3⟩
          have hif : i < (leftOf f pl).length := by omega
          obtain ⟨y, ey, dyy⟩ := (dw.mono (Same.tups sm3)).get (i := i) (t := rowT (leftOf f pl)[i]) (by rw [List.getElem?_map, List.getElem?_eq_getElem hif]; rfl)
          obtain ⟨q, e, rfl, hq, he⟩ := K01.Dp.of_row dyy
          refine ⟨⟨_, _, SqL.of (sm3 wl _ hw2), ey⟩, ?_⟩
          rintro z H4 ⟨rfl, yy⟩ σo ho
          obtain ⟨oo, oo', rfl⟩ := own2 ho
          have ez := yy _ (SqL.of (sm3 wl _ hw2))
          rw [ey] at ez
          cases ez
          have hyl : (((((leftOf f pl).take i).filter fun r => r.2.all fun e => decide (e ∈ pl)).map (·.1)).map V.str).length ≤ 8 := by
            rw [List.length_map, List.length_map]
            refine Nat.le_trans (List.length_filter_le _ _) ?_
            rw [List.length_take]
            omega
          have efl : ((leftOf f pl).take (i + 1)).filter (fun r => r.2.all fun e => decide (e ∈ pl)) = ((leftOf f pl).take i).filter (fun r => r.2.all fun e => decide (e ∈ pl)) ++ (if (((leftOf f pl)[i]).2.all fun e => decide (e ∈ pl)) = true then [(leftOf f pl)[i]] else []) := by
            rw [take_snoc hif, List.filter_append]
            congr 1
            rw [List.filter_cons]
            rfl
          refine ⟨q, _, rfl, SqT.of hq, rfl, _, _, rfl, _, _, rfl, rfl, ⟨[_, _], rfl, rfl⟩, _, rfl, e, rfl, ⟨_, SqT.of he⟩, fun D3 hD3' => ?_⟩
          have s5 : ∀ o, Same H4 (upd H4 D3 o) := fun o => Same.new hD3'
          have el7 := gf.el _ (List.mem_filter.mp (List.getElem_mem hif)).1
          refine comp_by (n := (((leftOf f pl)[i]).2.map V.str).length) (fun j bs H5 => bs = ((((leftOf f pl)[i]).2.take j).map fun e => decide (e ∈ pl)).map V.bl ∧ H5 = upd H4 D3 (.lst bs)) ⟨rfl, rfl⟩ ?_ ?_
          · rintro bs H5 ⟨rfl, rfl⟩
            rw [List.take_of_length_le (by rw [List.length_map]; exact Nat.le_refl _)]
            refine ⟨⟨_, SqT.of (s5 _ e _ he), Nat.le_refl _⟩, D3, _, rfl, SqL.of upd_same, _, rfl, ?_⟩
            have eall : ((((leftOf f pl)[i]).2.map fun e => decide (e ∈ pl)).all id) = ((leftOf f pl)[i]).2.all fun e => decide (e ∈ pl) := by
              rw [List.all_map]
              rfl
            rw [eall]
            cases hall : (((leftOf f pl)[i]).2.all fun e => decide (e ∈ pl)) with
            | true =>
              refine iteT ⟨_, rfl, by omega, s5 _ D1 _ hD3, less_by hi ⟨?_, upd_same, fun b u e' => ?_⟩⟩
              · rw [efl, hall, if_pos rfl, List.map_append, List.map_append]
                rfl
              · rw [upd_ne (ne_of_none e' hD1)]
                exact s5 _ b _ (sm3 b _ e')
            | false =>
              refine iteF (less_by hi ⟨?_, s5 _ D1 _ hD3, sm3.trans (s5 _)⟩)
              rw [efl, hall, if_neg Bool.false_ne_true, List.append_nil]
          · rintro j bs H5 hj ⟨rfl, rfl⟩
            have hj' : j < ((leftOf f pl)[i]).2.length := by rw [List.length_map] at hj; exact hj
            have ej : (((leftOf f pl)[i]).2.map V.str)[j]? = some (.str ((leftOf f pl)[i]).2[j]) := by rw [List.getElem?_map, List.getElem?_eq_getElem hj']; rfl
            refine ⟨⟨_, _, SqT.of (s5 _ e _ he), ej⟩, ?_⟩
            rintro y5 H6 ⟨rfl, yy⟩ σo5 ho5
            obtain ⟨o5, rfl⟩ := own1 ho5
            have ey5 := yy _ (SqT.of (s5 _ e _ he))
            rw [ej] at ey5
            cases ey5
            refine ⟨⟨[_], rfl, rfl⟩, yes_by ⟨_, rfl, _, rfl, pd, _, rfl, DGet.k (k := .inr ((leftOf f pl)[i]).2[j]) (s5 _ pd _ (sm3 pd _ hpd2)), by rw [List.length_map, List.length_map, List.length_take]; omega, upd_same, less_by hj ⟨?_, by rw [upd_upd]⟩⟩⟩
            rw [take_snoc hj', List.map_append, List.map_append]
            congr 1
            show [V.bl (valV (setD pl) (.inr ((leftOf f pl)[i]).2[j])).isSome] = [V.bl (decide (((leftOf f pl)[i]).2[j] ∈ pl))]
            congr 2
            apply Bool.eq_iff_iff.mpr
            rw [setD_has, decide_eq_true_iff]
end
end K01
end
section
set_option autoImplicit false
namespace L2
open PySem
theorem bt_set : bootBuiltins "set" = some (.type "set") := by decide +kernel
end L2
namespace K01
open PySem PyProof.Rows L2
theorem all_kinds {ks : List Str} : ∀ {ds : List PyData}, (ds.map fun d => dcd (∃ x, d = .str x ∧ x ∈ ks)).all id = true ↔ ∃ es : List Str, ds = es.map PyData.str ∧ ∀ e ∈ es, e ∈ ks
  | [] => ⟨fun _ => ⟨[], rfl, fun e he => nomatch he⟩, fun _ => rfl⟩
  | d :: ds => by
    rw [List.map_cons, List.all_cons, Bool.and_eq_true, all_kinds]
    show dcd _ = true ∧ _ ↔ _
    rw [dcd_iff]
    constructor
    · rintro ⟨⟨x, rfl, hx⟩, es, rfl, he⟩
      exact ⟨x :: es, rfl, fun e h => (List.mem_cons.mp h).elim (fun z => z ▸ hx) (he e)⟩
    · rintro ⟨es, e, he⟩
      cases es with
      | nil => cases e
      | cons x es =>
        injection e with e1 e2
        exact ⟨⟨x, e1, he x List.mem_cons_self⟩, es, e2, fun e h => he e (List.mem_cons_of_mem _ h)⟩
def AreK (ks : List Str) (d : PyData) : Prop := ∃ es : List Str, d = .tuple (es.map .str) ∧ (∀ e ∈ es, e ∈ ks) ∧ es.Nodup
theorem strs_inj {es fs : List Str} (h : es.map PyData.str = fs.map PyData.str) : es = fs := List.map_inj_right (f := PyData.str) (fun a b e => by injection e) |>.mp h
section
variable {P : Program} {w : World} {K : PySem.W.Frag} {mg : Str → Option Value} {base : Heap} {t : Adr}
def spAre : Sp := fun vs H Q _ => ∃ (v : V) (d : PyData) (a : Addr) (ks : List Str), vs = [v, .ref a] ∧ RdV H v d ∧ H a = some (.tup (ks.map V.str)) ∧ ks.length ≤ 100 ∧ ∀ H', Same H H' → Q (.bl (dcd (AreK ks d))) H'
theorem ok_are (D : Defs K mg t) : FnOk P w K mg base CX0 2 t.are_kinds.1 t.are_kinds.2 ["thing", "kinds"] spAre := by
  have G_is_kind : FnOk P w K mg base CX0 1 t.is_kind.1 t.is_kind.2 _ spKind := ok_kind D
  have hz : sizeLine = 16777216 := sizeLine_eq
  refine D.are_kinds.fn.ok sc_are_kinds (fun vs H Q E h => ?_) (fun cdv A outer s H vs Q E hr h => ?_)
  · obtain ⟨v, d, a, ks, rfl, _⟩ := h
    rfl
  · obtain ⟨v, d, a, ks, rfl, rd, ha, hk8, k⟩ := h
    refine ⟨_, (pss_cons (ps_if (PW.pt (pw_or (pt_not (pt_val (pe_callB call_isinst (by rfl) D.b_isinstance bt_isinstance (pa_cons (pv 0) (pa_cons (pe_bltn (v := V.ty "tuple") rfl D.b_tuple bt_tuple rfl) pa_nil))))) (pw_or1 (pt_cmpR op_gt (pe_callB call_len_seq (by rfl) D.b_len bt_len (pa_cons (pv 0) pa_nil)) (pe_callB call_len_seq (by rfl) D.b_len bt_len (pa_cons (pv 1) pa_nil)) (nomark _)))))
      (pss_one (ps_ret pe_bl))
      pss_nil)
      (pss_cons (ps_if (pt_not (pt_val (pe_callB (call_all rfl) (by rfl) D.b_all bt_all (pa_cons (pe_comp rfl (CompScope.of ["part"] [1] ["part", "kinds"] (defScope (top 7)) ["thing", "kinds"] rfl rfl (by decide +kernel)) ⟨fun _ _ _ _ _ => (pg_name (i := 0) (show List.Nodup [("part" : Str), ("kinds" : Str)] by decide +kernel) rfl (Or.inl (lookup_relabel_local rfl)) (.inr (lookup_relabel_local rfl))), fun _ _ _ _ _ => pts_nil, fun _ _ _ _ _ => (pe_callF D.is_kind G_is_kind (hr.mono (by omega)) (by rfl) (pa_cons (pv 0) (pa_cons (pv 1) pa_nil)))⟩ (pi_tup (pv 0))) pa_nil))))
      (pss_one (ps_ret pe_bl))
      pss_nil)
      (pss_one (ps_ret (pe_cmpR op_eq (pe_callB call_len_setS (by rfl) D.b_len bt_len (pa_cons (pe_callTy (call_setU rfl) (by rfl) D.b_set bt_set (pa_cons (pv 0) pa_nil)) pa_nil)) (pe_callB call_len_seq (by rfl) D.b_len bt_len (pa_cons (pv 0) pa_nil)) (nomark _)))))), ?_⟩
    have kf : ∀ {H'}, Same H H' → ¬ AreK ks d → Q (.bl false) H' := fun s h => by have := k _ s; rw [dcd_f h] at this; exact this
    refine ⟨_, rfl, _, _, _, isTu d, rfl, rd.ty, kit_T K d, _, rfl, ?_⟩
    cases hb : isTu d with
    | false => exact iteT (iteT (kf (Same.refl H) fun ⟨es, e, _⟩ => by rw [e] at hb; cases hb))
    | true =>
      obtain ⟨ds, rfl⟩ := isTu_t hb
      obtain ⟨b, xs, rfl, hb', rl⟩ := rd.of_tuple
      have hxl := rl.length
      refine iteF ⟨_, rfl, b, _, rfl, .inr (SqT.of hb'), _, rfl, a, _, rfl, .inr (SqT.of ha), _, _, rfl, rfl, _, rfl, ?_⟩
      rw [List.length_map]
      by_cases hlen : ds.length > ks.length
      · refine itePos (decide_eq_true (by omega)) (kf (Same.refl H) ?_)
        rintro ⟨es, e, sub, nd⟩
        injection e with e
        have := nodup_le nd sub
        rw [e, List.length_map] at hlen
        omega
      · refine iteNeg (by rw [decide_eq_false (show ¬ ((xs.length : Int) > (ks.length : Int)) by omega)]; exact Bool.false_ne_true) ?_
        refine ⟨_, rfl, b, rfl, ⟨_, SqT.of hb'⟩, fun Dd hD => ?_⟩
        have sD : ∀ o, Same H (upd H Dd o) := fun o => Same.new hD
        refine comp_by (n := xs.length) (fun i ys H2 => ys = ((ds.take i).map fun d => dcd (∃ x, d = .str x ∧ x ∈ ks)).map V.bl ∧ H2 = upd H Dd (.lst ys)) ⟨rfl, rfl⟩ ?_ ?_
        · rintro ys H2 ⟨rfl, rfl⟩
          rw [List.take_of_length_le (by omega)]
          have s2 := sD (.lst ((ds.map fun d => dcd (∃ x, d = .str x ∧ x ∈ ks)).map V.bl))
          refine ⟨⟨_, SqT.of (s2 b _ hb'), Nat.le_refl _⟩, Dd, _, rfl, SqL.of upd_same, _, rfl, ?_⟩
          generalize upd H Dd (.lst ((ds.map fun d => dcd (∃ x, d = .str x ∧ x ∈ ks)).map V.bl)) = H2 at s2
          cases hall : (ds.map fun d => dcd (∃ x, d = .str x ∧ x ∈ ks)).all id with
          | false =>
            refine iteT (kf s2 ?_)
            rintro ⟨es, e, sub, nd⟩
            injection e with e
            rw [all_kinds.mpr ⟨es, e, sub⟩] at hall
            cases hall
          | true =>
            obtain ⟨es, rfl, sub⟩ := all_kinds.mp hall
            obtain rfl := rl.of_strs
            have hel : es.length ≤ 100 := by rw [List.length_map] at hlen; omega
            refine iteF ⟨_, rfl, b, es, rfl, .inr (SqT.of (s2 b _ hb')), by omega, fun sd hsd => ?_⟩
            refine ⟨sd, _, rfl, upd_same, _, rfl, b, _, rfl, .inr (SqT.of (Same.new hsd b _ (s2 b _ hb'))), ?_⟩
            rw [List.length_map]
            have fin := k _ (s2.trans (Same.new (o := SetS P w sd (un es es.length)) hsd))
            by_cases nd : es.Nodup
            · rw [dcd_t ⟨es, rfl, sub, nd⟩] at fin
              refine ⟨rfl, ?_⟩
              rw [decide_eq_true (by rw [(un_all es).mpr nd])]
              exact fin
            · rw [dcd_f (fun ⟨fs, e, _, n⟩ => by injection e with e; rw [strs_inj e] at nd; exact nd n)] at fin
              refine ⟨rfl, ?_⟩
              rw [decide_eq_false (fun z => by injection z with z; exact nd ((un_all es).mp (by omega)))]
              exact fin
        · rintro i ys H2 hi ⟨rfl, rfl⟩
          have hil : i < ds.length := by omega
          obtain ⟨y, ey, ry⟩ := rl.get (List.getElem?_eq_getElem hil)
          have s2 := sD (.lst (((ds.take i).map fun d => dcd (∃ x, d = .str x ∧ x ∈ ks)).map V.bl))
          refine ⟨⟨_, _, SqT.of (s2 b _ hb'), ey⟩, ?_⟩
          rintro z H3 ⟨rfl, yy⟩ σo ho
          obtain ⟨o, rfl⟩ := own1 ho
          have ez := yy _ (SqT.of (s2 b _ hb'))
          rw [ey] at ez
          cases ez
          refine ⟨⟨[_], rfl, rfl⟩, yes_by ⟨_, rfl, _, rfl, _, ds[i], a, ks, rfl, ry.same' s2, s2 a _ ha, by rw [List.length_map, List.length_map, List.length_take]; omega, upd_same, less_by hi ⟨?_, by rw [upd_upd]⟩⟩⟩
          rw [take_snoc hil, List.map_append, List.map_append]
          rfl
end
end K01
end
section
set_option autoImplicit false
namespace K01
open PySem PyProof.Rows L2
theorem Pl.mem {f : Fam} {x : Str} (h : Pl f x) : x ∈ nms f := by
  cases h with
  | mk hr _ => exact List.mem_map.mpr ⟨_, hr, rfl⟩
theorem Pl.inv {f : Fam} (nd : (nms f).Nodup) {r : Str × List Str} (hr : r ∈ f) (h : Pl f r.1) : ∀ e ∈ r.2, Pl f e := by
  generalize hx : r.1 = x at h
  cases h with
  | mk hr' h' =>
    rw [row_uniq nd hr hr' hx]
    exact h'
def pairD (p : Str × PyData) : PyData := .tuple [.str p.1, p.2]
def R1 (d : PyData) : Prop := ∃ (x : Str) (e : PyData), d = .tuple [.str x, e] ∧ Nm x
theorem all_R1 : ∀ {ds : List PyData}, (ds.map fun d => dcd (R1 d)).all id = true ↔ ∃ ps : List (Str × PyData), ds = ps.map pairD ∧ ∀ p ∈ ps, Nm p.1
  | [] => ⟨fun _ => ⟨[], rfl, fun e he => nomatch he⟩, fun _ => rfl⟩
  | d :: ds => by
    rw [List.map_cons, List.all_cons, Bool.and_eq_true, all_R1]
    show dcd _ = true ∧ _ ↔ _
    rw [dcd_iff]
    constructor
    · rintro ⟨⟨x, e, rfl, hx⟩, ps, rfl, he⟩
      exact ⟨(x, e) :: ps, rfl, fun p h => (List.mem_cons.mp h).elim (fun z => z ▸ hx) (he p)⟩
    · rintro ⟨ps, e, he⟩
      cases ps with
      | nil => cases e
      | cons p ps =>
        injection e with e1 e2
        exact ⟨⟨p.1, p.2, e1, he p List.mem_cons_self⟩, ps, e2, fun q h => he q (List.mem_cons_of_mem _ h)⟩
theorem all_are {ks : List Str} : ∀ {ps : List (Str × PyData)}, (ps.map fun p => dcd (AreK ks p.2)).all id = true ↔ ∃ f : Fam, ps.map pairD = f.map rowD ∧ nms f = ps.map (·.1) ∧ ∀ r ∈ f, (∀ e ∈ r.2, e ∈ ks) ∧ r.2.Nodup
  | [] => ⟨fun _ => ⟨[], rfl, rfl, fun e he => nomatch he⟩, fun _ => rfl⟩
  | p :: ps => by
    rw [List.map_cons, List.all_cons, Bool.and_eq_true, all_are]
    show dcd _ = true ∧ _ ↔ _
    rw [dcd_iff]
    constructor
    · rintro ⟨⟨es, h1, h2⟩, f, e1, e2, e3⟩
      refine ⟨(p.1, es) :: f, ?_, ?_, fun r h => (List.mem_cons.mp h).elim (fun z => z ▸ h2) (e3 r)⟩
      · rw [List.map_cons, List.map_cons, e1]
        unfold pairD rowD
        rw [h1]
      · rw [List.map_cons, ← e2]
        rfl
    · rintro ⟨f, e1, e2, e3⟩
      cases f with
      | nil => cases e1
      | cons r f =>
        injection e1 with e4 e5
        injection e2 with e6 e7
        unfold pairD rowD at e4
        injection e4 with e4
        injection e4 with _ e4
        injection e4 with e4 _
        exact ⟨⟨r.2, e4, e3 r List.mem_cons_self⟩, f, e5, e7, fun q h => e3 q (List.mem_cons_of_mem _ h)⟩
section
variable {P : Program} {w : World} {K : PySem.W.Frag} {mg : Str → Option Value} {base : Heap} {t : Adr}
def spKinds : Sp := fun vs H Q _ => ∃ (b : Addr) (xs : List V) (ps : List (Str × PyData)), vs = [.ref b] ∧ H b = some (.tup xs) ∧ RdA H xs (ps.map pairD) ∧ ps.length ≤ 100 ∧ ∀ (q : Addr) H', H' q = some (.tup ((ps.map (·.1)).map V.str)) → Same H H' → Q (.ref q) H'
theorem ok_kindsOf (D : Defs K mg t) : FnOk P w K mg base CX0 1 t.kinds_of.1 t.kinds_of.2 ["rows"] spKinds := by
  have hz : sizeLine = 16777216 := sizeLine_eq
  refine D.kinds_of.fn.ok sc_kinds_of (fun vs H Q E h => ?_) (fun cdv A outer s H vs Q E hr h => ?_)
  · obtain ⟨b, xs, ps, rfl, _⟩ := h
    rfl
  · obtain ⟨b, xs, ps, rfl, hb, rl, hl, k⟩ := h
    have hxl : xs.length = ps.length := by have := rl.length; rwa [List.length_map] at this
    refine ⟨_, (pss_one (ps_ret (pe_callTy call_tuple_of (by rfl) D.b_tuple bt_tuple (pa_cons (pe_comp rfl (CompScope.of ["row"] [] ["row"] (defScope (top 8)) ["rows"] rfl rfl (by decide +kernel)) ⟨fun _ _ _ _ _ => (pg_name (i := 0) (show List.Nodup [("row" : Str)] by decide +kernel) rfl (Or.inl (lookup_relabel_local rfl)) (.inr (lookup_relabel_local rfl))), fun _ _ _ _ _ => pts_nil, fun _ _ _ _ _ => (pe_ix (ix_tup_K (K := K) rfl) (pv 0) pe_int (fun _ _ => rfl))⟩ (pi_tup (pv 0))) pa_nil)))), ?_⟩
    refine ⟨_, rfl, b, rfl, ⟨_, SqT.of hb⟩, fun Dd hD => ?_⟩
    have sD : ∀ o, Same H (upd H Dd o) := fun o => Same.new hD
    refine comp_by (n := xs.length) (fun i ys H2 => ys = ((ps.take i).map (·.1)).map V.str ∧ H2 = upd H Dd (.lst ys)) ⟨rfl, rfl⟩ ?_ ?_
    · rintro ys H2 ⟨rfl, rfl⟩
      rw [List.take_of_length_le (by omega)]
      refine ⟨⟨_, SqT.of (sD _ b _ hb), Nat.le_refl _⟩, Dd, _, rfl, .inl ⟨SqL.of upd_same, fun q hq => ?_⟩⟩
      exact k q _ upd_same ((sD _).trans (Same.new hq))
    · rintro i ys H2 hi ⟨rfl, rfl⟩
      have hil : i < ps.length := by omega
      obtain ⟨y, ey, ry⟩ := rl.get (i := i) (d := pairD ps[i]) (by rw [List.getElem?_map, List.getElem?_eq_getElem hil]; rfl)
      refine ⟨⟨_, _, SqT.of (sD _ b _ hb), ey⟩, ?_⟩
      rintro z H3 ⟨rfl, yy⟩ σo ho
      obtain ⟨o, rfl⟩ := own1 ho
      have ez := yy _ (SqT.of (sD _ b _ hb))
      rw [ey] at ez
      cases ez
      obtain ⟨q, zs, rfl, hq, rz⟩ := (ry.same' (sD _)).of_tuple
      cases rz with
      | cons r1 r2 =>
        obtain rfl := r1.of_str
        refine ⟨⟨[_], rfl, rfl⟩, yes_by ⟨_, rfl, q, _, _, _, rfl, rfl, SqT.of hq, atI_nat (j := 0) rfl, by rw [List.length_map, List.length_map, List.length_take]; omega, upd_same, less_by hi ⟨?_, by rw [upd_upd]⟩⟩⟩
        rw [take_snoc hil, List.map_append, List.map_append]
        rfl
def spFam : Sp := fun vs H Q _ => ∃ (v : V) (d : PyData), vs = [v] ∧ RdV H v d ∧ gd d ∧ wt d ≤ 1900 ∧ ∀ H', Same H H' → Q (.bl (dcd (IsF d))) H'
theorem ok_fam (D : Defs K mg t) (GL : Glb mg) : FnOk P w K mg base CX0 3 t.is_family.1 t.is_family.2 ["thing"] spFam := by
  have G_is_tuple_of : FnOk P w K mg base CX0 1 t.is_tuple_of.1 t.is_tuple_of.2 _ spTupOf := ok_tupOf D
  have G_is_name : FnOk P w K mg base CX0 1 t.is_name.1 t.is_name.2 _ spName := ok_name D GL
  have G_are_kinds : FnOk P w K mg base CX0 2 t.are_kinds.1 t.are_kinds.2 _ spAre := ok_are D
  have G_kinds_of : FnOk P w K mg base CX0 1 t.kinds_of.1 t.kinds_of.2 _ spKinds := ok_kindsOf D
  have G_elders_first : FnOk P w K mg base CX0 1 t.elders_first.1 t.elders_first.2 _ spElders := ok_elders D
  obtain ⟨tk3, hMOK⟩ := GL.g_MOST_KINDS
  have hz : sizeLine = 16777216 := sizeLine_eq
  refine D.is_family.fn.ok sc_is_family (fun vs H Q E h => ?_) (fun cdv A outer s H vs Q E hr h => ?_)
  · obtain ⟨v, d, rfl, _⟩ := h
    rfl
  · obtain ⟨v, d, rfl, rd, g, _, k⟩ := h
    refine ⟨_, (pss_cons (ps_if (PW.pt (pw_or (pt_not (pt_val (pe_callB call_isinst (by rfl) D.b_isinstance bt_isinstance (pa_cons (pv 0) (pa_cons (pe_bltn (v := V.ty "tuple") rfl D.b_tuple bt_tuple rfl) pa_nil))))) (pw_or1 (pt_not (pt_chain op_le op_le pe_int (pe_callB call_len_seq (by rfl) D.b_len bt_len (pa_cons (pv 0) pa_nil)) (pe_glob (v := V.int 7) (by rfl) hMOK ⟨_, rfl⟩))))))
      (pss_one (ps_ret pe_bl))
      pss_nil)
      (pss_cons (ps_if (pt_not (pt_val (pe_callB (call_all rfl) (by rfl) D.b_all bt_all (pa_cons (pe_comp rfl (CompScope.of ["pair"] [] ["pair"] (defScope (top 9)) ["thing", "kinds"] rfl rfl (by decide +kernel)) ⟨fun _ _ _ _ _ => (pg_name (i := 0) (show List.Nodup [("pair" : Str)] by decide +kernel) rfl (Or.inl (lookup_relabel_local rfl)) (.inr (lookup_relabel_local rfl))), fun _ _ _ _ _ => pts_nil, fun _ _ _ _ _ => (pe_and (pe_callF D.is_tuple_of G_is_tuple_of (hr.mono (by omega)) (by rfl) (pa_cons (pv 0) (pa_cons pe_int pa_nil))) (pe_one (pe_callF D.is_name G_is_name (hr.mono (by omega)) (by rfl) (pa_cons (pe_ix (ix_tup_K (K := K) rfl) (pv 0) pe_int (fun _ _ => rfl)) pa_nil))))⟩ (pi_tup (pv 0))) pa_nil))))
      (pss_one (ps_ret pe_bl))
      pss_nil)
      (pss_cons (ps_set (i := 1) sc_is_family.nd rfl (Or.inr rfl) (pe_callF D.kinds_of G_kinds_of (hr.mono (by omega)) (by rfl) (pa_cons (pv 0) pa_nil)))
      (pss_cons (ps_if (pt_cmpR op_lt (pe_callB call_len_setS (by rfl) D.b_len bt_len (pa_cons (pe_callTy (call_setU rfl) (by rfl) D.b_set bt_set (pa_cons (pv 1) pa_nil)) pa_nil)) (pe_callB call_len_seq (by rfl) D.b_len bt_len (pa_cons (pv 1) pa_nil)) (nomark _))
      (pss_one (ps_ret pe_bl))
      pss_nil)
      (pss_cons (ps_if (pt_not (pt_val (pe_callB (call_all rfl) (by rfl) D.b_all bt_all (pa_cons (pe_comp rfl (CompScope.of ["pair"] [1] ["pair", "kinds"] (defScope (top 9)) ["thing", "kinds"] rfl rfl (by decide +kernel)) ⟨fun _ _ _ _ _ => (pg_name (i := 0) (show List.Nodup [("pair" : Str), ("kinds" : Str)] by decide +kernel) rfl (Or.inl (lookup_relabel_local rfl)) (.inr (lookup_relabel_local rfl))), fun _ _ _ _ _ => pts_nil, fun _ _ _ _ _ => (pe_callF D.are_kinds G_are_kinds (hr.mono (by omega)) (by rfl) (pa_cons (pe_ix (ix_tup_K (K := K) rfl) (pv 0) pe_int (fun _ _ => rfl)) (pa_cons (pv 1) pa_nil)))⟩ (pi_tup (pv 0))) pa_nil))))
      (pss_one (ps_ret pe_bl))
      pss_nil)
      (pss_one (ps_ret (pe_cmpR op_eq (pe_callB call_len_seq (by rfl) D.b_len bt_len (pa_cons (pe_callF D.elders_first G_elders_first (hr.mono (by omega)) (by rfl) (pa_cons (pv 0) pa_nil)) pa_nil)) (pe_callB call_len_seq (by rfl) D.b_len bt_len (pa_cons (pv 0) pa_nil)) (nomark _))))))))), ?_⟩
    have kf : ∀ {H'}, Same H H' → ¬ IsF d → Q (.bl false) H' := fun s h => by have := k _ s; rw [dcd_f h] at this; exact this
    refine ⟨_, rfl, _, _, _, isTu d, rfl, rd.ty, kit_T K d, _, rfl, ?_⟩
    cases hb : isTu d with
    | false => exact iteT (iteT (kf (Same.refl H) fun ⟨f, e, _⟩ => by rw [e] at hb; cases hb))
    | true =>
      obtain ⟨ds, rfl⟩ := isTu_t hb
      obtain ⟨b, xs, rfl, hb', rl⟩ := rd.of_tuple
      have hxl := rl.length
      have nf : ¬ (1 ≤ ds.length ∧ ds.length ≤ 7) → Q (.bl false) H := fun h => kf (Same.refl H) fun ⟨f, e, n1, n2, _⟩ => by
        injection e with e
        rw [e, List.length_map] at h
        exact h ⟨n1, n2⟩
      refine iteF ⟨_, rfl, b, _, rfl, .inr (SqT.of hb'), _, _, rfl, rfl, _, rfl, ?_⟩
      by_cases h1 : 1 ≤ ds.length
      rotate_left
      · refine iteNeg (by rw [decide_eq_false (show ¬ (1 : Int) ≤ (xs.length : Int) by omega)]; exact Bool.false_ne_true) ?_
        exact ⟨_, rfl, iteT (nf fun h => h1 h.1)⟩
      refine itePos (decide_eq_true (by omega)) ⟨_, _, rfl, rfl, _, rfl, ?_⟩
      by_cases h7 : ds.length ≤ 7
      rotate_left
      · exact itePos (by rw [decide_eq_false (show ¬ (xs.length : Int) ≤ 7 by omega)]; rfl) (nf fun h => h7 h.2)
      refine iteNeg (by rw [decide_eq_true (show (xs.length : Int) ≤ 7 by omega)]; exact Bool.false_ne_true) ?_
      refine ⟨_, rfl, b, rfl, ⟨_, SqT.of hb'⟩, fun Dd hD => ?_⟩
      refine comp_by (n := xs.length) (fun i ys H2 => ys = ((ds.take i).map fun d => dcd (R1 d)).map V.bl ∧ Same H H2 ∧ H2 Dd = some (.lst ys)) ⟨rfl, Same.new hD, upd_same⟩ ?_ ?_
      rotate_left
      · rintro i ys H2 hi ⟨rfl, s2, hD2⟩
        have hil : i < ds.length := by omega
        obtain ⟨y, ey, ry⟩ := rl.get (List.getElem?_eq_getElem hil)
        refine ⟨⟨_, _, SqT.of (s2 b _ hb'), ey⟩, ?_⟩
        rintro z H3 ⟨rfl, yy⟩ σo ho
        obtain ⟨o, rfl⟩ := own1 ho
        have ez := yy _ (SqT.of (s2 b _ hb'))
        rw [ey] at ez
        cases ez
        have gi : gd ds[i] := by
          rw [gd] at g
          exact gdA_iff.mp g _ (List.getElem_mem hil)
        have fin : ∀ (B : Bool) (H4 : Hp), B = dcd (R1 ds[i]) → Same H3 H4 → (∃ m', m' < xs.length - i ∧ (m' = xs.length - (i + 1) ∧ i + 1 ≤ xs.length ∧ (((ds.take i).map fun d => dcd (R1 d)).map V.bl ++ [.bl B] = ((ds.take (i + 1)).map fun d => dcd (R1 d)).map V.bl ∧ Same H (upd H4 Dd (.lst (((ds.take i).map fun d => dcd (R1 d)).map V.bl ++ [.bl B]))) ∧ (upd H4 Dd (.lst (((ds.take i).map fun d => dcd (R1 d)).map V.bl ++ [.bl B]))) Dd = some (.lst (((ds.take i).map fun d => dcd (R1 d)).map V.bl ++ [.bl B]))))) := fun B H4 eB s4 => less_by hi ⟨by
            rw [take_snoc hil, List.map_append, List.map_append, eB]
            rfl, fun b' o e => by
            rw [upd_ne (ne_of_none e hD)]
            exact s4 b' o (s2 b' o e), upd_same⟩
        have hlen : (((ds.take i).map fun d => dcd (R1 d)).map V.bl).length ≤ 7 := by rw [List.length_map, List.length_map, List.length_take]; omega
        refine ⟨⟨[_], rfl, rfl⟩, yes_by ⟨_, rfl, y, ds[i], 2, rfl, ry.same' s2, ?_⟩⟩
        by_cases h2 : ∃ es, ds[i] = .tuple es ∧ es.length = 2
        · rw [dcd_t h2]
          obtain ⟨es, ee, e2⟩ := h2
          rw [ee] at ry gi
          obtain ⟨q, zs, rfl, hq, rz⟩ := (ry.same' s2).of_tuple
          match es, e2 with
          | [e0, e1], _ =>
            rw [gd, gdA] at gi
            cases rz with
            | cons r1 r2 =>
              refine ⟨_, rfl, iteT ⟨_, rfl, q, _, _, _, rfl, rfl, SqT.of hq, atI_nat (j := 0) rfl, _, e0, rfl, r1, gi.1, fun H4 s4 => ⟨by omega, s4 Dd _ hD2, fin _ H4 ?_ s4⟩⟩⟩
              refine dcd_eq ⟨fun ⟨x, ex, hx⟩ => ⟨x, e1, by rw [ee, ex], hx⟩, fun ⟨x, e', eq, hx⟩ => ⟨x, ?_, hx⟩⟩
              rw [ee] at eq
              injection eq with eq
              injection eq with eq
        · rw [dcd_f h2]
          refine ⟨_, rfl, iteF ⟨by omega, hD2, fin _ H3 ?_ (Same.refl H3)⟩⟩
          rw [dcd_f]
          rintro ⟨x, e, ex, _⟩
          exact h2 ⟨_, ex, rfl⟩
      rintro ys H2 ⟨rfl, s2, hD2⟩
      rw [List.take_of_length_le (by omega)] at hD2
      refine ⟨⟨_, SqT.of (s2 b _ hb'), Nat.le_refl _⟩, Dd, _, rfl, SqL.of hD2, _, rfl, ?_⟩
      cases hall : (ds.map fun d => dcd (R1 d)).all id with
      | false =>
        refine iteT (kf s2 ?_)
        rintro ⟨f, e, _, _, ok, _⟩
        injection e with e
        have : (ds.map fun d => dcd (R1 d)).all id = true := by
          rw [all_R1]
          refine ⟨f.map fun r => (r.1, .tuple (r.2.map .str)), ?_, fun p hp => ?_⟩
          · rw [e, List.map_map]
            rfl
          · obtain ⟨r, hr', rfl⟩ := List.mem_map.mp hp
            exact (ok r hr').1
        rw [this] at hall
        cases hall
      | true =>
        obtain ⟨ps, rfl, nmp⟩ := all_R1.mp hall
        rw [List.length_map] at h1 h7 hxl
        have rl2 := rl.same' s2
        refine iteF ⟨_, rfl, b, xs, ps, rfl, s2 b _ hb', rl2, by omega, fun ka H3 hka s3 => ?_⟩
        have s13 := s2.trans s3
        have pl : ((ps.map (·.1)).map V.str).length = ps.length := by rw [List.length_map, List.length_map]
        have kl : (ps.map (·.1)).length = ps.length := List.length_map _
        refine ⟨_, rfl, ka, _, rfl, .inr (SqT.of hka), by omega, fun sd hsd => ?_⟩
        have s4 : ∀ o, Same H3 (upd H3 sd o) := fun o => Same.new hsd
        refine ⟨sd, _, rfl, upd_same, _, rfl, ka, _, rfl, .inr (SqT.of (s4 _ ka _ hka)), _, _, rfl, rfl, _, rfl, ?_⟩
        have s14 : ∀ o, Same H (upd H3 sd o) := fun o => s13.trans (s4 o)
        have ule := un_le (ps.map (·.1)) (ps.map (·.1)).length
        by_cases nd : (ps.map (·.1)).Nodup
        rotate_left
        · refine itePos (decide_eq_true ?_) (kf (s14 _) ?_)
          · have : un (ps.map (·.1)) (ps.map (·.1)).length ≠ (ps.map (·.1)).length := fun z => nd ((un_all _).mp z)
            omega
          · rintro ⟨f, e, _, _, _, ndf, _⟩
            injection e with e
            have : ps.map (·.1) = nms f := by
              have h := congrArg (List.map fun d => match d with | PyData.tuple (PyData.str x :: _) => x | _ => "") e
              rw [List.map_map, List.map_map] at h
              exact h
            rw [this] at nd
            exact nd ndf
        have une := (un_all _).mpr nd
        refine iteNeg (by rw [decide_eq_false (by omega)]; exact Bool.false_ne_true) ?_
        refine ⟨_, rfl, b, rfl, ⟨_, SqT.of (s14 _ b _ hb')⟩, fun De hDe => ?_⟩
        refine comp_by (n := xs.length) (fun i ys H5 => ys = ((ps.take i).map fun p => dcd (AreK (ps.map (·.1)) p.2)).map V.bl ∧ Same H3 H5 ∧ H5 De = some (.lst ys)) ⟨rfl, (s4 _).trans (Same.new hDe), upd_same⟩ ?_ ?_
        rotate_left
        · rintro i ys H5 hi ⟨rfl, s5, hD5⟩
          have hil : i < ps.length := by omega
          obtain ⟨y, ey, ry⟩ := rl.get (i := i) (d := pairD ps[i]) (by rw [List.getElem?_map, List.getElem?_eq_getElem hil]; rfl)
          refine ⟨⟨_, _, SqT.of (s5 b _ (s13 b _ hb')), ey⟩, ?_⟩
          rintro z H6 ⟨rfl, yy⟩ σo ho
          obtain ⟨o, rfl⟩ := own1 ho
          have ez := yy _ (SqT.of (s5 b _ (s13 b _ hb')))
          rw [ey] at ez
          cases ez
          obtain ⟨q, zs, rfl, hq, rz⟩ := (ry.same' (s13.trans s5)).of_tuple
          cases rz with
          | cons r1 rz =>
            cases rz with
            | cons r2 rz =>
              refine ⟨⟨[_], rfl, rfl⟩, yes_by ⟨_, rfl, q, _, _, _, rfl, rfl, SqT.of hq, atI_nat (j := 1) rfl, _, rfl, _, (ps[i]).2, ka, ps.map (·.1), rfl, r2, s5 ka _ hka, by omega, fun H7 s7 => ⟨by rw [List.length_map, List.length_map, List.length_take]; omega, s7 De _ hD5, less_by hi ⟨?_, fun b' o e => ?_, upd_same⟩⟩⟩⟩
              · rw [take_snoc hil, List.map_append, List.map_append]
                rfl
              · rw [upd_ne (ne_of_none (s4 _ b' o e) hDe)]
                exact s7 b' o (s5 b' o e)
        rintro ys H5 ⟨rfl, s5, hD5⟩
        rw [List.take_of_length_le (by omega)] at hD5
        refine ⟨⟨_, SqT.of (s5 b _ (s13 b _ hb')), Nat.le_refl _⟩, De, _, rfl, SqL.of hD5, _, rfl, ?_⟩
        have s15 := s13.trans s5
        cases hare : (ps.map fun p => dcd (AreK (ps.map (·.1)) p.2)).all id with
        | false =>
          refine iteT (kf s15 ?_)
          rintro ⟨f, e, _, _, ok, ndf, pl⟩
          injection e with e
          have en : ps.map (·.1) = nms f := by
            have h := congrArg (List.map fun d => match d with | PyData.tuple (PyData.str x :: _) => x | _ => "") e
            rw [List.map_map, List.map_map] at h
            exact h
          have : (ps.map fun p => dcd (AreK (ps.map (·.1)) p.2)).all id = true := by
            rw [all_are]
            refine ⟨f, e, en.symm, fun r hr' => ⟨fun e' he' => ?_, (ok r hr').2.2⟩⟩
            rw [en]
            exact (Pl.inv ndf hr' (pl r.1 (List.mem_map.mpr ⟨r, hr', rfl⟩)) e' he').mem
          rw [this] at hare
          cases hare
        | true =>
          obtain ⟨f, e1, e2, e3⟩ := all_are.mp hare
          have fl : f.length = ps.length := by
            have := congrArg List.length e2
            rwa [List.length_map, List.length_map] at this
          rw [← e2] at nd e3
          have rw' : Rws f := ⟨nd, by omega, fun r hr' => by
            have := nodup_le (e3 r hr').2 (e3 r hr').1
            rw [List.length_map] at this
            omega⟩
          have dv : Dp H5 (famT f) (.ref b) := RdV.dp (famT f) (by rw [toD_fam, ← e1]; exact rd.same' s15)
          refine iteF ⟨_, rfl, .ref b, f, rfl, dv, rw', fun q pl H6 hq T h0 s6 => ?_⟩
          refine ⟨q, _, rfl, .inr (SqT.of hq), _, rfl, b, _, rfl, .inr (SqT.of (s6 b _ (s15 b _ hb'))), rfl, ?_⟩
          have fin := k _ (s15.trans s6)
          have key : IsF (.tuple (ps.map pairD)) ↔ pl.length = f.length := by
            rw [T.all nd (.inl h0)]
            constructor
            · rintro ⟨f', e, _, _, _, _, h⟩
              rw [e1] at e
              rw [famD_inj e]
              exact h
            · intro h
              refine ⟨f, by rw [e1], by omega, by omega, fun r hr' => ⟨?_, fun e' he' => ?_, (e3 r hr').2⟩, nd, h⟩
              · have : r.1 ∈ ps.map (·.1) := by rw [← e2]; exact List.mem_map.mpr ⟨r, hr', rfl⟩
                obtain ⟨p, hp, ep⟩ := List.mem_map.mp this
                rw [← ep]
                exact nmp p hp
              · have : e' ∈ ps.map (·.1) := by rw [← e2]; exact (e3 r hr').1 e' he'
                obtain ⟨p, hp, ep⟩ := List.mem_map.mp this
                rw [← ep]
                exact nmp p hp
          rw [dcd_eq key] at fin
          rw [List.length_map]
          by_cases e : pl.length = f.length
          · rw [dcd_t e] at fin
            rw [decide_eq_true (by rw [e, fl, hxl])]
            exact fin
          · rw [dcd_f e] at fin
            rw [decide_eq_false (fun z => by injection z with z; omega)]
            exact fin
end
end K01
end
section
set_option autoImplicit false
namespace K01
open PySem PyProof.Rows L2
theorem all_nm : ∀ {ds : List PyData}, (ds.map fun d => dcd (NmD d)).all id = true ↔ ∃ es : List Str, ds = es.map PyData.str ∧ ∀ e ∈ es, Nm e
  | [] => ⟨fun _ => ⟨[], rfl, fun e he => nomatch he⟩, fun _ => rfl⟩
  | d :: ds => by
    rw [List.map_cons, List.all_cons, Bool.and_eq_true, all_nm]
    show dcd _ = true ∧ _ ↔ _
    rw [dcd_iff]
    constructor
    · rintro ⟨⟨x, rfl, hx⟩, es, rfl, he⟩
      exact ⟨x :: es, rfl, fun e h => (List.mem_cons.mp h).elim (fun z => z ▸ hx) (he e)⟩
    · rintro ⟨es, e, he⟩
      cases es with
      | nil => cases e
      | cons x es =>
        injection e with e1 e2
        exact ⟨⟨x, e1, he x List.mem_cons_self⟩, es, e2, fun e h => he e (List.mem_cons_of_mem _ h)⟩
theorem wtA_mem : ∀ {ds : List PyData} {d : PyData}, d ∈ ds → wt d ≤ wtA ds
  | d :: ds, x, h => by
    rw [wtA]
    rcases List.mem_cons.mp h with rfl | h
    · omega
    · have := wtA_mem h
      omega
def itF (f : Fam) : Nat → List Str
  | 0 => []
  | i + 1 => itF f i ++ readyOf f (itF f i)
theorem itF_topo {f : Fam} (nd : (nms f).Nodup) : ∀ i, Topo f (itF f i)
  | 0 => Topo.nil f
  | i + 1 => (itF_topo nd i).more nd
theorem itF_grow {f : Fam} : ∀ i, readyOf f (itF f i) = [] ∨ i ≤ (itF f i).length
  | 0 => .inr (Nat.zero_le _)
  | i + 1 => by
    rw [itF]
    cases h : readyOf f (itF f i) with
    | nil =>
      rw [List.append_nil]
      exact .inl h
    | cons x r =>
      rcases itF_grow (f := f) i with h0 | h0
      · rw [h0] at h
        cases h
      · right
        rw [List.length_append, List.length_cons]
        omega
def rdy (dn : List Str) (r : Str × List Str) : Bool := decide (¬ r.1 ∈ dn) && r.2.all fun e => decide (e ∈ dn)
theorem rdy_ready (f : Fam) (dn : List Str) : (f.filter (rdy dn)).map (·.1) = readyOf f dn := by
  unfold readyOf leftOf
  rw [List.filter_filter]
  congr 1
  apply List.filter_congr
  intro r _
  unfold rdy
  rw [Bool.and_comm]
theorem IsF.row {ds : List PyData} (h : IsF (.tuple ds)) {i : Nat} (hi : i < ds.length) : ∃ r, ds[i] = rowD r ∧ RowOk r := by
  obtain ⟨f, e, _, _, ok, _⟩ := h
  injection e with e
  subst e
  rw [List.length_map] at hi
  exact ⟨f[i], by rw [List.getElem_map], ok _ (List.getElem_mem hi)⟩
section
variable {P : Program} {w : World} {K : PySem.W.Frag} {mg : Str → Option Value} {base : Heap} {t : Adr}
theorem ok_named (D : Defs K mg t) : FnOk P w K mg base CX0 1 t._law_named.1 t._law_named.2 ["_law_thing"] spName := by
  have hz : sizeLine = 16777216 := sizeLine_eq
  refine D._law_named.fn.ok sc__law_named (fun vs H Q E h => ?_) (fun cdv A outer s H vs Q E hr h => ?_)
  · obtain ⟨v, d, rfl, _⟩ := h
    rfl
  · obtain ⟨v, d, rfl, rd, g, k⟩ := h
    refine ⟨_, (pss_cons (ps_if (PW.pt (pw_or (pt_not (pt_val (pe_callB call_isinst (by rfl) D.b_isinstance bt_isinstance (pa_cons (pv 0) (pa_cons (pe_bltn (v := V.ty "str") rfl D.b_str bt_str rfl) pa_nil))))) (pw_or (pt_cmpR op_lt (pe_callB call_len_str (by rfl) D.b_len bt_len (pa_cons (pv 0) pa_nil)) pe_int (nomark _)) (pw_or1 (pt_cmpR op_gt (pe_callB call_len_str (by rfl) D.b_len bt_len (pa_cons (pv 0) pa_nil)) pe_int (nomark _))))))
      (pss_one (ps_ret pe_bl))
      pss_nil)
      (pss_one (ps_ret (pe_callB (call_all rfl) (by rfl) D.b_all bt_all (pa_cons (pe_comp rfl (CompScope.of ["_law_sign"] [] ["_law_sign"] (defScope (top 21)) ["_law_thing"] rfl rfl (by decide +kernel)) ⟨fun _ _ _ _ _ => (pg_name (i := 0) (show List.Nodup [("_law_sign" : Str)] by decide +kernel) rfl (Or.inl (lookup_relabel_local rfl)) (.inr (lookup_relabel_local rfl))), fun _ _ _ _ _ => pts_nil, fun _ _ _ _ _ => (pe_cmpR op_inC (pv 0) pe_str (by with_unfolding_all rfl))⟩ (pi_str (pv 0))) pa_nil))))), ?_⟩
    refine ⟨_, rfl, _, _, _, isSt d, rfl, rd.ty, kit_S K d, _, rfl, ?_⟩
    cases hb : isSt d with
    | false =>
      have kf := k H (Same.refl H)
      rw [dcd_f (fun ⟨x, e, _⟩ => by rw [e] at hb; cases hb)] at kf
      exact iteT (iteT kf)
    | true =>
      obtain ⟨x, rfl⟩ := isSt_t hb
      obtain rfl := rd.of_str
      rw [gd] at g
      have nf : ¬ (1 ≤ x.length ∧ x.length ≤ 6) → Q (.bl false) H := fun h => by
        have kf := k H (Same.refl H)
        rw [dcd_f (fun ⟨y, e, n1, n2, _⟩ => by injection e with e; rw [← e] at n1 n2; exact h ⟨n1, n2⟩)] at kf
        exact kf
      refine iteF ⟨_, rfl, x, rfl, by omega, _, _, rfl, rfl, _, rfl, ?_⟩
      by_cases h1 : 1 ≤ x.length
      rotate_left
      · exact itePos (decide_eq_true (by omega)) (iteT (nf fun h => h1 h.1))
      refine iteNeg (by rw [decide_eq_false (show ¬ (x.length : Int) < 1 by omega)]; exact Bool.false_ne_true) ?_
      refine ⟨_, rfl, x, rfl, by omega, _, _, rfl, rfl, _, rfl, ?_⟩
      by_cases h6 : x.length ≤ 6
      rotate_left
      · exact itePos (decide_eq_true (by omega)) (nf fun h => h6 h.2)
      refine iteNeg (by rw [decide_eq_false (show ¬ (x.length : Int) > 6 by omega)]; exact Bool.false_ne_true) ?_
      refine ⟨_, rfl, x, rfl, g.2, fun Dd hD => ?_⟩
      refine comp_by (n := x.length) (fun i ys H2 => ys = ((x.cps.toList.take i).map fun c => decide (c ∈ abc.cps.toList)).map V.bl ∧ H2 = upd H Dd (.lst ys)) ⟨rfl, rfl⟩ ?_ ?_
      · rintro ys H2 ⟨rfl, rfl⟩
        rw [List.take_of_length_le (by rw [Array.length_toList]; exact Nat.le_refl _)]
        refine ⟨Nat.le_refl _, Dd, _, rfl, SqL.of upd_same, ?_⟩
        rw [all_letters]
        have kf := k _ (Same.new (o := .lst ((x.cps.toList.map fun c => decide (c ∈ abc.cps.toList)).map V.bl)) hD)
        rw [dcd_eq (q := Lw x) ⟨fun ⟨y, e, _, _, n3⟩ => by injection e with e; rw [e]; exact n3, fun l => ⟨x, rfl, h1, h6, l⟩⟩] at kf
        exact kf
      · rintro i ys H2 hi ⟨rfl, rfl⟩
        refine ⟨hi, ?_⟩
        rintro y H3 ⟨rfl, c, ec, rfl⟩ σo ho
        obtain ⟨o, rfl⟩ := own1 ho
        have ec' : x.cps[i]? = some c := ec
        refine ⟨⟨[_], rfl, rfl⟩, yes_by ⟨_, rfl, c, abc, rfl, rfl, by rw [List.length_map, List.length_map, List.length_take]; omega, upd_same, less_by hi ⟨?_, by rw [upd_upd]⟩⟩⟩
        rw [List.take_succ, Array.getElem?_toList, ec', List.map_append, List.map_append]
        rfl
theorem ok_is (D : Defs K mg t) : FnOk P w K mg base CX0 2 t._law_is.1 t._law_is.2 ["_law_thing"] spFam := by
  have G__law_named : FnOk P w K mg base CX0 1 t._law_named.1 t._law_named.2 _ spName := ok_named D
  have hz : sizeLine = 16777216 := sizeLine_eq
  refine D._law_is.fn.ok sc__law_is (fun vs H Q E h => ?_) (fun cdv A outer s H vs Q E hr h => ?_)
  · obtain ⟨v, d, rfl, _⟩ := h
    rfl
  · obtain ⟨v, d, rfl, rd, g, wd, k⟩ := h
    refine ⟨_, (pss_cons (ps_if (PW.pt (pw_or (pt_not (pt_val (pe_callB call_isinst (by rfl) D.b_isinstance bt_isinstance (pa_cons (pv 0) (pa_cons (pe_bltn (v := V.ty "tuple") rfl D.b_tuple bt_tuple rfl) pa_nil))))) (pw_or (pt_cmpR op_lt (pe_callB call_len_seq (by rfl) D.b_len bt_len (pa_cons (pv 0) pa_nil)) pe_int (nomark _)) (pw_or1 (pt_cmpR op_gt (pe_callB call_len_seq (by rfl) D.b_len bt_len (pa_cons (pv 0) pa_nil)) pe_int (nomark _))))))
      (pss_one (ps_ret pe_bl))
      pss_nil)
      (pss_cons (ps_for PassesOwn.never rfl (pi_tup (pv 0)) (pg_name (i := 1) sc__law_is.nd rfl (Or.inl rfl))
      (pss_cons (ps_if (PW.pt (pw_or (pt_not (pt_val (pe_callB call_isinst (by rfl) D.b_isinstance bt_isinstance (pa_cons (pv 1) (pa_cons (pe_bltn (v := V.ty "tuple") rfl D.b_tuple bt_tuple rfl) pa_nil))))) (pw_or (pt_cmpR op_ne (pe_callB (call_len_seqK (K := K) rfl) (by rfl) D.b_len bt_len (pa_cons (pv 1) pa_nil)) pe_int (nomark _)) (pw_or (pt_not (pt_val (pe_callF D._law_named G__law_named (hr.mono (by omega)) (by rfl) (pa_cons (pe_ix ix_tup (pv 1) pe_int (fun _ _ => rfl)) pa_nil)))) (pw_or1 (pt_not (pt_val (pe_callB call_isinst (by rfl) D.b_isinstance bt_isinstance (pa_cons (pe_ix ix_tup (pv 1) pe_int (fun _ _ => rfl)) (pa_cons (pe_bltn (v := V.ty "tuple") rfl D.b_tuple bt_tuple rfl) pa_nil))))))))))
      (pss_one (ps_ret pe_bl))
      pss_nil)
      (pss_one (ps_if (PW.pt (pw_or (pt_not (pt_val (pe_callB (call_all rfl) (by rfl) D.b_all bt_all (pa_cons (pe_comp rfl (CompScope.of ["_law_one"] [] ["_law_one"] (defScope (top 22)) ["_law_thing", "_law_row", "_law_done", "_law_turn"] rfl rfl (by decide +kernel)) ⟨fun _ _ _ _ _ => (pg_name (i := 0) (show List.Nodup [("_law_one" : Str)] by decide +kernel) rfl (Or.inl (lookup_relabel_local rfl)) (.inr (lookup_relabel_local rfl))), fun _ _ _ _ _ => pts_nil, fun _ _ _ _ _ => (pe_callF D._law_named G__law_named (hr.mono (by omega)) (by rfl) (pa_cons (pv 0) pa_nil))⟩ (pi_tup (pe_ix ix_tup (pv 1) pe_int (fun _ _ => rfl)))) pa_nil)))) (pw_or1 (pt_cmpR op_ne (pe_callB call_len_setS (by rfl) D.b_len bt_len (pa_cons (pe_callTy (call_setU rfl) (by rfl) D.b_set bt_set (pa_cons (pe_ix ix_tup (pv 1) pe_int (fun _ _ => rfl)) pa_nil)) pa_nil)) (pe_callB call_len_seq (by rfl) D.b_len bt_len (pa_cons (pe_ix ix_tup (pv 1) pe_int (fun _ _ => rfl)) pa_nil)) (nomark _)))))
      (pss_one (ps_ret pe_bl))
      pss_nil))))
      (pss_cons (ps_if (pt_cmpR op_ne (pe_callB call_len_setS (by rfl) D.b_len bt_len (pa_cons (pe_callTy (call_setU rfl) (by rfl) D.b_set bt_set (pa_cons (pe_comp rfl (CompScope.of ["_law_row"] [] ["_law_row"] (defScope (top 22)) ["_law_thing", "_law_row", "_law_done", "_law_turn"] rfl rfl (by decide +kernel)) ⟨fun _ _ _ _ _ => (pg_name (i := 0) (show List.Nodup [("_law_row" : Str)] by decide +kernel) rfl (Or.inl (lookup_relabel_local rfl)) (.inr (lookup_relabel_local rfl))), fun _ _ _ _ _ => pts_nil, fun _ _ _ _ _ => (pe_ix (ix_tup_K (K := K) rfl) (pv 0) pe_int (fun _ _ => rfl))⟩ (pi_tup (pv 0))) pa_nil)) pa_nil)) (pe_callB call_len_seq (by rfl) D.b_len bt_len (pa_cons (pv 0) pa_nil)) (nomark _))
      (pss_one (ps_ret pe_bl))
      pss_nil)
      (pss_cons (ps_set (i := 2) sc__law_is.nd rfl (Or.inr rfl) (pe_lst pa_nil))
      (pss_cons (ps_for PassesOwn.never rfl (pi_range1 rfl D.b_range (pa_cons (pe_callB call_len_seq (by rfl) D.b_len bt_len (pa_cons (pv 0) pa_nil)) pa_nil)) (pg_name (i := 3) sc__law_is.nd rfl (Or.inl rfl))
      (pss_one (ps_set (i := 2) sc__law_is.nd rfl (Or.inr rfl) (pe_op op_cat (pv 2) (pe_comp rfl (CompScope.of ["_law_kind", "_law_elders"] [2] ["_law_kind", "_law_elders", "_law_done"] (defScope (top 22)) ["_law_thing", "_law_row", "_law_done", "_law_turn"] rfl rfl (by decide +kernel)) ⟨fun _ _ _ _ _ => (pg_tup_K (K := K) (n := 2) rfl rfl (pgs_cons (pg_name (i := 0) (show List.Nodup [("_law_kind" : Str), ("_law_elders" : Str), ("_law_done" : Str)] by decide +kernel) rfl (Or.inl (lookup_relabel_local rfl)) (.inr (lookup_relabel_local rfl))) (pgs_cons (pg_name (i := 1) (show List.Nodup [("_law_kind" : Str), ("_law_elders" : Str), ("_law_done" : Str)] by decide +kernel) rfl (Or.inl (lookup_relabel_local rfl)) (.inr (lookup_relabel_local rfl))) pgs_nil))), fun _ _ _ _ _ => (pts_one (PW.pt (pw_and (pt_cmpR (op_notIn_K (K := K) rfl) (pv 0) (pv 2) (by with_unfolding_all rfl)) (pw_and1 (pt_val (pe_callB (call_all_K (K := K) rfl rfl) (by rfl) D.b_all bt_all (pa_cons (pe_comp rfl (CompScope.of2 ["_law_one"] [2] ["_law_one", "_law_done"] ["_law_kind", "_law_elders", "_law_done"] rfl rfl (by decide +kernel)) ⟨fun _ _ _ _ _ => (pg_name (i := 0) (show List.Nodup [("_law_one" : Str), ("_law_done" : Str)] by decide +kernel) rfl (Or.inl (lookup_relabel_local rfl)) (.inr (lookup_relabel_local rfl))), fun _ _ _ _ _ => pts_nil, fun _ _ _ _ _ => (pe_cmpR (op_in_K (K := K) rfl) (pv 0) (pv 1) (by with_unfolding_all rfl))⟩ (pi_tup_K (K := K) rfl (pv 1))) pa_nil))))))), fun _ _ _ _ _ => (pv 0)⟩ (pi_tup (pv 0)))))))
      (pss_one (ps_ret (pe_cmpR op_eq (pe_callB call_len_seq (by rfl) D.b_len bt_len (pa_cons (pv 2) pa_nil)) (pe_callB call_len_seq (by rfl) D.b_len bt_len (pa_cons (pv 0) pa_nil)) (nomark _))))))))), ?_⟩
    have kf : ∀ {H'}, Same H H' → ¬ IsF d → Q (.bl false) H' := fun s h => by have := k _ s; rw [dcd_f h] at this; exact this
    refine ⟨_, rfl, _, _, _, isTu d, rfl, rd.ty, kit_T K d, _, rfl, ?_⟩
    cases hb : isTu d with
    | false => exact iteT (iteT (kf (Same.refl H) fun ⟨f, e, _⟩ => by rw [e] at hb; cases hb))
    | true =>
      obtain ⟨ds, rfl⟩ := isTu_t hb
      obtain ⟨b, xs, rfl, hb', rl⟩ := rd.of_tuple
      have hxl := rl.length
      have nf : ¬ (1 ≤ ds.length ∧ ds.length ≤ 7) → Q (.bl false) H := fun h => kf (Same.refl H) fun ⟨f, e, n1, n2, _⟩ => by
        injection e with e
        rw [e, List.length_map] at h
        exact h ⟨n1, n2⟩
      refine iteF ⟨_, rfl, b, _, rfl, .inr (SqT.of hb'), _, _, rfl, rfl, _, rfl, ?_⟩
      by_cases h1 : 1 ≤ ds.length
      rotate_left
      · exact itePos (decide_eq_true (by omega)) (iteT (nf fun h => h1 h.1))
      refine iteNeg (by rw [decide_eq_false (show ¬ (xs.length : Int) < 1 by omega)]; exact Bool.false_ne_true) ?_
      refine ⟨_, rfl, b, _, rfl, .inr (SqT.of hb'), _, _, rfl, rfl, _, rfl, ?_⟩
      by_cases h7 : ds.length ≤ 7
      rotate_left
      · exact itePos (decide_eq_true (by omega)) (nf fun h => h7 h.2)
      refine iteNeg (by rw [decide_eq_false (show ¬ (xs.length : Int) > 7 by omega)]; exact Bool.false_ne_true) ?_
      refine ⟨_, rfl, b, rfl, ⟨_, SqT.of hb'⟩, for_tup (K := K) (a := b) (xs := xs) (fun i σ H2 => ∃ (v1 : Option V) (f : Fam), σ = [some (.ref b), v1, none, none] ∧ ds.take i = f.map rowD ∧ (∀ r ∈ f, RowOk r) ∧ Same H H2)
        ⟨_, [], rfl, rfl, (fun r hr => nomatch hr), Same.refl H⟩ (fun i σ H2 _ ⟨_, _, _, _, _, s2⟩ => SqT.of (s2 b _ hb')) ?_ ?_⟩
      · rintro i x σ H2 hi ⟨v1, f, rfl, ef, ok, s2⟩
        have hil : i < ds.length := by
          have := (List.getElem?_eq_some_iff.mp hi).1
          omega
        obtain ⟨y, ey, ry⟩ := rl.get (List.getElem?_eq_getElem hil)
        rw [hi] at ey
        cases ey
        have gi : gd ds[i] := by
          rw [gd] at g
          exact gdA_iff.mp g _ (List.getElem_mem hil)
        have wi : wt ds[i] ≤ 1899 := by
          have := wtA_mem (List.getElem_mem hil)
          rw [wt] at wd
          omega
        have nr : ∀ {H'}, Same H H' → (∀ r, ds[i] = rowD r → RowOk r → False) → Q (.bl false) H' := fun s h => kf s fun z => by
          obtain ⟨r, e, ok'⟩ := z.row hil
          exact h r e ok'
        have ry2 := ry.same' s2
        have edi : ∃ di, di = ds[i] := ⟨_, rfl⟩
        obtain ⟨di, edi⟩ := edi
        rw [← edi] at ry2 gi wi
        refine ⟨_, rfl, _, _, _, isTu di, rfl, ry2.ty, kit_T K di, _, rfl, ?_⟩
        cases hb2 : isTu di with
        | false => exact iteT (iteT (nr s2 fun r e _ => by rw [edi, e] at hb2; cases hb2))
        | true =>
          obtain ⟨es, rfl⟩ := isTu_t hb2
          obtain ⟨q, zs, rfl, hq, rz⟩ := ry2.of_tuple
          have hzl := rz.length
          refine iteF ⟨_, rfl, q, _, rfl, .inr (SqT.of hq), rfl, _, rfl, ?_⟩
          by_cases h2 : es.length = 2
          rotate_left
          · refine itePos (by rw [decide_eq_false (fun z => by injection z with z; omega)]; rfl) (iteT (nr s2 fun r e _ => h2 ?_))
            rw [e] at edi
            injection edi with edi
            rw [edi]
            rfl
          refine iteNeg (by rw [decide_eq_true (by rw [hzl, h2]; rfl)]; exact Bool.false_ne_true) ?_
          match es, h2, edi, gi, wi, rz with
          | [e0, e1], _, edi, gi, wi, .cons (v := z0) r1 (.cons (v := z1) r2 .nil) =>
            rw [gd, gdA, gdA] at gi
            simp only [wt, wtA] at wi
            refine ⟨_, rfl, q, _, _, _, rfl, rfl, SqT.of hq, atI_nat (j := 0) rfl, _, e0, rfl, r1, gi.1, fun H3 s3 => ⟨_, rfl, ?_⟩⟩
            have s13 := s2.trans s3
            by_cases hn : NmD e0
            rotate_left
            · rw [dcd_f hn]
              refine iteT (iteT (nr s13 fun r e ok' => hn ?_))
              rw [e] at edi
              injection edi with edi
              injection edi with e1 _
              exact ⟨r.1, e1, ok'.1⟩
            rw [dcd_t hn]
            obtain ⟨x0, rfl, hx0⟩ := hn
            obtain rfl := r1.of_str
            have hq3 := s3 q _ hq
            have r23 := r2.same' s3
            refine iteF ⟨_, rfl, q, _, _, _, rfl, rfl, SqT.of hq3, atI_nat (j := 1) rfl, _, _, _, isTu e1, rfl, r23.ty, kit_T K e1, _, rfl, ?_⟩
            cases hb3 : isTu e1 with
            | false =>
              refine iteT (nr s13 fun r e _ => ?_)
              rw [e] at edi
              injection edi with edi
              injection edi with _ edi
              injection edi with edi _
              rw [edi] at hb3
              cases hb3
            | true =>
              obtain ⟨fs, rfl⟩ := isTu_t hb3
              obtain ⟨a, ys, rfl, ha, ra⟩ := r23.of_tuple
              have hal := ra.length
              rw [gd] at gi
              simp only [wt] at wi
              have hfl := wtA_len fs
              refine iteF ⟨_, rfl, q, _, _, _, rfl, rfl, SqT.of hq3, atI_nat (j := 1) rfl, a, rfl, ⟨_, SqT.of ha⟩, fun Dd hD => ?_⟩
              refine comp_by (n := ys.length) (fun j bs H4 => bs = ((fs.take j).map fun d => dcd (NmD d)).map V.bl ∧ Same H3 H4 ∧ H4 Dd = some (.lst bs)) ⟨rfl, Same.new hD, upd_same⟩ ?_ ?_
              rotate_left
              · rintro j bs H4 hj ⟨rfl, s4, hD4⟩
                have hjl : j < fs.length := by omega
                obtain ⟨u, eu, ru⟩ := ra.get (List.getElem?_eq_getElem hjl)
                refine ⟨⟨_, _, SqT.of (s4 a _ ha), eu⟩, ?_⟩
                rintro z H5 ⟨rfl, yy⟩ σo ho
                obtain ⟨o, rfl⟩ := own1 ho
                have ez := yy _ (SqT.of (s4 a _ ha))
                rw [eu] at ez
                cases ez
                refine ⟨⟨[_], rfl, rfl⟩, yes_by ⟨_, rfl, _, fs[j], rfl, ru.same' s4, gdA_iff.mp gi.2.1 _ (List.getElem_mem hjl), fun H6 s6 => ⟨by rw [List.length_map, List.length_map, List.length_take]; omega, s6 Dd _ hD4, less_by hj ⟨?_, fun b' o e => ?_, upd_same⟩⟩⟩⟩
                · rw [take_snoc hjl, List.map_append, List.map_append]
                  rfl
                · rw [upd_ne (ne_of_none e hD)]
                  exact s6 b' o (s4 b' o e)
              rintro bs H4 ⟨rfl, s4, hD4⟩
              rw [List.take_of_length_le (by omega)] at hD4
              refine ⟨⟨_, SqT.of (s4 a _ ha), Nat.le_refl _⟩, Dd, _, rfl, SqL.of hD4, _, rfl, ?_⟩
              have s14 := s13.trans s4
              cases hall : (fs.map fun d => dcd (NmD d)).all id with
              | false =>
                refine iteT (iteT (nr s14 fun r e ok' => ?_))
                rw [e] at edi
                injection edi with edi
                injection edi with _ edi
                injection edi with edi _
                injection edi with edi
                rw [all_nm.mpr ⟨r.2, edi, ok'.2.1⟩] at hall
                cases hall
              | true =>
                obtain ⟨el, rfl, nme⟩ := all_nm.mp hall
                obtain rfl := ra.of_strs
                rw [List.length_map] at hfl
                refine iteF ⟨_, rfl, q, _, _, _, rfl, rfl, SqT.of (s4 q _ hq3), atI_nat (j := 1) rfl, a, el, rfl, .inr (SqT.of (s4 a _ ha)), by omega, fun sd hsd => ?_⟩
                have s5 : ∀ o, Same H4 (upd H4 sd o) := fun o => Same.new hsd
                refine ⟨sd, _, rfl, upd_same, _, rfl, q, _, _, _, rfl, rfl, SqT.of (s5 _ q _ (s4 q _ hq3)), atI_nat (j := 1) rfl, a, _, rfl, .inr (SqT.of (s5 _ a _ (s4 a _ ha))), rfl, _, rfl, ?_⟩
                rw [List.length_map]
                by_cases nd : el.Nodup
                · refine iteNeg (by rw [decide_eq_true (by rw [(un_all el).mpr nd])]; exact Bool.false_ne_true) ?_
                  refine ⟨_, f ++ [(x0, el)], rfl, ?_, fun r hr' => ?_, s14.trans (s5 _)⟩
                  · rw [take_snoc hil, ef, List.map_append, ← edi]
                    rfl
                  · rcases List.mem_append.mp hr' with h | h
                    · exact ok r h
                    · rw [List.mem_singleton.mp h]
                      exact ⟨hx0, nme, nd⟩
                · refine itePos (by rw [decide_eq_false (fun z => by injection z with z; exact nd ((un_all el).mp (by omega)))]; rfl) (nr (s14.trans (s5 _)) fun r e ok' => nd ?_)
                  rw [e] at edi
                  injection edi with edi
                  injection edi with _ edi
                  injection edi with edi _
                  injection edi with edi
                  rw [strs_inj edi]
                  exact ok'.2.2
      · rintro σ H2 ⟨v1, f, rfl, ef, ok, s2⟩
        rw [List.take_of_length_le (by omega)] at ef
        subst ef
        rw [List.length_map] at h1 h7 hxl
        have fin : ∀ {H'}, Same H H' → (IsF (.tuple (f.map rowD)) ↔ (nms f).Nodup ∧ ∀ x ∈ nms f, Pl f x) := fun _ => by
          constructor
          · rintro ⟨f', e, _, _, _, n, h⟩
            rw [famD_inj e]
            exact ⟨n, h⟩
          · exact fun h => ⟨f, rfl, h1, h7, ok, h.1, h.2⟩
        have nl : (nms f).length = f.length := List.length_map _
        have rowAt : ∀ {H3 : Hp}, Same H H3 → ∀ (i : Nat) (hi : i < f.length), ∃ y q e, xs[i]? = some y ∧ y = .ref q ∧ H3 q = some (.tup [.str (f[i]).1, .ref e]) ∧ H3 e = some (.tup ((f[i]).2.map V.str)) := fun s3 i hi => by
          obtain ⟨y, ey, ry⟩ := rl.get (i := i) (d := rowD f[i]) (by rw [List.getElem?_map, List.getElem?_eq_getElem hi]; rfl)
          obtain ⟨q, e, e1, e2, e3⟩ := K01.Dp.of_row (RdV.dp (rowT f[i]) (by rw [toD_row]; exact ry.same' s3))
          exact ⟨y, q, e, ey, e1, e2, e3⟩
        refine ⟨_, rfl, b, rfl, ⟨_, SqT.of (s2 b _ hb')⟩, fun Dd hD => ?_⟩
        refine comp_by (n := xs.length) (fun i ys H3 => ys = ((f.take i).map (·.1)).map V.str ∧ Same H2 H3 ∧ H3 Dd = some (.lst ys)) ⟨rfl, Same.new hD, upd_same⟩ ?_ ?_
        rotate_left
        · rintro i ys H3 hi ⟨rfl, s3, hD3⟩
          have hil : i < f.length := by omega
          obtain ⟨y, q, e, ey, rfl, hq, _⟩ := rowAt (s2.trans s3) i hil
          refine ⟨⟨_, _, SqT.of (s3 b _ (s2 b _ hb')), ey⟩, ?_⟩
          rintro z H4 ⟨rfl, yy⟩ σo ho
          obtain ⟨o, rfl⟩ := own1 ho
          have ez := yy _ (SqT.of (s3 b _ (s2 b _ hb')))
          rw [ey] at ez
          cases ez
          refine ⟨⟨[_], rfl, rfl⟩, yes_by ⟨_, rfl, q, _, _, _, rfl, rfl, SqT.of hq, atI_nat (j := 0) rfl, by rw [List.length_map, List.length_map, List.length_take]; omega, hD3, less_by hi ⟨?_, fun b' o e => ?_, upd_same⟩⟩⟩
          · rw [take_snoc hil, List.map_append, List.map_append]
            rfl
          · rw [upd_ne (ne_of_none e hD)]
            exact s3 b' o e
        rintro ys H3 ⟨rfl, s3, hD3⟩
        rw [List.take_of_length_le (by omega)] at hD3
        have s13 := s2.trans s3
        refine ⟨⟨_, SqT.of (s13 b _ hb'), Nat.le_refl _⟩, Dd, nms f, rfl, .inl (SqL.of hD3), by omega, fun sd hsd => ?_⟩
        have s4 : ∀ o, Same H3 (upd H3 sd o) := fun o => Same.new hsd
        have s14 : ∀ o, Same H (upd H3 sd o) := fun o => s13.trans (s4 o)
        refine ⟨sd, _, rfl, upd_same, _, rfl, b, _, rfl, .inr (SqT.of (s14 _ b _ hb')), rfl, _, rfl, ?_⟩
        by_cases nd : (nms f).Nodup
        rotate_left
        · refine itePos (by rw [decide_eq_false (fun z => by injection z with z; exact nd ((un_all _).mp (by omega)))]; rfl) (kf (s14 _) fun z => nd ((fin s2).mp z).1)
        refine iteNeg (by rw [decide_eq_true (by rw [(un_all _).mpr nd, nl, hxl])]; exact Bool.false_ne_true) ?_
        refine ⟨Nat.zero_le _, fun d0 hd0 => ?_⟩
        have s5 : Same H (upd (upd H3 sd _) d0 (.lst [])) := (s14 _).trans (Same.new hd0)
        refine ⟨_, rfl, b, _, rfl, .inr (SqT.of (s5 b _ hb')), _, rfl, by omega, by omega, ?_⟩
        refine for_range (lo := 0) (n := ((xs.length : Nat) : Int).toNat) (fun i σ H6 => ∃ (v3 : Option V) (dl : Addr), σ = [some (.ref b), v1, some (.ref dl), v3] ∧ H6 dl = some (.lst ((itF f i).map V.str)) ∧ Same H H6) ⟨_, d0, rfl, upd_same, s5⟩ ?_ ?_
        · rintro i σ H6 hi ⟨v3, dl, rfl, hdl, s6⟩
          have T := itF_topo nd i
          have tl := T.len
          refine ⟨_, rfl, _, rfl, b, rfl, ⟨_, SqT.of (s6 b _ hb')⟩, fun De hDe => ?_⟩
          refine comp_by (n := xs.length) (fun j ys H7 => ys = (((f.take j).filter (rdy (itF f i))).map (·.1)).map V.str ∧ Same H6 H7 ∧ H7 De = some (.lst ys)) ⟨rfl, Same.new hDe, upd_same⟩ ?_ ?_
          · rintro ys H7 ⟨rfl, s7, hD7⟩
            rw [List.take_of_length_le (by omega), rdy_ready] at hD7
            have hT := (T.more nd).len
            rw [List.length_append] at hT
            refine ⟨⟨_, SqT.of (s7 b _ (s6 b _ hb')), Nat.le_refl _⟩, dl, De, _, _, rfl, rfl, s7 dl _ hdl, hD7, by rw [List.length_map, List.length_map]; omega, fun dm hdm => ?_⟩
            refine ⟨_, dm, rfl, ?_, (s6.trans s7).trans (Same.new hdm)⟩
            rw [upd_same, itF, List.map_append]
          · rintro j ys H7 hj ⟨rfl, s7, hD7⟩
            have hjl : j < f.length := by omega
            obtain ⟨y, q, e, ey, rfl, hq, he⟩ := rowAt (s6.trans s7) j hjl
            have hb7 := s7 b _ (s6 b _ hb')
            refine ⟨⟨_, _, SqT.of hb7, ey⟩, ?_⟩
            rintro z H8 ⟨rfl, yy⟩ σo ho
            obtain ⟨oo, oo', rfl⟩ := own2 ho
            have ez := yy _ (SqT.of hb7)
            rw [ey] at ez
            cases ez
            have hdl8 := s7 dl _ hdl
            have hyl : ((((f.take j).filter (rdy (itF f i))).map (·.1)).map V.str).length ≤ 7 := by
              rw [List.length_map, List.length_map]
              refine Nat.le_trans (List.length_filter_le _ _) ?_
              rw [List.length_take]
              omega
            have efl : (f.take (j + 1)).filter (rdy (itF f i)) = (f.take j).filter (rdy (itF f i)) ++ (if rdy (itF f i) f[j] = true then [f[j]] else []) := by
              rw [take_snoc hjl, List.filter_append]
              congr 1
              rw [List.filter_cons]
              rfl
            have no : ∀ {H9}, Same H8 H9 → rdy (itF f i) f[j] = false → ∃ m', m' < xs.length - j ∧ (m' = xs.length - (j + 1) ∧ j + 1 ≤ xs.length ∧ (((((f.take j).filter (rdy (itF f i))).map (·.1)).map V.str = (((f.take (j + 1)).filter (rdy (itF f i))).map (·.1)).map V.str) ∧ Same H6 H9 ∧ H9 De = some (.lst ((((f.take j).filter (rdy (itF f i))).map (·.1)).map V.str)))) := fun s9 h => less_by hj ⟨by rw [efl, h, if_neg Bool.false_ne_true, List.append_nil], s7.trans s9, s9 De _ hD7⟩
            refine ⟨q, _, rfl, SqT.of hq, rfl, _, _, rfl, _, _, rfl, rfl, ⟨[_, _], rfl, rfl⟩, _, rfl, _, rfl, dl, _, rfl, .inl (SqL.of hdl8), rfl, flat_strs _, _, rfl, ?_⟩
            show if (!inV (.str (f[j]).1) ((itF f i).map V.str)) = true then _ else _
            rw [inV_strs]
            by_cases hin : (f[j]).1 ∈ itF f i
            · rw [decide_eq_true hin]
              refine iteF (iteF (no (Same.refl _) ?_))
              unfold rdy
              rw [decide_eq_false (fun z => z hin)]
              rfl
            · rw [decide_eq_false hin]
              refine iteT ⟨_, rfl, e, rfl, ⟨_, SqT.of he⟩, fun D3 hD3 => ?_⟩
              refine comp_by (n := ((f[j]).2.map V.str).length) (fun m bs H9 => bs = (((f[j]).2.take m).map fun e => decide (e ∈ itF f i)).map V.bl ∧ Same H8 H9 ∧ H9 D3 = some (.lst bs)) ⟨rfl, Same.new hD3, upd_same⟩ ?_ ?_
              · rintro bs H9 ⟨rfl, s9, hD9⟩
                rw [List.take_of_length_le (by rw [List.length_map]; exact Nat.le_refl _)] at hD9
                refine ⟨⟨_, SqT.of (s9 e _ he), Nat.le_refl _⟩, D3, _, rfl, SqL.of hD9, _, rfl, ?_⟩
                have eall : (((f[j]).2.map fun e => decide (e ∈ itF f i)).all id) = (f[j]).2.all fun e => decide (e ∈ itF f i) := by
                  rw [List.all_map]
                  rfl
                rw [eall]
                have er : rdy (itF f i) f[j] = (f[j]).2.all fun e => decide (e ∈ itF f i) := by
                  unfold rdy
                  rw [decide_eq_true hin, Bool.true_and]
                cases hall : ((f[j]).2.all fun e => decide (e ∈ itF f i)) with
                | false => exact iteF (no s9 (er.trans hall))
                | true =>
                  refine iteT ⟨_, rfl, by omega, s9 De _ hD7, less_by hj ⟨?_, fun b' o e' => ?_, upd_same⟩⟩
                  · rw [efl, er, hall, if_pos rfl, List.map_append, List.map_append]
                    rfl
                  · rw [upd_ne (ne_of_none e' hDe)]
                    exact s9 b' o (s7 b' o e')
              · rintro m bs H9 hm ⟨rfl, s9, hD9⟩
                have hm' : m < (f[j]).2.length := by rw [List.length_map] at hm; exact hm
                have em : ((f[j]).2.map V.str)[m]? = some (.str (f[j]).2[m]) := by rw [List.getElem?_map, List.getElem?_eq_getElem hm']; rfl
                refine ⟨⟨_, _, SqT.of (s9 e _ he), em⟩, ?_⟩
                rintro y5 HA ⟨rfl, yy⟩ σo5 ho5
                obtain ⟨o5, rfl⟩ := own1 ho5
                have ey5 := yy _ (SqT.of (s9 e _ he))
                rw [em] at ey5
                cases ey5
                have hel : (f[j]).2.length ≤ 1900 := by
                  have h1 := wtA_mem (d := rowD f[j]) (List.mem_map.mpr ⟨_, List.getElem_mem hjl, rfl⟩)
                  simp only [wt] at wd
                  have h2 : wt (rowD f[j]) = 1 + ((f[j]).1.length + 1 + (1 + wtA ((f[j]).2.map .str) + 0)) := by unfold rowD; simp only [wt, wtA]
                  have h3 := wtA_len ((f[j]).2.map PyData.str)
                  rw [List.length_map] at h3
                  omega
                refine ⟨⟨[_], rfl, rfl⟩, yes_by ⟨_, rfl, _, rfl, dl, _, rfl, .inl (SqL.of (s9 dl _ hdl8)), rfl, flat_strs _, by rw [List.length_map, List.length_map, List.length_take]; omega, hD9, less_by hm ⟨?_, fun b' o e' => ?_, upd_same⟩⟩⟩
                · rw [take_snoc hm', List.map_append, List.map_append]
                  show _ ++ [V.bl (inV _ _)] = _
                  rw [inV_strs]
                  rfl
                · rw [upd_ne (ne_of_none e' hD3)]
                  exact s9 b' o e'
        · rintro σ H6 ⟨v3, dl, rfl, hdl, s6⟩
          refine ⟨_, rfl, dl, _, rfl, .inl (SqL.of hdl), _, rfl, b, _, rfl, .inr (SqT.of (s6 b _ hb')), rfl, ?_⟩
          have e6 : ((xs.length : Nat) : Int).toNat = f.length := by omega
          rw [List.length_map, e6]
          have fi := k _ s6
          have T := itF_topo nd f.length
          have key : IsF (.tuple (f.map rowD)) ↔ (itF f f.length).length = f.length := by
            rw [fin s2, T.all nd (itF_grow f.length)]
            exact ⟨fun h => h.2, fun h => ⟨nd, h⟩⟩
          rw [dcd_eq key] at fi
          by_cases e : (itF f f.length).length = f.length
          · rw [dcd_t e] at fi
            rw [decide_eq_true (by rw [e, hxl])]
            exact fi
          · rw [dcd_f e] at fi
            rw [decide_eq_false (fun z => by injection z with z; omega)]
            exact fi
end
end K01
end
section
set_option autoImplicit false
namespace HT
open PySem PySem.Spec PyProof.Rows
section
variable {prog : Program} {w : World} {A : Around} {E : Value → Shared → Prop} {s : Shared}
theorem fm_congr {α β : Type} {f g : α → Option β} : ∀ {l : List α}, (∀ a ∈ l, f a = g a) → l.filterMap f = l.filterMap g
  | [], _ => rfl
  | a :: l, h => by
    rw [List.filterMap_cons, List.filterMap_cons, h a List.mem_cons_self, fm_congr fun b hb => h b (List.mem_cons_of_mem _ hb)]
theorem pick_back (xs : Array Value) : ((List.range xs.size).filterMap fun (m : Nat) => xs[((xs.size : Int) - 1 + (m : Int) * (-1)).toNat]?).toArray = xs.toList.reverse.toArray := by
  congr 1
  have e : ∀ m ∈ List.range xs.size, xs[((xs.size : Int) - 1 + (m : Int) * (-1)).toNat]? = xs.toList.reverse[m]? := fun m hm => by
    have hm := List.mem_range.mp hm
    rw [List.getElem?_reverse (by rw [Array.length_toList]; exact hm), Array.getElem?_toList, Array.length_toList]
    congr 1
    omega
  rw [fm_congr e]
  apply List.ext_getElem?
  intro i
  have key : ∀ (l : List Value) (n : Nat), n ≤ l.length → (List.range n).filterMap (l[·]?) = l.take n := by
    intro l n
    induction n with
    | zero => intro _; rfl
    | succ n ih =>
      intro h
      have hn : n < l.length := h
      rw [List.range_succ, List.filterMap_append, ih (by omega), List.take_succ]
      simp [hn]
  rw [key _ _ (by rw [List.length_reverse, Array.length_toList]; exact Nat.le_refl _), List.take_of_length_le (by rw [List.length_reverse, Array.length_toList]; exact Nat.le_refl _)]
theorem sliceApplied_back {sl : Addr} {t : Tok} {n : Nat} {Q : Int × Int × Nat → Shared → Prop} (hs : s.heap.IsSliceOf sl .none .none (.int (-1) t))
    (h : Q ((n : Int) - 1, -1, n) s) : wpAny (model prog w) A (Builtin.Slice.sliceApplied (.ref sl) (pure (n : Int))) Q E s := by
  obtain ⟨os, hos, hcs, hds⟩ := id hs
  unfold Builtin.Slice.sliceApplied Builtin.Slice.sliceFields
  refine wpAny_bind (wpAny_bind (wpAny_field hos hds (x := .none) rfl (wpAny_bind (wpAny_field hos hds (x := .none) rfl (wpAny_bind (wpAny_field hos hds (x := .int (-1) t) rfl (wpAny_pure ?_)))))))
  refine wpAny_bind (slicePart_ (IsPart.int (-1) t) ?_)
  show wpAny _ _ (if ((-1 : Int) == 0) = true then _ else _) _ _ s
  rw [if_neg (by decide)]
  refine wpAny_bind (slicePart_none (wpAny_bind (slicePart_none (wpAny_bind (wpAny_pure ?_)))))
  have ea : Builtin.Slice.sliceAdjust none none (-1) (n : Int) = ((n : Int) - 1, -1) := rfl
  show wpAny _ _ (match Builtin.Slice.sliceAdjust none none (-1) (n : Int) with | (lo, hi) => pure (lo, (-1 : Int), Builtin.Slice.slicePlaces lo hi (-1))) _ _ s
  rw [ea]
  have ep : Builtin.Slice.slicePlaces ((n : Int) - 1) (-1) (-1) = n := by
    unfold Builtin.Slice.slicePlaces
    rw [if_neg (by decide)]
    have e1 : -(-1 : Int) = 1 := rfl
    rw [e1, Int.ediv_one]
    split <;> omega
  show wpAny _ _ (pure ((n : Int) - 1, (-1 : Int), Builtin.Slice.slicePlaces ((n : Int) - 1) (-1) (-1))) _ _ s
  rw [ep]
  exact wpAny_pure h
theorem getItem_tuple_back {t sl : Addr} {items : Array Value} {tk : Tok} {Q : Value → Shared → Prop} (ht : IsTup s.heap t items) (hs : s.heap.IsSliceOf sl .none .none (.int (-1) tk))
    (h : Q (.ref s.heap.objs.size) { s with heap := s.heap.push { cls := .type "tuple", data := .seq items.toList.reverse.toArray } })
    (hsz : items.size ≤ sizeLine) : wpAny (model prog w) A (getItem (.ref t) (.ref sl)) Q E s := by
  have htake : sizeOk (.seq items.toList.reverse.toArray) := by
    show items.toList.reverse.toArray.size ≤ sizeLine
    rw [List.size_toArray, List.length_reverse, Array.length_toList]
    exact hsz
  obtain ⟨os, hos, hcs, hds⟩ := id hs
  have hTs : s.TypeIs (.ref sl) "slice" := ⟨os, hos, hcs⟩
  unfold getItem
  try with_reducible refine wpAny_holding ?_
  first | refine wpAny_bind (wpAny_pure ?_) | skip
  refine wpAny_bind (wpAny_sequenceKey ht.typeIs (by decide) ?_)
  refine wpAny_bind (wpAny_callSpecial?_slot (name := Str.ofString "__getitem__") ht.typeIs PyProof.Rows.slot_tuple_getitem
    (wpAny_call_entry PyProof.Rows.slot_tuple_getitem ht.typeIs entry_tuple_getitem ?_ (args_tuple_getitem _ _)))
  show wpAny _ _ (Builtin.Tuple.tupleItemsOf (.ref t) >>= _) _ _ s
  refine wpAny_bind (tupleItemsOf_ ht ?_)
  refine wpAny_bind (wpAny_typeOf hTs ?_)
  rw [if_pos (by decide)]
  refine wpAny_bind (sliceApplied_back hs ?_)
  have hno : ¬ ((((items.size : Int) - 1) == 0 && (-1 : Int) == 1 && items.size == items.size) = true) := by
    intro q
    rw [Bool.and_eq_true, Bool.and_eq_true] at q
    exact absurd q.1.2 (by decide)
  show wpAny _ _ (if (((items.size : Int) - 1) == 0 && (-1 : Int) == 1 && items.size == items.size) = true then _ else _) _ _ s
  rw [if_neg hno, pick_back]
  first
    | exact wpAny_bind (m := Builtin.Tuple.tupleExact _) (wpAny_newObj_type (wpAny_pure ⟨_, rfl, wpAny_pure h⟩) htake)
    | exact wpAny_bind (m := Builtin.Tuple.tupleExact _) (wpAny_newObj_type (wpAny_bind (wpAny_pure (wpAny_pure ⟨_, rfl, wpAny_pure h⟩))) htake)
    | exact wpAny_bind (wpAny_bind (m := Builtin.Tuple.tupleExact _) (wpAny_newObj_type (wpAny_pure (wpAny_pure ⟨_, rfl, wpAny_pure h⟩)) htake))
    | exact wpAny_bind (wpAny_bind (m := Builtin.Tuple.tupleExact _) (wpAny_newObj_type (wpAny_pure ⟨_, rfl, wpAny_pure h⟩) htake))
end
end HT
namespace L2
open PySem PySem.Spec PyProof.Rows
section
variable {X : Cx}
def tSlTR (te tk : TE) : TE := fun σ H Q => te σ H fun x H1 => tk σ H1 fun y H2 => ∃ a xs, x = .ref a ∧ y = .int (-1) ∧ H2 a = some (.tup xs) ∧ ∀ p, H2 p = none → Q (.ref p) (upd H2 p (.tup xs.reverse))
theorem pe_slTR {e k : Expr} {te tk : TE} {pos p2 : Pos} (he : PE X e te) (hk : PE X k tk) : PE X (.Subscript e (.Slice none none (some k) p2) pos) (tSlTR te tk) := by
  intro pins s σ H Q I h
  refine Subscript_ (thn (he pins s σ H _ I h) fun v s1 ⟨x, H1, I1, r1, q1⟩ => ?_)
  refine wpAny_Slice ?_
  rw [evalPart_none]
  refine wpAny_pure ?_
  refine wpAny_pure ?_
  rw [evalPart_some]
  refine thn (hk pins s1 σ H1 _ I1 q1) fun vk s3 ⟨y, H3, I3, r3, q3⟩ => ?_
  obtain ⟨a, xs, rfl, rfl, hq, q⟩ := q3
  cases r1
  obtain ⟨t, rfl⟩ := r3
  have I4 : Inv X pins σ H3 { s3 with heap := s3.heap.push { cls := .type "slice", data := .fields #[.none, .none, .int (-1) t] } } := I3.kept (t' := s3.toks) fun b ob q => Heap.get?_push_of_some _ q
  obtain ⟨its, r, ht, hz⟩ := I4.tuple (SqT.of (K := X.K) hq)
  have hlen : its.toArray.size = xs.length := by rw [List.size_toArray]; exact r.length.symm
  show wpAny (model X.prog X.w) X.A (subscriptTail e (.Slice none none (some k) p2) (.ref a) (.ref s3.heap.objs.size)) (EP X pins σ Q) X.xe { s3 with heap := s3.heap.push { cls := .type "slice", data := .fields #[.none, .none, .int (-1) t] } }
  refine tail_any (ops := [.ref a, .ref s3.heap.objs.size]) ht.typeIs PyProof.Rows.slot_tuple_getitem.lookup (HT.getItem_tuple_back ht (Heap.IsSliceOf.new ..) ?_ (by rw [hlen]; exact hz)) (by with_unfolding_all rfl)
  rw [List.toList_toArray]
  refine ⟨.ref _, _, I4.laid (t' := s3.toks) (o := .tup xs.reverse) (fun b ob q => Heap.get?_push_of_some _ q) (Nat.le_refl _) ?_, rfl, q _ (I4.hok.fresh (Nat.le_refl _))⟩
  exact ⟨⟨by rw [List.length_reverse]; exact hz, nod_push _ _⟩, _, r.reverse, IsTup.new _ _⟩
end
theorem cutV_take (xs : List V) (i : Nat) : cutV xs none (some (i : Int)) = xs.take i := by
  unfold cutV
  rw [HT.sIx_none, HT.sIx_nat, List.drop_zero, Nat.sub_zero]
  rcases Nat.le_total i xs.length with h | h
  · rw [Nat.min_eq_left h]
  · rw [Nat.min_eq_right h, List.take_of_length_le (Nat.le_refl _), List.take_of_length_le h]
theorem cutV_drop (xs : List V) (i : Nat) : cutV xs (some (i : Int)) none = xs.drop i := by
  unfold cutV
  rw [HT.sIx_none, HT.sIx_nat]
  rcases Nat.le_total i xs.length with h | h
  · rw [Nat.min_eq_left h, List.take_of_length_le (by rw [List.length_drop]; exact Nat.le_refl _)]
  · rw [Nat.min_eq_right h, List.drop_of_length_le (Nat.le_refl _), List.drop_of_length_le h, List.take_nil]
theorem RdA.append {H : Hp} : ∀ {vs us : List V} {ds es : List PyData}, RdA H vs ds → RdA H us es → RdA H (vs ++ us) (ds ++ es)
  | _, _, _, _, .nil, h => h
  | _, _, _, _, .cons q r, h => .cons q (RdA.append r h)
theorem DpL.take' {H : Hp} : ∀ {ts : List T} {xs : List V} (i : Nat), DpL H ts xs → DpL H (ts.take i) (xs.take i)
  | ts, xs, 0, h => by rw [List.take_zero, List.take_zero]; exact .nil
  | [], xs, i + 1, h => by
    rw [h.of_nil, List.take_nil, List.take_nil]
    exact .nil
  | t :: ts, xs, i + 1, h => by
    obtain ⟨x, r, rfl, h1, h2⟩ := h.cases
    rw [List.take_succ_cons, List.take_succ_cons]
    exact .cons h1 (DpL.take' i h2)
theorem DpL.drop' {H : Hp} : ∀ {ts : List T} {xs : List V} (i : Nat), DpL H ts xs → DpL H (ts.drop i) (xs.drop i)
  | ts, xs, 0, h => h
  | [], xs, i + 1, h => by
    rw [h.of_nil, List.drop_nil, List.drop_nil]
    exact .nil
  | t :: ts, xs, i + 1, h => by
    obtain ⟨x, r, rfl, h1, h2⟩ := h.cases
    exact DpL.drop' i h2
end L2
end
section
set_option autoImplicit false
namespace K01
open PySem PyProof.Rows L2
theorem offT {H H' : Hp} {p : Addr} (hp : Pu H p) (o : Off p H H') : Tups H H' := fun c zs e => by
  obtain ⟨x1, x2, x3, ep⟩ := hp
  exact o c _ (ne_of e ep (fun z => nomatch z)) e
def is3 : List PyData → Bool
  | [.int _, .int _, .int _] => true
  | _ => false
mutual
def n3 : PyData → Bool
  | .list xs => !is3 xs && n3A xs
  | .tuple xs => n3A xs
  | .dict kvs => n3K kvs
  | _ => true
def n3A : List PyData → Bool
  | [] => true
  | x :: xs => n3 x && n3A xs
def n3K : List (PyData × PyData) → Bool
  | [] => true
  | (_, v) :: r => n3 v && n3K r
end
theorem n3K_map : ∀ (ks : List PyData) (ds : List PyData), ks.length = ds.length → n3K (ks.zip ds) = n3A ds
  | [], [], _ => by simp [n3K, n3A]
  | k :: ks, d :: ds, h => by
    have ih := n3K_map ks ds (by simpa using h)
    simp [n3K, n3A, ih]
  | [], _ :: _, h => nomatch h
  | _ :: _, [], h => nomatch h
mutual
theorem RdV.off {H H' : Hp} {p : Addr} (hp : Pu H p) (o : Off p H H') : ∀ {v : V} {d : PyData}, RdV H v d → n3 d = true → RdV H' v d
  | _, _, .non, _ => .non
  | _, _, .bl b, _ => .bl b
  | _, _, .int i, _ => .int i
  | _, _, .str x, _ => .str x
  | _, _, .tup e q, h => .tup (offT hp o _ _ e) (RdA.off hp o q (by rw [n3] at h; exact h))
  | _, _, .lst (xs := xs) (ds := ds) e q, h => by
    rw [n3, Bool.and_eq_true] at h
    refine .lst (o _ _ (fun z => ?_) e) (RdA.off hp o q h.2)
    obtain ⟨x1, x2, x3, ep⟩ := hp
    rw [z, ep] at e
    injection e with e
    injection e with e
    rw [← e] at q
    have h3 : is3 ds = true := by
      cases q with
      | cons q1 q =>
        cases q with
        | cons q2 q =>
          cases q with
          | cons q3 q =>
            cases q
            cases q1
            cases q2
            cases q3
            rfl
    rw [h3] at h
    exact absurd h.1 (by decide)
  | _, _, .dct (kvs := kvs) (ds := ds) e q, h => by
    rw [n3, n3K_map _ _ (by rw [List.length_map, ← q.length, List.length_map])] at h
    refine .dct (o _ _ (fun z => ?_) e) (RdA.off hp o q h)
    obtain ⟨x1, x2, x3, ep⟩ := hp
    rw [z, ep] at e
    cases e
theorem RdA.off {H H' : Hp} {p : Addr} (hp : Pu H p) (o : Off p H H') : ∀ {vs : List V} {ds : List PyData}, RdA H vs ds → n3A ds = true → RdA H' vs ds
  | _, _, .nil, _ => .nil
  | _, _, .cons q r, h => by
    rw [n3A, Bool.and_eq_true] at h
    exact .cons (RdV.off hp o q h.1) (RdA.off hp o r h.2)
end
mutual
theorem n3_toD : ∀ t : T, n3 (toD t) = true
  | .non => by rw [toD, n3] <;> simp
  | .int i => by rw [toD, n3] <;> simp
  | .str x => by rw [toD, n3] <;> simp
  | .tup ts => by rw [toD, n3]; exact n3A_toD ts
theorem n3A_toD : ∀ ts : List T, n3A (toDA ts) = true
  | [] => by rw [toDA, n3A]
  | t :: ts => by rw [toDA, n3A, n3_toD t, n3A_toD ts]; rfl
end
mutual
def nI : T → Bool
  | .int _ => false
  | .tup ts => nIA ts
  | _ => true
def nIA : List T → Bool
  | [] => true
  | t :: ts => nI t && nIA ts
end
theorem nIA_mem : ∀ {ts : List T} {t : T}, nIA ts = true → t ∈ ts → nI t = true
  | t0 :: ts, t, h, hm => by
    rw [nIA, Bool.and_eq_true] at h
    rcases List.mem_cons.mp hm with rfl | hm
    · exact h.1
    · exact nIA_mem h.2 hm
theorem nI_strs : ∀ es : List Str, nIA (es.map T.str) = true
  | [] => by rw [List.map_nil, nIA]
  | e :: es => by
    rw [List.map_cons, nIA, nI_strs es]
    simp [nI]
theorem nI_rows : ∀ f : Fam, nIA (f.map rowT) = true
  | [] => by rw [List.map_nil, nIA]
  | r :: f => by
    rw [List.map_cons, nIA, nI_rows f]
    unfold rowT
    rw [nI, nIA, nIA, nIA, nI, nI_strs]
    simp [nI]
theorem is3_of {ts : List T} (h : nIA ts = true) : is3 (toDA ts) = false := by
  cases ts with
  | nil => rw [toDA]; rfl
  | cons t ts =>
    rw [nIA, Bool.and_eq_true] at h
    cases t with
    | int i => rw [nI] at h; cases h.1
    | non => rw [toDA, toD]; rfl
    | str x => rw [toDA, toD]; rfl
    | tup us => rw [toDA, toD]; rfl
def OkW : T → List Nat → Prop
  | _, [] => True
  | .tup ts, i :: ws => ∃ h : i < ts.length, OkW ts[i] ws
  | _, _ :: _ => False
structure PutR (t : T) (d d' : PyData) : Prop where
  g : gd (toD t) → gd d → gd d'
  w : wt d' ≤ wt (toD t) + wt d
  dp : d'.depth ≤ (toD t).depth + d.depth
  hd : d'.hasDict = d.hasDict
  nl : noL d' = noL d
  n3 : K01.n3 d' = K01.n3 d
theorem PutR.here (t : T) (d : PyData) : PutR t d d := ⟨fun _ g => g, by omega, by omega, rfl, rfl, rfl⟩
theorem depthAll_app : ∀ (ds es : List PyData), PyData.depthAll (ds ++ es) = max (PyData.depthAll ds) (PyData.depthAll es)
  | [], es => by rw [List.nil_append, PyData.depthAll, Nat.zero_max]
  | d :: ds, es => by rw [List.cons_append, PyData.depthAll, PyData.depthAll, depthAll_app ds es, Nat.max_assoc]
theorem hasDictAll_app : ∀ (ds es : List PyData), PyData.hasDictAll (ds ++ es) = (PyData.hasDictAll ds || PyData.hasDictAll es)
  | [], es => by rw [List.nil_append, PyData.hasDictAll, Bool.false_or]
  | d :: ds, es => by rw [List.cons_append, PyData.hasDictAll, PyData.hasDictAll, hasDictAll_app ds es, Bool.or_assoc]
theorem noLA_app : ∀ (ds es : List PyData), noLA (ds ++ es) = (noLA ds && noLA es)
  | [], es => by rw [List.nil_append, noLA, Bool.true_and]
  | d :: ds, es => by rw [List.cons_append, noLA, noLA, noLA_app ds es, Bool.and_assoc]
theorem n3A_app : ∀ (ds es : List PyData), n3A (ds ++ es) = (n3A ds && n3A es)
  | [], es => by rw [List.nil_append, n3A, Bool.true_and]
  | d :: ds, es => by rw [List.cons_append, n3A, n3A, n3A_app ds es, Bool.and_assoc]
theorem toDA_app (ts us : List T) : toDA (ts ++ us) = toDA ts ++ toDA us := by rw [toDA_map, toDA_map, toDA_map, List.map_append]
theorem PutR.at {ts : List T} {i : Nat} (hi : i < ts.length) {d d1 : PyData} (h : PutR ts[i] d d1) : PutR (.tup ts) d (.tuple (toDA (ts.take i) ++ [d1] ++ toDA (ts.drop (i + 1)))) := by
  have e : ts = ts.take i ++ [ts[i]] ++ ts.drop (i + 1) := by rw [List.append_assoc, List.singleton_append, List.getElem_cons_drop, List.take_append_drop]
  have e2 : toD (.tup ts) = .tuple (toDA (ts.take i) ++ [toD ts[i]] ++ toDA (ts.drop (i + 1))) := by
    rw [toD]
    congr 1
    conv => lhs; rw [e]
    rw [toDA_app, toDA_app, toDA, toDA]
  have wa := h.w
  have da := h.dp
  refine ⟨fun g1 g2 => ?_, ?_, ?_, ?_, ?_, ?_⟩
  · rw [e2, gd, gdA_app, gdA_app, gdA, gdA] at g1
    rw [gd, gdA_app, gdA_app, gdA, gdA]
    exact ⟨⟨g1.1.1, h.g g1.1.2.1 g2, trivial⟩, g1.2⟩
  · rw [e2, wt, wt, wtA_app, wtA_app, wtA_app, wtA_app, wtA, wtA, wtA, wtA]
    omega
  · rw [e2, PyData.depth, PyData.depth, depthAll_app, depthAll_app, depthAll_app, depthAll_app, PyData.depthAll, PyData.depthAll, PyData.depthAll]
    omega
  · rw [PyData.hasDict, hasDictAll_app, hasDictAll_app, hasDictA_toD, hasDictA_toD, PyData.hasDictAll, PyData.hasDictAll, h.hd]
    simp
  · rw [noL, noLA_app, noLA_app, noLA_toD, noLA_toD, noLA, noLA, h.nl]
    simp
  · rw [K01.n3, n3A_app, n3A_app, n3A_toD, n3A_toD, n3A, n3A, h.n3]
    simp
section
variable {P : Program} {w : World} {K : PySem.W.Frag} {mg : Str → Option Value} {base : Heap} {t : Adr}
def wayT (ws : List Nat) : T := .tup (ws.map fun i => T.int (i : Nat))
def spPut (n : Nat) : Sp := fun vs H Q _ => ∃ (v wv nv : V) (tr : T) (ws : List Nat) (d : PyData), vs = [v, wv, nv] ∧ Dp H tr v ∧ Dp H (wayT ws) wv ∧ ws.length < n ∧ OkW tr ws ∧ wt (toD tr) ≤ 10000 ∧ RdV H nv d ∧ ∀ (u : V) (d' : PyData) H', RdV H' u d' → PutR tr d d' → Same H H' → Q u H'
theorem ok_put (D : Defs K mg t) (n : Nat) : FnOk P w K mg base CX0 (n + 1) t._law_put.1 t._law_put.2 ["_law_thing", "_law_way_here", "_law_new"] (spPut n) := by
  induction n with
  | zero => exact D._law_put.fn.ok sc__law_put (fun vs H Q E ⟨_, _, _, _, _, _, _, _, _, wl, _⟩ => absurd wl (Nat.not_lt_zero _)) (fun cdv A outer s H vs Q E hr ⟨_, _, _, _, _, _, _, _, _, wl, _⟩ => absurd wl (Nat.not_lt_zero _))
  | succ n ih =>
  have G__law_put : FnOk P w K mg base CX0 (n + 1) t._law_put.1 t._law_put.2 _ (spPut n) := ih
  have hz : sizeLine = 16777216 := sizeLine_eq
  refine D._law_put.fn.ok sc__law_put (fun vs H Q E h => ?_) (fun cdv A outer s H vs Q E hr h => ?_)
  · obtain ⟨v, wv, nv, tr, ws, d, rfl, _⟩ := h
    rfl
  · obtain ⟨v, wv, nv, tr, ws, d, rfl, dv, dw, wl, okw, wtr, rn, k⟩ := h
    refine ⟨_, (pss_cons (ps_if (pt_cmpR (op_eqT (hu10 hr)) (pv 1) (pe_tup pa_nil) (nomark _))
      (pss_one (ps_ret (pv 2)))
      pss_nil)
      (pss_cons (ps_set (i := 3) sc__law_put.nd rfl (Or.inl rfl) (pe_ix ix_tup (pv 1) pe_int (fun _ _ => rfl)))
      (pss_one (ps_ret (pe_op op_catN (pe_op op_catN (pe_slice sl_tupW (pv 0) po_none (po_some (pv 3))) (pe_tup (pa_cons (pe_callF D._law_put G__law_put (hr.mono (by omega)) (by rfl) (pa_cons (pe_ix ix_tup (pv 0) (pv 3) (fun _ _ => rfl)) (pa_cons (pe_slice sl_tupW (pv 1) (po_some pe_int) po_none) (pa_cons (pv 2) pa_nil)))) pa_nil))) (pe_slice sl_tupW (pv 0) (po_some (pe_op op_add (pv 3) pe_int)) po_none)))))), ?_⟩
    obtain ⟨wa, wxs, rfl, hwa, dwl⟩ := L2.Dp.of_tup dw
    have lvI : ∀ (ws : List Nat), ∀ t ∈ ws.map (fun i => T.int (i : Nat)), Lv 5 t := fun ws t ht => by
      obtain ⟨y, _, rfl⟩ := List.mem_map.mp ht
      trivial
    refine ⟨_, rfl, Nat.zero_le _, fun e0 he0 => ?_⟩
    have s0 : Same H (upd H e0 (.tup [])) := Same.new he0
    refine ⟨wa, e0, wxs, [], _, [], rfl, rfl, s0 wa _ hwa, upd_same, dwl.mono (Same.tups s0), .nil, lvI ws, _, rfl, ?_⟩
    generalize upd H e0 (.tup []) = H1 at s0
    cases ws with
    | nil =>
      refine itePos (dcd_t rfl) ?_
      exact ⟨_, rfl, k nv d _ (rn.same' s0) (PutR.here tr d) s0⟩
    | cons i ws =>
      refine iteNeg (by rw [dcd_f (fun z => nomatch z)]; exact Bool.false_ne_true) ?_
      cases tr with
      | non => exact False.elim okw
      | int _ => exact False.elim okw
      | str _ => exact False.elim okw
      | tup ts =>
        obtain ⟨hi, okw⟩ := okw
        obtain ⟨x0, wr, rfl, dx0, dwr⟩ := dwl.cases
        obtain rfl := dx0.of_int
        obtain ⟨a, xs, rfl, ha, dl⟩ := L2.Dp.of_tup dv
        have hxl := dl.length
        have tsl : ts.length ≤ 10000 := by
          rw [toD, wt] at wtr
          have := wtA_len (toDA ts)
          rw [toDA_map, List.length_map] at this
          rw [toDA_map] at wtr
          omega
        have wti : wt (toD ts[i]) ≤ 10000 := by
          rw [toD, wt, toDA_map] at wtr
          have := wtA_mem (List.mem_map.mpr ⟨ts[i], List.getElem_mem hi, rfl⟩ : toD ts[i] ∈ ts.map toD)
          omega
        have ha1 := s0 a _ ha
        obtain ⟨y, ey, dy⟩ := dl.get (List.getElem?_eq_getElem hi)
        refine ⟨_, rfl, wa, _, 0, _, rfl, rfl, SqT.of (s0 wa _ hwa), atI_nat (j := 0) rfl, ?_⟩
        refine ⟨_, rfl, _, rfl, i, rfl, a, xs, rfl, ha1, fun p1 H2 hp1 s2 => ?_⟩
        have s02 := s0.trans s2
        refine ⟨_, rfl, _, rfl, a, xs, i, y, rfl, rfl, SqT.of (s02 a _ ha), atI_nat ey, _, rfl, 1, rfl, wa, _, rfl, s02 wa _ hwa, fun p2 H3 hp2 s3 => ?_⟩
        have s03 := s02.trans s3
        have e1 : cutV (V.int (i : Nat) :: wr) (some 1) none = wr := cutV_drop _ 1
        rw [e1] at hp2
        refine ⟨_, rfl, y, .ref p2, nv, ts[i], ws, d, rfl, dy.mono (Same.tups s03), L2.Dp.tup hp2 (dwr.mono (Same.tups s03)), by rw [List.length_cons] at wl; omega, okw, wti, rn.same' s03, fun u d1 H4 ru pr s4 => ?_⟩
        have s04 := s03.trans s4
        refine ⟨by show 1 ≤ sizeLine; decide, fun p5 hp5 => ?_⟩
        have s5 : Same H4 (upd H4 p5 (.tup [u])) := Same.new hp5
        have hp5' : (upd H4 p5 (.tup [u])) p5 = some (.tup [u]) := upd_same
        generalize upd H4 p5 (.tup [u]) = H5 at s5 hp5'
        have l1 := cutV_length xs none (some (i : Int))
        refine ⟨p1, p5, _, _, rfl, rfl, s5 p1 _ (s4 p1 _ (s3 p1 _ hp1)), hp5', by show _ + 1 ≤ _; omega, fun p6 H6 hp6 s6 => ?_⟩
        have s06 := (s04.trans s5).trans s6
        refine ⟨_, rfl, _, rfl, _, _, rfl, rfl, _, rfl, a, xs, rfl, s06 a _ ha, fun p7 H7 hp7 s7 => ?_⟩
        have l2 := cutV_length xs (some ((i : Int) + 1)) none
        refine ⟨p6, p7, _, _, rfl, rfl, s7 p6 _ hp6, hp7, by rw [List.length_append]; show _ + 1 + _ ≤ _; omega, fun p8 H8 hp8 s8 => ?_⟩
        have s08 := (s06.trans s7).trans s8
        refine k (.ref p8) _ H8 (.tup hp8 ?_) (pr.at hi) s08
        have e2 : cutV xs (some ((i : Int) + 1)) none = xs.drop (i + 1) := cutV_drop xs (i + 1)
        rw [cutV_take, e2]
        have s48 : Same H4 H8 := ((s5.trans s6).trans s7).trans s8
        exact ((L2.DpL.rd ((DpL.take' i dl).mono (Same.tups s08))).append (.cons (ru.same' s48) .nil)).append (L2.DpL.rd ((DpL.drop' (i + 1) dl).mono (Same.tups s08)))
end
end K01
end
section
set_option autoImplicit false
namespace K01
open PySem PyProof.Rows L2
structure AnyR (tr : T) (d : PyData) : Prop where
  g : gd d
  w : wt d ≤ 2 * wt (toD tr) + 12
  dp : d.depth ≤ (toD tr).depth + 3
  nl : d.hasDict = true → noL d = true
  n3 : K01.n3 d = true
theorem all_cons {α : Type} {P : α → Prop} {x : α} {l : List α} (h : P x) (r : ∀ v ∈ l, P v) : ∀ v ∈ x :: l, P v := fun v hv => by
  rcases List.mem_cons.mp hv with rfl | hv
  · exact h
  · exact r v hv
theorem all_nil {α : Type} {P : α → Prop} : ∀ v ∈ ([] : List α), P v := fun v hv => nomatch hv
def Any1 (H : Hp) (tr : T) (v : V) : Prop := ∃ d, RdV H v d ∧ AnyR tr d
theorem ab_gd : gd (.str "ab") := by
  rw [gd]
  exact ⟨by decide, by unfold Asc; decide +kernel⟩
theorem ab_wt : wt (.str "ab") = 3 := by
  rw [wt]
  rfl
section
variable {P : Program} {w : World} {K : PySem.W.Frag} {mg : Str → Option Value} {base : Heap} {t : Adr}
def spAny : Sp := fun vs H Q _ => ∃ (p : Addr) (v : V) (tr : T), vs = [.ref p, v] ∧ Pu H p ∧ Dp H tr v ∧ gd (toD tr) ∧ ∀ (u : V) (d : PyData) H', RdV H' u d → AnyR tr d → Off p H H' → Pu H' p → Q u H'
theorem ok_any (D : Defs K mg t) : FnOk P w K mg base CX0 2 t._law_any.1 t._law_any.2 ["_law_purse_here", "_law_old"] spAny := by
  have G__law_take : FnOk P w K mg base CX0 1 t._law_take.1 t._law_take.2 _ spTake := ok_take D
  have hz : sizeLine = 16777216 := sizeLine_eq
  refine D._law_any.fn.ok sc__law_any (fun vs H Q E h => ?_) (fun cdv A outer s H vs Q E hr h => ?_)
  · obtain ⟨p, v, tr, rfl, _⟩ := h
    rfl
  · obtain ⟨p, v, tr, rfl, hp, dv, gt, k⟩ := h
    refine ⟨_, (@pss_cons _ _ _ _ _ (@ps_set _ _ 2 _ _ _ _ sc__law_any.nd rfl (Or.inl rfl) (@pe_lst _ _ _ _ (@pa_cons _ _ _ _ _ pe_non (@pa_cons _ _ _ _ _ pe_bl (@pa_cons _ _ _ _ _ pe_bl (@pa_cons _ _ _ _ _ pe_int (@pa_cons _ _ _ _ _ (pe_un un_neg pe_int) (@pa_cons _ _ _ _ _ pe_str (@pa_cons _ _ _ _ _ pe_str (@pa_cons _ _ _ _ _ (@pe_tup _ _ _ _ _ pa_nil) (@pa_cons _ _ _ _ _ (@pe_lst _ _ _ _ pa_nil) (@pa_cons _ _ _ _ _ pe_dnewK (@pa_cons _ _ _ _ _ (@pe_tup _ _ _ _ _ (@pa_cons _ _ _ _ _ pe_str pa_nil (by rfl))) (@pa_cons _ _ _ _ _ (@pe_lst _ _ _ _ (@pa_cons _ _ _ _ _ pe_str pa_nil (by rfl))) (@pa_cons _ _ _ _ _ (pe_disp (pps_cons pe_str (@pe_tup _ _ _ _ _ pa_nil) pps_nil) rfl rfl (by intro z; cases z) (by decide)) (@pa_cons _ _ _ _ _ (@pe_tup _ _ _ _ _ (@pa_cons _ _ _ _ _ (@pe_tup _ _ _ _ _ (@pa_cons _ _ _ _ _ pe_str (@pa_cons _ _ _ _ _ (@pe_tup _ _ _ _ _ pa_nil) pa_nil (by rfl)) (by rfl))) pa_nil (by rfl))) (@pa_cons _ _ _ _ _ (@pe_lst _ _ _ _ (@pa_cons _ _ _ _ _ (pv 1) pa_nil (by rfl))) pa_nil (by rfl)) (by rfl)) (by rfl)) (by rfl)) (by rfl)) (by rfl)) (by rfl)) (by rfl)) (by rfl)) (by rfl)) (by rfl)) (by rfl)) (by rfl)) (by rfl)) (by rfl))) (by rfl) (by first | exact .inl rfl | exact .inr rfl))
      (@pss_cons _ _ _ _ _ (ps_set (i := 2) sc__law_any.nd rfl (Or.inl rfl) (@pe_op _ _ _ _ _ _ _ _ op_cat (pv 2) (@pe_lst _ _ _ _ (@pa_cons _ _ _ _ _ (@pe_tup _ _ _ _ _ (@pa_cons _ _ _ _ _ (pv 1) pa_nil (by rfl))) (@pa_cons _ _ _ _ _ (@pe_tup _ _ _ _ _ (@pa_cons _ _ _ _ _ (pv 1) (@pa_cons _ _ _ _ _ (pv 1) pa_nil (by rfl)) (by rfl))) (@pa_cons _ _ _ _ _ (@pe_tup _ _ _ _ _ (@pa_cons _ _ _ _ _ (@pe_lst _ _ _ _ pa_nil) pa_nil (by rfl))) (@pa_cons _ _ _ _ _ (@pe_tup _ _ _ _ _ (@pa_cons _ _ _ _ _ (@pe_lst _ _ _ _ (@pa_cons _ _ _ _ _ (pv 1) pa_nil (by rfl))) pa_nil (by rfl))) pa_nil (by rfl)) (by rfl)) (by rfl)) (by rfl)))))
      (@pss_one _ _ _ (@ps_ret _ _ _ _ (@pe_ix _ _ _ _ _ _ _ ix_list (pv 2) (@pe_callF _ _ _ _ _ _ _ _ _ _ _ _ _ D._law_take G__law_take (hr.mono (by omega)) (by rfl) (@pa_cons _ _ _ _ _ (pv 0) (@pa_cons _ _ _ _ _ pe_int pa_nil (by rfl)) (by rfl)) (by decide) (by rfl) (by rfl)) (fun _ _ => rfl)))))), ?_⟩
    refine ⟨_, rfl, Nat.zero_le _, fun q1 hq1 => ?_⟩
    have sq1 : Same H (upd H q1 (.tup [])) := Same.new hq1
    have kq1 : (upd H q1 (.tup [])) q1 = some (.tup []) := upd_same
    generalize upd H q1 (.tup []) = G1 at sq1 kq1
    refine ⟨Nat.zero_le _, fun l2 hl2 => ?_⟩
    have sl2 : Same G1 (upd G1 l2 (.lst [])) := Same.new hl2
    have kl2 : (upd G1 l2 (.lst [])) l2 = some (.lst []) := upd_same
    generalize upd G1 l2 (.lst []) = G2 at sl2 kl2
    refine fun d3 hd3 => ?_
    have sd3 : Same G2 (upd G2 d3 (.dK [])) := Same.new hd3
    have kd3 : (upd G2 d3 (.dK [])) d3 = some (.dK []) := upd_same
    generalize upd G2 d3 (.dK []) = G3 at sd3 kd3
    refine ⟨by show 1 ≤ sizeLine; decide, fun q4 hq4 => ?_⟩
    have sq4 : Same G3 (upd G3 q4 (.tup [.str "ab"])) := Same.new hq4
    have kq4 : (upd G3 q4 (.tup [.str "ab"])) q4 = some (.tup [.str "ab"]) := upd_same
    generalize upd G3 q4 (.tup [.str "ab"]) = G4 at sq4 kq4
    refine ⟨by show 1 ≤ sizeLine; decide, fun l5 hl5 => ?_⟩
    have sl5 : Same G4 (upd G4 l5 (.lst [.str "ab"])) := Same.new hl5
    have kl5 : (upd G4 l5 (.lst [.str "ab"])) l5 = some (.lst [.str "ab"]) := upd_same
    generalize upd G4 l5 (.lst [.str "ab"]) = G5 at sl5 kl5
    refine fun d6 hd6 => ⟨Nat.zero_le _, fun q7 hq7 => ⟨?_, [(.inr "ab", .ref q7)], rfl, by show 1 ≤ 15; decide, ?_⟩⟩
    · rw [upd_ne (ne_of_none upd_same hq7), upd_same]
    have s57 : Same G5 (upd (upd (upd G5 d6 (.dK [])) q7 (.tup [])) d6 (.dK (mergeK [] [(.inr "ab", .ref q7)]))) := fun b o e => by
      have b4 := ne_of_none e hd6
      have e1 : (upd G5 d6 (.dK [])) b = some o := by rw [upd_ne b4]; exact e
      rw [upd_ne b4, upd_ne (ne_of_none e1 hq7)]
      exact e1
    have qd : q7 ≠ d6 := (ne_of_none upd_same hq7).symm
    have k6 : (upd (upd (upd G5 d6 (.dK [])) q7 (.tup [])) d6 (.dK (mergeK [] [(.inr "ab", .ref q7)]))) d6 = some (.dK [(.inr "ab", .ref q7)]) := upd_same
    have k7 : (upd (upd (upd G5 d6 (.dK [])) q7 (.tup [])) d6 (.dK (mergeK [] [(.inr "ab", .ref q7)]))) q7 = some (.tup []) := by rw [upd_ne qd, upd_same]
    generalize upd (upd (upd G5 d6 (.dK [])) q7 (.tup [])) d6 (.dK (mergeK [] [(.inr "ab", .ref q7)])) = G7 at s57 k6 k7
    refine ⟨Nat.zero_le _, fun q8 hq8 => ?_⟩
    have sq8 : Same G7 (upd G7 q8 (.tup [])) := Same.new hq8
    have kq8 : (upd G7 q8 (.tup [])) q8 = some (.tup []) := upd_same
    generalize upd G7 q8 (.tup []) = G8 at sq8 kq8
    refine ⟨by show 2 ≤ sizeLine; decide, fun q9 hq9 => ?_⟩
    have sq9 : Same G8 (upd G8 q9 (.tup [.str "ab", .ref q8])) := Same.new hq9
    have kq9 : (upd G8 q9 (.tup [.str "ab", .ref q8])) q9 = some (.tup [.str "ab", .ref q8]) := upd_same
    generalize upd G8 q9 (.tup [.str "ab", .ref q8]) = G9 at sq9 kq9
    refine ⟨by show 1 ≤ sizeLine; decide, fun q10 hq10 => ?_⟩
    have sq10 : Same G9 (upd G9 q10 (.tup [.ref q9])) := Same.new hq10
    have kq10 : (upd G9 q10 (.tup [.ref q9])) q10 = some (.tup [.ref q9]) := upd_same
    generalize upd G9 q10 (.tup [.ref q9]) = G10 at sq10 kq10
    refine ⟨_, rfl, by show 1 ≤ sizeLine; decide, fun l11 hl11 => ?_⟩
    have sl11 : Same G10 (upd G10 l11 (.lst [v])) := Same.new hl11
    have kl11 : (upd G10 l11 (.lst [v])) l11 = some (.lst [v]) := upd_same
    generalize upd G10 l11 (.lst [v]) = G11 at sl11 kl11
    refine ⟨by show 15 ≤ sizeLine; decide, fun L12 hL12 => ?_⟩
    have sL12 : Same G11 (upd G11 L12 (.lst [.non, .bl true, .bl false, .int 0, .int (-3), .str "", .str "ab", .ref q1, .ref l2, .ref d3, .ref q4, .ref l5, .ref d6, .ref q10, .ref l11])) := Same.new hL12
    have kL12 : (upd G11 L12 (.lst [.non, .bl true, .bl false, .int 0, .int (-3), .str "", .str "ab", .ref q1, .ref l2, .ref d3, .ref q4, .ref l5, .ref d6, .ref q10, .ref l11])) L12 = some (.lst [.non, .bl true, .bl false, .int 0, .int (-3), .str "", .str "ab", .ref q1, .ref l2, .ref d3, .ref q4, .ref l5, .ref d6, .ref q10, .ref l11]) := upd_same
    generalize upd G11 L12 (.lst [.non, .bl true, .bl false, .int 0, .int (-3), .str "", .str "ab", .ref q1, .ref l2, .ref d3, .ref q4, .ref l5, .ref d6, .ref q10, .ref l11]) = G12 at sL12 kL12
    refine ⟨_, rfl, _, rfl, by show 1 ≤ sizeLine; decide, fun q13 hq13 => ?_⟩
    have sq13 : Same G12 (upd G12 q13 (.tup [v])) := Same.new hq13
    have kq13 : (upd G12 q13 (.tup [v])) q13 = some (.tup [v]) := upd_same
    generalize upd G12 q13 (.tup [v]) = G13 at sq13 kq13
    refine ⟨_, rfl, _, rfl, by show 2 ≤ sizeLine; decide, fun q14 hq14 => ?_⟩
    have sq14 : Same G13 (upd G13 q14 (.tup [v, v])) := Same.new hq14
    have kq14 : (upd G13 q14 (.tup [v, v])) q14 = some (.tup [v, v]) := upd_same
    generalize upd G13 q14 (.tup [v, v]) = G14 at sq14 kq14
    refine ⟨Nat.zero_le _, fun l15 hl15 => ?_⟩
    have sl15 : Same G14 (upd G14 l15 (.lst [])) := Same.new hl15
    have kl15 : (upd G14 l15 (.lst [])) l15 = some (.lst []) := upd_same
    generalize upd G14 l15 (.lst []) = G15 at sl15 kl15
    refine ⟨by show 1 ≤ sizeLine; decide, fun q16 hq16 => ?_⟩
    have sq16 : Same G15 (upd G15 q16 (.tup [.ref l15])) := Same.new hq16
    have kq16 : (upd G15 q16 (.tup [.ref l15])) q16 = some (.tup [.ref l15]) := upd_same
    generalize upd G15 q16 (.tup [.ref l15]) = G16 at sq16 kq16
    refine ⟨_, rfl, by show 1 ≤ sizeLine; decide, fun l17 hl17 => ?_⟩
    have sl17 : Same G16 (upd G16 l17 (.lst [v])) := Same.new hl17
    have kl17 : (upd G16 l17 (.lst [v])) l17 = some (.lst [v]) := upd_same
    generalize upd G16 l17 (.lst [v]) = G17 at sl17 kl17
    refine ⟨by show 1 ≤ sizeLine; decide, fun q18 hq18 => ?_⟩
    have sq18 : Same G17 (upd G17 q18 (.tup [.ref l17])) := Same.new hq18
    have kq18 : (upd G17 q18 (.tup [.ref l17])) q18 = some (.tup [.ref l17]) := upd_same
    generalize upd G17 q18 (.tup [.ref l17]) = G18 at sq18 kq18
    refine ⟨by show 4 ≤ sizeLine; decide, fun L19 hL19 => ?_⟩
    have sL19 : Same G18 (upd G18 L19 (.lst [.ref q13, .ref q14, .ref q16, .ref q18])) := Same.new hL19
    have kL19 : (upd G18 L19 (.lst [.ref q13, .ref q14, .ref q16, .ref q18])) L19 = some (.lst [.ref q13, .ref q14, .ref q16, .ref q18]) := upd_same
    generalize upd G18 L19 (.lst [.ref q13, .ref q14, .ref q16, .ref q18]) = G19 at sL19 kL19
    have s12 : Same G12 G19 := (((((sq13.trans sq14).trans sl15).trans sq16).trans sl17).trans sq18).trans sL19
    refine ⟨L12, L19, _, _, rfl, rfl, s12 L12 _ kL12, kL19, by show 19 ≤ sizeLine; decide, fun L20 hL20 => ?_⟩
    obtain ⟨ths, hths⟩ : ∃ ths : List V, ths = [.non, .bl true, .bl false, .int 0, .int (-3), .str "", .str "ab", .ref q1, .ref l2, .ref d3, .ref q4, .ref l5, .ref d6, .ref q10, .ref l11, .ref q13, .ref q14, .ref q16, .ref q18] := ⟨_, rfl⟩
    have kZ : (upd G19 L20 (.lst ths)) L20 = some (.lst ths) := upd_same
    have sZ : Same G19 (upd G19 L20 (.lst ths)) := Same.new hL20
    show gName 2 (.ref L20) _ (upd G19 L20 (.lst ([_, _, _, _, _, _, _, _, _, _, _, _, _, _, _, _, _, _, _]))) _
    rw [← hths]
    generalize upd G19 L20 (.lst ths) = GZ at sZ kZ
    have z18 : Same G18 GZ := sL19.trans sZ
    have z17 : Same G17 GZ := sq18.trans z18
    have z16 : Same G16 GZ := sl17.trans z17
    have z15 : Same G15 GZ := sq16.trans z16
    have z14 : Same G14 GZ := sl15.trans z15
    have z13 : Same G13 GZ := sq14.trans z14
    have z12 : Same G12 GZ := sq13.trans z13
    have z11 : Same G11 GZ := sL12.trans z12
    have z10 : Same G10 GZ := sl11.trans z11
    have z9 : Same G9 GZ := sq10.trans z10
    have z8 : Same G8 GZ := sq9.trans z9
    have z7 : Same G7 GZ := sq8.trans z8
    have z5 : Same G5 GZ := s57.trans z7
    have z4 : Same G4 GZ := sl5.trans z5
    have z3 : Same G3 GZ := sq4.trans z4
    have z2 : Same G2 GZ := sd3.trans z3
    have z1 : Same G1 GZ := sl2.trans z2
    have z0 : Same H GZ := sq1.trans z1
    have pZ := hp.same z0
    refine ⟨_, rfl, _, rfl, p, 19, rfl, pZ, by decide, by decide, fun r a b c l u => ?_⟩
    have oZ : Off p GZ (upd GZ p (.lst [.int a, .int b, .int c])) := Off.upd
    have pW : Pu (upd GZ p (.lst [.int a, .int b, .int c])) p := Pu.upd
    have LZp : L20 ≠ p := fun z => by
      obtain ⟨_, _, _, q⟩ := pZ
      rw [z, q, hths] at kZ
      injection kZ with kZ
      injection kZ with kZ
      exact absurd (congrArg List.length kZ) (by simp)
    have dvZ := dv.mono (Same.tups z0)
    have rv : RdV GZ v (toD tr) := L2.Dp.rd dvZ
    have wp := wt_pos (toD tr)
    have eab : (Str.ofString "ab").length = 2 := rfl
    have gab : gd (.str "ab") := ab_gd
    have nl := noL_toD tr
    have nt := n3_toD tr
    have ht := hasDict_toD tr
    have all : ∀ v ∈ ths, Any1 GZ tr v := by
      rw [hths]
      refine all_cons ⟨_, .non, ⟨trivial, by rw [wt]; omega, Nat.zero_le _, fun _ => rfl, rfl⟩⟩ (all_cons ⟨_, .bl true, ⟨trivial, by rw [wt]; omega, Nat.zero_le _, fun _ => rfl, rfl⟩⟩ (all_cons ⟨_, .bl false, ⟨trivial, by rw [wt]; omega, Nat.zero_le _, fun _ => rfl, rfl⟩⟩ ?_))
      refine all_cons ⟨_, .int 0, ⟨by rw [gd]; exact .inl ⟨by decide, by decide⟩, by rw [wt]; omega, Nat.zero_le _, fun _ => rfl, rfl⟩⟩ (all_cons ⟨_, .int (-3), ⟨by rw [gd]; exact .inr (.inr rfl), by rw [wt]; omega, Nat.zero_le _, fun _ => rfl, rfl⟩⟩ ?_)
      refine all_cons ⟨_, .str "", ⟨by rw [gd]; exact ⟨by decide, by unfold Asc; decide +kernel⟩, by rw [wt]; show 0 + 1 ≤ _; omega, Nat.zero_le _, fun _ => rfl, rfl⟩⟩ (all_cons ⟨_, .str "ab", ⟨ab_gd, by rw [ab_wt]; omega, Nat.zero_le _, fun _ => rfl, rfl⟩⟩ ?_)
      refine all_cons ⟨_, .tup (z1 q1 _ kq1) .nil, ⟨by simp [gd, gdA], by simp only [wt, wtA]; omega, by simp [PyData.depth, PyData.depthAll], fun _ => by simp [noL, noLA], by simp [K01.n3, n3A, is3]⟩⟩ (all_cons ⟨_, .lst (z2 l2 _ kl2) .nil, ⟨by simp [gd, gdA], by simp only [wt, wtA]; omega, by simp [PyData.depth, PyData.depthAll], fun h => by simp [PyData.hasDict, PyData.hasDictAll] at h, by simp [K01.n3, n3A, is3]⟩⟩ (all_cons ⟨_, .dct (z3 d3 _ kd3) .nil, ⟨by simp [gd, gdK], by simp [wt, wtK], by simp [PyData.depth, PyData.depthKv], fun _ => by simp [noL, noLK], by simp [K01.n3, n3K]⟩⟩ ?_))
      refine all_cons ⟨_, .tup (z4 q4 _ kq4) (.cons (.str "ab") .nil), ⟨by simp [gd, gdA]; exact (show gd (.str "ab") from ab_gd), by simp only [wt, wtA, ab_wt]; omega, by simp [PyData.depth, PyData.depthAll], fun _ => by simp [noL, noLA], by simp [K01.n3, n3A, is3]⟩⟩ (all_cons ⟨_, .lst (z5 l5 _ kl5) (.cons (.str "ab") .nil), ⟨by simp [gd, gdA]; exact (show gd (.str "ab") from ab_gd), by simp only [wt, wtA, ab_wt]; omega, by simp [PyData.depth, PyData.depthAll], fun h => by simp [PyData.hasDict, PyData.hasDictAll] at h, by simp [K01.n3, n3A, is3]⟩⟩ ?_)
      refine all_cons ⟨_, .dct (z7 d6 _ k6) (.cons (.tup (z7 q7 _ k7) .nil) .nil), ⟨?_, ?_, ?_, fun _ => ?_, ?_⟩⟩ (all_cons ⟨_, .tup (z10 q10 _ kq10) (.cons (.tup (z9 q9 _ kq9) (.cons (.str "ab") (.cons (.tup (z8 q8 _ kq8) .nil) .nil))) .nil), ⟨?_, ?_, ?_, fun _ => ?_, ?_⟩⟩ (all_cons ⟨_, .lst (z11 l11 _ kl11) (.cons rv .nil), ⟨?_, ?_, ?_, fun h => ?_, ?_⟩⟩ (all_cons ⟨_, .tup (z13 q13 _ kq13) (.cons rv .nil), ⟨?_, ?_, ?_, fun h => ?_, ?_⟩⟩ (all_cons ⟨_, .tup (z14 q14 _ kq14) (.cons rv (.cons rv .nil)), ⟨?_, ?_, ?_, fun h => ?_, ?_⟩⟩ (all_cons ⟨_, .tup (z16 q16 _ kq16) (.cons (.lst (z15 l15 _ kl15) .nil) .nil), ⟨?_, ?_, ?_, fun h => ?_, ?_⟩⟩ (all_cons ⟨_, .tup (z18 q18 _ kq18) (.cons (.lst (z17 l17 _ kl17) (.cons rv .nil)) .nil), ⟨?_, ?_, ?_, fun h => ?_, ?_⟩⟩ all_nil))))))
      all_goals first
        | (simp only [List.map_cons, List.map_nil, List.zip_cons_cons, List.zip_nil_left, keyD, gd, gdA, gdK]; first | exact trivial | (rw [gd] at gab; simp [gab, gt]; done) | simp [gt])
        | (simp only [List.map_cons, List.map_nil, List.zip_cons_cons, List.zip_nil_left, keyD, wt, wtA, wtK]; omega)
        | (simp only [List.map_cons, List.map_nil, List.zip_cons_cons, List.zip_nil_left, keyD, PyData.depth, PyData.depthAll, PyData.depthKv]; omega)
        | (simp [List.map_cons, List.zip_cons_cons, K01.n3, n3A, n3K, nt, is3]; done)
        | (simp [noL, noLA, noLK, nl]; done)
        | (simp [PyData.hasDict, PyData.hasDictAll, ht] at h; done)
    obtain ⟨th, hth, htm, _⟩ := atI_in (xs := ths) l (by rw [hths]; exact u)
    obtain ⟨d, rd, ar⟩ := all th htm
    exact ⟨L20, _, _, _, rfl, rfl, SqL.of (oZ L20 _ LZp kZ), hth, k th d _ (K01.RdV.off pZ oZ rd ar.n3) ar (z0.off.trans oZ) pW⟩
end
end K01
end
section
set_option autoImplicit false
namespace K01
open PySem PyProof.Rows L2
theorem Asc.rep {x : Str} (h : Asc x) (n : Int) : Asc (strRep x n) := .of fun c hc => by
  unfold strRep at hc
  split at hc
  · exact nomatch hc
  · split at hc
    · exact h.to c hc
    · rcases mem_rep hc with q | q
      · exact nomatch q
      · exact h.to c q
theorem Asc.one {x : Str} (h : Asc x) {i : Int} {c : Nat} (e : atI x.cps.toList i = some c) : Asc ⟨#[c]⟩ := .of fun d hd => by
  rw [List.mem_singleton.mp (show d ∈ [c] from hd)]
  exact h.to c (mem_of_atI e)
theorem slice_to_le {x : Str} {j : Int} (h0 : 0 ≤ j) : (Txt.slice x none (some j)).length ≤ j.toNat := by
  by_cases h : j ≤ x.length
  · rw [slice_to_len h0 h]
    exact Nat.le_refl _
  · exact Nat.le_trans (slice_len x _ _) (by omega)
section
variable {P : Program} {w : World} {K : PySem.W.Frag} {mg : Str → Option Value} {base : Heap} {t : Adr}
def spBadly : Sp := fun vs H Q _ => ∃ (p : Addr) (x : Str), vs = [.ref p, .str x] ∧ Pu H p ∧ Nm x ∧ ∀ (y : Str) H', y.length ≤ 13 → Asc y → Off p H H' → Pu H' p → Q (.str y) H'
theorem ok_badly (D : Defs K mg t) : FnOk P w K mg base CX0 2 t._law_badly.1 t._law_badly.2 ["_law_purse_here", "_law_name"] spBadly := by
  have G__law_take : FnOk P w K mg base CX0 1 t._law_take.1 t._law_take.2 _ spTake := ok_take D
  have hz : sizeLine = 16777216 := sizeLine_eq
  refine D._law_badly.fn.ok sc__law_badly (fun vs H Q E h => ?_) (fun cdv A outer s H vs Q E hr h => ?_)
  · obtain ⟨p, x, rfl, _⟩ := h
    rfl
  · obtain ⟨p, x, rfl, hp, ⟨n1, n6, lw⟩, k⟩ := h
    have ax := lw.asc
    refine ⟨_, (pss_cons (ps_set (i := 2) sc__law_badly.nd rfl (Or.inl rfl) (pe_callF D._law_take G__law_take (hr.mono (by omega)) (by rfl) (pa_cons (pv 0) (pa_cons pe_int pa_nil))))
      (pss_cons (ps_set (i := 3) sc__law_badly.nd rfl (Or.inl rfl) (pe_callF D._law_take G__law_take (hr.mono (by omega)) (by rfl) (pa_cons (pv 0) (pa_cons (pe_callB call_len_str (by rfl) D.b_len bt_len (pa_cons (pv 1) pa_nil)) pa_nil))))
      (pss_cons (ps_if (pt_cmpR op_eq (pv 2) pe_int (nomark _))
      (pss_one (ps_ret pe_str))
      pss_nil)
      (pss_cons (ps_if (pt_cmpR op_lt (pv 2) pe_int (nomark _))
      (pss_one (ps_ret (pe_slice sl_str (pe_op op_mulS (pv 1) pe_int) po_none (po_some (pe_op op_add pe_int (pv 2))))))
      pss_nil)
      (pss_cons (ps_set (i := 4) sc__law_badly.nd rfl (Or.inl rfl) pe_str)
      (pss_cons (ps_set (i := 5) sc__law_badly.nd rfl (Or.inl rfl) (pe_ix ix_str (pv 4) (pe_callF D._law_take G__law_take (hr.mono (by omega)) (by rfl) (pa_cons (pv 0) (pa_cons (pe_callB call_len_str (by rfl) D.b_len bt_len (pa_cons (pv 4) pa_nil)) pa_nil))) (fun _ _ => rfl)))
      (pss_one (ps_ret (pe_op op_add_str (pe_op op_add_str (pe_slice sl_str (pv 1) po_none (po_some (pv 3))) (pv 5)) (pe_slice sl_str (pv 1) (po_some (pe_op op_add (pv 3) (pe_op op_mod (pv 2) pe_int))) po_none)))))))))), ?_⟩
    refine ⟨_, rfl, p, 6, rfl, hp, by decide, by decide, fun r1 a1 b1 c1 l1 u1 => ?_⟩
    refine ⟨_, rfl, _, rfl, x, rfl, by omega, p, _, rfl, Pu.upd, by omega, by omega, fun r2 a2 b2 c2 l2 u2 => ?_⟩
    rw [upd_upd]
    have o2 : Off p H (upd H p (.lst [.int a2, .int b2, .int c2])) := Off.upd
    have p2 : Pu (upd H p (.lst [.int a2, .int b2, .int c2])) p := Pu.upd
    generalize upd H p (.lst [.int a2, .int b2, .int c2]) = H2 at o2 p2
    refine ⟨_, rfl, rfl, _, rfl, ite2 (fun hb => ?_) (fun hb => ?_)⟩
    · exact k "" H2 (by decide) (by unfold Asc; decide +kernel) o2 p2
    refine ⟨_, rfl, _, _, rfl, rfl, _, rfl, ite2 (fun hb2 => ?_) (fun hb2 => ?_)⟩
    · have q3 : (strRep x 7).length ≤ x.length * 7 := strRep_len x (n := 7) (by decide)
      refine ⟨_, rfl, x, 7, rfl, rfl, by decide, by decide, by omega, _, rfl, _, _, rfl, rfl, _, rfl, _, rfl, by omega, k _ H2 ?_ ((K01.Asc.rep ax 7).slice _ _) o2 p2⟩
      have hb2 : r1 < 3 := of_decide_eq_true hb2
      exact Nat.le_trans (slice_to_le (by omega)) (by omega)
    · refine ⟨_, rfl, _, rfl, _, rfl, _, rfl, by decide, p, _, rfl, p2, by decide, by decide, fun r3 a3 b3 c3 l3 u3 => ?_⟩
      have o3 := o2.trans (Off.upd (p := p) (H := H2) (o := .lst [.int a3, .int b3, .int c3]))
      have p3 : Pu (upd H2 p (.lst [.int a3, .int b3, .int c3])) p := Pu.upd
      generalize upd H2 p (.lst [.int a3, .int b3, .int c3]) = H3 at o3 p3
      obtain ⟨cc, ec, _, _⟩ := atI_in (xs := (Str.cps _).toList) l3 (by rw [Array.length_toList]; exact u3)
      refine ⟨_, _, cc, rfl, rfl, by decide +kernel, ec, ?_⟩
      have ac : Asc ⟨#[cc]⟩ := K01.Asc.one (by unfold Asc; decide +kernel) ec
      have e1 := slice_len x none (some r2)
      refine ⟨_, rfl, _, rfl, _, rfl, x, rfl, by omega, _, rfl, _, _, rfl, rfl, by show _ + 1 ≤ _; omega, _, rfl, _, rfl, _, rfl, _, _, rfl, rfl, (by show (0 : Int) < 2; decide), _, _, rfl, rfl, _, rfl, x, rfl, by omega, _, _, rfl, rfl, ?_, k _ H3 ?_ (((ax.slice _ _).app ac).app (ax.slice _ _)) o3 p3⟩
      · rw [str_len_app]
        have e2 := slice_len x (some (r2 + r1 % 2)) none
        show _ + 1 + _ ≤ _
        omega
      · rw [str_len_app, str_len_app]
        have e2 := slice_len x (some (r2 + r1 % 2)) none
        show _ + 1 + _ ≤ _
        omega
def spPart : Sp := fun vs H Q _ => ∃ (v wv : V) (tr : T) (ws : List Nat), vs = [v, wv] ∧ Dp H tr v ∧ Dp H (wayT ws) wv ∧ OkW tr ws ∧ ∀ (u : V) (tu : T), Dp H tu u → (gd (toD tr) → gd (toD tu)) → wt (toD tu) ≤ wt (toD tr) → (toD tu).depth ≤ (toD tr).depth → (nI tr = true → nI tu = true) → Q u H
theorem ok_part (D : Defs K mg t) : FnOk P w K mg base CX0 1 t._law_part.1 t._law_part.2 ["_law_thing", "_law_way_here"] spPart := by
  refine D._law_part.fn.ok sc__law_part (fun vs H Q E h => ?_) (fun cdv A outer s H vs Q E hr h => ?_)
  · obtain ⟨v, wv, tr, ws, rfl, _⟩ := h
    rfl
  · obtain ⟨v, wv, tr, ws, rfl, dv, dw, okw, k⟩ := h
    obtain ⟨wa, wxs, rfl, hwa, dwl⟩ := L2.Dp.of_tup dw
    have wxl : wxs.length = ws.length := by have := dwl.length; rwa [List.length_map] at this
    refine ⟨_, (pss_cons (ps_for PassesOwn.never rfl (pi_tup (pv 1)) (pg_name (i := 2) sc__law_part.nd rfl (Or.inl rfl))
      (pss_one (ps_set (i := 0) sc__law_part.nd rfl (Or.inl rfl) (pe_ix ix_tup (pv 0) (pv 2) (fun _ _ => rfl)))))
      (pss_one (ps_ret (pv 0)))), ?_⟩
    refine ⟨_, rfl, wa, rfl, ⟨_, SqT.of hwa⟩, for_tup (K := K) (a := wa) (xs := wxs) (fun i σ H2 => ∃ (u : V) (tu : T) (v2 : Option V), σ = [some u, some (.ref wa), v2] ∧ H2 = H ∧ Dp H tu u ∧ OkW tu (ws.drop i) ∧ (gd (toD tr) → gd (toD tu)) ∧ wt (toD tu) ≤ wt (toD tr) ∧ (toD tu).depth ≤ (toD tr).depth ∧ (nI tr = true → nI tu = true))
      ⟨v, tr, _, rfl, rfl, dv, okw, id, Nat.le_refl _, Nat.le_refl _, id⟩ (fun i σ H2 _ ⟨_, _, _, _, e, _⟩ => by rw [e]; exact SqT.of hwa) ?_ ?_⟩
    · rintro i x σ H2 hi ⟨u, tu, v2, rfl, rfl, du, ok, g1, w1, d1, ni⟩
      have hil : i < ws.length := by
        have := (List.getElem?_eq_some_iff.mp hi).1
        omega
      obtain ⟨y, ey, dy⟩ := dwl.get (i := i) (t := .int (ws[i] : Nat)) (by rw [List.getElem?_map, List.getElem?_eq_getElem hil]; rfl)
      rw [hi] at ey
      cases ey
      obtain rfl := dy.of_int
      rw [List.drop_eq_getElem_cons hil] at ok
      cases tu with
      | non => exact False.elim ok
      | int _ => exact False.elim ok
      | str _ => exact False.elim ok
      | tup ts =>
        obtain ⟨hj, ok⟩ := ok
        obtain ⟨a, xs, rfl, ha, dl⟩ := L2.Dp.of_tup du
        obtain ⟨z, ez, dz⟩ := dl.get (List.getElem?_eq_getElem hj)
        refine ⟨_, rfl, _, rfl, a, xs, _, z, rfl, rfl, SqT.of ha, atI_nat ez, z, ts[ws[i]], _, rfl, rfl, dz, ok, fun g => ?_, ?_, ?_, fun g => ?_⟩
        · have g2 := g1 g
          rw [toD, gd, toDA_map] at g2
          exact gdA_iff.mp g2 _ (List.mem_map.mpr ⟨_, List.getElem_mem hj, rfl⟩)
        · rw [toD, wt, toDA_map] at w1
          have := wtA_mem (List.mem_map.mpr ⟨_, List.getElem_mem hj, rfl⟩ : toD ts[ws[i]] ∈ ts.map toD)
          omega
        · rw [toD, PyData.depth, toDA_map] at d1
          have : ∀ {l : List PyData} {d : PyData}, d ∈ l → d.depth ≤ PyData.depthAll l := by
            intro l
            induction l with
            | nil => exact fun h => nomatch h
            | cons a l ih =>
              intro d h
              rw [PyData.depthAll]
              rcases List.mem_cons.mp h with rfl | h
              · omega
              · have := ih h
                omega
          have := this (List.mem_map.mpr ⟨_, List.getElem_mem hj, rfl⟩ : toD ts[ws[i]] ∈ ts.map toD)
          omega
        · have := ni g
          rw [nI] at this
          exact nIA_mem this (List.getElem_mem hj)
    · rintro σ H2 ⟨u, tu, v2, rfl, rfl, du, _, g1, w1, d1, ni⟩
      exact ⟨_, rfl, k u tu du g1 w1 d1 ni⟩
end
end K01
end
section
set_option autoImplicit false
namespace K01
open PySem PyProof.Rows L2
theorem dpI {H : Hp} {r : Int} (h : 0 ≤ r) : Dp H ((fun i : Nat => T.int (i : Nat)) r.toNat) (V.int r) := by
  show Dp H (.int (r.toNat : Int)) _
  rw [Int.toNat_of_nonneg h]
  exact L2.Dp.int _
section
variable {P : Program} {w : World} {K : PySem.W.Frag} {mg : Str → Option Value} {base : Heap} {t : Adr}
def spWay : Sp := fun vs H Q _ => ∃ (p : Addr) (v : V) (f : Fam), vs = [.ref p, v] ∧ Pu H p ∧ Dp H (famT f) v ∧ GoodF f ∧ ∀ (u : V) (ws : List Nat) H', Dp H' (wayT ws) u → OkW (famT f) ws → ws.length < 4 → Off p H H' → Pu H' p → Q u H'
theorem ok_way (D : Defs K mg t) : FnOk P w K mg base CX0 2 t._law_way.1 t._law_way.2 ["_law_purse_here", "_law_family_here"] spWay := by
  have G__law_take : FnOk P w K mg base CX0 1 t._law_take.1 t._law_take.2 _ spTake := ok_take D
  have hz : sizeLine = 16777216 := sizeLine_eq
  refine D._law_way.fn.ok sc__law_way (fun vs H Q E h => ?_) (fun cdv A outer s H vs Q E hr h => ?_)
  · obtain ⟨p, v, f, rfl, _⟩ := h
    rfl
  · obtain ⟨p, v, f, rfl, hp, dv, gf, k⟩ := h
    have f8 := gf.len
    have f1 := gf.pos
    refine ⟨_, (pss_cons (ps_set (i := 2) sc__law_way.nd rfl (Or.inl rfl) (pe_callF D._law_take G__law_take (hr.mono (by omega)) (by rfl) (pa_cons (pv 0) (pa_cons pe_int pa_nil))))
      (pss_cons (ps_set (i := 3) sc__law_way.nd rfl (Or.inl rfl) (pe_callF D._law_take G__law_take (hr.mono (by omega)) (by rfl) (pa_cons (pv 0) (pa_cons (pe_callB call_len_seq (by rfl) D.b_len bt_len (pa_cons (pv 1) pa_nil)) pa_nil))))
      (pss_cons (ps_set (i := 4) sc__law_way.nd rfl (Or.inl rfl) (pe_callF D._law_take G__law_take (hr.mono (by omega)) (by rfl) (pa_cons (pv 0) (pa_cons pe_int pa_nil))))
      (pss_cons (ps_if (pt_cmpR op_lt (pv 2) pe_int (nomark _))
      (pss_one (ps_ret (pe_ix ix_tup (pe_tup (pa_cons (pe_tup pa_nil) (pa_cons (pe_tup (pa_cons (pv 3) pa_nil)) pa_nil))) (pv 2) (fun _ _ => rfl))))
      pss_nil)
      (pss_cons (ps_if (PW.pt (pw_and (pt_cmpR op_eq (pv 2) pe_int (nomark _)) (pw_and1 (pt_cmpR op_gt (pe_callB call_len_seq (by rfl) D.b_len bt_len (pa_cons (pe_ix ix_tup (pe_ix ix_tup (pv 1) (pv 3) (fun _ _ => rfl)) pe_int (fun _ _ => rfl)) pa_nil)) pe_int (nomark _)))))
      (pss_one (ps_ret (pe_tup (pa_cons (pv 3) (pa_cons pe_int (pa_cons (pe_callF D._law_take G__law_take (hr.mono (by omega)) (by rfl) (pa_cons (pv 0) (pa_cons (pe_callB call_len_seq (by rfl) D.b_len bt_len (pa_cons (pe_ix ix_tup (pe_ix ix_tup (pv 1) (pv 3) (fun _ _ => rfl)) pe_int (fun _ _ => rfl)) pa_nil)) pa_nil))) pa_nil))))))
      pss_nil)
      (pss_one (ps_ret (pe_tup (pa_cons (pv 3) (pa_cons (pv 4) pa_nil)))))))))), ?_⟩
    obtain ⟨a, xs, rfl, ha, dl⟩ := L2.Dp.of_tup dv
    have hxl : xs.length = f.length := by have := dl.length; rwa [List.length_map] at this
    refine ⟨_, rfl, p, 4, rfl, hp, by decide, by decide, fun r1 a1 b1 c1 l1 u1 => ?_⟩
    have ha1 : (upd H p (.lst [.int a1, .int b1, .int c1])) a = some (.tup xs) := offT hp Off.upd a _ ha
    refine ⟨_, rfl, _, rfl, a, _, rfl, .inr (SqT.of ha1), p, _, rfl, Pu.upd, by omega, by omega, fun r2 a2 b2 c2 l2 u2 => ?_⟩
    refine ⟨_, rfl, p, 2, rfl, Pu.upd, by decide, by decide, fun r3 a3 b3 c3 l3 u3 => ?_⟩
    rw [upd_upd, upd_upd]
    have o3 : Off p H (upd H p (.lst [.int a3, .int b3, .int c3])) := Off.upd
    have p3 : Pu (upd H p (.lst [.int a3, .int b3, .int c3])) p := Pu.upd
    generalize upd H p (.lst [.int a3, .int b3, .int c3]) = H3 at o3 p3
    have t3 := offT hp o3
    have hk : r2.toNat < f.length := by omega
    have ek : ((r2.toNat : Nat) : Int) = r2 := Int.toNat_of_nonneg l2
    have okk : ∀ ws, OkW (rowT f[r2.toNat]) ws → OkW (famT f) (r2.toNat :: ws) := fun ws h => ⟨by rw [List.length_map]; exact hk, by rw [List.getElem_map]; exact h⟩
    refine ⟨_, rfl, _, _, rfl, rfl, _, rfl, ite2 (fun hb => ?_) (fun hb => ?_)⟩
    · have hb : r1 < 2 := of_decide_eq_true hb
      refine ⟨Nat.zero_le _, fun q1 hq1 => ?_⟩
      have s1 : Same H3 (upd H3 q1 (.tup [])) := Same.new hq1
      have k1 : (upd H3 q1 (.tup [])) q1 = some (.tup []) := upd_same
      generalize upd H3 q1 (.tup []) = H4 at s1 k1
      refine ⟨_, rfl, by show 1 ≤ sizeLine; decide, fun q2 hq2 => ?_⟩
      have s2 : Same H4 (upd H4 q2 (.tup [.int r2])) := Same.new hq2
      have k2 : (upd H4 q2 (.tup [.int r2])) q2 = some (.tup [.int r2]) := upd_same
      generalize upd H4 q2 (.tup [.int r2]) = H5 at s2 k2
      refine ⟨by show 2 ≤ sizeLine; decide, fun q3 hq3 => ?_⟩
      have s3 : Same H5 (upd H5 q3 (.tup [.ref q1, .ref q2])) := Same.new hq3
      have k3 : (upd H5 q3 (.tup [.ref q1, .ref q2])) q3 = some (.tup [.ref q1, .ref q2]) := upd_same
      generalize upd H5 q3 (.tup [.ref q1, .ref q2]) = H6 at s3 k3
      have s36 := (s1.trans s2).trans s3
      rcases (by omega : r1 = 0 ∨ r1 = 1) with rfl | rfl
      · exact ⟨_, rfl, q3, _, _, _, rfl, rfl, SqT.of k3, atI_nat (j := 0) rfl, k (.ref q1) [] H6 (L2.Dp.tup ((s2.trans s3) q1 _ k1) .nil) trivial (by decide) (o3.trans s36.off) (p3.same s36)⟩
      · exact ⟨_, rfl, q3, _, _, _, rfl, rfl, SqT.of k3, atI_nat (j := 1) rfl, k (.ref q2) [r2.toNat] H6 (L2.Dp.tup (s3 q2 _ k2) (.cons (dpI l2) .nil)) (okk [] trivial) (by show 1 < 4; decide) (o3.trans s36.off) (p3.same s36)⟩
    have hb : ¬ r1 < 2 := fun h => hb (decide_eq_true h)
    have last : ∀ q : Addr, H3 q = none → Q (.ref q) (upd H3 q (.tup [.int r2, .int r3])) := fun q hq => by
      have e3 : ((r3.toNat : Nat) : Int) = r3 := Int.toNat_of_nonneg l3
      refine k (.ref q) [r2.toNat, r3.toNat] _ (L2.Dp.tup upd_same (.cons (dpI l2) (.cons (dpI l3) .nil))) (okk _ ⟨by show r3.toNat < 2; omega, ?_⟩) (by show 2 < 4; decide) (o3.trans (Off.new hq)) (p3.upd_ne (p3.neN hq))
      rw [OkW] <;> simp
    obtain ⟨y, ey, dy⟩ := (dl.mono t3).get (i := r2.toNat) (t := rowT f[r2.toNat]) (by rw [List.getElem?_map, List.getElem?_eq_getElem hk]; rfl)
    obtain ⟨q, e, rfl, hq, he⟩ := K01.Dp.of_row dy
    refine ⟨_, rfl, rfl, _, rfl, ite2 (fun hb3 => ?_) (fun hb3 => ?_)⟩
    · refine ⟨_, rfl, _, rfl, a, xs, r2, _, rfl, rfl, SqT.of (t3 a _ ha), by rw [← ek]; exact atI_nat ey, q, _, _, _, rfl, rfl, SqT.of hq, atI_nat (j := 1) rfl, e, _, rfl, .inr (SqT.of he), _, _, rfl, rfl, _, rfl, ite2 (fun hb4 => ?_) (fun hb4 => ?_)⟩
      · have hb4 : ((((f[r2.toNat]).2.map V.str).length : Nat) : Int) > 0 := of_decide_eq_true hb4
        have e8 := gf.el _ (List.getElem_mem hk)
        rw [List.length_map] at hb4
        refine ⟨_, rfl, _, rfl, _, rfl, _, rfl, a, xs, r2, _, rfl, rfl, SqT.of (t3 a _ ha), by rw [← ek]; exact atI_nat ey, q, _, _, _, rfl, rfl, SqT.of hq, atI_nat (j := 1) rfl, e, _, rfl, .inr (SqT.of he), p, _, rfl, p3, by rw [List.length_map]; omega, by rw [List.length_map]; omega, fun r5 a5 b5 c5 l5 u5 => ?_⟩
        rw [List.length_map] at u5
        refine ⟨by show 3 ≤ sizeLine; decide, fun q6 hq6 => ?_⟩
        have e5 : ((r5.toNat : Nat) : Int) = r5 := Int.toNat_of_nonneg l5
        refine k (.ref q6) [r2.toNat, 1, r5.toNat] _ (L2.Dp.tup upd_same (.cons (dpI l2) (.cons (L2.Dp.int 1) (.cons (dpI l5) .nil)))) (okk _ ⟨by show 1 < 2; decide, ?_⟩) (by show 3 < 4; decide) ((o3.trans Off.upd).trans (Off.new hq6)) (Pu.upd.upd_ne (Pu.upd.neN hq6))
        exact ⟨by rw [List.length_map]; omega, by rw [OkW] <;> simp⟩
      · exact ⟨_, rfl, _, rfl, by show 2 ≤ sizeLine; decide, last⟩
    · exact ⟨_, rfl, _, rfl, by show 2 ≤ sizeLine; decide, last⟩
end
end K01
end
section
set_option autoImplicit false
namespace K01
open PySem PyProof.Rows L2
structure ThT (tr : T) : Prop where
  g : gd (toD tr)
  w : wt (toD tr) ≤ 1200
  dp : (toD tr).depth ≤ 3
def Tx (k : Nat) (x : Str) : Prop := x.length ≤ k ∧ Asc x
theorem Nm.tx {x : Str} (h : Nm x) : Tx 6 x := ⟨h.2.1, h.2.2.asc⟩
theorem Tx.up {k k' : Nat} {x : Str} (h : Tx k x) (q : k ≤ k') : Tx k' x := ⟨Nat.le_trans h.1 q, h.2⟩
theorem strs_wt {k : Nat} : ∀ {es : List Str}, (∀ e ∈ es, Tx k e) → k ≤ 4000 → gdA (es.map PyData.str) ∧ wtA (es.map PyData.str) ≤ es.length * (k + 1) ∧ PyData.depthAll (es.map PyData.str) = 0
  | [], _, _ => ⟨by simp [gdA], by simp [wtA], by simp [PyData.depthAll]⟩
  | e :: es, h, hk => by
    obtain ⟨a, b, c⟩ := strs_wt (fun x hx => h x (List.mem_cons_of_mem _ hx)) hk
    obtain ⟨h1, h2⟩ := h e List.mem_cons_self
    refine ⟨?_, ?_, ?_⟩
    · rw [List.map_cons, gdA, gd]
      exact ⟨⟨by omega, h2⟩, a⟩
    · rw [List.map_cons, wtA, wt, List.length_cons, Nat.add_mul]
      omega
    · rw [List.map_cons, PyData.depthAll, c, PyData.depth]
      rfl
theorem rows_wt {m k : Nat} : ∀ {g : Fam}, (∀ r ∈ g, r.2.length ≤ m ∧ Tx k r.1 ∧ ∀ e ∈ r.2, Tx k e) → k ≤ 4000 → gdA (g.map rowD) ∧ wtA (g.map rowD) ≤ g.length * (k + 3 + m * (k + 1)) ∧ PyData.depthAll (g.map rowD) ≤ 2
  | [], _, _ => ⟨by simp [gdA], by simp [wtA], by simp [PyData.depthAll]⟩
  | r :: g, h, hk => by
    obtain ⟨a, b, c⟩ := rows_wt (fun x hx => h x (List.mem_cons_of_mem _ hx)) hk
    obtain ⟨h1, h2, h3⟩ := h r List.mem_cons_self
    obtain ⟨x, y, z⟩ := strs_wt h3 hk
    have hm : r.2.length * (k + 1) ≤ m * (k + 1) := Nat.mul_le_mul_right _ h1
    have er : rowD r = .tuple [.str r.1, .tuple (r.2.map .str)] := rfl
    refine ⟨?_, ?_, ?_⟩
    · rw [List.map_cons, gdA, er, gd, gdA, gdA, gdA, gd, gd]
      exact ⟨⟨⟨by have := h2.1; omega, h2.2⟩, x, trivial⟩, a⟩
    · have := h2.1
      have e1 : wt (.tuple [.str r.1, .tuple (r.2.map .str)]) = 1 + (r.1.length + 1 + (1 + wtA (r.2.map .str) + 0)) := by simp only [wt, wtA]
      rw [List.map_cons, wtA, er, e1, List.length_cons, Nat.add_mul]
      omega
    · rw [List.map_cons, PyData.depthAll, er, PyData.depth, PyData.depthAll, PyData.depthAll, PyData.depthAll, PyData.depth, PyData.depth, z]
      omega
theorem famThT {g : Fam} {n m k : Nat} (hn : g.length ≤ n) (h : ∀ r ∈ g, r.2.length ≤ m ∧ Tx k r.1 ∧ ∀ e ∈ r.2, Tx k e) (hk : k ≤ 4000) (hb : n * (k + 3 + m * (k + 1)) + 1 ≤ 1200) : ThT (famT g) := by
  obtain ⟨a, b, c⟩ := rows_wt h hk
  have hm : g.length * (k + 3 + m * (k + 1)) ≤ n * (k + 3 + m * (k + 1)) := Nat.mul_le_mul_right _ hn
  refine ⟨?_, ?_, ?_⟩
  · rw [toD_fam, gd]
    exact a
  · rw [toD_fam, wt]
    omega
  · rw [toD_fam, PyData.depth]
    omega
theorem GoodF.rows {f : Fam} (gf : GoodF f) : ∀ r ∈ f, r.2.length ≤ 8 ∧ Tx 6 r.1 ∧ ∀ e ∈ r.2, Tx 6 e := fun r hr => ⟨gf.el r hr, K01.Nm.tx (gf.lw r.1 (List.mem_map.mpr ⟨r, hr, rfl⟩)), fun e he => K01.Nm.tx (gf.lw e (gf.sub r hr e he))⟩
theorem GoodF.thT {f : Fam} (gf : GoodF f) : ThT (famT f) := famThT gf.len (K01.GoodF.rows gf) (by decide) (by decide)
def ren (x y z : Str) : Str := if decide (V.str z = V.str x) = true then y else z
section
variable {P : Program} {w : World} {K : PySem.W.Frag} {mg : Str → Option Value} {base : Heap} {t : Adr}
def spRenamed : Sp := fun vs H Q _ => ∃ (v : V) (f : Fam) (x y : Str), vs = [v, .str x, .str y] ∧ Dp H (famT f) v ∧ GoodF f ∧ Tx 13 y ∧ ∀ (u : V) (tr : T) H', Dp H' tr u → ThT tr → Same H H' → Q u H'
theorem ok_renamed (D : Defs K mg t) : FnOk P w K mg base CX0 1 t._law_renamed.1 t._law_renamed.2 ["_law_family_here", "_law_old", "_law_new"] spRenamed := by
  have hz : sizeLine = 16777216 := sizeLine_eq
  refine D._law_renamed.fn.ok sc__law_renamed (fun vs H Q E h => ?_) (fun cdv A outer s H vs Q E hr h => ?_)
  · obtain ⟨v, f, x, y, rfl, _⟩ := h
    rfl
  · obtain ⟨v, f, x, y, rfl, dv, gf, ty, k⟩ := h
    have f8 := gf.len
    refine ⟨_, (pss_cons (ps_set (i := 3) sc__law_renamed.nd rfl (Or.inl rfl) (pe_lst pa_nil))
      (pss_cons (ps_for PassesOwn.never rfl (pi_tup (pv 0)) (pg_tup rfl (pgs_cons (pg_name (i := 4) sc__law_renamed.nd rfl (Or.inl rfl)) (pgs_cons (pg_name (i := 5) sc__law_renamed.nd rfl (Or.inl rfl)) pgs_nil)))
      (pss_cons (ps_setc (i := 6) rfl sc__law_renamed.nd rfl (Or.inl rfl) (CompScope.of ["_law_one"] [2, 1] ["_law_one", "_law_new", "_law_old"] (defScope (top 25)) ["_law_family_here", "_law_old", "_law_new", "_law_rows", "_law_kind", "_law_elders", "_law_names_here"] rfl rfl (by decide +kernel)) ⟨fun _ _ _ _ _ => (pg_name (i := 0) (show List.Nodup [("_law_one" : Str), ("_law_new" : Str), ("_law_old" : Str)] by decide +kernel) rfl (Or.inl (lookup_relabel_local rfl)) (.inr (lookup_relabel_local rfl))), fun _ _ _ _ _ => pts_nil, fun _ _ _ _ _ => (pe_ix (ix_list_K (K := K) rfl) (pe_lst (pa_cons (pv 0) (pa_cons (pv 1) pa_nil))) (pe_callTy call_int1 (by rfl) D.b_int bt_int (pa_cons (pe_cmpR op_eq (pv 0) (pv 2) (nomark _)) pa_nil)) (fun _ _ => rfl))⟩ (pi_tup (pe_op op_catN (pe_tup (pa_cons (pv 4) pa_nil)) (pv 5))))
      (pss_one (ps_expr (pe_bm PySem.F.plainAttrs_list PySem.F.slot_list_append PySem.F.type_list_append mt_append (pv 3) (pa_cons (pe_tup (pa_cons (pe_ix ix_list (pv 6) pe_int (fun _ _ => rfl)) (pa_cons (pe_callTy call_tuple_of (by rfl) D.b_tuple bt_tuple (pa_cons (pe_slice sl_list (pv 6) (po_some pe_int) po_none) pa_nil)) pa_nil))) pa_nil))))))
      (pss_one (ps_ret (pe_callTy call_tuple_of (by rfl) D.b_tuple bt_tuple (pa_cons (pv 3) pa_nil)))))), ?_⟩
    obtain ⟨a, xs, rfl, ha, dl⟩ := L2.Dp.of_tup dv
    have hxl : xs.length = f.length := by have := dl.length; rwa [List.length_map] at this
    refine ⟨Nat.zero_le _, fun fa hfa => ?_⟩
    have s1 : Same H (upd H fa (.lst [])) := Same.new hfa
    refine ⟨_, rfl, a, rfl, ⟨_, SqT.of (s1 a _ ha)⟩, for_tup (K := K) (a := a) (xs := xs) (fun i σ H2 => ∃ (g : Fam) (ys : List V) (v4 v5 v6 : Option V), σ = [some (.ref a), some (.str x), some (.str y), some (.ref fa), v4, v5, v6] ∧ g.length = i ∧ (∀ r ∈ g, r.2.length ≤ 8 ∧ Tx 13 r.1 ∧ ∀ e ∈ r.2, Tx 13 e) ∧ H2 fa = some (.lst ys) ∧ DpL H2 (g.map rowT) ys ∧ Same H H2)
      ⟨[], [], _, _, _, rfl, rfl, (fun r hr => nomatch hr), upd_same, .nil, s1⟩ (fun i σ H2 _ ⟨_, _, _, _, _, _, _, _, _, _, s2⟩ => SqT.of (s2 a _ ha)) ?_ ?_⟩
    · rintro i z σ H2 hi ⟨g, ys, v4, v5, v6, rfl, hg, gr, hf2, dy, s2⟩
      have hil : i < f.length := by
        have := (List.getElem?_eq_some_iff.mp hi).1
        omega
      obtain ⟨z', ez, dz⟩ := (dl.mono (Same.tups s2)).get (i := i) (t := rowT f[i]) (by rw [List.getElem?_map, List.getElem?_eq_getElem hil]; rfl)
      rw [hi] at ez
      cases ez
      obtain ⟨q, e, rfl, hq, he⟩ := K01.Dp.of_row dz
      obtain ⟨r8, rt, re⟩ := K01.GoodF.rows gf f[i] (List.getElem_mem hil)
      refine ⟨q, _, rfl, SqT.of hq, rfl, _, _, rfl, _, _, rfl, rfl, ?_⟩
      refine ⟨_, rfl, by show 1 ≤ sizeLine; decide, fun q1 hq1 => ?_⟩
      have s3 : Same H2 (upd H2 q1 (.tup [.str (f[i]).1])) := Same.new hq1
      have k3 : (upd H2 q1 (.tup [.str (f[i]).1])) q1 = some (.tup [.str (f[i]).1]) := upd_same
      generalize upd H2 q1 (.tup [.str (f[i]).1]) = H3 at s3 k3
      refine ⟨_, rfl, q1, e, _, _, rfl, rfl, k3, s3 e _ he, by rw [List.length_map]; show 1 + _ ≤ _; omega, fun q2 H4 hq2 s4 => ?_⟩
      have es : [V.str (f[i]).1] ++ (f[i]).2.map V.str = ((f[i]).1 :: (f[i]).2).map V.str := rfl
      rw [es] at hq2
      have tsrc : ∀ z ∈ (f[i]).1 :: (f[i]).2, Tx 13 z := fun z hz => by
        rcases List.mem_cons.mp hz with rfl | h
        · exact rt.up (by decide)
        · exact (re z h).up (by decide)
      have lsrc : ((f[i]).1 :: (f[i]).2).length ≤ 9 := by rw [List.length_cons]; omega
      have hsrc : ∃ s0 sr, ((f[i]).1 :: (f[i]).2) = s0 :: sr ∧ sr.length ≤ 8 := ⟨_, _, rfl, r8⟩
      generalize (f[i]).1 :: (f[i]).2 = src at hq2 tsrc lsrc hsrc
      have s24 := s3.trans s4
      refine ⟨q2, rfl, ⟨_, SqT.of hq2⟩, fun D1 hD1 => ?_⟩
      have tren : ∀ z ∈ src.map (ren x y), Tx 13 z := fun z hz => by
        obtain ⟨z', hz', rfl⟩ := List.mem_map.mp hz
        unfold ren
        split
        · exact ty
        · exact tsrc z' hz'
      refine comp_by (n := src.length) (fun j zs H5 => zs = ((src.take j).map (ren x y)).map V.str ∧ Same H4 H5 ∧ H5 D1 = some (.lst zs)) ⟨rfl, Same.new hD1, upd_same⟩ ?_ ?_
      · rintro zs H5 ⟨rfl, s5, hD5⟩
        rw [List.take_of_length_le (Nat.le_refl _)] at hD5
        refine ⟨⟨_, SqT.of (s5 q2 _ hq2), by rw [List.length_map]; exact Nat.le_refl _⟩, ?_⟩
        have s25 := s24.trans s5
        obtain ⟨s0, sr, rfl, sr8⟩ := hsrc
        have hf5 := s25 fa _ hf2
        refine ⟨_, rfl, .inl ⟨rfl, _, SqL.of hf5⟩, _, rfl, D1, _, _, _, rfl, rfl, SqL.of hD5, atI_nat (j := 0) rfl, _, rfl, _, rfl, D1, _, rfl, SqL.of hD5, fun m hm => ⟨m, _, rfl, .inl ⟨SqL.of upd_same, fun q8 hq8 => ?_⟩⟩⟩
        have ec : cutV (((s0 :: sr).map (ren x y)).map V.str) (some 1) none = (sr.map (ren x y)).map V.str := cutV_drop _ 1
        rw [ec] at hq8 ⊢
        have s6 : Same H5 (upd (upd H5 m (.lst ((sr.map (ren x y)).map V.str))) q8 (.tup ((sr.map (ren x y)).map V.str))) := (Same.new hm).trans (Same.new hq8)
        have k8 : (upd (upd H5 m (.lst ((sr.map (ren x y)).map V.str))) q8 (.tup ((sr.map (ren x y)).map V.str))) q8 = some (.tup ((sr.map (ren x y)).map V.str)) := upd_same
        generalize upd (upd H5 m (.lst ((sr.map (ren x y)).map V.str))) q8 (.tup ((sr.map (ren x y)).map V.str)) = H6 at s6 k8
        have s26 := s25.trans s6
        have hf6 := s26 fa _ hf2
        have hyl : ys.length ≤ 8 := by
          have := dy.length
          rw [List.length_map] at this
          omega
        refine ⟨by show 2 ≤ sizeLine; decide, fun q9 hq9 => ⟨fa, ys, .ref q9, rfl, rfl, by rw [upd_ne (ne_of_none hf6 hq9)]; exact hf6, by omega, ?_⟩⟩
        have fq : q9 ≠ fa := fun z => by rw [z, hf6] at hq9; cases hq9
        have tu : Tups H2 (upd (upd H6 q9 (.tup [.str (ren x y s0), .ref q8])) fa (.lst (ys ++ [.ref q9]))) := fun c us ec => by
          have e6 := s26 c _ ec
          rw [upd_ne (ne_of ec hf2 (fun z => nomatch z)), upd_ne (ne_of_none e6 hq9)]
          exact e6
        refine ⟨g ++ [(ren x y s0, sr.map (ren x y))], ys ++ [.ref q9], _, _, _, rfl, by rw [List.length_append, hg]; rfl, fun r hr' => ?_, upd_same, ?_, fun b o eb => ?_⟩
        · rcases List.mem_append.mp hr' with h | h
          · exact gr r h
          · rw [List.mem_singleton.mp h]
            exact ⟨by rw [List.length_map]; exact sr8, tren _ List.mem_cons_self, fun e he => tren e (List.mem_cons_of_mem _ he)⟩
        · rw [List.map_append]
          refine (dy.mono tu).append (.cons (K01.Dp.row (e := q8) ?_ ?_) .nil)
          · rw [upd_ne fq, upd_same]
          · rw [upd_ne (fun z => by rw [z, hf6] at k8; cases k8), upd_ne (ne_of_none k8 hq9)]
            exact k8
        · have e2 := s2 b o eb
          have e6 := s26 b o e2
          rw [upd_ne (ne_of_none eb hfa), upd_ne (ne_of_none e6 hq9)]
          exact e6
      · rintro j zs H5 hj ⟨rfl, s5, hD5⟩
        have ej : (src.map V.str)[j]? = some (.str src[j]) := by rw [List.getElem?_map, List.getElem?_eq_getElem hj]; rfl
        refine ⟨⟨_, _, SqT.of (s5 q2 _ hq2), ej⟩, ?_⟩
        rintro z H6 ⟨rfl, yy⟩ σo ho
        obtain ⟨o, rfl⟩ := own1 ho
        have ez := yy _ (SqT.of (s5 q2 _ hq2))
        rw [ej] at ez
        cases ez
        have hat : atI [V.str src[j], V.str y] (if decide (V.str src[j] = V.str x) = true then 1 else 0) = some (.str (ren x y src[j])) := by
          unfold ren
          split
          · exact atI_nat (j := 1) rfl
          · exact atI_nat (j := 0) rfl
        refine ⟨⟨[_], rfl, rfl⟩, yes_by ⟨_, rfl, _, rfl, by show 2 ≤ sizeLine; decide, fun L hL => ⟨_, rfl, _, rfl, rfl, .inr ⟨_, rfl, L, _, _, _, rfl, rfl, SqL.of upd_same, hat, by rw [List.length_map, List.length_map, List.length_take]; omega, by rw [upd_ne (ne_of_none hD5 hL)]; exact hD5, less_by hj ⟨?_, fun b o e' => ?_, upd_same⟩⟩⟩⟩⟩
        · rw [take_snoc hj, List.map_append, List.map_append]
          rfl
        · rw [upd_ne (ne_of_none e' hD1)]
          exact Same.new hL b o (s5 b o e')
    · rintro σ H2 ⟨g, ys, v4, v5, v6, rfl, hg, gr, hf2, dy, s2⟩
      refine ⟨_, rfl, fa, _, rfl, .inl ⟨SqL.of hf2, fun q hq => ?_⟩⟩
      exact k (.ref q) (famT g) _ (L2.Dp.tup upd_same (dy.mono (Same.tups (Same.new hq)))) (famThT (n := 8) (m := 8) (k := 13) (by omega) gr (by decide) (by decide)) (s2.trans (Same.new hq))
end
end K01
end
section
set_option autoImplicit false
namespace K01
open PySem PyProof.Rows L2
theorem ixN_nat {n i : Nat} (h : i < n) : ixN n (i : Int) = some i := by
  unfold ixN
  simp
  omega
theorem DpLset {H : Hp} {t : T} {v : V} : ∀ {ts : List T} {xs : List V} (i : Nat), DpL H ts xs → Dp H t v → DpL H (ts.set i t) (xs.set i v)
  | [], xs, i, h, d => by
    rw [h.of_nil]
    exact .nil
  | t0 :: ts, xs, 0, h, d => by
    obtain ⟨x, r, rfl, h1, h2⟩ := h.cases
    exact .cons d h2
  | t0 :: ts, xs, i + 1, h, d => by
    obtain ⟨x, r, rfl, h1, h2⟩ := h.cases
    exact .cons h1 (DpLset i h2 d)
section
variable {P : Program} {w : World} {K : PySem.W.Frag} {mg : Str → Option Value} {base : Heap} {t : Adr}
def spRinged : Sp := fun vs H Q _ => ∃ (v : V) (f : Fam) (a m : Int), vs = [v, .int a, .int m] ∧ Dp H (famT f) v ∧ GoodF f ∧ 0 ≤ a ∧ a < 100 ∧ 1 ≤ m ∧ m ≤ 8 ∧ ∀ (u : V) (tr : T) H', Dp H' tr u → ThT tr → Same H H' → Q u H'
theorem ok_ringed (D : Defs K mg t) : FnOk P w K mg base CX0 1 t._law_ringed.1 t._law_ringed.2 ["_law_family_here", "_law_first", "_law_many"] spRinged := by
  have hz : sizeLine = 16777216 := sizeLine_eq
  refine D._law_ringed.fn.ok sc__law_ringed (fun vs H Q E h => ?_) (fun cdv A outer s H vs Q E hr h => ?_)
  · obtain ⟨v, f, x, y, rfl, _⟩ := h
    rfl
  · obtain ⟨v, f, a0, m, rfl, dv, gf, a00, a100, m1, m8, k⟩ := h
    have f8 := gf.len
    have f1 := gf.pos
    refine ⟨_, (pss_cons (ps_set (i := 3) sc__law_ringed.nd rfl (Or.inl rfl) (pe_callTy call_list_of (by rfl) D.b_list bt_list (pa_cons (pv 0) pa_nil)))
      (pss_cons (ps_for PassesOwn.never rfl (pi_range1 rfl D.b_range (pa_cons (pv 2) pa_nil)) (pg_name (i := 4) sc__law_ringed.nd rfl (Or.inl rfl))
      (pss_cons (ps_set (i := 5) sc__law_ringed.nd rfl (Or.inl rfl) (pe_op op_mod (pe_op op_add (pv 1) (pv 4)) (pe_callB call_len_seq (by rfl) D.b_len bt_len (pa_cons (pv 3) pa_nil))))
      (pss_cons (ps_set (i := 6) sc__law_ringed.nd rfl (Or.inl rfl) (pe_ix ix_tup (pe_ix ix_list (pv 3) (pe_op op_mod (pe_op op_add (pv 1) (pe_op op_mod (pe_op op_add (pv 4) pe_int) (pv 2))) (pe_callB call_len_seq (by rfl) D.b_len bt_len (pa_cons (pv 3) pa_nil))) (fun _ _ => rfl)) pe_int (fun _ _ => rfl)))
      (pss_cons (ps_asg (pe_ix ix_list (pv 3) (pv 5) (fun _ _ => rfl)) (pg_tup rfl (pgs_cons (pg_name (i := 7) sc__law_ringed.nd rfl (Or.inl rfl)) (pgs_cons (pg_name (i := 8) sc__law_ringed.nd rfl (Or.inl rfl)) pgs_nil))))
      (pss_one (ps_if (pt_cmpR op_notIn_seq (pv 6) (pv 8) (by with_unfolding_all rfl))
      (pss_one (ps_asg (pe_tup (pa_cons (pv 7) (pa_cons (pe_op op_catN (pe_tup (pa_cons (pv 6) pa_nil)) (pv 8)) pa_nil))) (pg_sub (pv 3) (pv 5) set_list)))
      pss_nil))))))
      (pss_one (ps_ret (pe_callTy call_tuple_of (by rfl) D.b_tuple bt_tuple (pa_cons (pv 3) pa_nil)))))), ?_⟩
    obtain ⟨a, xs, rfl, ha, dl⟩ := L2.Dp.of_tup dv
    have hxl : xs.length = f.length := by have := dl.length; rwa [List.length_map] at this
    refine ⟨_, rfl, a, _, rfl, .inr (SqT.of ha), fun rl hrl => ?_⟩
    have s1 : Same H (upd H rl (.lst xs)) := Same.new hrl
    refine ⟨_, rfl, m, rfl, by omega, by omega, for_range (lo := 0) (n := m.toNat) (fun i σ H2 => ∃ (g : Fam) (ys : List V) (v4 v5 v6 v7 v8 : Option V), σ = [some (.ref a), some (.int a0), some (.int m), some (.ref rl), v4, v5, v6, v7, v8] ∧ g.length = f.length ∧ (∀ r ∈ g, r.2.length ≤ 8 + i ∧ Tx 6 r.1 ∧ ∀ e ∈ r.2, Tx 6 e) ∧ H2 rl = some (.lst ys) ∧ DpL H2 (g.map rowT) ys ∧ Same H H2)
      ⟨f, xs, _, _, _, _, _, rfl, rfl, K01.GoodF.rows gf, upd_same, dl.mono (Same.tups s1), s1⟩ ?_ ?_⟩
    · rintro i σ H2 hi ⟨g, ys, v4, v5, v6, v7, v8, rfl, hg, gr, hr2, dy, s2⟩
      have hyl : ys.length = f.length := by
        have := dy.length
        rw [List.length_map] at this
        omega
      have hyi : (0 : Int) < (ys.length : Int) := by omega
      refine ⟨_, rfl, _, rfl, _, _, rfl, rfl, _, rfl, rl, _, rfl, .inl (SqL.of hr2), _, _, rfl, rfl, hyi, ?_⟩
      have at0 := Int.emod_nonneg (a0 + (0 + (i : Int))) (show (ys.length : Int) ≠ 0 by omega)
      have at1 := Int.emod_lt_of_pos (a0 + (0 + (i : Int))) hyi
      obtain ⟨A, eA⟩ : ∃ A : Int, A = (a0 + (0 + (i : Int))) % (ys.length : Int) := ⟨_, rfl⟩
      have ct0 := Int.emod_nonneg (a0 + (0 + (i : Int) + 1) % m) (show (ys.length : Int) ≠ 0 by omega)
      have ct1 := Int.emod_lt_of_pos (a0 + (0 + (i : Int) + 1) % m) hyi
      obtain ⟨C, eC⟩ : ∃ C : Int, C = (a0 + (0 + (i : Int) + 1) % m) % (ys.length : Int) := ⟨_, rfl⟩
      rw [← eA] at at0 at1
      rw [← eC] at ct0 ct1
      have hA : A.toNat < g.length := by omega
      have hC : C.toNat < g.length := by omega
      have zA : ((A.toNat : Nat) : Int) = A := Int.toNat_of_nonneg at0
      have zC : ((C.toNat : Nat) : Int) = C := Int.toNat_of_nonneg ct0
      obtain ⟨yC, eyC, dC⟩ := dy.get (i := C.toNat) (t := rowT g[C.toNat]) (by rw [List.getElem?_map, List.getElem?_eq_getElem hC]; rfl)
      obtain ⟨qC, fC, rfl, hqC, hfC⟩ := K01.Dp.of_row dC
      obtain ⟨yA, eyA, dA⟩ := dy.get (i := A.toNat) (t := rowT g[A.toNat]) (by rw [List.getElem?_map, List.getElem?_eq_getElem hA]; rfl)
      obtain ⟨qA, fA, rfl, hqA, hfA⟩ := K01.Dp.of_row dA
      have iC : atI ys C = some (.ref qC) := by rw [← zC]; exact atI_nat eyC
      have iA : atI ys A = some (.ref qA) := by rw [← zA]; exact atI_nat eyA
      rw [eC] at iC
      rw [eA] at iA
      refine ⟨_, rfl, _, rfl, _, rfl, _, _, rfl, rfl, _, rfl, _, _, rfl, rfl, (by omega : (0 : Int) < m), _, _, rfl, rfl, _, rfl, rl, _, rfl, .inl (SqL.of hr2), _, _, rfl, rfl, hyi, ?_⟩
      refine ⟨rl, ys, _, _, rfl, rfl, SqL.of hr2, iC, qC, _, _, _, rfl, rfl, SqT.of hqC, atI_nat (j := 0) rfl, ?_⟩
      refine ⟨_, rfl, _, rfl, rl, ys, _, _, rfl, rfl, SqL.of hr2, iA, qA, _, rfl, SqT.of hqA, rfl, _, _, rfl, _, _, rfl, rfl, ?_⟩
      obtain ⟨gA1, gA2, gA3⟩ := gr g[A.toNat] (List.getElem_mem hA)
      obtain ⟨_, gC2, _⟩ := gr g[C.toNat] (List.getElem_mem hC)
      refine ⟨_, rfl, _, rfl, fA, _, rfl, .inr (SqT.of hfA), rfl, flat_strs _, _, rfl, ite2 (fun hb => ?_) (fun hb => ?_)⟩
      · refine ⟨_, rfl, _, rfl, by show 1 ≤ sizeLine; decide, fun q5 hq5 => ?_⟩
        have s3 : Same H2 (upd H2 q5 (.tup [.str (g[C.toNat]).1])) := Same.new hq5
        have k5 : (upd H2 q5 (.tup [.str (g[C.toNat]).1])) q5 = some (.tup [.str (g[C.toNat]).1]) := upd_same
        generalize upd H2 q5 (.tup [.str (g[C.toNat]).1]) = H3 at s3 k5
        refine ⟨_, rfl, q5, fA, _, _, rfl, rfl, k5, s3 fA _ hfA, by rw [List.length_map]; show 1 + _ ≤ _; omega, fun q6 H4 hq6 s4 => ?_⟩
        have s24 := s3.trans s4
        refine ⟨by show 2 ≤ sizeLine; decide, fun q7 hq7 => ?_⟩
        have hr4 := s24 rl _ hr2
        have ixA : ixN ys.length ((a0 + (0 + (i : Int))) % (ys.length : Int)) = some A.toNat := by
          rw [← eA, ← zA, Int.toNat_natCast]
          exact ixN_nat (by omega)
        refine ⟨_, rfl, _, rfl, rl, ys, _, A.toNat, rfl, rfl, by rw [upd_ne (ne_of_none hr4 hq7)]; exact hr4, ixA, ?_⟩
        have qr : q7 ≠ rl := fun z => by rw [z, hr4] at hq7; cases hq7
        have tu : Tups H2 (upd (upd H4 q7 (.tup [.str (g[A.toNat]).1, .ref q6])) rl (.lst (ys.set A.toNat (.ref q7)))) := fun c us ec => by
          have e6 := s24 c _ ec
          rw [upd_ne (ne_of ec hr2 (fun z => nomatch z)), upd_ne (ne_of_none e6 hq7)]
          exact e6
        refine ⟨g.set A.toNat ((g[A.toNat]).1, (g[C.toNat]).1 :: (g[A.toNat]).2), _, _, _, _, _, _, rfl, by rw [List.length_set]; exact hg, fun r hr' => ?_, upd_same, ?_, fun b o eb => ?_⟩
        · rcases List.mem_or_eq_of_mem_set hr' with h | h
          · obtain ⟨x1, x2, x3⟩ := gr r h
            exact ⟨by omega, x2, x3⟩
          · rw [h]
            exact ⟨by rw [List.length_cons]; omega, gA2, fun e he => (List.mem_cons.mp he).elim (fun z => z ▸ gC2) (gA3 e)⟩
        · rw [List.map_set]
          refine DpLset A.toNat (dy.mono tu) (K01.Dp.row (e := q6) ?_ ?_)
          · rw [upd_ne qr, upd_same]
          · rw [upd_ne (fun z => by rw [z, hr4] at hq6; cases hq6), upd_ne (ne_of_none hq6 hq7)]
            exact hq6
        · have e6 := s24 b o (s2 b o eb)
          rw [upd_ne (ne_of_none eb hrl), upd_ne (ne_of_none e6 hq7)]
          exact e6
      · exact ⟨g, ys, _, _, _, _, _, rfl, hg, fun r hr' => ⟨by have := (gr r hr').1; omega, (gr r hr').2⟩, hr2, dy, s2⟩
    · rintro σ H2 ⟨g, ys, v4, v5, v6, v7, v8, rfl, hg, gr, hr2, dy, s2⟩
      refine ⟨_, rfl, rl, _, rfl, .inl ⟨SqL.of hr2, fun q hq => ?_⟩⟩
      exact k (.ref q) (famT g) _ (L2.Dp.tup upd_same (dy.mono (Same.tups (Same.new hq)))) (famThT (n := 8) (m := 16) (k := 6) (by omega) (fun r hr' => ⟨by have := (gr r hr').1; omega, (gr r hr').2⟩) (by decide) (by decide)) (s2.trans (Same.new hq))
end
end K01
end
section
set_option autoImplicit false
namespace K01
open PySem PyProof.Rows L2
theorem n3S (es : List Str) : n3A (es.map PyData.str) = true := by rw [← toDA_strs]; exact n3A_toD _
theorem ThT.th {tr : T} (h : ThT tr) : Th (toD tr) := ⟨h.g, by have := h.w; omega, by have := h.dp; omega, fun _ => noL_toD tr⟩
theorem GoodF.wt {f : Fam} (gf : GoodF f) : wt (toD (famT f)) ≤ 521 := by
  obtain ⟨_, b, _⟩ := rows_wt (K01.GoodF.rows gf) (by decide)
  have hm : f.length * (6 + 3 + 8 * (6 + 1)) ≤ 8 * (6 + 3 + 8 * (6 + 1)) := Nat.mul_le_mul_right _ gf.len
  rw [toD_fam, L2.wt]
  omega
theorem put_th {f : Fam} (gf : GoodF f) {d d' : PyData} (pr : PutR (famT f) d d') (g : gd d) (hw : wt d ≤ 1300) (hd : d.depth ≤ 40) (nl : d.hasDict = true → noL d = true) : Th d' := by
  have t := K01.GoodF.thT gf
  have w1 := K01.GoodF.wt gf
  have w2 := pr.w
  have d1 := t.dp
  have d2 := pr.dp
  exact ⟨pr.g t.g g, by omega, by omega, by rw [pr.hd, pr.nl]; exact nl⟩
theorem row_gd {f : Fam} (gf : GoodF f) {r : Str × List Str} (hr : r ∈ f) : gd (.str r.1) ∧ gdA (r.2.map PyData.str) ∧ wtA (r.2.map PyData.str) ≤ 56 ∧ r.1.length ≤ 6 ∧ PyData.depthAll (r.2.map PyData.str) = 0 := by
  obtain ⟨r8, rt, re⟩ := K01.GoodF.rows gf r hr
  obtain ⟨a, b, c⟩ := strs_wt re (by decide)
  have := Nat.mul_le_mul_right (6 + 1) r8
  refine ⟨?_, a, by omega, rt.1, c⟩
  rw [gd]
  exact ⟨by have := rt.1; omega, rt.2⟩
section
variable {P : Program} {w : World} {K : PySem.W.Frag} {mg : Str → Option Value} {base : Heap} {t : Adr}
def spRowBent : Sp := fun vs H Q _ => ∃ (p : Addr) (v : V) (f : Fam) (i : Nat), vs = [.ref p, v, .int i] ∧ Pu H p ∧ Dp H (famT f) v ∧ GoodF f ∧ i < f.length ∧ ∀ (u : V) (d : PyData) H', RdV H' u d → Th d → n3 d = true → Off p H H' → Pu H' p → Q u H'
theorem ok_rowBent (D : Defs K mg t) : FnOk P w K mg base CX0 6 t._law_row_bent.1 t._law_row_bent.2 ["_law_purse_here", "_law_family_here", "_law_k"] spRowBent := by
  have G__law_take : FnOk P w K mg base CX0 1 t._law_take.1 t._law_take.2 _ spTake := ok_take D
  have G__law_put : FnOk P w K mg base CX0 5 t._law_put.1 t._law_put.2 _ (spPut 4) := ok_put D 4
  have hz : sizeLine = 16777216 := sizeLine_eq
  refine D._law_row_bent.fn.ok sc__law_row_bent (fun vs H Q E h => ?_) (fun cdv A outer s H vs Q E hr h => ?_)
  · obtain ⟨p, v, f, i, rfl, _⟩ := h
    rfl
  · obtain ⟨p, v, f, i, rfl, hp, dv, gf, hi, k⟩ := h
    have f8 := gf.len
    have f1 := gf.pos
    have w521 := K01.GoodF.wt gf
    refine ⟨_, (pss_cons (ps_set (i := 3) sc__law_row_bent.nd rfl (Or.inl rfl) (pe_callF D._law_take G__law_take (hr.mono (by omega)) (by rfl) (pa_cons (pv 0) (pa_cons pe_int pa_nil))))
      (pss_cons (ps_asg (pe_ix ix_tup (pv 1) (pv 2) (fun _ _ => rfl)) (pg_tup rfl (pgs_cons (pg_name (i := 4) sc__law_row_bent.nd rfl (Or.inl rfl)) (pgs_cons (pg_name (i := 5) sc__law_row_bent.nd rfl (Or.inl rfl)) pgs_nil))))
      (pss_cons (ps_if (pt_cmpR op_eq (pv 3) pe_int (nomark _))
      (pss_cons (ps_set (i := 6) sc__law_row_bent.nd rfl (Or.inl rfl) (pe_callF D._law_take G__law_take (hr.mono (by omega)) (by rfl) (pa_cons (pv 0) (pa_cons (pe_op op_add (pe_callB call_len_seq (by rfl) D.b_len bt_len (pa_cons (pv 1) pa_nil)) pe_int) pa_nil))))
      (pss_one (ps_ret (pe_op op_catN (pe_op op_catN (pe_slice sl_tupW (pv 1) po_none (po_some (pv 6))) (pe_tup (pa_cons (pe_ix ix_tup (pv 1) (pv 2) (fun _ _ => rfl)) pa_nil))) (pe_slice sl_tupW (pv 1) (po_some (pv 6)) po_none)))))
      pss_nil)
      (pss_cons (ps_if (pt_cmpR op_eq (pv 3) pe_int (nomark _))
      (pss_one (ps_ret (pe_op op_catN (pe_slice sl_tupW (pv 1) po_none (po_some (pv 2))) (pe_slice sl_tupW (pv 1) (po_some (pe_op op_add (pv 2) pe_int)) po_none))))
      pss_nil)
      (pss_cons (ps_if (pt_cmpR op_eq (pv 3) pe_int (nomark _))
      (pss_one (ps_ret (pe_callF D._law_put G__law_put (hr.mono (by omega)) (by rfl) (pa_cons (pv 1) (pa_cons (pe_tup (pa_cons (pv 2) pa_nil)) (pa_cons (pe_tup (pa_cons (pv 4) (pa_cons (pv 5) (pa_cons (pv 5) pa_nil)))) pa_nil))))))
      pss_nil)
      (pss_cons (ps_if (pt_cmpR op_eq (pv 3) pe_int (nomark _))
      (pss_one (ps_ret (pe_callF D._law_put G__law_put (hr.mono (by omega)) (by rfl) (pa_cons (pv 1) (pa_cons (pe_tup (pa_cons (pv 2) pa_nil)) (pa_cons (pe_tup (pa_cons (pv 4) pa_nil)) pa_nil))))))
      pss_nil)
      (pss_cons (ps_if (pt_cmpR op_eq (pv 3) pe_int (nomark _))
      (pss_one (ps_ret (pe_callF D._law_put G__law_put (hr.mono (by omega)) (by rfl) (pa_cons (pv 1) (pa_cons (pe_tup (pa_cons (pv 2) (pa_cons pe_int pa_nil))) (pa_cons (pe_ix ix_tup (pe_ix ix_tup (pv 1) (pe_callF D._law_take G__law_take (hr.mono (by omega)) (by rfl) (pa_cons (pv 0) (pa_cons (pe_callB call_len_seq (by rfl) D.b_len bt_len (pa_cons (pv 1) pa_nil)) pa_nil))) (fun _ _ => rfl)) pe_int (fun _ _ => rfl)) pa_nil))))))
      pss_nil)
      (pss_one (ps_ret (pe_callF D._law_put G__law_put (hr.mono (by omega)) (by rfl) (pa_cons (pv 1) (pa_cons (pe_tup (pa_cons (pv 2) (pa_cons pe_int pa_nil))) (pa_cons (pe_slTR (pv 5) (pe_un un_neg pe_int)) pa_nil))))))))))))), ?_⟩
    obtain ⟨a, xs, rfl, ha, dl⟩ := L2.Dp.of_tup dv
    have hxl : xs.length = f.length := by have := dl.length; rwa [List.length_map] at this
    refine ⟨_, rfl, p, 6, rfl, hp, by decide, by decide, fun r1 a1 b1 c1 l1 u1 => ?_⟩
    have o1 : Off p H (upd H p (.lst [.int a1, .int b1, .int c1])) := Off.upd
    have p1 : Pu (upd H p (.lst [.int a1, .int b1, .int c1])) p := Pu.upd
    have t1 := offT hp o1
    generalize upd H p (.lst [.int a1, .int b1, .int c1]) = H1 at o1 p1 t1
    have ha1 := t1 a _ ha
    have dl1 := dl.mono t1
    have dv1 : Dp H1 (famT f) (.ref a) := L2.Dp.tup ha1 dl1
    obtain ⟨y, ey, dy⟩ := dl1.get (i := i) (t := rowT f[i]) (by rw [List.getElem?_map, List.getElem?_eq_getElem hi]; rfl)
    obtain ⟨q, e, rfl, hq, he⟩ := K01.Dp.of_row dy
    have hri := List.getElem_mem hi
    obtain ⟨gs, ga, wa, sl, d0⟩ := row_gd gf hri
    have r8 := gf.el _ hri
    have okk : ∀ ws, OkW (rowT f[i]) ws → OkW (famT f) (i :: ws) := fun ws h => ⟨by rw [List.length_map]; exact hi, by rw [List.getElem_map]; exact h⟩
    refine ⟨_, rfl, _, rfl, a, xs, i, _, rfl, rfl, SqT.of ha1, atI_nat ey, q, _, rfl, SqT.of hq, rfl, _, _, rfl, _, _, rfl, rfl, ?_⟩
    refine ⟨_, rfl, rfl, _, rfl, ite2 (fun hb => ?_) (fun hb => ?_)⟩
    · refine ⟨_, rfl, _, rfl, a, _, rfl, .inr (SqT.of ha1), _, _, rfl, rfl, p, _, rfl, p1, by omega, by omega, fun r2 a2 b2 c2 l2 u2 => ?_⟩
      have o2 : Off p H (upd H1 p (.lst [.int a2, .int b2, .int c2])) := o1.trans Off.upd
      have p2 : Pu (upd H1 p (.lst [.int a2, .int b2, .int c2])) p := Pu.upd
      have t2 := offT hp o2
      generalize upd H1 p (.lst [.int a2, .int b2, .int c2]) = H2 at o2 p2 t2
      have ha2 := t2 a _ ha
      have e2 : ((r2.toNat : Nat) : Int) = r2 := Int.toNat_of_nonneg l2
      have ct : cutV xs none (some r2) = xs.take r2.toNat := by rw [← e2, cutV_take, Int.toNat_natCast]
      have cd : cutV xs (some r2) none = xs.drop r2.toNat := by rw [← e2, cutV_drop, Int.toNat_natCast]
      refine ⟨_, rfl, _, rfl, r2, rfl, a, xs, rfl, ha2, fun q3 H3 hq3 s3 => ?_⟩
      refine ⟨_, rfl, _, rfl, a, xs, i, _, rfl, rfl, SqT.of (s3 a _ ha2), atI_nat ey, by show 1 ≤ sizeLine; decide, fun q4 hq4 => ?_⟩
      have s4 : Same H3 (upd H3 q4 (.tup [.ref q])) := Same.new hq4
      have k4 : (upd H3 q4 (.tup [.ref q])) q4 = some (.tup [.ref q]) := upd_same
      generalize upd H3 q4 (.tup [.ref q]) = H4 at s4 k4
      refine ⟨q3, q4, _, _, rfl, rfl, s4 q3 _ hq3, k4, by have := cutV_length xs none (some r2); show _ + 1 ≤ _; omega, fun q5 H5 hq5 s5 => ?_⟩
      refine ⟨_, rfl, _, rfl, r2, rfl, a, xs, rfl, s5 a _ (s4 a _ (s3 a _ ha2)), fun q6 H6 hq6 s6 => ?_⟩
      refine ⟨q5, q6, _, _, rfl, rfl, s6 q5 _ hq5, hq6, by have := cutV_length xs none (some r2); have := cutV_length xs (some r2) none; rw [List.length_append]; show _ + 1 + _ ≤ _; omega, fun q7 H7 hq7 s7 => ?_⟩
      have s27 : Same H2 H7 := (((s3.trans s4).trans s5).trans s6).trans s7
      rw [ct, cd] at hq7
      have dd := dl.mono (t2.trans (Same.tups s27))
      have key : DpL H7 ((f.take r2.toNat ++ [f[i]] ++ f.drop r2.toNat).map rowT) (xs.take r2.toNat ++ [.ref q] ++ xs.drop r2.toNat) := by
        rw [List.map_append, List.map_append, List.map_take, List.map_drop]
        refine ((DpL.take' _ dd).append (.cons ?_ .nil)).append (DpL.drop' _ dd)
        obtain ⟨y2, ey2, dy2⟩ := dd.get (i := i) (t := rowT f[i]) (by rw [List.getElem?_map, List.getElem?_eq_getElem hi]; rfl)
        rw [ey] at ey2
        cases ey2
        exact dy2
      refine k (.ref q7) _ H7 (L2.Dp.rd (L2.Dp.tup hq7 key)) (ThT.th (famThT (n := 9) (m := 8) (k := 6) ?_ (fun r hr' => K01.GoodF.rows gf r ?_) (by decide) (by decide))) (n3_toD _) (o2.trans s27.off) (p2.same s27)
      · rw [List.length_append, List.length_append, List.length_take, List.length_drop]
        show _ + 1 + _ ≤ 9
        omega
      · rcases List.mem_append.mp hr' with h | h
        · rcases List.mem_append.mp h with h | h
          · exact List.mem_of_mem_take h
          · rw [List.mem_singleton.mp h]
            exact hri
        · exact List.mem_of_mem_drop h
    refine ⟨_, rfl, rfl, _, rfl, ite2 (fun hb1 => ?_) (fun hb1 => ?_)⟩
    · refine ⟨_, rfl, _, rfl, i, rfl, a, xs, rfl, ha1, fun q3 H3 hq3 s3 => ?_⟩
      refine ⟨_, rfl, _, rfl, _, _, rfl, rfl, _, rfl, a, xs, rfl, s3 a _ ha1, fun q6 H6 hq6 s6 => ?_⟩
      refine ⟨q3, q6, _, _, rfl, rfl, s6 q3 _ hq3, hq6, by have := cutV_length xs none (some (i : Int)); have := cutV_length xs (some ((i : Int) + 1)) none; omega, fun q7 H7 hq7 s7 => ?_⟩
      have s17 : Same H1 H7 := (s3.trans s6).trans s7
      have cd : cutV xs (some ((i : Int) + 1)) none = xs.drop (i + 1) := cutV_drop xs (i + 1)
      rw [cutV_take, cd] at hq7
      have dd := dl1.mono (Same.tups s17)
      have key : DpL H7 ((f.take i ++ f.drop (i + 1)).map rowT) (xs.take i ++ xs.drop (i + 1)) := by
        rw [List.map_append, List.map_take, List.map_drop]
        exact (DpL.take' _ dd).append (DpL.drop' _ dd)
      refine k (.ref q7) _ H7 (L2.Dp.rd (L2.Dp.tup hq7 key)) (ThT.th (famThT (n := 8) (m := 8) (k := 6) ?_ (fun r hr' => K01.GoodF.rows gf r ?_) (by decide) (by decide))) (n3_toD _) (o1.trans s17.off) (p1.same s17)
      · rw [List.length_append, List.length_take, List.length_drop]
        omega
      · rcases List.mem_append.mp hr' with h | h
        · exact List.mem_of_mem_take h
        · exact List.mem_of_mem_drop h
    refine ⟨_, rfl, rfl, _, rfl, ite2 (fun hb2 => ?_) (fun hb2 => ?_)⟩
    · refine ⟨_, rfl, _, rfl, by show 1 ≤ sizeLine; decide, fun q3 hq3 => ?_⟩
      have s3 : Same H1 (upd H1 q3 (.tup [.int i])) := Same.new hq3
      have k3 : (upd H1 q3 (.tup [.int i])) q3 = some (.tup [.int i]) := upd_same
      generalize upd H1 q3 (.tup [.int i]) = H3 at s3 k3
      refine ⟨_, rfl, _, rfl, _, rfl, by show 3 ≤ sizeLine; decide, fun q4 hq4 => ?_⟩
      have s4 : Same H3 (upd H3 q4 (.tup [.str (f[i]).1, .ref e, .ref e])) := Same.new hq4
      have k4 : (upd H3 q4 (.tup [.str (f[i]).1, .ref e, .ref e])) q4 = some (.tup [.str (f[i]).1, .ref e, .ref e]) := upd_same
      generalize upd H3 q4 (.tup [.str (f[i]).1, .ref e, .ref e]) = H4 at s4 k4
      have s14 := s3.trans s4
      have re : RdV H4 (.ref e) (.tuple ((f[i]).2.map .str)) := .tup (s14 e _ he) (RdA.strs _ _)
      refine ⟨.ref a, .ref q3, .ref q4, famT f, [i], _, rfl, dv1.mono (Same.tups s14), L2.Dp.tup (s4 q3 _ k3) (.cons (L2.Dp.int _) .nil), by show 1 < 4; decide, okk [] (by rw [OkW] <;> simp), by omega, .tup k4 (.cons (.str _) (.cons re (.cons re .nil))), fun u d' H5 ru pr s5 => ?_⟩
      have s15 := s14.trans s5
      refine k u d' H5 ru (put_th gf pr ?_ ?_ ?_ (fun h => ?_)) (by rw [pr.n3]; simp [n3, n3A, n3S]) (o1.trans s15.off) (p1.same s15)
      · simp only [gd, gdA]
        rw [gd] at gs
        exact ⟨gs, ga, ga, trivial⟩
      · simp only [wt, wtA]
        omega
      · simp only [PyData.depth, PyData.depthAll, d0]
        omega
      · have hh : ∀ es : List Str, PyData.hasDictAll (es.map PyData.str) = false := fun es => by rw [← toDA_strs]; exact hasDictA_toD _
        simp [PyData.hasDict, PyData.hasDictAll, hh] at h
    have hh : ∀ es : List Str, PyData.hasDictAll (es.map PyData.str) = false := fun es => by rw [← toDA_strs]; exact hasDictA_toD _
    refine ⟨_, rfl, rfl, _, rfl, ite2 (fun hb3 => ?_) (fun hb3 => ?_)⟩
    · refine ⟨_, rfl, _, rfl, by show 1 ≤ sizeLine; decide, fun q3 hq3 => ?_⟩
      have s3 : Same H1 (upd H1 q3 (.tup [.int i])) := Same.new hq3
      have k3 : (upd H1 q3 (.tup [.int i])) q3 = some (.tup [.int i]) := upd_same
      generalize upd H1 q3 (.tup [.int i]) = H3 at s3 k3
      refine ⟨_, rfl, by show 1 ≤ sizeLine; decide, fun q4 hq4 => ?_⟩
      have s4 : Same H3 (upd H3 q4 (.tup [.str (f[i]).1])) := Same.new hq4
      have k4 : (upd H3 q4 (.tup [.str (f[i]).1])) q4 = some (.tup [.str (f[i]).1]) := upd_same
      generalize upd H3 q4 (.tup [.str (f[i]).1]) = H4 at s4 k4
      have s14 := s3.trans s4
      refine ⟨.ref a, .ref q3, .ref q4, famT f, [i], _, rfl, dv1.mono (Same.tups s14), L2.Dp.tup (s4 q3 _ k3) (.cons (L2.Dp.int _) .nil), by show 1 < 4; decide, okk [] (by rw [OkW] <;> simp), by omega, .tup k4 (.cons (.str _) .nil), fun u d' H5 ru pr s5 => ?_⟩
      have s15 := s14.trans s5
      refine k u d' H5 ru (put_th gf pr ?_ ?_ ?_ (fun h => ?_)) (by rw [pr.n3]; simp [n3, n3A, n3S]) (o1.trans s15.off) (p1.same s15)
      · simp only [gd, gdA]
        rw [gd] at gs
        exact ⟨gs, trivial⟩
      · simp only [wt, wtA]
        omega
      · simp only [PyData.depth, PyData.depthAll]
        omega
      · simp [PyData.hasDict, PyData.hasDictAll] at h
    refine ⟨_, rfl, rfl, _, rfl, ite2 (fun hb4 => ?_) (fun hb4 => ?_)⟩
    · refine ⟨_, rfl, _, rfl, by show 2 ≤ sizeLine; decide, fun q3 hq3 => ?_⟩
      have s3 : Same H1 (upd H1 q3 (.tup [.int i, .int 0])) := Same.new hq3
      have k3 : (upd H1 q3 (.tup [.int i, .int 0])) q3 = some (.tup [.int i, .int 0]) := upd_same
      generalize upd H1 q3 (.tup [.int i, .int 0]) = H3 at s3 k3
      have p3 := p1.same s3
      refine ⟨_, rfl, _, rfl, _, rfl, a, _, rfl, .inr (SqT.of (s3 a _ ha1)), p, _, rfl, p3, by omega, by omega, fun r2 a2 b2 c2 l2 u2 => ?_⟩
      have o4 : Off p H3 (upd H3 p (.lst [.int a2, .int b2, .int c2])) := Off.upd
      have p4 : Pu (upd H3 p (.lst [.int a2, .int b2, .int c2])) p := Pu.upd
      have t4 := offT p3 o4
      generalize upd H3 p (.lst [.int a2, .int b2, .int c2]) = H4 at o4 p4 t4
      have e2 : ((r2.toNat : Nat) : Int) = r2 := Int.toNat_of_nonneg l2
      have h2 : r2.toNat < f.length := by omega
      have t14 := (Same.tups s3).trans t4
      obtain ⟨y2, ey2, dy2⟩ := (dl1.mono t14).get (i := r2.toNat) (t := rowT f[r2.toNat]) (by rw [List.getElem?_map, List.getElem?_eq_getElem h2]; rfl)
      obtain ⟨qq, e', rfl, hqq, _⟩ := K01.Dp.of_row dy2
      obtain ⟨gs2, _, _, sl2, _⟩ := row_gd gf (List.getElem_mem h2)
      refine ⟨a, xs, r2, _, rfl, rfl, SqT.of (t14 a _ ha1), by rw [← e2]; exact atI_nat ey2, qq, _, _, _, rfl, rfl, SqT.of hqq, atI_nat (j := 0) rfl, ?_⟩
      refine ⟨.ref a, .ref q3, _, famT f, [i, 0], _, rfl, dv1.mono t14, L2.Dp.tup (t4 q3 _ k3) (.cons (L2.Dp.int _) (.cons (L2.Dp.int _) .nil)), by show 2 < 4; decide, okk _ ⟨by show 0 < 2; decide, by rw [OkW] <;> simp⟩, by omega, .str _, fun u d' H5 ru pr s5 => ?_⟩
      refine k u d' H5 ru (put_th gf pr gs2 ?_ (Nat.zero_le _) (fun h => ?_)) (by rw [pr.n3]; simp [n3]) (((o1.trans s3.off).trans o4).trans s5.off) (p4.same s5)
      · simp only [wt]
        omega
      · simp [PyData.hasDict] at h
    · refine ⟨_, rfl, _, rfl, by show 2 ≤ sizeLine; decide, fun q3 hq3 => ?_⟩
      have s3 : Same H1 (upd H1 q3 (.tup [.int i, .int 1])) := Same.new hq3
      have k3 : (upd H1 q3 (.tup [.int i, .int 1])) q3 = some (.tup [.int i, .int 1]) := upd_same
      generalize upd H1 q3 (.tup [.int i, .int 1]) = H3 at s3 k3
      refine ⟨_, rfl, _, rfl, e, _, rfl, rfl, s3 e _ he, fun q4 hq4 => ?_⟩
      rw [← List.map_reverse]
      have s4 : Same H3 (upd H3 q4 (.tup ((f[i]).2.reverse.map V.str))) := Same.new hq4
      have k4 : (upd H3 q4 (.tup ((f[i]).2.reverse.map V.str))) q4 = some (.tup ((f[i]).2.reverse.map V.str)) := upd_same
      generalize upd H3 q4 (.tup ((f[i]).2.reverse.map V.str)) = H4 at s4 k4
      have s14 := s3.trans s4
      refine ⟨.ref a, .ref q3, .ref q4, famT f, [i, 1], .tuple ((f[i]).2.reverse.map .str), rfl, dv1.mono (Same.tups s14), L2.Dp.tup (s4 q3 _ k3) (.cons (L2.Dp.int _) (.cons (L2.Dp.int _) .nil)), by show 2 < 4; decide, okk _ ⟨by show 1 < 2; decide, by rw [OkW] <;> simp⟩, by omega, .tup k4 (RdA.strs _ _), fun u d' H5 ru pr s5 => ?_⟩
      have s15 := s14.trans s5
      obtain ⟨_, _, re⟩ := K01.GoodF.rows gf _ hri
      obtain ⟨ra, rb, rc⟩ := strs_wt (es := (f[i]).2.reverse) (fun e he => re e (List.mem_reverse.mp he)) (by decide)
      rw [List.length_reverse] at rb
      refine k u d' H5 ru (put_th gf pr ?_ ?_ ?_ (fun h => ?_)) (by rw [pr.n3, n3]; exact n3S _) (o1.trans s15.off) (p1.same s15)
      · rw [gd]
        exact ra
      · rw [wt]
        omega
      · rw [PyData.depth, rc]
        decide
      · rw [PyData.hasDict, hh] at h
        cases h
end
end K01
end
section
set_option autoImplicit false
namespace K01
open PySem PyProof.Rows L2
theorem iteBoth {A B : Prop} {b : Bool} (h1 : b = true → B → A) (h2 : B) : if b = true then A else B := by
  cases b with
  | true => exact h1 rfl h2
  | false => exact h2
theorem iteF_inv {A B : Prop} (h : if false = true then A else B) : B := h
section
variable {P : Program} {w : World} {K : PySem.W.Frag} {mg : Str → Option Value} {base : Heap} {t : Adr}
def spBent : Sp := fun vs H Q _ => ∃ (p : Addr), vs = [.ref p] ∧ Pu H p ∧ ∀ (u : V) (d : PyData) H', RdV H' u d → Th d → n3 d = true → Off p H H' → Pu H' p → Q u H'
theorem ok_bent (D : Defs K mg t) : FnOk P w K mg base CX0 7 t._law_bent.1 t._law_bent.2 ["_law_purse_here"] spBent := by
  have G__law_take : FnOk P w K mg base CX0 1 t._law_take.1 t._law_take.2 _ spTake := ok_take D
  have G__law_family : FnOk P w K mg base CX0 4 t._law_family.1 t._law_family.2 _ spFamily := ok_family D
  have G__law_put : FnOk P w K mg base CX0 5 t._law_put.1 t._law_put.2 _ (spPut 4) := ok_put D 4
  have G__law_renamed : FnOk P w K mg base CX0 1 t._law_renamed.1 t._law_renamed.2 _ spRenamed := ok_renamed D
  have G__law_badly : FnOk P w K mg base CX0 2 t._law_badly.1 t._law_badly.2 _ spBadly := ok_badly D
  have G__law_ringed : FnOk P w K mg base CX0 1 t._law_ringed.1 t._law_ringed.2 _ spRinged := ok_ringed D
  have G__law_row_bent : FnOk P w K mg base CX0 6 t._law_row_bent.1 t._law_row_bent.2 _ spRowBent := ok_rowBent D
  have G__law_way : FnOk P w K mg base CX0 2 t._law_way.1 t._law_way.2 _ spWay := ok_way D
  have G__law_part : FnOk P w K mg base CX0 1 t._law_part.1 t._law_part.2 _ spPart := ok_part D
  have G__law_any : FnOk P w K mg base CX0 2 t._law_any.1 t._law_any.2 _ spAny := ok_any D
  have hz : sizeLine = 16777216 := sizeLine_eq
  refine D._law_bent.fn.ok sc__law_bent (fun vs H Q E h => ?_) (fun cdv A outer s H vs Q E hr h => ?_)
  · obtain ⟨p, rfl, _⟩ := h
    rfl
  · obtain ⟨p, rfl, hp, k⟩ := h
    refine ⟨_, (pss_cons (ps_set (i := 1) sc__law_bent.nd rfl (Or.inl rfl) (pe_callF D._law_take G__law_take (hr.mono (by omega)) (by rfl) (pa_cons (pv 0) (pa_cons pe_int pa_nil))))
      (pss_cons (ps_set (i := 2) sc__law_bent.nd rfl (Or.inl rfl) (pe_callF D._law_family G__law_family (hr.mono (by omega)) (by rfl) (pa_cons (pv 0) (pa_cons pe_int pa_nil))))
      (pss_cons (ps_set (i := 3) sc__law_bent.nd rfl (Or.inl rfl) (pe_callF D._law_take G__law_take (hr.mono (by omega)) (by rfl) (pa_cons (pv 0) (pa_cons (pe_callB call_len_seq (by rfl) D.b_len bt_len (pa_cons (pv 2) pa_nil)) pa_nil))))
      (pss_cons (ps_asg (pe_ix ix_tup (pv 2) (pv 3) (fun _ _ => rfl)) (pg_tup rfl (pgs_cons (pg_name (i := 4) sc__law_bent.nd rfl (Or.inl rfl)) (pgs_cons (pg_name (i := 5) sc__law_bent.nd rfl (Or.inl rfl)) pgs_nil))))
      (pss_cons (ps_if (pt_cmpR op_eq (pv 1) pe_int (nomark _))
      (pss_cons (ps_set (i := 6) sc__law_bent.nd rfl (Or.inl rfl) (pe_callF D._law_take G__law_take (hr.mono (by omega)) (by rfl) (pa_cons (pv 0) (pa_cons (pe_op op_add (pe_callB call_len_seq (by rfl) D.b_len bt_len (pa_cons (pv 5) pa_nil)) pe_int) pa_nil))))
      (pss_cons (ps_set (i := 7) sc__law_bent.nd rfl (Or.inl rfl) (pe_ix ix_tup (pe_ix ix_tup (pv 2) (pe_callF D._law_take G__law_take (hr.mono (by omega)) (by rfl) (pa_cons (pv 0) (pa_cons (pe_callB call_len_seq (by rfl) D.b_len bt_len (pa_cons (pv 2) pa_nil)) pa_nil))) (fun _ _ => rfl)) pe_int (fun _ _ => rfl)))
      (pss_one (ps_ret (pe_callF D._law_put G__law_put (hr.mono (by omega)) (by rfl) (pa_cons (pv 2) (pa_cons (pe_tup (pa_cons (pv 3) (pa_cons pe_int pa_nil))) (pa_cons (pe_op op_catN (pe_op op_catN (pe_slice sl_tupW (pv 5) po_none (po_some (pv 6))) (pe_tup (pa_cons (pv 7) pa_nil))) (pe_slice sl_tupW (pv 5) (po_some (pv 6)) po_none)) pa_nil))))))))
      pss_nil)
      (pss_cons (ps_if (pt_cmpR op_eq (pv 1) pe_int (nomark _))
      (pss_one (ps_ret (pe_callF D._law_renamed G__law_renamed (hr.mono (by omega)) (by rfl) (pa_cons (pv 2) (pa_cons (pv 4) (pa_cons (pe_callF D._law_badly G__law_badly (hr.mono (by omega)) (by rfl) (pa_cons (pv 0) (pa_cons (pv 4) pa_nil))) pa_nil))))))
      pss_nil)
      (pss_cons (ps_if (PW.pt (pw_and (pt_cmpR op_eq (pv 1) pe_int (nomark _)) (pw_and1 (pt_cmpR op_gt (pe_callB call_len_seq (by rfl) D.b_len bt_len (pa_cons (pv 5) pa_nil)) pe_int (nomark _)))))
      (pss_cons (ps_set (i := 6) sc__law_bent.nd rfl (Or.inl rfl) (pe_callF D._law_take G__law_take (hr.mono (by omega)) (by rfl) (pa_cons (pv 0) (pa_cons (pe_callB call_len_seq (by rfl) D.b_len bt_len (pa_cons (pv 5) pa_nil)) pa_nil))))
      (pss_one (ps_ret (pe_callF D._law_put G__law_put (hr.mono (by omega)) (by rfl) (pa_cons (pv 2) (pa_cons (pe_tup (pa_cons (pv 3) (pa_cons pe_int (pa_cons (pv 6) pa_nil)))) (pa_cons (pe_callF D._law_badly G__law_badly (hr.mono (by omega)) (by rfl) (pa_cons (pv 0) (pa_cons (pe_ix ix_tup (pv 5) (pv 6) (fun _ _ => rfl)) pa_nil))) pa_nil)))))))
      pss_nil)
      (pss_cons (ps_if (pt_cmpR op_eq (pv 1) pe_int (nomark _))
      (pss_one (ps_ret (pe_callF D._law_ringed G__law_ringed (hr.mono (by omega)) (by rfl) (pa_cons (pv 2) (pa_cons (pv 3) (pa_cons (pe_op op_add pe_int (pe_callF D._law_take G__law_take (hr.mono (by omega)) (by rfl) (pa_cons (pv 0) (pa_cons (pe_callB call_len_seq (by rfl) D.b_len bt_len (pa_cons (pv 2) pa_nil)) pa_nil)))) pa_nil))))))
      pss_nil)
      (pss_cons (ps_if (pt_cmpR op_eq (pv 1) pe_int (nomark _))
      (pss_one (ps_ret (pe_callF D._law_row_bent G__law_row_bent (hr.mono (by omega)) (by rfl) (pa_cons (pv 0) (pa_cons (pv 2) (pa_cons (pv 3) pa_nil))))))
      pss_nil)
      (pss_cons (ps_if (pt_cmpR op_lt (pv 1) pe_int (nomark _))
      (pss_cons (ps_set (i := 8) sc__law_bent.nd rfl (Or.inl rfl) (pe_callF D._law_way G__law_way (hr.mono (by omega)) (by rfl) (pa_cons (pv 0) (pa_cons (pv 2) pa_nil))))
      (pss_cons (ps_set (i := 9) sc__law_bent.nd rfl (Or.inl rfl) (pe_callF D._law_part G__law_part (hr.mono (by omega)) (by rfl) (pa_cons (pv 2) (pa_cons (pv 8) pa_nil))))
      (pss_cons (ps_if (PW.pt (pw_and (pt_cmpR op_eq (pv 1) pe_int (nomark _)) (pw_and1 (pt_val (pe_callB call_isinst (by rfl) D.b_isinstance bt_isinstance (pa_cons (pv 9) (pa_cons (pe_bltn (v := V.ty "tuple") rfl D.b_tuple bt_tuple rfl) pa_nil)))))))
      (pss_one (ps_ret (pe_callF D._law_put G__law_put (hr.mono (by omega)) (by rfl) (pa_cons (pv 2) (pa_cons (pv 8) (pa_cons (pe_callTy call_list_of (by rfl) D.b_list bt_list (pa_cons (pv 9) pa_nil)) pa_nil))))))
      pss_nil)
      (pss_one (ps_ret (pe_callF D._law_put G__law_put (hr.mono (by omega)) (by rfl) (pa_cons (pv 2) (pa_cons (pv 8) (pa_cons (pe_callF D._law_any G__law_any (hr.mono (by omega)) (by rfl) (pa_cons (pv 0) (pa_cons (pv 9) pa_nil))) pa_nil)))))))))
      pss_nil)
      (pss_one (ps_ret (pv 2))))))))))))), ?_⟩
    refine ⟨_, rfl, p, 9, rfl, hp, by decide, by decide, fun r1 a1 b1 c1 l1 u1 => ?_⟩
    refine ⟨_, rfl, p, 8, rfl, Pu.upd, by decide, by decide, fun v f H1 dv gf fl o1 p1 => ?_⟩
    have oH1 : Off p H H1 := Off.upd.trans o1
    have f8 := gf.len
    have f1 := gf.pos
    have w521 := K01.GoodF.wt gf
    have thf := K01.GoodF.thT gf
    obtain ⟨a, xs, rfl, ha, dl⟩ := L2.Dp.of_tup dv
    have hxl : xs.length = f.length := by have := dl.length; rwa [List.length_map] at this
    refine ⟨_, rfl, _, rfl, a, _, rfl, .inr (SqT.of ha), p, _, rfl, p1, by omega, by omega, fun r2 a2 b2 c2 l2 u2 => ?_⟩
    have o2 : Off p H (upd H1 p (.lst [.int a2, .int b2, .int c2])) := oH1.trans Off.upd
    have p2 : Pu (upd H1 p (.lst [.int a2, .int b2, .int c2])) p := Pu.upd
    have t2 : Tups H1 (upd H1 p (.lst [.int a2, .int b2, .int c2])) := offT p1 Off.upd
    generalize upd H1 p (.lst [.int a2, .int b2, .int c2]) = H2 at o2 p2 t2
    have ha2 := t2 a _ ha
    have dl2 := dl.mono t2
    have dv2 : Dp H2 (famT f) (.ref a) := L2.Dp.tup ha2 dl2
    obtain ⟨i, rfl⟩ : ∃ i : Nat, r2 = i := ⟨r2.toNat, (Int.toNat_of_nonneg l2).symm⟩
    have hi : i < f.length := by omega
    obtain ⟨y, ey, dy⟩ := dl2.get (i := i) (t := rowT f[i]) (by rw [List.getElem?_map, List.getElem?_eq_getElem hi]; rfl)
    obtain ⟨q, e, rfl, hq, he⟩ := K01.Dp.of_row dy
    have hri := List.getElem_mem hi
    obtain ⟨gs, ga, wa, sl, d0⟩ := row_gd gf hri
    have r8 := gf.el _ hri
    have nmk : Nm (f[i]).1 := gf.lw _ (List.mem_map.mpr ⟨_, hri, rfl⟩)
    have nme : ∀ e ∈ (f[i]).2, Nm e := fun e he => gf.lw e (gf.sub _ hri e he)
    have hh : ∀ es : List Str, PyData.hasDictAll (es.map PyData.str) = false := fun es => by rw [← toDA_strs]; exact hasDictA_toD _
    have okk : ∀ ws, OkW (rowT f[i]) ws → OkW (famT f) (i :: ws) := fun ws h => ⟨by rw [List.length_map]; exact hi, by rw [List.getElem_map]; exact h⟩
    refine ⟨_, rfl, _, rfl, a, xs, i, _, rfl, rfl, SqT.of ha2, atI_nat ey, q, _, rfl, SqT.of hq, rfl, _, _, rfl, _, _, rfl, rfl, ?_⟩
    refine ⟨_, rfl, rfl, _, rfl, ite2 (fun hb => ?_) (fun hb => ?_)⟩
    · -- an elder more
      refine ⟨_, rfl, _, rfl, e, _, rfl, .inr (SqT.of he), _, _, rfl, rfl, p, _, rfl, p2, by rw [List.length_map]; omega, by rw [List.length_map]; omega, fun r3 a3 b3 c3 l3 u3 => ?_⟩
      rw [List.length_map] at u3
      have t3 : Tups H2 (upd H2 p (.lst [.int a3, .int b3, .int c3])) := offT p2 Off.upd
      refine ⟨_, rfl, _, rfl, _, rfl, a, _, rfl, .inr (SqT.of (t3 a _ ha2)), p, _, rfl, Pu.upd, by omega, by omega, fun r4 a4 b4 c4 l4 u4 => ?_⟩
      rw [upd_upd]
      have o4 : Off p H2 (upd H2 p (.lst [.int a4, .int b4, .int c4])) := Off.upd
      have p4 : Pu (upd H2 p (.lst [.int a4, .int b4, .int c4])) p := Pu.upd
      have t4 := offT p2 o4
      generalize upd H2 p (.lst [.int a4, .int b4, .int c4]) = H4 at o4 p4 t4
      have e4 : ((r4.toNat : Nat) : Int) = r4 := Int.toNat_of_nonneg l4
      have h4 : r4.toNat < f.length := by omega
      obtain ⟨y2, ey2, dy2⟩ := (dl2.mono t4).get (i := r4.toNat) (t := rowT f[r4.toNat]) (by rw [List.getElem?_map, List.getElem?_eq_getElem h4]; rfl)
      obtain ⟨qq, e', rfl, hqq, _⟩ := K01.Dp.of_row dy2
      have nmo : Nm (f[r4.toNat]).1 := gf.lw _ (List.mem_map.mpr ⟨_, List.getElem_mem h4, rfl⟩)
      generalize (f[r4.toNat]).1 = ot at hqq nmo
      refine ⟨a, xs, r4, _, rfl, rfl, SqT.of (t4 a _ ha2), by rw [← e4]; exact atI_nat ey2, qq, _, _, _, rfl, rfl, SqT.of hqq, atI_nat (j := 0) rfl, ?_⟩
      refine ⟨_, rfl, _, rfl, by show 2 ≤ sizeLine; decide, fun q5 hq5 => ?_⟩
      have s5 : Same H4 (upd H4 q5 (.tup [.int i, .int 1])) := Same.new hq5
      have k5 : (upd H4 q5 (.tup [.int i, .int 1])) q5 = some (.tup [.int i, .int 1]) := upd_same
      generalize upd H4 q5 (.tup [.int i, .int 1]) = H5 at s5 k5
      have he5 := s5 e _ (t4 e _ he)
      have e3 : ((r3.toNat : Nat) : Int) = r3 := Int.toNat_of_nonneg l3
      refine ⟨_, rfl, _, rfl, r3, rfl, e, _, rfl, he5, fun q6 H6 hq6 s6 => ?_⟩
      refine ⟨_, rfl, by show 1 ≤ sizeLine; decide, fun q7 hq7 => ?_⟩
      have s7 : Same H6 (upd H6 q7 (.tup [.str ot])) := Same.new hq7
      have k7 : (upd H6 q7 (.tup [.str ot])) q7 = some (.tup [.str ot]) := upd_same
      generalize upd H6 q7 (.tup [.str ot]) = H7 at s7 k7
      have cl1 := cutV_length ((f[i]).2.map V.str) none (some r3)
      have cl2 := cutV_length ((f[i]).2.map V.str) (some r3) none
      rw [List.length_map] at cl1 cl2
      refine ⟨q6, q7, _, _, rfl, rfl, s7 q6 _ hq6, k7, by show _ + 1 ≤ _; omega, fun q8 H8 hq8 s8 => ?_⟩
      have s58 := (s6.trans s7).trans s8
      refine ⟨_, rfl, _, rfl, r3, rfl, e, _, rfl, s58 e _ he5, fun q9 H9 hq9 s9 => ?_⟩
      refine ⟨q8, q9, _, _, rfl, rfl, s9 q8 _ hq8, hq9, by rw [List.length_append]; show _ + 1 + _ ≤ _; omega, fun q10 H10 hq10 s10 => ?_⟩
      have ct : cutV ((f[i]).2.map V.str) none (some r3) = ((f[i]).2.take r3.toNat).map V.str := by rw [← e3, cutV_take, Int.toNat_natCast, List.map_take]
      have cd : cutV ((f[i]).2.map V.str) (some r3) none = ((f[i]).2.drop r3.toNat).map V.str := by rw [← e3, cutV_drop, Int.toNat_natCast, List.map_drop]
      have ee : ((f[i]).2.take r3.toNat).map V.str ++ [.str ot] ++ ((f[i]).2.drop r3.toNat).map V.str = ((f[i]).2.take r3.toNat ++ [ot] ++ (f[i]).2.drop r3.toNat).map V.str := by rw [List.map_append, List.map_append]; rfl
      rw [ct, cd, ee] at hq10
      have s410 := ((s5.trans s58).trans s9).trans s10
      have t10 := t4.trans (Same.tups s410)
      refine ⟨.ref a, .ref q5, .ref q10, famT f, [i, 1], .tuple (((f[i]).2.take r3.toNat ++ [ot] ++ (f[i]).2.drop r3.toNat).map .str), rfl, dv2.mono t10, L2.Dp.tup (((s58.trans s9).trans s10) q5 _ k5) (.cons (L2.Dp.int _) (.cons (L2.Dp.int _) .nil)), by show 2 < 4; decide, okk _ ⟨by show 1 < 2; decide, by rw [OkW] <;> simp⟩, by omega, .tup hq10 (RdA.strs _ _), fun u d' H11 ru pr s11 => ?_⟩
      have s411 := s410.trans s11
      obtain ⟨ra, rb, rc⟩ := strs_wt (k := 6) (es := (f[i]).2.take r3.toNat ++ [ot] ++ (f[i]).2.drop r3.toNat) (fun x hx => K01.Nm.tx (by
        rcases List.mem_append.mp hx with h | h
        · rcases List.mem_append.mp h with h | h
          · exact nme x (List.mem_of_mem_take h)
          · rw [List.mem_singleton.mp h]
            exact nmo
        · exact nme x (List.mem_of_mem_drop h))) (by decide)
      have el : ((f[i]).2.take r3.toNat ++ [ot] ++ (f[i]).2.drop r3.toNat).length ≤ 9 := by
        rw [List.length_append, List.length_append, List.length_take, List.length_drop]
        show _ + 1 + _ ≤ 9
        omega
      have := Nat.mul_le_mul_right (6 + 1) el
      refine k u d' H11 ru (put_th gf pr ?_ ?_ ?_ (fun h => ?_)) (by rw [pr.n3, n3]; exact n3S _) ((o2.trans o4).trans s411.off) (p4.same s411)
      · rw [gd]
        exact ra
      · rw [wt]
        omega
      · rw [PyData.depth, rc]
        decide
      · rw [PyData.hasDict, hh] at h
        cases h
    refine ⟨_, rfl, rfl, _, rfl, ite2 (fun hb1 => ?_) (fun hb1 => ?_)⟩
    · -- called otherwise
      refine ⟨_, rfl, _, rfl, _, rfl, _, rfl, p, _, rfl, p2, nmk, fun z H3 zl za o3 p3 => ?_⟩
      refine ⟨.ref a, f, _, z, rfl, dv2.mono (offT p2 o3), gf, ⟨zl, za⟩, fun u tr H4 du th s4 => ?_⟩
      exact k u _ H4 (L2.Dp.rd du) th.th (n3_toD _) ((o2.trans o3).trans s4.off) (p3.same s4)
    refine ⟨_, rfl, rfl, _, rfl, iteBoth (fun hb2 rest => ?_) (iteF ?_)⟩
    · refine ⟨_, rfl, e, _, rfl, .inr (SqT.of he), _, _, rfl, rfl, _, rfl, ite2 (fun hb3 => ?_) (fun _ => iteF_inv rest)⟩
      have hb3 : ((((f[i]).2.map V.str).length : Nat) : Int) > 0 := of_decide_eq_true hb3
      rw [List.length_map] at hb3
      refine ⟨_, rfl, _, rfl, e, _, rfl, .inr (SqT.of he), p, _, rfl, p2, by rw [List.length_map]; omega, by rw [List.length_map]; omega, fun r3 a3 b3 c3 l3 u3 => ?_⟩
      rw [List.length_map] at u3
      have o3 : Off p H2 (upd H2 p (.lst [.int a3, .int b3, .int c3])) := Off.upd
      have p3 : Pu (upd H2 p (.lst [.int a3, .int b3, .int c3])) p := Pu.upd
      have t3 := offT p2 o3
      generalize upd H2 p (.lst [.int a3, .int b3, .int c3]) = H3 at o3 p3 t3
      obtain ⟨x3, hx3, hm3, _⟩ := atI_strs (ns := (f[i]).2) l3 u3
      refine ⟨_, rfl, _, rfl, _, rfl, by show 3 ≤ sizeLine; decide, fun q5 hq5 => ?_⟩
      have s5 : Same H3 (upd H3 q5 (.tup [.int i, .int 1, .int r3])) := Same.new hq5
      have k5 : (upd H3 q5 (.tup [.int i, .int 1, .int r3])) q5 = some (.tup [.int i, .int 1, .int r3]) := upd_same
      generalize upd H3 q5 (.tup [.int i, .int 1, .int r3]) = H5 at s5 k5
      have p5 := p3.same s5
      refine ⟨_, rfl, _, rfl, _, rfl, e, _, _, _, rfl, rfl, SqT.of (s5 e _ (t3 e _ he)), hx3, p, x3, rfl, p5, nme x3 hm3, fun z H6 zl za o6 p6 => ?_⟩
      have t6 := offT p5 o6
      have t26 := (t3.trans (Same.tups s5)).trans t6
      refine ⟨.ref a, .ref q5, .str z, famT f, [i, 1, r3.toNat], .str z, rfl, dv2.mono t26, L2.Dp.tup (t6 q5 _ k5) (.cons (L2.Dp.int _) (.cons (L2.Dp.int _) (.cons (dpI l3) .nil))), by show 3 < 4; decide, okk _ ⟨by show 1 < 2; decide, by show r3.toNat < ((f[i]).2.map T.str).length; rw [List.length_map]; omega, by rw [OkW] <;> simp⟩, by omega, .str z, fun u d' H7 ru pr s7 => ?_⟩
      refine k u d' H7 ru (put_th gf pr ?_ ?_ (Nat.zero_le _) (fun h => ?_)) (by rw [pr.n3]; simp [n3]) ((((o2.trans o3).trans s5.off).trans o6).trans s7.off) (p6.same s7)
      · rw [gd]
        exact ⟨by omega, za⟩
      · rw [wt]
        omega
      · simp [PyData.hasDict] at h
    refine ⟨_, rfl, rfl, _, rfl, ite2 (fun hb3 => ?_) (fun hb3 => ?_)⟩
    · -- a ring
      refine ⟨_, rfl, _, rfl, _, rfl, _, rfl, a, _, rfl, .inr (SqT.of ha2), p, _, rfl, p2, by omega, by omega, fun r3 a3 b3 c3 l3 u3 => ?_⟩
      have o3 : Off p H2 (upd H2 p (.lst [.int a3, .int b3, .int c3])) := Off.upd
      have p3 : Pu (upd H2 p (.lst [.int a3, .int b3, .int c3])) p := Pu.upd
      have t3 := offT p2 o3
      generalize upd H2 p (.lst [.int a3, .int b3, .int c3]) = H3 at o3 p3 t3
      refine ⟨_, _, rfl, rfl, .ref a, f, _, _, rfl, dv2.mono t3, gf, by omega, by omega, by omega, by omega, fun u tr H4 du th s4 => ?_⟩
      exact k u _ H4 (L2.Dp.rd du) th.th (n3_toD _) ((o2.trans o3).trans s4.off) (p3.same s4)
    refine ⟨_, rfl, rfl, _, rfl, ite2 (fun hb4 => ?_) (fun hb4 => ?_)⟩
    · refine ⟨_, rfl, _, rfl, _, rfl, p, .ref a, f, i, rfl, p2, dv2, gf, hi, fun u d H4 ru th nn o4 p4 => ?_⟩
      exact k u d H4 ru th nn (o2.trans o4) p4
    refine ⟨_, rfl, _, _, rfl, rfl, _, rfl, ite2 (fun hb5 => ?_) (fun hb5 => ?_)⟩
    · refine ⟨_, rfl, _, rfl, p, .ref a, f, rfl, p2, dv2, gf, fun wv ws H3 dw okw wl o3 p3 => ?_⟩
      have dv3 := dv2.mono (offT p2 o3)
      refine ⟨_, rfl, _, rfl, .ref a, wv, famT f, ws, rfl, dv3, dw, okw, fun ov tu du g1 w1 d1 ni => ?_⟩
      have gtu := g1 thf.g
      have ru := L2.Dp.rd du
      refine ⟨_, rfl, rfl, _, rfl, iteBoth (fun hb6 rest => ?_) (iteF ?_)⟩
      · refine ⟨_, rfl, _, _, _, isTu (toD tu), rfl, ru.ty, kit_T K (toD tu), _, rfl, ?_⟩
        cases hb7 : isTu (toD tu) with
        | false => exact iteF (iteF_inv rest)
        | true =>
          cases tu with
          | non => rw [toD] at hb7; cases hb7
          | int _ => rw [toD] at hb7; cases hb7
          | str _ => rw [toD] at hb7; cases hb7
          | tup ts =>
            obtain ⟨oa, oxs, rfl, hoa, dol⟩ := L2.Dp.of_tup du
            refine iteT ⟨_, rfl, _, rfl, _, rfl, oa, oxs, rfl, .inr (SqT.of hoa), fun l4 hl4 => ?_⟩
            have s4 : Same H3 (upd H3 l4 (.lst oxs)) := Same.new hl4
            have k4 : (upd H3 l4 (.lst oxs)) l4 = some (.lst oxs) := upd_same
            generalize upd H3 l4 (.lst oxs) = H4 at s4 k4
            have nits : nIA ts = true := by
              have := ni (by unfold famT; rw [nI]; exact nI_rows f)
              rwa [nI] at this
            rw [toD, gd] at gtu
            rw [toD, wt] at w1
            rw [toD, PyData.depth] at d1
            have td := thf.dp
            refine ⟨.ref a, wv, .ref l4, famT f, ws, .list (toDA ts), rfl, dv3.mono (Same.tups s4), dw.mono (Same.tups s4), wl, okw, by omega, .lst k4 (L2.DpL.rd (dol.mono (Same.tups s4))), fun u d' H5 ru' pr s5 => ?_⟩
            have s45 := s4.trans s5
            refine k u d' H5 ru' (put_th gf pr ?_ ?_ ?_ (fun h => ?_)) ?_ ((o2.trans o3).trans s45.off) (p3.same s45)
            · rw [gd]
              exact gtu
            · rw [wt]
              omega
            · rw [PyData.depth]
              omega
            · rw [PyData.hasDict, hasDictA_toD] at h
              cases h
            · rw [pr.n3, n3, is3_of nits, n3A_toD]
              rfl
      · refine ⟨_, rfl, _, rfl, _, rfl, _, rfl, p, ov, tu, rfl, p3, du, gtu, fun nv d H4 rn ar o4 p4 => ?_⟩
        have t4 := offT p3 o4
        refine ⟨.ref a, wv, nv, famT f, ws, d, rfl, dv3.mono t4, dw.mono t4, wl, okw, by omega, rn, fun u d' H5 ru' pr s5 => ?_⟩
        have aw := ar.w
        have ad := ar.dp
        have td := thf.dp
        exact k u d' H5 ru' (put_th gf pr ar.g (by omega) (by omega) ar.nl) (by rw [pr.n3]; exact ar.n3) (((o2.trans o3).trans o4).trans s5.off) (p4.same s5)
    · exact ⟨_, rfl, k (.ref a) _ H2 (L2.Dp.rd dv2) thf.th (n3_toD _) o2 p2⟩
end
end K01
end
section
set_option autoImplicit false
namespace L2
open PySem PySem.Spec PyProof.Rows
def rEqSameL : R2 := fun x y H Q => ∃ (a b : Addr) (xs : List V), x = .ref a ∧ y = .ref b ∧ H a = some (.lst xs) ∧ H b = some (.lst xs) ∧ xs.all flatV = true ∧ Q (.bl true) H
theorem op_eqSameL {X : Cx} (hu : X.A.units < cLine) : OpR X (compareOp .Eq) rEqSameL := by
  intro pins s σ H x y v u Q I rx ry h
  obtain ⟨a, b, xs, rfl, rfl, ha, hb, hf, q⟩ := h
  cases rx
  cases ry
  obtain ⟨its, r, p, _⟩ := I.list (SqL.of (K := X.K) ha)
  obtain ⟨its2, r2, p2, _⟩ := I.list (SqL.of (K := X.K) hb)
  have l1 := r.length
  have l2 := r2.length
  have key := SeqAt.RcAt.lists (A := X.A) (s := s) (e := fun _ => true) p.isList p2.isList (by simp; omega) hu (fun j h1 h2 => by
    have h1' : j < its.length := by simpa using h1
    have j1 : j < xs.length := by omega
    have e1 : xs[j]? = some xs[j] := List.getElem?_eq_getElem j1
    obtain ⟨w1, k1, m1⟩ := r.get e1
    obtain ⟨w2, k2, m2⟩ := r2.get e1
    have n1 : its.toArray[j] = w1 := by
      have : its.toArray[j]? = some w1 := by simpa using k1
      rw [Array.getElem?_eq_getElem h1] at this
      exact Option.some.inj this
    have n2 : its2.toArray[j] = w2 := by
      have : its2.toArray[j]? = some w2 := by simpa using k2
      rw [Array.getElem?_eq_getElem h2] at this
      exact Option.some.inj this
    rw [n1, n2]
    have fj : flatV xs[j] = true := List.all_eq_true.mp hf _ (List.getElem_mem j1)
    have := eqAt_V (A := X.A.in1) (s := s) m1 m2 fj fj
    rw [eqV_self fj] at this
    exact this)
  have ee : ((List.range its.toArray.size).all (fun _ => true)) = true := by simp
  rw [ee] at key
  exact key X.prog X.w X.xe _ ⟨.bl _, H, I, rfl, q⟩
end L2
end
section
set_option autoImplicit false
namespace L2
open PySem PyProof.Rows
theorem bt_repr : bootBuiltins "repr" = some (.builtin "repr") := by decide +kernel
theorem call_isinst_K {X : Cx} {K : PySem.W.Frag} (h : X.K = K) : CallR X (.builtin "isinstance") (fun xs H Q => ∃ x n t b, xs = [x, .ty n] ∧ TyOf K H x t ∧ PySem.W.kitOne K t (.type n) = some b ∧ Q (.bl b) H) := by subst h; exact call_isinst
end L2
namespace K01
open PySem PyProof.Rows L2
theorem GoodF.isF {f : Fam} (gf : GoodF f) (h7 : f.length ≤ 7) : IsF (toD (famT f)) := by
  rw [toD_fam]
  refine ⟨f, rfl, gf.pos, h7, fun r hr => ⟨gf.lw _ (List.mem_map.mpr ⟨r, hr, rfl⟩), fun e he => gf.lw e (gf.sub r hr e he), gf.elnd r hr⟩, gf.nd, fun x hx => ?_⟩
  obtain ⟨top, t0, t1, t2⟩ := gf.topo
  have key : ∀ (j : Nat) (x : Str), top[j]? = some x → Pl f x := by
    intro j
    induction j using Nat.strongRecOn with
    | ind j ih =>
      intro x hj
      obtain ⟨r, hr, rfl⟩ := List.mem_map.mp ((t1 x).mp (List.mem_of_getElem? hj))
      refine .mk hr fun e he => ?_
      obtain ⟨j', h1, h2⟩ := t2 r hr
      have ej : j' = j := by
        obtain ⟨a1, b1⟩ := List.getElem?_eq_some_iff.mp h1
        obtain ⟨a2, b2⟩ := List.getElem?_eq_some_iff.mp hj
        exact (List.getElem_inj t0).mp (b1.trans b2.symm)
      obtain ⟨i, hi, ei⟩ := List.getElem_of_mem (h2 e he)
      rw [List.length_take] at hi
      rw [List.getElem_take] at ei
      exact ih i (by omega) e (by rw [← ei]; exact List.getElem?_eq_getElem _)
  obtain ⟨j, hj⟩ := List.mem_iff_getElem?.mp ((t1 x).mpr hx)
  exact key j x hj
theorem SqL.keep {K : PySem.W.Frag} {H H' : Hp} {a : Addr} {xs : List V} (h : SqL K H a xs) (k : ∀ o, H a = some o → H' a = some o) : SqL K H' a xs := by
  rcases h with (h | ⟨o, h⟩) | h
  · exact .inl (.inl (k _ h))
  · exact .inl (.inr ⟨o, k _ h⟩)
  · exact .inr h
section
variable {P : Program} {w : World} {K : PySem.W.Frag} {mg : Str → Option Value} {base : Heap} {t : Adr}
def spRight : Sp := fun vs H Q _ => ∃ (p : Addr), vs = [.ref p] ∧ Pu H p ∧ ∀ H', Off p H H' → Q (.bl true) H'
theorem ok_right (D : Defs K mg t) (GL : Glb mg) : FnOk P w K mg base CX0 8 t._law_right.1 t._law_right.2 ["_law_purse_here"] spRight := by
  have G__law_bent : FnOk P w K mg base CX0 7 t._law_bent.1 t._law_bent.2 _ spBent := ok_bent D
  have G__law_family : FnOk P w K mg base CX0 4 t._law_family.1 t._law_family.2 _ spFamily := ok_family D
  have G_is_family : FnOk P w K mg base CX0 3 t.is_family.1 t.is_family.2 _ spFam := ok_fam D GL
  have G__law_is : FnOk P w K mg base CX0 2 t._law_is.1 t._law_is.2 _ spFam := ok_is D
  have hz : sizeLine = 16777216 := sizeLine_eq
  refine D._law_right.fn.ok sc__law_right (fun vs H Q E h => ?_) (fun cdv A outer s H vs Q E hr h => ?_)
  · obtain ⟨p, rfl, _⟩ := h
    rfl
  · obtain ⟨p, rfl, hp, k⟩ := h
    refine ⟨_, (pss_cons (ps_set (i := 1) sc__law_right.nd rfl (Or.inl rfl) (pe_callF D._law_bent G__law_bent (hr.mono (by omega)) (by rfl) (pa_cons (pv 0) pa_nil)))
      (pss_cons (ps_set (i := 2) sc__law_right.nd rfl (Or.inl rfl) (pe_callB (call_repr hr) (by rfl) D.b_repr bt_repr (pa_cons (pv 1) pa_nil)))
      (pss_cons (ps_set (i := 3) sc__law_right.nd rfl (Or.inl rfl) (pe_callF D._law_family G__law_family (hr.mono (by omega)) (by rfl) (pa_cons (pv 0) (pa_cons pe_int pa_nil))))
      (pss_cons (ps_set (i := 4) sc__law_right.nd rfl (Or.inl rfl) (pe_lst (pa_cons (pe_callF D.is_family G_is_family (hr.mono (by omega)) (by rfl) (pa_cons (pv 1) pa_nil)) (pa_cons (pe_callF D.is_family G_is_family (hr.mono (by omega)) (by rfl) (pa_cons (pv 3) pa_nil)) (pa_cons (pe_callF D.is_family G_is_family (hr.mono (by omega)) (by rfl) (pa_cons (pv 1) pa_nil)) pa_nil)))))
      (pss_cons (ps_if (PW.pt (pw_or (pt_not (pt_val (pe_callB (call_all rfl) (by rfl) D.b_all bt_all (pa_cons (pe_comp rfl (CompScope.of ["_law_one"] [] ["_law_one"] (defScope (top 31)) ["_law_purse_here", "_law_thing", "_law_text", "_law_other", "_law_told", "_law_due"] rfl rfl (by decide +kernel)) ⟨fun _ _ _ _ _ => (pg_name (i := 0) (show List.Nodup [("_law_one" : Str)] by decide +kernel) rfl (Or.inl (lookup_relabel_local rfl)) (.inr (lookup_relabel_local rfl))), fun _ _ _ _ _ => pts_nil, fun _ _ _ _ _ => (pe_callB (call_isinst_K (K := K) rfl) (by rfl) D.b_isinstance bt_isinstance (pa_cons (pv 0) (pa_cons (pe_bltn (v := V.ty "bool") rfl D.b_bool bt_bool rfl) pa_nil)))⟩ (pi_list (pv 4))) pa_nil)))) (pw_or1 (pt_cmpR op_ne (pe_callB (call_repr hr) (by rfl) D.b_repr bt_repr (pa_cons (pv 1) pa_nil)) (pv 2) (nomark _)))))
      (pss_one (ps_ret pe_bl))
      pss_nil)
      (pss_cons (ps_set (i := 5) sc__law_right.nd rfl (Or.inl rfl) (pe_callF D._law_is G__law_is (hr.mono (by omega)) (by rfl) (pa_cons (pv 1) pa_nil)))
      (pss_one (ps_ret (pe_cmpR (op_eqSameL hr.units0) (pv 4) (pe_lst (pa_cons (pv 5) (pa_cons pe_bl (pa_cons (pv 5) pa_nil)))) (nomark _)))))))))), ?_⟩
    refine ⟨_, rfl, p, rfl, hp, fun u d H1 ru th nn o1 p1 => ?_⟩
    obtain ⟨sh, sz⟩ := gd_shown d th.g
    have tw := th.w
    have td := th.dp
    refine ⟨_, rfl, u, d, rfl, ru, sh, th.nl, by omega, by omega, ?_⟩
    refine ⟨_, rfl, p, 7, rfl, p1, by decide, by decide, fun v f H2 dv gf f7 o2 p2 => ?_⟩
    have ru2 := K01.RdV.off p1 o2 ru nn
    have tf := (K01.GoodF.thT gf).th
    refine ⟨_, rfl, u, d, rfl, ru2, th.g, th.w, fun H3 s3 => ?_⟩
    have dv3 := dv.mono (Same.tups s3)
    refine ⟨_, rfl, v, toD (famT f), rfl, L2.Dp.rd dv3, tf.g, tf.w, fun H4 s4 => ?_⟩
    rw [dcd_t (K01.GoodF.isF gf f7)]
    have s24 := s3.trans s4
    refine ⟨_, rfl, u, d, rfl, ru2.same' s24, th.g, th.w, fun H5 s5 => ?_⟩
    have s25 := s24.trans s5
    refine ⟨by show 3 ≤ sizeLine; decide, fun tl htl => ?_⟩
    obtain ⟨B, hB⟩ : ∃ B, B = dcd (IsF d) := ⟨_, rfl⟩
    have s6 : Same H5 (upd H5 tl (.lst [.bl B, .bl true, .bl B])) := Same.new htl
    have k6 : (upd H5 tl (.lst [.bl B, .bl true, .bl B])) tl = some (.lst [.bl B, .bl true, .bl B]) := upd_same
    rw [← hB]
    generalize upd H5 tl (.lst [.bl B, .bl true, .bl B]) = H6 at s6 k6
    have s26 := s25.trans s6
    refine ⟨_, rfl, tl, rfl, ⟨_, SqL.of k6⟩, fun Dd hD => ?_⟩
    refine comp_by (n := 3) (fun i ys H7 => ys = (List.replicate i true).map V.bl ∧ Same H6 H7 ∧ H7 Dd = some (.lst ys)) ⟨rfl, Same.new hD, upd_same⟩ ?_ ?_
    rotate_left
    · rintro i ys H7 hi ⟨rfl, s7, hD7⟩
      have hb : ∃ b, ([V.bl B, V.bl true, V.bl B])[i]? = some (.bl b) := by
        rcases (by omega : i = 0 ∨ i = 1 ∨ i = 2) with rfl | rfl | rfl
        · exact ⟨B, rfl⟩
        · exact ⟨true, rfl⟩
        · exact ⟨B, rfl⟩
      obtain ⟨b, eb⟩ := hb
      refine ⟨⟨_, _, SqL.of (s7 tl _ k6), eb⟩, ?_⟩
      rintro z H8 ⟨rfl, yy⟩ σo ho
      obtain ⟨o, rfl⟩ := own1 ho
      have ez := yy _ (SqL.of (s7 tl _ k6))
      rw [eb] at ez
      cases ez
      refine ⟨⟨[_], rfl, rfl⟩, yes_by ⟨_, rfl, _, _, _, true, rfl, .bl b, kit_same K "bool", by rw [List.length_map, List.length_replicate]; omega, hD7, less_by hi ⟨?_, fun b' o e' => ?_, upd_same⟩⟩⟩
      · rw [List.replicate_succ', List.map_append]
        rfl
      · rw [upd_ne (ne_of_none e' hD)]
        exact s7 b' o e'
    rintro ys H7 ⟨rfl, s7, hD7⟩
    refine ⟨⟨_, SqL.of (s7 tl _ k6), Nat.le_refl _⟩, Dd, List.replicate 3 true, rfl, SqL.of hD7, _, rfl, iteF ?_⟩
    have s27 := s26.trans s7
    refine ⟨_, rfl, u, d, rfl, ru2.same' s27, sh, th.nl, by omega, by omega, _, rfl, rfl, _, rfl, iteNeg (by rw [decide_eq_true rfl]; exact Bool.false_ne_true) ?_⟩
    refine ⟨_, rfl, u, d, rfl, ru2.same' s27, th.g, th.w, fun H8 s8 => ?_⟩
    rw [← hB]
    refine ⟨_, rfl, _, rfl, _, rfl, by show 3 ≤ sizeLine; decide, fun dl hdl => ?_⟩
    refine ⟨tl, dl, [.bl B, .bl true, .bl B], rfl, rfl, Same.new hdl tl _ (s8 tl _ (s7 tl _ k6)), upd_same, rfl, ?_⟩
    exact k _ (((o1.trans o2).trans (s27.trans s8).off).trans (Off.new hdl))
def spLaw (K : PySem.W.Frag) : Sp := fun vs H Q _ => ∃ (a : Addr) (ns : List Int), vs = [.ref a] ∧ SqL K H a (ns.map V.int) ∧ ns.length ≤ 63 ∧ ∀ H', Q (.bl true) H'
theorem ok_law (D : Defs K mg t) (GL : Glb mg) : FnOk P w K mg base CX0 9 t.law.1 t.law.2 ["_law_script"] (spLaw K) := by
  have G__law_purse : FnOk P w K mg base CX0 1 t._law_purse.1 t._law_purse.2 _ spPurse := ok_purse D
  have G__law_cell : FnOk P w K mg base CX0 1 t._law_cell.1 t._law_cell.2 _ (spCell K) := ok_cell D
  have G__law_right : FnOk P w K mg base CX0 8 t._law_right.1 t._law_right.2 _ spRight := ok_right D GL
  have hz : sizeLine = 16777216 := sizeLine_eq
  refine D.law.fn.ok sc_law (fun vs H Q E h => ?_) (fun cdv A outer s H vs Q E hr h => ?_)
  · obtain ⟨a, ns, rfl, _⟩ := h
    rfl
  · obtain ⟨a, ns, rfl, hS, hl, k⟩ := h
    refine ⟨_, (pss_one (ps_ret (pe_callB (call_all rfl) (by rfl) D.b_all bt_all (pa_cons (pe_comp rfl (CompScope.of ["_law_k"] [0] ["_law_k", "_law_script"] (defScope (top 32)) ["_law_script"] rfl rfl (by decide +kernel)) ⟨fun _ _ _ _ _ => (pg_name (i := 0) (show List.Nodup [("_law_k" : Str), ("_law_script" : Str)] by decide +kernel) rfl (Or.inl (lookup_relabel_local rfl)) (.inr (lookup_relabel_local rfl))), fun _ _ _ _ _ => pts_nil, fun _ _ _ _ _ => (pe_callF D._law_right G__law_right (hr.mono (by omega)) (by rfl) (pa_cons (pe_callF D._law_purse G__law_purse (hr.mono (by omega)) (by rfl) (pa_cons (pe_callF D._law_cell G__law_cell (hr.mono (by omega)) (by rfl) (pa_cons (pv 1) (pa_cons (pv 0) pa_nil))) pa_nil)) pa_nil))⟩ (pi_range1 rfl D.b_range (pa_cons (pe_callB (call_max2 rfl) (by rfl) D.b_max bt_max (pa_cons pe_int (pa_cons (pe_callB (call_min2 rfl) (by rfl) D.b_min bt_min (pa_cons (pe_callB call_len_seq (by rfl) D.b_len bt_len (pa_cons (pv 0) pa_nil)) (pa_cons pe_int pa_nil))) pa_nil))) pa_nil))) pa_nil)))), ?_⟩
    refine ⟨_, rfl, a, _, rfl, .inl hS, _, _, rfl, _, _, rfl, _, rfl, ?_, ?_, fun Dd hD => ?_⟩
    · split <;> split <;> omega
    · rw [List.length_map]
      split <;> split <;> omega
    have hN : ∃ N : Nat, (if (if (6 : Int) < ((ns.map V.int).length : Int) then (6 : Int) else ((ns.map V.int).length : Int)) > 1 then (if (6 : Int) < ((ns.map V.int).length : Int) then (6 : Int) else ((ns.map V.int).length : Int)) else 1).toNat = N ∧ N ≤ 6 := by
      refine ⟨_, rfl, ?_⟩
      split <;> split <;> omega
    obtain ⟨N, eN, hN⟩ := hN
    refine comp_by (n := N) (fun i ys H2 => ys = (List.replicate i true).map V.bl ∧ H2 Dd = some (.lst ys) ∧ ∀ o, H a = some o → H2 a = some o) ⟨rfl, upd_same, fun o e => by rw [upd_ne (ne_of_none e hD)]; exact e⟩ ?_ ?_
    · rintro ys H2 ⟨rfl, hD2, ka⟩
      refine ⟨by show _ ≤ N; exact Nat.le_of_eq eN, Dd, List.replicate N true, rfl, SqL.of hD2, ?_⟩
      rw [show (List.replicate N true).all id = true by rw [List.all_eq_true]; intro b hb; exact List.eq_of_mem_replicate hb]
      exact k H2
    · rintro i ys H2 hi ⟨rfl, hD2, ka⟩
      refine ⟨by show i < _; omega, ?_⟩
      rintro x H3 ⟨rfl, rfl⟩ σo ho
      obtain ⟨o, rfl⟩ := own1 ho
      refine ⟨⟨[_], rfl, rfl⟩, yes_by ⟨_, rfl, _, rfl, a, ns, _, rfl, K01.SqL.keep hS ka, hl, by omega, by omega, fun n H4 s4 => ⟨n, rfl, fun p a1 b1 c1 hp => ⟨p, rfl, Pu.upd, fun H5 o5 => ?_⟩⟩⟩⟩
      have hD4 := s4 Dd _ hD2
      have Dp' : Dd ≠ p := ne_of_none hD4 hp
      refine ⟨by rw [List.length_map, List.length_replicate]; omega, o5 Dd _ Dp' (by rw [upd_ne Dp']; exact hD4), less_by hi ⟨?_, upd_same, fun o e => ?_⟩⟩
      · rw [List.replicate_succ', List.map_append]
        rfl
      · have e4 := s4 a _ (ka o e)
        rw [upd_ne (ne_of_none e hD)]
        exact o5 a _ (ne_of_none e4 hp) (by rw [upd_ne (ne_of_none e4 hp)]; exact e4)
end
end K01
end
section
set_option autoImplicit false
namespace K01
open PySem PyProof.Rows L2
theorem el1 {α : Type} {C : List α → Prop} (h : ∀ v0, C [v0]) : ∀ us : List α, us.length = 1 → C us
  | [v0], _ => h v0
theorem el2 {α : Type} {C : List α → Prop} (h : ∀ v0 v1, C [v0, v1]) : ∀ us : List α, us.length = 2 → C us
  | [v0, v1], _ => h v0 v1
theorem el3 {α : Type} {C : List α → Prop} (h : ∀ v0 v1 v2, C [v0, v1, v2]) : ∀ us : List α, us.length = 3 → C us
  | [v0, v1, v2], _ => h v0 v1 v2
theorem all_mk {l : PySem.W.OpenLaw} {w : World} {K : PySem.W.Frag} {h : Heap} {mg : Str → Option Value} {fa f0 f1 f2 f3 f4 f5 f6 f7 f8 f9 f10 f11 f12 f13 f14 f15 f16 f17 f18 f19 f20 f21 f22 f23 f24 f25 f26 f27 : Addr} {tkLETTERS tkMOST_LETTERS tkMOST_KINDS : Tok} (X : K.In h) (G : h.Ns mainGlobals mg) (hfa : mg "law" = some (.ref fa))
    {od0 an0 od1 an1 od2 an2 od3 an3 od4 an4 od5 an5 od6 an6 od7 an7 od8 an8 od9 an9 od10 an10 od11 an11 od12 an12 od13 an13 od14 an14 od15 an15 od16 an16 od17 an17 od18 an18 od19 an19 od20 an20 od21 an21 od22 an22 od23 an23 od24 an24 od25 an25 od26 an26 od27 an27 : Option Addr} {sl0 sl1 sl2 sl3 sl4 sl5 sl6 sl7 sl8 sl9 sl10 sl11 sl12 sl13 sl14 sl15 sl16 sl17 sl18 sl19 sl20 sl21 sl22 sl23 sl24 sl25 sl26 sl27 : Array (Option Value)} {oc0 kV0 dc0 pm0 cd0 ct0 oc1 kV1 dc1 pm1 cd1 ct1 oc2 kV2 dc2 pm2 cd2 ct2 oc3 kV3 dc3 pm3 cd3 ct3 oc4 kV4 dc4 pm4 cd4 ct4 oc5 kV5 dc5 pm5 cd5 ct5 oc6 kV6 dc6 pm6 cd6 ct6 oc7 kV7 dc7 pm7 cd7 ct7 oc8 kV8 dc8 pm8 cd8 ct8 oc9 kV9 dc9 pm9 cd9 ct9 oc10 kV10 dc10 pm10 cd10 ct10 oc11 kV11 dc11 pm11 cd11 ct11 oc12 kV12 dc12 pm12 cd12 ct12 oc13 kV13 dc13 pm13 cd13 ct13 oc14 kV14 dc14 pm14 cd14 ct14 oc15 kV15 dc15 pm15 cd15 ct15 oc16 kV16 dc16 pm16 cd16 ct16 oc17 kV17 dc17 pm17 cd17 ct17 oc18 kV18 dc18 pm18 cd18 ct18 oc19 kV19 dc19 pm19 cd19 ct19 oc20 kV20 dc20 pm20 cd20 ct20 oc21 kV21 dc21 pm21 cd21 ct21 oc22 kV22 dc22 pm22 cd22 ct22 oc23 kV23 dc23 pm23 cd23 ct23 oc24 kV24 dc24 pm24 cd24 ct24 oc25 kV25 dc25 pm25 cd25 ct25 oc26 kV26 dc26 pm26 cd26 ct26 oc27 kV27 dc27 pm27 cd27 ct27 : Value}
    (a0 : PySem.W.nsIn K mainGlobals "is_tuple_of" = some (some (.ref f0))) (l0 : K.lookup f0 = some ⟨oc0, od0, .func (PySem.W.fnOf "is_tuple_of" "is_tuple_of" (defArgs (top 4)) (defBody (top 4)) (defScope (top 4)) .none kV0 dc0 pm0 an0 cd0 ct0), sl0⟩) (c0 : PySem.W.codeIn K cd0 "is_tuple_of" = true) (k0 : PySem.W.keepIn K (.ref f0) = true)
    (a1 : PySem.W.nsIn K mainGlobals "is_name" = some (some (.ref f1))) (l1 : K.lookup f1 = some ⟨oc1, od1, .func (PySem.W.fnOf "is_name" "is_name" (defArgs (top 5)) (defBody (top 5)) (defScope (top 5)) .none kV1 dc1 pm1 an1 cd1 ct1), sl1⟩) (c1 : PySem.W.codeIn K cd1 "is_name" = true) (k1 : PySem.W.keepIn K (.ref f1) = true)
    (a2 : PySem.W.nsIn K mainGlobals "is_kind" = some (some (.ref f2))) (l2 : K.lookup f2 = some ⟨oc2, od2, .func (PySem.W.fnOf "is_kind" "is_kind" (defArgs (top 6)) (defBody (top 6)) (defScope (top 6)) .none kV2 dc2 pm2 an2 cd2 ct2), sl2⟩) (c2 : PySem.W.codeIn K cd2 "is_kind" = true) (k2 : PySem.W.keepIn K (.ref f2) = true)
    (a3 : PySem.W.nsIn K mainGlobals "are_kinds" = some (some (.ref f3))) (l3 : K.lookup f3 = some ⟨oc3, od3, .func (PySem.W.fnOf "are_kinds" "are_kinds" (defArgs (top 7)) (defBody (top 7)) (defScope (top 7)) .none kV3 dc3 pm3 an3 cd3 ct3), sl3⟩) (c3 : PySem.W.codeIn K cd3 "are_kinds" = true) (k3 : PySem.W.keepIn K (.ref f3) = true)
    (a4 : PySem.W.nsIn K mainGlobals "kinds_of" = some (some (.ref f4))) (l4 : K.lookup f4 = some ⟨oc4, od4, .func (PySem.W.fnOf "kinds_of" "kinds_of" (defArgs (top 8)) (defBody (top 8)) (defScope (top 8)) .none kV4 dc4 pm4 an4 cd4 ct4), sl4⟩) (c4 : PySem.W.codeIn K cd4 "kinds_of" = true) (k4 : PySem.W.keepIn K (.ref f4) = true)
    (a5 : PySem.W.nsIn K mainGlobals "is_family" = some (some (.ref f5))) (l5 : K.lookup f5 = some ⟨oc5, od5, .func (PySem.W.fnOf "is_family" "is_family" (defArgs (top 9)) (defBody (top 9)) (defScope (top 9)) .none kV5 dc5 pm5 an5 cd5 ct5), sl5⟩) (c5 : PySem.W.codeIn K cd5 "is_family" = true) (k5 : PySem.W.keepIn K (.ref f5) = true)
    (a6 : PySem.W.nsIn K mainGlobals "elders_first" = some (some (.ref f6))) (l6 : K.lookup f6 = some ⟨oc6, od6, .func (PySem.W.fnOf "elders_first" "elders_first" (defArgs (top 10)) (defBody (top 10)) (defScope (top 10)) .none kV6 dc6 pm6 an6 cd6 ct6), sl6⟩) (c6 : PySem.W.codeIn K cd6 "elders_first" = true) (k6 : PySem.W.keepIn K (.ref f6) = true)
    (a7 : PySem.W.nsIn K mainGlobals "_law_cell" = some (some (.ref f7))) (l7 : K.lookup f7 = some ⟨oc7, od7, .func (PySem.W.fnOf "_law_cell" "_law_cell" (defArgs (top 12)) (defBody (top 12)) (defScope (top 12)) .none kV7 dc7 pm7 an7 cd7 ct7), sl7⟩) (c7 : PySem.W.codeIn K cd7 "_law_cell" = true) (k7 : PySem.W.keepIn K (.ref f7) = true)
    (a8 : PySem.W.nsIn K mainGlobals "_law_purse" = some (some (.ref f8))) (l8 : K.lookup f8 = some ⟨oc8, od8, .func (PySem.W.fnOf "_law_purse" "_law_purse" (defArgs (top 13)) (defBody (top 13)) (defScope (top 13)) .none kV8 dc8 pm8 an8 cd8 ct8), sl8⟩) (c8 : PySem.W.codeIn K cd8 "_law_purse" = true) (k8 : PySem.W.keepIn K (.ref f8) = true)
    (a9 : PySem.W.nsIn K mainGlobals "_law_take" = some (some (.ref f9))) (l9 : K.lookup f9 = some ⟨oc9, od9, .func (PySem.W.fnOf "_law_take" "_law_take" (defArgs (top 14)) (defBody (top 14)) (defScope (top 14)) .none kV9 dc9 pm9 an9 cd9 ct9), sl9⟩) (c9 : PySem.W.codeIn K cd9 "_law_take" = true) (k9 : PySem.W.keepIn K (.ref f9) = true)
    (a10 : PySem.W.nsIn K mainGlobals "_law_word" = some (some (.ref f10))) (l10 : K.lookup f10 = some ⟨oc10, od10, .func (PySem.W.fnOf "_law_word" "_law_word" (defArgs (top 15)) (defBody (top 15)) (defScope (top 15)) .none kV10 dc10 pm10 an10 cd10 ct10), sl10⟩) (c10 : PySem.W.codeIn K cd10 "_law_word" = true) (k10 : PySem.W.keepIn K (.ref f10) = true)
    (a11 : PySem.W.nsIn K mainGlobals "_law_names" = some (some (.ref f11))) (l11 : K.lookup f11 = some ⟨oc11, od11, .func (PySem.W.fnOf "_law_names" "_law_names" (defArgs (top 16)) (defBody (top 16)) (defScope (top 16)) .none kV11 dc11 pm11 an11 cd11 ct11), sl11⟩) (c11 : PySem.W.codeIn K cd11 "_law_names" = true) (k11 : PySem.W.keepIn K (.ref f11) = true)
    (a12 : PySem.W.nsIn K mainGlobals "_law_some" = some (some (.ref f12))) (l12 : K.lookup f12 = some ⟨oc12, od12, .func (PySem.W.fnOf "_law_some" "_law_some" (defArgs (top 17)) (defBody (top 17)) (defScope (top 17)) .none kV12 dc12 pm12 an12 cd12 ct12), sl12⟩) (c12 : PySem.W.codeIn K cd12 "_law_some" = true) (k12 : PySem.W.keepIn K (.ref f12) = true)
    (a13 : PySem.W.nsIn K mainGlobals "_law_all" = some (some (.ref f13))) (l13 : K.lookup f13 = some ⟨oc13, od13, .func (PySem.W.fnOf "_law_all" "_law_all" (defArgs (top 18)) (defBody (top 18)) (defScope (top 18)) .none kV13 dc13 pm13 an13 cd13 ct13), sl13⟩) (c13 : PySem.W.codeIn K cd13 "_law_all" = true) (k13 : PySem.W.keepIn K (.ref f13) = true)
    (a14 : PySem.W.nsIn K mainGlobals "_law_family" = some (some (.ref f14))) (l14 : K.lookup f14 = some ⟨oc14, od14, .func (PySem.W.fnOf "_law_family" "_law_family" (defArgs (top 19)) (defBody (top 19)) (defScope (top 19)) .none kV14 dc14 pm14 an14 cd14 ct14), sl14⟩) (c14 : PySem.W.codeIn K cd14 "_law_family" = true) (k14 : PySem.W.keepIn K (.ref f14) = true)
    (a15 : PySem.W.nsIn K mainGlobals "_law_put" = some (some (.ref f15))) (l15 : K.lookup f15 = some ⟨oc15, od15, .func (PySem.W.fnOf "_law_put" "_law_put" (defArgs (top 20)) (defBody (top 20)) (defScope (top 20)) .none kV15 dc15 pm15 an15 cd15 ct15), sl15⟩) (c15 : PySem.W.codeIn K cd15 "_law_put" = true) (k15 : PySem.W.keepIn K (.ref f15) = true)
    (a16 : PySem.W.nsIn K mainGlobals "_law_named" = some (some (.ref f16))) (l16 : K.lookup f16 = some ⟨oc16, od16, .func (PySem.W.fnOf "_law_named" "_law_named" (defArgs (top 21)) (defBody (top 21)) (defScope (top 21)) .none kV16 dc16 pm16 an16 cd16 ct16), sl16⟩) (c16 : PySem.W.codeIn K cd16 "_law_named" = true) (k16 : PySem.W.keepIn K (.ref f16) = true)
    (a17 : PySem.W.nsIn K mainGlobals "_law_is" = some (some (.ref f17))) (l17 : K.lookup f17 = some ⟨oc17, od17, .func (PySem.W.fnOf "_law_is" "_law_is" (defArgs (top 22)) (defBody (top 22)) (defScope (top 22)) .none kV17 dc17 pm17 an17 cd17 ct17), sl17⟩) (c17 : PySem.W.codeIn K cd17 "_law_is" = true) (k17 : PySem.W.keepIn K (.ref f17) = true)
    (a18 : PySem.W.nsIn K mainGlobals "_law_any" = some (some (.ref f18))) (l18 : K.lookup f18 = some ⟨oc18, od18, .func (PySem.W.fnOf "_law_any" "_law_any" (defArgs (top 23)) (defBody (top 23)) (defScope (top 23)) .none kV18 dc18 pm18 an18 cd18 ct18), sl18⟩) (c18 : PySem.W.codeIn K cd18 "_law_any" = true) (k18 : PySem.W.keepIn K (.ref f18) = true)
    (a19 : PySem.W.nsIn K mainGlobals "_law_badly" = some (some (.ref f19))) (l19 : K.lookup f19 = some ⟨oc19, od19, .func (PySem.W.fnOf "_law_badly" "_law_badly" (defArgs (top 24)) (defBody (top 24)) (defScope (top 24)) .none kV19 dc19 pm19 an19 cd19 ct19), sl19⟩) (c19 : PySem.W.codeIn K cd19 "_law_badly" = true) (k19 : PySem.W.keepIn K (.ref f19) = true)
    (a20 : PySem.W.nsIn K mainGlobals "_law_renamed" = some (some (.ref f20))) (l20 : K.lookup f20 = some ⟨oc20, od20, .func (PySem.W.fnOf "_law_renamed" "_law_renamed" (defArgs (top 25)) (defBody (top 25)) (defScope (top 25)) .none kV20 dc20 pm20 an20 cd20 ct20), sl20⟩) (c20 : PySem.W.codeIn K cd20 "_law_renamed" = true) (k20 : PySem.W.keepIn K (.ref f20) = true)
    (a21 : PySem.W.nsIn K mainGlobals "_law_ringed" = some (some (.ref f21))) (l21 : K.lookup f21 = some ⟨oc21, od21, .func (PySem.W.fnOf "_law_ringed" "_law_ringed" (defArgs (top 26)) (defBody (top 26)) (defScope (top 26)) .none kV21 dc21 pm21 an21 cd21 ct21), sl21⟩) (c21 : PySem.W.codeIn K cd21 "_law_ringed" = true) (k21 : PySem.W.keepIn K (.ref f21) = true)
    (a22 : PySem.W.nsIn K mainGlobals "_law_way" = some (some (.ref f22))) (l22 : K.lookup f22 = some ⟨oc22, od22, .func (PySem.W.fnOf "_law_way" "_law_way" (defArgs (top 27)) (defBody (top 27)) (defScope (top 27)) .none kV22 dc22 pm22 an22 cd22 ct22), sl22⟩) (c22 : PySem.W.codeIn K cd22 "_law_way" = true) (k22 : PySem.W.keepIn K (.ref f22) = true)
    (a23 : PySem.W.nsIn K mainGlobals "_law_part" = some (some (.ref f23))) (l23 : K.lookup f23 = some ⟨oc23, od23, .func (PySem.W.fnOf "_law_part" "_law_part" (defArgs (top 28)) (defBody (top 28)) (defScope (top 28)) .none kV23 dc23 pm23 an23 cd23 ct23), sl23⟩) (c23 : PySem.W.codeIn K cd23 "_law_part" = true) (k23 : PySem.W.keepIn K (.ref f23) = true)
    (a24 : PySem.W.nsIn K mainGlobals "_law_row_bent" = some (some (.ref f24))) (l24 : K.lookup f24 = some ⟨oc24, od24, .func (PySem.W.fnOf "_law_row_bent" "_law_row_bent" (defArgs (top 29)) (defBody (top 29)) (defScope (top 29)) .none kV24 dc24 pm24 an24 cd24 ct24), sl24⟩) (c24 : PySem.W.codeIn K cd24 "_law_row_bent" = true) (k24 : PySem.W.keepIn K (.ref f24) = true)
    (a25 : PySem.W.nsIn K mainGlobals "_law_bent" = some (some (.ref f25))) (l25 : K.lookup f25 = some ⟨oc25, od25, .func (PySem.W.fnOf "_law_bent" "_law_bent" (defArgs (top 30)) (defBody (top 30)) (defScope (top 30)) .none kV25 dc25 pm25 an25 cd25 ct25), sl25⟩) (c25 : PySem.W.codeIn K cd25 "_law_bent" = true) (k25 : PySem.W.keepIn K (.ref f25) = true)
    (a26 : PySem.W.nsIn K mainGlobals "_law_right" = some (some (.ref f26))) (l26 : K.lookup f26 = some ⟨oc26, od26, .func (PySem.W.fnOf "_law_right" "_law_right" (defArgs (top 31)) (defBody (top 31)) (defScope (top 31)) .none kV26 dc26 pm26 an26 cd26 ct26), sl26⟩) (c26 : PySem.W.codeIn K cd26 "_law_right" = true) (k26 : PySem.W.keepIn K (.ref f26) = true)
    (a27 : PySem.W.nsIn K mainGlobals "law" = some (some (.ref f27))) (l27 : K.lookup f27 = some ⟨oc27, od27, .func (PySem.W.fnOf "law" "law" (defArgs (top 32)) (defBody (top 32)) (defScope (top 32)) .none kV27 dc27 pm27 an27 cd27 ct27), sl27⟩) (c27 : PySem.W.codeIn K cd27 "law" = true) (k27 : PySem.W.keepIn K (.ref f27) = true)
    (z0 : PySem.W.nsIn K mainGlobals "abs" = some none) (z1 : PySem.W.nsIn K mainGlobals "all" = some none) (z2 : PySem.W.nsIn K mainGlobals "bool" = some none) (z3 : PySem.W.nsIn K mainGlobals "enumerate" = some none) (z4 : PySem.W.nsIn K mainGlobals "int" = some none) (z5 : PySem.W.nsIn K mainGlobals "isinstance" = some none) (z6 : PySem.W.nsIn K mainGlobals "len" = some none) (z7 : PySem.W.nsIn K mainGlobals "list" = some none) (z8 : PySem.W.nsIn K mainGlobals "max" = some none) (z9 : PySem.W.nsIn K mainGlobals "min" = some none) (z10 : PySem.W.nsIn K mainGlobals "range" = some none) (z11 : PySem.W.nsIn K mainGlobals "repr" = some none) (z12 : PySem.W.nsIn K mainGlobals "set" = some none) (z13 : PySem.W.nsIn K mainGlobals "sorted" = some none) (z14 : PySem.W.nsIn K mainGlobals "str" = some none) (z15 : PySem.W.nsIn K mainGlobals "tuple" = some none)
    (yLETTERS : PySem.W.nsIn K mainGlobals "LETTERS" = some (some (.str abc tkLETTERS))) (yMOST_LETTERS : PySem.W.nsIn K mainGlobals "MOST_LETTERS" = some (some (.int 6 tkMOST_LETTERS))) (yMOST_KINDS : PySem.W.nsIn K mainGlobals "MOST_KINDS" = some (some (.int 7 tkMOST_KINDS)))
    : ∃ fd : FuncData, (∀ (s : Shared) (v : Value), BindsTo s fd ⟨[v], []⟩ [("_law_script", v)]) ∧ ∀ base : Heap, K.In base → base.Ns mainGlobals mg → FnOk l.prog w K mg base CX0 9 fa fd ["_law_script"] (spLaw K) := by
  have e := hfa.symm.trans (PySem.W.mg_of X G a27)
  cases e
  have F0 := fun_mk (st := top 4) l0 c0 k0
  have b0 := F0.binds (ps := ["thing", "many"]) fun _ _ _ _ _ _ => el2 fun _ _ => rfl
  have F1 := fun_mk (st := top 5) l1 c1 k1
  have b1 := F1.binds (ps := ["thing"]) fun _ _ _ _ _ _ => el1 fun _ => rfl
  have F2 := fun_mk (st := top 6) l2 c2 k2
  have b2 := F2.binds (ps := ["thing", "kinds"]) fun _ _ _ _ _ _ => el2 fun _ _ => rfl
  have F3 := fun_mk (st := top 7) l3 c3 k3
  have b3 := F3.binds (ps := ["thing", "kinds"]) fun _ _ _ _ _ _ => el2 fun _ _ => rfl
  have F4 := fun_mk (st := top 8) l4 c4 k4
  have b4 := F4.binds (ps := ["rows"]) fun _ _ _ _ _ _ => el1 fun _ => rfl
  have F5 := fun_mk (st := top 9) l5 c5 k5
  have b5 := F5.binds (ps := ["thing"]) fun _ _ _ _ _ _ => el1 fun _ => rfl
  have F6 := fun_mk (st := top 10) l6 c6 k6
  have b6 := F6.binds (ps := ["family"]) fun _ _ _ _ _ _ => el1 fun _ => rfl
  have F7 := fun_mk (st := top 12) l7 c7 k7
  have b7 := F7.binds (ps := ["_law_script", "_law_k"]) fun _ _ _ _ _ _ => el2 fun _ _ => rfl
  have F8 := fun_mk (st := top 13) l8 c8 k8
  have b8 := F8.binds (ps := ["_law_cell_here"]) fun _ _ _ _ _ _ => el1 fun _ => rfl
  have F9 := fun_mk (st := top 14) l9 c9 k9
  have b9 := F9.binds (ps := ["_law_purse_here", "_law_many"]) fun _ _ _ _ _ _ => el2 fun _ _ => rfl
  have F10 := fun_mk (st := top 15) l10 c10 k10
  have b10 := F10.binds (ps := ["_law_purse_here", "_law_used"]) fun _ _ _ _ _ _ => el2 fun _ _ => rfl
  have F11 := fun_mk (st := top 16) l11 c11 k11
  have b11 := F11.binds (ps := ["_law_purse_here", "_law_many", "_law_used"]) fun _ _ _ _ _ _ => el3 fun _ _ _ => rfl
  have F12 := fun_mk (st := top 17) l12 c12 k12
  have b12 := F12.binds (ps := ["_law_purse_here", "_law_menu", "_law_most"]) fun _ _ _ _ _ _ => el3 fun _ _ _ => rfl
  have F13 := fun_mk (st := top 18) l13 c13 k13
  have b13 := F13.binds (ps := ["_law_purse_here", "_law_names_here", "_law_last"]) fun _ _ _ _ _ _ => el3 fun _ _ _ => rfl
  have F14 := fun_mk (st := top 19) l14 c14 k14
  have b14 := F14.binds (ps := ["_law_purse_here", "_law_most"]) fun _ _ _ _ _ _ => el2 fun _ _ => rfl
  have F15 := fun_mk (st := top 20) l15 c15 k15
  have b15 := F15.binds (ps := ["_law_thing", "_law_way_here", "_law_new"]) fun _ _ _ _ _ _ => el3 fun _ _ _ => rfl
  have F16 := fun_mk (st := top 21) l16 c16 k16
  have b16 := F16.binds (ps := ["_law_thing"]) fun _ _ _ _ _ _ => el1 fun _ => rfl
  have F17 := fun_mk (st := top 22) l17 c17 k17
  have b17 := F17.binds (ps := ["_law_thing"]) fun _ _ _ _ _ _ => el1 fun _ => rfl
  have F18 := fun_mk (st := top 23) l18 c18 k18
  have b18 := F18.binds (ps := ["_law_purse_here", "_law_old"]) fun _ _ _ _ _ _ => el2 fun _ _ => rfl
  have F19 := fun_mk (st := top 24) l19 c19 k19
  have b19 := F19.binds (ps := ["_law_purse_here", "_law_name"]) fun _ _ _ _ _ _ => el2 fun _ _ => rfl
  have F20 := fun_mk (st := top 25) l20 c20 k20
  have b20 := F20.binds (ps := ["_law_family_here", "_law_old", "_law_new"]) fun _ _ _ _ _ _ => el3 fun _ _ _ => rfl
  have F21 := fun_mk (st := top 26) l21 c21 k21
  have b21 := F21.binds (ps := ["_law_family_here", "_law_first", "_law_many"]) fun _ _ _ _ _ _ => el3 fun _ _ _ => rfl
  have F22 := fun_mk (st := top 27) l22 c22 k22
  have b22 := F22.binds (ps := ["_law_purse_here", "_law_family_here"]) fun _ _ _ _ _ _ => el2 fun _ _ => rfl
  have F23 := fun_mk (st := top 28) l23 c23 k23
  have b23 := F23.binds (ps := ["_law_thing", "_law_way_here"]) fun _ _ _ _ _ _ => el2 fun _ _ => rfl
  have F24 := fun_mk (st := top 29) l24 c24 k24
  have b24 := F24.binds (ps := ["_law_purse_here", "_law_family_here", "_law_k"]) fun _ _ _ _ _ _ => el3 fun _ _ _ => rfl
  have F25 := fun_mk (st := top 30) l25 c25 k25
  have b25 := F25.binds (ps := ["_law_purse_here"]) fun _ _ _ _ _ _ => el1 fun _ => rfl
  have F26 := fun_mk (st := top 31) l26 c26 k26
  have b26 := F26.binds (ps := ["_law_purse_here"]) fun _ _ _ _ _ _ => el1 fun _ => rfl
  have F27 := fun_mk (st := top 32) l27 c27 k27
  have b27 := F27.binds (ps := ["_law_script"]) fun _ _ _ _ _ _ => el1 fun _ => rfl
  have T : Defs K mg ⟨(f0, PySem.W.fnOf "is_tuple_of" "is_tuple_of" (defArgs (top 4)) (defBody (top 4)) (defScope (top 4)) .none kV0 dc0 pm0 an0 cd0 ct0), (f1, PySem.W.fnOf "is_name" "is_name" (defArgs (top 5)) (defBody (top 5)) (defScope (top 5)) .none kV1 dc1 pm1 an1 cd1 ct1), (f2, PySem.W.fnOf "is_kind" "is_kind" (defArgs (top 6)) (defBody (top 6)) (defScope (top 6)) .none kV2 dc2 pm2 an2 cd2 ct2), (f3, PySem.W.fnOf "are_kinds" "are_kinds" (defArgs (top 7)) (defBody (top 7)) (defScope (top 7)) .none kV3 dc3 pm3 an3 cd3 ct3), (f4, PySem.W.fnOf "kinds_of" "kinds_of" (defArgs (top 8)) (defBody (top 8)) (defScope (top 8)) .none kV4 dc4 pm4 an4 cd4 ct4), (f5, PySem.W.fnOf "is_family" "is_family" (defArgs (top 9)) (defBody (top 9)) (defScope (top 9)) .none kV5 dc5 pm5 an5 cd5 ct5), (f6, PySem.W.fnOf "elders_first" "elders_first" (defArgs (top 10)) (defBody (top 10)) (defScope (top 10)) .none kV6 dc6 pm6 an6 cd6 ct6), (f7, PySem.W.fnOf "_law_cell" "_law_cell" (defArgs (top 12)) (defBody (top 12)) (defScope (top 12)) .none kV7 dc7 pm7 an7 cd7 ct7), (f8, PySem.W.fnOf "_law_purse" "_law_purse" (defArgs (top 13)) (defBody (top 13)) (defScope (top 13)) .none kV8 dc8 pm8 an8 cd8 ct8), (f9, PySem.W.fnOf "_law_take" "_law_take" (defArgs (top 14)) (defBody (top 14)) (defScope (top 14)) .none kV9 dc9 pm9 an9 cd9 ct9), (f10, PySem.W.fnOf "_law_word" "_law_word" (defArgs (top 15)) (defBody (top 15)) (defScope (top 15)) .none kV10 dc10 pm10 an10 cd10 ct10), (f11, PySem.W.fnOf "_law_names" "_law_names" (defArgs (top 16)) (defBody (top 16)) (defScope (top 16)) .none kV11 dc11 pm11 an11 cd11 ct11), (f12, PySem.W.fnOf "_law_some" "_law_some" (defArgs (top 17)) (defBody (top 17)) (defScope (top 17)) .none kV12 dc12 pm12 an12 cd12 ct12), (f13, PySem.W.fnOf "_law_all" "_law_all" (defArgs (top 18)) (defBody (top 18)) (defScope (top 18)) .none kV13 dc13 pm13 an13 cd13 ct13), (f14, PySem.W.fnOf "_law_family" "_law_family" (defArgs (top 19)) (defBody (top 19)) (defScope (top 19)) .none kV14 dc14 pm14 an14 cd14 ct14), (f15, PySem.W.fnOf "_law_put" "_law_put" (defArgs (top 20)) (defBody (top 20)) (defScope (top 20)) .none kV15 dc15 pm15 an15 cd15 ct15), (f16, PySem.W.fnOf "_law_named" "_law_named" (defArgs (top 21)) (defBody (top 21)) (defScope (top 21)) .none kV16 dc16 pm16 an16 cd16 ct16), (f17, PySem.W.fnOf "_law_is" "_law_is" (defArgs (top 22)) (defBody (top 22)) (defScope (top 22)) .none kV17 dc17 pm17 an17 cd17 ct17), (f18, PySem.W.fnOf "_law_any" "_law_any" (defArgs (top 23)) (defBody (top 23)) (defScope (top 23)) .none kV18 dc18 pm18 an18 cd18 ct18), (f19, PySem.W.fnOf "_law_badly" "_law_badly" (defArgs (top 24)) (defBody (top 24)) (defScope (top 24)) .none kV19 dc19 pm19 an19 cd19 ct19), (f20, PySem.W.fnOf "_law_renamed" "_law_renamed" (defArgs (top 25)) (defBody (top 25)) (defScope (top 25)) .none kV20 dc20 pm20 an20 cd20 ct20), (f21, PySem.W.fnOf "_law_ringed" "_law_ringed" (defArgs (top 26)) (defBody (top 26)) (defScope (top 26)) .none kV21 dc21 pm21 an21 cd21 ct21), (f22, PySem.W.fnOf "_law_way" "_law_way" (defArgs (top 27)) (defBody (top 27)) (defScope (top 27)) .none kV22 dc22 pm22 an22 cd22 ct22), (f23, PySem.W.fnOf "_law_part" "_law_part" (defArgs (top 28)) (defBody (top 28)) (defScope (top 28)) .none kV23 dc23 pm23 an23 cd23 ct23), (f24, PySem.W.fnOf "_law_row_bent" "_law_row_bent" (defArgs (top 29)) (defBody (top 29)) (defScope (top 29)) .none kV24 dc24 pm24 an24 cd24 ct24), (f25, PySem.W.fnOf "_law_bent" "_law_bent" (defArgs (top 30)) (defBody (top 30)) (defScope (top 30)) .none kV25 dc25 pm25 an25 cd25 ct25), (f26, PySem.W.fnOf "_law_right" "_law_right" (defArgs (top 31)) (defBody (top 31)) (defScope (top 31)) .none kV26 dc26 pm26 an26 cd26 ct26), (fa, PySem.W.fnOf "law" "law" (defArgs (top 32)) (defBody (top 32)) (defScope (top 32)) .none kV27 dc27 pm27 an27 cd27 ct27)⟩ := ⟨⟨F0, b0, PySem.W.mg_of X G a0⟩, ⟨F1, b1, PySem.W.mg_of X G a1⟩, ⟨F2, b2, PySem.W.mg_of X G a2⟩, ⟨F3, b3, PySem.W.mg_of X G a3⟩, ⟨F4, b4, PySem.W.mg_of X G a4⟩, ⟨F5, b5, PySem.W.mg_of X G a5⟩, ⟨F6, b6, PySem.W.mg_of X G a6⟩, ⟨F7, b7, PySem.W.mg_of X G a7⟩, ⟨F8, b8, PySem.W.mg_of X G a8⟩, ⟨F9, b9, PySem.W.mg_of X G a9⟩, ⟨F10, b10, PySem.W.mg_of X G a10⟩, ⟨F11, b11, PySem.W.mg_of X G a11⟩, ⟨F12, b12, PySem.W.mg_of X G a12⟩, ⟨F13, b13, PySem.W.mg_of X G a13⟩, ⟨F14, b14, PySem.W.mg_of X G a14⟩, ⟨F15, b15, PySem.W.mg_of X G a15⟩, ⟨F16, b16, PySem.W.mg_of X G a16⟩, ⟨F17, b17, PySem.W.mg_of X G a17⟩, ⟨F18, b18, PySem.W.mg_of X G a18⟩, ⟨F19, b19, PySem.W.mg_of X G a19⟩, ⟨F20, b20, PySem.W.mg_of X G a20⟩, ⟨F21, b21, PySem.W.mg_of X G a21⟩, ⟨F22, b22, PySem.W.mg_of X G a22⟩, ⟨F23, b23, PySem.W.mg_of X G a23⟩, ⟨F24, b24, PySem.W.mg_of X G a24⟩, ⟨F25, b25, PySem.W.mg_of X G a25⟩, ⟨F26, b26, PySem.W.mg_of X G a26⟩, ⟨F27, b27, PySem.W.mg_of X G a27⟩, PySem.W.mg_none_of X G z0, PySem.W.mg_none_of X G z1, PySem.W.mg_none_of X G z2, PySem.W.mg_none_of X G z3, PySem.W.mg_none_of X G z4, PySem.W.mg_none_of X G z5, PySem.W.mg_none_of X G z6, PySem.W.mg_none_of X G z7, PySem.W.mg_none_of X G z8, PySem.W.mg_none_of X G z9, PySem.W.mg_none_of X G z10, PySem.W.mg_none_of X G z11, PySem.W.mg_none_of X G z12, PySem.W.mg_none_of X G z13, PySem.W.mg_none_of X G z14, PySem.W.mg_none_of X G z15⟩
  have GL : Glb mg := ⟨⟨_, PySem.W.mg_of X G yLETTERS⟩, ⟨_, PySem.W.mg_of X G yMOST_LETTERS⟩, ⟨_, PySem.W.mg_of X G yMOST_KINDS⟩⟩
  exact ⟨PySem.W.fnOf "law" "law" (defArgs (top 32)) (defBody (top 32)) (defScope (top 32)) .none kV27 dc27 pm27 an27 cd27 ct27, fun s v => .of_eq rfl, fun base _ _ => ok_law T GL⟩
theorem walk {l : PySem.W.OpenLaw} {q : Program} {loose : List Str} {XP : (Str → Option Value) → Heap → Prop} {YP : World → Heap → Prop} {d : DefRec} {K : Params → PySem.W.Frag} (hn : l.most = some 63) (hdf : d.params.defaults = [])
    (hY : ∀ (w : World) (h : Heap), YP w h → (K w.params).In h)
    (F : ∀ (w : World) (mg : Str → Option Value) (fa : Addr) (h : Heap), (K w.params).In h → h.Ns mainGlobals mg → mg d.name = some (.ref fa) →
      ∃ fd : FuncData, (∀ (s : Shared) (u : Value), BindsTo s fd ⟨[u], []⟩ [("_law_script", u)]) ∧ ∀ base : Heap, (K w.params).In base → base.Ns mainGlobals mg → FnOk l.prog w (K w.params) mg base CX0 9 fa fd ["_law_script"] (spLaw (K w.params))) :
    PySem.W.WalkO q loose XP YP l.row.toRowW d [] (fun f vs => PySem.call f vs) :=
  L2.walk_of (n := 63) (k := 9) (x := "_law_script") (CX := fun _ => CX0) (sp := fun w => spLaw (K w.params)) hn (by decide) hdf ⟨rfl, by decide, by decide, rfl⟩ hY F (fun _ _ a ns hl _ hS => ⟨a, ns, rfl, hS, hl, fun _ => rfl⟩) fun _ _ _ _ _ z => z
end K01
theorem PySem.W.Fast.tw12105369777637616792 : True := trivial
theorem PySem.W.Fast.tw12371104196359373675 : True := trivial
theorem PySem.W.Fast.tw17938629895723577778 : True := trivial
theorem PySem.W.Fast.tw11546560722292282685 : True := trivial
theorem PySem.W.Fast.tw15812645735993741683 : True := trivial
theorem PySem.W.Fast.tw10137794608083773660 : True := trivial
theorem PySem.W.Fast.tw14564163020593476423 : True := trivial
theorem PySem.W.Fast.tw17172878781762479489 : True := trivial
theorem PySem.W.Fast.tw13989092018038277467 : True := trivial
theorem PySem.W.Fast.tw3509212777363158281 : True := trivial
theorem PySem.W.Fast.tw10270255468430962085 : True := trivial
theorem PySem.W.Fast.tw17069928650864142411 : True := trivial
theorem PySem.W.Fast.tw10286201266918303162 : True := trivial
theorem PySem.W.Fast.tw15135539211847619630 : True := trivial
theorem PySem.W.Fast.tw2892884729589238535 : True := trivial
theorem PySem.W.Fast.tw13365905802550043979 : True := trivial
theorem PySem.W.Fast.tw7524093060531459 : True := trivial
theorem PySem.W.Fast.tw613096881214887494 : True := trivial
theorem PySem.W.Fast.tw9271032771864053333 : True := trivial
theorem PySem.W.Fast.tw7114857968354805141 : True := trivial
theorem PySem.W.Fast.tw17978800234828349956 : True := trivial
theorem PySem.W.Fast.tw7005393346346481448 : True := trivial
theorem PySem.W.Fast.tw7969914552644693168 : True := trivial
theorem PySem.W.Fast.tw3028260681916955944 : True := trivial
theorem PySem.W.Fast.tw7215217660478841131 : True := trivial
theorem PySem.W.Fast.tw4572069260709205276 : True := trivial
theorem PySem.W.Fast.tw13573218843275047947 : True := trivial
theorem PySem.W.Fast.tw15451909706889851830 : True := trivial
theorem PySem.W.Fast.tw18319754287816299767 : True := trivial
theorem PySem.W.Fast.tw18273096598439126607 : True := trivial
theorem PySem.W.Fast.tw7641759668330167515 : True := trivial
theorem PySem.W.Fast.tw15169612850174830849 : True := trivial
theorem PySem.W.Fast.tw9639627134336913173 : True := trivial
theorem PySem.W.Fast.tw1331104936500516106 : True := trivial
theorem PySem.W.Fast.tw14281394386962414203 : True := trivial
theorem PySem.W.Fast.tw198084261487288271 : True := trivial
theorem PySem.W.Fast.tw14526130365351588364 : True := trivial
theorem PySem.W.Fast.tw17377913377853390797 : True := trivial
theorem PySem.W.Fast.tw2050569580881724714 : True := trivial
theorem PySem.W.Fast.tw15260629382018745765 : True := trivial
open PySem PySem.W PyProof.Rows
set_option maxRecDepth 100000 in
set_option maxHeartbeats 0 in
theorem PySem.Challenge.cw_warmrows_k01_what_families_are_holds : PySem.Challenge.rw_warmrows_k01_what_families_are.Holds := by
  w_on; o_law; k_head; (case hw => w_witness2)
  k_fill
  refine K01.walk (l := PySem.Challenge.rw_warmrows_k01_what_families_are) rfl rfl (fun w h Y => PySem.W.kIn_of Y) ?F
  case F =>
    intro w mg fa h KX G hmg
    refine' K01.all_mk KX G hmg ?a0 ?l0 ?c0 ?k0 ?a1 ?l1 ?c1 ?k1 ?a2 ?l2 ?c2 ?k2 ?a3 ?l3 ?c3 ?k3 ?a4 ?l4 ?c4 ?k4 ?a5 ?l5 ?c5 ?k5 ?a6 ?l6 ?c6 ?k6 ?a7 ?l7 ?c7 ?k7 ?a8 ?l8 ?c8 ?k8 ?a9 ?l9 ?c9 ?k9 ?a10 ?l10 ?c10 ?k10 ?a11 ?l11 ?c11 ?k11 ?a12 ?l12 ?c12 ?k12 ?a13 ?l13 ?c13 ?k13 ?a14 ?l14 ?c14 ?k14 ?a15 ?l15 ?c15 ?k15 ?a16 ?l16 ?c16 ?k16 ?a17 ?l17 ?c17 ?k17 ?a18 ?l18 ?c18 ?k18 ?a19 ?l19 ?c19 ?k19 ?a20 ?l20 ?c20 ?k20 ?a21 ?l21 ?c21 ?k21 ?a22 ?l22 ?c22 ?k22 ?a23 ?l23 ?c23 ?k23 ?a24 ?l24 ?c24 ?k24 ?a25 ?l25 ?c25 ?k25 ?a26 ?l26 ?c26 ?k26 ?a27 ?l27 ?c27 ?k27 ?z0 ?z1 ?z2 ?z3 ?z4 ?z5 ?z6 ?z7 ?z8 ?z9 ?z10 ?z11 ?z12 ?z13 ?z14 ?z15   ?yLETTERS ?yMOST_LETTERS ?yMOST_KINDS
    (case a0 => k_is); (case l0 => k_is); (case c0 => k_is); (case k0 => k_is)
    (case a1 => k_is); (case l1 => k_is); (case c1 => k_is); (case k1 => k_is)
    (case a2 => k_is); (case l2 => k_is); (case c2 => k_is); (case k2 => k_is)
    (case a3 => k_is); (case l3 => k_is); (case c3 => k_is); (case k3 => k_is)
    (case a4 => k_is); (case l4 => k_is); (case c4 => k_is); (case k4 => k_is)
    (case a5 => k_is); (case l5 => k_is); (case c5 => k_is); (case k5 => k_is)
    (case a6 => k_is); (case l6 => k_is); (case c6 => k_is); (case k6 => k_is)
    (case a7 => k_is); (case l7 => k_is); (case c7 => k_is); (case k7 => k_is)
    (case a8 => k_is); (case l8 => k_is); (case c8 => k_is); (case k8 => k_is)
    (case a9 => k_is); (case l9 => k_is); (case c9 => k_is); (case k9 => k_is)
    (case a10 => k_is); (case l10 => k_is); (case c10 => k_is); (case k10 => k_is)
    (case a11 => k_is); (case l11 => k_is); (case c11 => k_is); (case k11 => k_is)
    (case a12 => k_is); (case l12 => k_is); (case c12 => k_is); (case k12 => k_is)
    (case a13 => k_is); (case l13 => k_is); (case c13 => k_is); (case k13 => k_is)
    (case a14 => k_is); (case l14 => k_is); (case c14 => k_is); (case k14 => k_is)
    (case a15 => k_is); (case l15 => k_is); (case c15 => k_is); (case k15 => k_is)
    (case a16 => k_is); (case l16 => k_is); (case c16 => k_is); (case k16 => k_is)
    (case a17 => k_is); (case l17 => k_is); (case c17 => k_is); (case k17 => k_is)
    (case a18 => k_is); (case l18 => k_is); (case c18 => k_is); (case k18 => k_is)
    (case a19 => k_is); (case l19 => k_is); (case c19 => k_is); (case k19 => k_is)
    (case a20 => k_is); (case l20 => k_is); (case c20 => k_is); (case k20 => k_is)
    (case a21 => k_is); (case l21 => k_is); (case c21 => k_is); (case k21 => k_is)
    (case a22 => k_is); (case l22 => k_is); (case c22 => k_is); (case k22 => k_is)
    (case a23 => k_is); (case l23 => k_is); (case c23 => k_is); (case k23 => k_is)
    (case a24 => k_is); (case l24 => k_is); (case c24 => k_is); (case k24 => k_is)
    (case a25 => k_is); (case l25 => k_is); (case c25 => k_is); (case k25 => k_is)
    (case a26 => k_is); (case l26 => k_is); (case c26 => k_is); (case k26 => k_is)
    (case a27 => k_is); (case l27 => k_is); (case c27 => k_is); (case k27 => k_is)
    (case z0 => k_is); (case z1 => k_is); (case z2 => k_is); (case z3 => k_is); (case z4 => k_is); (case z5 => k_is); (case z6 => k_is); (case z7 => k_is); (case z8 => k_is); (case z9 => k_is); (case z10 => k_is); (case z11 => k_is); (case z12 => k_is); (case z13 => k_is); (case z14 => k_is); (case z15 => k_is)
    (case yLETTERS => k_is); (case yMOST_LETTERS => k_is); (case yMOST_KINDS => k_is)
end
