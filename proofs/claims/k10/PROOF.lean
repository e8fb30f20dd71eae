import PyProof.Rows.All
import Wide.All
import OpenK.AllK
import Wide.FinOn
import Lean
import PyProof.EqAt
import PyProof.EqKinds
import PyProof.TupleCall
import KE.KTryMore
import PyProof.ExcAttrAll.ValueError
import PyProof.ExcBaseAll.ValueError
import PyProof.DictWalks
import PyProof.EnumIter
import PyProof.EnumFor
import PyProof.EnumMake
import PyProof.AttrMissHeap
import KE.KDictOf
import KE.KDictList
import PyProof.StrOps2
import KE.KSortTup
import PyProof.NeKinds
import PySem.Challenge.RW_warmrows_k10_looks_along_orders
import PyProof.Rows.SortStr
import PyProof.TupleOfSeq
import PyProof.ZipIter
set_option Elab.async false
set_option linter.all false
set_option maxRecDepth 100000
set_option maxHeartbeats 4000000
section
namespace L2
open PySem PySem.Spec PyProof.Rows
abbrev Key := Sum Int Str
def keyIs : Key → Value → Bool
  | .inl k, v => Value.isInt k v
  | .inr x, v => Value.isStrOf x v
def keyH (w : World) : Key → Int
  | .inl k => hashInt k
  | .inr x => hashStr w x
theorem keyIs_shape : ∀ {k : Key} {v : Value}, keyIs k v = true → (∃ i t, k = Sum.inl i ∧ v = Value.int i t) ∨ (∃ x t, k = Sum.inr x ∧ v = Value.str x t)
  | .inl i, v, h => by
    obtain ⟨t, e⟩ := Value.isInt_shape (k := i) (v := v) h
    exact .inl ⟨i, t, rfl, e⟩
  | .inr x, v, h => by
    obtain ⟨t, e⟩ := Value.isStrOf_shape (x := x) (v := v) h
    exact .inr ⟨x, t, rfl, e⟩
theorem keyIs_int (i : Int) (t : Tok) : keyIs (.inl i) (.int i t) = true := by simp [keyIs, Value.isInt]
theorem keyIs_str (x : Str) (t : Tok) : keyIs (.inr x) (.str x t) = true := by simp [keyIs, Value.isStrOf]
theorem key_ll (a b : Int) : decide ((Sum.inl a : Key) = Sum.inl b) = (a == b) := by
  by_cases e : a = b
  · subst e; simp
  · have h : ¬ (Sum.inl a : Key) = Sum.inl b := fun q => e (Sum.inl.inj q)
    rw [decide_eq_false h]
    exact (beq_eq_false_iff_ne.mpr e).symm
theorem key_rr (a b : Str) : decide ((Sum.inr a : Key) = Sum.inr b) = decide (a = b) := by
  by_cases e : a = b
  · subst e; simp
  · have h : ¬ (Sum.inr a : Key) = Sum.inr b := fun q => e (Sum.inr.inj q)
    rw [decide_eq_false h, decide_eq_false e]
theorem key_lr (a : Int) (b : Str) : decide ((Sum.inl a : Key) = Sum.inr b) = false := decide_eq_false (fun q => nomatch q)
theorem key_rl (a : Str) (b : Int) : decide ((Sum.inr a : Key) = Sum.inl b) = false := decide_eq_false (fun q => nomatch q)
def mixKind (prog : Program) (w : World) : PySem.KeyKind prog w Key where
  is := keyIs
  hash := keyH w
  inj := fun v a b ha hb => by
    rcases keyIs_shape ha with ⟨i, t, rfl, rfl⟩ | ⟨x, t, rfl, rfl⟩
    · rcases keyIs_shape hb with ⟨j, u, rfl, e⟩ | ⟨y, u, rfl, e⟩
      · injection e with e1 _; rw [e1]
      · exact nomatch e
    · rcases keyIs_shape hb with ⟨j, u, rfl, e⟩ | ⟨y, u, rfl, e⟩
      · exact nomatch e
      · injection e with e1 _; rw [e1]
  byValue := fun k v h => by
    rcases keyIs_shape h with ⟨i, t, rfl, rfl⟩ | ⟨x, t, rfl, rfl⟩ <;> rfl
  pyHash := fun hv h => by
    rcases keyIs_shape hv with ⟨i, t, rfl, rfl⟩ | ⟨x, t, rfl, rfl⟩
    · exact wpAny_pyHash_int h
    · exact wpAny_pyHash_str h
  eqBool := fun hu hv h => by
    rcases keyIs_shape hu with ⟨i, t, rfl, rfl⟩ | ⟨x, t, rfl, rfl⟩
    · rcases keyIs_shape hv with ⟨j, u, rfl, rfl⟩ | ⟨y, u, rfl, rfl⟩
      · rw [key_ll] at h; exact wpAny_eqBool_int h
      · rw [key_lr] at h; exact SeqAt.EqAt.int_str i t y u _ _ _ _ h
    · rcases keyIs_shape hv with ⟨j, u, rfl, rfl⟩ | ⟨y, u, rfl, rfl⟩
      · rw [key_rl] at h; exact SeqAt.EqAt.str_int x t j u _ _ _ _ h
      · rw [key_rr] at h; exact wpAny_eqBool_str h
  «strs» := fun k x t v h => by
    rcases keyIs_shape h with ⟨i, u, rfl, e⟩ | ⟨y, u, rfl, e⟩
    · exact nomatch e
    · injection e with e1 _
      subst e1
      cases v <;> rfl
theorem mixKind_is (prog : Program) (w : World) (k : Key) (v : Value) : (mixKind prog w).is k v = keyIs k v := rfl
theorem mixKind_int (prog : Program) (w : World) (i : Int) (t : Tok) : (mixKind prog w).is (.inl i) (.int i t) = true := keyIs_int i t
theorem mixKind_str (prog : Program) (w : World) (x : Str) (t : Tok) : (mixKind prog w).is (.inr x) (.str x t) = true := keyIs_str x t
end L2
namespace L2
open PySem PySem.Spec PyProof.Rows
inductive V where
  | non | bl (b : Bool) | int (i : Int) | str (x : Str) | byt (b : Array UInt8) | flt (b : UInt64) | ref (a : Addr) | ty (n : String)
  deriving DecidableEq
def RelV : V → Value → Prop
  | .non, u => u = Value.none
  | .bl b, u => u = Value.bool b
  | .int i, u => ∃ t, u = Value.int i t
  | .str x, u => ∃ t, u = Value.str x t
  | .byt b, u => ∃ t, u = Value.bytes b t
  | .flt b, u => ∃ t, u = Value.float b t
  | .ref a, u => u = Value.ref a
  | .ty n, u => u = Value.type n
abbrev Vals : List V → List Value → Prop := Paired RelV
theorem Vals.length {xs : List V} {us : List Value} (r : Vals xs us) : xs.length = us.length := Paired.length r
theorem Vals.get : ∀ {xs : List V} {us : List Value} {i : Nat} {x : V}, Vals xs us → xs[i]? = some x → ∃ u, us[i]? = some u ∧ RelV x u
  | _, _, _, _, .nil, e => by simp at e
  | _, _, 0, _, .cons r _, e => by simp at e; subst e; exact ⟨_, rfl, r⟩
  | _, _, i + 1, x, .cons _ t, e => by
    obtain ⟨u, h1, h2⟩ := Vals.get (i := i) (x := x) t (by simpa using e)
    exact ⟨u, by simpa using h1, h2⟩
theorem Vals.set {x : V} {u : Value} (r : RelV x u) : ∀ {xs : List V} {us : List Value} (i : Nat), Vals xs us → Vals (xs.set i x) (us.set i u)
  | _, _, _, .nil => .nil
  | _, _, 0, .cons _ t => .cons r t
  | _, _, i + 1, .cons q t => .cons q (Vals.set r i t)
theorem Vals.append : ∀ {xs ys : List V} {us ws : List Value}, Vals xs us → Vals ys ws → Vals (xs ++ ys) (us ++ ws)
  | _, _, _, _, .nil, s => s
  | _, _, _, _, .cons r t, s => .cons r (Vals.append t s)
theorem Vals.take : ∀ {xs : List V} {us : List Value} (n : Nat), Vals xs us → Vals (xs.take n) (us.take n)
  | _, _, 0, _ => .nil
  | _, _, _ + 1, .nil => .nil
  | _, _, n + 1, .cons r t => .cons r (Vals.take n t)
theorem Vals.drop : ∀ {xs : List V} {us : List Value} (n : Nat), Vals xs us → Vals (xs.drop n) (us.drop n)
  | _, _, 0, r => r
  | _, _, _ + 1, .nil => .nil
  | _, _, n + 1, .cons _ t => Vals.drop n t
def RelO : Option V → Option Value → Prop
  | some v, some u => RelV v u
  | none, none => True
  | _, _ => False
def KV {κ : Type} : List (κ × V) → List (κ × Value) → Prop := Paired fun (p : κ × V) (q : κ × Value) => p.1 = q.1 ∧ RelV p.2 q.2
def kV : Key → V
  | .inl i => .int i
  | .inr x => .str x
inductive HO where
  | lst (xs : List V)
  | tup (xs : List V)
  | dK (kvs : List (Key × V)) | dT (kvs : List (List Key × V))
  | set (S : Int → Bool) (n : Nat)
  | ins (C dx : Addr) (fs : List (Str × V))
  | own (x : Addr)
  | xd (fs : List (Str × V))
  | met (f x : Addr)
  | rng (lo hi : Int)
  | frz (o : Obj) (u : HO)
  | tbl (ps : Array Value)
  | ext (φ : Heap → Prop)
abbrev Hp := Addr → Option HO
def upd (H : Hp) (a : Addr) (o : HO) : Hp := fun b => if b = a then some o else H b
theorem upd_same {H : Hp} {a : Addr} {o : HO} : upd H a o a = some o := by unfold upd; rw [if_pos rfl]
theorem upd_ne {H : Hp} {a b : Addr} {o : HO} (h : b ≠ a) : upd H a o b = H b := by unfold upd; rw [if_neg h]
theorem upd_upd {H : Hp} {a : Addr} {o u : HO} : upd (upd H a o) a u = upd H a u := by
  funext b; unfold upd; split <;> rfl
theorem ne_of {H : Hp} {a b : Addr} {o u : HO} (h : H a = some o) (h' : H b = some u) (d : o ≠ u) : a ≠ b := by
  intro e; subst e; rw [h] at h'; exact d (Option.some.inj h')
theorem ne_of_none {H : Hp} {a b : Addr} {o : HO} (h : H a = some o) (h' : H b = none) : a ≠ b := by
  intro e; subst e; rw [h] at h'; cases h'
def NoD (h : Heap) (a : Addr) : Prop := ∀ o, h.get? a = some o → o.dict = none
theorem nod_push (h : Heap) (its : Array Value) : NoD (h.push { cls := .type "tuple", data := .seq its }) h.objs.size := fun o e => by
  rw [Heap.get?_push_size _ rfl] at e
  cases e
  rfl
section
variable (P : Program) (w : World)
def ObjOk (H : Hp) (h : Heap) (a : Addr) : HO → Prop
  | .lst xs => xs.length ≤ sizeLine ∧ ∃ (its : List Value) (n : Nat), Vals xs its ∧ h.get? a = some { cls := .type "list", data := .seq its.toArray n }
  | .tup xs => (xs.length ≤ sizeLine ∧ NoD h a) ∧ ∃ its : List Value, Vals xs its ∧ IsTup h a its.toArray
  | .dK kvs => kvs.length ≤ sizeLine ∧ (a == sysModules) = false ∧ ∃ vs, KV kvs vs ∧ h.DictOf (mixKind P w) a vs
  | .dT kvs => kvs.length ≤ sizeLine ∧ (a == sysModules) = false ∧ ∃ xs : List (List Key × Addr × Value),
      Paired (fun (p : List Key × V) (q : List Key × Addr × Value) => p.1 = q.1 ∧ H q.2.1 = some (.tup (p.1.map kV)) ∧ RelV p.2 q.2.2) kvs xs ∧
      ∃ o es ep, h.get? a = some o ∧ o.ExactDict ∧ o.data = .dict es ep ∧ es.toList = xs.map (entryOfKey (tupleKind (mixKind P w))) ∧ (xs.map (·.1)).Nodup
  | .set S n => h.SetOf (intKind P w) a S n
  | .ins C dx fs => H dx = some (.own a) ∧ fs.length ≤ 1000 ∧ dx ≠ a ∧ h.get? a = some (PySem.W.instObj C dx) ∧
      ∃ mA, h.Ns1 dx mA ∧ (∀ f, RelO (fs.lookup f) (mA f)) ∧ PySem.Within mA (fs.map (·.1))
  | .own _ => ∃ o, h.get? a = some o
  | .xd fs => ∃ mA, h.Ns1 a mA ∧ ∀ f, RelO (fs.lookup f) (mA f)
  | .rng lo hi => ∃ t u v, h.get? a = some { cls := .type "range", data := .fields #[.int lo t, .int hi u, .int 1 v] }
  | .frz o u => h.get? a = some o ∧ ObjOk H h a u
  | .tbl ps => h.get? a = some { cls := .none, data := .fields ps }
  | .met f x => h.get? a = some (PySem.W.methodObj (.ref f) (.ref x))
  | .ext φ => φ h ∧ (∃ o, h.get? a = some o) ∧ ∀ h1 h2 : Heap, φ h1 → (∀ o, h1.get? a = some o → h2.get? a = some o) → φ h2
def HOk (H : Hp) (h : Heap) : Prop := ∀ a o, H a = some o → ObjOk P w H h a o
end
section
variable {P : Program} {w : World} {H H' : Hp} {h h' : Heap} {a : Addr} {o : HO}
theorem ObjOk.lt (x : ObjOk P w H h a o) : a < h.objs.size := by
  cases o with
  | lst xs => obtain ⟨_, _, _, _, e⟩ := x; exact Heap.lt_size e
  | tup xs => obtain ⟨_, _, _, p⟩ := x; exact p.lt
  | dK kvs => obtain ⟨_, _, _, _, o, _, _, e, _⟩ := x; exact Heap.lt_size e
  | dT kvs => obtain ⟨_, _, _, _, o, _, _, e, _⟩ := x; exact Heap.lt_size e
  | set S n => obtain ⟨o, _, _, _, e, _⟩ := x; exact Heap.lt_size e
  | ins C dx fs => obtain ⟨_, _, _, e, _⟩ := x; exact Heap.lt_size e
  | own y => obtain ⟨_, e⟩ := x; exact Heap.lt_size e
  | xd fs => obtain ⟨_, ⟨_, _, _, e, _⟩, _⟩ := x; exact Heap.lt_size e
  | rng lo hi => obtain ⟨_, _, _, e⟩ := x; exact Heap.lt_size e
  | frz ob u => obtain ⟨e, _⟩ := x; exact Heap.lt_size e
  | tbl ps => exact Heap.lt_size (show h.get? a = some _ from x)
  | met f y => exact Heap.lt_size (show h.get? a = some _ from x)
  | ext φ => obtain ⟨_, ⟨_, e⟩, _⟩ := x; exact Heap.lt_size e
theorem Paired.mapP {α β : Type} {F G : α → β → Prop} : ∀ {l₁ : List α} {l₂ : List β}, Paired F l₁ l₂ → (∀ a b, F a b → G a b) → Paired G l₁ l₂
  | _, _, .nil, _ => .nil
  | _, _, .cons r t, f => .cons (f _ _ r) (Paired.mapP t f)
theorem ObjOk.stay (x : ObjOk P w H h a o) (k : ∀ b u, (b = a ∨ H b = some (.own a)) → h.get? b = some u → h'.get? b = some u)
    (ho : ∀ b, H b = some (.own a) → H' b = some (.own a)) (ht : ∀ b xs, H b = some (.tup xs) → H' b = some (.tup xs)) : ObjOk P w H' h' a o := by
  induction o with
  | lst xs => obtain ⟨z, its, n, r, e⟩ := x; exact ⟨z, its, n, r, k _ _ (.inl rfl) e⟩
  | tup xs =>
    obtain ⟨z, its, r, ob, e, c⟩ := x
    have e' := k _ _ (.inl rfl) e
    exact ⟨⟨z.1, fun o q => by rw [e'] at q; cases q; exact z.2 _ e⟩, its, r, ob, e', c⟩
  | dK kvs => obtain ⟨z, y, vs, r, ob, es, ep, e, c⟩ := x; exact ⟨z, y, vs, r, ob, es, ep, k _ _ (.inl rfl) e, c⟩
  | dT kvs =>
    obtain ⟨z, y, xs, r, ob, es, ep, e, c⟩ := x
    exact ⟨z, y, xs, Paired.mapP r fun p q z => ⟨z.1, ht _ _ z.2.1, z.2.2⟩, ob, es, ep, k _ _ (.inl rfl) e, c⟩
  | set S n => obtain ⟨ob, es, ep, t, e, c⟩ := x; exact ⟨ob, es, ep, t, k _ _ (.inl rfl) e, c⟩
  | ins C dx fs =>
    obtain ⟨d, z, ne, e, mA, ⟨od, es, ep, e2, c⟩, r⟩ := x
    exact ⟨ho _ d, z, ne, k _ _ (.inl rfl) e, mA, ⟨od, es, ep, k _ _ (.inr d) e2, c⟩, r⟩
  | own y => obtain ⟨ob, e⟩ := x; exact ⟨ob, k _ _ (.inl rfl) e⟩
  | xd fs => obtain ⟨mA, ⟨od, es, ep, e, c⟩, r⟩ := x; exact ⟨mA, ⟨od, es, ep, k _ _ (.inl rfl) e, c⟩, r⟩
  | rng lo hi => obtain ⟨t, u, v, e⟩ := x; exact ⟨t, u, v, k _ _ (.inl rfl) e⟩
  | frz ob u ih => obtain ⟨e, q⟩ := x; exact ⟨k _ _ (.inl rfl) e, ih q⟩
  | tbl ps =>
    have e : h.get? a = some { cls := .none, data := .fields ps } := x
    show h'.get? a = some { cls := .none, data := .fields ps }
    exact k a _ (.inl rfl) e
  | met f y =>
    have e : h.get? a = some (PySem.W.methodObj (.ref f) (.ref y)) := x
    show h'.get? a = some (PySem.W.methodObj (.ref f) (.ref y))
    exact k a _ (.inl rfl) e
  | ext φ => obtain ⟨p, ⟨o, e⟩, st⟩ := x; exact ⟨st _ _ p fun o q => k _ _ (.inl rfl) q, ⟨o, k _ _ (.inl rfl) e⟩, st⟩
theorem HOk.lt (x : HOk P w H h) (e : H a = some o) : a < h.objs.size := (x a o e).lt
theorem HOk.fresh (x : HOk P w H h) (e : h.objs.size ≤ a) : H a = none := by
  cases q : H a with
  | none => rfl
  | some u => exact absurd (Nat.lt_of_lt_of_le (x.lt q) e) (Nat.lt_irrefl _)
theorem HOk.kept (x : HOk P w H h) (k : ∀ b u, h.get? b = some u → h'.get? b = some u) : HOk P w H h' := fun a o e =>
  (x a o e).stay (fun b u _ q => k b u q) (fun _ q => q) fun _ _ q => q
theorem HOk.laid (x : HOk P w H h) (k : ∀ b u, h.get? b = some u → h'.get? b = some u) (hp : h.objs.size ≤ a) (new : ObjOk P w (upd H a o) h' a o) : HOk P w (upd H a o) h' := fun b u e => by
  have hn := x.fresh hp
  by_cases hb : b = a
  · subst hb; rw [upd_same] at e; cases e; exact new
  · rw [upd_ne hb] at e
    exact (x b u e).stay (fun c v _ q => k c v q) (fun c q => by rw [upd_ne (ne_of_none q hn)]; exact q) fun c xs q => by rw [upd_ne (ne_of_none q hn)]; exact q
end
def Rd (H : Hp) (a : Addr) (u : HO) : Prop := H a = some u ∨ ∃ o, H a = some (.frz o u)
theorem Rd.ok {P : Program} {w : World} {H : Hp} {h : Heap} {a : Addr} {u : HO} (r : Rd H a u) (x : HOk P w H h) : ObjOk P w H h a u := by
  rcases r with r | ⟨o, r⟩
  · exact x a u r
  · obtain ⟨_, q⟩ := x a _ r
    exact q
def Mut : Option HO → Prop
  | some (.lst _) => True
  | some (.dK _) => True
  | some (.dT _) => True
  | some (.set _ _) => True
  | some (.ins _ _ _) => True
  | some (.ext _) => True
  | _ => False
section
variable {P : Program} {w : World} {H : Hp} {h h' : Heap} {x e : Addr} {o' : HO}
theorem HOk.write (ok : HOk P w H h) (mu : Mut (H x)) (he : e = x ∨ H e = some (.own x)) (k : ∀ b u, b ≠ e → h.get? b = some u → h'.get? b = some u) (heo : ∃ u, h'.get? e = some u)
    (new : ObjOk P w (upd H x o') h' x o') : HOk P w (upd H x o') h' := fun b u q => by
  have nown : ∀ c y, H c = some (.own y) → c ≠ x := fun c y r z => by subst z; rw [r] at mu; exact mu
  have ntup : ∀ c xs, H c = some (.tup xs) → c ≠ x := fun c xs r z => by subst z; rw [r] at mu; exact mu
  by_cases hb : b = x
  · subst hb; rw [upd_same] at q; cases q; exact new
  · rw [upd_ne hb] at q
    by_cases hbe : b = e
    · have q' : H b = some (.own x) := by
        rcases he with z | z
        · exact absurd (hbe.trans z) hb
        · rw [hbe]; exact z
      rw [q] at q'; cases q'
      obtain ⟨v, hv⟩ := heo
      exact ⟨v, by rw [hbe]; exact hv⟩
    · refine (ok b u q).stay (fun c v hc r => k c v ?_ r) (fun c r => by rw [upd_ne (nown c b r)]; exact r) fun c xs r => by rw [upd_ne (ntup c xs r)]; exact r
      rcases hc with rfl | hc
      · exact hbe
      · rintro rfl
        rcases he with z | z
        · exact nown c b hc z
        · rw [hc] at z; cases z; exact hb rfl
end
structure Un (fs ex : List Addr) (H H' : Hp) (h h' : Heap) : Prop where
  keep : ∀ b o, h.get? b = some o → H b = none → b ∉ fs → b ∉ ex → h'.get? b = some o
  slot : ∀ b o, h.get? b = some o → H b = none → b ∈ fs → b ∉ ex → ∃ sl, h'.get? b = some { o with slots := sl }
  free : ∀ b o, h.get? b = some o → H b = none → b ∉ ex → H' b = none
  there : ∀ b o, h.get? b = some o → b ∉ ex → ∃ o', h'.get? b = some o'
  tups : ∀ b xs, H b = some (.tup xs) → H' b = some (.tup xs)
  frzs : ∀ b o u, H b = some (.frz o u) → H' b = some (.frz o u)
  tbls : ∀ b ps, H b = some (.tbl ps) → ∃ more, H' b = some (.tbl (ps ++ more))
section
variable {fs fs' ex ex' : List Addr} {H H1 H2 : Hp} {h h1 h2 h' : Heap} {a x e : Addr} {o : HO}
theorem Un.any (u : Un fs ex H H1 h h1) {b : Addr} {ob : Obj} (q : h.get? b = some ob) (n : H b = none) (hx : b ∉ ex) : ∃ sl, h1.get? b = some { ob with slots := sl } := by
  by_cases hb : b ∈ fs
  · exact u.slot b ob q n hb hx
  · exact ⟨ob.slots, u.keep b ob q n hb hx⟩
theorem Un.kept (k : ∀ b u, h.get? b = some u → h'.get? b = some u) : Un fs ex H H h h' :=
  ⟨fun b ob q _ _ _ => k b ob q, fun b ob q _ _ _ => ⟨ob.slots, k b ob q⟩, fun _ _ _ n _ => n, fun b ob q _ => ⟨ob, k b ob q⟩, fun _ _ q => q, fun _ _ _ q => q, fun _ ps q => ⟨#[], by rw [q]; simp⟩⟩
theorem Un.refl : Un fs ex H H h h := Un.kept fun _ _ q => q
theorem Un.laid (k : ∀ b u, h.get? b = some u → h'.get? b = some u) (hp : h.objs.size ≤ a) (hn : H a = none) : Un fs ex H (upd H a o) h h' where
  keep := fun b u q _ _ _ => k b u q
  slot := fun b u q _ _ _ => ⟨u.slots, k b u q⟩
  free := fun b u q n _ => by rw [upd_ne (Nat.ne_of_lt (Nat.lt_of_lt_of_le (Heap.lt_size q) hp))]; exact n
  there := fun b u q _ => ⟨u, k b u q⟩
  tups := fun b xs q => by rw [upd_ne (ne_of_none q hn)]; exact q
  frzs := fun b u xs q => by rw [upd_ne (ne_of_none q hn)]; exact q
  tbls := fun b ps q => ⟨#[], by rw [upd_ne (ne_of_none q hn), q]; simp⟩
theorem Un.write (mu : Mut (H x)) (he : e = x ∨ H e = some (.own x)) (k : ∀ b u, b ≠ e → h.get? b = some u → h'.get? b = some u) (heo : ∃ u, h'.get? e = some u) : Un fs ex H (upd H x o) h h' := by
  have hx : ∀ b, H b = none → b ≠ x := fun b n z => by subst z; rw [n] at mu; exact mu
  have hb : ∀ b, H b = none → b ≠ e := fun b n z => by
    subst z
    rcases he with r | r
    · exact hx b n r
    · rw [n] at r; cases r
  have hm : ∀ b u, H b = some u → ¬ Mut (some u) → b ≠ x := fun b u q nm z => by subst z; rw [q] at mu; exact nm mu
  refine ⟨fun b u q n _ _ => k b u (hb b n) q, fun b u q n _ _ => ⟨u.slots, k b u (hb b n) q⟩, fun b u q n _ => by rw [upd_ne (hx b n)]; exact n, fun b u q _ => ?_,
    fun b xs q => by rw [upd_ne (hm b _ q fun z => z)]; exact q, fun b u xs q => by rw [upd_ne (hm b _ q fun z => z)]; exact q, fun b ps q => ⟨#[], by rw [upd_ne (hm b _ q fun z => z), q]; simp⟩⟩
  by_cases hbe : b = e
  · subst hbe; exact heo
  · exact ⟨u, k b u hbe q⟩
end
def trk (h : Heap) (H : Hp) : List Addr := (List.range h.objs.size).filter fun a => (H a).isSome
def hidT (h : Heap) (H : Hp) : Heap := PySem.W.hideAll h (trk h H)
theorem hidT_size (h : Heap) (H : Hp) : (hidT h H).objs.size = h.objs.size := PySem.W.hideAll_size _ _
theorem hidT_get {h : Heap} {H : Hp} {b : Addr} {o : Obj} (e : h.get? b = some o) (n : H b = none) : (hidT h H).get? b = some o :=
  PySem.W.hideAll_get _ e fun hm => by
    have q : (H b).isSome = true := (List.mem_filter.mp hm).2
    rw [n] at q; simp at q
theorem of_hidT {h : Heap} {H : Hp} {b : Addr} {o : Obj} (e : (hidT h H).get? b = some o) : h.get? b = some o ∧ H b = none := by
  have e' : h.get? b = some o := PySem.W.of_hideAll (trk h H) e
  refine ⟨e', ?_⟩
  cases q : H b with
  | none => rfl
  | some x =>
    have hm : b ∈ trk h H := List.mem_filter.mpr ⟨List.mem_range.mpr (Heap.lt_size e'), by simp [q]⟩
    have z : (hidT h H).get? b = none := PySem.W.hideAll_none (trk h H) hm
    rw [z] at e; cases e
def allNews (g h : Heap) (L : Addr) : List (Addr × Obj) := (List.range h.objs.size).filterMap fun a => if a = L ∨ (g.get? a).isSome = true then none else (h.get? a).map fun o => (a, o)
def rest (g h : Heap) (L d : Addr) : List (Addr × Obj) := (allNews g h L).filter fun p => decide (p.1 ≠ d)
end L2
namespace L2
open PySem PySem.Spec PyProof.Rows
structure Mod (K : PySem.W.Frag) (mg : Str → Option Value) (base : Heap) : Prop where
  kin : K.In base
  glob : base.Ns mainGlobals mg
  blt : ∃ mb, base.Ns builtinsNs mb ∧ ∀ x : Str, x ≠ "__name__" → mb x = bootBuiltins x
  nolimit : base.NoLimit
/-- the context: a def's body (or a comprehension's block) running. base: fixed through the whole law; s₀, H₀: the entry; outer: the frames whose slots others may change (a def's callers); stack: all frames that run;
   ex: iterators that were made ahead of the entry and are walked here (a comprehension's); fn: the names whose cells were made at the entry (a def: all; a comprehension's block: its own); calm: not within an except suite; pn: pins that every state bears; xe: what is wanted of an exception that leaves the code -/
structure Cx where
  prog : Program
  w : World
  K : PySem.W.Frag
  mg : Str → Option Value
  base : Heap
  A : Around
  N : List Str
  s₀ : Shared
  H₀ : Hp
  env : Env
  outer : List Env
  stack : List Env
  ex : List Addr
  fn : Str → Bool
  calm : Bool
  pn : List (Addr × Obj)
  xe : Value → Shared → Prop
def frs (l : List Env) : List Addr := l.filterMap (·.frame)
abbrev Cx.fs (X : Cx) : List Addr := frs X.outer
def Vis (sc : Scope) (x : Str) : Prop := sc.names.lookup x = some .local ∨ sc.names.lookup x = some .cell ∨ sc.names.lookup x = some .free
def Loc (sc : Scope) (x : Str) : Prop := sc.names.lookup x = some .local ∨ sc.names.lookup x = some .cell
def Look (env : Env) (h : Heap) (m : Str → Option Value) (x : Str) (u : Value) : Prop :=
  (env.kindOf x = some .local ∧ m x = some u) ∨ ((env.kindOf x = some .cell ∨ env.kindOf x = some .free) ∧ ∃ c, env.cells.lookup x = some c ∧ h.IsCell c (some u))
structure Cx.Ok (X : Cx) : Prop where
  mod : Mod X.K X.mg X.base
  kind : X.env.scope.kind = .function
  glob : X.env.globals = mainGlobals
  blt : X.env.builtins = builtinsNs
  above : X.s₀.heap.objs.size ≤ X.env.locals
  inj : ∀ x y c, X.env.cells.lookup x = some c → X.env.cells.lookup y = some c → x = y
  has : ∀ x, (X.env.kindOf x = some .cell ∨ X.env.kindOf x = some .free) → ∃ c, X.env.cells.lookup x = some c
  cab : ∀ x c, X.fn x = true → X.env.cells.lookup x = some c → X.s₀.heap.objs.size ≤ c
  hd : X.calm = true → X.A.handled = none
  frames : X.A.frames = some X.stack
  stk : X.stack = X.outer ∨ (X.stack = X.env :: X.outer ∧ X.env.frame = some X.env.locals)
  exf : ∀ b ∈ X.ex, b ≠ X.env.locals ∧ ∀ x c, X.env.cells.lookup x = some c → c ≠ b
  bs : ∀ b o, X.base.get? b = some o → X.s₀.heap.get? b = some o ∧ X.H₀ b = none
  bsz : X.base.objs.size ≤ X.s₀.heap.objs.size
  noex : ∀ b o, X.base.get? b = some o → b ∉ X.ex
  exfs : ∀ b ∈ X.ex, b ∉ X.fs
  funs : X.s₀.heap.FunFrames X.base X.outer
  frf : ∀ b ∈ X.fs, X.H₀ b = none
structure Inv (X : Cx) (pins : List (Addr × Obj)) (σ : List (Option V)) (H : Hp) (s : Shared) : Prop where
  ok : X.Ok
  os : s.os = X.s₀.os
  bare : AllBare s.gens
  base : Un X.fs X.ex X.H₀ H X.s₀.heap s.heap
  loc : ∃ m, s.heap.Ns X.env.locals m ∧ ∀ (i : Nat) (x : Str) (v : V), X.N[i]? = some x → σ[i]? = some (some v) → Vis X.env.scope x → ∃ u, RelV v u ∧ Look X.env s.heap m x u
  cell : ∀ x c, X.env.cells.lookup x = some c → ∃ v, s.heap.IsCell c v
  free : H X.env.locals = none
  freeC : ∀ x c, X.env.cells.lookup x = some c → H c = none
  pin : ∀ p ∈ X.pn ++ pins, s.heap.get? p.1 = some p.2 ∧ H p.1 = none ∧ p.1 ≠ X.env.locals ∧ p.1 ∉ X.fs ∧ ∀ v, p.2.data ≠ .cell v
  hok : HOk X.prog X.w H s.heap
  len : σ.length = X.N.length
section
variable {X : Cx} {pins : List (Addr × Obj)} {σ : List (Option V)} {H H' : Hp} {s : Shared} {h' : Heap}
theorem Cx.Ok.nofr (ok : X.Ok) {b : Addr} {o : Obj} (e : X.base.get? b = some o) : b ∉ X.fs := fun hb => by
  have := (ok.funs.mem hb).1
  rw [e] at this; cases this
theorem Inv.bs (I : Inv X pins σ H s) : ∀ b o, X.base.get? b = some o → s.heap.get? b = some o ∧ H b = none := fun b o e =>
  ⟨I.base.keep b o (I.ok.bs b o e).1 (I.ok.bs b o e).2 (I.ok.nofr e) (I.ok.noex b o e), I.base.free b o (I.ok.bs b o e).1 (I.ok.bs b o e).2 (I.ok.noex b o e)⟩
theorem Inv.bk (I : Inv X pins σ H s) : ∀ b o, X.base.get? b = some o → s.heap.get? b = some o := fun b o e => (I.bs b o e).1
theorem Inv.mod (I : Inv X pins σ H s) : Mod X.K X.mg X.base := I.ok.mod
theorem Inv.kIn (I : Inv X pins σ H s) : X.K.In s.heap := I.ok.mod.kin.keeps I.bk
theorem Inv.lt (I : Inv X pins σ H s) : X.env.locals < s.heap.objs.size := let ⟨_, hn, _⟩ := I.loc; hn.lt
theorem Inv.sz (I : Inv X pins σ H s) : X.s₀.heap.objs.size ≤ s.heap.objs.size := Nat.le_trans I.ok.above (Nat.le_of_lt I.lt)
theorem Inv.nofs (I : Inv X pins σ H s) {a : Addr} (h : s.heap.objs.size ≤ a) : a ∉ X.fs := fun hb => by
  obtain ⟨_, o, ho, _⟩ := I.ok.funs.mem hb
  exact absurd (Nat.lt_of_lt_of_le (Heap.lt_size ho) (Nat.le_trans I.sz h)) (Nat.lt_irrefl _)
theorem Inv.cne (I : Inv X pins σ H s) : ∀ x c, X.env.cells.lookup x = some c → c ≠ X.env.locals := fun x c e z => by
  obtain ⟨v, o, ho, hd⟩ := I.cell x c e
  obtain ⟨m, ⟨o', es, ep, ho', hd', _⟩, _⟩ := I.loc
  rw [z, ho'] at ho; cases ho; rw [hd'] at hd; cases hd
theorem Inv.funs (I : Inv X pins σ H s) : s.heap.FunFrames X.base X.outer := by
  have all : ∀ (l : List Env), (∀ b ∈ frs l, b ∈ X.fs) → X.s₀.heap.FunFrames X.base l → s.heap.FunFrames X.base l := by
    intro l
    induction l with
    | nil => intro _ _; trivial
    | cons env r ih =>
      intro hs hl
      obtain ⟨hk, ⟨L, o, hf, hn, ho, hd⟩, hr⟩ := hl
      have hL : L ∈ X.fs := hs L (by unfold frs; rw [List.filterMap_cons, hf]; exact List.mem_cons_self)
      obtain ⟨sl, e⟩ := I.base.slot L o ho (I.ok.frf L hL) hL fun z => I.ok.exfs L z hL
      exact ⟨hk, ⟨L, _, hf, hn, e, hd⟩, ih (fun b hb => hs b (by unfold frs; rw [List.filterMap_cons, hf]; exact List.mem_cons_of_mem _ hb)) hr⟩
  exact all X.outer (fun _ hb => hb) I.ok.funs
theorem Inv.stack (I : Inv X pins σ H s) : s.heap.FunFrames X.base X.stack := by
  rcases I.ok.stk with e | ⟨e, hf⟩
  · rw [e]; exact I.funs
  · rw [e]
    obtain ⟨m, hn, _⟩ := I.loc
    refine .cons (by rw [I.ok.kind]; decide) hf hn ?_ I.funs
    exact Heap.get?_none_of_le (Nat.le_trans I.ok.bsz I.ok.above)
theorem Inv.stkSub (I : Inv X pins σ H s) : ∀ b ∈ frs X.stack, b ∈ X.env.locals :: X.fs := fun b hb => by
  rcases I.ok.stk with e | ⟨e, hf⟩
  · rw [e] at hb; exact List.mem_cons_of_mem _ hb
  · rw [e] at hb
    unfold frs at hb
    rw [List.filterMap_cons, hf] at hb
    exact hb
theorem Inv.stkFree (I : Inv X pins σ H s) : ∀ b ∈ frs X.stack, H b = none := fun b hb => by
  rcases List.mem_cons.mp (I.stkSub b hb) with e | hb
  · rw [e]; exact I.free
  · obtain ⟨_, o, ho, _⟩ := I.ok.funs.mem hb
    exact I.base.free b o ho (I.ok.frf b hb) fun z => I.ok.exfs b z hb
theorem Inv.step {g' : Array GenState} {t' : Nat} {d' : Drawn} {ch : List Addr} (I : Inv X pins σ H s)
    (hch : ∀ b ∈ ch, (b ∈ X.ex ∨ X.s₀.heap.objs.size ≤ b) ∧ b ≠ X.env.locals ∧ (∀ x c, X.env.cells.lookup x = some c → c ≠ b) ∧ ∀ p ∈ X.pn ++ pins, p.1 ≠ b)
    (keep : ∀ b o, b ≠ X.env.locals → b ∉ X.fs → b ∉ ch → s.heap.get? b = some o → H b = none → h'.get? b = some o)
    (slot : ∀ b o, b ≠ X.env.locals → b ∈ X.fs → b ∉ ch → s.heap.get? b = some o → H b = none → ∃ sl, h'.get? b = some { o with slots := sl }) (free : ∀ b o, b ∉ ch → s.heap.get? b = some o → H b = none → H' b = none)
    (there : ∀ b o, b ∉ ch → s.heap.get? b = some o → ∃ o', h'.get? b = some o')
    (tups : ∀ b xs, H b = some (.tup xs) → H' b = some (.tup xs)) (frzs : ∀ b o u, H b = some (.frz o u) → H' b = some (.frz o u)) (tbls : ∀ b ps, H b = some (.tbl ps) → ∃ more, H' b = some (.tbl (ps ++ more)))
    (ns : ∀ m, s.heap.Ns X.env.locals m → h'.Ns X.env.locals m) (hok : HOk X.prog X.w H' h') (hg : AllBare g') :
    Inv X pins σ H' { s with heap := h', gens := g', drawn := d', toks := t' } := by
  have neL : ∀ b o, X.s₀.heap.get? b = some o → b ≠ X.env.locals := fun b o e => Nat.ne_of_lt (Nat.lt_of_lt_of_le (Heap.lt_size e) I.ok.above)
  have neC : ∀ b o, X.s₀.heap.get? b = some o → b ∉ X.ex → b ∉ ch := fun b o e hx hb => by
    rcases (hch b hb).1 with z | z
    · exact hx z
    · exact absurd (Nat.lt_of_lt_of_le (Heap.lt_size e) z) (Nat.lt_irrefl _)
  have cellK : ∀ x c, X.env.cells.lookup x = some c → ∀ v, s.heap.IsCell c v → h'.IsCell c v := fun x c e v ⟨o, ho, hd⟩ => by
    have nch : c ∉ ch := fun z => (hch c z).2.2.1 x c e rfl
    by_cases hc : c ∈ X.fs
    · obtain ⟨sl, q⟩ := slot c o (I.cne x c e) hc nch ho (I.freeC x c e)
      exact ⟨_, q, hd⟩
    · exact ⟨o, keep c o (I.cne x c e) hc nch ho (I.freeC x c e), hd⟩
  refine ⟨I.ok, I.os, hg, ⟨fun b o e n hb hx => ?_, fun b o e n hb hx => ?_, fun b o e n hx => ?_, fun b o e hx => ?_, fun b xs e => tups b xs (I.base.tups b xs e), fun b o xs e => frzs b o xs (I.base.frzs b o xs e), fun b ps e => ?_⟩, ?_, fun x c e => ?_, ?_, fun x c e => ?_, fun p hp => ?_, hok, I.len⟩
  · exact keep b o (neL b o e) hb (neC b o e hx) (I.base.keep b o e n hb hx) (I.base.free b o e n hx)
  · obtain ⟨sl, e1⟩ := I.base.slot b o e n hb hx
    obtain ⟨sl', e2⟩ := slot b _ (neL b o e) hb (neC b o e hx) e1 (I.base.free b o e n hx)
    exact ⟨sl', e2⟩
  · obtain ⟨o', e1⟩ := I.base.there b o e hx
    exact free b o' (neC b o e hx) e1 (I.base.free b o e n hx)
  · obtain ⟨o', e1⟩ := I.base.there b o e hx
    exact there b o' (neC b o e hx) e1
  · obtain ⟨m1, e1⟩ := I.base.tbls b ps e
    obtain ⟨m2, e2⟩ := tbls b _ e1
    exact ⟨m1 ++ m2, by rw [e2, Array.append_assoc]⟩
  · obtain ⟨m, hn, hl⟩ := I.loc
    refine ⟨m, ns m hn, fun i x v e1 e2 e3 => ?_⟩
    obtain ⟨u, r, l⟩ := hl i x v e1 e2 e3
    refine ⟨u, r, ?_⟩
    rcases l with l | ⟨k, c, e, z⟩
    · exact .inl l
    · exact .inr ⟨k, c, e, cellK x c e _ z⟩
  · obtain ⟨v, z⟩ := I.cell x c e
    exact ⟨v, cellK x c e v z⟩
  · obtain ⟨m, ⟨o, _, _, ho, _⟩, _⟩ := I.loc
    exact free _ o (fun z => (hch _ z).2.1 rfl) ho I.free
  · obtain ⟨v, o, ho, hd⟩ := I.cell x c e
    exact free c o (fun z => (hch c z).2.2.1 x c e rfl) ho (I.freeC x c e)
  · obtain ⟨e, n, ne, nf, d⟩ := I.pin p hp
    have nch : p.1 ∉ ch := fun z => (hch p.1 z).2.2.2 p hp rfl
    exact ⟨keep p.1 p.2 ne nf nch e n, free p.1 p.2 nch e n, ne, nf, d⟩
theorem Inv.un {t' : Nat} (I : Inv X pins σ H s) (u : Un X.fs [] H H' s.heap h') (hok : HOk X.prog X.w H' h') : Inv X pins σ H' { s with heap := h', toks := t' } := by
  obtain ⟨m, ⟨o, es, ep, ho, r⟩, _⟩ := id I.loc
  obtain ⟨sl, hL⟩ := u.any ho I.free (by simp)
  exact I.step (g' := s.gens) (d' := s.drawn) (ch := []) (fun _ z => nomatch z) (fun b o _ hb _ e n => u.keep b o e n hb (by simp)) (fun b o _ hb _ e n => u.slot b o e n hb (by simp)) (fun b o _ e n => u.free b o e n (by simp)) (fun b o _ e => u.there b o e (by simp)) u.tups u.frzs u.tbls (fun m' hm => by
    obtain ⟨o', es', ep', ho', r'⟩ := hm
    rw [ho] at ho'; cases ho'
    exact ⟨_, es', ep', hL, r'⟩) hok I.bare
theorem Inv.call {g' : Array GenState} {t' : Nat} {d' : Drawn} {ch : List Addr} (I : Inv X pins σ H s) (u : Un (frs X.stack) ch H H' s.heap h') (hok : HOk X.prog X.w H' h') (hg : AllBare g')
    (hch : ∀ b ∈ ch, (b ∈ X.ex ∨ X.s₀.heap.objs.size ≤ b) ∧ b ≠ X.env.locals ∧ (∀ x c, X.env.cells.lookup x = some c → c ≠ b) ∧ ∀ p ∈ X.pn ++ pins, p.1 ≠ b) :
    Inv X pins σ H' { s with heap := h', gens := g', drawn := d', toks := t' } := by
  obtain ⟨m, ⟨o, es, ep, ho, r⟩, _⟩ := id I.loc
  obtain ⟨sl, hL⟩ := u.any ho I.free fun z => (hch _ z).2.1 rfl
  exact I.step (ch := ch) hch (fun b o hL hb hc e n => u.keep b o e n (fun z => (List.mem_cons.mp (I.stkSub b z)).elim hL hb) hc) (fun b o _ _ hc e n => u.any e n hc) (fun b o hc e n => u.free b o e n hc) (fun b o hc e => u.there b o e hc) u.tups u.frzs u.tbls (fun m' hm => by
    obtain ⟨o', es', ep', ho', r'⟩ := hm
    rw [ho] at ho'; cases ho'
    exact ⟨_, es', ep', hL, r'⟩) hok hg
theorem Inv.turned {t' : Nat} {it : Addr} (I : Inv X pins σ H s) (k : ∀ b o, b ≠ it → s.heap.get? b = some o → h'.get? b = some o) (hn : H it = none) (hL : it ≠ X.env.locals)
    (h1 : it ∈ X.ex ∨ X.s₀.heap.objs.size ≤ it) (h2 : ∀ x c, X.env.cells.lookup x = some c → c ≠ it) (h3 : ∀ p ∈ X.pn ++ pins, p.1 ≠ it) : Inv X pins σ H { s with heap := h', toks := t' } := by
  have nit : ∀ b u, H b = some u → b ≠ it := fun b u e z => by rw [z, hn] at e; cases e
  refine I.step (g' := s.gens) (d' := s.drawn) (ch := [it]) (fun b hb => ?_) (fun b o _ _ hc e _ => k b o (fun z => hc (by simp [z])) e) (fun b o _ _ hc e _ => ⟨o.slots, k b o (fun z => hc (by simp [z])) e⟩) (fun _ _ _ _ n => n)
    (fun b o hc e => ⟨o, k b o (fun z => hc (by simp [z])) e⟩) (fun _ _ e => e) (fun _ _ _ e => e) (fun b ps e => ⟨#[], by rw [e]; simp⟩) (fun m hm => ?_) (fun b u e => ?_) I.bare
  · have e : b = it := by simpa using hb
    subst e
    exact ⟨h1, hL, h2, h3⟩
  · obtain ⟨o, es, ep, ho, r⟩ := hm
    exact ⟨o, es, ep, k _ o (Ne.symm hL) ho, r⟩
  · refine (I.hok b u e).stay (fun c v hc q => k c v ?_ q) (fun _ q => q) fun _ _ q => q
    rcases hc with z | z
    · rw [z]; exact nit b u e
    · exact nit c _ z
theorem Inv.tok (I : Inv X pins σ H s) (t : Nat) : Inv X pins σ H { s with toks := t } := I.un (h' := s.heap) (t' := t) Un.refl I.hok
theorem Inv.kept {t' : Nat} (I : Inv X pins σ H s) (k : ∀ b u, s.heap.get? b = some u → h'.get? b = some u) : Inv X pins σ H { s with heap := h', toks := t' } := I.un (Un.kept k) (I.hok.kept k)
theorem Inv.laid {a : Addr} {o : HO} {t' : Nat} (I : Inv X pins σ H s) (k : ∀ b u, s.heap.get? b = some u → h'.get? b = some u) (hp : s.heap.objs.size ≤ a) (new : ObjOk X.prog X.w (upd H a o) h' a o) :
    Inv X pins σ (upd H a o) { s with heap := h', toks := t' } := I.un (Un.laid k hp (I.hok.fresh hp)) (I.hok.laid k hp new)
theorem Inv.write {x e : Addr} {o : HO} {t' : Nat} (I : Inv X pins σ H s) (mu : Mut (H x)) (he : e = x ∨ H e = some (.own x)) (k : ∀ b u, b ≠ e → s.heap.get? b = some u → h'.get? b = some u) (heo : ∃ u, h'.get? e = some u)
    (new : ObjOk X.prog X.w (upd H x o) h' x o) : Inv X pins σ (upd H x o) { s with heap := h', toks := t' } := I.un (Un.write mu he k heo) (I.hok.write mu he k heo new)
theorem Inv.pins_of {pins' : List (Addr × Obj)} (I : Inv X pins σ H s) (h : ∀ p ∈ pins', s.heap.get? p.1 = some p.2 ∧ H p.1 = none ∧ p.1 ≠ X.env.locals ∧ p.1 ∉ X.fs ∧ ∀ v, p.2.data ≠ .cell v) : Inv X pins' σ H s :=
  ⟨I.ok, I.os, I.bare, I.base, I.loc, I.cell, I.free, I.freeC, fun p hp => (List.mem_append.mp hp).elim (fun z => I.pin p (List.mem_append_left _ z)) (h p), I.hok, I.len⟩
theorem nodup_ix {N : List Str} (hN : N.Nodup) {i j : Nat} {x : Str} (a : N[i]? = some x) (b : N[j]? = some x) : i = j := by
  obtain ⟨h1, e1⟩ := List.getElem?_eq_some_iff.mp a
  obtain ⟨h2, e2⟩ := List.getElem?_eq_some_iff.mp b
  exact (List.getElem_inj hN).mp (e1.trans e2.symm)
theorem store_ok2 {M : Model} {A : Around} {E : Value → Shared → Prop} {i : Nat} {x : Str} {v : V} {u : Value} {Q : Unit → Shared → Prop} (I : Inv X pins σ H s) (hN : X.N.Nodup) (hi : X.N[i]? = some x) (hx : Loc X.env.scope x) (r : RelV v u)
    (h : ∀ s', Inv X pins (σ.set i (some v)) H s' → (∃ a, Heap.SameBut a s.heap s'.heap ∧ (a = X.env.locals ∨ X.env.cells.lookup x = some a)) → Q () s') (hf : X.fn x = true ∨ X.env.scope.names.lookup x = some .local := by first | exact .inl rfl | exact .inr rfl | assumption) : wpAny M A (storeName X.env x u) Q E s := by
  obtain ⟨m, hn, hl⟩ := id I.loc
  have hcls : (X.env.scope.kind == .class || (X.env.scope.kind == .module && X.env.locals != X.env.globals)) = false := by rw [I.ok.kind]; rfl
  have hiσ : i < σ.length := by rw [I.len]; exact (List.getElem?_eq_some_iff.mp hi).1
  have cne := I.cne
  have tracked : ∀ {a : Addr} {h' : Heap}, (∃ o, s.heap.get? a = some o ∧ H a = none) → Heap.SameBut a s.heap h' → HOk X.prog X.w H h' := fun {a h'} ha hs b ob e => by
    obtain ⟨_, _, hfree⟩ := ha
    refine (I.hok b ob e).stay (fun c w' hc q => (hs.2 c ?_).trans q) (fun _ q => q) fun _ _ q => q
    rintro rfl
    rcases hc with rfl | hc
    · rw [hfree] at e; cases e
    · rw [hfree] at hc; cases hc
  rcases hx with hk | hk
  · refine wpAny_storeName_local hk hn (fun h' hn' hs => ?_) hcls
    obtain ⟨oL, _, _, hoL, _⟩ := id hn
    refine h _ ⟨I.ok, I.os, I.bare, ⟨fun b o e n hb hx => ?_, fun b o e n hb hx => ?_, I.base.free, fun b o e hx => ?_, I.base.tups, I.base.frzs, I.base.tbls⟩, ⟨_, hn', fun j y v' e1 e2 e3 => ?_⟩, fun y c e => ?_, I.free, I.freeC, fun p hp => ?_, tracked ⟨oL, hoL, I.free⟩ hs, by simpa using I.len⟩ ⟨_, hs, .inl rfl⟩
    · exact (hs.2 b (Nat.ne_of_lt (Nat.lt_of_lt_of_le (Heap.lt_size e) I.ok.above))).trans (I.base.keep b o e n hb hx)
    · obtain ⟨sl, e1⟩ := I.base.slot b o e n hb hx
      exact ⟨sl, (hs.2 b (Nat.ne_of_lt (Nat.lt_of_lt_of_le (Heap.lt_size e) I.ok.above))).trans e1⟩
    · obtain ⟨o', e1⟩ := I.base.there b o e hx
      exact ⟨o', (hs.2 b (Nat.ne_of_lt (Nat.lt_of_lt_of_le (Heap.lt_size e) I.ok.above))).trans e1⟩
    · by_cases hj : j = i
      · subst hj
        rw [hi] at e1; cases e1
        rw [List.getElem?_set_self hiσ] at e2
        cases e2
        exact ⟨u, r, .inl ⟨hk, by simp⟩⟩
      · rw [List.getElem?_set_ne (Ne.symm hj)] at e2
        obtain ⟨u', r', q⟩ := hl j y v' e1 e2 e3
        refine ⟨u', r', ?_⟩
        rcases q with ⟨k, e⟩ | ⟨k, c, e, z⟩
        · refine .inl ⟨k, ?_⟩
          have : y ≠ x := fun e => hj (nodup_ix hN e1 (e ▸ hi))
          simp [this, e]
        · exact .inr ⟨k, c, e, z.sameBut hs (cne y c e)⟩
    · obtain ⟨w', z⟩ := I.cell y c e
      exact ⟨w', z.sameBut hs (cne y c e)⟩
    · obtain ⟨e, n, ne, nf, d⟩ := I.pin p hp
      exact ⟨(hs.2 p.1 ne).trans e, n, ne, nf, d⟩
  · have hfn : X.fn x = true := by
      rcases hf with z | z
      · exact z
      · rw [z] at hk; cases hk
    obtain ⟨c, hc⟩ := I.ok.has x (.inl hk)
    obtain ⟨w', z⟩ := I.cell x c hc
    refine wpAny_storeName_cell I.ok.kind hk hc z (fun h' hc' hs => ?_)
    obtain ⟨oc, hoc, hocd⟩ := id z
    refine h { s with heap := h' } ⟨I.ok, I.os, I.bare, ⟨fun b o e n hb hx => ?_, fun b o e n hb hx => ?_, I.base.free, fun b o e hx => ?_, I.base.tups, I.base.frzs, I.base.tbls⟩, ⟨m, hn.sameBut hs (Ne.symm (cne x c hc)), fun j y v' e1 e2 e3 => ?_⟩, fun y c' e => ?_, I.free, I.freeC, fun p hp => ?_, tracked ⟨oc, hoc, I.freeC x c hc⟩ hs, by simpa using I.len⟩ ⟨c, hs, .inr hc⟩
    · exact (hs.2 b (Nat.ne_of_lt (Nat.lt_of_lt_of_le (Heap.lt_size e) (I.ok.cab x c hfn hc)))).trans (I.base.keep b o e n hb hx)
    · obtain ⟨sl, e1⟩ := I.base.slot b o e n hb hx
      exact ⟨sl, (hs.2 b (Nat.ne_of_lt (Nat.lt_of_lt_of_le (Heap.lt_size e) (I.ok.cab x c hfn hc)))).trans e1⟩
    · obtain ⟨o', e1⟩ := I.base.there b o e hx
      exact ⟨o', (hs.2 b (Nat.ne_of_lt (Nat.lt_of_lt_of_le (Heap.lt_size e) (I.ok.cab x c hfn hc)))).trans e1⟩
    · by_cases hj : j = i
      · subst hj
        rw [hi] at e1; cases e1
        rw [List.getElem?_set_self hiσ] at e2
        cases e2
        exact ⟨u, r, .inr ⟨.inl hk, c, hc, hc'⟩⟩
      · rw [List.getElem?_set_ne (Ne.symm hj)] at e2
        obtain ⟨u', r', q⟩ := hl j y v' e1 e2 e3
        refine ⟨u', r', ?_⟩
        rcases q with q | ⟨k, c', e, z'⟩
        · exact .inl q
        · refine .inr ⟨k, c', e, z'.sameBut hs ?_⟩
          rintro rfl
          exact hj (nodup_ix hN e1 (I.ok.inj _ _ _ e hc ▸ hi))
    · by_cases hcc : c' = c
      · subst hcc; exact ⟨_, hc'⟩
      · obtain ⟨w2, z2⟩ := I.cell y c' e
        exact ⟨w2, z2.sameBut hs hcc⟩
    · obtain ⟨e, n, ne, nf, d⟩ := I.pin p hp
      refine ⟨(hs.2 p.1 ?_).trans e, n, ne, nf, d⟩
      intro q
      rw [q, hoc] at e
      have q' : oc = p.2 := Option.some.inj e
      exact d w' (by rw [← q']; exact hocd)
theorem store_ok {M : Model} {A : Around} {E : Value → Shared → Prop} {i : Nat} {x : Str} {v : V} {u : Value} {Q : Unit → Shared → Prop} (I : Inv X pins σ H s) (hN : X.N.Nodup) (hi : X.N[i]? = some x) (hx : Loc X.env.scope x) (r : RelV v u)
    (h : ∀ s', Inv X pins (σ.set i (some v)) H s' → Q () s') (hf : X.fn x = true ∨ X.env.scope.names.lookup x = some .local := by first | exact .inl rfl | exact .inr rfl | assumption) : wpAny M A (storeName X.env x u) Q E s :=
  store_ok2 I hN hi hx r (fun s' I' _ => h s' I') hf
theorem Inv.call' {s' : Shared} {ch : List Addr} (I : Inv X pins σ H s) (ho : s'.os = s.os) (u : Un (frs X.stack) ch H H' s.heap s'.heap) (hok : HOk X.prog X.w H' s'.heap) (hg : AllBare s'.gens)
    (hch : ∀ b ∈ ch, (b ∈ X.ex ∨ X.s₀.heap.objs.size ≤ b) ∧ b ≠ X.env.locals ∧ (∀ x c, X.env.cells.lookup x = some c → c ≠ b) ∧ ∀ p ∈ X.pn ++ pins, p.1 ≠ b) : Inv X pins σ H' s' := by
  obtain ⟨h', g', d', t', o'⟩ := s'
  have e : o' = s.os := ho
  subst e
  exact I.call (g' := g') (t' := t') (d' := d') u hok hg hch
end
abbrev XK := Value → Option Addr → Hp → Prop
abbrev St := List (Option V)
abbrev VK := V → Hp → Prop
abbrev TE := St → Hp → VK → Prop
abbrev TT := St → Hp → (Bool → Hp → Prop) → Prop
abbrev TA := St → Hp → (List V → Hp → Prop) → Prop
structure Ends where
  nx : St → Hp → Prop
  rt : VK
  bk : St → Hp → Prop := fun _ _ => False
  ct : St → Hp → Prop := fun _ _ => False
abbrev TS := Ends → St → Hp → Prop
def EP (X : Cx) (pins : List (Addr × Obj)) (σ : St) (Q : VK) (u : Value) (s' : Shared) : Prop := ∃ v H', Inv X pins σ H' s' ∧ RelV v u ∧ Q v H'
def TP (X : Cx) (pins : List (Addr × Obj)) (σ : St) (Q : Bool → Hp → Prop) (b : Bool) (s' : Shared) : Prop := ∃ H', Inv X pins σ H' s' ∧ Q b H'
def AP (X : Cx) (pins : List (Addr × Obj)) (σ : St) (Q : List V → Hp → Prop) (us : List Value) (s' : Shared) : Prop := ∃ vs H', Inv X pins σ H' s' ∧ Vals vs us ∧ Q vs H'
def SP (X : Cx) (pins : List (Addr × Obj)) (D : Ends) (f : Flow) (s' : Shared) : Prop :=
  match f with
  | .next => ∃ σ' H', Inv X pins σ' H' s' ∧ D.nx σ' H'
  | .brk => ∃ σ' H', Inv X pins σ' H' s' ∧ D.bk σ' H'
  | .cont => ∃ σ' H', Inv X pins σ' H' s' ∧ D.ct σ' H'
  | .ret u => ∃ v σ' H', Inv X pins σ' H' s' ∧ RelV v u ∧ D.rt v H'
def PE (X : Cx) (e : Expr) (t : TE) : Prop :=
  ∀ (pins : List (Addr × Obj)) (s : Shared) (σ : St) (H : Hp) (Q : VK), Inv X pins σ H s → t σ H Q → wpAny (model X.prog X.w) X.A (eval e X.env) (EP X pins σ Q) X.xe s
def PT (X : Cx) (e : Expr) (t : TT) : Prop :=
  ∀ (pins : List (Addr × Obj)) (s : Shared) (σ : St) (H : Hp) (Q : Bool → Hp → Prop), Inv X pins σ H s → t σ H Q → wpAny (model X.prog X.w) X.A (isTrue e X.env (eval e X.env)) (TP X pins σ Q) X.xe s
def PW (X : Cx) (e : Expr) (t : TT) : Prop :=
  ∀ (whole : Sem Value) (pins : List (Addr × Obj)) (s : Shared) (σ : St) (H : Hp) (Q : Bool → Hp → Prop), Inv X pins σ H s → t σ H Q → wpAny (model X.prog X.w) X.A (isTrue e X.env whole) (TP X pins σ Q) X.xe s
theorem PW.pt {X : Cx} {e : Expr} {t : TT} (h : PW X e t) : PT X e t := h _
def PA (X : Cx) (es : List Expr) (t : TA) : Prop :=
  ∀ (pos : Pos) (pins : List (Addr × Obj)) (s : Shared) (σ : St) (H : Hp) (Q : List V → Hp → Prop), Inv X pins σ H s → t σ H Q → wpAny (model X.prog X.w) X.A (spliced (backTo pos (starEach es X.env))) (AP X pins σ Q) X.xe s
def PS (X : Cx) (st : Stmt) (t : TS) : Prop :=
  ∀ (pins : List (Addr × Obj)) (s : Shared) (σ : St) (H : Hp) (D : Ends), Inv X pins σ H s → t D σ H → wpAny (model X.prog X.w) X.A (exec st X.env) (SP X pins D) X.xe s
def PSs (X : Cx) (st : List Stmt) (t : TS) : Prop :=
  ∀ (pins : List (Addr × Obj)) (s : Shared) (σ : St) (H : Hp) (D : Ends), Inv X pins σ H s → t D σ H → wpAny (model X.prog X.w) X.A (execs st X.env) (SP X pins D) X.xe s
theorem thn {α : Type} {t : Sem α} {Q Q' : α → Shared → Prop} {M : Model} {A : Around} {E : Value → Shared → Prop} {s : Shared} (h : wpAny M A t Q E s) (hQ : ∀ a s, Q a s → Q' a s) : wpAny M A t Q' E s := wpAny_mono h hQ fun _ _ x => x
end L2
namespace L2
open PySem PySem.Spec PyProof.Rows
section
variable {X : Cx}
def tVar (i : Nat) : TE := fun σ H Q => ∃ v, σ[i]? = some (some v) ∧ Q v H
def tC (v : V) : TE := fun _ H Q => Q v H
theorem pe_var {i : Nat} {x : Str} {pos : Pos} (hN : X.N[i]? = some x) (hv : Vis X.env.scope x) (hd : (x == ("__debug__" : Str)) = false := by decide) (hcd : (x == ("__classdict__" : Str)) = false := by decide) : PE X (.Name x pos) (tVar i) := by
  intro pins s σ H Q I h
  obtain ⟨v, e, h⟩ := h
  obtain ⟨m, hn, hl⟩ := I.loc
  obtain ⟨u, r, l⟩ := hl i x v hN e hv
  have fin : EP X pins σ Q u s := ⟨v, H, I, r, h⟩
  rcases l with ⟨hk, hm⟩ | ⟨hk, c, hc, hcell⟩
  · exact wpAny_Name (wpAny_loadName_local I.ok.kind hk hn hm fin) hd
  · rcases hk with hk | hk
    · exact wpAny_Name (wpAny_loadName_cell I.ok.kind hk hc hcell fin) hd
    · exact wpAny_Name (wpAny_loadName_free I.ok.kind hk hc hcell fin hcd) hd
theorem pe_int {i j pos} : PE X (.Constant (.int i) j pos) (tC (.int i)) := fun _ _ _ H _ I h => wpAny_Constant_int ⟨.int i, H, I.tok _, ⟨_, rfl⟩, h⟩
theorem pe_bl {b j pos} : PE X (.Constant (.bool b) j pos) (tC (.bl b)) := fun _ _ _ H _ I h => Constant_bool ⟨.bl b, H, I, rfl, h⟩
theorem pe_non {j pos} : PE X (.Constant .none j pos) (tC .non) := fun _ _ _ H _ I h => Constant_none ⟨.non, H, I, rfl, h⟩
theorem pe_str {x j pos} : PE X (.Constant (.str x) j pos) (tC (.str x)) := fun _ _ _ H _ I h => Calls.Constant_str ⟨.str x, H, I.tok _, ⟨_, rfl⟩, h⟩
def Gl (X : Cx) (x : Str) : Prop := X.env.kindOf x = some .globalImplicit
theorem ld_glob {E : Value → Shared → Prop} {pins : List (Addr × Obj)} {s : Shared} {σ : St} {H : Hp} {x : Str} {u : Value} {pos : Pos} {Q : Value → Shared → Prop} (I : Inv X pins σ H s) (hg : Gl X x) (hm : X.mg x = some u) (h : Q u s)
    (hd : (x == ("__debug__" : Str)) = false := by decide) : wpAny (model X.prog X.w) X.A (eval (.Name x pos) X.env) Q E s :=
  Calls.Name_function_global I.ok.kind hg (Calls.loadGlobal_global (by rw [I.ok.glob]; exact I.mod.glob.keeps I.bk) hm h) hd
theorem ld_blt {E : Value → Shared → Prop} {pins : List (Addr × Obj)} {s : Shared} {σ : St} {H : Hp} {x : Str} {u : Value} {pos : Pos} {Q : Value → Shared → Prop} (I : Inv X pins σ H s) (hg : Gl X x) (hm : X.mg x = none) (hv : bootBuiltins x = some u) (h : Q u s)
    (hn : x ≠ "__name__" := by decide) (hd : (x == ("__debug__" : Str)) = false := by decide) : wpAny (model X.prog X.w) X.A (eval (.Name x pos) X.env) Q E s := by
  obtain ⟨mb, h1, h2⟩ := I.mod.blt
  exact Calls.Name_function_global I.ok.kind hg (Calls.loadGlobal_builtin (by rw [I.ok.glob]; exact I.mod.glob.keeps I.bk) hm (by rw [I.ok.blt]; exact h1.keeps I.bk) ((h2 x hn).trans hv) h) hd
theorem pe_bltn {x : Str} {v : V} {u : Value} {pos : Pos} (hg : Gl X x) (hm : X.mg x = none) (hv : bootBuiltins x = some u) (r : RelV v u) (hn : x ≠ "__name__" := by decide) (hd : (x == ("__debug__" : Str)) = false := by decide) : PE X (.Name x pos) (tC v) :=
  fun _ _ _ H _ I h => ld_blt I hg hm hv ⟨v, H, I, r, h⟩ hn hd
variable {a b : Expr} {ta tb : TE} {pos : Pos}
def tB (t : TE) : TT := fun σ H Q => t σ H fun x H1 => ∃ c, x = .bl c ∧ Q c H1
theorem pt_val {e : Expr} {t : TE} (h : PE X e t) (he : ∀ whole, isTrue e X.env whole = (do let v ← whole; standAt e.pos; holding [v] (truthy v)) := by intro _; rfl) : PT X e (tB t) := by
  intro pins s σ H Q I hw
  refine isTrue_plain (thn (h pins s σ H _ I hw) fun v s1 ⟨x, H1, I1, r1, q1⟩ => ?_) (he _)
  obtain ⟨d, rfl, q⟩ := q1
  cases r1
  exact wpAny_truthy_bool ⟨H1, I1, q⟩
variable {tA tB' : TT} {rest : List Expr}
def tOr (t u : TT) : TT := fun σ H Q => t σ H fun c H1 => if c = true then Q true H1 else u σ H1 Q
def tNot (t : TT) : TT := fun σ H Q => t σ H fun c H1 => Q (!c) H1
theorem pw_or1 (ha : PT X a tA) : PW X (.BoolOp .Or [a] pos) tA := by
  intro wh pins s σ H Q I h
  refine isTrue_or (thn (ha pins s σ H Q I h) fun c s1 e => ?_)
  cases c with
  | false => exact isTrue_or_nil e
  | true => exact e
theorem pw_or (ha : PT X a tA) (hb : PW X (.BoolOp .Or (b :: rest) pos) tB') : PW X (.BoolOp .Or (a :: b :: rest) pos) (tOr tA tB') := by
  intro wh pins s σ H Q I h
  refine isTrue_or (thn (ha pins s σ H _ I h) fun c s1 ⟨H1, I1, q1⟩ => ?_)
  cases c with
  | true => exact ⟨H1, I1, q1⟩
  | false => exact hb wh pins s1 σ H1 Q I1 q1
theorem pt_not (ha : PT X a tA) : PT X (.UnaryOp .Not a pos) (tNot tA) := by
  intro pins s σ H Q I h
  exact isTrue_not (ha pins s σ H (fun c H1 => Q (!c) H1) I h)
def tAndV (ta tb : TE) : TE := fun σ H Q => ta σ H fun x H1 => ∃ c, x = .bl c ∧ if c = true then tb σ H1 Q else Q (.bl false) H1
def tNotV (ta : TE) : TE := fun σ H Q => ta σ H fun x H1 => ∃ c, x = .bl c ∧ Q (.bl (!c)) H1
theorem pe_one {op} {t : TE} (h : PE X a t) : PE X (.BoolOp op [a] pos) t := fun pins s σ H Q I hw => BoolOp_one (h pins s σ H Q I hw)
theorem pe_and (ha : PE X a ta) (hb : PE X (.BoolOp .And (b :: rest) pos) tb) : PE X (.BoolOp .And (a :: b :: rest) pos) (tAndV ta tb) := by
  intro pins s σ H Q I h
  refine BoolOp_and (thn (ha pins s σ H _ I h) fun v s1 ⟨x, H1, I1, r1, q1⟩ => ?_)
  obtain ⟨c, rfl, q1⟩ := q1
  cases r1
  refine wpAny_truthy_bool ?_
  cases c with
  | true => exact hb pins s1 σ H1 Q I1 q1
  | false => exact ⟨.bl false, H1, I1, rfl, q1⟩
theorem pe_not (ha : PE X a ta) : PE X (.UnaryOp .Not a pos) (tNotV ta) := by
  intro pins s σ H Q I h
  refine UnaryOp_ (thn (ha pins s σ H _ I h) fun v s1 ⟨x, H1, I1, r1, q1⟩ => ?_)
  obtain ⟨c, rfl, q1⟩ := q1
  cases r1
  exact not_of (wpAny_truthy_bool ⟨.bl (!c), H1, I1, rfl, q1⟩)
end
end L2
namespace L2
open PySem PySem.Spec PyProof.Rows
def SqL (K : PySem.W.Frag) (H : Hp) (a : Addr) (xs : List V) : Prop :=
  Rd H a (.lst xs) ∨
    ∃ (o : Obj) (its : Array Value) (n : Nat), K.lookup a = some o ∧ o.cls = .type "list" ∧ o.dict = none ∧ o.data = .seq its n ∧ its.size ≤ sizeLine ∧ Vals xs its.toList
def SqT (K : PySem.W.Frag) (H : Hp) (a : Addr) (xs : List V) : Prop :=
  Rd H a (.tup xs) ∨
    ∃ (o : Obj) (its : Array Value) (n : Nat), K.lookup a = some o ∧ o.cls = .type "tuple" ∧ o.data = .seq its n ∧ its.size ≤ sizeLine ∧ Vals xs its.toList
def absV : Value → Option V
  | .none => some .non
  | .bool b => some (.bl b)
  | .int i _ => some (.int i)
  | .str x _ => some (.str x)
  | .bytes b _ => some (.byt b)
  | .float b _ => some (.flt b)
  | .ref a => some (.ref a)
  | .type n => some (.ty n)
  | _ => none
theorem RelV.abs {x : V} {u : Value} (r : RelV x u) : absV u = some x := by
  cases x with
  | non => cases r; rfl
  | bl _ => cases r; rfl
  | int _ => obtain ⟨t, rfl⟩ := r; rfl
  | str _ => obtain ⟨t, rfl⟩ := r; rfl
  | byt _ => obtain ⟨t, rfl⟩ := r; rfl
  | flt _ => obtain ⟨t, rfl⟩ := r; rfl
  | ref _ => cases r; rfl
  | ty _ => cases r; rfl
theorem RelV.inj {x y : V} {u : Value} (r : RelV x u) (q : RelV y u) : x = y := Option.some.inj (r.abs.symm.trans q.abs)
theorem Vals.inj : ∀ {xs ys : List V} {us : List Value}, Vals xs us → Vals ys us → xs = ys
  | _, _, _, .nil, .nil => rfl
  | _, _, _, .cons r t, .cons r' t' => by rw [r.inj r', Vals.inj t t']
section
variable {X : Cx} {pins : List (Addr × Obj)} {σ : St} {H : Hp} {s : Shared} {a : Addr} {xs ys : List V}
theorem SqL.of {K : PySem.W.Frag} (h : H a = some (.lst xs)) : SqL K H a xs := .inl (.inl h)
theorem SqT.of {K : PySem.W.Frag} (h : H a = some (.tup xs)) : SqT K H a xs := .inl (.inl h)
theorem Inv.list (I : Inv X pins σ H s) (h : SqL X.K H a xs) : ∃ its : List Value, Vals xs its ∧ PlainL s.heap a its.toArray ∧ xs.length ≤ sizeLine := by
  rcases h with h | ⟨o, its, n, hk, hc, hd, hs, hz, r⟩
  · obtain ⟨z, its, n, r, e⟩ := h.ok I.hok
    exact ⟨its, r, ⟨_, n, e, rfl, rfl, rfl⟩, z⟩
  · refine ⟨its.toList, r, ⟨o, n, I.kIn a o hk, hc, hd, by simpa using hs⟩, ?_⟩
    have e := r.length
    simp only [Array.length_toList] at e
    omega
theorem Inv.tuple (I : Inv X pins σ H s) (h : SqT X.K H a xs) : ∃ its : List Value, Vals xs its ∧ IsTup s.heap a its.toArray ∧ xs.length ≤ sizeLine := by
  rcases h with h | ⟨o, its, n, hk, hc, hs, hz, r⟩
  · obtain ⟨z, its, r, p⟩ := h.ok I.hok
    exact ⟨its, r, p, z.1⟩
  · refine ⟨its.toList, r, ⟨o, I.kIn a o hk, hc, n, by simpa using hs⟩, ?_⟩
    have e := r.length
    simp only [Array.length_toList] at e
    omega
theorem Inv.list_inj (I : Inv X pins σ H s) (h : SqL X.K H a xs) (h' : SqL X.K H a ys) : xs = ys := by
  obtain ⟨its, r, ⟨o, n, e, _, _, d⟩, _⟩ := I.list h
  obtain ⟨its', r', ⟨o', n', e', _, _, d'⟩, _⟩ := I.list h'
  rw [e] at e'; cases e'
  rw [d] at d'
  injection d' with d1 _
  have : its = its' := by simpa using congrArg Array.toList d1
  subst this
  exact r.inj r'
theorem Inv.tuple_inj (I : Inv X pins σ H s) (h : SqT X.K H a xs) (h' : SqT X.K H a ys) : xs = ys := by
  obtain ⟨its, r, ⟨o, e, _, n, d⟩, _⟩ := I.tuple h
  obtain ⟨its', r', ⟨o', e', _, n', d'⟩, _⟩ := I.tuple h'
  rw [e] at e'; cases e'
  rw [d] at d'
  injection d' with d1 _
  have : its = its' := by simpa using congrArg Array.toList d1
  subst this
  exact r.inj r'
end
abbrev Cx.wish (X : Cx) (E : Value → Shared → Prop) : Cx := { X with xe := E }
abbrev Cx.nox (X : Cx) : Cx := X.wish fun _ _ => False
theorem Cx.Ok.wish {X : Cx} (ok : X.Ok) (E : Value → Shared → Prop) : (X.wish E).Ok :=
  ⟨ok.mod, ok.kind, ok.glob, ok.blt, ok.above, ok.inj, ok.has, ok.cab, ok.hd, ok.frames, ok.stk, ok.exf, ok.bs, ok.bsz, ok.noex, ok.exfs, ok.funs, ok.frf⟩
theorem Cx.Ok.unwish {X : Cx} {E : Value → Shared → Prop} (ok : (X.wish E).Ok) : X.Ok :=
  ⟨ok.mod, ok.kind, ok.glob, ok.blt, ok.above, ok.inj, ok.has, ok.cab, ok.hd, ok.frames, ok.stk, ok.exf, ok.bs, ok.bsz, ok.noex, ok.exfs, ok.funs, ok.frf⟩
section
variable {X : Cx} {pins : List (Addr × Obj)} {σ : St} {H : Hp} {s : Shared} {E : Value → Shared → Prop}
theorem Inv.wish (I : Inv X pins σ H s) (E : Value → Shared → Prop) : Inv (X.wish E) pins σ H s := ⟨I.ok.wish E, I.os, I.bare, I.base, I.loc, I.cell, I.free, I.freeC, I.pin, I.hok, I.len⟩
theorem Inv.unwish (I : Inv (X.wish E) pins σ H s) : Inv X pins σ H s := ⟨I.ok.unwish, I.os, I.bare, I.base, I.loc, I.cell, I.free, I.freeC, I.pin, I.hok, I.len⟩
theorem SP.unwish {D : Ends} {f : Flow} {s' : Shared} (h : SP (X.wish E) pins D f s') : SP X pins D f s' := by
  cases f with
  | next => obtain ⟨σ', H', I, q⟩ := h; exact ⟨σ', H', I.unwish, q⟩
  | brk => obtain ⟨σ', H', I, q⟩ := h; exact ⟨σ', H', I.unwish, q⟩
  | cont => obtain ⟨σ', H', I, q⟩ := h; exact ⟨σ', H', I.unwish, q⟩
  | ret u => obtain ⟨v, σ', H', I, r, q⟩ := h; exact ⟨v, σ', H', I.unwish, r, q⟩
theorem PSs.nox {st : List Stmt} {t : TS} (h : PSs X.nox st t) : PSs X st t := fun pins s σ H D I hw =>
  wpAny_mono (h pins s σ H D (I.wish _) hw) (fun _ _ q => q.unwish) fun _ _ z => False.elim z
end
section
variable {X : Cx} {st : Stmt} {rest : List Stmt} {t u : TS} {e : Expr} {te : TE} {pos : Pos}
def tNext : TS := fun D σ H => D.nx σ H
def tSeq (t u : TS) : TS := fun D σ H => t { D with nx := u D } σ H
theorem pss_nil : PSs X [] tNext := fun _ _ σ H _ I h => wpAny_execs_nil ⟨σ, H, I, h⟩
theorem pss_cons (h1 : PS X st t) (h2 : PSs X rest u) : PSs X (st :: rest) (tSeq t u) := by
  intro pins s σ H D I h
  refine wpAny_execs_cons (thn (h1 pins s σ H { D with nx := u D } I h) fun f s1 q => ?_)
  cases f with
  | next =>
    obtain ⟨σ', H', I', q⟩ := q
    exact h2 pins s1 σ' H' D I' q
  | ret v => exact q
  | brk => exact q
  | cont => exact q
theorem pss_one (h1 : PS X st t) : PSs X [st] t := by
  intro pins s σ H D I h
  refine wpAny_execs_cons (thn (h1 pins s σ H D I h) fun f s1 q => ?_)
  cases f with
  | next => exact wpAny_execs_nil q
  | ret v => exact q
  | brk => exact q
  | cont => exact q
theorem Inv.quiet {pins : List (Addr × Obj)} {σ : St} {H : Hp} {s : Shared} (I : Inv X pins σ H s) : interactive X.env = false := by simp [interactive, I.ok.kind]
def tDrop (te : TE) : TS := fun D σ H => te σ H fun _ H1 => D.nx σ H1
theorem ps_expr (he : PE X e te) (hs : swapsWith e none pos.line X.env = pure false := by rfl) : PS X (.Expr e pos) (tDrop te) := by
  intro pins s σ H D I h
  exact wpAny_Expr_any (thn (he pins s σ H _ I h) fun v s1 ⟨x, H1, I1, r1, q1⟩ => ⟨σ, H1, I1, q1⟩) I.quiet hs
def tRet (te : TE) : TS := fun D σ H => te σ H D.rt
theorem ps_ret (he : PE X e te) : PS X (.Return (some e) pos) (tRet te) := by
  intro pins s σ H D I h
  exact wpAny_Return_some (thn (he pins s σ H _ I h) fun v s1 ⟨x, H1, I1, r1, q1⟩ => ⟨x, σ, H1, I1, r1, q1⟩)
def tIfS (c : TT) (t u : TS) : TS := fun D σ H => c σ H fun b H1 => if b = true then t D σ H1 else u D σ H1
theorem ps_if {c : Expr} {a b : List Stmt} {tc : TT} (hc : PT X c tc) (ha : PSs X a t) (hb : PSs X b u) : PS X (.If c a b pos) (tIfS tc t u) := by
  intro pins s σ H D I h
  refine wpAny_If (thn (hc pins s σ H _ I h) fun d s1 ⟨H1, I1, q1⟩ => ?_)
  cases d with
  | true => exact ha pins s1 σ H1 D I1 q1
  | false => exact hb pins s1 σ H1 D I1 q1
def tNever : TS := fun _ _ _ => False
theorem ps_never : PS X st tNever := fun _ _ _ _ _ _ h => h.elim
end
abbrev TG := V → St → Hp → (St → Hp → Prop) → Prop
abbrev TGs := List V → St → Hp → (St → Hp → Prop) → Prop
def PG (X : Cx) (target : Expr) (t : TG) : Prop :=
  ∀ (pins : List (Addr × Obj)) (s : Shared) (σ : St) (H : Hp) (v : V) (u : Value) (Q : St → Hp → Prop), Inv X pins σ H s → RelV v u → t v σ H Q →
    wpAny (model X.prog X.w) X.A (assign target X.env u) (fun _ s' => ∃ σ' H', Inv X pins σ' H' s' ∧ Q σ' H') X.xe s
def PGs (X : Cx) (ts : List Expr) (t : TGs) : Prop :=
  ∀ (pins : List (Addr × Obj)) (s : Shared) (σ : St) (H : Hp) (vs : List V) (us : List Value) (Q : St → Hp → Prop), Inv X pins σ H s → Vals vs us → t vs σ H Q →
    wpAny (model X.prog X.w) X.A (assignInOrder ((assignEach ts X.env).map (·.2)) us) (fun _ s' => ∃ σ' H', Inv X pins σ' H' s' ∧ Q σ' H') X.xe s
abbrev TSet := V → V → V → Hp → (Hp → Prop) → Prop
def PSet (X : Cx) (t : TSet) : Prop :=
  ∀ (pins : List (Addr × Obj)) (s : Shared) (σ : St) (H : Hp) (o i v : V) (ov iv u : Value) (Q : Hp → Prop), Inv X pins σ H s → RelV o ov → RelV i iv → RelV v u → t o i v H Q →
    wpAny (model X.prog X.w) X.A (setItem ov iv u) (fun _ s' => ∃ H', Inv X pins σ H' s' ∧ Q H') X.xe s
section
variable {X : Cx} {pos : Pos}
def gName (i : Nat) : TG := fun v σ H Q => Q (σ.set i (some v)) H
theorem pg_name {i : Nat} {x : Str} (hN : X.N.Nodup) (hi : X.N[i]? = some x) (hx : Loc X.env.scope x) (hf : X.fn x = true ∨ X.env.scope.names.lookup x = some .local := by first | exact .inl rfl | exact .inr rfl | assumption) : PG X (.Name x pos) (gName i) := by
  intro pins s σ H v u Q I r h
  exact wpAny_assign_Name (store_ok I hN hi hx r (fun s' I' => ⟨_, H, I', h⟩) hf)
def gNil : TGs := fun vs σ H Q => vs = [] ∧ Q σ H
def gCons (t : TG) (u : TGs) : TGs := fun vs σ H Q => ∃ v r, vs = v :: r ∧ t v σ H fun σ' H' => u r σ' H' Q
theorem pgs_nil : PGs X [] gNil := by
  intro pins s σ H vs us Q I r h
  obtain ⟨e, h⟩ := h
  subst e
  cases r
  exact assignInOrder_nil ⟨σ, H, I, h⟩
theorem pgs_cons {e : Expr} {es : List Expr} {t : TG} {u : TGs} (h1 : PG X e t) (h2 : PGs X es u)
    (hs : (assignEach (e :: es) X.env).map (·.2) = assign e X.env :: (assignEach es X.env).map (·.2) := by rfl) : PGs X (e :: es) (gCons t u) := by
  intro pins s σ H vs us Q I r h
  obtain ⟨v, vr, e1, h⟩ := h
  subst e1
  cases r with
  | cons r rr =>
    rw [hs]
    refine assignInOrder_cons (thn (h1 pins s σ H _ _ _ I r h) fun _ s1 ⟨σ1, H1, I1, q1⟩ => ?_)
    exact h2 pins s1 σ1 H1 _ _ Q I1 rr q1
def gTup (K : PySem.W.Frag) (n : Nat) (t : TGs) : TG := fun v σ H Q => ∃ a xs, v = .ref a ∧ SqT K H a xs ∧ xs.length = n ∧ t xs σ H Q
theorem pg_tup {es : List Expr} {k : Nat} {t : TGs} {n : Nat} (hc : X.calm = true) (h : PGs X es t)
    (hn : (assignEach es X.env).length = n := by rfl) (hst : (assignEach es X.env).findIdx? (·.1) = none := by rfl) : PG X (.Tuple es k pos) (gTup X.K n t) := by
  intro pins s σ H v u Q I r hw
  obtain ⟨a, xs, e1, hq, hl, hw⟩ := hw
  subst e1
  cases r
  obtain ⟨its, rv, ht, hz⟩ := I.tuple hq
  refine assign_Tuple_tuple (I.ok.hd hc) ht (by simp [hn, ← hl, rv.length]) hst fun h' hx => ?_
  have I1 : Inv X pins σ H { s with heap := h' } := I.kept (t' := s.toks) fun b o e => hx b o (Nat.ne_of_lt (Heap.lt_size e)) e
  exact h pins _ σ H xs _ Q I1 (by simpa using rv) hw
def gSub (to ti : TE) (t : TSet) : TG := fun v σ H Q => to σ H fun o H1 => ti σ H1 fun i H2 => t o i v H2 fun H3 => Q σ H3
theorem pg_sub {o i : Expr} {to ti : TE} {t : TSet} (ho : PE X o to) (hi : PE X i ti) (hs : PSet X t)
    (ha : ∀ v, assign (.Subscript o i pos) X.env v = (do
      let ov ← holding [v] (eval o X.env)
      let iv ← holding [v, ov] (eval i X.env)
      standAt pos
      holding [v, ov, iv] (setItem ov iv v)
      release [v, ov, iv] []) := by intro _; rfl) : PG X (.Subscript o i pos) (gSub to ti t) := by
  intro pins s σ H v u Q I r h
  rw [ha]
  refine wpAny_bind (wpAny_holding (thn (ho pins s σ H _ I h) fun ov s1 ⟨x, H1, I1, r1, q1⟩ => ?_))
  refine wpAny_bind (wpAny_holding (thn (hi pins s1 σ H1 _ I1 q1) fun iv s2 ⟨y, H2, I2, r2, q2⟩ => ?_))
  refine wpAny_bind (wpAny_standAt (wpAny_bind (wpAny_holding (thn (hs pins s2 σ H2 x y v ov iv u _ I2 r1 r2 r q2) fun _ s3 ⟨H3, I3, q3⟩ => ?_))))
  exact wpAny_release ⟨σ, H3, I3, q3⟩
def tAsg (te : TE) (g : TG) : TS := fun D σ H => te σ H fun x H1 => g x σ H1 D.nx
theorem ps_asg {tg e : Expr} {te : TE} {g : TG} (he : PE X e te) (hg : PG X tg g) (hs : swapsWithSole [tg] e pos.line X.env = pure false := by rfl) (hw : swappedStores [tg] e X.env = pure none := by rfl)
    (h1 : (assignEach [tg] X.env).map (·.2) = [assign tg X.env] := by rfl) : PS X (.Assign [tg] e pos) (tAsg te g) := by
  intro pins s σ H D I h
  refine wpAny_Assign_stores (thn (he pins s σ H _ I h) fun v s1 ⟨x, H1, I1, r1, q1⟩ => ?_) hs hw
  rw [h1]
  exact thn (hg pins s1 σ H1 x v _ I1 r1 q1) fun _ s2 q => q
theorem ps_set {i : Nat} {x : Str} {e : Expr} {te : TE} {pos' : Pos} (hN : X.N.Nodup) (hi : X.N[i]? = some x) (hx : Loc X.env.scope x) (he : PE X e te) (hs : swapsWith e (some (.Name x pos')) pos.line X.env = pure false := by rfl) (hf : X.fn x = true ∨ X.env.scope.names.lookup x = some .local := by first | exact .inl rfl | exact .inr rfl | assumption) :
    PS X (.Assign [.Name x pos'] e pos) (tAsg te (gName i)) := by
  intro pins s σ H D I h
  refine wpAny_Assign_Name (thn (he pins s σ H _ I h) fun v s1 ⟨y, H1, I1, r1, q1⟩ => ?_) hs
  exact store_ok I1 hN hi hx r1 (fun s2 I2 => ⟨_, H1, I2, q1⟩) hf
end
section
variable {X : Cx} {pos : Pos}
def tWhile (c : TT) (tb : TS) : TS := fun D σ H => ∃ W : Nat → St → Hp → Prop, (∃ m, W m σ H) ∧ ∀ m σ H, W m σ H →
  c σ H fun b H1 => if b = true then ∃ N : St → Hp → Prop, (∀ σ' H', N σ' H' → ∃ m', m' < m ∧ W m' σ' H') ∧ tb { D with nx := N, ct := N, bk := D.nx } σ H1 else D.nx σ H1
theorem ps_while {c : Expr} {body : List Stmt} {tc : TT} {tb : TS} (hp : PassesOwn (model X.prog X.w) X.A X.env X.xe) (hc : PT X c tc) (hb : PSs X body tb) : PS X (.While c body [] pos) (tWhile tc tb) := by
  intro pins s σ H D I h
  obtain ⟨W, ⟨m0, w0⟩, turn⟩ := h
  refine wpAny_While (codeAny_whileLoop (fun n s' => ∃ σ' H', Inv X pins σ' H' s' ∧ W n σ' H') ?_ m0 ⟨σ, H, I, w0⟩)
  rintro n s1 ⟨σ1, H1, I1, w1⟩
  refine wpAny_passesOwn hp (thn (hc pins s1 σ1 H1 _ I1 (turn n σ1 H1 w1)) fun b s2 ⟨H2, I2, q2⟩ => ?_)
  cases b with
  | true =>
    obtain ⟨N, hN, q2⟩ := q2
    rw [if_pos rfl]
    refine wpAny_passesOwn hp (thn (hb pins s2 σ1 H2 _ I2 q2) fun f s3 q3 => ?_)
    cases f with
    | next =>
      obtain ⟨σ3, H3, I3, n3⟩ := q3
      obtain ⟨m', hm, w3⟩ := hN σ3 H3 n3
      exact ⟨m', hm, σ3, H3, I3, w3⟩
    | cont =>
      obtain ⟨σ3, H3, I3, n3⟩ := q3
      obtain ⟨m', hm, w3⟩ := hN σ3 H3 n3
      exact ⟨m', hm, σ3, H3, I3, w3⟩
    | brk => exact q3
    | ret v => exact q3
  | false =>
    rw [if_neg Bool.false_ne_true]
    exact wpAny_execs_nil ⟨σ1, H2, I2, q2⟩
end
structure It where
  go : Nat → Hp → Prop
  yld : Nat → Hp → V → Hp → Prop
  stop : Nat → Hp → Prop
def FpOk (X : Cx) (pins : List (Addr × Obj)) (H : Hp) (b : Addr) : Prop :=
  H b = none ∧ b ≠ X.env.locals ∧ b ∉ X.fs ∧ (b ∈ X.ex ∨ X.s₀.heap.objs.size ≤ b) ∧ (∀ x c, X.env.cells.lookup x = some c → c ≠ b) ∧ ∀ p ∈ X.pn ++ pins, p.1 ≠ b
theorem Inv.fpOk {X : Cx} {pins : List (Addr × Obj)} {σ : St} {H H' : Hp} {s : Shared} {b : Addr} (I : Inv X pins σ H s) (hb : s.heap.objs.size ≤ b) (hn : H' b = none) : FpOk X pins H' b := by
  refine ⟨hn, Nat.ne_of_gt (Nat.lt_of_lt_of_le I.lt hb), I.nofs hb, .inr (Nat.le_trans I.sz hb), fun x c e z => ?_, fun p hp z => ?_⟩
  · obtain ⟨v, q⟩ := I.cell x c e
    exact absurd (Nat.lt_of_lt_of_le q.lt (by rw [z]; exact hb)) (Nat.lt_irrefl _)
  · exact absurd (Nat.lt_of_lt_of_le (Heap.lt_size (I.pin p hp).1) (by rw [z]; exact hb)) (Nat.lt_irrefl _)
structure Turn (P : Program) (w : World) (K : PySem.W.Frag) (tg : Expr) (J : It) (fp : List Addr) (it : Addr) (tn : Nat → Heap → Prop) : Prop where
  mem : it ∈ fp
  obj : ∀ i h, tn i h → ∀ b ∈ fp, ∃ o, h.get? b = some o ∧ ∀ v, o.data ≠ .cell v
  keep : ∀ i h h', tn i h → (∀ b ∈ fp, ∀ o, h.get? b = some o → h'.get? b = some o) → tn i h'
  item : ∀ (X : Cx), X.prog = P → X.w = w → X.K = K → X.calm = true → ∀ (i : Nat) (pins : List (Addr × Obj)) (s : Shared) (σ : St) (H : Hp) (E : Value → Shared → Prop), Inv X pins σ H s → (∀ b ∈ fp, FpOk X pins H b) → tn i s.heap → J.go i H →
    wpAny (model P w) X.A (pyNext (.ref it)) (fun r s1 => ∃ u, r = some u ∧
      wpAny (model P w) X.A (letOwnedTupleGo tg (.ref it) u) (fun _ s2 => ∃ x H', Inv X pins σ H' s2 ∧ RelV x u ∧ J.yld i H x H' ∧ tn (i + 1) s2.heap ∧ ∀ b ∈ fp, H' b = none) E s1) E s
  done : ∀ (X : Cx), X.prog = P → X.w = w → X.K = K → X.calm = true → ∀ (i : Nat) (pins : List (Addr × Obj)) (s : Shared) (σ : St) (H : Hp) (E : Value → Shared → Prop), Inv X pins σ H s → (∀ b ∈ fp, FpOk X pins H b) → tn i s.heap → J.stop i H →
    wpAny (model P w) X.A (pyNext (.ref it)) (fun r s1 => r = none ∧ Inv X pins σ H s1) E s
  self : ∀ (A : Around) (i : Nat) (s : Shared) (Q : Value → Shared → Prop) (E : Value → Shared → Prop), tn i s.heap → Q (.ref it) s → wpAny (model P w) A (pyIter (.ref it)) Q E s
abbrev TI := St → Hp → (It → Hp → Prop) → Prop
def PIE (X : Cx) (pins : List (Addr × Obj)) (σ : St) (tg : Expr) (R : It → Hp → Prop) (itv : Value) (s2 : Shared) : Prop :=
  ∃ (it : Addr) (fp : List Addr) (tn : Nat → Heap → Prop) (J : It) (H' : Hp), itv = .ref it ∧ Inv X pins σ H' s2 ∧ Turn X.prog X.w X.K tg J fp it tn ∧ tn 0 s2.heap ∧ (∀ b ∈ fp, FpOk X pins H' b) ∧ R J H'
def PI (X : Cx) (tg iter : Expr) (wi : TI) : Prop :=
  ∀ (pins : List (Addr × Obj)) (s : Shared) (σ : St) (H : Hp) (R : It → Hp → Prop), Inv X pins σ H s → wi σ H R →
    wpAny (model X.prog X.w) X.A (eval iter X.env) (fun v s1 => wpAny (model X.prog X.w) X.A (pyIter v) (PIE X pins σ tg R) X.xe s1) X.xe s
theorem go_of {M : Model} {A : Around} {E : Value → Shared → Prop} {s : Shared} {tg : Expr} {it : Addr} {u : Value} {o : Obj} {n : String} {vs : Array Value} {Q : Unit → Shared → Prop} (ho : s.heap.get? it = some o) (hc : o.cls = .type n) (hd : o.data = .fields vs)
    (hn : ["enumerate", "zip", "dict_itemiterator", "dict_reverseitemiterator", "odict_iterator", "itertools.zip_longest", "itertools.pairwise"].contains n = false) (hQ : Q () s) : wpAny M A (letOwnedTupleGo tg (.ref it) u) Q E s := by
  unfold letOwnedTupleGo
  cases tg <;> first
    | exact wpAny_pure hQ
    | (cases u <;> first
        | exact wpAny_pure hQ
        | (refine wpAny_bind (wpAny_load ho ?_)
           rw [hc, hd]
           show wpAny M A (if (["enumerate", "zip", "dict_itemiterator", "dict_reverseitemiterator", "odict_iterator", "itertools.zip_longest", "itertools.pairwise"].contains n && vs[0]? == some (rawInt _)) = true then _ else _) Q E s
           rw [if_neg (by intro h; rw [hn, Bool.false_and] at h; cases h)]
           exact wpAny_pure hQ))
def Itl (K : PySem.W.Frag) (a : Addr) : It :=
  ⟨fun i H => ∃ xs x, SqL K H a xs ∧ xs[i]? = some x, fun i H x H' => H' = H ∧ ∀ xs, SqL K H a xs → xs[i]? = some x, fun i H => ∃ xs, SqL K H a xs ∧ xs.length ≤ i⟩
def Itt (K : PySem.W.Frag) (a : Addr) : It :=
  ⟨fun i H => ∃ xs x, SqT K H a xs ∧ xs[i]? = some x, fun i H x H' => H' = H ∧ ∀ xs, SqT K H a xs → xs[i]? = some x, fun i H => ∃ xs, SqT K H a xs ∧ xs.length ≤ i⟩
def Itr (lo : Int) (n : Nat) : It := ⟨fun i _ => i < n, fun i H x H' => H' = H ∧ x = .int (lo + i), fun i _ => n ≤ i⟩
theorem turn_list {P : Program} {w : World} {K : PySem.W.Frag} {tg : Expr} (a it : Addr) : Turn P w K tg (Itl K a) [it] it (fun i h => h.IsListIter it a i) where
  mem := by simp
  obj := fun i h st b hb => by
    have e : b = it := by simpa using hb
    subst e
    obtain ⟨o, e, c, d⟩ := st
    exact ⟨o, e, fun v z => by rw [d] at z; cases z⟩
  keep := fun i h h' st k => st.at fun o e => k it (by simp) o e
  item := by
    intro X hP hw hK hc i pins s σ H E I hf st hg
    subst hP hw hK
    obtain ⟨xs, x, hq, hx⟩ := hg
    obtain ⟨its, rv, p, hz⟩ := I.list hq
    obtain ⟨u, hu, ru⟩ := rv.get hx
    obtain ⟨f0, f1, f2, f3, f4, f5⟩ := hf it (by simp)
    refine wpAny_pyNext_list_item st p.isList (x := u) (by simpa using hu) fun h' st' sb => ?_
    have I1 : Inv X pins σ H { s with heap := h' } := I.turned (t' := s.toks) (fun b o hb e => (sb.2 b hb).trans e) f0 f1 f3 f4 f5
    obtain ⟨o, e, c, d⟩ := id st'
    exact ⟨u, rfl, go_of (s := { s with heap := h' }) e c d (by decide) ⟨x, H, I1, ru, ⟨rfl, fun ys hy => by rw [I.list_inj hy hq]; exact hx⟩, st', fun b hb => (hf b hb).1⟩⟩
  done := by
    intro X hP hw hK hc i pins s σ H E I hf st hg
    subst hP hw hK
    obtain ⟨xs, hq, hx⟩ := hg
    obtain ⟨its, rv, p, hz⟩ := I.list hq
    obtain ⟨f0, f1, f2, f3, f4, f5⟩ := hf it (by simp)
    have hl := rv.length
    exact wpAny_pyNext_list_end (I.ok.hd hc) st p.isList (by simp; omega) fun h' eb => ⟨rfl, I.turned (t' := s.toks) (fun b o hb e => eb b o hb e) f0 f1 f3 f4 f5⟩
  self := fun _ _ _ _ _ st h => wpAny_pyIter_listiter st h
theorem turn_tuple {P : Program} {w : World} {K : PySem.W.Frag} {tg : Expr} (a it : Addr) : Turn P w K tg (Itt K a) [it] it (fun i h => h.IsTupleIter it a i) where
  mem := by simp
  obj := fun i h st b hb => by
    have e : b = it := by simpa using hb
    subst e
    obtain ⟨o, e, c, d⟩ := st
    exact ⟨o, e, fun v z => by rw [d] at z; cases z⟩
  keep := fun i h h' st k => st.at fun o e => k it (by simp) o e
  item := by
    intro X hP hw hK hc i pins s σ H E I hf st hg
    subst hP hw hK
    obtain ⟨xs, x, hq, hx⟩ := hg
    obtain ⟨its, rv, p, hz⟩ := I.tuple hq
    obtain ⟨u, hu, ru⟩ := rv.get hx
    obtain ⟨f0, f1, f2, f3, f4, f5⟩ := hf it (by simp)
    refine wpAny_pyNext_tuple_item st (show s.heap.IsTuple a its.toArray from p) (x := u) (by simpa using hu) fun h' st' sb => ?_
    have I1 : Inv X pins σ H { s with heap := h' } := I.turned (t' := s.toks) (fun b o hb e => (sb.2 b hb).trans e) f0 f1 f3 f4 f5
    obtain ⟨o, e, c, d⟩ := id st'
    exact ⟨u, rfl, go_of (s := { s with heap := h' }) e c d (by decide) ⟨x, H, I1, ru, ⟨rfl, fun ys hy => by rw [I.tuple_inj hy hq]; exact hx⟩, st', fun b hb => (hf b hb).1⟩⟩
  done := by
    intro X hP hw hK hc i pins s σ H E I hf st hg
    subst hP hw hK
    obtain ⟨xs, hq, hx⟩ := hg
    obtain ⟨its, rv, p, hz⟩ := I.tuple hq
    obtain ⟨f0, f1, f2, f3, f4, f5⟩ := hf it (by simp)
    have hl := rv.length
    exact wpAny_pyNext_tuple_end (I.ok.hd hc) st (show s.heap.IsTuple a its.toArray from p) (by simp; omega) fun h' eb => ⟨rfl, I.turned (t' := s.toks) (fun b o hb e => eb b o hb e) f0 f1 f3 f4 f5⟩
  self := fun _ _ _ _ _ st h => wpAny_pyIter_tupleiter st h
theorem turn_range {P : Program} {w : World} {K : PySem.W.Frag} {tg : Expr} (it : Addr) (lo : Int) (n : Nat) : Turn P w K tg (Itr lo n) [it] it (fun i h => IsRangeIter h it (lo + (i : Nat) * 1) ((n : Int) - (i : Nat)) 1) where
  mem := by simp
  obj := fun i h st b hb => by
    have e : b = it := by simpa using hb
    subst e
    exact ⟨_, st, fun v z => by
      have z' : Data.fields _ = Data.cell v := z
      cases z'⟩
  keep := fun i h h' st k => k it (by simp) _ st
  item := by
    intro X hP hw hK hc i pins s σ H E I hf st hg
    subst hP hw hK
    obtain ⟨f0, f1, f2, f3, f4, f5⟩ := hf it (by simp)
    have W := Walks.range (prog := X.prog) (w := X.w) (I.ok.hd hc) it lo 1 n
    refine W.item i s _ _ hg st fun v h' tk hv st' kk => ?_
    obtain ⟨t, rfl⟩ := hv
    have I1 : Inv X pins σ H { s with heap := h', toks := tk } := I.turned (fun b o hb e => kk b o (by simpa using hb) e) f0 f1 f3 f4 f5
    refine ⟨_, rfl, go_of (s := { s with heap := h', toks := tk }) (n := "range_iterator") st' rfl rfl (by decide) ⟨.int (lo + i), H, I1, ⟨t, ?_⟩, ⟨rfl, rfl⟩, st', fun b hb => (hf b hb).1⟩⟩
    rw [Int.mul_one]
  done := by
    intro X hP hw hK hc i pins s σ H E I hf st hg
    subst hP hw hK
    obtain ⟨f0, f1, f2, f3, f4, f5⟩ := hf it (by simp)
    exact wpAny_pyNext_range_end (I.ok.hd hc) st (by have : n ≤ i := hg; omega) fun h' eb => ⟨rfl, I.turned (t' := s.toks) (fun b o hb e => eb b o hb e) f0 f1 f3 f4 f5⟩
  self := fun _ _ _ _ _ st h => wpAny_pyIter_rangeiter st h
end L2
namespace L2
open PySem PySem.Spec PyProof.Rows
section
variable {X : Cx} {tg : Expr}
def iList (K : PySem.W.Frag) (tl : TE) : TI := fun σ H R => tl σ H fun x H1 => ∃ a, x = .ref a ∧ (∃ xs, SqL K H1 a xs) ∧ R (Itl K a) H1
def iTup (K : PySem.W.Frag) (tl : TE) : TI := fun σ H R => tl σ H fun x H1 => ∃ a, x = .ref a ∧ (∃ xs, SqT K H1 a xs) ∧ R (Itt K a) H1
theorem pi_list {l : Expr} {tl : TE} (hl : PE X l tl) : PI X tg l (iList X.K tl) := by
  intro pins s σ H R I h
  refine thn (hl pins s σ H _ I h) fun v s1 ⟨x, H1, I1, r1, q1⟩ => ?_
  obtain ⟨a, e, ⟨xs, hq⟩, q⟩ := q1
  subst e
  cases r1
  obtain ⟨its, rv, p, hz⟩ := I1.list hq
  refine wpAny_pyIter_list p.isList ?_
  refine ⟨s1.heap.objs.size, [s1.heap.objs.size], _, _, H1, rfl, I1.kept (t' := s1.toks) fun b o e => Heap.get?_push_of_some _ e, turn_list a _, ⟨_, Heap.get?_push_size _ rfl, rfl, rfl⟩, fun b hb => ?_, q⟩
  have e : b = s1.heap.objs.size := by simpa using hb
  subst e
  exact I1.fpOk (Nat.le_refl _) (I1.hok.fresh (Nat.le_refl _))
theorem pi_tup {l : Expr} {tl : TE} (hl : PE X l tl) : PI X tg l (iTup X.K tl) := by
  intro pins s σ H R I h
  refine thn (hl pins s σ H _ I h) fun v s1 ⟨x, H1, I1, r1, q1⟩ => ?_
  obtain ⟨a, e, ⟨xs, hq⟩, q⟩ := q1
  subst e
  cases r1
  obtain ⟨its, rv, p, hz⟩ := I1.tuple hq
  refine wpAny_pyIter_tuple (show s1.heap.IsTuple a its.toArray from p) ?_
  refine ⟨s1.heap.objs.size, [s1.heap.objs.size], _, _, H1, rfl, I1.kept (t' := s1.toks) fun b o e => Heap.get?_push_of_some _ e, turn_tuple a _, ⟨_, Heap.get?_push_size _ rfl, rfl, rfl⟩, fun b hb => ?_, q⟩
  have e : b = s1.heap.objs.size := by simpa using hb
  subst e
  exact I1.fpOk (Nat.le_refl _) (I1.hok.fresh (Nat.le_refl _))
theorem range_it {pins : List (Addr × Obj)} {σ : St} {H : Hp} {s : Shared} {R : It → Hp → Prop} {E : Value → Shared → Prop} {lo hi : Int} {t u v : Tok} {tk : Nat} (I : Inv X pins σ H s) (h1 : -(2 ^ 62) ≤ lo) (h2 : lo < 2 ^ 62) (h3 : -(2 ^ 62) ≤ hi) (h4 : hi < 2 ^ 62)
    (q : R (Itr lo (hi - lo).toNat) H) : wpAny (model X.prog X.w) X.A (pyIter (.ref s.heap.objs.size)) (PIE X pins σ tg R) E { s with heap := s.heap.push { cls := .type "range", data := .fields #[.int lo t, .int hi u, .int 1 v] }, toks := tk } := by
  refine wpAny_pyIter_range (IsRange.new ..) (small_one h1 h2 h3 h4) ?_
  have I1 : Inv X pins σ H { s with heap := s.heap.push { cls := .type "range", data := .fields #[.int lo t, .int hi u, .int 1 v] }, toks := tk } := I.kept fun b o e => Heap.get?_push_of_some _ e
  refine ⟨(s.heap.push { cls := .type "range", data := .fields #[.int lo t, .int hi u, .int 1 v] }).objs.size, [(s.heap.push { cls := .type "range", data := .fields #[.int lo t, .int hi u, .int 1 v] }).objs.size], _, _, H, rfl,
    I1.kept (t' := tk) fun b o e => Heap.get?_push_of_some _ e, turn_range _ lo (hi - lo).toNat, ?_, fun b hb => ?_, q⟩
  · have e1 : lo + ((0 : Nat) : Int) * 1 = lo := by simp
    have e2 : (((hi - lo).toNat : Nat) : Int) - ((0 : Nat) : Int) = Builtin.Range.rangeSize lo hi 1 := by rw [rangeSize_one]; split <;> omega
    show IsRangeIter _ _ (lo + ((0 : Nat) : Int) * 1) ((((hi - lo).toNat : Nat) : Int) - ((0 : Nat) : Int)) 1
    rw [e1, e2]
    exact Heap.get?_push_size _ rfl
  · have e : b = (s.heap.push { cls := .type "range", data := .fields #[.int lo t, .int hi u, .int 1 v] }).objs.size := by simpa using hb
    subst e
    exact I1.fpOk (Nat.le_refl _) (I1.hok.fresh (Nat.le_refl _))
def iRng1 (ta : TA) : TI := fun σ H R => ta σ H fun vs H1 => ∃ j : Int, vs = [.int j] ∧ -(2 ^ 62) ≤ j ∧ j < 2 ^ 62 ∧ R (Itr 0 j.toNat) H1
theorem pi_range1 {a : Expr} {ta : TA} {p pos : Pos} (hg : Gl X "range") (hm : X.mg "range" = none) (ha : PA X [a] ta) (hs : starEach [a] X.env = [(false, eval a X.env)] := by rfl) : PI X tg (.Call (.Name "range" p) [a] [] pos) (iRng1 ta) := by
  intro pins s σ H R I h
  refine Call_ (ld_blt I hg hm boot_range (PyProof.Rows.callWith_type1 (thn (ha pos pins s σ H _ I h) fun us s1 ⟨vs, H1, I1, r1, q1⟩ => ?_) hs rfl))
  obtain ⟨j, e, q1, q2, q⟩ := q1
  subst e
  cases r1 with
  | cons r rr =>
    cases rr
    obtain ⟨t, rfl⟩ := r
    exact call_range_1 (range_it I1 (by omega) (by omega) q1 q2 (by simpa using q))
def tFor (wi : TI) (g : TG) (tb : TS) : TS := fun D σ H => wi σ H fun J H1 => ∃ W : Nat → Nat → St → Hp → Prop, (∃ m, W 0 m σ H1) ∧ ∀ i m σ H, W i m σ H →
  (J.stop i H ∧ D.nx σ H) ∨ (J.go i H ∧ ∃ N : St → Hp → Prop, (∀ σ' H', N σ' H' → ∃ m', m' < m ∧ W (i + 1) m' σ' H') ∧ ∀ x H', J.yld i H x H' → g x σ H' fun σ2 H2 => tb { D with nx := N, ct := N, bk := D.nx } σ2 H2)
def pinsAt (fp : List Addr) (h : Heap) : List (Addr × Obj) := fp.filterMap fun b => (h.get? b).map fun o => (b, o)
theorem mem_pinsAt {fp : List Addr} {h : Heap} {b : Addr} {o : Obj} (hb : b ∈ fp) (e : h.get? b = some o) : (b, o) ∈ pinsAt fp h := List.mem_filterMap.mpr ⟨b, hb, by rw [e]; rfl⟩
theorem of_pinsAt {fp : List Addr} {h : Heap} {p : Addr × Obj} (hp : p ∈ pinsAt fp h) : p.1 ∈ fp ∧ h.get? p.1 = some p.2 := by
  obtain ⟨b, hb, e⟩ := List.mem_filterMap.mp hp
  cases q : h.get? b with
  | none => rw [q] at e; cases e
  | some o =>
    rw [q] at e
    have e' : (b, o) = p := Option.some.inj e
    subst e'
    exact ⟨hb, q⟩
theorem Inv.pinned {pins : List (Addr × Obj)} {σ : St} {H : Hp} {s : Shared} {fp : List Addr} (I : Inv X pins σ H s) (hf : ∀ b ∈ fp, FpOk X pins H b) (ho : ∀ b ∈ fp, ∃ o, s.heap.get? b = some o ∧ ∀ v, o.data ≠ .cell v) : Inv X (pins ++ pinsAt fp s.heap) σ H s :=
  I.pins_of fun p hp => (List.mem_append.mp hp).elim (fun z => I.pin p (List.mem_append_right _ z)) fun z => by
    obtain ⟨hb, e⟩ := of_pinsAt z
    obtain ⟨f0, f1, f2, _⟩ := hf p.1 hb
    obtain ⟨o, e', d⟩ := ho p.1 hb
    rw [e] at e'; cases e'
    exact ⟨e, f0, f1, f2, d⟩
theorem Inv.unpinned {pins pl : List (Addr × Obj)} {σ : St} {H : Hp} {s : Shared} (I : Inv X (pins ++ pl) σ H s) : Inv X pins σ H s := I.pins_of fun p hp => I.pin p (List.mem_append_right _ (List.mem_append_left _ hp))
theorem ps_for {iter : Expr} {body : List Stmt} {wi : TI} {g : TG} {tb : TS} {pos : Pos} (hp : PassesOwn (model X.prog X.w) X.A X.env X.xe) (hc : X.calm = true) (hi : PI X tg iter wi) (hg : PG X tg g) (hb : PSs X body tb)
    (hs : ∀ x, foldedSetIterable iter X.env x = pure x := by intro _; rfl) : PS X (.For tg iter body [] pos) (tFor wi g tb) := by
  intro pins s σ H D I h
  refine wpAny_For (thn (hi pins s σ H _ I h) fun v s1 h1 => thn h1 fun itv s2 h2 => ?_) hs
  obtain ⟨it, fp, tn, J, H2, e, I2, T, st2, f2, W, ⟨m0, w0⟩, turn⟩ := h2
  subst e
  have stat : ∀ {H' : Hp}, (∀ b ∈ fp, H' b = none) → ∀ b ∈ fp, FpOk X pins H' b := fun hn b hb => ⟨hn b hb, (f2 b hb).2⟩
  refine codeAny_forLoop_any (fun n s' => ∃ i σ' H', Inv X pins σ' H' s' ∧ tn i s'.heap ∧ (∀ b ∈ fp, H' b = none) ∧ W i n σ' H') ?_ m0 ⟨0, σ, H2, I2, st2, fun b hb => (f2 b hb).1, w0⟩
  rintro n s3 ⟨i, σ3, H3, I3, st3, fr3, w3⟩
  rcases turn i n σ3 H3 w3 with ⟨stop, qn⟩ | ⟨go, N, hN, step⟩
  · refine wpAny_passesOwn hp (thn (T.done X rfl rfl rfl hc i pins s3 σ3 H3 X.xe I3 (stat fr3) st3 stop) fun r s4 ⟨hr, I4⟩ => ?_)
    subst hr
    exact wpAny_execs_nil ⟨σ3, H3, I4, qn⟩
  · refine wpAny_passesOwn hp (thn (T.item X rfl rfl rfl hc i pins s3 σ3 H3 X.xe I3 (stat fr3) st3 go) fun r s4 ⟨u, hr, h4⟩ => ?_)
    subst hr
    refine wpAny_passesOwn hp (thn h4 fun _ s5 ⟨x, H5, I5, r5, y5, st5, fr5⟩ => ?_)
    have I5' := I5.pinned (stat fr5) (T.obj _ _ st5)
    refine wpAny_passesOwn hp (thn (hg _ s5 σ3 H5 x u _ I5' r5 (step x H5 y5)) fun _ s6 ⟨σ6, H6, I6, q6⟩ => ?_)
    refine wpAny_passesOwn hp (thn (hb _ s6 σ6 H6 _ I6 q6) fun f s7 q7 => ?_)
    have again : ∀ {σ7 : St} {H7 : Hp}, Inv X (pins ++ pinsAt fp s5.heap) σ7 H7 s7 → N σ7 H7 → ∃ m, m < n ∧ ∃ i σ' H', Inv X pins σ' H' s7 ∧ tn i s7.heap ∧ (∀ b ∈ fp, H' b = none) ∧ W i m σ' H' := fun {σ7 H7} I7 n7 => by
      obtain ⟨m', hm, w7⟩ := hN σ7 H7 n7
      refine ⟨m', hm, i + 1, σ7, H7, I7.unpinned, T.keep _ _ _ st5 fun b hb o e => (I7.pin (b, o) (List.mem_append_right _ (List.mem_append_right _ (mem_pinsAt hb e)))).1, fun b hb => ?_, w7⟩
      obtain ⟨o, e, d⟩ := T.obj _ _ st5 b hb
      exact (I7.pin (b, o) (List.mem_append_right _ (List.mem_append_right _ (mem_pinsAt hb e)))).2.1
    cases f with
    | next => obtain ⟨σ7, H7, I7, n7⟩ := q7; exact again I7 n7
    | cont => obtain ⟨σ7, H7, I7, n7⟩ := q7; exact again I7 n7
    | brk => obtain ⟨σ7, H7, I7, q7⟩ := q7; exact ⟨σ7, H7, I7.unpinned, q7⟩
    | ret v => obtain ⟨x7, σ7, H7, I7, r7, q7⟩ := q7; exact ⟨x7, σ7, H7, I7.unpinned, r7, q7⟩
end
theorem for_list {K : PySem.W.Frag} {a : Addr} {xs : List V} {g : TG} {tb : TS} {D : Ends} {σ : St} {H : Hp} (Pv : Nat → St → Hp → Prop) (h0 : Pv 0 σ H) (hl : ∀ i σ H, i ≤ xs.length → Pv i σ H → SqL K H a xs)
    (hs : ∀ i x σ H, xs[i]? = some x → Pv i σ H → g x σ H fun σ2 H2 => tb { D with nx := Pv (i + 1), ct := Pv (i + 1), bk := D.nx } σ2 H2) (hd : ∀ σ H, Pv xs.length σ H → D.nx σ H) :
    ∃ W : Nat → Nat → St → Hp → Prop, (∃ m, W 0 m σ H) ∧ ∀ i m σ H, W i m σ H →
      ((Itl K a).stop i H ∧ D.nx σ H) ∨ ((Itl K a).go i H ∧ ∃ N : St → Hp → Prop, (∀ σ' H', N σ' H' → ∃ m', m' < m ∧ W (i + 1) m' σ' H') ∧ ∀ x H', (Itl K a).yld i H x H' → g x σ H' fun σ2 H2 => tb { D with nx := N, ct := N, bk := D.nx } σ2 H2) := by
  refine ⟨fun i m σ H => m = xs.length - i ∧ i ≤ xs.length ∧ Pv i σ H, ⟨xs.length, by simp, Nat.zero_le _, h0⟩, ?_⟩
  rintro i m σ H ⟨rfl, hi, p⟩
  have q := hl i σ H hi p
  by_cases hlt : i < xs.length
  · refine .inr ⟨⟨xs, xs[i], q, by simp [hlt]⟩, Pv (i + 1), fun σ' H' p' => ⟨xs.length - (i + 1), by omega, rfl, hlt, p'⟩, fun x H' y => ?_⟩
    obtain ⟨e, y⟩ := y
    subst e
    exact hs i x σ _ (y xs q) p
  · have e : i = xs.length := by omega
    subst e
    exact .inl ⟨⟨xs, q, Nat.le_refl _⟩, hd σ H p⟩
theorem for_tup {K : PySem.W.Frag} {a : Addr} {xs : List V} {g : TG} {tb : TS} {D : Ends} {σ : St} {H : Hp} (Pv : Nat → St → Hp → Prop) (h0 : Pv 0 σ H) (hl : ∀ i σ H, i ≤ xs.length → Pv i σ H → SqT K H a xs)
    (hs : ∀ i x σ H, xs[i]? = some x → Pv i σ H → g x σ H fun σ2 H2 => tb { D with nx := Pv (i + 1), ct := Pv (i + 1), bk := D.nx } σ2 H2) (hd : ∀ σ H, Pv xs.length σ H → D.nx σ H) :
    ∃ W : Nat → Nat → St → Hp → Prop, (∃ m, W 0 m σ H) ∧ ∀ i m σ H, W i m σ H →
      ((Itt K a).stop i H ∧ D.nx σ H) ∨ ((Itt K a).go i H ∧ ∃ N : St → Hp → Prop, (∀ σ' H', N σ' H' → ∃ m', m' < m ∧ W (i + 1) m' σ' H') ∧ ∀ x H', (Itt K a).yld i H x H' → g x σ H' fun σ2 H2 => tb { D with nx := N, ct := N, bk := D.nx } σ2 H2) := by
  refine ⟨fun i m σ H => m = xs.length - i ∧ i ≤ xs.length ∧ Pv i σ H, ⟨xs.length, by simp, Nat.zero_le _, h0⟩, ?_⟩
  rintro i m σ H ⟨rfl, hi, p⟩
  have q := hl i σ H hi p
  by_cases hlt : i < xs.length
  · refine .inr ⟨⟨xs, xs[i], q, by simp [hlt]⟩, Pv (i + 1), fun σ' H' p' => ⟨xs.length - (i + 1), by omega, rfl, hlt, p'⟩, fun x H' y => ?_⟩
    obtain ⟨e, y⟩ := y
    subst e
    exact hs i x σ _ (y xs q) p
  · have e : i = xs.length := by omega
    subst e
    exact .inl ⟨⟨xs, q, Nat.le_refl _⟩, hd σ H p⟩
theorem for_range {lo : Int} {n : Nat} {g : TG} {tb : TS} {D : Ends} {σ : St} {H : Hp} (Pv : Nat → St → Hp → Prop) (h0 : Pv 0 σ H)
    (hs : ∀ i σ H, i < n → Pv i σ H → g (.int (lo + i)) σ H fun σ2 H2 => tb { D with nx := Pv (i + 1), ct := Pv (i + 1), bk := D.nx } σ2 H2) (hd : ∀ σ H, Pv n σ H → D.nx σ H) :
    ∃ W : Nat → Nat → St → Hp → Prop, (∃ m, W 0 m σ H) ∧ ∀ i m σ H, W i m σ H →
      ((Itr lo n).stop i H ∧ D.nx σ H) ∨ ((Itr lo n).go i H ∧ ∃ N : St → Hp → Prop, (∀ σ' H', N σ' H' → ∃ m', m' < m ∧ W (i + 1) m' σ' H') ∧ ∀ x H', (Itr lo n).yld i H x H' → g x σ H' fun σ2 H2 => tb { D with nx := N, ct := N, bk := D.nx } σ2 H2) := by
  refine ⟨fun i m σ H => m = n - i ∧ i ≤ n ∧ Pv i σ H, ⟨n, by simp, Nat.zero_le _, h0⟩, ?_⟩
  rintro i m σ H ⟨rfl, hi, p⟩
  by_cases hlt : i < n
  · refine .inr ⟨hlt, Pv (i + 1), fun σ' H' p' => ⟨n - (i + 1), by omega, rfl, hlt, p'⟩, fun x H' y => ?_⟩
    obtain ⟨e, y⟩ := y
    subst e y
    exact hs i σ _ hlt p
  · have e : i = n := by omega
    subst e
    exact .inl ⟨Nat.le_refl _, hd σ H p⟩
end L2
namespace L2
open PySem PySem.Spec PyProof.Rows
abbrev R2 := V → V → Hp → VK → Prop
def OpR (X : Cx) (f : Value → Value → Sem Value) (r : R2) : Prop :=
  ∀ (pins : List (Addr × Obj)) (s : Shared) (σ : St) (H : Hp) (x y : V) (v u : Value) (Q : VK), Inv X pins σ H s → RelV x v → RelV y u → r x y H Q →
    wpAny (model X.prog X.w) X.A (f v u) (EP X pins σ Q) X.xe s
def UnR (X : Cx) (f : Value → Sem Value) (r : V → Hp → VK → Prop) : Prop :=
  ∀ (pins : List (Addr × Obj)) (s : Shared) (σ : St) (H : Hp) (x : V) (v : Value) (Q : VK), Inv X pins σ H s → RelV x v → r x H Q →
    wpAny (model X.prog X.w) X.A (f v) (EP X pins σ Q) X.xe s
def CallR (X : Cx) (f : Value) (r : List V → Hp → VK → Prop) : Prop :=
  ∀ (pins : List (Addr × Obj)) (s : Shared) (σ : St) (H : Hp) (xs : List V) (us : List Value) (Q : VK), Inv X pins σ H s → Vals xs us → r xs H Q →
    wpAny (model X.prog X.w) X.A (call f us) (EP X pins σ Q) X.xe s
def tOp (r : R2) (ta tb : TE) : TE := fun σ H Q => ta σ H fun x H1 => tb σ H1 fun y H2 => r x y H2 Q
def tUn (r : V → Hp → VK → Prop) (ta : TE) : TE := fun σ H Q => ta σ H fun x H1 => r x H1 Q
def rI (C : Int → Int → Prop) (g : Int → Int → V) : R2 := fun x y H Q => ∃ i j, x = .int i ∧ y = .int j ∧ C i j ∧ Q (g i j) H
def rI0 (g : Int → Int → V) : R2 := fun x y H Q => ∃ i j, x = .int i ∧ y = .int j ∧ Q (g i j) H
def rU (g : Int → V) : V → Hp → VK → Prop := fun x H Q => ∃ i, x = .int i ∧ Q (g i) H
section
variable {X : Cx} {a b c : Expr} {ta tb tc : TE} {pos : Pos}
theorem binT (ha : PE X a ta) (hb : PE X b tb) {pins : List (Addr × Obj)} {s : Shared} {σ : St} {H : Hp} {R : V → V → Hp → Prop} (I : Inv X pins σ H s)
    (h : ta σ H fun x H1 => tb σ H1 fun y H2 => R x y H2) {Q : Value → Shared → Prop} {f : Value → Value → Sem Value}
    (hf : ∀ v u s2 x y H2, Inv X pins σ H2 s2 → RelV x v → RelV y u → R x y H2 → wpAny (model X.prog X.w) X.A (f v u) Q X.xe s2) :
    wpAny (model X.prog X.w) X.A (eval a X.env) (fun v s₁ => wpAny (model X.prog X.w) X.A (eval b X.env) (fun u s₂ => wpAny (model X.prog X.w) X.A (f v u) Q X.xe s₂) X.xe s₁) X.xe s := by
  refine thn (ha pins s σ H _ I h) fun v s1 ⟨x, H1, I1, r1, q1⟩ => ?_
  refine thn (hb pins s1 σ H1 _ I1 q1) fun u s2 ⟨y, H2, I2, r2, q2⟩ => ?_
  exact hf v u s2 x y H2 I2 r1 r2 q2
theorem pe_op {op : Operator} {r : R2} (ho : OpR X (binaryOp op) r) (ha : PE X a ta) (hb : PE X b tb) : PE X (.BinOp a op b pos) (tOp r ta tb) := by
  intro pins s σ H Q I h
  exact wpAny_BinOp (binT ha hb I h fun v u s2 x y H2 I2 rx ry q => ho pins s2 σ H2 x y v u Q I2 rx ry q)
theorem pe_un {op : UnaryOp} {r : V → Hp → VK → Prop} (ho : UnR X (unaryOp op) r) (ha : PE X a ta) : PE X (.UnaryOp op a pos) (tUn r ta) := by
  intro pins s σ H Q I h
  exact UnaryOp_ (thn (ha pins s σ H _ I h) fun v s1 ⟨x, H1, I1, r1, q1⟩ => ho pins s1 σ H1 x v Q I1 r1 q1)
theorem opI {f : Value → Value → Sem Value} {C : Int → Int → Prop} {g : Int → Int → Int}
    (rule : ∀ (i j : Int) (t u : Tok) (s : Shared) (Q : Value → Shared → Prop) (E : Value → Shared → Prop), C i j → Q (.int (g i j) s.toks) { s with toks := s.toks + 1 } → wpAny (model X.prog X.w) X.A (f (.int i t) (.int j u)) Q E s) :
    OpR X f (rI C fun i j => .int (g i j)) := by
  intro pins s σ H x y v u Q I rx ry h
  obtain ⟨i, j, rfl, rfl, hc, q⟩ := h
  obtain ⟨t, rfl⟩ := rx
  obtain ⟨t', rfl⟩ := ry
  exact rule i j t t' s _ _ hc ⟨.int (g i j), H, I.tok _, ⟨_, rfl⟩, q⟩
theorem opI0 {f : Value → Value → Sem Value} {g : Int → Int → Int}
    (rule : ∀ (i j : Int) (t u : Tok) (s : Shared) (Q : Value → Shared → Prop) (E : Value → Shared → Prop), Q (.int (g i j) s.toks) { s with toks := s.toks + 1 } → wpAny (model X.prog X.w) X.A (f (.int i t) (.int j u)) Q E s) :
    OpR X f (rI0 fun i j => .int (g i j)) := by
  intro pins s σ H x y v u Q I rx ry h
  obtain ⟨i, j, rfl, rfl, q⟩ := h
  obtain ⟨t, rfl⟩ := rx
  obtain ⟨t', rfl⟩ := ry
  exact rule i j t t' s _ _ ⟨.int (g i j), H, I.tok _, ⟨_, rfl⟩, q⟩
theorem opB0 {f : Value → Value → Sem Value} {g : Int → Int → Bool}
    (rule : ∀ (i j : Int) (t u : Tok) (s : Shared) (Q : Value → Shared → Prop) (E : Value → Shared → Prop), Q (.bool (g i j)) s → wpAny (model X.prog X.w) X.A (f (.int i t) (.int j u)) Q E s) :
    OpR X f (rI0 fun i j => .bl (g i j)) := by
  intro pins s σ H x y v u Q I rx ry h
  obtain ⟨i, j, rfl, rfl, q⟩ := h
  obtain ⟨t, rfl⟩ := rx
  obtain ⟨t', rfl⟩ := ry
  exact rule i j t t' s _ _ ⟨.bl (g i j), H, I, rfl, q⟩
def CDiv (i j : Int) : Prop := 0 < j ∧ j < 1073741824
def CPow (i j : Int) : Prop := 0 ≤ j ∧ j ≤ 1000000 ∧ i.natAbs < 2 ^ 64
def CMul (i j : Int) : Prop := (-(2 ^ 64) < i ∧ i < 2 ^ 64) ∨ (-(2 ^ 64) < j ∧ j < 2 ^ 64)
theorem CMul.ok {i j : Int} (h : CMul i j) : IntMulOk i j := by
  rcases h with ⟨h1, h2⟩ | ⟨h1, h2⟩
  · exact .of_left (intBits_le_64 h1 h2)
  · exact .of_right (intBits_le_64 h1 h2)
theorem op_add : OpR X (binaryOp .Add) (rI0 fun i j => .int (i + j)) := opI0 fun _ _ _ _ _ _ _ q => add_int q
theorem op_sub : OpR X (binaryOp .Sub) (rI0 fun i j => .int (i - j)) := opI0 fun _ _ _ _ _ _ _ q => sub_int q
theorem op_mul : OpR X (binaryOp .Mult) (rI CMul fun i j => .int (i * j)) := opI fun _ _ _ _ _ _ _ hc q => mul_int q hc.ok
theorem op_fdiv : OpR X (binaryOp .FloorDiv) (rI CDiv fun i j => .int (i / j)) := opI fun i j _ _ _ _ _ hc q => by
  have h1 : (0 : Int) < j := hc.1
  have h2 : j < 1073741824 := hc.2
  exact floordiv_int (by omega) (by rw [Int.fdiv_eq_ediv_of_nonneg i (by omega)]; exact q) (.inl (PyProof.noPylong_small (by omega)))
theorem op_mod : OpR X (binaryOp .Mod) (rI (fun _ j => 0 < j) fun i j => .int (i % j)) := opI fun i j _ _ _ _ _ hc q => by
  have h1 : (0 : Int) < j := hc
  exact mod_int' (by omega) (by rw [Int.fmod_eq_emod_of_nonneg i (by omega)]; exact q)
theorem op_pow : OpR X (binaryOp .Pow) (rI CPow fun i j => .int (i ^ j.toNat)) := opI fun _ _ _ _ _ _ _ hc q => pow_int_small hc.1 hc.2.1 hc.2.2 q
theorem unI {f : Value → Sem Value} {g : Int → Int}
    (rule : ∀ (i : Int) (t : Tok) (s : Shared) (Q : Value → Shared → Prop) (E : Value → Shared → Prop), Q (.int (g i) s.toks) { s with toks := s.toks + 1 } → wpAny (model X.prog X.w) X.A (f (.int i t)) Q E s) :
    UnR X f (rU fun i => .int (g i)) := by
  intro pins s σ H x v Q I rx h
  obtain ⟨i, rfl, q⟩ := h
  obtain ⟨t, rfl⟩ := rx
  exact rule i t s _ _ ⟨.int (g i), H, I.tok _, ⟨_, rfl⟩, q⟩
theorem un_neg : UnR X (unaryOp .USub) (rU fun i => .int (-i)) := unI fun _ _ _ _ _ q => neg_int q
end
def scal : V → V → Bool
  | .non, .non => true | .non, .int _ => true | .int _, .non => true | .non, .bl _ => true | .bl _, .non => true | .non, .str _ => true | .str _, .non => true
  | .int _, .int _ => true | .bl _, .bl _ => true | .str _, .str _ => true | .byt _, .byt _ => true
  | .int _, .str _ => true | .str _, .int _ => true | .bl _, .str _ => true | .str _, .bl _ => true
  | _, _ => false
def rEq : R2 := fun x y H Q => scal x y = true ∧ Q (.bl (decide (x = y))) H
def rNe : R2 := fun x y H Q => scal x y = true ∧ Q (.bl (!decide (x = y))) H
theorem dec_int {i j : Int} : decide (V.int i = V.int j) = (i == j) := by
  rw [Bool.eq_iff_iff]
  simp
theorem dec_bl {i j : Bool} : decide (V.bl i = V.bl j) = (i == j) := by
  rw [Bool.eq_iff_iff]
  simp
theorem dec_str {i j : Str} : decide (V.str i = V.str j) = (i == j) := by
  rw [Bool.eq_iff_iff]
  simp
theorem dec_byt {i j : Array UInt8} : decide (V.byt i = V.byt j) = (i.toList == j.toList) := by
  rw [Bool.eq_iff_iff]
  cases i
  cases j
  simp
section
variable {X : Cx} {a b c : Expr} {ta tb tc : TE} {pos : Pos}
theorem fin_bl {pins : List (Addr × Obj)} {σ : St} {H : Hp} {s : Shared} {Q : VK} {k k' : Bool} (I : Inv X pins σ H s) (q : Q (.bl k) H) (e : k = k') : EP X pins σ Q (.bool k') s := by
  subst e
  exact ⟨.bl k, H, I, rfl, q⟩
theorem op_eq : OpR X (compareOp .Eq) rEq := by
  intro pins s σ H x y v u Q I rx ry h
  obtain ⟨hs, q⟩ := h
  cases x with
  | non =>
    cases rx
    cases y with
    | non => cases ry; exact PySem.EqNone.eq_none_none (fin_bl I q (by simp))
    | bl j => cases ry; exact PySem.EqNone.eq_none_bool (fin_bl I q (by simp))
    | int j => obtain ⟨t', rfl⟩ := ry; exact PySem.EqNone.eq_none_int (fin_bl I q (by simp))
    | str j => obtain ⟨t', rfl⟩ := ry; exact PySem.EqNone.eq_none_str (fin_bl I q (by simp))
    | _ => exact absurd (show false = true from hs) Bool.false_ne_true
  | bl i =>
    cases rx
    cases y with
    | non => cases ry; exact PySem.EqNone.eq_bool_none (fin_bl I q (by simp))
    | bl j => cases ry; exact eq_bool (fin_bl I q dec_bl)
    | str j => obtain ⟨t', rfl⟩ := ry; exact PySem.EqMixed.eq_bool_str (fin_bl I q (by simp))
    | _ => exact absurd (show false = true from hs) Bool.false_ne_true
  | int i =>
    obtain ⟨t, rfl⟩ := rx
    cases y with
    | non => cases ry; exact PySem.EqNone.eq_int_none (fin_bl I q (by simp))
    | int j => obtain ⟨t', rfl⟩ := ry; exact eq_int (fin_bl I q dec_int)
    | str j => obtain ⟨t', rfl⟩ := ry; exact PySem.EqMixed.eq_int_str (fin_bl I q (by simp))
    | _ => exact absurd (show false = true from hs) Bool.false_ne_true
  | str i =>
    obtain ⟨t, rfl⟩ := rx
    cases y with
    | non => cases ry; exact PySem.EqNone.eq_str_none (fin_bl I q (by simp))
    | bl j => cases ry; exact PySem.EqMixed.eq_str_bool (fin_bl I q (by simp))
    | int j => obtain ⟨t', rfl⟩ := ry; exact PySem.EqMixed.eq_str_int (fin_bl I q (by simp))
    | str j => obtain ⟨t', rfl⟩ := ry; exact eq_str (fin_bl I q dec_str)
    | _ => exact absurd (show false = true from hs) Bool.false_ne_true
  | byt i =>
    obtain ⟨t, rfl⟩ := rx
    cases y with
    | byt j => obtain ⟨t', rfl⟩ := ry; exact PySem.W.eq_bytes (fin_bl I q dec_byt)
    | _ => exact absurd (show false = true from hs) Bool.false_ne_true
  | _ => cases y <;> exact absurd (show false = true from hs) Bool.false_ne_true
theorem op_ne : OpR X (compareOp .NotEq) rNe := by
  intro pins s σ H x y v u Q I rx ry h
  obtain ⟨hs, q⟩ := h
  cases x with
  | non =>
    cases rx
    cases y with
    | non => cases ry; exact PySem.EqNone.ne_none_none (fin_bl I q (by simp))
    | bl j => cases ry; exact PySem.EqNone.ne_none_bool (fin_bl I q (by simp))
    | int j => obtain ⟨t', rfl⟩ := ry; exact PySem.EqNone.ne_none_int (fin_bl I q (by simp))
    | str j => obtain ⟨t', rfl⟩ := ry; exact PySem.EqNone.ne_none_str (fin_bl I q (by simp))
    | _ => exact absurd (show false = true from hs) Bool.false_ne_true
  | bl i =>
    cases rx
    cases y with
    | non => cases ry; exact PySem.EqNone.ne_bool_none (fin_bl I q (by simp))
    | bl j => cases ry; exact ne_bool (fin_bl I q (congrArg not dec_bl))
    | str j => obtain ⟨t', rfl⟩ := ry; exact PySem.EqMixed.ne_bool_str (fin_bl I q (by simp))
    | _ => exact absurd (show false = true from hs) Bool.false_ne_true
  | int i =>
    obtain ⟨t, rfl⟩ := rx
    cases y with
    | non => cases ry; exact PySem.EqNone.ne_int_none (fin_bl I q (by simp))
    | int j => obtain ⟨t', rfl⟩ := ry; exact ne_int (fin_bl I q (congrArg not dec_int))
    | str j => obtain ⟨t', rfl⟩ := ry; exact PySem.EqMixed.ne_int_str (fin_bl I q (by simp))
    | _ => exact absurd (show false = true from hs) Bool.false_ne_true
  | str i =>
    obtain ⟨t, rfl⟩ := rx
    cases y with
    | non => cases ry; exact PySem.EqNone.ne_str_none (fin_bl I q (by simp))
    | bl j => cases ry; exact PySem.EqMixed.ne_str_bool (fin_bl I q (by simp))
    | int j => obtain ⟨t', rfl⟩ := ry; exact PySem.EqMixed.ne_str_int (fin_bl I q (by simp))
    | str j => obtain ⟨t', rfl⟩ := ry; exact ne_str (fin_bl I q (congrArg not dec_str))
    | _ => exact absurd (show false = true from hs) Bool.false_ne_true
  | byt i =>
    obtain ⟨t, rfl⟩ := rx
    cases y with
    | byt j => obtain ⟨t', rfl⟩ := ry; exact PySem.W.ne_bytes (fin_bl I q (congrArg not dec_byt))
    | _ => exact absurd (show false = true from hs) Bool.false_ne_true
  | _ => cases y <;> exact absurd (show false = true from hs) Bool.false_ne_true
theorem op_lt : OpR X (compareOp .Lt) (rI0 fun i j => .bl (decide (i < j))) := opB0 fun _ _ _ _ _ _ _ q => lt_int q
theorem op_gt : OpR X (compareOp .Gt) (rI0 fun i j => .bl (decide (j < i))) := opB0 fun _ _ _ _ _ _ _ q => gt_int q
theorem op_ge : OpR X (compareOp .GtE) (rI0 fun i j => .bl (decide (j ≤ i))) := opB0 fun _ _ _ _ _ _ _ q => ge_int q
theorem op_isN : OpR X (compareOp .Is) (fun x y H Q => y = .non ∧ Q (.bl (decide (x = .non))) H) := by
  intro pins s σ H x y v u Q I rx ry h
  obtain ⟨rfl, q⟩ := h
  cases ry
  refine is_none_gen (fin_bl I q ?_)
  cases x <;> first
    | (cases rx; rfl)
    | (obtain ⟨t, rfl⟩ := rx; rfl)
theorem op_notN : OpR X (compareOp .IsNot) (fun x y H Q => y = .non ∧ Q (.bl (!decide (x = .non))) H) := by
  intro pins s σ H x y v u Q I rx ry h
  obtain ⟨rfl, q⟩ := h
  cases ry
  refine isnot_none_gen (fin_bl I q ?_)
  cases x <;> first
    | (cases rx; rfl)
    | (obtain ⟨t, rfl⟩ := rx; rfl)
theorem nomark (b : Expr) {op : CmpOp} (h : op ≠ .In := by decide) (h2 : op ≠ .NotIn := by decide) : behindInMarks op b = false := by
  have e1 : (op == CmpOp.In) = false := by cases op <;> first | rfl | exact absurd rfl h
  have e2 : (op == CmpOp.NotIn) = false := by cases op <;> first | rfl | exact absurd rfl h2
  cases b <;> simp [behindInMarks, e1, e2]
theorem pe_cmpR {op : CmpOp} {r : R2} (ho : OpR X (compareOp op) r) (ha : PE X a ta) (hb : PE X b tb) (hm : behindInMarks op b = false) : PE X (.Compare a [op] [b] pos) (tOp r ta tb) := by
  intro pins s σ H Q I h
  exact wpAny_Compare1 (binT ha hb I h fun v u s2 x y H2 I2 rx ry q => ho pins s2 σ H2 x y v u Q I2 rx ry q) hm
def tTest (t : TE) : TT := fun σ H Q => t σ H fun x H' => ∃ k, x = .bl k ∧ Q k H'
theorem pt_cmpR {op : CmpOp} {r : R2} (ho : OpR X (compareOp op) r) (ha : PE X a ta) (hb : PE X b tb) (hm : behindInMarks op b = false) : PT X (.Compare a [op] [b] pos) (tTest (tOp r ta tb)) := by
  intro pins s σ H Q I h
  refine wpAny_isTrue_Compare1 (thn (ha pins s σ H _ I h) fun v s1 ⟨x, H1, I1, r1, q1⟩ => thn (hb pins s1 σ H1 _ I1 q1) fun u s2 ⟨y, H2, I2, r2, q2⟩ =>
    thn (ho pins s2 σ H2 x y v u _ I2 r1 r2 q2) fun c s3 ⟨z, H3, I3, r3, k, e, q3⟩ => ?_) hm
  subst e
  cases r3
  exact wpAny_truthy_bool ⟨H3, I3, q3⟩
theorem line63 : (sizeLine : Nat) < 2 ^ 63 := by rw [sizeLine_eq]; decide
theorem op_add_str : OpR X (binaryOp .Add) (fun x y H Q => ∃ i j, x = .str i ∧ y = .str j ∧ i.length + j.length ≤ sizeLine ∧ Q (.str (i ++ j)) H) := by
  intro pins s σ H x y v u Q I rx ry h
  obtain ⟨i, j, rfl, rfl, hz, q⟩ := h
  obtain ⟨t, rfl⟩ := rx
  obtain ⟨t', rfl⟩ := ry
  exact add_str (fun t' tk => ⟨.str (i ++ j), H, I.tok _, ⟨_, rfl⟩, q⟩) hz
theorem vals1 {x : V} {us : List Value} (r : Vals [x] us) : ∃ u, us = [u] ∧ RelV x u := by
  cases r with
  | cons r1 r2 => cases r2; exact ⟨_, rfl, r1⟩
theorem vals2 {x y : V} {us : List Value} (r : Vals [x, y] us) : ∃ u w', us = [u, w'] ∧ RelV x u ∧ RelV y w' := by
  cases r with
  | cons r1 r2 =>
    cases r2 with
    | cons r3 r4 => cases r4; exact ⟨_, _, rfl, r1, r3⟩
theorem call_abs : CallR X (.builtin "abs") (fun xs H Q => ∃ i, xs = [.int i] ∧ Q (.int (if i < 0 then -i else i)) H) := by
  intro pins s σ H xs us Q I r h
  obtain ⟨i, rfl, q⟩ := h
  obtain ⟨u, rfl, t, rfl⟩ := vals1 r
  exact call_abs_int fun u tk => ⟨.int (if i < 0 then -i else i), H, I.tok _, ⟨_, rfl⟩, q⟩
theorem call_max2 (hc : X.calm = true) : CallR X (.builtin "max") (fun xs H Q => ∃ i j, xs = [.int i, .int j] ∧ Q (.int (if j > i then j else i)) H) := by
  intro pins s σ H xs us Q I r h
  obtain ⟨i, j, rfl, q⟩ := h
  obtain ⟨u, w', rfl, ⟨t, rfl⟩, ⟨t', rfl⟩⟩ := vals2 r
  refine max_two_ints (I.ok.hd hc) fun h' tk k => ⟨_, H, I.kept k, ?_, q⟩
  by_cases hj : j > i
  · rw [if_pos hj, if_pos hj]; exact ⟨_, rfl⟩
  · rw [if_neg hj, if_neg hj]; exact ⟨_, rfl⟩
theorem call_min2 (hc : X.calm = true) : CallR X (.builtin "min") (fun xs H Q => ∃ i j, xs = [.int i, .int j] ∧ Q (.int (if j < i then j else i)) H) := by
  intro pins s σ H xs us Q I r h
  obtain ⟨i, j, rfl, q⟩ := h
  obtain ⟨u, w', rfl, ⟨t, rfl⟩, ⟨t', rfl⟩⟩ := vals2 r
  refine min_two_ints (I.ok.hd hc) fun h' tk k => ⟨_, H, I.kept k, ?_, q⟩
  by_cases hj : j < i
  · rw [if_pos hj, if_pos hj]; exact ⟨_, rfl⟩
  · rw [if_neg hj, if_neg hj]; exact ⟨_, rfl⟩
end
end L2
namespace L2
open PySem PySem.Spec PyProof.Rows
structure ObjM (h : Heap) (x dx C : Addr) (mA : Str → Option Value) : Prop where
  obj : h.get? x = some (PySem.W.instObj C dx)
  ns : h.Ns1 dx mA
  ne : dx ≠ x
theorem lookIn_ns {h : Heap} {dx : Addr} {mA : Str → Option Value} (n : h.Ns1 dx mA) : ∃ od, h.get? dx = some od ∧ ∀ name, PySem.W.lookIn name od = some (mA name) := by
  obtain ⟨o, es, ep, ho, hd, hk, _, hm⟩ := n
  refine ⟨o, ho, fun name => ?_⟩
  have e := hm name
  unfold nsFind findBy at e
  rw [← Array.find?_toList] at e
  unfold PySem.W.lookIn
  rw [hd]
  dsimp only
  split
  · rename_i y q
    rw [q] at e
    exact congrArg some e
  · rename_i q
    rw [q] at e
    have a : es.toList.any (·.refKey) = false := by
      rw [List.any_eq_false]
      intro y hy
      obtain ⟨z, t, hkey⟩ := hk y (Array.mem_toList_iff.mp hy)
      simp [DictEntry.refKey, hkey]
    have a' : ¬ es.toList.any (·.refKey) = true := by rw [a]; exact Bool.false_ne_true
    rw [if_neg a']
    exact congrArg some e
theorem ObjM.look {h : Heap} {x dx C : Addr} {mA : Str → Option Value} (I : ObjM h x dx C mA) : ∃ od, PySem.W.InstAt h x (PySem.W.instObj C dx) C (some od) ∧ ∀ name, PySem.W.lookIn name od = some (mA name) :=
  let ⟨od, ho, hl⟩ := lookIn_ns I.ns
  ⟨od, ⟨I.obj, rfl, rfl, ho⟩, hl⟩
section
variable {prog : Program} {w : World} {A : Around} {E : Value → Shared → Prop} {s : Shared} {K : PySem.W.Frag} {x dx C f : Addr} {mA : Str → Option Value} {name : Str} {v : Value}
end
theorem RelO.some_of {v : V} {o : Option Value} (r : RelO (some v) o) : ∃ u, o = some u ∧ RelV v u := by
  cases o with
  | none => exact (show False from r).elim
  | some u => exact ⟨u, rfl, r⟩
section
variable {P : Program} {w : World} {H H' : Hp} {h h' : Heap} {a C dx : Addr} {fs fs' : List (Str × V)}
theorem ins_get (hok : HOk P w H h) (e : H a = some (.ins C dx fs)) : ∃ mA, ObjM h a dx C mA ∧ (∀ f, RelO (fs.lookup f) (mA f)) ∧ PySem.Within mA (fs.map (·.1)) ∧ fs.length ≤ 1000 ∧ H dx = some (.own a) := by
  obtain ⟨d, z, ne, ob, mA, n, r, q⟩ := (show ObjOk P w H h a (.ins C dx fs) from hok a _ e)
  exact ⟨mA, ⟨ob, n, ne⟩, r, q, z, d⟩
end
structure Cls (K : PySem.W.Frag) (C : Addr) : Prop where
  pg : PySem.W.plainGet K C Str.empty = true
  hd : PySem.W.hasDictIn K C = true
  po : PySem.W.plainOver K C = true
  sa : PySem.W.findIn K (.ref C) "__setattr__" = some (some (.builtin "object.__setattr__"))
theorem Cls.get {K : PySem.W.Frag} {C : Addr} (c : Cls K C) (f : Str) : PySem.W.plainGet K C f = true := c.pg
structure Con (K : PySem.W.Frag) (C : Addr) (f : Str) (v : V) (u : Value) : Prop where
  at_ : PySem.W.findIn K (.ref C) f = some (some u)
  rel : RelV v u
  get : PySem.W.specialIn K u "__get__" = some none
  cp : PySem.W.copiedNames.contains f = false
structure Meth (K : PySem.W.Frag) (C : Addr) (m : Str) (f : Addr) : Prop where
  at_ : PySem.W.findIn K (.ref C) m = some (some (.ref f))
  fn : PySem.W.isFn K (.ref f) = true
  kp : PySem.W.keepIn K (.ref f) = true
section
variable {X : Cx} {pins : List (Addr × Obj)} {σ : St} {H : Hp} {s : Shared} {a C dx : Addr} {fs : List (Str × V)} {f : Str} {v : V} {A : Around} {E : Value → Shared → Prop}
end
section
variable {X : Cx} {o e value : Expr} {f : Str} {pos pos' tpos : Pos} {ta tv : TE}
end
section
variable {X : Cx} {pins : List (Addr × Obj)} {σ : St} {H : Hp} {s : Shared} {A : Around} {E : Value → Shared → Prop} {Q : Value → Shared → Prop} {c : Value} {b : Bool}
inductive TyOf (K : PySem.W.Frag) (H : Hp) : V → Value → Prop where
  | non : TyOf K H .non (.type "NoneType")
  | bl (x : Bool) : TyOf K H (.bl x) (.type "bool")
  | int (i : Int) : TyOf K H (.int i) (.type "int")
  | str (x : Str) : TyOf K H (.str x) (.type "str")
  | flt (x : UInt64) : TyOf K H (.flt x) (.type "float")
  | lst {a : Addr} {xs : List V} (e : H a = some (.lst xs)) : TyOf K H (.ref a) (.type "list")
  | frz {a : Addr} {o : Obj} {xs : List V} (e : H a = some (.frz o (.lst xs))) : TyOf K H (.ref a) (.type "list")
  | tup {a : Addr} {xs : List V} (e : H a = some (.tup xs)) : TyOf K H (.ref a) (.type "tuple")
  | dK {a : Addr} {kvs : List (Key × V)} (e : H a = some (.dK kvs)) : TyOf K H (.ref a) (.type "dict")
  | dT {a : Addr} {kvs : List (List Key × V)} (e : H a = some (.dT kvs)) : TyOf K H (.ref a) (.type "dict")
  | ins {a C dx : Addr} {fs : List (Str × V)} (e : H a = some (.ins C dx fs)) (cl : Cls K C) (ha : PySem.W.findIn K (.ref C) "__class__" = some (some (.builtin "object.__class__")))
      (hn : PySem.W.specialIn K (.builtin "object.__class__") "__get__" = some (some (.builtin "getset_descriptor.__get__"))) (htk : PySem.W.takesIn K (.builtin "object.__class__") = some true)
      (hm : PySem.W.mroIn K C (.type "object") = some true) : TyOf K H (.ref a) (.ref C)
theorem isinst_ok {x : V} {u t : Value} (I : Inv X pins σ H s) (rx : RelV x u) (ty : TyOf X.K H x t) (e : PySem.W.kitOne X.K t c = some b) (h : ∀ tk, Q (.bool b) { s with toks := tk }) :
    wpAny (model X.prog X.w) A (call (.builtin "isinstance") [u, c]) Q E s := by
  cases ty with
  | non => cases (show u = Value.none from rx); exact PySem.W.kia_one PySem.W.kitx_none I.kIn True.intro e (fun z => nomatch z) h
  | bl y => cases (show u = Value.bool y from rx); exact PySem.W.kia_one PySem.W.kitx_bool I.kIn True.intro e (fun z => nomatch z) h
  | int i => obtain ⟨t, q⟩ := (show ∃ t, u = Value.int i t from rx); cases q; exact PySem.W.kia_one PySem.W.kitx_int I.kIn True.intro e (fun z => nomatch z) h
  | str y => obtain ⟨t, q⟩ := (show ∃ t, u = Value.str y t from rx); cases q; exact PySem.W.kia_one PySem.W.kitx_str I.kIn True.intro e (fun z => nomatch z) h
  | flt y => obtain ⟨t, q⟩ := (show ∃ t, u = Value.float y t from rx); cases q; exact PySem.W.kia_one PySem.W.kitx_float I.kIn True.intro e (fun z => nomatch z) h
  | @lst a xs ea =>
    cases (show u = Value.ref a from rx)
    obtain ⟨_, _, n, _, h1⟩ := (show ObjOk X.prog X.w H s.heap a (.lst xs) from I.hok a _ ea)
    exact PySem.W.kia_one PySem.W.kitx_list I.kIn ⟨_, h1, rfl⟩ e (fun z => nomatch z) h
  | @frz a ob xs ea =>
    cases (show u = Value.ref a from rx)
    obtain ⟨_, _, _, n, _, h1⟩ := (show ObjOk X.prog X.w H s.heap a (.frz ob (.lst xs)) from I.hok a _ ea)
    exact PySem.W.kia_one PySem.W.kitx_list I.kIn ⟨_, h1, rfl⟩ e (fun z => nomatch z) h
  | @tup a xs ea =>
    cases (show u = Value.ref a from rx)
    obtain ⟨_, _, _, p⟩ := (show ObjOk X.prog X.w H s.heap a (.tup xs) from I.hok a _ ea)
    obtain ⟨o, h1, h2, _⟩ := p
    exact PySem.W.kia_one PySem.W.kitx_tuple I.kIn ⟨o, h1, h2⟩ e (fun z => nomatch z) h
  | @dK a kvs ea =>
    cases (show u = Value.ref a from rx)
    obtain ⟨_, _, vs, _, p⟩ := (show ObjOk X.prog X.w H s.heap a (.dK kvs) from I.hok a _ ea)
    obtain ⟨o, es, ep, h1, h2, _⟩ := p
    exact PySem.W.kia_one PySem.W.kitx_dict I.kIn ⟨o, h1, h2.1⟩ e (fun z => nomatch z) h
  | @dT a kvs ea =>
    cases (show u = Value.ref a from rx)
    obtain ⟨_, _, xs, _, o, es, ep, h1, h2, _⟩ := (show ObjOk X.prog X.w H s.heap a (.dT kvs) from I.hok a _ ea)
    exact PySem.W.kia_one PySem.W.kitx_dict I.kIn ⟨o, h1, h2.1⟩ e (fun z => nomatch z) h
  | @ins a C dx fs ea cl ha hn htk hm =>
    cases (show u = Value.ref a from rx)
    obtain ⟨mA, O, _⟩ := ins_get I.hok ea
    obtain ⟨od, J, _⟩ := O.look
    exact PySem.W.kia_one (PySem.W.kitx_own (cl.get _) cl.hd ha hn htk hm) I.kIn J e (fun z => nomatch z) h
end
end L2
namespace L2
open PySem PySem.Spec PyProof.Rows
structure Room (k : Nat) (A : Around) : Prop where
  hd : A.handled = none
  dp : A.depth + 3 * k + 5 < recursionLimit
  un : A.units + 16 * k + 200 < cLine
theorem Room.mono {j k : Nat} {A : Around} (r : Room k A) (h : j ≤ k) : Room j A := ⟨r.hd, by have := r.dp; omega, by have := r.un; omega⟩
theorem Room.deeper {k : Nat} {A : Around} (r : Room (k + 1) A) (env : Env) : Room k (A.deeper env) :=
  ⟨r.hd, by have := r.dp; show A.depth + 1 + 3 * k + 5 < _; omega, by have := r.un; show A.units + 3 + 16 * k + 200 < _; omega⟩
theorem Room.depth {k : Nat} {A : Around} (r : Room k A) : A.depth < recursionLimit := by have := r.dp; omega
theorem Room.units {k : Nat} {A : Around} (r : Room k A) : A.units + 64 < cLine := by have := r.un; omega
theorem Room.units0 {k : Nat} {A : Around} (r : Room k A) : A.units < cLine := by have := r.un; omega
def tNil : TA := fun _ H Q => Q [] H
def tCons (ta : TE) (tr : TA) : TA := fun σ H Q => ta σ H fun x H1 => tr σ H1 fun xs H2 => Q (x :: xs) H2
section
variable {X : Cx} {e : Expr} {es : List Expr} {te : TE} {t : TA} {pos : Pos}
theorem pa_nil : PA X [] tNil := fun _ _ _ _ H Q I h => Calls.spliced_nil ⟨[], H, I, .nil, h⟩
theorem pa_cons (ha : PE X e te) (hr : PA X es t) (hs : starEach (e :: es) X.env = (false, eval e X.env) :: starEach es X.env := by rfl) : PA X (e :: es) (tCons te t) := by
  intro pos pins s σ H Q I h
  rw [hs]
  show wpAny _ _ (spliced ((false, eval e X.env) :: backTo pos (starEach es X.env))) _ _ s
  refine Calls.spliced_cons (thn (ha pins s σ H _ I h) fun u s1 ⟨x, H1, I1, r1, q1⟩ => ?_)
  exact thn (hr pos pins s1 σ H1 _ I1 q1) fun us s2 ⟨xs, H2, I2, r2, q2⟩ => ⟨x :: xs, H2, I2, .cons r1 r2, q2⟩
def tTup (t : TA) : TE := fun σ H Q => t σ H fun xs H1 => xs.length ≤ sizeLine ∧ ∀ p, H1 p = none → Q (.ref p) (upd H1 p (.tup xs))
def tLst (t : TA) : TE := fun σ H Q => t σ H fun xs H1 => xs.length ≤ sizeLine ∧ ∀ p, H1 p = none → Q (.ref p) (upd H1 p (.lst xs))
theorem pe_tup {x1} (h : PA X es t) : PE X (.Tuple es x1 pos) (tTup t) := by
  intro pins s σ H Q I hq
  refine wpAny_Tuple_spliced (thn (h pos pins s σ H _ I hq) fun us s1 ⟨xs, H1, I1, r, z, q⟩ => ⟨by rw [← r.length]; exact z, ?_⟩)
  have hf : H1 s1.heap.objs.size = none := I1.hok.fresh (Nat.le_refl _)
  refine ⟨.ref s1.heap.objs.size, upd H1 s1.heap.objs.size (.tup xs), I1.laid (t' := s1.toks) (fun b u e => Heap.get?_push_of_some _ e) (Nat.le_refl _) ?_, rfl, q _ hf⟩
  exact ⟨⟨z, nod_push _ _⟩, us, r, ⟨_, Heap.get?_push_size _ rfl, rfl, _, rfl⟩⟩
theorem pe_lst (h : PA X es t) : PE X (.List es pos) (tLst t) := by
  intro pins s σ H Q I hq
  refine wpAny_List_spliced (thn (h pos pins s σ H _ I hq) fun us s1 ⟨xs, H1, I1, r, z, q⟩ => ⟨by rw [← r.length]; exact z, ?_⟩)
  have hf : H1 s1.heap.objs.size = none := I1.hok.fresh (Nat.le_refl _)
  refine ⟨.ref s1.heap.objs.size, upd H1 s1.heap.objs.size (.lst xs), I1.laid (t' := s1.toks) (fun b u e => Heap.get?_push_of_some _ e) (Nat.le_refl _) ?_, rfl, q _ hf⟩
  exact ⟨z, us, 0, r, Heap.get?_push_size _ rfl⟩
end
abbrev Sp := List V → Hp → VK → XK → Prop
abbrev CXT := List Env → Hp → Shared → XK → Value → Shared → Prop
structure Env0 (P : Program) (w : World) (K : PySem.W.Frag) (mg : Str → Option Value) (base : Heap) (A : Around) (outer : List Env) (s : Shared) (H : Hp) : Prop where
  frames : A.frames = some outer
  mod : Mod K mg base
  bs : ∀ b o, base.get? b = some o → s.heap.get? b = some o ∧ H b = none
  bsz : base.objs.size ≤ s.heap.objs.size
  funs : s.heap.FunFrames base outer
  frf : ∀ b ∈ frs outer, H b = none
  hok : HOk P w H s.heap
  bare : AllBare s.gens
def CE (outer : List Env) (P : Program) (w : World) (H : Hp) (s : Shared) (Q : VK) (u : Value) (s' : Shared) : Prop :=
  ∃ v H', s'.os = s.os ∧ AllBare s'.gens ∧ Un (frs outer) [] H H' s.heap s'.heap ∧ HOk P w H' s'.heap ∧ RelV v u ∧ Q v H'
def CR (CX : CXT) (outer : List Env) (P : Program) (w : World) (H : Hp) (s : Shared) (Q : VK) (E : XK) (r : Result) (s' : Shared) : Prop :=
  match r with
  | .ok (.ret u) => CE outer P w H s Q u s'
  | .ok _ => False
  | .error e => CX outer H s E e s'
structure FnOk (P : Program) (w : World) (K : PySem.W.Frag) (mg : Str → Option Value) (base : Heap) (CX : CXT) (k : Nat) (f : Addr) (fd : FuncData) (ps : List Str) (sp : Sp) : Prop where
  len : ∀ vs H Q E, sp vs H Q E → vs.length = ps.length
  run : ∀ (A : Around) (outer : List Env) (s : Shared) (H : Hp) (args : Args) (us : List Value) (vs : List V) (Q : VK) (E : XK), Room k A → Env0 P w K mg base A outer s H → BindsTo s fd args (ps.zip us) → Vals vs us → sp vs H Q E →
    codeAny (model P w) A (.call (.ref f) args) (CR CX outer P w H s Q E) s
section
variable {X : Cx} {pins : List (Addr × Obj)} {σ : St} {H : Hp} {s s' : Shared}
theorem Inv.env0 (I : Inv X pins σ H s) : Env0 X.prog X.w X.K X.mg X.base X.A X.stack s H :=
  ⟨I.ok.frames, I.ok.mod, I.bs, Nat.le_trans I.ok.bsz I.sz, I.stack, I.stkFree, I.hok, I.bare⟩
theorem Inv.after {Q : VK} {u : Value} (I : Inv X pins σ H s) (h : CE X.stack X.prog X.w H s Q u s') : EP X pins σ Q u s' := by
  obtain ⟨v, H', os, bare, un, hok, r, q⟩ := h
  obtain ⟨hh, g, d, t, os'⟩ := s'
  obtain rfl : os' = s.os := os
  exact ⟨v, H', I.call (h' := hh) (g' := g) (d' := d) (t' := t) (ch := []) un hok bare (fun b z => absurd z (by simp)), r, q⟩
end
def tCall (sp : Sp) (dvs : List V) (E : XK) (t : TA) : TE := fun σ H Q => t σ H fun vs H1 => sp (vs ++ dvs) H1 Q E
def Binds (K : PySem.W.Frag) (fd : FuncData) (ps : List Str) (ds : List Value) : Prop :=
  ∀ (s : Shared) (us : List Value), K.In s.heap → (us ++ ds).length = ps.length → BindsTo s fd ⟨us, []⟩ (ps.zip (us ++ ds))
theorem Binds.all {K : PySem.W.Frag} {fd : FuncData} {ps : List Str} (h : ∀ us : List Value, us.length = ps.length → bindArgs fd ⟨us, []⟩ = pure (ps.zip us)) : Binds K fd ps [] := fun s us _ hl => by
  rw [List.append_nil] at hl ⊢
  exact .of_eq (h us hl)
def Passes (CX : CXT) (X : Cx) (E : XK) : Prop := ∀ (pins : List (Addr × Obj)) (σ : St) (H : Hp) (s : Shared) (e : Value) (s' : Shared), Inv X pins σ H s → CX X.stack H s E e s' → X.xe e s'
section
variable {X : Cx} {CX : CXT} {k : Nat} {f C : Addr} {fd : FuncData} {ps : List Str} {sp : Sp} {dvs : List V} {ds : List Value} {E : XK} {x m : Str} {p pos apos : Pos} {e o : Expr} {es : List Expr} {ta : TE} {t : TA}
theorem run_fn {pins : List (Addr × Obj)} {σ : St} {H : Hp} {s : Shared} {Q : VK} {us : List Value} {vs : List V} (F : FnOk X.prog X.w X.K X.mg X.base CX k f fd ps sp) (hr : Room k X.A) (hb : Binds X.K fd ps ds) (hd : Vals dvs ds) (hx : Passes CX X E)
    (I : Inv X pins σ H s) (r : Vals vs us) (h : sp (vs ++ dvs) H Q E) : wpAny (model X.prog X.w) X.A (call (.ref f) us) (EP X pins σ Q) X.xe s := by
  have r2 : Vals (vs ++ dvs) (us ++ ds) := r.append hd
  have hl : (us ++ ds).length = ps.length := by rw [← r2.length]; exact F.len _ _ _ _ h
  refine wpAny_call (codeAny_mono (F.run X.A X.stack s H ⟨us, []⟩ (us ++ ds) (vs ++ dvs) Q E hr I.env0 (hb s us I.kIn hl) r2 h) fun r s' hq => ?_)
  cases r with
  | error e => exact hx pins σ H s e s' I hq
  | ok fl =>
    cases fl with
    | ret u => exact I.after hq
    | next => exact False.elim hq
    | brk => exact False.elim hq
    | cont => exact False.elim hq
theorem pe_call (F : FnOk X.prog X.w X.K X.mg X.base CX k f fd ps sp) (hr : Room k X.A) (hg : Gl X x) (hm : X.mg x = some (.ref f)) (hk : PySem.W.keepIn X.K (.ref f) = true) (hb : Binds X.K fd ps ds) (hd : Vals dvs ds) (hx : Passes CX X E)
    (ha : PA X (e :: es) t) (hdb : (x == ("__debug__" : Str)) = false := by decide) (he : starEach (e :: es) X.env = (false, eval e X.env) :: starEach es X.env := by rfl) (hpl : (backTo pos (starEach es X.env)).any (·.1) = false := by rfl) :
    PE X (.Call (.Name x p) (e :: es) [] pos) (tCall sp dvs E t) := by
  intro pins s σ H Q I h
  refine wpAny_Call_Name_kw (ld_glob I hg hm ?_ hdb)
  refine PySem.W.callWith_K (h₀ := X.base) I.ok.mod.kin hk (thn (ha pos pins s σ H _ I h) fun us s1 ⟨vs, H1, I1, r, q⟩ => ⟨I1.kIn, ?_⟩) he hpl
  exact run_fn F hr hb hd hx I1 r q
structure Mk (K : PySem.W.Frag) (C f : Addr) : Prop where
  makes : PySem.W.makesIn K C = true
  init : PySem.W.findIn K (.ref C) "__init__" = some (some (.ref f))
  fn : PySem.W.isFn K (.ref f) = true
  kp : PySem.W.keepIn K (.ref C) = true
end
section
variable {X : Cx} {CX : CXT} {k : Nat} {f C : Addr} {fd : FuncData} {ps ks : List Str} {sp : Sp} {E : XK} {x m : Str} {p pos apos kpos : Pos} {e o : Expr} {es : List Expr} {kws : List Keyword} {te ta : TE} {t tk : TA} {nm : Option Str}
structure KBinds (K : PySem.W.Frag) (fd : FuncData) (ps ks : List Str) (g : List Value → List Value → List Value) (gV : List V → List V → List V) : Prop where
  to : ∀ (s : Shared) (us ws : List Value), K.In s.heap → (g us ws).length = ps.length → BindsTo s fd ⟨us, ks.zip ws⟩ (ps.zip (g us ws))
  rel : ∀ {vs : List V} {us : List Value} {zs : List V} {ws : List Value}, Vals vs us → Vals zs ws → Vals (gV vs zs) (g us ws)
variable {g : List Value → List Value → List Value} {gV : List V → List V → List V}
end
structure FnScope (N P : List Str) (sc : Scope) : Prop where
  kind : sc.kind = .function
  co : sc.isCoroutine = false
  gen : sc.isGenerator = false
  nd : N.Nodup
  pre : N.take P.length = P
  par : ∀ x ∈ P, sc.names.lookup x = some .local ∨ sc.names.lookup x = some .cell
  nofree : ∀ y ∈ sc.names, y.2 ≠ .free
theorem bindL_out {kindOf : Str → Option NameKind} {x : Str} : ∀ {binds : List (Str × Value)} {m : Str → Option Value}, (∀ v, (x, v) ∉ binds) → bindL kindOf binds m x = m x
  | [], _, _ => rfl
  | (n, v) :: r, m, h => by
    unfold bindL
    rw [bindL_out fun w hw => h w (List.mem_cons_of_mem _ hw)]
    split
    · have : x ≠ n := by rintro rfl; exact h v List.mem_cons_self
      simp [this]
    · rfl
theorem bindC_out {kindOf : Str → Option NameKind} {x : Str} : ∀ {binds : List (Str × Value)} {m : Str → Option Value}, (∀ v, (x, v) ∉ binds) → bindC kindOf binds m x = m x
  | [], _, _ => rfl
  | (n, v) :: r, m, h => by
    unfold bindC
    rw [bindC_out fun w hw => h w (List.mem_cons_of_mem _ hw)]
    split
    · rfl
    · have : x ≠ n := by rintro rfl; exact h v List.mem_cons_self
      simp [this]
theorem bindL_get {kindOf : Str → Option NameKind} {x : Str} {v : Value} : ∀ {P : List Str} {vs : List Value} {i : Nat} {m : Str → Option Value}, P.Nodup → P[i]? = some x → vs[i]? = some v → kindOf x = some .local →
    bindL kindOf (P.zip vs) m x = some v
  | [], _, _, _, _, h, _, _ => by simp at h
  | _ :: _, [], _, _, _, _, h, _ => by simp at h
  | p :: P, w :: vs, 0, m, nd, h1, h2, hk => by
    simp at h1 h2; subst h1; subst h2
    show bindL kindOf ((p, w) :: P.zip vs) m p = _
    unfold bindL
    rw [bindL_out fun v hv => (List.nodup_cons.mp nd).1 (List.of_mem_zip hv).1, if_pos hk]
    simp
  | p :: P, w :: vs, i + 1, m, nd, h1, h2, hk => by
    show bindL kindOf ((p, w) :: P.zip vs) m x = _
    unfold bindL
    exact bindL_get (i := i) (List.nodup_cons.mp nd).2 (by simpa using h1) (by simpa using h2) hk
theorem bindC_get {kindOf : Str → Option NameKind} {x : Str} {v : Value} : ∀ {P : List Str} {vs : List Value} {i : Nat} {m : Str → Option Value}, P.Nodup → P[i]? = some x → vs[i]? = some v → kindOf x ≠ some .local →
    bindC kindOf (P.zip vs) m x = some v
  | [], _, _, _, _, h, _, _ => by simp at h
  | _ :: _, [], _, _, _, _, h, _ => by simp at h
  | p :: P, w :: vs, 0, m, nd, h1, h2, hk => by
    simp at h1 h2; subst h1; subst h2
    show bindC kindOf ((p, w) :: P.zip vs) m p = _
    unfold bindC
    rw [bindC_out fun v hv => (List.nodup_cons.mp nd).1 (List.of_mem_zip hv).1, if_neg hk]
    simp
  | p :: P, w :: vs, i + 1, m, nd, h1, h2, hk => by
    show bindC kindOf ((p, w) :: P.zip vs) m x = _
    unfold bindC
    exact bindC_get (i := i) (List.nodup_cons.mp nd).2 (by simpa using h1) (by simpa using h2) hk
def start (N : List Str) (vs : List V) : St := vs.map some ++ List.replicate (N.length - vs.length) none
def cxOf (CX : CXT) (P : Program) (w : World) (K : PySem.W.Frag) (mg : Str → Option Value) (base : Heap) (N : List Str) (qual : Str) (scope : Scope) (f : Addr) (cd : Value) (A : Around) (outer : List Env) (s : Shared) (H : Hp) (E : XK) : Cx where
  prog := P
  w := w
  K := K
  mg := mg
  base := base
  A := A.deeper (envOfC qual scope s.heap.objs.size f cd)
  N := N
  s₀ := s
  H₀ := H
  env := envOfC qual scope s.heap.objs.size f cd
  outer := outer
  stack := envOfC qual scope s.heap.objs.size f cd :: outer
  ex := []
  calm := true
  fn := fun _ => true
  pn := []
  xe := fun e s' => wpAny (model P w) (A.deeper (envOfC qual scope s.heap.objs.size f cd)) (leaving (envOfC qual scope s.heap.objs.size f cd) e) (fun _ s'' => CX outer H s E e s'') (fun e' s'' => CX outer H s E e' s'') s'
theorem cell_has {sc : Scope} {n : Nat} {x : Str} (h : sc.names.lookup x = some .cell) : ∃ c, (cellsFrom n sc.names []).lookup x = some c := by
  have q := PySem.W.cellsFrom_some sc.names n [] (.inl h)
  exact Option.isSome_iff_exists.mp q
theorem inv_start {CX : CXT} {P : Program} {w : World} {K : PySem.W.Frag} {mg : Str → Option Value} {base : Heap} {N ps : List Str} {qual : Str} {scope : Scope} {f : Addr} {cd : Value} {A : Around} {outer : List Env} {s s1 : Shared} {H : Hp} {E : XK} {us : List Value} {vs : List V}
    (S : FnScope N ps scope) (hd : A.handled = none) (e0 : Env0 P w K mg base A outer s H) (hl : vs.length = ps.length) (r : Vals vs us)
    (x : InCallC s s.heap.objs.size (bindL (envOfC qual scope s.heap.objs.size f cd).kindOf (ps.zip us) fun _ => none) (cellsFrom (s.heap.objs.size + 1) scope.names []) (bindC (envOfC qual scope s.heap.objs.size f cd).kindOf (ps.zip us) fun _ => none) s1) :
    Inv (cxOf CX P w K mg base N qual scope f cd A outer s H E) [] (start N vs) H s1 := by
  have hpl : ps.length ≤ N.length := by have := congrArg List.length S.pre; rw [List.length_take] at this; omega
  obtain ⟨h1, tk, rfl, hk⟩ := x.done
  have noA : ∀ b : Addr, b ∉ (cxOf CX P w K mg base N qual scope f cd A outer s H E).ex := fun b z => absurd (show b ∈ ([] : List Addr) from z) (by simp)
  refine ⟨⟨e0.mod, S.kind, rfl, rfl, Nat.le_refl _, fun y z c h1 h2 => ?_, fun y hy => ?_, fun y c _ h => ?_, fun _ => hd, Around.frames_deeper e0.frames, .inr ⟨rfl, rfl⟩, fun b z => absurd z (noA b), e0.bs, e0.bsz, fun b _ _ => noA b, fun b z => absurd z (noA b), e0.funs, e0.frf⟩,
    rfl, e0.bare, Un.kept hk, ⟨_, x.toInCall.ns, fun i y v h1 h2 h3 => ?_⟩, fun y c h => ⟨_, x.cell y c h⟩, e0.hok.fresh (Nat.le_refl _), fun y c h => ?_, fun p hp => absurd (show p ∈ ([] : List (Addr × Obj)) from hp) (by simp), e0.hok.kept hk, ?_⟩
  · exact name_of_addr x.apart (PySem.mem_of_lookup h1) (PySem.mem_of_lookup h2)
  · have hy : scope.names.lookup y = some .cell ∨ scope.names.lookup y = some .free := hy
    rcases hy with hy | hy
    · exact cell_has hy
    · exact absurd rfl (S.nofree _ (PySem.mem_of_lookup hy))
  · exact Nat.le_of_lt (x.above y c (PySem.mem_of_lookup h))
  · have hi : i < vs.length := by
      unfold start at h2
      by_cases hi : i < vs.length
      · exact hi
      · rw [List.getElem?_append_right (by simpa using hi)] at h2
        rw [List.getElem?_replicate] at h2
        split at h2 <;> cases h2
    have ha : vs[i]? = some v := by
      unfold start at h2
      rw [List.getElem?_append_left (by simpa using hi), List.getElem?_map] at h2
      cases e : vs[i]? with
      | none => rw [e] at h2; cases h2
      | some a => rw [e] at h2; cases h2; rfl
    obtain ⟨u, hu, rv⟩ := r.get ha
    have hp : ps[i]? = some y := by
      rw [← S.pre, List.getElem?_take_of_lt (by omega)]; exact h1
    have ndP : ps.Nodup := by rw [← S.pre]; exact S.nd.sublist (List.take_sublist _ _)
    refine ⟨u, rv, ?_⟩
    rcases S.par y (List.mem_of_getElem? hp) with k | k
    · exact .inl ⟨k, bindL_get ndP hp hu k⟩
    · obtain ⟨c, e⟩ := cell_has (n := s.heap.objs.size + 1) k
      refine .inr ⟨.inl k, c, e, ?_⟩
      have q := x.cell y c e
      rw [bindC_get ndP hp hu (by show scope.names.lookup y ≠ _; rw [k]; decide)] at q
      exact q
  · exact e0.hok.fresh (Nat.le_of_lt (x.above y c (PySem.mem_of_lookup h)))
  · unfold start
    show _ = N.length
    rw [List.length_append, List.length_map, List.length_replicate]
    omega
theorem fn_of {CX : CXT} {P : Program} {w : World} {K : PySem.W.Frag} {mg : Str → Option Value} {base : Heap} {k : Nat} {f : Addr} {name qual : Str} {params : Arguments} {body : List Stmt} {scope : Scope} {dV kV doc pm cdv ct oc : Value} {an od : Option Addr}
    {osl : Array (Option Value)} {N ps : List Str} {sp : Sp} (lk : K.lookup f = some ⟨oc, od, .func (PySem.W.fnOf name qual params body scope dV kV doc pm an cdv ct), osl⟩) (hcd : PySem.W.codeIn K cdv qual = true) (S : FnScope N ps scope)
    (len : ∀ vs H Q E, sp vs H Q E → vs.length = ps.length)
    (hbody : ∀ (A : Around) (outer : List Env) (s : Shared) (H : Hp) (vs : List V) (Q : VK) (E : XK), Room k (A.deeper (envOfC qual scope s.heap.objs.size f cdv)) → sp vs H Q E →
      ∃ t, PSs (cxOf CX P w K mg base N qual scope f cdv A outer s H E) body t ∧ t { nx := fun _ H' => Q .non H', rt := Q } (start N vs) H) :
    FnOk P w K mg base CX (k + 1) f (PySem.W.fnOf name qual params body scope dV kV doc pm an cdv ct) ps sp := by
  refine ⟨len, fun A outer s H args us vs Q E hr e0 hb r hsp => ?_⟩
  have hl := len _ _ _ _ hsp
  have KX : K.In s.heap := e0.mod.kin.keeps fun b o e => (e0.bs b o e).1
  have lim : s.heap.NoLimit := e0.mod.nolimit.keeps fun b o e => (e0.bs b o e).1
  have hkind : ∀ y ∈ ps.zip us, scope.names.lookup y.1 = some .local ∨ (scope.names.lookup y.1 = some .cell ∧ ((cellsFrom (s.heap.objs.size + 1) scope.names []).lookup y.1).isSome = true) := fun ⟨n, v⟩ hy => by
    rcases S.par n (List.of_mem_zip hy).1 with q | q
    · exact .inl q
    · exact .inr ⟨q, PySem.W.cellsFrom_some _ _ _ (.inl q)⟩
  refine codeAny_call_function hr.depth (KX _ _ lk) rfl S.co S.gen rfl (PySem.W.codeRec_of KX hcd) (hb _ _ _ _ ?_)
  refine wpAny_newFunctionEnv_cells S.kind hkind fun env he s1 x => ?_
  subst he
  refine ⟨lim.keeps x.toInCall.keep, codeAny_func ?_⟩
  obtain ⟨t, ht, hq⟩ := hbody A outer s H vs Q E (hr.deeper _) hsp
  have I : Inv (cxOf CX P w K mg base N qual scope f cdv A outer s H E) [] (start N vs) H s1 := inv_start S hr.hd e0 hl r x
  refine wpAny_mono (ht [] s1 (start N vs) H _ I hq) (fun fl s' hs => ?_) fun e s' hs => hs
  have fin : ∀ {σ' : St} {H' : Hp} {v : V} {u : Value}, Inv (cxOf CX P w K mg base N qual scope f cdv A outer s H E) [] σ' H' s' → RelV v u → Q v H' → CE outer P w H s Q u s' :=
    fun {σ' H' v u} J rv q => ⟨v, H', J.os, J.bare, J.base, J.hok, rv, q⟩
  cases fl with
  | ret u =>
    obtain ⟨v, σ', H', J, rv, q⟩ := hs
    exact fin J rv q
  | next =>
    obtain ⟨σ', H', J, q⟩ := hs
    exact fin (v := V.non) (u := Value.none) J rfl q
  | brk =>
    obtain ⟨_, _, _, q⟩ := hs
    exact False.elim q
  | cont =>
    obtain ⟨_, _, _, q⟩ := hs
    exact False.elim q
end L2
namespace L2
open PySem PySem.Spec PyProof.Rows
section
variable {X : Cx} {x : Str} {p pos : Pos} {e : Expr} {es : List Expr} {t : TA} {id T : String} {r : List V → Hp → VK → Prop}
def tCB (r : List V → Hp → VK → Prop) (t : TA) : TE := fun σ H Q => t σ H fun vs H1 => r vs H1 Q
theorem pe_callB (hc : CallR X (.builtin id) r) (hg : Gl X x) (hm : X.mg x = none) (hv : bootBuiltins x = some (.builtin id)) (ha : PA X (e :: es) t) (hn : x ≠ "__name__" := by decide) (hdb : (x == ("__debug__" : Str)) = false := by decide)
    (he : starEach (e :: es) X.env = (false, eval e X.env) :: starEach es X.env := by rfl) (hpl : (backTo pos (starEach es X.env)).any (·.1) = false := by rfl) : PE X (.Call (.Name x p) (e :: es) [] pos) (tCB r t) := by
  intro pins s σ H Q I h
  refine wpAny_Call_Name_kw (ld_blt I hg hm hv ?_ hn hdb)
  exact PyProof.Rows.callWith_builtin1 (thn (ha pos pins s σ H _ I h) fun us s1 ⟨vs, H1, I1, r1, q1⟩ => hc pins s1 σ H1 vs us Q I1 r1 q1) he hpl
theorem pe_callTy (hc : CallR X (.type T) r) (hg : Gl X x) (hm : X.mg x = none) (hv : bootBuiltins x = some (.type T)) (ha : PA X (e :: es) t) (hn : x ≠ "__name__" := by decide) (hdb : (x == ("__debug__" : Str)) = false := by decide)
    (he : starEach (e :: es) X.env = (false, eval e X.env) :: starEach es X.env := by rfl) (hpl : (backTo pos (starEach es X.env)).any (·.1) = false := by rfl) : PE X (.Call (.Name x p) (e :: es) [] pos) (tCB r t) := by
  intro pins s σ H Q I h
  refine wpAny_Call_Name_kw (ld_blt I hg hm hv ?_ hn hdb)
  exact PyProof.Rows.callWith_type1 (thn (ha pos pins s σ H _ I h) fun us s1 ⟨vs, H1, I1, r1, q1⟩ => hc pins s1 σ H1 vs us Q I1 r1 q1) he hpl
end
end L2
end
section
namespace HT
open PySem PyProof.Rows
section
open PySem.SeqAt
open PySem.AutoSeq1 (wpAny_loadPart')
open PySem.MeetsSeq PySem.MeetsSeq2 PySem.MeetsSeq3
end
section
variable {prog : Program} {w : World} {A : Around} {E : Value → Shared → Prop} {s : Shared}
def sIx (n d : Nat) : Option Int → Nat
  | none => d
  | some v => if v < 0 then (v + (n : Int)).toNat else min v.toNat n
theorem sIx_nat (n d k : Nat) : sIx n d (some (k : Int)) = min k n := by
  show (if (k : Int) < 0 then ((k : Int) + (n : Int)).toNat else min (k : Int).toNat n) = min k n
  rw [if_neg (by omega), Int.toNat_natCast]
theorem sIx_le (n d : Nat) (hd : d ≤ n) (o : Option Int) : sIx n d o ≤ n := by
  cases o with
  | none => exact hd
  | some v =>
    show (if v < 0 then (v + (n : Int)).toNat else min v.toNat n) ≤ n
    by_cases hv : v < 0
    · rw [if_pos hv]; omega
    · rw [if_neg hv]; exact Nat.min_le_right _ _
theorem clip_eq (v : Int) (n d : Nat) : (if v < 0 then max (v + (n : Int)) 0 else min v (n : Int)) = ((sIx n d (some v) : Nat) : Int) := by
  show (if v < 0 then max (v + (n : Int)) 0 else min v (n : Int)) = (((if v < 0 then (v + (n : Int)).toNat else min v.toNat n) : Nat) : Int)
  by_cases hv : v < 0
  · simp only [if_pos hv]; omega
  · simp only [if_neg hv]; omega
theorem adjust_gen (lo hi : Option Int) (n : Nat) : Builtin.Slice.sliceAdjust lo hi 1 (n : Int) = (((sIx n 0 lo : Nat) : Int), ((sIx n n hi : Nat) : Int)) := by
  have h1 : ¬ ((1 : Int) < 0) := by omega
  unfold Builtin.Slice.sliceAdjust
  simp only [h1, if_false]
  refine Prod.ext ?_ ?_
  · cases lo with
    | none => rfl
    | some v => exact clip_eq v n 0
  · cases hi with
    | none => rfl
    | some v => exact clip_eq v n n
theorem places_gen (i j : Nat) : Builtin.Slice.slicePlaces (i : Int) (j : Int) 1 = j - i := by
  unfold Builtin.Slice.slicePlaces
  have h1 : (1 : Int) > 0 := by omega
  simp only [h1, if_true, Int.ediv_one]
  split <;> omega
theorem slicePart_ {v : Value} {o : Option Int} {Q : Option Int → Shared → Prop} (p : IsPart v o) (h : Q o s) : wpAny (model prog w) A (Builtin.Slice.slicePartIndex v) Q E s := by
  cases p with
  | none => exact slicePart_none h
  | int i t => exact slicePart_int h
theorem sliceApplied_gen {sl : Addr} {vl vu : Value} {lo hi : Option Int} {n : Nat} {Q : Int × Int × Nat → Shared → Prop} (hs : s.heap.IsSliceOf sl vl vu .none) (pl : IsPart vl lo) (pu : IsPart vu hi)
    (h : Q (((sIx n 0 lo : Nat) : Int), 1, sIx n n hi - sIx n 0 lo) s) : wpAny (model prog w) A (Builtin.Slice.sliceApplied (.ref sl) (pure (n : Int))) Q E s := by
  obtain ⟨os, hos, hcs, hds⟩ := id hs
  unfold Builtin.Slice.sliceApplied Builtin.Slice.sliceFields
  refine wpAny_bind (wpAny_bind (wpAny_field hos hds (x := vl) rfl (wpAny_bind (wpAny_field hos hds (x := vu) rfl (wpAny_bind (wpAny_field hos hds (x := .none) rfl (wpAny_pure ?_)))))))
  refine wpAny_bind (slicePart_none ?_)
  show wpAny _ _ (if ((1 : Int) == 0) = true then _ else _) _ _ s
  rw [if_neg (by decide)]
  refine wpAny_bind (slicePart_ pl (wpAny_bind (slicePart_ pu (wpAny_bind (wpAny_pure ?_)))))
  show wpAny _ _ (match Builtin.Slice.sliceAdjust lo hi 1 (n : Int) with | (lo, hi) => pure (lo, (1 : Int), Builtin.Slice.slicePlaces lo hi 1)) _ _ s
  rw [adjust_gen lo hi n]
  show wpAny _ _ (pure (((sIx n 0 lo : Nat) : Int), (1 : Int), Builtin.Slice.slicePlaces ((sIx n 0 lo : Nat) : Int) ((sIx n n hi : Nat) : Int) 1)) _ _ s
  rw [places_gen]
  exact wpAny_pure h
theorem pick_gen (xs : Array Value) (i k : Nat) : ((List.range k).filterMap fun (m : Nat) => xs[((i : Int) + (m : Int) * 1).toNat]?).toArray = ((xs.toList.drop i).take k).toArray := by
  have e : (fun (m : Nat) => xs[((i : Int) + (m : Int) * 1).toNat]?) = fun m => xs[i + m]? := by
    funext m
    have : ((i : Int) + (m : Int) * 1).toNat = i + m := by omega
    rw [this]
  rw [e]
  have := pick_run xs i k
  rw [List.filterMap_map] at this
  have e2 : ((fun x => xs[x]?) ∘ fun x => i + x) = fun m => xs[i + m]? := rfl
  rw [e2] at this
  rw [this]
theorem getItem_tuple_cut {t sl : Addr} {items : Array Value} {vl vu : Value} {lo hi : Option Int} {Q : Value → Shared → Prop} (ht : IsTup s.heap t items) (hs : s.heap.IsSliceOf sl vl vu .none) (pl : IsPart vl lo) (pu : IsPart vu hi)
    (hw : ¬ (sIx items.size 0 lo = 0 ∧ sIx items.size items.size hi = items.size))
    (h : Q (.ref s.heap.objs.size) { s with heap := s.heap.push { cls := .type "tuple", data := .seq ((items.toList.drop (sIx items.size 0 lo)).take (sIx items.size items.size hi - sIx items.size 0 lo)).toArray } })
    (hsz : items.size ≤ sizeLine) : wpAny (model prog w) A (getItem (.ref t) (.ref sl)) Q E s := by
  have htake : sizeOk (.seq ((items.toList.drop (sIx items.size 0 lo)).take (sIx items.size items.size hi - sIx items.size 0 lo)).toArray) := by
    show ((items.toList.drop (sIx items.size 0 lo)).take (sIx items.size items.size hi - sIx items.size 0 lo)).toArray.size ≤ sizeLine
    rw [List.size_toArray, List.length_take, List.length_drop, Array.length_toList]
    omega
  have hj : sIx items.size items.size hi ≤ items.size := sIx_le _ _ (Nat.le_refl _) hi
  obtain ⟨os, hos, hcs, hds⟩ := id hs
  have hTs : s.TypeIs (.ref sl) "slice" := ⟨os, hos, hcs⟩
  unfold getItem
  try with_reducible refine wpAny_holding ?_
  first | refine wpAny_bind (wpAny_pure ?_) | skip
  refine wpAny_bind (wpAny_sequenceKey ht.typeIs (by decide) ?_)
  refine wpAny_bind (wpAny_callSpecial?_slot (name := Str.ofString "__getitem__") ht.typeIs PyProof.Rows.slot_tuple_getitem
    (wpAny_call_entry PyProof.Rows.slot_tuple_getitem ht.typeIs entry_tuple_getitem ?_ (args_tuple_getitem _ _)))
  show wpAny _ _ (Builtin.Tuple.tupleItemsOf (.ref t) >>= _) _ _ s
  refine wpAny_bind (tupleItemsOf_ ht ?_)
  refine wpAny_bind (wpAny_typeOf hTs ?_)
  rw [if_pos (by decide)]
  refine wpAny_bind (sliceApplied_gen hs pl pu ?_)
  have hno : ¬ ((((sIx items.size 0 lo : Nat) : Int) == 0 && (1 : Int) == 1 && (sIx items.size items.size hi - sIx items.size 0 lo) == items.size) = true) := by
    intro q
    rw [Bool.and_eq_true, Bool.and_eq_true] at q
    have q1 : ((sIx items.size 0 lo : Nat) : Int) = 0 := eq_of_beq q.1.1
    have q2 : sIx items.size items.size hi - sIx items.size 0 lo = items.size := eq_of_beq q.2
    exact hw ⟨by omega, by omega⟩
  show wpAny _ _ (if (((sIx items.size 0 lo : Nat) : Int) == 0 && (1 : Int) == 1 && (sIx items.size items.size hi - sIx items.size 0 lo) == items.size) = true then _ else _) _ _ s
  rw [if_neg hno, pick_gen]
  first
    | exact wpAny_bind (m := Builtin.Tuple.tupleExact _) (wpAny_newObj_type (wpAny_pure ⟨_, rfl, wpAny_pure h⟩) htake)
    | exact wpAny_bind (m := Builtin.Tuple.tupleExact _) (wpAny_newObj_type (wpAny_bind (wpAny_pure (wpAny_pure ⟨_, rfl, wpAny_pure h⟩))) htake)
    | exact wpAny_bind (wpAny_bind (m := Builtin.Tuple.tupleExact _) (wpAny_newObj_type (wpAny_pure (wpAny_pure ⟨_, rfl, wpAny_pure h⟩)) htake))
    | exact wpAny_bind (wpAny_bind (m := Builtin.Tuple.tupleExact _) (wpAny_newObj_type (wpAny_pure ⟨_, rfl, wpAny_pure h⟩) htake))
end
end HT
namespace L2
open PySem PySem.Spec PyProof.Rows
abbrev TO := St → Hp → (Option Int → Hp → Prop) → Prop
def PO (X : Cx) (e : Option Expr) (t : TO) : Prop :=
  ∀ (pins : List (Addr × Obj)) (s : Shared) (σ : St) (H : Hp) (Q : Option Int → Hp → Prop), Inv X pins σ H s → t σ H Q →
    wpAny (model X.prog X.w) X.A (evalPart e X.env) (fun u s' => ∃ o H', Inv X pins σ H' s' ∧ IsPart u o ∧ Q o H') X.xe s
def tNoPart : TO := fun _ H Q => Q none H
def tPart (t : TE) : TO := fun σ H Q => t σ H fun x H1 => ∃ i, x = .int i ∧ Q (some i) H1
section
variable {X : Cx} {e : Expr} {te : TE} {lo hi : Option Expr} {tl th : TO} {pos p2 : Pos}
theorem po_none : PO X none tNoPart := by
  intro pins s σ H Q I h
  rw [evalPart_none]
  exact wpAny_pure ⟨none, H, I, .none, h⟩
theorem po_some (h : PE X e te) : PO X (some e) (tPart te) := by
  intro pins s σ H Q I hw
  rw [evalPart_some]
  refine thn (h pins s σ H _ I hw) fun u s1 ⟨x, H1, I1, r1, q1⟩ => ?_
  obtain ⟨i, rfl, q⟩ := q1
  obtain ⟨t, rfl⟩ := r1
  exact ⟨some i, H1, I1, .int i t, q⟩
def SlR (X : Cx) (r : V → Option Int → Option Int → Hp → VK → Prop) : Prop :=
  ∀ (pins : List (Addr × Obj)) (s : Shared) (σ : St) (H : Hp) (x : V) (v vl vu : Value) (lo hi : Option Int) (sl : Addr) (Q : VK), Inv X pins σ H s → RelV x v → s.heap.IsSliceOf sl vl vu .none → IsPart vl lo → IsPart vu hi → r x lo hi H Q →
    ∃ T id, typeLookup (.type T) "__getitem__" = pure (some (.builtin id)) ∧ s.TypeIs v T ∧ wpAny (model X.prog X.w) X.A (getItem v (.ref sl)) (EP X pins σ Q) X.xe s
def tSl (r : V → Option Int → Option Int → Hp → VK → Prop) (te : TE) (tl th : TO) : TE := fun σ H Q => te σ H fun x H1 => tl σ H1 fun l H2 => th σ H2 fun u H3 => r x l u H3 Q
theorem pe_slice {r : V → Option Int → Option Int → Hp → VK → Prop} (hr : SlR X r) (he : PE X e te) (hl : PO X lo tl) (hu : PO X hi th) : PE X (.Subscript e (.Slice lo hi none p2) pos) (tSl r te tl th) := by
  intro pins s σ H Q I h
  refine Subscript_ (thn (he pins s σ H _ I h) fun v s1 ⟨x, H1, I1, r1, q1⟩ => ?_)
  refine wpAny_Slice (thn (hl pins s1 σ H1 _ I1 q1) fun vl s2 ⟨l, H2, I2, pl, q2⟩ => thn (hu pins s2 σ H2 _ I2 q2) fun vu s3 ⟨u, H3, I3, pu, q3⟩ => ?_)
  rw [evalPart_none]
  refine wpAny_pure ?_
  have I4 : Inv X pins σ H3 { s3 with heap := s3.heap.push { cls := .type "slice", data := .fields #[vl, vu, .none] } } := I3.kept (t' := s3.toks) fun b ob q => Heap.get?_push_of_some _ q
  obtain ⟨T, id, hT, ht, hg⟩ := hr pins { s3 with heap := s3.heap.push { cls := .type "slice", data := .fields #[vl, vu, .none] } } σ H3 x v vl vu l u s3.heap.objs.size Q I4 r1 (Heap.IsSliceOf.new ..) pl pu q3
  show wpAny (model X.prog X.w) X.A (subscriptTail e (.Slice lo hi none p2) v (.ref s3.heap.objs.size)) (EP X pins σ Q) X.xe { s3 with heap := s3.heap.push { cls := .type "slice", data := .fields #[vl, vu, .none] } }
  exact tail_any (ops := [.ref s3.heap.objs.size, v]) ht hT hg (by with_unfolding_all rfl)
def cutV (xs : List V) (lo hi : Option Int) : List V := (xs.drop (HT.sIx xs.length 0 lo)).take (HT.sIx xs.length xs.length hi - HT.sIx xs.length 0 lo)
theorem cutV_length (xs : List V) (lo hi : Option Int) : (cutV xs lo hi).length ≤ xs.length := by
  unfold cutV
  rw [List.length_take, List.length_drop]
  omega
def rSlT (K : PySem.W.Frag) : V → Option Int → Option Int → Hp → VK → Prop := fun x lo hi H Q => ∃ a xs, x = .ref a ∧ SqT K H a xs ∧
  ¬ (HT.sIx xs.length 0 lo = 0 ∧ HT.sIx xs.length xs.length hi = xs.length) ∧ ∀ p, H p = none → Q (.ref p) (upd H p (.tup (cutV xs lo hi)))
theorem sl_tup : SlR X (rSlT X.K) := by
  intro pins s σ H x v vl vu lo hi sl Q I rx hs pl pu h
  obtain ⟨a, xs, rfl, hx, hw, q⟩ := h
  cases rx
  obtain ⟨its, r, ht, hz⟩ := I.tuple hx
  have hlen : its.toArray.size = xs.length := by rw [List.size_toArray]; exact r.length.symm
  refine ⟨"tuple", _, PyProof.Rows.slot_tuple_getitem.lookup, ht.typeIs, ?_⟩
  refine HT.getItem_tuple_cut ht hs pl pu (by rw [hlen]; exact hw) ?_ (by rw [hlen]; exact hz)
  rw [hlen]
  refine ⟨.ref s.heap.objs.size, _, I.laid (t' := s.toks) (o := .tup (cutV xs lo hi)) (fun b ob q => Heap.get?_push_of_some _ q) (Nat.le_refl _) ?_, rfl, q _ (I.hok.fresh (Nat.le_refl _))⟩
  exact ⟨⟨Nat.le_trans (cutV_length xs lo hi) hz, nod_push _ _⟩, _, (r.drop (HT.sIx xs.length 0 lo)).take (HT.sIx xs.length xs.length hi - HT.sIx xs.length 0 lo), IsTup.new _ _⟩
theorem Vals.nil_iff {xs : List V} {us : List Value} (r : Vals xs us) : us = [] ↔ xs = [] := by
  cases r with
  | nil => simp
  | cons _ _ => simp
end
end L2
namespace L2
open PySem PySem.Spec PyProof.Rows
def ixN (n : Nat) (i : Int) : Option Nat := if 0 ≤ i then (if i < n then some i.toNat else none) else if -(n : Int) ≤ i then some (i + n).toNat else none
def atI {α : Type} (xs : List α) (i : Int) : Option α := (ixN xs.length i).bind fun j => xs[j]?
theorem ixN_seq {n : Nat} {i : Int} {j : Nat} (h : ixN n i = some j) : seqIndex? i n = some j ∧ j < n ∧ -(n : Int) ≤ i ∧ i < n := by
  unfold ixN at h
  by_cases h0 : 0 ≤ i
  · rw [if_pos h0] at h
    by_cases h1 : i < n
    · rw [if_pos h1] at h
      have e : i.toNat = j := Option.some.inj h
      exact ⟨by rw [seqIndex_of h0 h1, e], by omega, by omega, h1⟩
    · rw [if_neg h1] at h; cases h
  · rw [if_neg h0] at h
    by_cases h1 : -(n : Int) ≤ i
    · rw [if_pos h1] at h
      have e : (i + n).toNat = j := Option.some.inj h
      exact ⟨by rw [seqIndex_neg (by omega) h1, e], by omega, h1, by omega⟩
    · rw [if_neg h1] at h; cases h
theorem atI_get {α : Type} {xs : List α} {i : Int} {v : α} (h : atI xs i = some v) : ∃ j, seqIndex? i xs.length = some j ∧ xs[j]? = some v ∧ j < xs.length ∧ -(xs.length : Int) ≤ i ∧ i < xs.length := by
  unfold atI at h
  cases e : ixN xs.length i with
  | none => rw [e] at h; cases h
  | some j =>
    rw [e] at h
    obtain ⟨h1, h2, h3, h4⟩ := ixN_seq e
    exact ⟨j, h1, h, h2, h3, h4⟩
theorem atI_nat {α : Type} {xs : List α} {j : Nat} {v : α} (h : xs[j]? = some v) : atI xs (j : Int) = some v := by
  have hj : j < xs.length := (List.getElem?_eq_some_iff.mp h).1
  have e : ixN xs.length (j : Int) = some j := by
    unfold ixN
    rw [if_pos (by omega), if_pos (by omega)]; simp
  unfold atI; rw [e]; exact h
def PlainIx (b : Expr) : Prop := ∀ o i, subscripted b false o i = operate [o, i] (getItem o i)
def IxR (X : Cx) (r : R2) : Prop :=
  ∀ (value slice : Expr) (pins : List (Addr × Obj)) (s : Shared) (σ : St) (H : Hp) (x y : V) (v u : Value) (Q : VK), Inv X pins σ H s → RelV x v → RelV y u → r x y H Q →
    subscripted slice false v u = operate [v, u] (getItem v u) → wpAny (model X.prog X.w) X.A (subscriptTail value slice v u) (EP X pins σ Q) X.xe s
def MtR (X : Cx) (id : String) (r : V → List V → Hp → VK → Prop) : Prop :=
  ∀ (pins : List (Addr × Obj)) (s : Shared) (σ : St) (H : Hp) (x : V) (xs : List V) (v : Value) (us : List Value) (Q : VK), Inv X pins σ H s → RelV x v → Vals xs us → r x xs H Q →
    wpAny (model X.prog X.w) X.A (call (.builtin id) (v :: us)) (EP X pins σ Q) X.xe s
section
variable {X : Cx} {a b : Expr} {ta tb : TE} {pos : Pos}
theorem pe_ix {r : R2} (hr : IxR X r) (ha : PE X a ta) (hb : PE X b tb) (hs : PlainIx b) : PE X (.Subscript a b pos) (tOp r ta tb) := by
  intro pins s σ H Q I h
  exact Subscript_ (binT ha hb I h fun v u s2 x y H2 I2 rx ry q => hr a b pins s2 σ H2 x y v u Q I2 rx ry q (hs _ _))
def rIxL (K : PySem.W.Frag) : R2 := fun x y H Q => ∃ p xs i v, x = .ref p ∧ y = .int i ∧ SqL K H p xs ∧ atI xs i = some v ∧ Q v H
def rIxT (K : PySem.W.Frag) : R2 := fun x y H Q => ∃ p xs i v, x = .ref p ∧ y = .int i ∧ SqT K H p xs ∧ atI xs i = some v ∧ Q v H
def rIxS : R2 := fun x y H Q => ∃ z i c, x = .str z ∧ y = .int i ∧ z.length ≤ sizeLine ∧ atI z.cps.toList i = some c ∧ Q (.str ⟨#[c]⟩) H
theorem ix_list : IxR X (rIxL X.K) := by
  intro value slice pins s σ H x y v u Q I rx ry h hs
  obtain ⟨p, xs, i, z, rfl, rfl, hq, he, q⟩ := h
  cases rx
  obtain ⟨t, rfl⟩ := ry
  obtain ⟨its, r, pl, hz⟩ := I.list hq
  obtain ⟨j, h1, h2, h3, h4, h5⟩ := atI_get he
  obtain ⟨w, ew, rw'⟩ := r.get h2
  have hl := r.length
  have hn := line63
  have fin : EP X pins σ Q w s := ⟨z, H, I, rw', q⟩
  by_cases h0 : 0 ≤ i
  · have hj : i.toNat = j := by
      rw [seqIndex_of h0 h5] at h1
      exact Option.some.inj h1
    exact item_listR pl.isList h0 (by omega) (by rw [hj]; simpa using ew) fin hs
  · have hj : (i + (its.toArray.size : Int)).toNat = j := by
      rw [seqIndex_neg (by omega) h4] at h1
      rw [List.size_toArray, ← hl]
      exact Option.some.inj h1
    exact subscriptTail_builtinR (x := w) pl.isList.typeIs slot_list_getitem.lookup
      (wpAny_getItem_list_neg (Q := fun r s' => r = w ∧ EP X pins σ Q r s') pl.isList (by omega) (by rw [List.size_toArray] <;> omega) (by omega) (by rw [hj]; simpa using ew) ⟨rfl, fin⟩) hs
theorem ix_tup : IxR X (rIxT X.K) := by
  intro value slice pins s σ H x y v u Q I rx ry h hs
  obtain ⟨p, xs, i, z, rfl, rfl, hq, he, q⟩ := h
  cases rx
  obtain ⟨t, rfl⟩ := ry
  obtain ⟨its, r, pl, hz⟩ := I.tuple hq
  obtain ⟨j, h1, h2, h3, h4, h5⟩ := atI_get he
  obtain ⟨w, ew, rw'⟩ := r.get h2
  have hl := r.length
  have hn := line63
  have fin : EP X pins σ Q w s := ⟨z, H, I, rw', q⟩
  exact subscriptTail_builtinR (x := w) pl.typeIs slot_tuple_getitem.lookup
    (getItem_tuple (j := j) (Q := fun r s' => r = w ∧ EP X pins σ Q r s') pl (by omega) (by omega) (by rw [List.size_toArray, ← hl]; exact h1) (by simpa using ew) ⟨rfl, fin⟩) hs
theorem ix_str : IxR X rIxS := by
  intro value slice pins s σ H x y v u Q I rx ry h hs
  obtain ⟨z, i, c, rfl, rfl, hz, he, q⟩ := h
  obtain ⟨t, rfl⟩ := rx
  obtain ⟨t', rfl⟩ := ry
  obtain ⟨j, h1, h2, h3, h4, h5⟩ := atI_get he
  have hl : z.cps.toList.length = z.length := by simp [Str.length]
  rw [hl] at h1 h4 h5
  have hn := line63
  exact tail_any (typeIs_str s z t) slot_str_getitem.lookup (getItem_str (c := c) (by
    have e1 : decide (i < -(2 ^ 63 : Int)) = false := decide_eq_false (by omega)
    have e2 : decide (i ≥ 2 ^ 63) = false := decide_eq_false (by omega)
    rw [e1, e2, Bool.or_false]) (by rw [h1]; simpa using h2) ⟨.str ⟨#[c]⟩, H, I.tok _, ⟨_, rfl⟩, q⟩) hs
theorem mapSeq_set (its : List Value) (n j : Nat) (u : Value) : Obj.mapSeq (·.setIfInBounds j u) { cls := .type "list", data := .seq its.toArray n } = { cls := .type "list", data := .seq (its.set j u).toArray n } := by
  simp [Obj.mapSeq]
theorem Inv.lst {pins : List (Addr × Obj)} {σ : St} {H : Hp} {s : Shared} {p : Addr} {xs : List V} (I : Inv X pins σ H s) (h : H p = some (.lst xs)) :
    ∃ (its : List Value) (n : Nat), Vals xs its ∧ s.heap.get? p = some { cls := .type "list", data := .seq its.toArray n } ∧ xs.length ≤ sizeLine := by
  obtain ⟨z, its, n, r, e⟩ := I.hok p _ h
  exact ⟨its, n, r, e, z⟩
theorem Inv.lstUpd {pins : List (Addr × Obj)} {σ : St} {H : Hp} {s : Shared} {p : Addr} {xs ys : List V} {its its' : List Value} {n n' : Nat} {f : Obj → Obj} (I : Inv X pins σ H s) (h : H p = some (.lst xs))
    (ho : s.heap.get? p = some { cls := .type "list", data := .seq its.toArray n }) (hf : f { cls := .type "list", data := .seq its.toArray n } = { cls := .type "list", data := .seq its'.toArray n' }) (r : Vals ys its') (hz : ys.length ≤ sizeLine) (t : Nat) :
    Inv X pins σ (upd H p (.lst ys)) { s with heap := s.heap.update p f, toks := t } := by
  have e : (s.heap.update p f).get? p = some { cls := .type "list", data := .seq its'.toArray n' } := by
    rw [Heap.get?_update_self f ho (by rw [hf] <;> rfl), hf]
  refine I.write (x := p) (e := p) (by rw [h]; trivial) (.inl rfl) (fun b u hb q => (Heap.get?_update_other _ _ (Ne.symm hb)).trans q) ⟨_, e⟩ ?_
  exact ⟨hz, its', n', r, e⟩
def rSetL : V → V → V → Hp → (Hp → Prop) → Prop := fun o i v H Q => ∃ p xs k j, o = .ref p ∧ i = .int k ∧ H p = some (.lst xs) ∧ ixN xs.length k = some j ∧ Q (upd H p (.lst (xs.set j v)))
theorem set_list : PSet X rSetL := by
  intro pins s σ H o i v ov iv u Q I ro ri rv h
  obtain ⟨p, xs, k, j, rfl, rfl, hp, hj, q⟩ := h
  cases ro
  obtain ⟨t, rfl⟩ := ri
  obtain ⟨its, n, r, ho, hz⟩ := I.lst hp
  obtain ⟨h1, h2, h3, h4⟩ := ixN_seq hj
  have hl := r.length
  have hn := line63
  have I' : Inv X pins σ (upd H p (.lst (xs.set j v))) { s with heap := s.heap.update p (Obj.mapSeq (·.setIfInBounds j u)) } :=
    I.lstUpd hp ho (mapSeq_set its n j u) (r.set rv j) (by rw [List.length_set]; exact hz) s.toks
  by_cases h0 : 0 ≤ k
  · have hk : k.toNat = j := by
      rw [seqIndex_of h0 h4] at h1
      exact Option.some.inj h1
    exact PySem.W.ki_setAt ho h0 (by omega) (by rw [List.size_toArray, ← hl]; exact h4) (by rw [hk]; exact ⟨_, I', q⟩)
  · have hk : (k + (its.toArray.size : Int)).toNat = j := by
      rw [seqIndex_neg (by omega) h3] at h1
      rw [List.size_toArray, ← hl]
      exact Option.some.inj h1
    exact PySem.W.ki_setBack ho (by omega) (by rw [List.size_toArray, ← hl]; exact h3) (by omega) (by rw [hk]; exact ⟨_, I', q⟩)
theorem slice_bounds (lo hi : Option Int) (n : Nat) : (sliceBounds lo hi none n).1 = ((HT.sIx n 0 lo : Nat) : Int) ∧ (sliceBounds lo hi none n).2.1 = ((HT.sIx n n hi : Nat) : Int) ∧ (sliceBounds lo hi none n).2.2 = 1 := by
  refine ⟨?_, ?_, rfl⟩
  · cases lo with
    | none => simp [sliceBounds, HT.sIx]
    | some i =>
      simp only [sliceBounds, HT.sIx, Option.getD_none, show (1 : Int) > 0 by decide, if_true]
      by_cases h : i < 0
      · simp only [h, if_true] <;> omega
      · simp only [h, if_false] <;> omega
  · cases hi with
    | none => simp [sliceBounds, HT.sIx]
    | some i =>
      simp only [sliceBounds, HT.sIx, Option.getD_none, show (1 : Int) > 0 by decide, if_true]
      by_cases h : i < 0
      · simp only [h, if_true] <;> omega
      · simp only [h, if_false] <;> omega
theorem slicePick_cut (its : List Value) (lo hi : Option Int) : slicePick its.toArray lo hi none = ((its.drop (HT.sIx its.length 0 lo)).take (HT.sIx its.length its.length hi - HT.sIx its.length 0 lo)).toArray := by
  obtain ⟨h1, h2, h3⟩ := slice_bounds lo hi its.toArray.size
  unfold slicePick
  rw [h1, h2, h3]
  simp only [sliceRange_one, pick_run, List.size_toArray] <;> rfl
def rSlL (K : PySem.W.Frag) : V → Option Int → Option Int → Hp → VK → Prop := fun x lo hi H Q => ∃ a xs, x = .ref a ∧ SqL K H a xs ∧ ∀ p, H p = none → Q (.ref p) (upd H p (.lst (cutV xs lo hi)))
theorem sl_list : SlR X (rSlL X.K) := by
  intro pins s σ H x v vl vu lo hi sl Q I rx hs pl pu h
  obtain ⟨a, xs, rfl, hx, q⟩ := h
  cases rx
  obtain ⟨its, r, ht, hz⟩ := I.list hx
  have hlen := r.length
  refine ⟨"list", _, slot_list_getitem.lookup, ht.isList.typeIs, ?_⟩
  refine wpAny_getItem_list_slice ht.isList hs pl pu .none (by simp) ?_ (by rw [List.size_toArray] <;> omega)
  rw [slicePick_cut, ← hlen]
  refine ⟨.ref s.heap.objs.size, _, I.laid (t' := s.toks) (o := .lst (cutV xs lo hi)) (fun b ob q => Heap.get?_push_of_some _ q) (Nat.le_refl _) ?_, rfl, q _ (I.hok.fresh (Nat.le_refl _))⟩
  exact ⟨Nat.le_trans (cutV_length xs lo hi) hz, _, 0, (r.drop (HT.sIx xs.length 0 lo)).take (HT.sIx xs.length xs.length hi - HT.sIx xs.length 0 lo), Heap.get?_push_size _ rfl⟩
def flatV : V → Bool
  | .non => true
  | .bl _ => true
  | .int _ => true
  | .str _ => true
  | _ => false
def eqV : V → V → Bool
  | .non, .non => true
  | .bl a, .bl b => a == b
  | .bl a, .int b => (if a then 1 else 0) == b
  | .int a, .bl b => a == (if b then 1 else 0)
  | .int a, .int b => a == b
  | .str a, .str b => a == b
  | _, _ => false
theorem eqAt_V {A : Around} {s : Shared} {y x : V} {u v : Value} (ry : RelV y u) (rx : RelV x v) (fy : flatV y = true) (fx : flatV x = true) : SeqAt.EqAt A s u v (eqV y x) := by
  cases y with
  | non =>
    cases ry
    cases x with
    | non => cases rx; exact SeqAt.EqAt.same _
    | bl b => cases rx; exact SeqAt.EqAt.none_bool b
    | int b => obtain ⟨t, rfl⟩ := rx; exact SeqAt.EqAt.none_int b t
    | str b => obtain ⟨t, rfl⟩ := rx; exact SeqAt.EqAt.none_str b t
    | _ => exact absurd (show false = true from fx) Bool.false_ne_true
  | bl a =>
    cases ry
    cases x with
    | non => cases rx; exact SeqAt.EqAt.bool_none a
    | bl b => cases rx; exact SeqAt.EqAt.bool_bool a b
    | int b => obtain ⟨t, rfl⟩ := rx; exact SeqAt.EqAt.bool_int a b t
    | str b => obtain ⟨t, rfl⟩ := rx; exact SeqAt.EqAt.bool_str a b t
    | _ => exact absurd (show false = true from fx) Bool.false_ne_true
  | int a =>
    obtain ⟨t', rfl⟩ := ry
    cases x with
    | non => cases rx; exact SeqAt.EqAt.int_none a t'
    | bl b => cases rx; exact SeqAt.EqAt.int_bool a t' b
    | int b => obtain ⟨t, rfl⟩ := rx; exact SeqAt.EqAt.int_int a t' b t
    | str b => obtain ⟨t, rfl⟩ := rx; exact SeqAt.EqAt.int_str a t' b t
    | _ => exact absurd (show false = true from fx) Bool.false_ne_true
  | str a =>
    obtain ⟨t', rfl⟩ := ry
    cases x with
    | non => cases rx; exact SeqAt.EqAt.str_none a t'
    | bl b => cases rx; exact SeqAt.EqAt.str_bool a t' b
    | int b => obtain ⟨t, rfl⟩ := rx; exact SeqAt.EqAt.str_int a t' b t
    | str b => obtain ⟨t, rfl⟩ := rx; exact SeqAt.EqAt.str_str a t' b t
    | _ => exact absurd (show false = true from fx) Bool.false_ne_true
  | _ => exact absurd (show false = true from fy) Bool.false_ne_true
def eqU (x : V) (u : Value) : Bool := match u with
  | .none => eqV .non x
  | .bool b => eqV (.bl b) x
  | .int i _ => eqV (.int i) x
  | .str z _ => eqV (.str z) x
  | _ => false
theorem eqU_of {x y : V} {u : Value} (r : RelV y u) (f : flatV y = true) : eqU x u = eqV y x := by
  cases y with
  | non => cases r; rfl
  | bl b => cases r; rfl
  | int i => obtain ⟨t, rfl⟩ := r; rfl
  | str z => obtain ⟨t, rfl⟩ := r; rfl
  | _ => exact absurd (show false = true from f) Bool.false_ne_true
theorem any_eqU {x : V} : ∀ {xs : List V} {us : List Value}, Vals xs us → xs.all flatV = true → us.any (eqU x) = xs.any fun y => eqV y x
  | _, _, .nil, _ => rfl
  | y :: xs, u :: us, .cons r t, f => by
    rw [List.all_cons, Bool.and_eq_true] at f
    rw [List.any_cons, List.any_cons, eqU_of r f.1, any_eqU t f.2]
theorem mem_eqAt {A : Around} {s : Shared} {x : V} {v : Value} (rx : RelV x v) (fx : flatV x = true) : ∀ {xs : List V} {us : List Value}, Vals xs us → xs.all flatV = true → ∀ u ∈ us, SeqAt.EqAt A s u v (eqU x u)
  | _, _, .nil, _ => fun u hu => by cases hu
  | y :: xs, u :: us, .cons r t, f => fun u' hu => by
    rw [List.all_cons, Bool.and_eq_true] at f
    rcases List.mem_cons.mp hu with rfl | hu
    · rw [eqU_of r f.1]; exact eqAt_V r rx f.1 fx
    · exact mem_eqAt rx fx t f.2 u' hu
def inV (x : V) (xs : List V) : Bool := xs.any fun y => eqV y x
def rIn (K : PySem.W.Frag) (neg : Bool) : R2 := fun x y H Q => ∃ p xs, y = .ref p ∧ (SqL K H p xs ∨ SqT K H p xs) ∧ flatV x = true ∧ xs.all flatV = true ∧ Q (.bl (if neg then !inV x xs else inV x xs)) H
theorem op_in_seq : OpR X (compareOp .In) (rIn X.K false) := by
  intro pins s σ H x y v u Q I rx ry h
  obtain ⟨p, xs, rfl, hq, fx, fs, q⟩ := h
  cases ry
  rcases hq with hq | hq
  · obtain ⟨its, r, pl, hz⟩ := I.list hq
    refine SeqAt.in_listAt (eqU x) pl.isList (fun w hw => mem_eqAt rx fx r fs w (by simpa using hw)) ⟨.bl _, H, I, rfl, ?_⟩
    rw [show its.toArray.any (eqU x) = its.any (eqU x) by simp, any_eqU r fs]
    exact q
  · obtain ⟨its, r, pl, hz⟩ := I.tuple hq
    refine SeqAt.in_tupleAt (eqU x) pl (fun w hw => mem_eqAt rx fx r fs w (by simpa using hw)) ⟨.bl _, H, I, rfl, ?_⟩
    rw [show its.toArray.any (eqU x) = its.any (eqU x) by simp, any_eqU r fs]
    exact q
theorem op_notIn_seq : OpR X (compareOp .NotIn) (rIn X.K true) := by
  intro pins s σ H x y v u Q I rx ry h
  obtain ⟨p, xs, rfl, hq, fx, fs, q⟩ := h
  cases ry
  rcases hq with hq | hq
  · obtain ⟨its, r, pl, hz⟩ := I.list hq
    refine SeqAt.notIn_listAt (eqU x) pl.isList (fun w hw => mem_eqAt rx fx r fs w (by simpa using hw)) ⟨.bl _, H, I, rfl, ?_⟩
    rw [show its.toArray.any (eqU x) = its.any (eqU x) by simp, any_eqU r fs]
    exact q
  · obtain ⟨its, r, pl, hz⟩ := I.tuple hq
    refine SeqAt.notIn_tupleAt (eqU x) pl (fun w hw => mem_eqAt rx fx r fs w (by simpa using hw)) ⟨.bl _, H, I, rfl, ?_⟩
    rw [show its.toArray.any (eqU x) = its.any (eqU x) by simp, any_eqU r fs]
    exact q
theorem call_len_seq : CallR X (.builtin "len") (fun xs H Q => ∃ p ys, xs = [.ref p] ∧ (SqL X.K H p ys ∨ SqT X.K H p ys) ∧ Q (.int ys.length) H) := by
  intro pins s σ H xs us Q I r h
  obtain ⟨p, ys, rfl, hq, q⟩ := h
  obtain ⟨u, rfl, rx⟩ := vals1 r
  cases rx
  have hn := line63
  rcases hq with hq | hq
  · obtain ⟨its, r', pl, hz⟩ := I.list hq
    have hlen := r'.length
    exact Calls.call_len_list pl.isList (by simp only [List.size_toArray] <;> omega) ⟨.int ys.length, H, I.tok _, ⟨s.toks + 1, by rw [List.size_toArray, hlen]⟩, q⟩
  · obtain ⟨its, r', pl, hz⟩ := I.tuple hq
    have hlen := r'.length
    exact len_tuple pl (by simp only [List.size_toArray] <;> omega) ⟨.int ys.length, H, I.tok _, ⟨s.toks + 1, by rw [List.size_toArray, hlen]⟩, q⟩
theorem call_len_str : CallR X (.builtin "len") (fun xs H Q => ∃ z, xs = [.str z] ∧ z.length ≤ sizeLine ∧ Q (.int z.length) H) := by
  intro pins s σ H xs us Q I r h
  obtain ⟨z, rfl, hz, q⟩ := h
  obtain ⟨u, rfl, t, rfl⟩ := vals1 r
  have hn := line63
  exact len_str (by omega) ⟨.int z.length, H, I.tok _, ⟨_, rfl⟩, q⟩
theorem call_list_of : CallR X (.type "list") (fun xs H Q => ∃ p ys, xs = [.ref p] ∧ (SqL X.K H p ys ∨ SqT X.K H p ys) ∧ ∀ l, H l = none → Q (.ref l) (upd H l (.lst ys))) := by
  intro pins s σ H xs us Q I r h
  obtain ⟨p, ys, rfl, hq, q⟩ := h
  obtain ⟨u, rfl, rx⟩ := vals1 r
  cases rx
  have fin : ∀ (its : List Value), Vals ys its → ys.length ≤ sizeLine → ∀ (h' : Heap) (c' : Nat), (∀ b o', s.heap.get? b = some o' → h'.get? b = some o') →
      h'.get? s.heap.objs.size = some { cls := .type "list", dict := none, data := .seq its.toArray c', slots := #[] } → EP X pins σ Q (.ref s.heap.objs.size) { s with heap := h' } := fun its r' hz h' c' kp e =>
    ⟨.ref s.heap.objs.size, _, I.laid (t' := s.toks) kp (Nat.le_refl _) (show ObjOk X.prog X.w _ h' _ (.lst ys) from ⟨hz, its, c', r', e⟩), rfl, q _ (I.hok.fresh (Nat.le_refl _))⟩
  rcases hq with hq | hq
  · obtain ⟨its, r', pl, hz⟩ := I.list hq
    have hlen := r'.length
    obtain ⟨o, ho, hc, n, hd⟩ := pl.isList
    exact call_list_seq p (.inl rfl) ho hc hd (fun h' c' kp e => fin its r' hz h' c' kp e) (by simp only [List.size_toArray] <;> omega)
  · obtain ⟨its, r', pl, hz⟩ := I.tuple hq
    have hlen := r'.length
    obtain ⟨o, ho, hc, n, hd⟩ := pl
    exact call_list_seq p (.inr rfl) ho hc hd (fun h' c' kp e => fin its r' hz h' c' kp e) (by simp only [List.size_toArray] <;> omega)
theorem call_tuple_of : CallR X (.type "tuple") (fun xs H Q => ∃ p ys, xs = [.ref p] ∧ ((SqL X.K H p ys ∧ ∀ l, H l = none → Q (.ref l) (upd H l (.tup ys))) ∨ (SqT X.K H p ys ∧ Q (.ref p) H))) := by
  intro pins s σ H xs us Q I r h
  obtain ⟨p, ys, rfl, h⟩ := h
  obtain ⟨u, rfl, rx⟩ := vals1 r
  cases rx
  rcases h with ⟨hq, q⟩ | ⟨hq, q⟩
  · obtain ⟨its, r', pl, hz⟩ := I.list hq
    have hlen := r'.length
    refine call_tuple_list pl.isList (fun h' kp => ?_) (by simp only [List.size_toArray] <;> omega)
    have I1 : Inv X pins σ H { s with heap := h' } := I.kept (t' := s.toks) kp
    have I2 : Inv X pins σ (upd H h'.objs.size (.tup ys)) { s with heap := h'.push { cls := .type "tuple", data := .seq its.toArray } } :=
      I1.laid (t' := s.toks) (fun b o e => Heap.get?_push_of_some _ e) (Nat.le_refl _) (show ObjOk X.prog X.w _ _ _ (.tup ys) from ⟨⟨hz, nod_push _ _⟩, its, r', IsTup.new _ _⟩)
    exact ⟨.ref h'.objs.size, _, I2, rfl, q _ (I1.hok.fresh (Nat.le_refl _))⟩
  · obtain ⟨its, r', pl, hz⟩ := I.tuple hq
    exact call_tuple_same pl ⟨.ref p, H, I, rfl, q⟩
def tyV (K : PySem.W.Frag) (T : String) (x : V) (H : Hp) : Prop := match x with
  | .str _ => T = "str"
  | .int _ => T = "int"
  | .ref p => (T = "list" ∧ ∃ xs, SqL K H p xs) ∨ (T = "tuple" ∧ ∃ o, K.lookup p = some o ∧ o.cls = .type "tuple" ∧ o.dict = none) ∨
      (T = "dict" ∧ ((∃ kvs, H p = some (.dK kvs)) ∨ ∃ kvs, H p = some (.dT kvs))) ∨ (T = "set" ∧ ∃ S n, H p = some (.set S n))
  | _ => False
theorem tyV_is {pins : List (Addr × Obj)} {σ : St} {H : Hp} {s : Shared} {T : String} {x : V} {v : Value} (I : Inv X pins σ H s) (r : RelV x v) (ty : tyV X.K T x H) :
    s.TypeIs v T ∧ ∀ a, v = .ref a → ∃ ob, s.heap.get? a = some ob ∧ ob.dict = none := by
  cases x with
  | str z =>
    obtain ⟨t, rfl⟩ := r
    cases (show T = "str" from ty)
    exact ⟨typeIs_str s z t, fun _ e => nomatch e⟩
  | int i =>
    obtain ⟨t, rfl⟩ := r
    cases (show T = "int" from ty)
    exact ⟨typeIs_int s i t, fun _ e => nomatch e⟩
  | ref p =>
    cases r
    rcases ty with ⟨rfl, xs, hq⟩ | ⟨rfl, o, hk, hc, hd⟩ | ⟨rfl, hk⟩ | ⟨rfl, S, n, hk⟩
    · obtain ⟨its, _, pl, _⟩ := I.list hq
      refine ⟨pl.isList.typeIs, fun a e => ?_⟩
      cases e
      obtain ⟨o, n, e, c, hd, _⟩ := pl
      exact ⟨o, e, hd⟩
    · refine ⟨⟨o, I.kIn p o hk, hc⟩, fun a e => ?_⟩
      cases e
      exact ⟨o, I.kIn _ o hk, hd⟩
    · have z : ∃ o, s.heap.get? p = some o ∧ o.ExactDict := by
        rcases hk with ⟨kvs, hk⟩ | ⟨kvs, hk⟩
        · obtain ⟨_, _, _, _, o, _, _, e, ex, _⟩ := I.hok p _ hk
          exact ⟨o, e, ex⟩
        · obtain ⟨_, _, _, _, o, _, _, e, ex, _⟩ := I.hok p _ hk
          exact ⟨o, e, ex⟩
      obtain ⟨o, e, ex⟩ := z
      refine ⟨⟨o, e, ex.1⟩, fun a e2 => ?_⟩
      cases e2
      exact ⟨o, e, ex.2.1⟩
    · obtain ⟨o, _, _, _, e, ex, _⟩ := I.hok p _ hk
      refine ⟨⟨o, e, ex.1⟩, fun a e2 => ?_⟩
      cases e2
      exact ⟨o, e, ex.2.1⟩
  | _ => exact False.elim ty
def tBM (K : PySem.W.Frag) (T : String) (r : V → List V → Hp → VK → Prop) (to : TE) (t : TA) : TE := fun σ H Q => to σ H fun x H1 => tyV K T x H1 ∧ t σ H1 fun xs H2 => r x xs H2 Q
variable {o e : Expr} {es : List Expr} {to : TE} {t : TA} {name : Str} {apos cpos : Pos} {T id : String} {r : V → List V → Hp → VK → Prop}
theorem pe_bm (pa : PlainAttrs T) (slot : Slot T name id) (hty : typeOf (.builtin id) = pure (.type "method_descriptor")) (hm : MtR X id r) (ho : PE X o to) (ha : PA X (e :: es) t)
    (hbase : attributeBase o name X.env (eval o X.env) = eval o X.env := by rfl)
    (hfew : ((backTo cpos (starEach (e :: es) X.env)).all (fun x => !x.1) && (backToKw cpos (keywordEach [] X.env)).all (fun x => x.1.isSome)
      && decide ((e :: es).length + ([] : List Keyword).length + (if ([] : List Keyword).isEmpty then 0 else 1) < 30)) = true := by rfl)
    (hline : (apos.endLine == cpos.line) = true := by rfl) (hs : starEach (e :: es) X.env = (false, eval e X.env) :: starEach es X.env := by rfl) (hplain : (backTo cpos (starEach es X.env)).any (·.1) = false := by rfl) :
    PE X (.Call (.Attribute o name apos) (e :: es) [] cpos) (tBM X.K T r to t) := by
  intro pins s σ H Q I h
  refine wpAny_Call_method_late hbase hfew hline rfl (thn (ho pins s σ H _ I h) fun v s1 ⟨x, H1, I1, r1, ty, q1⟩ => ?_)
  obtain ⟨h1, h2⟩ := tyV_is I1 r1 ty
  refine ⟨T, id, pa, slot, hty, h1, h2, ?_⟩
  have hA := ha cpos pins s1 σ H1 _ I1 q1
  rw [hs] at hA ⊢
  refine Calls.callWith_builtin (by show (false || (backTo cpos (starEach es X.env)).any (·.1)) = false; rw [hplain] <;> rfl) (Calls.evalArgs_plain ?_)
  exact thn hA fun us s2 ⟨vs, H2, I2, r2, q2⟩ => hm pins s2 σ H2 x vs v us Q I2 r1 r2 q2
/- xs.append(e), list.index on a module's tuple .. are MtR facts of 06m -/
end
end L2
namespace L2
open PySem PySem.Spec PyProof.Rows
def MtM (X : Cx) (id : String) (r : V → List V → Hp → VK → Prop) : Prop :=
  ∀ (pins : List (Addr × Obj)) (s : Shared) (σ : St) (H : Hp) (x : V) (xs : List V) (v : Value) (us : List Value) (Q : VK), Inv X pins σ H s → RelV x v → Vals xs us → r x xs H Q →
    wpAny (model X.prog X.w) X.A (call (.builtin id) (v :: us)) (EP X pins σ Q) X.xe s
theorem Vals.one : ∀ {x : V} {us : List Value}, Vals [x] us → ∃ u, us = [u] ∧ RelV x u
  | _, _, .cons r .nil => ⟨_, rfl, r⟩
theorem Vals.two : ∀ {x y : V} {us : List Value}, Vals [x, y] us → ∃ u v, us = [u, v] ∧ RelV x u ∧ RelV y v
  | _, _, _, .cons r (.cons q .nil) => ⟨_, _, rfl, r, q⟩
theorem Vals.reverse {xs : List V} {us : List Value} (h : Vals xs us) : Vals xs.reverse us.reverse := by
  induction h with
  | nil => exact .nil
  | cons r t ih => rw [List.reverse_cons, List.reverse_cons]; exact Vals.append ih (.cons r .nil)
section
variable {X : Cx} {pins : List (Addr × Obj)} {σ : St} {H : Hp} {s : Shared} {l b : Addr} {xs ys zs : List V}
theorem Inv.lset {its its' : List Value} {n : Nat} {f : Array Value → Array Value} {t' : Nat} (I : Inv X pins σ H s) (hH : H l = some (.lst xs))
    (e : s.heap.get? l = some { cls := .type "list", data := .seq its.toArray n }) (hf : f its.toArray = its'.toArray) (hv : Vals ys its') (hz : ys.length ≤ sizeLine) :
    Inv X pins σ (upd H l (.lst ys)) { s with heap := s.heap.update l (Obj.mapSeq f), toks := t' } := by
  have q := PySem.IsL.update e f
  rw [hf] at q
  refine I.write (x := l) (e := l) (by rw [hH]; exact trivial) (.inl rfl) (fun b' u hb hu => (Heap.get?_update_other s.heap (Obj.mapSeq f) (Ne.symm hb)).trans hu) ⟨_, q⟩ ?_
  exact ⟨hz, its', _, hv, q⟩
theorem Inv.lnew {its : List Value} {t' : Nat} (I : Inv X pins σ H s) (hv : Vals ys its) (hz : ys.length ≤ sizeLine) :
    Inv X pins σ (upd H s.heap.objs.size (.lst ys)) { s with heap := s.heap.push { cls := .type "list", data := .seq its.toArray }, toks := t' } :=
  I.laid (fun _ _ q => Heap.get?_push_of_some _ q) (Nat.le_refl _) ⟨hz, its, 0, hv, Heap.get?_push_size _ rfl⟩
theorem Inv.fresh (I : Inv X pins σ H s) : H s.heap.objs.size = none := I.hok.fresh (Nat.le_refl _)
theorem Inv.lstM (I : Inv X pins σ H s) (hH : H l = some (.lst xs)) : xs.length ≤ sizeLine ∧ ∃ (its : List Value) (n : Nat), Vals xs its ∧ xs.length = its.length ∧ s.heap.get? l = some { cls := .type "list", data := .seq its.toArray n } := by
  obtain ⟨z, its, n, r, e⟩ := I.hok l _ hH
  exact ⟨z, its, n, r, r.length, e⟩
end
section
variable {X : Cx}
def rAppend : V → List V → Hp → VK → Prop := fun x vs H Q => ∃ l xs y, x = .ref l ∧ vs = [y] ∧ H l = some (.lst xs) ∧ xs.length < sizeLine ∧ Q .non (upd H l (.lst (xs ++ [y])))
theorem mt_append : MtM X "list.append" rAppend := by
  intro pins s σ H x vs v us Q I rx rv h
  obtain ⟨l, xs, y, rfl, rfl, hH, hz, q⟩ := h
  cases rx
  obtain ⟨u, rfl, ru⟩ := rv.one
  obtain ⟨z, its, n, r, hl, e⟩ := I.lstM hH
  refine call_meets F.slot_list_append ⟨_, e, rfl⟩ F.entry_list_append (F.args_list_append_2 _ _) (PySem.list_append l its.toArray n u (by rw [List.size_toArray]; omega)) ⟨e, ?_⟩
  refine ⟨.non, _, I.lset (its' := its ++ [u]) hH e (by simp) (r.append (.cons ru .nil)) ?_, rfl, q⟩
  rw [List.length_append, List.length_singleton]
  omega
def rCat : R2 := fun x y H Q => ∃ l b xs zs, x = .ref l ∧ y = .ref b ∧ H l = some (.lst xs) ∧ H b = some (.lst zs) ∧ xs.length + zs.length ≤ sizeLine ∧ ∀ p, H p = none → Q (.ref p) (upd H p (.lst (xs ++ zs)))
theorem op_cat : OpR X (binaryOp .Add) rCat := by
  intro pins s σ H x y v u Q I rx ry h
  obtain ⟨l, b, xs, zs, rfl, rfl, hH, hB, hz, q⟩ := h
  cases rx
  cases ry
  obtain ⟨z, its, n, r, hl, e⟩ := I.lstM hH
  obtain ⟨z2, its2, n2, r2, hl2, e2⟩ := I.lstM hB
  refine PySem.P.add_list e e2 ?_ (by rw [List.size_toArray, List.size_toArray]; omega)
  have ea : its.toArray ++ its2.toArray = (its ++ its2).toArray := by simp
  rw [ea]
  exact ⟨.ref _, _, I.lnew (t' := s.toks) (r.append r2) (by rw [List.length_append]; omega), rfl, q _ I.fresh⟩
end
section
variable {prog : Program} {w : World} {A : Around} {E : Value → Shared → Prop} {s : Shared}
set_option maxRecDepth 100000 in
end
section
variable {X : Cx}
end
end L2
end
section
namespace L2
open PySem PySem.Spec PyProof.Rows
section
variable {κ : Type} [DecidableEq κ]
def valV (kvs : List (κ × V)) (k : κ) : Option V := (kvs.find? fun kv => decide (kv.1 = k)).map (·.2)
def putK (kvs : List (κ × V)) (k : κ) (v : V) : List (κ × V) :=
  if (kvs.any fun kv => decide (kv.1 = k)) = true then kvs.map (fun kv => if kv.1 = k then (kv.1, v) else kv) else kvs ++ [(k, v)]
def dropK (kvs : List (κ × V)) (k : κ) : List (κ × V) := kvs.filter fun kv => decide (kv.1 ≠ k)
theorem valV_pos {p : κ × V} {r : List (κ × V)} {k : κ} (e : p.1 = k) : valV (p :: r) k = some p.2 := by simp [valV, List.find?_cons, e]
theorem valV_neg {p : κ × V} {r : List (κ × V)} {k : κ} (e : ¬ p.1 = k) : valV (p :: r) k = valV r k := by simp [valV, List.find?_cons, e]
theorem valV_any (k : κ) : ∀ kvs : List (κ × V), (kvs.any fun kv => decide (kv.1 = k)) = (valV kvs k).isSome
  | [] => rfl
  | p :: r => by
    rw [List.any_cons]
    by_cases e : p.1 = k
    · simp only [valV_pos e, decide_eq_true e, Bool.true_or, Option.isSome_some]
    · rw [valV_neg e, decide_eq_false e, Bool.false_or]; exact valV_any k r
theorem valV_map (k j : κ) (y : V) : ∀ kvs : List (κ × V), valV (kvs.map fun kv => if kv.1 = k then (kv.1, y) else kv) j = (valV kvs j).map fun x => if j = k then y else x
  | [] => rfl
  | p :: r => by
    have ih := valV_map k j y r
    rw [List.map_cons]
    by_cases h : p.1 = k
    · rw [if_pos h]
      by_cases e : p.1 = j
      · rw [valV_pos (p := (p.1, y)) e, valV_pos e, Option.map_some, if_pos (e.symm.trans h)]
      · rw [valV_neg (p := (p.1, y)) e, valV_neg e, ih]
    · rw [if_neg h]
      by_cases e : p.1 = j
      · rw [valV_pos (p := p) e, valV_pos e, Option.map_some, if_neg (fun z => h (e.trans z))]
      · rw [valV_neg (p := p) e, valV_neg e, ih]
theorem valV_snoc (k j : κ) (y : V) : ∀ kvs : List (κ × V), valV kvs k = none → valV (kvs ++ [(k, y)]) j = if j = k then some y else valV kvs j
  | [], _ => by
    by_cases e : k = j
    · rw [if_pos e.symm]; exact valV_pos (p := (k, y)) e
    · rw [if_neg (fun z => e z.symm)]; exact valV_neg (p := (k, y)) e
  | p :: r, hn => by
    rw [List.cons_append]
    have hk : ¬ p.1 = k := fun z => by rw [valV_pos z] at hn; cases hn
    rw [valV_neg hk] at hn
    have ih := valV_snoc k j y r hn
    by_cases e : p.1 = j
    · rw [valV_pos e, valV_pos e, if_neg (fun z => hk (e.trans z))]
    · rw [valV_neg e, valV_neg e, ih]
theorem valV_put (kvs : List (κ × V)) (k j : κ) (y : V) : valV (putK kvs k y) j = if j = k then some y else valV kvs j := by
  unfold putK
  by_cases a : (kvs.any fun kv => decide (kv.1 = k)) = true
  · rw [if_pos a, valV_map]
    rw [valV_any] at a
    by_cases e : j = k
    · obtain ⟨x, hx⟩ := Option.isSome_iff_exists.mp a
      rw [if_pos e, e, hx, Option.map_some, if_pos rfl]
    · rw [if_neg e]
      cases valV kvs j with
      | none => rfl
      | some x => rw [Option.map_some, if_neg e]
  · rw [if_neg a]
    refine valV_snoc k j y kvs ?_
    rw [valV_any] at a
    cases q : valV kvs k with
    | none => rfl
    | some x => rw [q] at a; exact (a rfl).elim
theorem length_putK (kvs : List (κ × V)) (k : κ) (v : V) : (putK kvs k v).length ≤ kvs.length + 1 := by
  unfold putK
  split
  · rw [List.length_map]; omega
  · rw [List.length_append, List.length_cons, List.length_nil]; omega
theorem putK_new {kvs : List (κ × V)} {k : κ} (v : V) (h : valV kvs k = none) : putK kvs k v = kvs ++ [(k, v)] := by
  unfold putK
  rw [valV_any, h]
  exact if_neg (by decide)
theorem RelO.isSome_eq {o : Option V} {u : Option Value} (r : RelO o u) : o.isSome = u.isSome := by
  cases o with
  | none => cases u with
    | none => rfl
    | some _ => exact (show False from r).elim
  | some _ => cases u with
    | none => exact (show False from r).elim
    | some _ => rfl
theorem KV.val {kvs : List (κ × V)} {vs : List (κ × Value)} (r : KV kvs vs) (k : κ) : RelO (valV kvs k) (valueAt vs k) := by
  unfold KV at r
  induction r with
  | nil => exact True.intro
  | @cons p q ps qs h t ih =>
    obtain ⟨h1, h2⟩ := h
    by_cases e : p.1 = k
    · have e' : q.1 = k := h1.symm.trans e
      have b : valueAt (q :: qs) k = some q.2 := by simp [valueAt, List.find?_cons, e']
      rw [valV_pos e, b]; exact h2
    · have e' : ¬ q.1 = k := fun z => e (h1.trans z)
      have b : valueAt (q :: qs) k = valueAt qs k := by simp [valueAt, List.find?_cons, e']
      rw [valV_neg e, b]; exact ih
theorem KV.any {kvs : List (κ × V)} {vs : List (κ × Value)} (r : KV kvs vs) (k : κ) : (kvs.any fun kv => decide (kv.1 = k)) = vs.any fun kv => decide (kv.1 = k) := by
  unfold KV at r
  induction r with
  | nil => rfl
  | cons h t ih => rw [List.any_cons, List.any_cons, ih, h.1]
theorem KV.repl {kvs : List (κ × V)} {vs : List (κ × Value)} (r : KV kvs vs) (k : κ) {y : V} {u : Value} (ry : RelV y u) :
    KV (kvs.map fun kv => if kv.1 = k then (kv.1, y) else kv) (vs.map fun kv => if kv.1 = k then (kv.1, u) else kv) := by
  unfold KV at r ⊢
  induction r with
  | nil => exact .nil
  | @cons p q ps qs h t ih =>
    rw [List.map_cons, List.map_cons]
    refine .cons ?_ ih
    obtain ⟨h1, h2⟩ := h
    by_cases e : p.1 = k
    · rw [if_pos e, if_pos (h1.symm.trans e)]; exact ⟨h1, ry⟩
    · rw [if_neg e, if_neg (fun z => e (h1.trans z))]; exact ⟨h1, h2⟩
theorem KV.put {kvs : List (κ × V)} {vs : List (κ × Value)} (r : KV kvs vs) (k : κ) {y : V} {u : Value} (ry : RelV y u) : KV (putK kvs k y) (stored vs k u) := by
  unfold putK stored
  rw [r.any k]
  by_cases e : (vs.any fun kv => decide (kv.1 = k)) = true
  · rw [if_pos e, if_pos e]; exact r.repl k ry
  · rw [if_neg e, if_neg e]; exact Paired.snoc r ⟨rfl, ry⟩
theorem KV.length {kvs : List (κ × V)} {vs : List (κ × Value)} (r : KV kvs vs) : kvs.length = vs.length := Paired.length r
end
theorem kV_is {P : Program} {w : World} {k : Key} {u : Value} (r : RelV (kV k) u) : (mixKind P w).is k u = true := by
  cases k with
  | inl i => obtain ⟨t, e⟩ := (show ∃ t, u = Value.int i t from r); subst e; exact mixKind_int P w i t
  | inr x => obtain ⟨t, e⟩ := (show ∃ t, u = Value.str x t from r); subst e; exact mixKind_str P w x t
theorem items_are {P : Program} {w : World} : ∀ {ks : List Key} {us : List Value}, Vals (ks.map kV) us → ItemsAre (mixKind P w) ks us
  | [], _, r => by rw [List.map_nil] at r; cases r; exact .nil
  | k :: ks, _, r => by
    rw [List.map_cons] at r
    cases r with
    | cons h t => exact .cons (kV_is h) (items_are t)
abbrev KT (H : Hp) : List (List Key × V) → List (List Key × Addr × Value) → Prop := Paired fun p q => p.1 = q.1 ∧ H q.2.1 = some (.tup (p.1.map kV)) ∧ RelV p.2 q.2.2
theorem KT.val {H : Hp} {kvs : List (List Key × V)} {xs : List (List Key × Addr × Value)} (r : KT H kvs xs) (k : List Key) : RelO (valV kvs k) ((atKey xs k).map (·.2)) := by
  induction r with
  | nil => exact True.intro
  | @cons p q ps qs h t ih =>
    obtain ⟨h1, _, h2⟩ := h
    by_cases e : p.1 = k
    · have e' : q.1 = k := h1.symm.trans e
      have b : atKey (q :: qs) k = some q.2 := by simp [atKey, List.find?_cons, e']
      rw [valV_pos e, b]; exact h2
    · have e' : ¬ q.1 = k := fun z => e (h1.trans z)
      have b : atKey (q :: qs) k = atKey qs k := by simp [atKey, List.find?_cons, e']
      rw [valV_neg e, b]; exact ih
theorem KT.repl {H : Hp} {kvs : List (List Key × V)} {xs : List (List Key × Addr × Value)} (r : KT H kvs xs) (k : List Key) {y : V} {u : Value} (ry : RelV y u) :
    KT H (kvs.map fun kv => if kv.1 = k then (kv.1, y) else kv) (xs.map (putAt k u)) := by
  induction r with
  | nil => exact .nil
  | @cons p q ps qs h t ih =>
    rw [List.map_cons, List.map_cons]
    refine .cons ?_ ih
    obtain ⟨h1, h2, h3⟩ := h
    unfold putAt
    by_cases e : p.1 = k
    · rw [if_pos e, if_pos (h1.symm.trans e)]; exact ⟨h1, h2, ry⟩
    · rw [if_neg e, if_neg (fun z => e (h1.trans z))]; exact ⟨h1, h2, h3⟩
theorem KT.put {H : Hp} {kvs : List (List Key × V)} {xs : List (List Key × Addr × Value)} (r : KT H kvs xs) (k : List Key) {b : Addr} {y : V} {u : Value} (hb : H b = some (.tup (k.map kV))) (ry : RelV y u) :
    KT H (putK kvs k y) (storedH xs k b u) := by
  have e : (kvs.any fun kv => decide (kv.1 = k)) = (atKey xs k).isSome := by
    rw [valV_any, (r.val k).isSome_eq, Option.isSome_map]
  unfold putK storedH
  rw [e]
  by_cases q : (atKey xs k).isSome = true
  · rw [if_pos q, if_pos q]; exact r.repl k ry
  · rw [if_neg q, if_neg q]; exact Paired.snoc r ⟨rfl, hb, ry⟩
theorem KT.keeps {H H' : Hp} {kvs : List (List Key × V)} {xs : List (List Key × Addr × Value)} (r : KT H kvs xs) (ht : ∀ b ys, H b = some (.tup ys) → H' b = some (.tup ys)) : KT H' kvs xs :=
  Paired.mapP r fun _ _ z => ⟨z.1, ht _ _ z.2.1, z.2.2⟩
section
variable {P : Program} {w : World} {H : Hp} {h : Heap} {a : Addr}
theorem rd_of {u : HO} (ok : HOk P w H h) (e : Rd H a u) : ObjOk P w H h a u := e.ok ok
theorem dk_rd {kvs : List (Key × V)} (ok : HOk P w H h) (e : Rd H a (.dK kvs)) : kvs.length ≤ sizeLine ∧ (a == sysModules) = false ∧ ∃ vs, KV kvs vs ∧ h.DictOf (mixKind P w) a vs :=
  show ObjOk P w H h a (.dK kvs) from rd_of ok e
theorem dk_of {kvs : List (Key × V)} (ok : HOk P w H h) (e : H a = some (.dK kvs)) : kvs.length ≤ sizeLine ∧ (a == sysModules) = false ∧ ∃ vs, KV kvs vs ∧ h.DictOf (mixKind P w) a vs := dk_rd ok (.inl e)
theorem key_of {ks : List Key} (ok : HOk P w H h) (e : H a = some (.tup (ks.map kV))) : (tupleKind (mixKind P w)).is h ks a := by
  obtain ⟨_, its, r, o, h1, h2, n, h3⟩ := (show ObjOk P w H h a (.tup (ks.map kV)) from ok a _ e)
  exact ⟨o, its.toArray, n, h1, h2, h3, by simpa using items_are r⟩
theorem dt_rd {kvs : List (List Key × V)} (ok : HOk P w H h) (e : Rd H a (.dT kvs)) : kvs.length ≤ sizeLine ∧ (a == sysModules) = false ∧
    ∃ xs, KT H kvs xs ∧ h.DictOfH (tupleKind (mixKind P w)) a xs := by
  obtain ⟨z, y, xs, r, o, es, ep, h1, h2, h3, h4, h5⟩ := (show ObjOk P w H h a (.dT kvs) from rd_of ok e)
  refine ⟨z, y, xs, r, o, es, ep, h1, h2, h3, h4, fun x hx => ?_, h5⟩
  have all : ∀ {l : List (List Key × V)} {m : List (List Key × Addr × Value)}, KT H l m → ∀ x ∈ m, (tupleKind (mixKind P w)).is h x.1 x.2.1 := by
    intro l m q
    induction q with
    | nil => intro x hx; exact nomatch hx
    | @cons p q ps qs hq t ih =>
      intro x hx
      rcases List.mem_cons.mp hx with e | hx
      · subst e
        exact key_of ok (by rw [← hq.1]; exact hq.2.1)
      · exact ih x hx
  exact all r x hx
theorem dt_of {kvs : List (List Key × V)} (ok : HOk P w H h) (e : H a = some (.dT kvs)) : kvs.length ≤ sizeLine ∧ (a == sysModules) = false ∧
    ∃ xs, KT H kvs xs ∧ h.DictOfH (tupleKind (mixKind P w)) a xs := dt_rd ok (.inl e)
end
def DGet (H : Hp) (a : Addr) (y : V) (r : Option V) : Prop :=
  (∃ kvs k, Rd H a (.dK kvs) ∧ y = kV k ∧ r = valV kvs k) ∨ ∃ kvs k b, Rd H a (.dT kvs) ∧ y = .ref b ∧ H b = some (.tup (k.map kV)) ∧ r = valV kvs k
def DPut (H : Hp) (a : Addr) (y v : V) (H' : Hp) : Prop :=
  (∃ kvs k, H a = some (.dK kvs) ∧ y = kV k ∧ kvs.length < sizeLine ∧ H' = upd H a (.dK (putK kvs k v))) ∨
  ∃ kvs k b, H a = some (.dT kvs) ∧ y = .ref b ∧ H b = some (.tup (k.map kV)) ∧ kvs.length < sizeLine ∧ H' = upd H a (.dT (putK kvs k v))
theorem DPut.k {H : Hp} {a : Addr} {kvs : List (Key × V)} {k : Key} {v : V} (e : H a = some (.dK kvs)) (hl : kvs.length < sizeLine) : DPut H a (kV k) v (upd H a (.dK (putK kvs k v))) := .inl ⟨kvs, k, e, rfl, hl, rfl⟩
section
variable {X : Cx} {pins : List (Addr × Obj)} {σ : St} {H : Hp} {s : Shared} {a : Addr} {y v : V} {u r : Value} {o : Option V} {A : Around} {E : Value → Shared → Prop}
theorem Inv.big (I : Inv X pins σ H s) : sysModules < s.heap.objs.size := by
  have h : mainGlobals < s.heap.objs.size := (I.mod.glob.keeps I.bk).lt
  exact Nat.lt_trans (by decide) h
theorem d_getItem {Q : Value → Shared → Prop} (hu : A.units + 1 < cLine) (I : Inv X pins σ H s) (g : DGet H a y (some v)) (ry : RelV y u) (h : ∀ w' s', Inv X pins σ H s' → RelV v w' → Q w' s') :
    wpAny (model X.prog X.w) A (getItem (.ref a) u) Q E s := by
  rcases g with ⟨kvs, k, e, ey, l⟩ | ⟨kvs, k, b, e, ey, eb, l⟩
  · subst ey
    obtain ⟨z, hd, vs, rel, dd⟩ := dk_rd I.hok e
    obtain ⟨w', hw, rw'⟩ := RelO.some_of (v := v) (o := valueAt vs k) (by rw [l]; exact rel.val k)
    exact wpAny_getItem_of (kV_is ry) dd.mapOf hw (h w' _ (I.tok _) rw')
  · subst ey
    cases (show u = Value.ref b from ry)
    obtain ⟨z, hd, xs, rel, dd⟩ := dt_rd I.hok e
    obtain ⟨w', hw, rw'⟩ := RelO.some_of (v := v) (o := (atKey xs k).map (·.2)) (by rw [l]; exact rel.val k)
    obtain ⟨p, hp, hp2⟩ := Option.map_eq_some_iff.mp hw
    refine wpAny_getItem_heap (tupleKind_room_in1 hu) (key_of I.hok eb) dd hp ?_
    rw [hp2]
    exact h w' _ (I.tok _) rw'
theorem d_write {h' : Heap} {t' : Nat} {ob : HO} (I : Inv X pins σ H s) (mu : Mut (H a)) (hs : Heap.SameBut a s.heap h') (he : ∃ q, h'.get? a = some q) (new : ObjOk X.prog X.w (upd H a ob) h' a ob) :
    Inv X pins σ (upd H a ob) { s with heap := h', toks := t' } :=
  I.write (x := a) (e := a) mu (.inl rfl) (fun b q hb z => (hs.2 b hb).trans z) he new
theorem dk_new {P : Program} {w : World} {H' : Hp} {h' : Heap} {kvs : List (Key × V)} {vs : List (Key × Value)} (z : kvs.length ≤ sizeLine) (hd : (a == sysModules) = false) (rel : KV kvs vs) (dd : h'.DictOf (mixKind P w) a vs) :
    ObjOk P w H' h' a (.dK kvs) := ⟨z, hd, vs, rel, dd⟩
theorem d_setItem {H' : Hp} {Q : Unit → Shared → Prop} (hu : A.units + 1 < cLine) (I : Inv X pins σ H s) (g : DPut H a y v H') (ry : RelV y u) (rv : RelV v r) (h : ∀ s', Inv X pins σ H' s' → Q () s') :
    wpAny (model X.prog X.w) A (setItem (.ref a) u r) Q E s := by
  rcases g with ⟨kvs, k, e, ey, l, eH⟩ | ⟨kvs, k, b, e, ey, eb, l, eH⟩
  · subst ey eH
    obtain ⟨z, hd, vs, rel, dd⟩ := dk_of I.hok e
    have hz : vs.length ≤ sizeLine := by rw [← rel.length]; exact z
    have hl : (putK kvs k v).length ≤ sizeLine := by have := length_putK kvs k v; omega
    refine wpAny_setItem_pairs (hsz := hz) (kV_is ry) dd fun h' dd' hs => h _ ?_
    have he : ∃ q, h'.get? a = some q := let ⟨q, _, _, hq, _⟩ := dd'; ⟨q, hq⟩
    exact d_write I (by rw [e]; exact True.intro) hs he (dk_new hl hd (rel.put k rv) dd')
  · subst ey eH
    cases (show u = Value.ref b from ry)
    obtain ⟨z, hd, xs, rel, dd⟩ := dt_of I.hok e
    have hz : xs.length ≤ sizeLine := by rw [← Paired.length rel]; exact z
    have hl : (putK kvs k v).length ≤ sizeLine := by have := length_putK kvs k v; omega
    refine wpAny_setItem_heap (hsz := hz) (tupleKind_room_in1 hu) (key_of I.hok eb) dd fun h' dd' hs => h _ ?_
    obtain ⟨q, es, ep, hq, h2, h3, h4, _, h5⟩ := dd'
    refine d_write I (by rw [e]; exact True.intro) hs ⟨q, hq⟩ ⟨hl, hd, _, (rel.put k eb rv).keeps fun c ys ec => ?_, q, es, ep, hq, h2, h3, h4, h5⟩
    rw [upd_ne (ne_of ec e (fun z => nomatch z))]
    exact ec
end
section
variable {X : Cx} {pins : List (Addr × Obj)} {σ : St} {H : Hp} {s : Shared} {a : Addr} {kvs : List (Key × V)} {k : Key} {u : Value} {A : Around} {E : Value → Shared → Prop}
end
def NoSl (i : Expr) : Prop := ∀ ov iv, subscripted i false ov iv = operate [ov, iv] (getItem ov iv)
theorem subD_of {prog : Program} {w : World} {A : Around} {E : Value → Shared → Prop} {s : Shared} {env : Env} {value slice : Expr} {pos : Pos} {T id : String} {Q : Value → Shared → Prop}
    (hl : typeLookup (.type T) "__getitem__" = pure (some (.builtin id))) (hs : NoSl slice)
    (h : wpAny (model prog w) A (eval value env) (fun o s₁ => wpAny (model prog w) A (eval slice env) (fun i s₂ => s₂.TypeIs o T ∧ wpAny (model prog w) A (getItem o i) Q E s₂) E s₁) E s) :
    wpAny (model prog w) A (eval (.Subscript value slice pos) env) Q E s := by
  refine Subscript_ (wpAny_mono h (fun o s₁ h₁ => wpAny_mono h₁ (fun i s₂ h₂ => ?_) fun _ _ x => x) fun _ _ x => x)
  obtain ⟨hT, h₂⟩ := h₂
  unfold subscriptTail
  refine wpAny_bind ?_
  rw [getitemInPython_of_ne hT.not_modules]
  refine wpAny_bind (wpAny_specialOf hT hl ?_)
  have fin : wpAny (model prog w) A (subscripted slice false o i) (fun r s₃ => wpAny (model prog w) A (letTemporaryGo value o r >>= fun _ => pure r) Q E s₃) E s₂ := by
    rw [hs o i]
    exact wpAny_operating (wpAny_mono h₂ (fun r s₃ h₃ => wpAny_bind (wpAny_letTemporaryGo (wpAny_pure h₃))) fun _ _ x => x)
  first
    | exact wpAny_pure (wpAny_bind fin)
    | exact wpAny_bind (wpAny_pure (wpAny_bind fin))
    | exact wpAny_bind fin
theorem dict_typeIs {X : Cx} {pins : List (Addr × Obj)} {σ : St} {H : Hp} {s : Shared} {a : Addr} {y : V} {o : Option V} (I : Inv X pins σ H s) (g : DGet H a y o) : s.TypeIs (.ref a) "dict" := by
  rcases g with ⟨kvs, k, e, _, _⟩ | ⟨kvs, k, b, e, _, _, _⟩
  · obtain ⟨_, _, vs, _, dd⟩ := dk_rd I.hok e
    exact dd.typeIs
  · obtain ⟨_, _, xs, _, dd⟩ := dt_rd I.hok e
    exact dd.typeIs
def tDGet (td ty : TE) : TE := fun σ H Q => td σ H fun x H1 => ty σ H1 fun y H2 => ∃ a v, x = .ref a ∧ DGet H2 a y (some v) ∧ Q v H2
def sDPut (td ty tv : TE) : TS := fun D σ H => tv σ H fun v H1 => td σ H1 fun x H2 => ty σ H2 fun y H3 => ∃ a H4, x = .ref a ∧ DPut H3 a y v H4 ∧ D.nx σ H4
section
variable {X : Cx} {o i e value : Expr} {pos pos' tpos : Pos} {td ty tv : TE}
theorem pe_dget (hu : X.A.units + 1 < cLine) (ho : PE X o td) (hi : PE X i ty) (hs : NoSl i) : PE X (.Subscript o i pos) (tDGet td ty) := by
  intro pins s σ H Q I h
  refine subD_of PySem.F.slot_dict_getitem.lookup hs (thn (ho pins s σ H _ I h) fun u s1 ⟨x, H1, I1, rx, q1⟩ => thn (hi pins s1 σ H1 _ I1 q1) fun iv s2 ⟨y, H2, I2, ry, a, v, ex, g, q2⟩ => ?_)
  subst ex
  obtain rfl : u = Value.ref a := rx
  exact ⟨dict_typeIs I2 g, d_getItem hu I2 g ry fun w' s3 I3 rw' => ⟨v, H2, I3, rw', q2⟩⟩
theorem ps_dput (hu : X.A.units + 1 < cLine) (ho : PE X o td) (hi : PE X i ty) (hv : PE X value tv) (hs : swapsWith value (some (.Subscript o i pos')) pos.line X.env = pure false) :
    PS X (.Assign [.Subscript o i pos'] value pos) (sDPut td ty tv) := by
  intro pins s σ H D I h
  refine wpAny_Assign_Subscript (thn (hv pins s σ H _ I h) fun r s1 ⟨v, H1, I1, rv, q1⟩ => thn (ho pins s1 σ H1 _ I1 q1) fun u s2 ⟨x, H2, I2, rx, q2⟩ => thn (hi pins s2 σ H2 _ I2 q2) fun iv s3 ⟨y, H3, I3, ry, a, H4, ex, g, q3⟩ => ?_) hs
  subst ex
  obtain rfl : u = Value.ref a := rx
  exact d_setItem hu I3 g ry rv fun s4 I4 => ⟨σ, H4, I4, q3⟩
end
theorem dk_empty {P : Program} {w : World} {H : Hp} (h : Heap) (hb : sysModules < h.objs.size) : ObjOk P w H (h.push { cls := .type "dict", data := .dict #[] }) h.objs.size (.dK []) :=
  ⟨Nat.zero_le _, beq_eq_false_iff_ne.mpr (Ne.symm (Nat.ne_of_lt hb)), [], .nil, Heap.DictOf.new h⟩
def tDNewK : TE := fun _ H Q => ∀ p, H p = none → Q (.ref p) (upd H p (.dK []))
section
variable {X : Cx} {pos : Pos}
theorem pe_dnewK : PE X (.Dict [] [] pos) tDNewK := fun pins s σ H Q I h =>
  wpAny_Dict_empty ⟨.ref s.heap.objs.size, _, I.laid (a := s.heap.objs.size) (o := .dK []) (t' := s.toks) (fun _ _ q => Heap.get?_push_of_some _ q) (Nat.le_refl _) (dk_empty s.heap I.big), rfl, h _ (I.hok.fresh (Nat.le_refl _))⟩
end
def tPairs : List (TE × TE) → St → Hp → (List (V × V) → Hp → Prop) → Prop
  | [], _, H, Q => Q [] H
  | (tk, tv) :: r, σ, H, Q => tk σ H fun x H1 => tv σ H1 fun y H2 => tPairs r σ H2 fun ps H3 => Q ((x, y) :: ps) H3
abbrev VV : List (V × V) → List (Value × Value) → Prop := Paired fun p q => RelV p.1 q.1 ∧ RelV p.2 q.2
def PPs (X : Cx) (pos : Pos) (keys : List (Option Expr)) (values : List Expr) (trs : List (TE × TE)) : Prop :=
  ∀ (pins : List (Addr × Obj)) (s : Shared) (σ : St) (H : Hp) (Q : List (V × V) → Hp → Prop), Inv X pins σ H s → tPairs trs σ H Q →
    wpAny (model X.prog X.w) X.A (evalPairs (pairTrees keys values X.env pos)) (fun vs s' => ∃ ps H', Inv X pins σ H' s' ∧ VV ps vs ∧ Q ps H') X.xe s
theorem pps_nil {X : Cx} {pos : Pos} : PPs X pos [] [] [] := fun pins s σ H Q I h => pairTrees_nil_walk ⟨[], H, I, .nil, h⟩
theorem pps_cons {X : Cx} {pos : Pos} {k v : Expr} {ks : List (Option Expr)} {vs : List Expr} {tk tv : TE} {trs : List (TE × TE)} (hk : PE X k tk) (hv : PE X v tv) (hr : PPs X pos ks vs trs) :
    PPs X pos (some k :: ks) (v :: vs) ((tk, tv) :: trs) := fun pins s σ H Q I h =>
  pairTrees_cons_walk (thn (hk pins s σ H _ I h) fun u s1 ⟨x, H1, I1, rx, q1⟩ => thn (hv pins s1 σ H1 _ I1 q1) fun w2 s2 ⟨y, H2, I2, ry, q2⟩ =>
    thn (hr pins s2 σ H2 _ I2 q2) fun ws s3 ⟨ps, H3, I3, rel, q3⟩ => ⟨(x, y) :: ps, H3, I3, .cons ⟨rx, ry⟩ rel, q3⟩)
def mergeK (kvs more : List (Key × V)) : List (Key × V) := more.foldl (fun acc kv => putK acc kv.1 kv.2) kvs
theorem KV.merge : ∀ {more : List (Key × V)} {rs : List (Key × Value)} {kvs : List (Key × V)} {vs : List (Key × Value)}, KV more rs → KV kvs vs → KV (mergeK kvs more) (merged vs rs) := by
  intro more rs kvs vs r
  unfold KV at r
  induction r generalizing kvs vs with
  | nil => intro q; exact q
  | @cons p q ps qs h t ih =>
    intro r0
    have e : KV (putK kvs p.1 p.2) (stored vs q.1 q.2) := by
      have := r0.put p.1 h.2
      rw [← h.1]; exact this
    exact ih e
theorem length_mergeK : ∀ (more kvs : List (Key × V)), (mergeK kvs more).length ≤ kvs.length + more.length
  | [], kvs => by show kvs.length ≤ kvs.length + 0; omega
  | p :: r, kvs => by
    have h1 := length_mergeK r (putK kvs p.1 p.2)
    have h2 := length_putK kvs p.1 p.2
    show (mergeK (putK kvs p.1 p.2) r).length ≤ _
    rw [List.length_cons]; omega
theorem carries_of {P : Program} {w : World} : ∀ {kvs : List (Key × V)} {ws : List (Value × Value)}, VV (kvs.map fun kv => (kV kv.1, kv.2)) ws → ∃ rs, Carries (mixKind P w) ws rs ∧ KV kvs rs
  | [], _, r => by rw [List.map_nil] at r; cases r; exact ⟨[], True.intro, .nil⟩
  | p :: kvs, _, r => by
    rw [List.map_cons] at r
    cases r with
    | @cons a b as bs h t =>
      obtain ⟨rs, c, q⟩ := carries_of (P := P) (w := w) t
      obtain ⟨b1, b2⟩ := b
      exact ⟨(p.1, b2) :: rs, ⟨kV_is h.1, rfl, c⟩, .cons ⟨rfl, h.2⟩ q⟩
def tDisp (trs : List (TE × TE)) : TE := fun σ H Q => ∀ p, H p = none → tPairs trs σ (upd H p (.dK [])) fun ps H2 => H2 p = some (.dK []) ∧ ∃ kvs : List (Key × V), ps = kvs.map (fun kv => (kV kv.1, kv.2)) ∧ kvs.length ≤ 15 ∧ Q (.ref p) (upd H2 p (.dK (mergeK [] kvs)))
theorem pe_disp {X : Cx} {pos : Pos} {keys : List (Option Expr)} {values : List Expr} {trs : List (TE × TE)} (h : PPs X pos keys values trs) (hall : keys.all (·.isSome) = true) (hl : keys.length = values.length) (h0 : keys ≠ [])
    (h15 : keys.length ≤ 15) : PE X (.Dict keys values pos) (tDisp trs) := by
  intro pins s σ H Q I q
  have hn := I.hok.fresh (Nat.le_refl s.heap.objs.size)
  have I1 := I.laid (a := s.heap.objs.size) (o := .dK []) (h' := s.heap.push { cls := .type "dict", data := .dict #[] }) (t' := s.toks) (fun _ _ q => Heap.get?_push_of_some _ q) (Nat.le_refl _) (dk_empty s.heap I.big)
  refine wpAny_Dict_walk (knd := mixKind X.prog X.w) hall hl h0 h15 (thn (h pins _ σ _ _ I1 (q _ hn)) fun ws s2 ⟨ps, H2, I2, rel, e, kvs, ep, lk, q2⟩ => ?_)
  subst ep
  obtain ⟨rs, c, rk⟩ := carries_of (P := X.prog) (w := X.w) rel
  obtain ⟨z, hd, vs0, r0, dd⟩ := dk_of I2.hok e
  cases r0
  refine ⟨rs, c, dd, fun h' dd' hs => ⟨.ref s.heap.objs.size, _, ?_, rfl, q2⟩⟩
  have hz : (mergeK [] kvs).length ≤ sizeLine := by
    have h1 := length_mergeK kvs []
    rw [List.length_nil] at h1
    rw [sizeLine_eq]; omega
  have he : ∃ q, h'.get? s.heap.objs.size = some q := let ⟨q, _, _, hq, _⟩ := dd'; ⟨q, hq⟩
  exact d_write I2 (by rw [e]; exact True.intro) hs he (dk_new hz hd (rk.merge .nil) dd')
structure M1 (X : Cx) (o : Expr) (m : Str) (apos : Pos) (e : Expr) (cpos : Pos) : Prop where
  base : attributeBase o m X.env (eval o X.env) = eval o X.env
  few : ((backTo cpos (starEach [e] X.env)).all (fun x => !x.1) && (backToKw cpos (keywordEach [] X.env)).all (fun x => x.1.isSome)
    && decide (([e] : List Expr).length + ([] : List Keyword).length + (if ([] : List Keyword).isEmpty then 0 else 1) < 30)) = true
  line : (apos.endLine == cpos.line) = true
  trees : backTo cpos (starEach [e] X.env) = [(false, eval e X.env)]
structure M2 (X : Cx) (o : Expr) (m : Str) (apos : Pos) (e f : Expr) (cpos : Pos) : Prop where
  base : attributeBase o m X.env (eval o X.env) = eval o X.env
  few : ((backTo cpos (starEach [e, f] X.env)).all (fun x => !x.1) && (backToKw cpos (keywordEach [] X.env)).all (fun x => x.1.isSome)
    && decide (([e, f] : List Expr).length + ([] : List Keyword).length + (if ([] : List Keyword).isEmpty then 0 else 1) < 30)) = true
  line : (apos.endLine == cpos.line) = true
  trees : backTo cpos (starEach [e, f] X.env) = [(false, eval e X.env), (false, eval f X.env)]
section
variable {X : Cx} {pins : List (Addr × Obj)} {σ : St} {H : Hp} {s : Shared} {a : Addr} {y d : V} {u r : Value} {o : Option V} {A : Around} {E : Value → Shared → Prop}
end
section
variable {X : Cx} {o e f : Expr} {apos cpos : Pos} {td ty tx : TE}
end
section
variable {X : Cx} {pins : List (Addr × Obj)} {σ : St} {H : Hp} {s : Shared} {a : Addr} {kvs : List (Key × V)} {A : Around} {E : Value → Shared → Prop}
end
section
variable {X : Cx} {pins : List (Addr × Obj)} {σ : St} {H : Hp} {s : Shared} {a : Addr} {y : V} {u : Value} {A : Around} {E : Value → Shared → Prop}
end
end L2
end
section
namespace Att
open PySem PySem.W PySem.Calls PyProof.Rows
theorem ints_of_wellAll {P : Params} {h : Heap} : ∀ (ns : List Int) (vs : List Value), WellAll P h vs (ns.map WData.int) → IntsAre vs ns := by
  intro ns
  induction ns with
  | nil =>
    intro vs w
    rw [List.map_nil] at w
    cases w
    exact .nil
  | cons n ns ih =>
    intro vs w
    rw [List.map_cons] at w
    cases w with
    | cons a b =>
      cases a
      exact .cons _ _ (ih _ b)
theorem script_of {l : OpenLaw} {n : Nat} (hn : l.most = some n) {P : Params} {h : Heap} {args : List WData} {vals : List Value}
    (hpre : l.row.toRowW.claim.pre args = true) (hwl : WellAll P h vals args) :
    ∃ a vs ns, vals = [Value.ref a] ∧ args = [WData.list (ns.map WData.int)] ∧ h.get? a = some { cls := .type "list", data := .seq vs.toArray } ∧ IntsAre vs ns ∧ ns.length ≤ n := by
  have hsh : WShape.hasAll [] args [.list .int] = true := (pre_splitW hpre).1
  have hc : l.pre.holds [] { args := args } = true := (pre_splitW hpre).2
  obtain ⟨d, r, rfl, h1, h2⟩ := hasAllW_cons hsh
  obtain rfl := hasAllW_nil h2
  obtain ⟨xs, rfl, h3⟩ := hasW_list h1
  obtain ⟨ns, rfl⟩ := items_int h3
  have hlen : ns.length ≤ n := by
    unfold OpenLaw.pre at hc
    have h4 : (WTm.not (.lt (.lit (.int (n : Int))) (.len (.arg 0)))).holds [] { args := [.list (ns.map .int)] } = true := by
      have h4 := (holds_andW hc).1
      rw [hn] at h4
      exact h4
    have h5 := condW_of h4 (w_not (w_lt w_lit (w_len_list (w_arg rfl))))
    rw [List.length_map] at h5
    refine Nat.le_of_not_lt fun q => ?_
    have q' : (n : Int) < ((ns.length : Nat) : Int) := by omega
    first
      | (rw [decide_eq_true q'] at h5; exact absurd h5 (by decide))
      | (simp at h5; omega)
  cases hwl with
  | cons w1 w2 =>
    cases w2
    cases w1 with
    | list ho hall => exact ⟨_, _, ns, rfl, rfl, ho, ints_of_wellAll ns _ hall, hlen⟩
theorem post_true (l : OpenLaw) (args : List WData) : l.row.toRowW.claim.post args (.bool true) args = true :=
  postW_of (r := l.row.toRowW) (X := (true == true))
    (show WShape.has [] (.bool true) .bool = true by first | rfl | decide | simp [WShape.has, WShape.arms, WShape.armsAll])
    (show (WTm.eq .res (.lit (.bool true))).value [] { args := args, res := some (.bool true), after := args } = some (.bool (true == true)) from w_eq_bool (w_res rfl) w_lit) rfl
theorem attach_call {l : OpenLaw} {n : Nat} {q : Program} {loose : List Str} {XP : (Str → Option Value) → Heap → Prop} {YP : World → Heap → Prop} {d : DefRec}
    (hn : l.most = some n) (hdf : d.params.defaults = [])
    (call : ∀ (w : World) (s₀ s₁ : Shared) (mg mb : Str → Option Value) (fa : Addr) (o : Obj) (pm cd doc : Value) (a : Addr) (vs : List Value) (ns : List Int),
      Ground q loose [] XP w s₀ mg mb s₁.heap → YP w s₁.heap →
      s₁.heap.get? fa = some o → o.data = .func (docDef d.name d.params d.body d.scope pm cd doc) → s₁.heap.CodeRec cd d.name → mg d.name = some (.ref fa) →
      s₁.heap.get? a = some { cls := .type "list", data := .seq vs.toArray } → IntsAre vs ns → ns.length ≤ n → s₁.gens = #[] →
      codeAny (model l.prog w) callerA (.call (.ref fa) ⟨[.ref a], []⟩) (fun r s' => r = .ok (.ret (.bool true)) ∧ OldK s₁.heap s'.heap ∧ s'.os = s₁.os ∧ AllBare s'.gens) s₁) :
    WalkO q loose XP YP l.row.toRowW d [] (fun f vs => PySem.call f vs) := by
  intro w s₀ s₁ mg mb G Y fa o pm cd doc dV kV ho hd hcd hD hmg hg args vals as hpre hlay hrd hwl hlo
  obtain rfl : dV = .none := Dflts.none hD hdf
  obtain rfl : kV = .none := Dflts.noKw hD
  obtain ⟨a, vs, ns, rfl, rfl, hobj, hints, hlen⟩ := script_of hn hpre hwl
  refine enter_call (codeAny_mono (call w s₀ s₁ mg mb fa o pm cd doc a vs ns G Y ho (fd_plain hd) hcd hmg hobj hints hlen hg) fun r s' hq => ?_)
  obtain ⟨rfl, h2, h3, h4⟩ := hq
  exact ⟨.inl ⟨.bool true, .bool true, [], rfl, fun _ => rfl, .bool true, post_true l _, fun _ => ⟨List.Pairwise.nil, fun _ hm => (nomatch hm)⟩⟩, h2, h3, h4⟩
section
variable {prog : Program} {w : World} {A : Around} {E : Value → Shared → Prop} {s : Shared} {K : Frag}
def ledger (h : Heap) (L d : Addr) : List (Addr × Obj) := (List.range h.objs.size).filterMap fun a => if a = L ∨ a = d then none else (h.get? a).map fun o => (a, o)
end
end Att
namespace L2
open PySem PySem.Spec PyProof.Rows
theorem vals_ints : ∀ {vs : List Value} {ns : List Int}, IntsAre vs ns → Vals (ns.map V.int) vs
  | _, _, .nil => .nil
  | _, _, .cons n t h => .cons ⟨t, rfl⟩ (vals_ints h)
def Only (H : Hp) : Prop := ∀ b, H b = none ∨ ∃ o xs, H b = some (.frz o (.lst xs))
theorem law_call {P : Program} {w : World} {K : PySem.W.Frag} {mg mb : Str → Option Value} {CX : CXT} {k : Nat} {fa a : Addr} {fd : FuncData} {x : Str} {sp : Sp} {s₁ : Shared} {vs : List Value} {ns : List Int}
    (KX : K.In s₁.heap) (hns : s₁.heap.Ns mainGlobals mg) (hb : s₁.heap.Ns builtinsNs mb) (hbb : ∀ x : Str, x ≠ "__name__" → mb x = bootBuiltins x) (hlim : s₁.heap.NoLimit) (hg : s₁.gens = #[])
    (ha : s₁.heap.get? a = some { cls := .type "list", data := .seq vs.toArray }) (hi : IntsAre vs ns) (hl : ns.length ≤ sizeLine) (hr : Room k callerA)
    (F : ∀ base : Heap, K.In base → base.Ns mainGlobals mg → FnOk P w K mg base CX k fa fd [x] sp) (hbind : ∀ (s : Shared) (u : Value), BindsTo s fd ⟨[u], []⟩ [(x, u)])
    (hsp : ∀ H : Hp, Only H → SqL K H a (ns.map V.int) → sp [.ref a] H (fun v _ => v = .bl true) fun _ _ _ => False)
    (hCX : ∀ H e s', CX [] H s₁ (fun _ _ _ => False) e s' → False) :
    codeAny (model P w) callerA (.call (.ref fa) ⟨[.ref a], []⟩) (fun r s' => r = .ok (.ret (.bool true)) ∧ OldK s₁.heap s'.heap ∧ s'.os = s₁.os ∧ AllBare s'.gens) s₁ := by
  have rv := vals_ints hi
  have lenV := hi.length
  have core : ∀ H : Hp, Only H → SqL K H a (ns.map V.int) → HOk P w H s₁.heap → (∀ b, H b ≠ none → b = a) → (H a ≠ none → K.lookup a = none) →
      codeAny (model P w) callerA (.call (.ref fa) ⟨[.ref a], []⟩) (fun r s' => r = .ok (.ret (.bool true)) ∧ OldK s₁.heap s'.heap ∧ s'.os = s₁.os ∧ AllBare s'.gens) s₁ := by
    intro H hO hS hok hA hK
    have base_of : ∀ {b : Addr} {o : Obj}, s₁.heap.get? b = some o → H b = none → (hidT s₁.heap H).get? b = some o := fun e n => hidT_get e n
    have noA : ∀ {b : Addr} {o : Obj} {es : Array DictEntry} {ep : Nat}, s₁.heap.get? b = some o → o.data = .dict es ep → H b = none := fun {b o es ep} e d => by
      cases q : H b with
      | none => rfl
      | some u =>
        have e' : b = a := hA b (by rw [q]; simp)
        subst e'
        rw [ha] at e; cases e
        have d' : Data.seq vs.toArray _ = Data.dict es ep := d
        cases d'
    have nsK : ∀ {b : Addr} {m : Str → Option Value}, s₁.heap.Ns b m → (hidT s₁.heap H).Ns b m := fun {b m} ⟨o, es, ep, e, d, r⟩ => ⟨o, es, ep, base_of e (noA e d), d, r⟩
    have hKb : K.In (hidT s₁.heap H) := fun b o e => base_of (KX b o e) (by
      cases q : H b with
      | none => rfl
      | some u =>
        have e' : b = a := hA b (by rw [q]; simp)
        subst e'
        rw [hK (by rw [q]; simp)] at e; cases e)
    have hM : Mod K mg (hidT s₁.heap H) := ⟨hKb, nsK hns, ⟨mb, nsK hb, hbb⟩, let ⟨mc, h1, h2⟩ := hlim; ⟨mc, nsK h1, h2⟩⟩
    have e0 : Env0 P w K mg (hidT s₁.heap H) callerA [] s₁ H := ⟨rfl, hM, fun b o e => of_hidT e, Nat.le_of_eq (hidT_size _ _), trivial, fun b hb => absurd (show b ∈ ([] : List Addr) from hb) (by simp), hok, .of_eq hg⟩
    refine codeAny_mono ((F _ hKb (nsK hns)).run callerA [] s₁ H ⟨[.ref a], []⟩ [.ref a] [.ref a] _ _ hr e0 (hbind s₁ (.ref a)) (.cons rfl .nil) (hsp H hO hS)) fun r s' h => ?_
    cases r with
    | error e => exact (hCX H e s' h).elim
    | ok fl =>
      cases fl with
      | next => exact False.elim h
      | brk => exact False.elim h
      | cont => exact False.elim h
      | ret u =>
        obtain ⟨v, H', os, bare, un, hok', r', q⟩ := h
        have q' : v = .bl true := q
        subst q'
        obtain rfl : u = Value.bool true := r'
        refine ⟨rfl, OldK.of_keep fun b o e => ?_, os, bare⟩
        cases q : H b with
        | none => exact un.keep b o e q (by intro z; exact absurd (show b ∈ ([] : List Addr) from z) (by simp)) (by simp)
        | some u =>
          rcases hO b with z | ⟨ob, xs, z⟩
          · rw [q] at z; cases z
          · have z2 := un.frzs b ob _ z
            obtain ⟨e1, _⟩ := hok b _ z
            obtain ⟨e2, _⟩ := hok' b _ z2
            rw [e] at e1; cases e1
            exact e2
  cases hk : K.lookup a with
  | some o =>
    have e := KX a o hk
    rw [ha] at e
    cases e
    refine core (fun _ => none) (fun _ => .inl rfl) (.inr ⟨_, vs.toArray, _, hk, rfl, rfl, rfl, by rw [List.size_toArray, lenV]; exact hl, by simpa using rv⟩) (fun b u z => by have z' : (none : Option HO) = some u := z; cases z') (fun b z => absurd rfl z) fun z => absurd rfl z
  | none =>
    refine core (fun b => if b = a then some (.frz { cls := .type "list", data := .seq vs.toArray } (.lst (ns.map V.int))) else none) (fun b => ?_) (.inl (.inr ⟨{ cls := .type "list", data := .seq vs.toArray }, if_pos rfl⟩)) (fun b u z => ?_) (fun b z => ?_) fun _ => hk
    · by_cases hb : b = a
      · exact .inr ⟨_, _, if_pos hb⟩
      · exact .inl (if_neg hb)
    · by_cases hb : b = a
      · have z' := (if_pos hb).symm.trans z
        cases z'
        subst hb
        exact ⟨ha, by rw [List.length_map]; exact hl, vs, _, rv, ha⟩
      · have z' := (if_neg hb).symm.trans z
        cases z'
    · by_cases hb : b = a
      · exact hb
      · exact absurd (if_neg hb) z
end L2
namespace L2
open PySem PySem.Spec PyProof.Rows
theorem walk_of {l : PySem.W.OpenLaw} {n k : Nat} {q : Program} {loose : List Str} {XP : (Str → Option Value) → Heap → Prop} {YP : World → Heap → Prop} {d : DefRec} {K : Params → PySem.W.Frag} {CX : World → CXT} {sp : World → Sp} {x : Str}
    (hn : l.most = some n) (hn2 : n ≤ sizeLine) (hdf : d.params.defaults = []) (hr : Room k callerA)
    (hY : ∀ (w : World) (h : Heap), YP w h → (K w.params).In h)
    (F : ∀ (w : World) (mg : Str → Option Value) (fa : Addr) (h : Heap), (K w.params).In h → h.Ns mainGlobals mg → mg d.name = some (.ref fa) →
      ∃ fd : FuncData, (∀ (s : Shared) (u : Value), BindsTo s fd ⟨[u], []⟩ [(x, u)]) ∧
        ∀ base : Heap, (K w.params).In base → base.Ns mainGlobals mg → FnOk l.prog w (K w.params) mg base (CX w) k fa fd [x] (sp w))
    (hsp : ∀ (w : World) (H : Hp) (a : Addr) (ns : List Int), ns.length ≤ n → Only H → SqL (K w.params) H a (ns.map V.int) → sp w [.ref a] H (fun v _ => v = .bl true) fun _ _ _ => False)
    (hCX : ∀ (w : World) (H : Hp) (s : Shared) (e : Value) (s' : Shared), CX w [] H s (fun _ _ _ => False) e s' → False) :
    PySem.W.WalkO q loose XP YP l.row.toRowW d [] (fun f vs => PySem.call f vs) := by
  refine Att.attach_call hn hdf fun w s₀ s₁ mg mb fa o pm cd doc a vs ns G Y ho hd hcd hmg hobj hints hlen hg => ?_
  have KX := hY w _ Y
  obtain ⟨fd, hb, hF⟩ := F w mg fa _ KX G.T.g hmg
  exact law_call KX G.T.g G.T.b G.T.builtins G.T.nolimit hg hobj hints (Nat.le_trans hlen hn2) hr hF hb (fun H hO hS => hsp w H a ns hlen hO hS) fun H e s' => hCX w H s₁ e s'
end L2
/- THE LAST THEOREM (shape; LID, My.* are yours):
   My.Adr: a structure of the addresses that your layer names (classes, functions); My.Txt K t: a structure (Prop) of the equations over K;
   My.txt_mk : {K} {implicit addresses ..} (e1 : nsIn K mainGlobals "law" = some (some (.ref f))) (e2 : K.lookup f = some ⟨oc, od, .func (fnOf "law" "law" params body scope dV kV doc pm an cdv ct), sl⟩) (e3 : codeIn K cdv "law" = true) .. : ∃ t, My.Txt K t
set_option maxRecDepth 100000 in
set_option maxHeartbeats 0 in
(the tactic k_is has no namespace: write k_is) -/
namespace L2
open PySem PySem.Spec PyProof.Rows
def defArgs (s : Stmt) : Arguments := match s with
  | .FunctionDef _ a _ _ _ _ _ _ _ _ => a
  | _ => { posonlyargs := [], args := [], vararg := none, kwonlyargs := [], kw_defaults := [], kwarg := none, defaults := [] }
def defBody (s : Stmt) : List Stmt := match s with
  | .FunctionDef _ _ b _ _ _ _ _ _ _ => b
  | _ => []
def defScope (s : Stmt) : Scope := match s with
  | .FunctionDef _ _ _ _ _ _ sc _ _ _ => sc
  | _ => { kind := .function, names := [], isGenerator := false, isCoroutine := false }
abbrev CX0 : CXT := fun _ _ _ _ _ _ => False
abbrev E0 : XK := fun _ _ _ => False
theorem pass0 {X : Cx} : Passes CX0 X E0 := fun _ _ _ _ _ _ _ h => h.elim
structure Fun (K : PySem.W.Frag) (x qual : Str) (st : Stmt) (f : Addr) (fd : FuncData) : Prop where
  ex : ∃ (oc : Value) (od : Option Addr) (kV doc pm : Value) (an : Option Addr) (cdv ct : Value) (osl : Array (Option Value)),
    fd = PySem.W.fnOf x qual (defArgs st) (defBody st) (defScope st) .none kV doc pm an cdv ct ∧ K.lookup f = some ⟨oc, od, .func fd, osl⟩ ∧ PySem.W.codeIn K cdv qual = true
  kp : PySem.W.keepIn K (.ref f) = true
section
variable {P : Program} {w : World} {K : PySem.W.Frag} {mg : Str → Option Value} {base : Heap}
theorem Fun.ok {x qual : Str} {st : Stmt} {f : Addr} {fd : FuncData} {N ps : List Str} {k : Nat} {sp : Sp} (F : Fun K x qual st f fd) (S : FnScope N ps (defScope st)) (len : ∀ vs H Q E, sp vs H Q E → vs.length = ps.length)
    (hbody : ∀ (cdv : Value) (A : Around) (outer : List Env) (s : Shared) (H : Hp) (vs : List V) (Q : VK) (E : XK), Room k (A.deeper (envOfC qual (defScope st) s.heap.objs.size f cdv)) → sp vs H Q E →
      ∃ t, PSs (cxOf CX0 P w K mg base N qual (defScope st) f cdv A outer s H E).nox (defBody st) t ∧ t { nx := fun _ H' => Q .non H', rt := Q } (start N vs) H) : FnOk P w K mg base CX0 (k + 1) f fd ps sp := by
  obtain ⟨oc, od, kV, doc, pm, an, cdv, ct, osl, rfl, lk, hcd⟩ := F.ex
  refine fn_of lk hcd S len fun A outer s H vs Q E hr hsp => ?_
  obtain ⟨t, h, q⟩ := hbody cdv A outer s H vs Q E hr hsp
  exact ⟨t, h.nox, q⟩
theorem Fun.binds {x qual : Str} {st : Stmt} {f : Addr} {fd : FuncData} {ps : List Str} (F : Fun K x qual st f fd)
    (h : ∀ (kV doc pm : Value) (an : Option Addr) (cdv ct : Value) (us : List Value), us.length = ps.length → bindArgs (PySem.W.fnOf x qual (defArgs st) (defBody st) (defScope st) .none kV doc pm an cdv ct) ⟨us, []⟩ = pure (ps.zip us)) : Binds K fd ps [] := by
  obtain ⟨oc, od, kV, doc, pm, an, cdv, ct, osl, rfl, lk, hcd⟩ := F.ex
  exact .all (h kV doc pm an cdv ct)
theorem fun_mk {x qual : Str} {st : Stmt} {f : Addr} {oc : Value} {od an : Option Addr} {osl : Array (Option Value)} {kV doc pm cdv ct : Value} (l : K.lookup f = some ⟨oc, od, .func (PySem.W.fnOf x qual (defArgs st) (defBody st) (defScope st) .none kV doc pm an cdv ct), osl⟩)
    (c : PySem.W.codeIn K cdv qual = true) (k : PySem.W.keepIn K (.ref f) = true) : Fun K x qual st f (PySem.W.fnOf x qual (defArgs st) (defBody st) (defScope st) .none kV doc pm an cdv ct) := ⟨⟨oc, od, kV, doc, pm, an, cdv, ct, osl, rfl, l, c⟩, k⟩
end
theorem hu_of {A : Around} {k : Nat} (hr : Room k A) : A.units + 1 < cLine := Nat.lt_of_le_of_lt (Nat.add_le_add_left (by decide : 1 ≤ 64) _) hr.units
section
variable {X : Cx}
theorem pv (i : Nat) {x : Str} {pos : Pos} (hN : X.N[i]? = some x := by rfl) (hv : Vis X.env.scope x := by first | exact Or.inl rfl | exact Or.inr (Or.inl rfl) | exact Or.inr (Or.inr rfl)) (hd : (x == ("__debug__" : Str)) = false := by decide)
    (hcd : (x == ("__classdict__" : Str)) = false := by decide) : PE X (.Name x pos) (tVar i) := pe_var hN hv hd hcd
end
theorem iteF {A B : Prop} (h : B) : if false = true then A else B := by
  rw [if_neg Bool.false_ne_true]
  exact h
theorem iteT {A B : Prop} (h : A) : if true = true then A else B := by
  rw [if_pos rfl]
  exact h
theorem ite2 {c A B : Prop} [Decidable c] (h1 : c → A) (h2 : ¬ c → B) : if c then A else B := by
  by_cases h : c
  · rw [if_pos h]
    exact h1 h
  · rw [if_neg h]
    exact h2 h
def Same (H H' : Hp) : Prop := ∀ b o, H b = some o → H' b = some o
theorem Same.refl (H : Hp) : Same H H := fun _ _ h => h
theorem Same.trans {H H1 H2 : Hp} (a : Same H H1) (b : Same H1 H2) : Same H H2 := fun c o h => b c o (a c o h)
section
variable {κ : Type} [DecidableEq κ]
end
end L2
end
section
set_option autoImplicit false
namespace L2
open PySem PySem.Spec PyProof.Rows
def clo (cells : List (Str × Addr)) : List (Str × NameKind) → List (Str × Addr) → List (Str × Addr)
  | [], acc => acc
  | (n, k) :: r, acc => if k == .free then clo cells r ((n, (cells.lookup n).getD 0) :: acc) else clo cells r acc
theorem clo_of {cells : List (Str × Addr)} : ∀ {names : List (Str × NameKind)} {acc : List (Str × Addr)} {x : Str} {c : Addr}, (∀ y ∈ names, y.2 = .free → ∃ c, cells.lookup y.1 = some c) →
    (clo cells names acc).lookup x = some c → cells.lookup x = some c ∨ acc.lookup x = some c
  | [], acc, x, c, _, h => .inr h
  | (n, k) :: r, acc, x, c, ha, h => by
    have har : ∀ y ∈ r, y.2 = .free → ∃ c, cells.lookup y.1 = some c := fun y hy => ha y (List.mem_cons_of_mem _ hy)
    unfold clo at h
    by_cases hk : k = .free
    · subst hk
      rw [if_pos (by rfl)] at h
      rcases clo_of har h with q | q
      · exact .inl q
      · obtain ⟨c', e⟩ := ha (n, .free) List.mem_cons_self rfl
        rw [List.lookup_cons] at q
        cases hx : x == n with
        | true =>
          rw [hx] at q
          have hx' : x = n := by simpa using hx
          have e' : cells.lookup n = some c' := e
          rw [e'] at q
          rw [hx', e']
          exact .inl q
        | false =>
          rw [hx] at q
          exact .inr q
    · rw [if_neg (by simpa using hk)] at h
      exact clo_of har h
theorem clo_acc {cells : List (Str × Addr)} : ∀ {names : List (Str × NameKind)} {acc : List (Str × Addr)} {x : Str}, (∃ c, acc.lookup x = some c) → ∃ c, (clo cells names acc).lookup x = some c
  | [], _, _, h => h
  | (n, k) :: r, acc, x, h => by
    unfold clo
    split
    · refine clo_acc ?_
      rw [List.lookup_cons]
      cases hx : x == n with
      | true => exact ⟨_, rfl⟩
      | false => exact h
    · exact clo_acc h
theorem clo_has {cells : List (Str × Addr)} : ∀ {names : List (Str × NameKind)} {acc : List (Str × Addr)} {x : Str}, (x, NameKind.free) ∈ names → ∃ c, (clo cells names acc).lookup x = some c
  | [], _, _, h => by simp at h
  | (n, k) :: r, acc, x, h => by
    unfold clo
    rcases List.mem_cons.mp h with e | e
    · cases e
      rw [if_pos (by rfl)]
      exact clo_acc ⟨(cells.lookup n).getD 0, by simp [List.lookup_cons]⟩
    · split
      · exact clo_has e
      · exact clo_has e
theorem closure_go {env : Env} {scope : Scope}
    (ha : ∀ y ∈ scope.names, y.2 = .free → ∃ c, env.cells.lookup y.1 = some c) : closureFor scope env = pure (clo env.cells scope.names []) := by
  have go : ∀ (names : List (Str × NameKind)) (acc : List (Str × Addr)), (∀ y ∈ names, y.2 = .free → ∃ c, env.cells.lookup y.1 = some c) →
      (forIn names acc fun (x : Str × NameKind) (cs : List (Str × Addr)) => (do
        if x.2 == .free then
          let c ← cellOf env x.1
          pure (ForInStep.yield ((x.1, c) :: cs))
        else pure (ForInStep.yield cs) : Sem (ForInStep (List (Str × Addr))))) = pure (clo env.cells names acc) := by
    intro names
    induction names with
    | nil => intro acc _; rfl
    | cons y r ih =>
      intro acc h
      obtain ⟨n, k⟩ := y
      have hr : ∀ y ∈ r, y.2 = .free → ∃ c, env.cells.lookup y.1 = some c := fun y hy => h y (List.mem_cons_of_mem _ hy)
      rw [List.forIn_cons]
      unfold clo
      by_cases hk : k = .free
      · subst hk
        obtain ⟨c, e⟩ := h (n, .free) List.mem_cons_self rfl
        have e' : env.cells.lookup n = some c := e
        have hc : cellOf env n = pure c := by
          unfold cellOf
          rw [e']
        simp only [beq_self_eq_true, if_true, hc, pure_bind, e', Option.getD_some]
        exact ih _ hr
      · have hb : (k == NameKind.free) = false := by simpa using hk
        simp only [hb, Bool.false_eq_true, if_false, pure_bind]
        exact ih _ hr
  have q := go scope.names [] ha
  unfold closureFor
  simp only [bind_pure]
  exact q
theorem relabel_lookup {scope : Scope} {env : Env} {x : Str} : ∀ {names : List (Str × NameKind)},
    (names.map fun (n, k) => if (k == NameKind.free && env.scope.kind == .function && env.kindOf n == some .cell) then (n, NameKind.cell) else (n, k)).lookup x =
      (names.lookup x).map fun k => if (k == NameKind.free && env.scope.kind == .function && env.kindOf x == some .cell) then NameKind.cell else k
  | [] => rfl
  | (n, k) :: r => by
    have ih := @relabel_lookup scope env x r
    show List.lookup x ((if (k == NameKind.free && env.scope.kind == .function && env.kindOf n == some .cell) = true then (n, NameKind.cell) else (n, k)) :: _) = _
    cases hx : x == n with
    | true =>
      have hx' : x = n := by simpa using hx
      subst hx'
      by_cases hc : (k == NameKind.free && env.scope.kind == .function && env.kindOf x == some .cell) = true
      · rw [if_pos hc]
        simp only [List.lookup_cons, hx, Option.map_some, hc, if_true]
      · rw [if_neg hc]
        simp only [List.lookup_cons, hx, Option.map_some, if_neg hc]
    | false =>
      by_cases hc : (k == NameKind.free && env.scope.kind == .function && env.kindOf n == some .cell) = true
      · rw [if_pos hc]
        simp only [List.lookup_cons, hx]
        exact ih
      · rw [if_neg hc]
        simp only [List.lookup_cons, hx]
        exact ih
theorem cells_app : ∀ (names : List (Str × NameKind)) (n : Nat) (acc : List (Str × Addr)), cellsFrom n names acc = cellsFrom n names [] ++ acc
  | [], _, _ => rfl
  | (x, k) :: r, n, acc => by
    unfold cellsFrom
    split
    · rw [cells_app r (n + 1) ((x, n) :: acc), cells_app r (n + 1) [(x, n)], List.append_assoc]
      rfl
    · exact cells_app r n acc
theorem cells_mem : ∀ {names : List (Str × NameKind)} {n : Nat} {x : Str} {c : Addr}, (x, c) ∈ cellsFrom n names [] → (x, NameKind.cell) ∈ names ∧ n ≤ c
  | [], _, _, _, h => by cases h
  | (y, k) :: r, n, x, c, h => by
    unfold cellsFrom at h
    split at h
    · rename_i hk
      rw [cells_app] at h
      rcases List.mem_append.mp h with q | q
      · obtain ⟨h1, h2⟩ := cells_mem q
        exact ⟨List.mem_cons_of_mem _ h1, by omega⟩
      · cases List.mem_singleton.mp q
        have e : k = .cell := by simpa using hk
        rw [e]
        exact ⟨List.mem_cons_self, Nat.le_refl _⟩
    · obtain ⟨h1, h2⟩ := cells_mem h
      exact ⟨List.mem_cons_of_mem _ h1, h2⟩
theorem look_app {α : Type} {x : Str} : ∀ (l m : List (Str × α)), (l ++ m).lookup x = (l.lookup x).or (m.lookup x)
  | [], m => by simp
  | (k, v) :: r, m => by
    rw [List.cons_append, List.lookup_cons, List.lookup_cons]
    cases x == k with
    | true => rfl
    | false => exact look_app r m
theorem nd_kind : ∀ {names : List (Str × NameKind)} {x : Str} {k k' : NameKind}, (names.map (·.1)).Nodup → names.lookup x = some k → (x, k') ∈ names → k' = k
  | [], _, _, _, _, h, _ => by cases h
  | (y, j) :: r, x, k, k', hn, h, hm => by
    rw [List.map_cons] at hn
    obtain ⟨n1, n2⟩ := List.nodup_cons.mp hn
    rw [List.lookup_cons] at h
    rcases List.mem_cons.mp hm with e | e
    · cases e
      rw [show (y == y) = true by simp] at h
      exact Option.some.inj h
    · cases hx : x == y with
      | true =>
        have hx' : x = y := by simpa using hx
        subst hx'
        exact absurd (List.mem_map.mpr ⟨_, e, rfl⟩) n1
      | false =>
        rw [hx] at h
        exact nd_kind n2 h e
abbrev allC (C : Addr) (cells : List (Str × Addr)) (names : List (Str × NameKind)) : List (Str × Addr) := cellsFrom (C + 1) names (clo cells names [])
theorem allC_cases {C : Addr} {cells : List (Str × Addr)} {names : List (Str × NameKind)} {x : Str} {c : Addr} (h : (allC C cells names).lookup x = some c) :
    ((x, c) ∈ cellsFrom (C + 1) names [] ∧ (x, NameKind.cell) ∈ names ∧ C + 1 ≤ c) ∨ (clo cells names []).lookup x = some c := by
  unfold allC at h
  rw [cells_app, look_app] at h
  cases q : (cellsFrom (C + 1) names []).lookup x with
  | none =>
    rw [q] at h
    exact .inr h
  | some d =>
    rw [q] at h
    cases h
    have m := PySem.mem_of_lookup q
    exact .inl ⟨m, cells_mem m⟩
theorem allC_free {C : Addr} {cells : List (Str × Addr)} {names : List (Str × NameKind)} {x : Str} (hn : (names.map (·.1)).Nodup) (h : names.lookup x = some .free) : (allC C cells names).lookup x = (clo cells names []).lookup x := by
  unfold allC
  rw [cells_app, look_app]
  cases q : (cellsFrom (C + 1) names []).lookup x with
  | none => rfl
  | some d =>
    have m := (cells_mem (PySem.mem_of_lookup q)).1
    cases nd_kind hn h m
theorem newEnv_comp {M : Model} {A : Around} {E : Value → Shared → Prop} {s : Shared} {scope : Scope} {cl : List (Str × Addr)} {env : Env} {Q : Env → Shared → Prop}
    (hQ : ∀ h', h'.Ns s.heap.objs.size (fun _ => none) → (∀ b o, s.heap.get? b = some o → h'.get? b = some o) → CellsOk h' (s.heap.objs.size + 1) (cellsFrom (s.heap.objs.size + 1) scope.names []) →
      Q { scope := scope, locals := s.heap.objs.size, globals := env.globals, cells := cellsFrom (s.heap.objs.size + 1) scope.names cl, qual := env.qual, func := none, code := env.code, frame := env.frame, builtins := env.builtins } { s with heap := h' }) :
    wpAny M A (newFunctionEnv scope env.globals cl [] env.qual none .none (some env)) Q E s := by
  simp only [newFunctionEnv, Option.isSome_some, if_true]
  refine wpAny_bind (wpAny_alloc ?_)
  refine wpAny_bind (wpAny_layCells _ (fun name kind cells => by cases hkc : kind == NameKind.cell <;> simp [hkc]) _ _ _ _ ?_)
  have ok := cellsFrom_ok scope.names (s.heap.push { cls := .type "dict", data := .dict #[] }) (s.heap.objs.size + 1) [] ⟨fun _ _ hm => (nomatch hm), List.Pairwise.nil⟩ (by rw [Heap.size_push]; exact Nat.le_refl _)
  rw [Heap.size_push] at ok
  rw [show ({ s with heap := s.heap.push { cls := .type "dict", data := .dict #[] } } : Shared).heap.objs.size = s.heap.objs.size + 1 from Heap.size_push ..]
  refine wpAny_bind ?_
  rw [List.forIn_nil]
  exact wpAny_pure (wpAny_pure (hQ _ ((Heap.Ns.new s.heap (.type "dict")).keeps (pushCells_keeps _ _)) (fun b o e => pushCells_keeps _ _ b o (Heap.get?_push_of_some _ e)) ok))
def cxComp (X : Cx) (scope : Scope) (cl : List (Str × Addr)) (N : List Str) (C : Addr) (s₃ : Shared) (H₃ : Hp) (fp : List Addr) : Cx where
  prog := X.prog
  w := X.w
  K := X.K
  mg := X.mg
  base := X.base
  A := X.A
  N := N
  s₀ := s₃
  H₀ := H₃
  env := compEnvC scope cl C X.env
  outer := X.stack
  stack := X.stack
  ex := fp
  calm := X.calm
  fn := fun x => scope.names.lookup x == some .cell
  pn := []
  xe := fun _ _ => False
structure CompScope (X : Cx) (scope : Scope) (own : List Str) (fr : List Nat) (N : List Str) : Prop where
  kind : scope.kind = .function
  nodup : (scope.names.map (·.1)).Nodup
  names : ∀ y ∈ scope.names, y.2 = .local → scope.names.lookup y.1 = some .local
  free : ∀ y ∈ scope.names, y.2 = .free → X.env.kindOf y.1 = some .cell ∨ X.env.kindOf y.1 = some .free
  len : N.length = own.length + fr.length
  isfr : ∀ (j i : Nat), fr[j]? = some i → ∃ x, N[own.length + j]? = some x ∧ X.N[i]? = some x ∧ scope.names.lookup x = some .free
  frs : ∀ (j : Nat) (x : Str), N[j]? = some x → j < own.length → own[j]? = some x
def frv (σ : St) (fr : List Nat) : St := fr.map fun i => (σ[i]?).join
def PTs (X : Cx) (ifs : List Expr) (t : TT) : Prop :=
  ∀ (pins : List (Addr × Obj)) (s : Shared) (σ : St) (H : Hp) (Q : Bool → Hp → Prop), Inv X pins σ H s → t σ H Q →
    wpAny (model X.prog X.w) X.A (forIn ifs true fun c r => if r = true then do let ok ← isTrue c X.env (eval c X.env); pure (ForInStep.yield ok) else pure (ForInStep.yield r)) (TP X pins σ Q) X.xe s
def tYes : TT := fun _ H Q => Q true H
theorem pts_nil {X : Cx} : PTs X [] tYes := fun _ _ _ H _ I h => wpAny_tests_nil ⟨H, I, h⟩
theorem pts_one {X : Cx} {c : Expr} {t : TT} (h : PT X c t) : PTs X [c] t := fun pins s σ H Q I hq => wpAny_tests_one (h pins s σ H Q I hq)
theorem compLoop_any {prog : Program} {w : World} {A : Around} {R : Result → Shared → Prop} {s : Shared} {elt target iter : Expr} {ifs : List Expr} {scope : Scope} {pos : Pos} {it acc : Value} {env : Env} (I : Nat → Shared → Prop)
    (turn : ∀ n s, I n s → wpAny (model prog w) A (pyNext it) (fun r s₁ => match r with
      | none => R (.ok .next) s₁
      | some v => wpAny (model prog w) A (letOwnedTupleGo target it v) (fun _ s₁' => wpAny (model prog w) A (assign target env v) (fun _ s₂ =>
          wpAny (model prog w) A (forIn ifs true fun c r => if r = true then do let ok ← isTrue c env (eval c env); pure (ForInStep.yield ok) else pure (ForInStep.yield r)) (fun ok s₃ =>
            if ok = true then wpAny (model prog w) A (eval elt env) (fun x s₄ =>
              wpAny (model prog w) A (call (.builtin "list.append") [acc, x]) (fun _ s₅ => ∃ m, m < n ∧ I m s₅) (fun _ _ => False) s₄) (fun _ _ => False) s₃
            else ∃ m, m < n ∧ I m s₃) (fun _ _ => False) s₂) (fun _ _ => False) s₁') (fun _ _ => False) s₁) (fun _ _ => False) s)
    (n : Nat) (h : I n s) :
    codeAny (model prog w) A (.compLoop (.ListComp elt [⟨target, iter, ifs, 0⟩] scope pos) 0 it acc env) R s := by
  refine codeAny_loop rfl I (fun n s hI => ?_) n h
  show wpAny _ A ((compTurn (.ListComp elt [⟨target, iter, ifs, 0⟩] scope pos) 0 it acc env).onRaise (fun x => do noteFrame x env; theTreesLotGoes x)) _ _ s
  refine wpAny_noted ?_
  rw [compTurn_list]
  refine wpAny_bind (wpAny_standAt (wpAny_bind (wpAny_mono (turn n s hI) (fun r s₁ h₁ => ?_) fun _ _ h' => h'.elim)))
  cases r with
  | none => exact wpAny_pure h₁
  | some v =>
    refine wpAny_bind (wpAny_mono h₁ (fun _ s₁' h₁' => ?_) fun _ _ h' => h'.elim)
    refine wpAny_bind (wpAny_mono h₁' (fun _ s₂ h₂ => wpAny_bind (wpAny_mono h₂ (fun ok s₃ h₃ => ?_) fun _ _ h' => h'.elim)) fun _ _ h' => h'.elim)
    cases ok with
    | false => exact wpAny_pure ⟨rfl, h₃⟩
    | true =>
      exact wpAny_bind (wpAny_bind (wpAny_mono h₃ (fun x s₄ h₄ => wpAny_bind (wpAny_mono h₄ (fun _ s₅ h₅ => wpAny_pure (wpAny_pure ⟨rfl, h₅⟩)) fun _ _ h' => h'.elim)) fun _ _ h' => h'.elim))
section
variable {X : Cx} {scope : Scope} {own N : List Str} {fr : List Nat} {pins : List (Addr × Obj)} {σ : St} {H2 H3 : Hp} {s2 s3 : Shared}
theorem CompScope.clo (S : CompScope X scope own fr N) (ok : X.Ok) : ∀ y ∈ scope.names, y.2 = .free → ∃ c, X.env.cells.lookup y.1 = some c := fun y hy e => ok.has y.1 (S.free y hy e)
theorem CompScope.sub (S : CompScope X scope own fr N) (ok : X.Ok) {x : Str} {c : Addr} (h : (L2.clo X.env.cells scope.names []).lookup x = some c) : X.env.cells.lookup x = some c := by
  rcases clo_of (S.clo ok) h with q | q
  · exact q
  · simp at q
theorem CompScope.look (S : CompScope X scope own fr N) (ok : X.Ok) {x : Str} (h : scope.names.lookup x = some .free) {cl : List (Str × Addr)} {C : Addr} :
    (compEnvC scope cl C X.env).kindOf x = some .cell ∨ (compEnvC scope cl C X.env).kindOf x = some .free := by
  show ((relabel scope X.env).names.lookup x) = _ ∨ ((relabel scope X.env).names.lookup x) = _
  unfold relabel
  show List.lookup x (List.map _ _) = _ ∨ List.lookup x (List.map _ _) = _
  rw [relabel_lookup (scope := scope), h]
  simp only [Option.map_some]
  split
  · exact .inl rfl
  · exact .inr rfl
theorem comp_ok (S : CompScope X scope own fr N) (I : Inv X pins σ H3 s3) {fp : List Addr} (hf : ∀ b ∈ fp, FpOk X pins H3 b) (hlt : ∀ b ∈ fp, b < s3.heap.objs.size) :
    (cxComp X scope (allC s3.heap.objs.size X.env.cells scope.names) N s3.heap.objs.size s3 H3 fp).Ok where
  mod := I.ok.mod
  kind := S.kind
  glob := I.ok.glob
  blt := I.ok.blt
  above := Nat.le_refl _
  inj := fun x y c h1 h2 => by
    have old : ∀ {z : Str}, (L2.clo X.env.cells scope.names []).lookup z = some c → c < s3.heap.objs.size := fun {z} h => by
      obtain ⟨v, q⟩ := I.cell z c (S.sub I.ok h)
      exact q.lt
    have ap := (cellsFrom_ok scope.names (s3.heap.push { cls := .type "dict", data := .dict #[] }) (s3.heap.objs.size + 1) [] ⟨fun _ _ hm => (nomatch hm), List.Pairwise.nil⟩ (by rw [Heap.size_push]; exact Nat.le_refl _)).apart
    rw [Heap.size_push] at ap
    rcases allC_cases h1 with ⟨m1, _, l1⟩ | q1
    · rcases allC_cases h2 with ⟨m2, _, _⟩ | q2
      · exact name_of_addr ap m1 m2
      · exact absurd (Nat.lt_trans l1 (old q2)) (Nat.lt_irrefl _)
    · rcases allC_cases h2 with ⟨m2, _, l2⟩ | q2
      · exact absurd (Nat.lt_trans l2 (old q1)) (Nat.lt_irrefl _)
      · exact I.ok.inj x y c (S.sub I.ok q1) (S.sub I.ok q2)
  has := fun x hx => by
    have hx : (relabel scope X.env).names.lookup x = some .cell ∨ (relabel scope X.env).names.lookup x = some .free := hx
    unfold relabel at hx
    have hx : List.lookup x (scope.names.map _) = some NameKind.cell ∨ List.lookup x (scope.names.map _) = some NameKind.free := hx
    rw [relabel_lookup (scope := scope)] at hx
    cases e : scope.names.lookup x with
    | none => rw [e] at hx; simp at hx
    | some k =>
      have hm := PySem.mem_of_lookup e
      rw [e] at hx
      simp only [Option.map_some] at hx
      have hk : k = .free ∨ k = .cell := by
        by_cases hk : k = .free
        · exact .inl hk
        · have hb : (k == NameKind.free) = false := by simpa using hk
          simp only [hb, Bool.false_and, Bool.false_eq_true, if_false] at hx
          rcases hx with z | z
          · exact .inr (Option.some.inj z)
          · exact .inl (Option.some.inj z)
      rcases hk with hk | hk
      · subst hk
        obtain ⟨c, q⟩ := clo_has (cells := X.env.cells) (acc := []) hm
        exact ⟨c, (allC_free S.nodup e).trans q⟩
      · subst hk
        exact Option.isSome_iff_exists.mp (PySem.W.cellsFrom_some scope.names _ _ (.inl e))
  cab := fun x c h q => by
    have e : scope.names.lookup x = some .cell := beq_iff_eq.mp h
    show s3.heap.objs.size ≤ c
    have q' : (allC s3.heap.objs.size X.env.cells scope.names).lookup x = some c := q
    unfold allC at q'
    rw [cells_app, look_app] at q'
    obtain ⟨d, z⟩ := Option.isSome_iff_exists.mp (PySem.W.cellsFrom_some scope.names (s3.heap.objs.size + 1) [] (.inl e))
    rw [z] at q'
    cases q'
    have := (cells_mem (PySem.mem_of_lookup z)).2
    omega
  hd := I.ok.hd
  frames := I.ok.frames
  stk := .inl rfl
  exf := fun b hb => ⟨Nat.ne_of_lt (hlt b hb), fun x c e => by
    rcases allC_cases e with ⟨_, _, l⟩ | q
    · exact Nat.ne_of_gt (Nat.lt_trans (hlt b hb) l)
    · exact (hf b hb).2.2.2.2.1 x c (S.sub I.ok q)⟩
  bs := I.bs
  bsz := Nat.le_trans I.ok.bsz I.sz
  noex := fun b o e hb => by
    rcases (hf b hb).2.2.2.1 with z | z
    · exact I.ok.noex b o e z
    · exact absurd (Nat.lt_of_lt_of_le (Nat.lt_of_lt_of_le (Heap.lt_size e) I.ok.bsz) z) (Nat.lt_irrefl _)
  exfs := fun b hb hm => by
    rcases List.mem_cons.mp (I.stkSub b hm) with z | z
    · exact (hf b hb).2.1 z
    · exact (hf b hb).2.2.1 z
  funs := I.stack
  frf := I.stkFree
theorem comp_inv (S : CompScope X scope own fr N) (I : Inv X pins σ H3 s3) {fp : List Addr} (hf : ∀ b ∈ fp, FpOk X pins H3 b) (hlt : ∀ b ∈ fp, b < s3.heap.objs.size) {h1 : Heap} {t : Nat} {m : Str → Option Value}
    (hn : h1.Ns s3.heap.objs.size m) (hk : ∀ b o, s3.heap.get? b = some o → h1.get? b = some o) (hco : CellsOk h1 (s3.heap.objs.size + 1) (cellsFrom (s3.heap.objs.size + 1) scope.names [])) :
    Inv (cxComp X scope (allC s3.heap.objs.size X.env.cells scope.names) N s3.heap.objs.size s3 H3 fp) [] (List.replicate own.length none ++ frv σ fr) H3 { s3 with heap := h1, toks := t } where
  ok := comp_ok S I hf hlt
  os := rfl
  bare := I.bare
  base := Un.kept hk
  loc := by
    refine ⟨m, hn, fun j x v e1 e2 e3 => ?_⟩
    have e1 : N[j]? = some x := e1
    by_cases hj : j < own.length
    · rw [List.getElem?_append_left (by simpa using hj), List.getElem?_replicate] at e2
      split at e2 <;> cases e2
    · rw [List.getElem?_append_right (by simpa using hj), List.length_replicate] at e2
      unfold frv at e2
      rw [List.getElem?_map] at e2
      cases ef : fr[j - own.length]? with
      | none => rw [ef] at e2; cases e2
      | some i =>
        rw [ef] at e2
        obtain ⟨x', n1, n2, n3⟩ := S.isfr _ _ ef
        rw [show own.length + (j - own.length) = j by omega, e1] at n1
        cases n1
        have e4 : (σ[i]?).join = some v := by simpa using e2
        have e5 : σ[i]? = some (some v) := by
          cases q : σ[i]? with
          | none => rw [q] at e4; cases e4
          | some z => rw [q] at e4; have e4 : z = some v := e4; rw [e4]
        have hfree := S.free _ (PySem.mem_of_lookup n3) rfl
        obtain ⟨mX, hnX, hl⟩ := I.loc
        have hv : Vis X.env.scope x := by
          rcases hfree with z | z
          · exact .inr (.inl z)
          · exact .inr (.inr z)
        obtain ⟨u, r, l⟩ := hl i x v n2 e5 hv
        refine ⟨u, r, .inr ⟨S.look I.ok n3, ?_⟩⟩
        rcases l with ⟨z, _⟩ | ⟨_, c, ec, hc⟩
        · rcases hfree with y | y
          · rw [z] at y; cases y
          · rw [z] at y; cases y
        · obtain ⟨c', e'⟩ := clo_has (cells := X.env.cells) (acc := []) (PySem.mem_of_lookup n3)
          have := S.sub I.ok e'
          rw [ec] at this
          cases this
          exact ⟨c, (allC_free S.nodup n3).trans e', hc.keeps hk⟩
  cell := fun x c e => by
    rcases allC_cases e with ⟨mm, _, _⟩ | q
    · exact ⟨none, (hco.empty x c mm).1⟩
    · obtain ⟨v, z⟩ := I.cell x c (S.sub I.ok q)
      exact ⟨v, z.keeps hk⟩
  free := I.hok.fresh (Nat.le_refl _)
  freeC := fun x c e => by
    rcases allC_cases e with ⟨_, _, l⟩ | q
    · exact I.hok.fresh (Nat.le_of_lt l)
    · exact I.freeC x c (S.sub I.ok q)
  pin := fun p hp => by
    have hp : p ∈ ([] : List (Addr × Obj)) := hp
    simp at hp
  hok := I.hok.kept hk
  len := by
    show _ = N.length
    rw [S.len, List.length_append, List.length_replicate]
    unfold frv
    rw [List.length_map]
end
def CompB (own : Nat) (fr : List Nat) (g : TG) (tc : TT) (te : TE) (σ : St) (Q : VK) (J : It) (D : Addr) (H0 : Hp) : Prop := ∃ W : Nat → Nat → List V → Hp → Prop, (∃ m, W 0 m [] H0) ∧
  ∀ i m ys H, W i m ys H → (J.stop i H ∧ Q (.ref D) H) ∨ (J.go i H ∧ ∀ x H', J.yld i H x H' → ∀ σo : St, σo.length = own → g x (σo ++ frv σ fr) H' fun σ2 H2 => (∃ σo' : St, σo'.length = own ∧ σ2 = σo' ++ frv σ fr) ∧
    tc σ2 H2 fun b H3 => if b = true then te σ2 H3 fun y H4 => ys.length < sizeLine ∧ H4 D = some (.lst ys) ∧ ∃ m', m' < m ∧ W (i + 1) m' (ys ++ [y]) (upd H4 D (.lst (ys ++ [y]))) else ∃ m', m' < m ∧ W (i + 1) m' ys H3)
def tComp (own : Nat) (fr : List Nat) (wi : TI) (g : TG) (tc : TT) (te : TE) : TE := fun σ H Q => wi σ H fun J H1 => ∀ D, H1 D = none → CompB own fr g tc te σ Q J D (upd H1 D (.lst []))
structure CompParts (X : Cx) (scope : Scope) (N : List Str) (tg elt : Expr) (ifs : List Expr) (g : TG) (tc : TT) (te : TE) : Prop where
  tg : ∀ (cl : List (Str × Addr)) (C : Addr) (s₃ : Shared) (H₃ : Hp) (fp : List Addr), PG (cxComp X scope cl N C s₃ H₃ fp) tg g
  ifs : ∀ (cl : List (Str × Addr)) (C : Addr) (s₃ : Shared) (H₃ : Hp) (fp : List Addr), PTs (cxComp X scope cl N C s₃ H₃ fp) ifs tc
  elt : ∀ (cl : List (Str × Addr)) (C : Addr) (s₃ : Shared) (H₃ : Hp) (fp : List Addr), PE (cxComp X scope cl N C s₃ H₃ fp) elt te
section
variable {X : Cx} {scope : Scope} {own N : List Str} {fr : List Nat} {tg elt iter : Expr} {ifs : List Expr} {g : TG} {tc : TT} {te : TE} {wi : TI} {pos : Pos}
theorem comp_run (hc : X.calm = true) (S : CompScope X scope own fr N) (CP : CompParts X scope N tg elt ifs g tc te) {pins : List (Addr × Obj)} {σ : St} {H2 : Hp} {s2 : Shared} (I2 : Inv X pins σ H2 s2) {it : Addr} {fp : List Addr} {tn : Nat → Heap → Prop} {J : It}
    (T : Turn X.prog X.w X.K tg J fp it tn) (st2 : tn 0 s2.heap) (f2 : ∀ b ∈ fp, FpOk X pins H2 b) {Q : VK} {E : Value → Shared → Prop} {RR : Value → Addr → Result → Shared → Prop}
    (hw : ∀ D, H2 D = none → CompB own.length fr g tc te σ Q J D (upd H2 D (.lst [])))
    (hR : ∀ D C s' H' m, Inv X pins σ H' s' → FpOk X pins H' C → s'.heap.Ns C m → Q (.ref D) H' → RR (.ref D) C (.ok .next) s') :
    wpAny (model X.prog X.w) X.A (newList []) (fun acc s₃ => wpAny (model X.prog X.w) X.A (newFunctionEnv scope X.env.globals (clo X.env.cells scope.names []) [] X.env.qual none .none (some X.env)) (fun cenv s₄ =>
      codeAny (model X.prog X.w) X.A (.compStart (.ListComp elt [⟨tg, iter, ifs, 0⟩] scope pos) 0 (.ref it) acc { cenv with scope := relabel scope X.env }) (RR acc cenv.locals) s₄) E s₃) E s2 := by
  have hD : H2 s2.heap.objs.size = none := I2.hok.fresh (Nat.le_refl _)
  have I3 : Inv X pins σ (upd H2 s2.heap.objs.size (.lst [])) { s2 with heap := s2.heap.push { cls := .type "list", data := .seq ([] : List Value).toArray } } :=
    I2.lnew (t' := s2.toks) (ys := []) (its := []) .nil (Nat.zero_le _)
  have hltf : ∀ b ∈ fp, b < s2.heap.objs.size := fun b hb => by
    obtain ⟨o, e, _⟩ := T.obj _ _ st2 b hb
    exact Heap.lt_size e
  have f3 : ∀ b ∈ fp, FpOk X pins (upd H2 s2.heap.objs.size (.lst [])) b := fun b hb => ⟨by rw [upd_ne (Nat.ne_of_lt (hltf b hb))]; exact (f2 b hb).1, (f2 b hb).2⟩
  obtain ⟨W, ⟨m0, w0⟩, turn⟩ := hw _ hD
  refine wpAny_newObj_type (newEnv_comp fun h₁ hns₁ old₁ hco₁ => ?_)
  suffices main : ∀ s3 : Shared, s3 = { s2 with heap := s2.heap.push { cls := .type "list", data := .seq ([] : List Value).toArray } } → Inv X pins σ (upd H2 s2.heap.objs.size (.lst [])) s3 → ∀ m : Str → Option Value, h₁.Ns s3.heap.objs.size m →
      (∀ b o, s3.heap.get? b = some o → h₁.get? b = some o) → CellsOk h₁ (s3.heap.objs.size + 1) (cellsFrom (s3.heap.objs.size + 1) scope.names []) → codeAny (model X.prog X.w) X.A (.compStart (.ListComp elt [⟨tg, iter, ifs, 0⟩] scope pos) 0 (.ref it) (.ref s2.heap.objs.size) (compEnvC scope (allC s3.heap.objs.size X.env.cells scope.names) s3.heap.objs.size X.env))
        (RR (.ref s2.heap.objs.size) s3.heap.objs.size) { s3 with heap := h₁, toks := s3.toks } from
    main _ rfl I3 _ hns₁ old₁ hco₁
  clear hns₁ old₁ hco₁
  intro s3 hH3 I3 m3 hns₁ old hco
  have e3 : s3.heap = s2.heap.push { cls := .type "list", data := .seq ([] : List Value).toArray } := by rw [hH3]
  have hs3 : s2.heap.objs.size < s3.heap.objs.size := by rw [e3, Heap.size_push]; exact Nat.lt_succ_self _
  have hlt3 : ∀ b ∈ fp, b < s3.heap.objs.size := fun b hb => Nat.lt_trans (hltf b hb) hs3
  have I4 := comp_inv S I3 f3 hlt3 (t := s3.toks) hns₁ old hco
  have ok' := comp_ok S I3 f3 hlt3
  have st4 : tn 0 h₁ := T.keep 0 s2.heap h₁ st2 fun b hb o e => old b o (by rw [e3]; exact Heap.get?_push_of_some _ e)
  have stat : ∀ {H' : Hp}, (∀ b ∈ fp, H' b = none) → ∀ b ∈ fp, FpOk (cxComp X scope (allC s3.heap.objs.size X.env.cells scope.names) N s3.heap.objs.size s3 (upd H2 s2.heap.objs.size (.lst [])) fp) [] H' b := fun {H'} hn b hb =>
    ⟨hn b hb, Nat.ne_of_lt (hlt3 b hb), ok'.exfs b hb, .inl hb, (ok'.exf b hb).2, fun p hp => by
      have hp : p ∈ ([] : List (Addr × Obj)) := hp
      simp at hp⟩
  have loop : ∀ s₄ : Shared, s₄ = { s3 with heap := h₁, toks := s3.toks } →
      codeAny (model X.prog X.w) X.A (.compLoop (.ListComp elt [⟨tg, iter, ifs, 0⟩] scope pos) 0 (.ref it) (.ref s2.heap.objs.size) (compEnvC scope (allC s3.heap.objs.size X.env.cells scope.names) s3.heap.objs.size X.env))
        (RR (.ref s2.heap.objs.size) s3.heap.objs.size) s₄ := by
    rintro s₄ rfl
    refine compLoop_any (fun n s' => ∃ i ys σo H', σo.length = own.length ∧ Inv (cxComp X scope (allC s3.heap.objs.size X.env.cells scope.names) N s3.heap.objs.size s3 (upd H2 s2.heap.objs.size (.lst [])) fp) [] (σo ++ frv σ fr) H' s' ∧
      tn i s'.heap ∧ (∀ b ∈ fp, H' b = none) ∧ W i n ys H') ?_ m0 ⟨0, [], List.replicate own.length none, _, List.length_replicate, I4, st4, fun b hb => (f3 b hb).1, w0⟩
    rintro n s5 ⟨i, ys, σo, H5, hσ, I5, st5, fr5, w5⟩
    rcases turn i n ys H5 w5 with ⟨stop, qn⟩ | ⟨go, step⟩
    · refine thn (T.done (cxComp X scope (allC s3.heap.objs.size X.env.cells scope.names) N s3.heap.objs.size s3 (upd H2 s2.heap.objs.size (.lst [])) fp) rfl rfl rfl hc i [] s5 (σo ++ frv σ fr) H5 _ I5 (stat fr5) st5 stop) fun r s6 ⟨hr, I6⟩ => ?_
      subst hr
      obtain ⟨m, hn6, _⟩ := I6.loc
      refine hR _ _ s6 H5 m (I3.call' (ch := fp) I6.os I6.base I6.hok I6.bare fun b hb => ⟨(f3 b hb).2.2.2.1, (f3 b hb).2.1, (f3 b hb).2.2.2.2.1, (f3 b hb).2.2.2.2.2⟩) (I3.fpOk (Nat.le_refl _) I6.free) hn6 qn
    · refine thn (T.item (cxComp X scope (allC s3.heap.objs.size X.env.cells scope.names) N s3.heap.objs.size s3 (upd H2 s2.heap.objs.size (.lst [])) fp) rfl rfl rfl hc i [] s5 (σo ++ frv σ fr) H5 _ I5 (stat fr5) st5 go) fun r s6 ⟨u, hr, h6⟩ => ?_
      subst hr
      refine thn h6 fun _ s7 ⟨x, H7, I7, r7, y7, st7, fr7⟩ => ?_
      have I7' := I7.pinned (stat fr7) (T.obj _ _ st7)
      have again : ∀ {σ8 : St} {H8 : Hp} {s8 : Shared} {zs : List V}, Inv (cxComp X scope (allC s3.heap.objs.size X.env.cells scope.names) N s3.heap.objs.size s3 (upd H2 s2.heap.objs.size (.lst [])) fp) ([] ++ pinsAt fp s7.heap) (σ8 ++ frv σ fr) H8 s8 → σ8.length = own.length →
          (∃ m', m' < n ∧ W (i + 1) m' zs H8) → ∃ m, m < n ∧ ∃ i ys σo H', σo.length = own.length ∧ Inv (cxComp X scope (allC s3.heap.objs.size X.env.cells scope.names) N s3.heap.objs.size s3 (upd H2 s2.heap.objs.size (.lst [])) fp) [] (σo ++ frv σ fr) H' s8 ∧
            tn i s8.heap ∧ (∀ b ∈ fp, H' b = none) ∧ W i m ys H' := fun {σ8 H8 s8 zs} I8 h8 ⟨m', hm, w8⟩ => by
        refine ⟨m', hm, i + 1, zs, σ8, H8, h8, I8.unpinned, T.keep _ _ _ st7 fun b hb o e => (I8.pin (b, o) (List.mem_append_right _ (List.mem_append_right _ (mem_pinsAt hb e)))).1, fun b hb => ?_, w8⟩
        obtain ⟨o, e, d⟩ := T.obj _ _ st7 b hb
        exact (I8.pin (b, o) (List.mem_append_right _ (List.mem_append_right _ (mem_pinsAt hb e)))).2.1
      refine thn (CP.tg _ _ _ _ _ _ s7 _ H7 x u _ I7' r7 (step x H7 y7 σo hσ)) fun _ s8 ⟨σ8, H8, I8, ⟨σo', hσ', eσ⟩, q8⟩ => ?_
      subst eσ
      refine thn (CP.ifs _ _ _ _ _ _ s8 _ H8 _ I8 q8) fun b s9 ⟨H9, I9, q9⟩ => ?_
      cases b with
      | false =>
        rw [if_neg Bool.false_ne_true] at q9 ⊢
        exact again I9 hσ' q9
      | true =>
        rw [if_pos rfl] at q9 ⊢
        refine thn (CP.elt _ _ _ _ _ _ s9 _ H9 _ I9 q9) fun z s10 ⟨y, H10, I10, r10, hz, hD10, q10⟩ => ?_
        exact thn (mt_append _ s10 _ H10 (.ref s2.heap.objs.size) [y] (.ref s2.heap.objs.size) [z] (fun _ H => ∃ m', m' < n ∧ W (i + 1) m' (ys ++ [y]) H) I10 rfl (.cons r10 .nil) ⟨_, ys, y, rfl, rfl, hD10, hz, q10⟩)
          fun _ s11 ⟨_, H11, I11, _, q11⟩ => again I11 hσ' q11
  exact codeAny_compStart_list (loop _ rfl) (T.self _ 0 _ _ _ st4 (loop _ rfl))
theorem pe_comp (hc : X.calm = true) (S : CompScope X scope own fr N) (CP : CompParts X scope N tg elt ifs g tc te) (hi : PI X tg iter wi) (hs : ∀ x, foldedSetIterable iter X.env x = pure x := by intro _; rfl) :
    PE X (.ListComp elt [⟨tg, iter, ifs, 0⟩] scope pos) (tComp own.length fr wi g tc te) := by
  intro pins s σ H Q I h
  rw [eval_ListComp]
  refine wpAny_comprehension_free (use := none) (g := ⟨tg, iter, ifs, 0⟩) (gs := []) rfl hs (closure_go (S.clo I.ok)) S.kind S.names (thn (hi pins s σ H _ I h) fun v s1 h1 => thn h1 fun itv s2 h2 => ?_)
  obtain ⟨it, fp, tn, J, H2, e, I2, T, st2, f2, hw⟩ := h2
  subst e
  exact comp_run (RR := fun acc C => compPost (model X.prog X.w) X.A X.xe none (EP X pins σ Q) acc C) hc S CP I2 T st2 f2 hw fun D C s' H' m I' fC hn q =>
    ⟨m, hn, fun h' hb => ⟨.ref D, H', I'.turned (t' := s'.toks) (fun b o hne e => hb.extBut b o hne e) fC.1 fC.2.1 fC.2.2.2.1 fC.2.2.2.2.1 fC.2.2.2.2.2, rfl, q⟩⟩
theorem ps_setc {i : Nat} {x : Str} {posc pos' : Pos} (hc : X.calm = true) (hN : X.N.Nodup) (hi' : X.N[i]? = some x) (hx : Loc X.env.scope x) (S : CompScope X scope own fr N) (CP : CompParts X scope N tg elt ifs g tc te) (hi : PI X tg iter wi)
    (hsw : swapsWith (.ListComp elt [⟨tg, iter, ifs, 0⟩] scope posc) (some (.Name x pos')) pos.line X.env = pure true := by rfl)
    (hf : X.fn x = true ∨ X.env.scope.names.lookup x = some .local := by first | exact .inl rfl | exact .inr rfl | assumption) (hs : ∀ x, foldedSetIterable iter X.env x = pure x := by intro _; rfl) :
    PS X (.Assign [.Name x pos'] (.ListComp elt [⟨tg, iter, ifs, 0⟩] scope posc) pos) (tAsg (tComp own.length fr wi g tc te) (gName i)) := by
  intro pins s σ H D I h
  rw [exec_Assign_Name_used _ _ _ _ hsw]
  refine wpAny_bind (wpAny_standAt (wpAny_bind ?_))
  show wpAny _ X.A (do let _ ← comprehension (.ListComp elt [⟨tg, iter, ifs, 0⟩] scope posc) scope X.env _ (newList []) false (eval iter X.env) (some (assign (.Name x pos') X.env))) _ _ s
  refine wpAny_bind (wpAny_mono (wpAny_comprehension_free (use := some (assign (.Name x pos') X.env)) (g := ⟨tg, iter, ifs, 0⟩) (gs := []) (Q := fun _ s' => SP X pins D .next s') rfl hs (closure_go (S.clo I.ok)) S.kind S.names
    (thn (hi pins s σ H _ I h) fun v s1 h1 => thn h1 fun itv s2 h2 => ?_)) (fun _ _ q => wpAny_pure (wpAny_pure q)) fun _ _ e => e)
  obtain ⟨it, fp, tn, J, H2, e, I2, T, st2, f2, hw⟩ := h2
  subst e
  refine comp_run (Q := fun x H1 => gName i x σ H1 D.nx) (RR := fun acc C => compPost (model X.prog X.w) X.A X.xe (some (assign (.Name x pos') X.env)) (fun _ s' => SP X pins D .next s') acc C) hc S CP I2 T st2 f2 hw fun Dd C s' H' m I' fC hn q => ?_
  refine wpAny_assign_Name (store_ok2 I' hN hi' hx (show RelV (.ref Dd) (.ref Dd) from rfl) (fun s'' I'' ⟨a, hsb, ha⟩ => ?_) hf)
  have hCa : C ≠ a := by
    rcases ha with z | z
    · rw [z]; exact fC.2.1
    · exact fun e => fC.2.2.2.2.1 x a z e.symm
  refine ⟨m, hn.sameBut hsb hCa, fun h' hb => ?_⟩
  exact ⟨_, H', I''.turned (t' := s''.toks) (fun b o hne e => hb.extBut b o hne e) fC.1 fC.2.1 fC.2.2.2.1 fC.2.2.2.2.1 fC.2.2.2.2.2, q⟩
end
end L2
end
section
set_option autoImplicit false
namespace L2
open PySem PySem.Spec PyProof.Rows
inductive T where
  | non | int (i : Int) | str (x : Str) | tup (ts : List T)
mutual
def Dp (H : Hp) : T → V → Prop
  | .non, v => v = V.non
  | .int i, v => v = V.int i
  | .str x, v => v = V.str x
  | .tup ts, v => ∃ a xs, v = V.ref a ∧ H a = some (.tup xs) ∧ DpL H ts xs
def DpL (H : Hp) : List T → List V → Prop
  | [], xs => xs = []
  | t :: ts, xs => ∃ x r, xs = x :: r ∧ Dp H t x ∧ DpL H ts r
end
def Tups (H H' : Hp) : Prop := ∀ a xs, H a = some (.tup xs) → H' a = some (.tup xs)
theorem Tups.trans {H H1 H2 : Hp} (a : Tups H H1) (b : Tups H1 H2) : Tups H H2 := fun c o h => b c o (a c o h)
theorem Same.tups {H H' : Hp} (h : Same H H') : Tups H H' := fun a xs e => h a _ e
mutual
theorem Dp.mono {H H' : Hp} (h : Tups H H') : ∀ {t : T} {v : V}, Dp H t v → Dp H' t v
  | .non, _, e => by rw [Dp] at e ⊢; exact e
  | .int _, _, e => by rw [Dp] at e ⊢; exact e
  | .str _, _, e => by rw [Dp] at e ⊢; exact e
  | .tup ts, v, e => by
    rw [Dp] at e ⊢
    obtain ⟨a, xs, e, ha, hl⟩ := e
    exact ⟨a, xs, e, h a xs ha, DpL.mono h hl⟩
theorem DpL.mono {H H' : Hp} (h : Tups H H') : ∀ {ts : List T} {xs : List V}, DpL H ts xs → DpL H' ts xs
  | [], _, e => by rw [DpL] at e ⊢; exact e
  | t :: ts, xs, e => by
    rw [DpL] at e ⊢
    obtain ⟨x, r, e, h1, h2⟩ := e
    exact ⟨x, r, e, Dp.mono h h1, DpL.mono h h2⟩
end
theorem DpL.nil {H : Hp} : DpL H [] [] := by rw [DpL]
theorem DpL.cons {H : Hp} {t : T} {ts : List T} {x : V} {xs : List V} (h : Dp H t x) (r : DpL H ts xs) : DpL H (t :: ts) (x :: xs) := by
  rw [DpL]
  exact ⟨x, xs, rfl, h, r⟩
theorem DpL.cases {H : Hp} {t : T} {ts : List T} {xs : List V} (h : DpL H (t :: ts) xs) : ∃ x r, xs = x :: r ∧ Dp H t x ∧ DpL H ts r := by
  rw [DpL] at h
  exact h
theorem DpL.of_nil {H : Hp} {xs : List V} (h : DpL H [] xs) : xs = [] := by
  rw [DpL] at h
  exact h
theorem Dp.int {H : Hp} (i : Int) : Dp H (.int i) (.int i) := by rw [Dp]
theorem Dp.str {H : Hp} (x : Str) : Dp H (.str x) (.str x) := by rw [Dp]
theorem Dp.of_str {H : Hp} {x : Str} {v : V} (h : Dp H (.str x) v) : v = .str x := by
  rw [Dp] at h
  exact h
theorem Dp.of_tup {H : Hp} {ts : List T} {v : V} (h : Dp H (.tup ts) v) : ∃ a xs, v = V.ref a ∧ H a = some (.tup xs) ∧ DpL H ts xs := by
  rw [Dp] at h
  exact h
theorem Dp.tup {H : Hp} {ts : List T} {a : Addr} {xs : List V} (h : H a = some (.tup xs)) (r : DpL H ts xs) : Dp H (.tup ts) (.ref a) := by
  rw [Dp]
  exact ⟨a, xs, rfl, h, r⟩
theorem DpL.length {H : Hp} : ∀ {ts : List T} {xs : List V}, DpL H ts xs → xs.length = ts.length
  | [], xs, h => by rw [h.of_nil]; rfl
  | t :: ts, xs, h => by
    obtain ⟨x, r, rfl, _, h2⟩ := h.cases
    rw [List.length_cons, List.length_cons, h2.length]
theorem DpL.get {H : Hp} : ∀ {ts : List T} {xs : List V} {i : Nat} {t : T}, DpL H ts xs → ts[i]? = some t → ∃ x, xs[i]? = some x ∧ Dp H t x
  | [], _, _, _, _, e => by simp at e
  | t :: ts, xs, 0, t', h, e => by
    obtain ⟨x, r, rfl, h1, _⟩ := h.cases
    simp at e
    subst e
    exact ⟨x, rfl, h1⟩
  | t :: ts, xs, i + 1, t', h, e => by
    obtain ⟨x, r, rfl, _, h2⟩ := h.cases
    obtain ⟨y, e1, e2⟩ := h2.get (i := i) (t := t') (by simpa using e)
    exact ⟨y, by simpa using e1, e2⟩
theorem DpL.append {H : Hp} : ∀ {ts us : List T} {xs ys : List V}, DpL H ts xs → DpL H us ys → DpL H (ts ++ us) (xs ++ ys)
  | [], _, xs, _, h, g => by rw [h.of_nil]; exact g
  | t :: ts, us, xs, ys, h, g => by
    obtain ⟨x, r, rfl, h1, h2⟩ := h.cases
    exact .cons h1 (h2.append g)
theorem DpL.strs {H : Hp} : ∀ (ns : List Str), DpL H (ns.map T.str) (ns.map V.str)
  | [] => .nil
  | n :: ns => .cons (Dp.str n) (DpL.strs ns)
theorem DpL.of_strs {H : Hp} : ∀ {ns : List Str} {xs : List V}, DpL H (ns.map T.str) xs → xs = ns.map V.str
  | [], _, h => h.of_nil
  | n :: ns, xs, h => by
    obtain ⟨x, r, rfl, h1, h2⟩ := DpL.cases (t := T.str n) (ts := ns.map T.str) h
    rw [h1.of_str, DpL.of_strs h2]
    rfl
mutual
theorem Dp.fn {H : Hp} : ∀ {t t' : T} {v : V}, Dp H t v → Dp H t' v → t = t'
  | .non, t', v, h, g => by
    rw [Dp] at h
    subst h
    cases t' <;> rw [Dp] at g
    all_goals first | rfl | (cases g; done) | (obtain ⟨_, _, e, _⟩ := g; cases e)
  | .int i, t', v, h, g => by
    rw [Dp] at h
    subst h
    cases t' <;> rw [Dp] at g
    all_goals first | (cases g; rfl) | (cases g; done) | (obtain ⟨_, _, e, _⟩ := g; cases e)
  | .str i, t', v, h, g => by
    rw [Dp] at h
    subst h
    cases t' <;> rw [Dp] at g
    all_goals first | (cases g; rfl) | (cases g; done) | (obtain ⟨_, _, e, _⟩ := g; cases e)
  | .tup ts, t', v, h, g => by
    obtain ⟨a, xs, rfl, ha, hl⟩ := h.of_tup
    cases t' with
    | tup us =>
      obtain ⟨b, ys, e, hb, gl⟩ := g.of_tup
      cases e
      rw [ha] at hb
      cases hb
      rw [DpL.fn hl gl]
    | _ => rw [Dp] at g; cases g
theorem DpL.fn {H : Hp} : ∀ {ts us : List T} {xs : List V}, DpL H ts xs → DpL H us xs → ts = us
  | [], us, xs, h, g => by
    have e := h.of_nil
    subst e
    cases us with
    | nil => rfl
    | cons u us =>
      obtain ⟨_, _, e, _⟩ := g.cases
      cases e
  | t :: ts, us, xs, h, g => by
    obtain ⟨x, r, rfl, h1, h2⟩ := h.cases
    cases us with
    | nil =>
      have e := g.of_nil
      cases e
    | cons u us =>
      obtain ⟨_, _, e, g1, g2⟩ := g.cases
      cases e
      rw [Dp.fn h1 g1, DpL.fn h2 g2]
end
def Lv : Nat → T → Prop
  | _, .non => True
  | _, .int _ => True
  | _, .str _ => True
  | 0, .tup _ => False
  | n + 1, .tup ts => ∀ t ∈ ts, Lv n t
noncomputable def dcd (p : Prop) : Bool := @decide p (Classical.propDecidable p)
theorem dcd_t {p : Prop} (h : p) : dcd p = true := @decide_eq_true p (Classical.propDecidable p) h
theorem dcd_f {p : Prop} (h : ¬ p) : dcd p = false := @decide_eq_false p (Classical.propDecidable p) h
theorem dcd_iff {p : Prop} : dcd p = true ↔ p := ⟨fun h => @of_decide_eq_true p (Classical.propDecidable p) h, dcd_t⟩
theorem dcd_eq {p q : Prop} (h : p ↔ q) : dcd p = dcd q := by rw [propext h]
theorem dcd_of {p : Prop} {b : Bool} (h : b = true ↔ p) : b = dcd p := by
  by_cases hp : p
  · rw [dcd_t hp]
    exact h.mpr hp
  · rw [dcd_f hp]
    cases b with
    | false => rfl
    | true => exact absurd (h.mp rfl) hp
section
variable {X : Cx} {pins : List (Addr × Obj)} {σ : St} {H : Hp} {s : Shared}
theorem tup_at (I : Inv X pins σ H s) {a : Addr} {xs : List V} (h : H a = some (.tup xs)) : ∃ its : List Value, Vals xs its ∧ s.heap.IsTuple a its.toArray := by
  obtain ⟨its, r, p, _⟩ := I.tuple (SqT.of h)
  exact ⟨its, r, p⟩
theorem eqAt_T (I : Inv X pins σ H s) : ∀ (n : Nat) (A : Around) (t1 t2 : T) (v1 v2 : V) (u1 u2 : Value), Lv n t1 → A.units + n < cLine → Dp H t1 v1 → Dp H t2 v2 → RelV v1 u1 → RelV v2 u2 → SeqAt.EqAt A s u1 u2 (dcd (t1 = t2)) := by
  have flat : ∀ (A : Around) (t1 t2 : T) (v1 v2 : V) (u1 u2 : Value), flatV v1 = true → flatV v2 = true → Dp H t1 v1 → Dp H t2 v2 → RelV v1 u1 → RelV v2 u2 → eqV v1 v2 = dcd (t1 = t2) → SeqAt.EqAt A s u1 u2 (dcd (t1 = t2)) :=
    fun A t1 t2 v1 v2 u1 u2 f1 f2 _ _ r1 r2 e => by
      rw [← e]
      exact eqAt_V r1 r2 f1 f2
  intro n
  induction n with
  | zero =>
    intro A t1 t2 v1 v2 u1 u2 hn hu d1 d2 r1 r2
    have hu0 : A.units < cLine := by omega
    cases t1 with
    | tup ts => exact (show False from hn).elim
    | non =>
      rw [Dp] at d1
      subst d1
      cases t2 with
      | tup us =>
        obtain ⟨b, ys, rfl, hb, _⟩ := d2.of_tup
        obtain ⟨its, r, p⟩ := tup_at I hb
        cases r1
        cases r2
        rw [dcd_f (by intro h; cases h)]
        exact SeqAt.EqAt.none_tuple p hu0
      | non => rw [Dp] at d2; subst d2; exact flat A _ _ _ _ _ _ rfl rfl (by rw [Dp]) (by rw [Dp]) r1 r2 (dcd_t rfl).symm
      | int j => rw [Dp] at d2; subst d2; exact flat A _ _ _ _ _ _ rfl rfl (by rw [Dp]) (by rw [Dp]) r1 r2 (dcd_f (by intro h; cases h)).symm
      | str j => rw [Dp] at d2; subst d2; exact flat A _ _ _ _ _ _ rfl rfl (by rw [Dp]) (by rw [Dp]) r1 r2 (dcd_f (by intro h; cases h)).symm
    | int i =>
      rw [Dp] at d1
      subst d1
      cases t2 with
      | tup us =>
        obtain ⟨b, ys, rfl, hb, _⟩ := d2.of_tup
        obtain ⟨its, r, p⟩ := tup_at I hb
        obtain ⟨t, rfl⟩ := r1
        cases r2
        rw [dcd_f (by intro h; cases h)]
        exact SeqAt.EqAt.int_tuple i t p hu0
      | non => rw [Dp] at d2; subst d2; exact flat A _ _ _ _ _ _ rfl rfl (by rw [Dp]) (by rw [Dp]) r1 r2 (dcd_f (by intro h; cases h)).symm
      | int j =>
        rw [Dp] at d2
        subst d2
        exact flat A _ _ _ _ _ _ rfl rfl (by rw [Dp]) (by rw [Dp]) r1 r2 (dcd_of (by show (i == j) = true ↔ _; rw [beq_iff_eq]; exact ⟨fun h => by rw [h], fun h => by cases h; rfl⟩))
      | str j => rw [Dp] at d2; subst d2; exact flat A _ _ _ _ _ _ rfl rfl (by rw [Dp]) (by rw [Dp]) r1 r2 (dcd_f (by intro h; cases h)).symm
    | str i =>
      rw [Dp] at d1
      subst d1
      cases t2 with
      | tup us =>
        obtain ⟨b, ys, rfl, hb, _⟩ := d2.of_tup
        obtain ⟨its, r, p⟩ := tup_at I hb
        obtain ⟨t, rfl⟩ := r1
        cases r2
        rw [dcd_f (by intro h; cases h)]
        exact SeqAt.EqAt.str_tuple i t p hu0
      | non => rw [Dp] at d2; subst d2; exact flat A _ _ _ _ _ _ rfl rfl (by rw [Dp]) (by rw [Dp]) r1 r2 (dcd_f (by intro h; cases h)).symm
      | int j => rw [Dp] at d2; subst d2; exact flat A _ _ _ _ _ _ rfl rfl (by rw [Dp]) (by rw [Dp]) r1 r2 (dcd_f (by intro h; cases h)).symm
      | str j =>
        rw [Dp] at d2
        subst d2
        exact flat A _ _ _ _ _ _ rfl rfl (by rw [Dp]) (by rw [Dp]) r1 r2 (dcd_of (by show (i == j) = true ↔ _; rw [beq_iff_eq]; exact ⟨fun h => by rw [h], fun h => by cases h; rfl⟩))
  | succ n ih =>
    intro A t1 t2 v1 v2 u1 u2 hn hu d1 d2 r1 r2
    cases t1 with
    | non => exact (ih A .non t2 v1 v2 u1 u2 (by cases n <;> trivial) (by omega) d1 d2 r1 r2)
    | int i => exact (ih A (.int i) t2 v1 v2 u1 u2 (by cases n <;> trivial) (by omega) d1 d2 r1 r2)
    | str i => exact (ih A (.str i) t2 v1 v2 u1 u2 (by cases n <;> trivial) (by omega) d1 d2 r1 r2)
    | tup ts =>
      have hn : ∀ t ∈ ts, Lv n t := hn
      have hu0 : A.units < cLine := by omega
      obtain ⟨a, xs, rfl, ha, hl⟩ := d1.of_tup
      obtain ⟨its, r, p⟩ := tup_at I ha
      cases r1
      cases t2 with
      | non =>
        rw [Dp] at d2
        subst d2
        cases r2
        rw [dcd_f (by intro h; cases h)]
        exact SeqAt.EqAt.tuple_none p hu0
      | int j =>
        rw [Dp] at d2
        subst d2
        obtain ⟨t, rfl⟩ := r2
        rw [dcd_f (by intro h; cases h)]
        exact SeqAt.EqAt.tuple_int j t p hu0
      | str j =>
        rw [Dp] at d2
        subst d2
        obtain ⟨t, rfl⟩ := r2
        rw [dcd_f (by intro h; cases h)]
        exact SeqAt.EqAt.tuple_str j t p hu0
      | tup us =>
        obtain ⟨b, ys, rfl, hb, gl⟩ := d2.of_tup
        obtain ⟨its2, q, p2⟩ := tup_at I hb
        cases r2
        by_cases hab : a = b
        · subst hab
          rw [ha] at hb
          cases hb
          rw [dcd_t (by rw [DpL.fn hl gl])]
          exact SeqAt.EqAt.same _
        · have l1 : its.toArray.size = ts.length := by rw [List.size_toArray, ← r.length, hl.length]
          have l2 : its2.toArray.size = us.length := by rw [List.size_toArray, ← q.length, gl.length]
          have key := SeqAt.RcAt.tuples (A := A) (s := s) (e := fun j => dcd (ts[j]? = us[j]?)) p p2 hu0 (fun j h1 h2 => by
            have j1 : j < ts.length := by omega
            have j2 : j < us.length := by omega
            have e1 : ts[j]? = some ts[j] := List.getElem?_eq_getElem j1
            have e2 : us[j]? = some us[j] := List.getElem?_eq_getElem j2
            obtain ⟨x1, f1, g1⟩ := hl.get e1
            obtain ⟨x2, f2, g2⟩ := gl.get e2
            obtain ⟨w1, k1, m1⟩ := r.get f1
            obtain ⟨w2, k2, m2⟩ := q.get f2
            have n1 : its.toArray[j] = w1 := by
              have : its.toArray[j]? = some w1 := by simpa using k1
              rw [Array.getElem?_eq_getElem h1] at this
              exact Option.some.inj this
            have n2 : its2.toArray[j] = w2 := by
              have : its2.toArray[j]? = some w2 := by simpa using k2
              rw [Array.getElem?_eq_getElem h2] at this
              exact Option.some.inj this
            rw [n1, n2]
            have := ih A.in1 ts[j] us[j] x1 x2 w1 w2 (hn _ (List.getElem_mem j1)) (by show A.units + 1 + n < cLine; omega) g1 g2 m1 m2
            rw [show dcd (ts[j]? = us[j]?) = dcd (ts[j] = us[j]) from dcd_eq (by rw [e1, e2]; exact ⟨fun h => Option.some.inj h, fun h => by rw [h]⟩)]
            exact this)
          have fin := SeqAt.EqAt.of_refs hab key
          have ee : ((List.range (min its.toArray.size its2.toArray.size)).all (fun j => dcd (ts[j]? = us[j]?)) && its.toArray.size == its2.toArray.size) = dcd (T.tup ts = T.tup us) := by
            refine dcd_of ?_
            rw [l1, l2, Bool.and_eq_true, List.all_eq_true, beq_iff_eq]
            constructor
            · rintro ⟨h1, h2⟩
              have : ts = us := by
                apply List.ext_getElem?
                intro j
                by_cases hj : j < ts.length
                · exact dcd_iff.mp (h1 j (List.mem_range.mpr (by omega)))
                · rw [List.getElem?_eq_none (by omega), List.getElem?_eq_none (by omega)]
              rw [this]
            · intro h
              cases h
              exact ⟨fun j _ => dcd_t rfl, rfl⟩
          rw [ee] at fin
          exact fin
noncomputable def isT (H : Hp) (t : T) (u : Value) : Bool := dcd (∃ v, RelV v u ∧ Dp H t v)
theorem isT_of {t t' : T} {v : V} {u : Value} (r : RelV v u) (d : Dp H t' v) : isT H t u = dcd (t' = t) := by
  refine dcd_eq ⟨?_, ?_⟩
  · rintro ⟨v', r', d'⟩
    rw [r'.inj r] at d'
    exact (d'.fn d).symm
  · intro h
    subst h
    exact ⟨v, r, d⟩
theorem items_T : ∀ {ts : List T} {xs : List V} {us : List Value}, DpL H ts xs → Vals xs us → ∀ u ∈ us, ∃ t ∈ ts, ∃ v, RelV v u ∧ Dp H t v
  | [], xs, us, h, r => by
    have e := h.of_nil
    subst e
    cases r
    exact fun u hu => by cases hu
  | t :: ts, xs, us, h, r => by
    obtain ⟨x, xr, rfl, h1, h2⟩ := h.cases
    cases r with
    | cons r1 r2 =>
      intro u hu
      rcases List.mem_cons.mp hu with e | e
      · rw [e]
        exact ⟨t, List.mem_cons_self, x, r1, h1⟩
      · obtain ⟨t', m, z⟩ := items_T h2 r2 u e
        exact ⟨t', List.mem_cons_of_mem _ m, z⟩
end
section
variable {X : Cx}
end
end L2
end
section
set_option autoImplicit false
namespace L2
open PySem PySem.Spec PyProof.Rows
section
variable {X : Cx}
def rSlS : V → Option Int → Option Int → Hp → VK → Prop := fun x lo hi H Q => ∃ z, x = .str z ∧ z.length ≤ sizeLine ∧ Q (.str (Txt.slice z lo hi)) H
theorem sl_str : SlR X rSlS := by
  intro pins s σ H x v vl vu lo hi sl Q I rx hs pl pu h
  obtain ⟨z, rfl, hz, q⟩ := h
  obtain ⟨t, rfl⟩ := rx
  obtain ⟨o, ho, hc, hd⟩ := hs
  have fin : ∀ (t' : Tok) (k : Nat), EP X pins σ Q (.str (Txt.slice z lo hi) t') { s with toks := k } := fun t' k => ⟨.str _, H, I.tok k, ⟨_, rfl⟩, q⟩
  refine ⟨"str", _, F.slot_str_getitem.lookup, typeIs_str _ _ _, ?_⟩
  cases pl with
  | none =>
    cases pu with
    | none => exact wpAny_getItem_str_slice (l := none) (u := none) (st := none) ⟨o, ho, hc, hd⟩ rfl (post_val_or_str ⟨Nat.le_trans (Txt.slice_le z _ _) hz, fin⟩)
    | int j uj => exact wpAny_getItem_str_slice (l := none) (u := some (j, uj)) (st := none) ⟨o, ho, hc, hd⟩ rfl (post_val_or_str ⟨Nat.le_trans (Txt.slice_le z _ _) hz, fin⟩)
  | int i ui =>
    cases pu with
    | none => exact wpAny_getItem_str_slice (l := some (i, ui)) (u := none) (st := none) ⟨o, ho, hc, hd⟩ rfl (post_val_or_str ⟨Nat.le_trans (Txt.slice_le z _ _) hz, fin⟩)
    | int j uj => exact wpAny_getItem_str_slice (l := some (i, ui)) (u := some (j, uj)) (st := none) ⟨o, ho, hc, hd⟩ rfl (post_val_or_str ⟨Nat.le_trans (Txt.slice_le z _ _) hz, fin⟩)
def tSlK (K : PySem.W.Frag) (te tk : TE) : TE := fun σ H Q => te σ H fun x H1 => tk σ H1 fun y H2 => ∃ a xs i, x = .ref a ∧ y = .int i ∧ SqL K H2 a xs ∧
  ((i = 1 ∧ ∀ p, H2 p = none → Q (.ref p) (upd H2 p (.lst xs))) ∨ (i = -1 ∧ ∀ p, H2 p = none → Q (.ref p) (upd H2 p (.lst xs.reverse))))
theorem pick_one (its : List Value) : slicePick its.toArray none none (some 1) = its.toArray := by
  have e : slicePick its.toArray none none (some 1) = slicePick its.toArray none none none := rfl
  rw [e, slicePick_cut]
  simp [HT.sIx]
theorem pe_slK {e k : Expr} {te tk : TE} {pos p2 : Pos} (he : PE X e te) (hk : PE X k tk) : PE X (.Subscript e (.Slice none none (some k) p2) pos) (tSlK X.K te tk) := by
  intro pins s σ H Q I h
  refine Subscript_ (thn (he pins s σ H _ I h) fun v s1 ⟨x, H1, I1, r1, q1⟩ => ?_)
  refine wpAny_Slice ?_
  rw [evalPart_none]
  refine wpAny_pure ?_
  refine wpAny_pure ?_
  rw [evalPart_some]
  refine thn (hk pins s1 σ H1 _ I1 q1) fun vk s3 ⟨y, H3, I3, r3, q3⟩ => ?_
  obtain ⟨a, xs, i, rfl, rfl, hq, q⟩ := q3
  cases r1
  obtain ⟨t, rfl⟩ := r3
  have I4 : Inv X pins σ H3 { s3 with heap := s3.heap.push { cls := .type "slice", data := .fields #[.none, .none, .int i t] } } := I3.kept (t' := s3.toks) fun b ob q => Heap.get?_push_of_some _ q
  obtain ⟨its, r, ht, hz⟩ := I4.list hq
  have hlen : its.toArray.size = xs.length := by rw [List.size_toArray]; exact r.length.symm
  show wpAny (model X.prog X.w) X.A (subscriptTail e (.Slice none none (some k) p2) (.ref a) (.ref s3.heap.objs.size)) (EP X pins σ Q) X.xe { s3 with heap := s3.heap.push { cls := .type "slice", data := .fields #[.none, .none, .int i t] } }
  have fin : ∀ ys : List V, ys.length ≤ sizeLine → ∀ jts : List Value, Vals ys jts → (∀ p, H3 p = none → Q (.ref p) (upd H3 p (.lst ys))) →
      EP X pins σ Q (.ref (s3.heap.push { cls := .type "slice", data := .fields #[.none, .none, .int i t] }).objs.size)
        { s3 with heap := (s3.heap.push { cls := .type "slice", data := .fields #[.none, .none, .int i t] }).push { cls := .type "list", data := .seq jts.toArray } } := fun ys hy jts rj hQ =>
    ⟨.ref _, _, I4.lnew (t' := s3.toks) rj hy, rfl, hQ _ I4.fresh⟩
  rcases q with ⟨rfl, q⟩ | ⟨rfl, q⟩
  · refine tail_any (ops := [.ref a, .ref s3.heap.objs.size]) ht.isList.typeIs slot_list_getitem.lookup (wpAny_getItem_list_slice ht.isList (Heap.IsSliceOf.new ..) .none .none (.int 1 t) (by decide) ?_ (by rw [hlen]; exact hz)) (by with_unfolding_all rfl)
    rw [pick_one]
    exact fin xs hz its r q
  · refine tail_any (ops := [.ref a, .ref s3.heap.objs.size]) ht.isList.typeIs slot_list_getitem.lookup (wpAny_getItem_list_slice ht.isList (Heap.IsSliceOf.new ..) .none .none (.int (-1) t) (by decide) ?_ (by rw [hlen]; exact hz)) (by with_unfolding_all rfl)
    rw [PySem.W.krv_pick, List.toList_toArray]
    exact fin xs.reverse (by rw [List.length_reverse]; exact hz) its.reverse r.reverse q
end
end L2
end
section
set_option autoImplicit false
namespace L2
open PySem PySem.Spec PyProof.Rows
open AutoSeq1 (wpAny_loadPart') in
open MeetsSeq MeetsSeq2 MeetsSeq3 SeqRoads2 SeqAt in
theorem tupIndex (l : Addr) (items : Array Value) (n : Nat) (dd : Option Addr) (sl : Array (Option Value)) (x : Value) (e : Value → Bool) (j : Nat) (hj : j < items.size) (hit : e items[j] = true) (hno : ∀ m (hm : m < items.size), m < j → e items[m] = false) :
    Meets (Builtin.«tuple.index» ⟨[.ref l, x], []⟩) (fun A R s => s.heap.get? l = some { cls := .type "tuple", dict := dd, data := .seq items n, slots := sl } ∧ (∀ y, y ∈ items → EqAt A.in1 s y x (e y)) ∧ R (.ok (.ret (.int j s.toks))) { s with toks := s.toks + 1 }) :=
  .of_wp fun prog w A R s h => by
    obtain ⟨hp, g, d, tk, os⟩ := s
    obtain ⟨hl, he, h⟩ := h
    unfold Builtin.«tuple.index»
    simp only [Std.Legacy.Range.forIn_eq_forIn_range', Std.Legacy.Range.size]
    have hmin : (min items.size items.size - 0 + 1 - 1) / 1 = items.size := by simp
    wp_walk using wpAny_loadPart' hl
    rw [hmin]
    change wpAny _ _ (forIn (List.range' 0 items.size) (none, ()) _) _ _ _
    refine wpAny_forIn_list _ (fun rest b s' => b.1 = none ∧ s' = ⟨hp, g, d, tk, os⟩ ∧ ∃ i, i ≤ j ∧ rest = (List.range' 0 items.size).drop i) _ ?_ ?_ (List.range' 0 items.size) (none, ()) ⟨rfl, rfl, 0, Nat.zero_le _, by simp⟩
    · rintro i rest b s' ⟨hb, rfl, k, hk, hr⟩
      have hkl : k < items.size := by omega
      have e0 : (List.range' 0 items.size).drop k = k :: (List.range' 0 items.size).drop (k + 1) := by
        rw [List.drop_eq_getElem_cons (by simpa using hkl)]
        simp
      rw [e0] at hr
      injection hr with h1 h2
      subst h1
      have hi : items[i]? = some items[i] := by simp [hkl]
      rw [hi]
      refine wpAny_bind (he _ (Array.getElem_mem hkl) prog w _ _ ?_)
      by_cases hij : i = j
      · subst hij
        rw [hit]
        wp_walk
        exact ⟨_, rfl, h⟩
      · rw [hno i hkl (by omega)]
        wp_walk
        exact ⟨rfl, rfl, i + 1, by omega, h2⟩
    · rintro b s' ⟨hb, rfl, k, hk, hr⟩
      exfalso
      have : ((List.range' 0 items.size).drop k).length = 0 := by rw [← hr]; rfl
      simp at this
      omega
section
variable {prog : Program} {w : World} {A : Around} {E : Value → Shared → Prop} {s : Shared}
theorem nextT_item {it t : Addr} {i : Nat} {items : Array Value} {x : Value} {Q : Value → Shared → Prop} (hit : s.heap.IsTupleIter it t i) (ht : s.heap.IsTuple t items) (hx : items[i]? = some x)
    (hQ : ∀ h', h'.IsTupleIter it t (i + 1) → Heap.SameBut it s.heap h' → Q x { s with heap := h' }) : wpAny (model prog w) A (Builtin.SmallTypes.nextOf (.ref it)) Q E s := by
  obtain ⟨ob, e1, e2, e3⟩ := id hit
  obtain ⟨ot, g1, _, nn, g2⟩ := ht
  unfold Builtin.SmallTypes.nextOf
  refine wpAny_bind (wpAny_callSpecial?_slot (name := Str.ofString "__next__") hit.typeIs F.slot_tuple_iterator_next (wpAny_call_entry F.slot_tuple_iterator_next hit.typeIs F.entry_tuple_iterator_next ?_ (F.args_tuple_iterator_next_1 _)))
  show wpAny _ _ (field (.ref it) 0 >>= _) _ _ s; refine wpAny_bind (wpAny_field e1 e3 (x := .ref t) rfl ?_)
  show wpAny _ _ (if (Value.ref t == Value.none) = true then _ else _) _ _ s; rw [if_neg (show ¬ ((Value.ref t == Value.none) = true) from Bool.false_ne_true)]
  show wpAny _ _ (field (.ref it) 1 >>= _) _ _ s; refine wpAny_bind (wpAny_field e1 e3 (x := .int i 0) rfl ?_)
  show wpAny _ _ (seqItems? (.ref t) >>= _) _ _ s; refine wpAny_bind (wpAny_seqItems g1 g2 ?_)
  simp only [Int.toNat_natCast, hx]
  refine wpAny_bind (wpAny_setField e1 e3 (by simp) (wpAny_pure ⟨x, rfl, wpAny_pure (hQ _ ⟨_, Heap.get?_update_self _ e1 (Obj.isFreed_of_fields (Obj.data_mapFields e3 _)), (Obj.cls_mapFields ..).trans e2, ?_⟩ (Heap.SameBut.update ..))⟩))
  rw [Obj.data_mapFields e3]; simp [rawInt]
theorem nextT_end {it t : Addr} {i : Nat} {items : Array Value} {Q : Value → Shared → Prop} (hh : A.handled = none) (hit : s.heap.IsTupleIter it t i) (ht : s.heap.IsTuple t items) (hx : items[i]? = none)
    (hE : ∀ h' e, Heap.ExtBut it s.heap h' → (∃ o, h'.get? e = some o ∧ o.cls = .type "StopIteration") → E (.ref e) { s with heap := h' }) : wpAny (model prog w) A (Builtin.SmallTypes.nextOf (.ref it)) Q E s := by
  obtain ⟨ob, e1, e2, e3⟩ := id hit
  obtain ⟨ot, g1, _, nn, g2⟩ := ht
  unfold Builtin.SmallTypes.nextOf
  refine wpAny_bind (wpAny_callSpecial?_slot (name := Str.ofString "__next__") hit.typeIs F.slot_tuple_iterator_next (wpAny_call_entry F.slot_tuple_iterator_next hit.typeIs F.entry_tuple_iterator_next ?_ (F.args_tuple_iterator_next_1 _)))
  show wpAny _ _ (field (.ref it) 0 >>= _) _ _ s; refine wpAny_bind (wpAny_field e1 e3 (x := .ref t) rfl ?_)
  show wpAny _ _ (if (Value.ref t == Value.none) = true then _ else _) _ _ s; rw [if_neg (show ¬ ((Value.ref t == Value.none) = true) from Bool.false_ne_true)]
  show wpAny _ _ (field (.ref it) 1 >>= _) _ _ s; refine wpAny_bind (wpAny_field e1 e3 (x := .int i 0) rfl ?_)
  show wpAny _ _ (seqItems? (.ref t) >>= _) _ _ s; refine wpAny_bind (wpAny_seqItems g1 g2 ?_)
  simp only [Int.toNat_natCast, hx]
  refine wpAny_bind (wpAny_rule (wpAny_bind (wpAny_setField e1 e3 (by simp) ?_)))
  show wpAny _ _ (newExc (.type "StopIteration") [] >>= _) _ _ _; refine wpAny_bind ?_
  simp only [newExc, newTuple]; refine wpAny_bind (wpAny_newObj_type ?_ (by size_fits))
  refine wpAny_bind (m := firstArgMember _ _) (wpAny_of_eq (a := Value.none) (by first | rfl | (simp only [firstArgMember]; rfl)) ?_)
  refine wpAny_newObj_type ?_ (by size_fits); simp only [raiseNew]; refine wpAny_bind (wpAny_handled ?_)
  first | rw [show A.in1.handled = none from hh] | rw [hh]
  refine wpAny_bind (wpAny_pure (wpAny_throw (hE _ _ (((Heap.SameBut.update ..).extBut.push _).push _) ⟨_, Heap.get?_push_size _ rfl, rfl⟩)))
structure ZA (z TI TO i1 i2 t1 t2 : Addr) : Prop where
  a1 : TI ≠ z
  a2 : TO ≠ z
  a3 : i1 ≠ z
  a4 : i2 ≠ z
  a5 : TI ≠ TO
  a6 : TI ≠ i1
  a7 : TI ≠ i2
  a8 : TO ≠ i1
  a9 : TO ≠ i2
  b1 : i1 ≠ i2
  b2 : t1 ≠ z
  b3 : t1 ≠ TO
  b4 : t1 ≠ i1
  b5 : t1 ≠ i2
  b6 : t2 ≠ z
  b7 : t2 ≠ TO
  b8 : t2 ≠ i1
  b9 : t2 ≠ i2
end
theorem Inv.turnLaid {X : Cx} {pins : List (Addr × Obj)} {σ : St} {H : Hp} {s : Shared} {h' : Heap} {fp : List Addr} {a : Addr} {o : HO} {t' : Nat} (I : Inv X pins σ H s) (hf : ∀ b ∈ fp, FpOk X pins H b)
    (k : ∀ b u, b ∉ fp → s.heap.get? b = some u → h'.get? b = some u) (hp : s.heap.objs.size ≤ a) (new : ObjOk X.prog X.w (upd H a o) h' a o) : Inv X pins σ (upd H a o) { s with heap := h', toks := t' } := by
  have hn : H a = none := I.hok.fresh hp
  have nf : ∀ b u, H b = some u → b ∉ fp := fun b u e hb => by rw [(hf b hb).1] at e; cases e
  refine I.step (g' := s.gens) (d' := s.drawn) (ch := fp) (fun b hb => ⟨(hf b hb).2.2.2.1, (hf b hb).2.1, (hf b hb).2.2.2.2.1, (hf b hb).2.2.2.2.2⟩) (fun b u _ _ hc e _ => k b u hc e) (fun b u _ _ hc e _ => ⟨u.slots, k b u hc e⟩)
    (fun b u _ e n => by rw [upd_ne (Nat.ne_of_lt (Nat.lt_of_lt_of_le (Heap.lt_size e) hp))]; exact n) (fun b u hc e => ⟨u, k b u hc e⟩) (fun b xs e => by rw [upd_ne (ne_of_none e hn)]; exact e)
    (fun b u v e => by rw [upd_ne (ne_of_none e hn)]; exact e) (fun b ps e => ⟨#[], by rw [upd_ne (ne_of_none e hn), e]; simp⟩) (fun m hm => ?_) (fun b u e => ?_) I.bare
  · obtain ⟨ob, es, ep, ho, r⟩ := hm
    exact ⟨ob, es, ep, k _ ob (fun z => (hf _ z).2.1 rfl) ho, r⟩
  · by_cases hb : b = a
    · subst hb
      rw [upd_same] at e
      cases e
      exact new
    · rw [upd_ne hb] at e
      refine (I.hok b u e).stay (fun c v hc q => k c v ?_ q) (fun c q => by rw [upd_ne (ne_of_none q hn)]; exact q) fun c xs q => by rw [upd_ne (ne_of_none q hn)]; exact q
      rcases hc with z | z
      · rw [z]; exact nf b u e
      · exact nf c _ z
theorem Inv.turnedL {X : Cx} {pins : List (Addr × Obj)} {σ : St} {H : Hp} {s : Shared} {h' : Heap} {fp : List Addr} {t' : Nat} (I : Inv X pins σ H s) (hf : ∀ b ∈ fp, FpOk X pins H b)
    (k : ∀ b u, b ∉ fp → s.heap.get? b = some u → h'.get? b = some u) : Inv X pins σ H { s with heap := h', toks := t' } := by
  have nf : ∀ b u, H b = some u → b ∉ fp := fun b u e hb => by rw [(hf b hb).1] at e; cases e
  refine I.step (g' := s.gens) (d' := s.drawn) (ch := fp) (fun b hb => ⟨(hf b hb).2.2.2.1, (hf b hb).2.1, (hf b hb).2.2.2.2.1, (hf b hb).2.2.2.2.2⟩) (fun b u _ _ hc e _ => k b u hc e) (fun b u _ _ hc e _ => ⟨u.slots, k b u hc e⟩)
    (fun b u _ e n => n) (fun b u hc e => ⟨u, k b u hc e⟩) (fun b xs e => e) (fun b u v e => e) (fun b ps e => ⟨#[], by rw [e]; simp⟩) (fun m hm => ?_) (fun b u e => ?_) I.bare
  · obtain ⟨ob, es, ep, ho, r⟩ := hm
    exact ⟨ob, es, ep, k _ ob (fun z => (hf _ z).2.1 rfl) ho, r⟩
  · refine (I.hok b u e).stay (fun c v hc q => k c v ?_ q) (fun c q => q) fun c xs q => q
    rcases hc with z | z
    · rw [z]; exact nf b u e
    · exact nf c _ z
section
variable {X : Cx}
theorem call_all (hc : X.calm = true) : CallR X (.builtin "all") (fun xs H Q => ∃ (p : Addr) (bs : List Bool), xs = [.ref p] ∧ SqL X.K H p (bs.map V.bl) ∧ Q (.bl (bs.all id)) H) := by
  intro pins s σ H xs us Q I r h
  obtain ⟨p, bs, rfl, hq, q⟩ := h
  obtain ⟨u, rfl, ru⟩ := vals1 r
  cases ru
  obtain ⟨its, rv, pl, hz⟩ := I.list hq
  have hl := rv.length
  rw [List.length_map] at hl
  refine call_all_walk (wpAny_pyIter_list pl.isList ?_)
  have plt : p < s.heap.objs.size := by obtain ⟨o, e, _⟩ := pl.isList; exact Heap.lt_size e
  refine ⟨s.heap.objs.size, _, _, _, _, _, fun i => bs.getD i true, rfl, Walks.list (A := X.A.in1) (I.ok.hd hc) s.heap.objs.size p (Nat.ne_of_lt plt) its.toArray, ⟨⟨_, Heap.get?_push_size _ rfl, rfl, rfl⟩, pl.isList.push _⟩, fun i v s' Q' E' hv hQ => ?_, fun h' tk kk => ?_⟩
  · have hi : i < bs.length := by
      have := (Array.getElem?_eq_some_iff.mp hv).1
      rw [List.size_toArray] at this
      omega
    obtain ⟨u, hu, ru⟩ := rv.get (i := i) (x := V.bl bs[i]) (by simp [hi])
    have hv' : its[i]? = some v := by simpa using hv
    rw [hv'] at hu
    cases hu
    cases ru
    refine wpAny_truthy_bool ?_
    simpa [hi] using hQ
  · have ee : ((List.range its.toArray.size).all fun i => bs.getD i true) = bs.all id := by
      rw [List.size_toArray, ← hl]
      apply Bool.eq_iff_iff.mpr
      rw [List.all_eq_true, List.all_eq_true]
      constructor
      · intro h b hb
        obtain ⟨i, hi, rfl⟩ := List.getElem_of_mem hb
        have := h i (List.mem_range.mpr hi)
        simpa [hi] using this
      · intro h i hi
        have hi' := List.mem_range.mp hi
        have := h bs[i] (List.getElem_mem hi')
        simpa [hi'] using this
    rw [ee]
    have I1 : Inv X pins σ H { s with heap := s.heap.push { cls := .type "list_iterator", data := .fields #[.ref p, .int 0 0] } } := I.kept (t' := s.toks) fun b o e => Heap.get?_push_of_some _ e
    refine ⟨.bl _, H, I1.turned (t' := tk) (it := s.heap.objs.size) (fun b o hb e => kk b o (by simpa using hb) e) (I.hok.fresh (Nat.le_refl _)) (Nat.ne_of_gt I.lt) (.inr I.sz) ?_ ?_, rfl, q⟩
    · exact (I.fpOk (Nat.le_refl _) (I.hok.fresh (Nat.le_refl _))).2.2.2.2.1
    · exact (I.fpOk (Nat.le_refl _) (I.hok.fresh (Nat.le_refl _))).2.2.2.2.2
def Its (x : Str) : It := ⟨fun i _ => i < x.cps.size, fun i H v H' => H' = H ∧ ∃ c, x.cps[i]? = some c ∧ v = .str ⟨#[c]⟩, fun i _ => x.cps.size ≤ i⟩
theorem turn_str {P : Program} {w : World} {K : PySem.W.Frag} {tg : Expr} (x : Str) (t : Tok) (it : Addr) : Turn P w K tg (Its x) [it] it (fun i h => h.IsStrIter it "str_ascii_iterator" x t i) where
  mem := by simp
  obj := fun i h st b hb => by
    have e : b = it := by simpa using hb
    subst e
    obtain ⟨o, e, c, d⟩ := st
    exact ⟨o, e, fun v z => by rw [d] at z; cases z⟩
  keep := fun i h h' st k => by
    obtain ⟨o, e, r⟩ := st
    exact ⟨o, k it (by simp) o e, r⟩
  item := by
    intro X hP hw hK hc i pins s σ H E I hf st hg
    subst hP hw hK
    have hg : i < x.cps.size := hg
    obtain ⟨f0, f1, f2, f3, f4, f5⟩ := hf it (by simp)
    refine wpAny_pyNext_ascii_item st (c := x.cps[i]) (by simp [hg]) fun h' st' sb => ?_
    have I1 : Inv X pins σ H { s with heap := h', toks := s.toks + 1 } := I.turned (fun b o hb e => (sb.2 b hb).trans e) f0 f1 f3 f4 f5
    obtain ⟨o, e, c, d⟩ := id st'
    exact ⟨_, rfl, go_of (s := { s with heap := h', toks := s.toks + 1 }) e c d (by decide) ⟨.str ⟨#[x.cps[i]]⟩, H, I1, ⟨_, rfl⟩, ⟨rfl, _, by simp [hg], rfl⟩, st', fun b hb => (hf b hb).1⟩⟩
  done := by
    intro X hP hw hK hc i pins s σ H E I hf st hg
    subst hP hw hK
    have hg : x.cps.size ≤ i := hg
    obtain ⟨f0, f1, f2, f3, f4, f5⟩ := hf it (by simp)
    exact wpAny_pyNext_ascii_end (I.ok.hd hc) st (by simp [hg]) fun h' eb => ⟨rfl, I.turned (t' := s.toks) (fun b o hb e => eb b o hb e) f0 f1 f3 f4 f5⟩
  self := fun _ _ _ _ _ st h => wpAny_pyIter_striter_ascii st h
def iStr (te : TE) : TI := fun σ H R => te σ H fun v H1 => ∃ x, v = .str x ∧ x.cps.all (· < 128) = true ∧ R (Its x) H1
theorem pi_str {tg e : Expr} {te : TE} (he : PE X e te) : PI X tg e (iStr te) := by
  intro pins s σ H R I h
  refine thn (he pins s σ H _ I h) fun v s1 ⟨y, H1, I1, r1, x, e, hx, q⟩ => ?_
  subst e
  obtain ⟨t, rfl⟩ := r1
  refine wpAny_pyIter_ascii hx ?_
  refine ⟨s1.heap.objs.size, [s1.heap.objs.size], _, _, H1, rfl, I1.kept (t' := s1.toks) fun b o e => Heap.get?_push_of_some _ e, turn_str x t _, ⟨_, Heap.get?_push_size _ rfl, rfl, rfl⟩, fun b hb => ?_, q⟩
  have e : b = s1.heap.objs.size := by simpa using hb
  subst e
  exact I1.fpOk (Nat.le_refl _) (I1.hok.fresh (Nat.le_refl _))
theorem call_isinst : CallR X (.builtin "isinstance") (fun xs H Q => ∃ x n t b, xs = [x, .ty n] ∧ TyOf X.K H x t ∧ PySem.W.kitOne X.K t (.type n) = some b ∧ Q (.bl b) H) := by
  intro pins s σ H xs us Q I r h
  obtain ⟨x, n, t, b, rfl, ty, e, q⟩ := h
  obtain ⟨u, w', rfl, ru, rw'⟩ := vals2 r
  cases rw'
  exact isinst_ok I ru ty e fun tk => ⟨.bl b, H, I.tok _, rfl, q⟩
theorem kit_same (K : PySem.W.Frag) (n : String) : PySem.W.kitOne K (.type n) (.type n) = some true := by
  unfold PySem.W.kitOne
  rw [if_pos (by simp)]
def tBMT (r : V → List V → Hp → VK → Prop) (to : TE) (t : TA) : TE := fun σ H Q => to σ H fun x H1 => (∃ p xs, x = .ref p ∧ H1 p = some (.tup xs)) ∧ t σ H1 fun xs H2 => r x xs H2 Q
theorem pe_bmT {o e : Expr} {es : List Expr} {to : TE} {t : TA} {name : Str} {apos cpos : Pos} {id : String} {r : V → List V → Hp → VK → Prop} (slot : Slot "tuple" name id) (hty : typeOf (.builtin id) = pure (.type "method_descriptor")) (hm : MtR X id r) (ho : PE X o to) (ha : PA X (e :: es) t)
    (hbase : attributeBase o name X.env (eval o X.env) = eval o X.env := by rfl)
    (hfew : ((backTo cpos (starEach (e :: es) X.env)).all (fun x => !x.1) && (backToKw cpos (keywordEach [] X.env)).all (fun x => x.1.isSome) && decide ((e :: es).length + ([] : List Keyword).length + (if ([] : List Keyword).isEmpty then 0 else 1) < 30)) = true := by rfl)
    (hline : (apos.endLine == cpos.line) = true := by rfl) (hs : starEach (e :: es) X.env = (false, eval e X.env) :: starEach es X.env := by rfl) (hplain : (backTo cpos (starEach es X.env)).any (·.1) = false := by rfl) : PE X (.Call (.Attribute o name apos) (e :: es) [] cpos) (tBMT r to t) := by
  intro pins s σ H Q I h
  refine wpAny_Call_method_late hbase hfew hline rfl (thn (ho pins s σ H _ I h) fun v s1 ⟨x, H1, I1, r1, ⟨p, xs, e1, e2⟩, q1⟩ => ?_)
  subst e1
  cases r1
  obtain ⟨⟨_, nd⟩, its, rv, ob, g1, g2, g3⟩ : (xs.length ≤ sizeLine ∧ NoD s1.heap p) ∧ ∃ its : List Value, Vals xs its ∧ IsTup s1.heap p its.toArray := I1.hok p _ e2
  refine ⟨"tuple", id, PySem.F.plainAttrs_tuple, slot, hty, ⟨ob, g1, g2⟩, fun a ea => ?_, ?_⟩
  · cases ea
    exact ⟨ob, g1, nd ob g1⟩
  have hA := ha cpos pins s1 σ H1 _ I1 q1
  rw [hs] at hA ⊢
  refine Calls.callWith_builtin (by show (false || (backTo cpos (starEach es X.env)).any (·.1)) = false; rw [hplain] <;> rfl) (Calls.evalArgs_plain ?_)
  exact thn hA fun us s2 ⟨vs, H2, I2, r2, q2⟩ => hm pins s2 σ H2 (.ref p) vs (.ref p) us Q I2 rfl r2 q2
def rIndexTt : V → List V → Hp → VK → Prop := fun x vs H Q => ∃ p y xs t ts j, x = .ref p ∧ vs = [y] ∧ H p = some (.tup xs) ∧ Dp H t y ∧ DpL H ts xs ∧ (∀ t ∈ ts, Lv 6 t) ∧ ts[j]? = some t ∧ (∀ m, m < j → ts[m]? ≠ some t) ∧ Q (.int (j : Nat)) H
theorem mt_indexTt (hu : X.A.units + 10 < cLine) : MtM X "tuple.index" rIndexTt := by
  intro pins s σ H x vs v us Q I rx rv h
  obtain ⟨p, y, xs, t, ts, j, rfl, rfl, hH, dy, dl, lv, hj, hno, q⟩ := h
  cases rx
  obtain ⟨u, rfl, ru⟩ := rv.one
  obtain ⟨⟨z, nd⟩, its, r, ob, g1, g2, n, g3⟩ : (xs.length ≤ sizeLine ∧ NoD s.heap p) ∧ ∃ its : List Value, Vals xs its ∧ IsTup s.heap p its.toArray := I.hok p _ hH
  have hl := r.length
  have hjl : j < its.toArray.size := by
    have := (List.getElem?_eq_some_iff.mp hj).1
    rw [List.size_toArray, ← hl, dl.length]
    exact this
  have at_ : ∀ (m : Nat) (hm : m < its.toArray.size) (t' : T), ts[m]? = some t' → isT H t its.toArray[m] = dcd (t' = t) := fun m hm t' e' => by
    obtain ⟨x', f, g⟩ := dl.get e'
    obtain ⟨w, k, m'⟩ := r.get f
    have : its.toArray[m] = w := by
      have z : its.toArray[m]? = some w := by simpa using k
      rw [Array.getElem?_eq_getElem hm] at z
      exact Option.some.inj z
    rw [this]
    exact isT_of m' g
  obtain ⟨oc, od, odt, osl⟩ := ob
  simp only at g2 g3
  subst g2 g3
  refine call_meets F.slot_tuple_index ⟨_, g1, rfl⟩ F.entry_tuple_index (F.args_tuple_index_2 _ _) (tupIndex p its.toArray n od osl u (isT H t) j hjl ?_ ?_) ⟨g1, ?_, ?_⟩
  · rw [at_ j hjl t hj]
    exact dcd_t rfl
  · intro m hm hlt
    have hm' : m < ts.length := by
      rw [List.size_toArray, ← hl, dl.length] at hm
      exact hm
    rw [at_ m hm _ (List.getElem?_eq_getElem hm')]
    refine dcd_f fun h => hno m hlt ?_
    rw [List.getElem?_eq_getElem hm', h]
  · intro w hw
    obtain ⟨t', m, v', r', d'⟩ := items_T dl r w (by simpa using hw)
    rw [isT_of r' d']
    exact eqAt_T I 6 _ t' t v' y w u (lv t' m) (by show X.A.units + 1 + 6 < cLine; omega) d' dy r' ru
  · exact ⟨.int j, H, I.tok _, ⟨_, rfl⟩, q⟩
end
end L2
end
section
set_option autoImplicit false
namespace L2
open PySem PySem.Spec PyProof.Rows
theorem ObjOk.ex {P : Program} {w : World} {H : Hp} {h : Heap} {a : Addr} {o : HO} (x : ObjOk P w H h a o) : ∃ ob, h.get? a = some ob := by
  cases o with
  | lst xs => obtain ⟨_, _, _, _, e⟩ := x; exact ⟨_, e⟩
  | tup xs => obtain ⟨_, _, _, ob, e, _⟩ := x; exact ⟨_, e⟩
  | dK kvs => obtain ⟨_, _, _, _, o, _, _, e, _⟩ := x; exact ⟨_, e⟩
  | dT kvs => obtain ⟨_, _, _, _, o, _, _, e, _⟩ := x; exact ⟨_, e⟩
  | set S n => obtain ⟨o, _, _, _, e, _⟩ := x; exact ⟨_, e⟩
  | ins C dx fs => obtain ⟨_, _, _, e, _⟩ := x; exact ⟨_, e⟩
  | own y => exact x
  | xd fs => obtain ⟨_, ⟨_, _, _, e, _⟩, _⟩ := x; exact ⟨_, e⟩
  | rng lo hi => obtain ⟨_, _, _, e⟩ := x; exact ⟨_, e⟩
  | frz ob u => exact ⟨_, x.1⟩
  | tbl ps => exact ⟨_, x⟩
  | met f y => exact ⟨_, x⟩
  | ext φ => exact x.2.1
structure Flies (P : Program) (w : World) (outer : List Env) (H : Hp) (s : Shared) (e : Addr) (cls : Value) (H' : Hp) (B : Heap) (a0 : Value) (s' : Shared) : Prop where
  os : s'.os = s.os
  bare : AllBare s'.gens
  un : Un (frs outer) [] H H' s.heap s'.heap
  hok : HOk P w H' s'.heap
  fl : Heap.FlyingW B outer e cls a0 s'.heap
  covH : ∀ b, H' b ≠ none → ∃ o, B.get? b = some o
  covS : ∀ b o, s.heap.get? b = some o → b ∉ frs outer → ∃ o, B.get? b = some o
section
variable {P : Program} {w : World} {outer : List Env} {H H' : Hp} {s s' : Shared} {e : Addr} {cls a0 : Value} {B h2 : Heap}
end
section
variable {X : Cx} {pins : List (Addr × Obj)} {σ : St} {H H' : Hp} {s s' : Shared} {e : Addr} {cls a0 : Value} {B h2 : Heap}
end
section
variable {P : Program} {w : World} {K : PySem.W.Frag} {mg : Str → Option Value} {base : Heap} {N : List Str} {qual : Str} {scope : Scope} {f : Addr} {cd : Value} {A : Around} {outer : List Env} {s : Shared} {H : Hp} {E : XK}
end
end L2
end
section
set_option autoImplicit false
namespace L2
open PySem PySem.Spec PyProof.Rows
def ExAt (ea C : Addr) (h : Heap) : Prop := ∃ ob, h.get? ea = some ob ∧ ob.cls = .ref C
structure XIn (K : PySem.W.Frag) (C : Addr) : Prop where
  ga : PySem.W.findIn K (.ref C) "__getattribute__" = some (some (.builtin "BaseException.__getattribute__"))
  hk : PySem.W.findIn K (.ref C) "__getattr__" = some none
  ca : PySem.W.findIn K (.ref C) "__class__" = some (some (.builtin "object.__class__"))
  gt : PySem.W.specialIn K (.builtin "object.__class__") "__get__" = some (some (.builtin "getset_descriptor.__get__"))
  tk : PySem.W.takesIn K (.builtin "object.__class__") = some true
  ob : PySem.W.mroIn K C (.type "object") = some true
  be : PySem.W.mroIn K C (.type "BaseException") = some true
  cl : (PySem.W.clsIn K C).isSome = true
section
open Builtin Builtin.ObjectAttr Builtin.Getset_descriptor PySem.W
variable {prog : Program} {w : World} {K : PySem.W.Frag} {ea C : Addr}
end
end L2
end
section
set_option autoImplicit false
namespace L2
open PySem PySem.Spec PyProof.Rows
def ExcO (ea C : Addr) : HO := .ext (ExAt ea C)
section
variable {X : Cx}
end
structure XCls (K : PySem.W.Frag) (mg : Str → Option Value) (x : Str) (C : Addr) : Prop where
  m : mg x = some (.ref C)
  ex : PySem.W.excIn K C [.type "ValueError", .type "Exception", .type "BaseException", .type "object"] "ValueError.__new__" = true
  i : XIn K C
end L2
end
section
set_option autoImplicit false
namespace L2
open PySem PySem.Spec PyProof.Rows
structure Fnd (K : PySem.W.Frag) (mg : Str → Option Value) (x : Str) (st : Stmt) (ps : List Str) (f : Addr) (fd : FuncData) : Prop where
  fn : Fun K x x st f fd
  b : Binds K fd ps []
  m : mg x = some (.ref f)
theorem pe_callF {X : Cx} {x : Str} {st : Stmt} {ps : List Str} {f : Addr} {fd : FuncData} {k : Nat} {sp : Sp} {e : Expr} {es : List Expr} {t : TA} {p pos : Pos} (D : Fnd X.K X.mg x st ps f fd) (G : FnOk X.prog X.w X.K X.mg X.base CX0 k f fd ps sp) (hr : Room k X.A) (hg : Gl X x) (ha : PA X (e :: es) t)
    (hdb : (x == ("__debug__" : Str)) = false := by decide) (he : starEach (e :: es) X.env = (false, eval e X.env) :: starEach es X.env := by rfl) (hpl : (backTo pos (starEach es X.env)).any (·.1) = false := by rfl) : PE X (.Call (.Name x p) (e :: es) [] pos) (tCall sp [] E0 t) :=
  pe_call G hr hg D.m D.fn.kp D.b .nil pass0 ha hdb he hpl
theorem bt_len : bootBuiltins "len" = some (.builtin "len") := by decide +kernel
theorem bt_isinstance : bootBuiltins "isinstance" = some (.builtin "isinstance") := by decide +kernel
theorem bt_int : bootBuiltins "int" = some (.type "int") := by decide +kernel
theorem bt_bool : bootBuiltins "bool" = some (.type "bool") := by decide +kernel
theorem bt_str : bootBuiltins "str" = some (.type "str") := by decide +kernel
theorem bt_tuple : bootBuiltins "tuple" = some (.type "tuple") := by decide +kernel
theorem bt_list : bootBuiltins "list" = some (.type "list") := by decide +kernel
theorem bt_abs : bootBuiltins "abs" = some (.builtin "abs") := by decide +kernel
theorem bt_all : bootBuiltins "all" = some (.builtin "all") := by decide +kernel
theorem bt_any : bootBuiltins "any" = some (.builtin "any") := by decide +kernel
theorem bt_max : bootBuiltins "max" = some (.builtin "max") := by decide +kernel
theorem bt_min : bootBuiltins "min" = some (.builtin "min") := by decide +kernel
def tJoin (t u : TS) : TS := fun D σ H => ∃ M : St → Hp → Prop, t { D with nx := M } σ H ∧ ∀ σ' H', M σ' H' → u D σ' H'
theorem pss_join {X : Cx} {st : Stmt} {rest : List Stmt} {t u : TS} (h1 : PS X st t) (h2 : PSs X rest u) : PSs X (st :: rest) (tJoin t u) := by
  intro pins s σ H D I h
  obtain ⟨M, h, hM⟩ := h
  refine wpAny_execs_cons (thn (h1 pins s σ H _ I h) fun f s1 q => ?_)
  cases f with
  | next =>
    obtain ⟨σ1, H1, I1, m1⟩ := q
    exact h2 pins s1 σ1 H1 D I1 (hM σ1 H1 m1)
  | brk => exact q
  | cont => exact q
  | ret u => exact q
def Off (p : Addr) (H H' : Hp) : Prop := ∀ b o, b ≠ p → H b = some o → H' b = some o
theorem Off.refl (p : Addr) (H : Hp) : Off p H H := fun _ _ _ e => e
theorem Off.trans {p : Addr} {H H1 H2 : Hp} (a : Off p H H1) (b : Off p H1 H2) : Off p H H2 := fun c o n e => b c o n (a c o n e)
theorem Off.upd {p : Addr} {H : Hp} {o : HO} : Off p H (upd H p o) := fun c u n e => by rw [upd_ne n]; exact e
theorem Off.new {p q : Addr} {H : Hp} {o : HO} (h : H q = none) : Off p H (L2.upd H q o) := fun c u _ e => by rw [upd_ne (ne_of_none e h)]; exact e
theorem Same.off {p : Addr} {H H' : Hp} (h : Same H H') : Off p H H' := fun c u _ e => h c u e
theorem Same.new {q : Addr} {H : Hp} {o : HO} (h : H q = none) : Same H (upd H q o) := fun c u e => by rw [upd_ne (ne_of_none e h)]; exact e
theorem atI_in {α : Type} {xs : List α} {i : Int} (h0 : 0 ≤ i) (h1 : i < xs.length) : ∃ v, atI xs i = some v ∧ v ∈ xs ∧ xs[i.toNat]? = some v := by
  have h : i.toNat < xs.length := by omega
  refine ⟨xs[i.toNat], ?_, List.getElem_mem h, List.getElem?_eq_getElem h⟩
  have := atI_nat (xs := xs) (j := i.toNat) (v := xs[i.toNat]) (List.getElem?_eq_getElem h)
  rw [Int.toNat_of_nonneg h0] at this
  exact this
theorem atI_strs {ns : List Str} {i : Int} (h0 : 0 ≤ i) (h1 : i < ns.length) : ∃ x, atI (ns.map V.str) i = some (.str x) ∧ x ∈ ns ∧ ns[i.toNat]? = some x := by
  obtain ⟨v, e, m, g⟩ := atI_in (xs := ns.map V.str) h0 (by rw [List.length_map]; exact h1)
  rw [List.getElem?_map] at g
  cases q : ns[i.toNat]? with
  | none => rw [q] at g; cases g
  | some x =>
    rw [q] at g
    cases g
    exact ⟨x, e, List.mem_of_getElem? q, rfl⟩
theorem strs_ne {as : List Str} {a b c : Int} : ¬ HO.lst [.int a, .int b, .int c] = HO.lst (as.map V.str) := by
  intro h
  cases as with
  | nil => cases h
  | cons x r =>
    injection h with h
    injection h with h
    cases h
theorem inV_strs {x : Str} {ns : List Str} : inV (.str x) (ns.map V.str) = decide (x ∈ ns) := by
  unfold inV
  rw [List.any_map]
  apply Bool.eq_iff_iff.mpr
  rw [List.any_eq_true, decide_eq_true_iff]
  constructor
  · rintro ⟨y, hy, e⟩
    have : (y == x) = true := e
    rw [beq_iff_eq] at this
    rw [← this]
    exact hy
  · intro h
    exact ⟨x, h, by show (x == x) = true; simp⟩
theorem flat_strs (ns : List Str) : (ns.map V.str).all flatV = true := by
  rw [List.all_map, List.all_eq_true]
  exact fun _ _ => rfl
theorem op_in_K {X : Cx} {K : PySem.W.Frag} (h : X.K = K) : OpR X (compareOp .In) (rIn K false) := by subst h; exact op_in_seq
theorem op_notIn_K {X : Cx} {K : PySem.W.Frag} (h : X.K = K) : OpR X (compareOp .NotIn) (rIn K true) := by subst h; exact op_notIn_seq
theorem ix_list_K {X : Cx} {K : PySem.W.Frag} (h : X.K = K) : IxR X (rIxL K) := by subst h; exact ix_list
theorem ix_tup_K {X : Cx} {K : PySem.W.Frag} (h : X.K = K) : IxR X (rIxT K) := by subst h; exact ix_tup
theorem sl_list_K {X : Cx} {K : PySem.W.Frag} (h : X.K = K) : SlR X (rSlL K) := by subst h; exact sl_list
theorem pg_tup_K {X : Cx} {K : PySem.W.Frag} {es : List Expr} {k : Nat} {t : TGs} {n : Nat} {pos : Pos} (hk : X.K = K) (hc : X.calm = true) (h : PGs X es t) (hn : (assignEach es X.env).length = n := by rfl) (hst : (assignEach es X.env).findIdx? (·.1) = none := by rfl) :
    PG X (.Tuple es k pos) (gTup K n t) := by subst hk; exact pg_tup hc h hn hst
def okF (scope : Scope) (N0 N own : List Str) (fr : List Nat) (j : Nat) : Bool := match fr[j]? with
  | none => false
  | some i => match N[own.length + j]?, N0[i]? with
    | some x, some y => (x == y) && (scope.names.lookup x == some .free)
    | _, _ => false
def CSc (scX : Scope) (N0 : List Str) (scope : Scope) (own : List Str) (fr : List Nat) (N : List Str) : Prop :=
  scope.kind = .function ∧ (scope.names.map (·.1)).Nodup ∧ (∀ y ∈ scope.names, y.2 = .local → scope.names.lookup y.1 = some .local) ∧ (∀ y ∈ scope.names, y.2 = .free → scX.names.lookup y.1 = some .cell ∨ scX.names.lookup y.1 = some .free) ∧
    N.length = own.length + fr.length ∧ (∀ j ∈ List.range fr.length, okF scope N0 N own fr j = true) ∧ N.take own.length = own
instance (scX : Scope) (N0 : List Str) (scope : Scope) (own : List Str) (fr : List Nat) (N : List Str) : Decidable (CSc scX N0 scope own fr N) := by
  unfold CSc
  infer_instance
theorem CompScope.of {X : Cx} {scope : Scope} (own : List Str) (fr : List Nat) (N : List Str) (scX : Scope) (N0 : List Str) (hsc : X.env.scope = scX) (hN : X.N = N0) (h : CSc scX N0 scope own fr N) : CompScope X scope own fr N where
  kind := h.1
  nodup := h.2.1
  names := h.2.2.1
  free := fun y hy e => by
    show X.env.scope.names.lookup y.1 = _ ∨ X.env.scope.names.lookup y.1 = _
    rw [hsc]
    exact h.2.2.2.1 y hy e
  len := h.2.2.2.2.1
  isfr := fun j i e => by
    have hj : j < fr.length := (List.getElem?_eq_some_iff.mp e).1
    have q := h.2.2.2.2.2.1 j (List.mem_range.mpr hj)
    unfold okF at q
    rw [e] at q
    simp only at q
    cases e1 : N[own.length + j]? with
    | none => rw [e1] at q; simp at q
    | some x =>
      cases e2 : N0[i]? with
      | none => rw [e1, e2] at q; simp at q
      | some y =>
        rw [e1, e2] at q
        simp only [Bool.and_eq_true, beq_iff_eq] at q
        exact ⟨x, rfl, by rw [hN, e2, q.1], q.2⟩
  frs := fun j x e hj => by
    rw [← h.2.2.2.2.2.2, List.getElem?_take_of_lt hj]
    exact e
theorem lookup_relabel_cell {env : Env} {scope : Scope} {x : Str} (h : scope.names.lookup x = some .cell) : (relabel scope env).names.lookup x = some .cell := by
  unfold relabel
  show List.lookup x (List.map _ _) = _
  rw [relabel_lookup (scope := scope), h]
  rfl
theorem CompScope.of2 {X : Cx} {scope sc0 : Scope} {e0 : Env} (own : List Str) (fr : List Nat) (N : List Str) (N0 : List Str) (hsc : X.env.scope = relabel sc0 e0) (hN : X.N = N0) (h : CSc sc0 N0 scope own fr N) : CompScope X scope own fr N where
  kind := h.1
  nodup := h.2.1
  names := h.2.2.1
  free := fun y hy e => by
    show X.env.scope.names.lookup y.1 = _ ∨ X.env.scope.names.lookup y.1 = _
    rw [hsc]
    rcases h.2.2.2.1 y hy e with z | z
    · exact .inl (lookup_relabel_cell z)
    · unfold relabel
      show List.lookup y.1 (List.map _ _) = _ ∨ List.lookup y.1 (List.map _ _) = _
      rw [relabel_lookup (scope := sc0), z]
      simp only [Option.map_some]
      split
      · exact .inl rfl
      · exact .inr rfl
  len := h.2.2.2.2.1
  isfr := fun j i e => by
    have hj : j < fr.length := (List.getElem?_eq_some_iff.mp e).1
    have q := h.2.2.2.2.2.1 j (List.mem_range.mpr hj)
    unfold okF at q
    rw [e] at q
    simp only at q
    cases e1 : N[own.length + j]? with
    | none => rw [e1] at q; simp at q
    | some x =>
      cases e2 : N0[i]? with
      | none => rw [e1, e2] at q; simp at q
      | some y =>
        rw [e1, e2] at q
        simp only [Bool.and_eq_true, beq_iff_eq] at q
        exact ⟨x, rfl, by rw [hN, e2, q.1], q.2⟩
  frs := fun j x e hj => by
    rw [← h.2.2.2.2.2.2, List.getElem?_take_of_lt hj]
    exact e
end L2
end
section
set_option autoImplicit false
namespace L2
open PySem PySem.Spec PyProof.Rows
section
variable {X : Cx} {pins : List (Addr × Obj)} {σ : St} {H : Hp} {s : Shared}
abbrev Cx.suite (X : Cx) (ea : Addr) : Cx := { X with A := X.A.mark (some (.ref ea)), calm := false, xe := fun _ _ => False }
end
def XP (X : Cx) (pins : List (Addr × Obj)) (σ : St) (E : XK) (e : Value) (s' : Shared) : Prop := ∃ ea C H s H' B a0, e = .ref ea ∧ Inv X pins σ H s ∧ Flies X.prog X.w X.stack H s ea (.ref C) H' B a0 s' ∧ E (.ref C) none H'
end L2
end
section
set_option autoImplicit false
namespace L2
open PySem PySem.Spec PyProof.Rows
structure RoomS (k : Nat) (A : Around) : Prop where
  dp : A.depth + 3 * k + 5 < recursionLimit
  un : A.units + 16 * k + 200 < cLine
structure FnOkS (P : Program) (w : World) (K : PySem.W.Frag) (mg : Str → Option Value) (base : Heap) (k : Nat) (f : Addr) (fd : FuncData) (ps : List Str) (sp : Sp) : Prop where
  len : ∀ vs H Q E, sp vs H Q E → vs.length = ps.length
  run : ∀ (A : Around) (outer : List Env) (s : Shared) (H : Hp) (args : Args) (us : List Value) (vs : List V) (Q : VK), RoomS k A → Env0 P w K mg base A outer s H → BindsTo s fd args (ps.zip us) → Vals vs us → sp vs H Q E0 →
    codeAny (model P w) A (.call (.ref f) args) (CR CX0 outer P w H s Q E0) s
end L2
end
section
set_option autoImplicit false
namespace L2
open PySem PySem.Spec PyProof.Rows
def CDivL (_ j : Int) : Prop := 0 < j ∧ j < 1606938044258990275541962092341162602522202993782792835301376
theorem op_fdivL {X : Cx} : OpR X (binaryOp .FloorDiv) (rI CDivL fun i j => .int (i / j)) := opI fun i j _ _ _ _ _ hc q => by
  have h1 : (0 : Int) < j := hc.1
  have h2 : j < 1606938044258990275541962092341162602522202993782792835301376 := hc.2
  refine floordiv_int (by omega) (by rw [Int.fdiv_eq_ediv_of_nonneg i (by omega)]; exact q) (.inl (PyProof.noPylong_of_log2 ?_))
  have h3 : j.natAbs ≠ 0 := by omega
  have h4 : j.natAbs < 2 ^ 200 := by
    have e : (2 : Nat) ^ 200 = 1606938044258990275541962092341162602522202993782792835301376 := by decide +kernel
    rw [e]
    omega
  exact Nat.lt_trans ((Nat.log2_lt h3).mpr h4) (by decide)
end L2
end
section
set_option autoImplicit false
namespace L2
open PySem PySem.Spec PyProof.Rows
section
variable {X : Cx} {pins : List (Addr × Obj)} {σ : St} {H : Hp} {s : Shared} {d : Addr} {u u' : HO}
theorem Inv.swap (I : Inv X pins σ H s) (e : H d = some u) (h1 : ∀ xs, u ≠ .tup xs) (h2 : ∀ o v, X.H₀ d ≠ some (.frz o v)) (h3 : ∀ ps, u ≠ .tbl ps) (h4 : ∀ y, u ≠ .own y) (new : ObjOk X.prog X.w (upd H d u') s.heap d u') : Inv X pins σ (upd H d u') s := by
  have nd : ∀ b, H b = none → b ≠ d := fun b h z => by rw [z, e] at h; cases h
  refine ⟨I.ok, I.os, I.bare, ⟨I.base.keep, I.base.slot, fun b o q n nx => ?_, I.base.there, fun b xs q => ?_, fun b o v q => ?_, fun b ps q => ?_⟩, I.loc, I.cell, ?_, fun x c q => ?_, fun p hp => ?_, fun b o q => ?_, I.len⟩
  · have := I.base.free b o q n nx
    rw [upd_ne (nd b this)]
    exact this
  · have := I.base.tups b xs q
    rw [upd_ne (fun z => by rw [z, e] at this; exact h1 xs (Option.some.inj this))]
    exact this
  · have := I.base.frzs b o v q
    rw [upd_ne (fun z => by rw [z] at q; exact h2 o v q)]
    exact this
  · obtain ⟨more, this⟩ := I.base.tbls b ps q
    exact ⟨more, by rw [upd_ne (fun z => by rw [z, e] at this; exact h3 _ (Option.some.inj this))]; exact this⟩
  · rw [upd_ne (nd _ I.free)]
    exact I.free
  · rw [upd_ne (nd _ (I.freeC x c q))]
    exact I.freeC x c q
  · obtain ⟨q1, q2, q3, q4, q5⟩ := I.pin p hp
    exact ⟨q1, by rw [upd_ne (nd _ q2)]; exact q2, q3, q4, q5⟩
  · by_cases hb : b = d
    · subst hb
      rw [upd_same] at q
      cases q
      exact new
    · rw [upd_ne hb] at q
      refine (I.hok b o q).stay (fun _ _ _ z => z) (fun c z => ?_) fun c xs z => ?_
      · rw [upd_ne (fun w => by rw [w, e] at z; exact h4 _ (Option.some.inj z))]
        exact z
      · rw [upd_ne (fun w => by rw [w, e] at z; exact h1 _ (Option.some.inj z))]
        exact z
theorem notFrz {kvs : List (Key × V)} (I : Inv X pins σ H s) (e : H d = some (.dK kvs)) : ∀ o v, X.H₀ d ≠ some (.frz o v) := fun o v q => by
  have := I.base.frzs d o v q
  rw [e] at this
  cases this
theorem Inv.freeze {kvs : List (Key × V)} (I : Inv X pins σ H s) (e : H d = some (.dK kvs)) : ∃ o, s.heap.get? d = some o ∧ Inv X pins σ (upd H d (.frz o (.dK kvs))) s := by
  obtain ⟨o, ho⟩ := (I.hok d _ e).ex
  exact ⟨o, ho, I.swap e (fun _ z => nomatch z) (notFrz I e) (fun _ z => nomatch z) (fun _ z => nomatch z) ⟨ho, I.hok d _ e⟩⟩
end
def Itd (o : Obj) (d : Addr) (kvs : List (Key × V)) : It :=
  ⟨fun i H => H d = some (.frz o (.dK kvs)) ∧ i < kvs.length, fun i H x H' => H' = H ∧ ∃ kv, kvs[i]? = some kv ∧ x = kV kv.1, fun i H => H d = some (.frz o (.dK kvs)) ∧ kvs.length ≤ i⟩
theorem relV_key {P : Program} {w : World} {k : Key} {v : Value} (h : (mixKind P w).is k v = true) : RelV (kV k) v := by
  rw [mixKind_is] at h
  rcases keyIs_shape h with ⟨i, t, rfl, rfl⟩ | ⟨x, t, rfl, rfl⟩
  · exact ⟨t, rfl⟩
  · exact ⟨t, rfl⟩
theorem paired_get {α β : Type} {F : α → β → Prop} : ∀ {l₁ : List α} {l₂ : List β}, Paired F l₁ l₂ → ∀ (i : Nat) (h1 : i < l₁.length) (h2 : i < l₂.length), F l₁[i] l₂[i]
  | _, _, .nil, i, h1, _ => by simp at h1
  | _, _, .cons r t, 0, _, _ => r
  | _, _, .cons r t, i + 1, h1, h2 => paired_get t i (by simpa using h1) (by simpa using h2)
theorem turn_dict {P : Program} {w : World} {K : PySem.W.Frag} {tg : Expr} {o : Obj} {es : Array DictEntry} {ep : Nat} (hd : o.data = .dict es ep) (d it : Addr) (kvs : List (Key × V)) : Turn P w K tg (Itd o d kvs) [it] it (fun i h => h.IsKeyIter it d i kvs.length ep) where
  mem := by simp
  obj := fun i h st b hb => by
    have e : b = it := by simpa using hb
    subst e
    obtain ⟨o, e, c, d⟩ := st
    exact ⟨o, e, fun v z => by rw [d] at z; cases z⟩
  keep := fun i h h' st k => st.at fun o e => k it (by simp) o e
  item := by
    intro X hP hw hK hc i pins s σ H E I hf st hg
    subst hP hw hK
    obtain ⟨hq, hi⟩ := hg
    obtain ⟨ho, hz, hs, vs, rv, od, es', ep', ho', r1, r2, r3⟩ := (show ObjOk X.prog X.w H s.heap d (.frz o (.dK kvs)) from I.hok d _ hq)
    rw [ho] at ho'
    cases ho'
    rw [hd] at r2
    cases r2
    have hl : vs.length = kvs.length := (Paired.length rv).symm
    have hm : s.heap.DictAt (mixKind X.prog X.w) d vs ep := ⟨_, _, ho, r1, hd, r3⟩
    obtain ⟨f0, f1, f2, f3, f4, f5⟩ := hf it (by simp)
    have hv : vs[i]? = some ((vs[i]'(by omega)).1, (vs[i]'(by omega)).2) := List.getElem?_eq_getElem (by omega)
    have hk : (kvs[i]).1 = (vs[i]'(by omega)).1 := (paired_get rv i hi (by omega)).1
    rw [← hl] at st
    refine wpAny_pyNext_dict_item st hm hv fun key h' hkey st' sb => ?_
    have I1 : Inv X pins σ H { s with heap := h' } := I.turned (t' := s.toks) (fun b o hb e => (sb.2 b hb).trans e) f0 f1 f3 f4 f5
    obtain ⟨oi, ei, ci, di⟩ := id st'
    refine ⟨key, rfl, go_of ei ci di (by decide) ⟨kV (kvs[i]).1, H, I1, by rw [hk]; exact relV_key hkey, ⟨rfl, kvs[i], List.getElem?_eq_getElem hi, rfl⟩, by rw [← hl]; exact st', fun b hb => by
      have e : b = it := by simpa using hb
      rw [e]; exact f0⟩⟩
  done := by
    intro X hP hw hK hc i pins s σ H E I hf st hg
    subst hP hw hK
    obtain ⟨hq, hi⟩ := hg
    obtain ⟨ho, hz, hs, vs, rv, od, es', ep', ho', r1, r2, r3⟩ := (show ObjOk X.prog X.w H s.heap d (.frz o (.dK kvs)) from I.hok d _ hq)
    rw [ho] at ho'
    cases ho'
    rw [hd] at r2
    cases r2
    have hl : vs.length = kvs.length := (Paired.length rv).symm
    have hm : s.heap.DictAt (mixKind X.prog X.w) d vs ep := ⟨_, _, ho, r1, hd, r3⟩
    obtain ⟨f0, f1, f2, f3, f4, f5⟩ := hf it (by simp)
    rw [← hl] at st
    exact wpAny_pyNext_dict_end (I.ok.hd hc) st hm (List.getElem?_eq_none (by omega)) fun h' eb => ⟨rfl, I.turned (t' := s.toks) (fun b o hb e => eb b o hb e) f0 f1 f3 f4 f5⟩
  self := fun _ _ _ _ _ st h => wpAny_pyIter_keyiter st h
section
variable {X : Cx}
theorem iter_dict {pins : List (Addr × Obj)} {σ : St} {H : Hp} {s : Shared} {d : Addr} {kvs : List (Key × V)} {tg : Expr} {R : It → Hp → Prop} {E : Value → Shared → Prop} (I : Inv X pins σ H s) (hd : H d = some (.dK kvs)) (h : ∀ o, R (Itd o d kvs) (upd H d (.frz o (.dK kvs)))) :
    wpAny (model X.prog X.w) X.A (pyIter (.ref d)) (PIE X pins σ tg R) E s := by
  obtain ⟨o, ho, I1⟩ := I.freeze hd
  obtain ⟨hz, hs, vs, rv, od, es, ep, ho', r1, r2, r3⟩ := (show ObjOk X.prog X.w H s.heap d (.dK kvs) from I.hok d _ hd)
  rw [ho] at ho'
  cases ho'
  have hl : vs.length = kvs.length := (Paired.length rv).symm
  refine wpAny_pyIter_dict (knd := mixKind X.prog X.w) (kvs := vs) (ep := ep) hs ⟨_, _, ho, r1, r2, r3⟩ ?_
  have I2 := I1.kept (t' := s.toks) (h' := s.heap.push { cls := .type "dict_keyiterator", data := .fields #[.ref d, .int 0 0, .int vs.length 0, .int ep 0] }) fun b o e => Heap.get?_push_of_some _ e
  refine ⟨s.heap.objs.size, [s.heap.objs.size], _, _, _, rfl, I2, turn_dict r2 d s.heap.objs.size kvs, ?_, fun b hb => ?_, h o⟩
  · exact ⟨_, Heap.get?_push_size _ rfl, rfl, by rw [hl]; rfl⟩
  · have e : b = s.heap.objs.size := by simpa using hb
    subst e
    exact I1.fpOk (Nat.le_refl _) (I1.hok.fresh (Nat.le_refl _))
theorem call_any (hc : X.calm = true) : CallR X (.builtin "any") (fun xs H Q => ∃ (p : Addr) (bs : List Bool), xs = [.ref p] ∧ SqL X.K H p (bs.map V.bl) ∧ Q (.bl (bs.any id)) H) := by
  intro pins s σ H xs us Q I r h
  obtain ⟨p, bs, rfl, hq, q⟩ := h
  obtain ⟨u, rfl, ru⟩ := vals1 r
  cases ru
  obtain ⟨its, rv, pl, hz⟩ := I.list hq
  have hl := rv.length
  rw [List.length_map] at hl
  refine call_any_walk (wpAny_pyIter_list pl.isList ?_)
  have plt : p < s.heap.objs.size := by obtain ⟨o, e, _⟩ := pl.isList; exact Heap.lt_size e
  refine ⟨s.heap.objs.size, _, _, _, _, _, fun i => bs.getD i false, rfl, Walks.list (A := X.A.in1) (I.ok.hd hc) s.heap.objs.size p (Nat.ne_of_lt plt) its.toArray, ⟨⟨_, Heap.get?_push_size _ rfl, rfl, rfl⟩, pl.isList.push _⟩, fun i v s' Q' E' hv hQ => ?_, fun h' tk kk => ?_⟩
  · have hi : i < bs.length := by
      have := (Array.getElem?_eq_some_iff.mp hv).1
      rw [List.size_toArray] at this
      omega
    obtain ⟨u, hu, ru⟩ := rv.get (i := i) (x := V.bl bs[i]) (by simp [hi])
    have hv' : its[i]? = some v := by simpa using hv
    rw [hv'] at hu
    cases hu
    cases ru
    refine wpAny_truthy_bool ?_
    simpa [hi] using hQ
  · have ee : ((List.range its.toArray.size).any fun i => bs.getD i false) = bs.any id := by
      rw [List.size_toArray, ← hl]
      apply Bool.eq_iff_iff.mpr
      rw [List.any_eq_true, List.any_eq_true]
      constructor
      · rintro ⟨i, hi, h⟩
        have hi' := List.mem_range.mp hi
        exact ⟨bs[i], List.getElem_mem hi', by simpa [hi'] using h⟩
      · rintro ⟨b, hb, h⟩
        obtain ⟨i, hi, rfl⟩ := List.getElem_of_mem hb
        exact ⟨i, List.mem_range.mpr hi, by simpa [hi] using h⟩
    rw [ee]
    have I1 : Inv X pins σ H { s with heap := s.heap.push { cls := .type "list_iterator", data := .fields #[.ref p, .int 0 0] } } := I.kept (t' := s.toks) fun b o e => Heap.get?_push_of_some _ e
    refine ⟨.bl _, H, I1.turned (t' := tk) (it := s.heap.objs.size) (fun b o hb e => kk b o (by simpa using hb) e) (I.hok.fresh (Nat.le_refl _)) (Nat.ne_of_gt I.lt) (.inr I.sz) ?_ ?_, rfl, q⟩
    · exact (I.fpOk (Nat.le_refl _) (I.hok.fresh (Nat.le_refl _))).2.2.2.2.1
    · exact (I.fpOk (Nat.le_refl _) (I.hok.fresh (Nat.le_refl _))).2.2.2.2.2
end
end L2
end
section
set_option autoImplicit false
namespace L2
open PySem PySem.Spec PyProof.Rows
def Ite (K : PySem.W.Frag) (a : Addr) : It :=
  ⟨fun i H => ∃ xs x, SqL K H a xs ∧ xs[i]? = some x, fun i H v H' => ∃ p, H p = none ∧ v = .ref p ∧ ∀ xs x, SqL K H a xs → xs[i]? = some x → H' = upd H p (.tup [.int i, x]), fun i H => ∃ xs, SqL K H a xs ∧ xs.length ≤ i⟩
theorem turn_enum {P : Program} {w : World} {K : PySem.W.Frag} {elts : List Expr} {x1 : Nat} {tpos : Pos} {e it l : Addr} (hne : e ≠ it) : Turn P w K (.Tuple elts x1 tpos) (Ite K l) [e, it] e
    (fun i h => (∃ old, IsEnum h e it i old) ∧ h.IsListIter it l i) where
  mem := by simp
  obj := fun i h st b hb => by
    obtain ⟨⟨old, he⟩, o, ei, c, d⟩ := st
    simp only [List.mem_cons, List.not_mem_nil, or_false] at hb
    rcases hb with rfl | rfl
    · exact ⟨_, he, fun v q => nomatch q⟩
    · exact ⟨o, ei, fun v z => by rw [d] at z; cases z⟩
  keep := fun i h h' st k => by
    obtain ⟨⟨old, he⟩, o, ei, r⟩ := st
    exact ⟨⟨old, k e (by simp) _ he⟩, o, k it (by simp) _ ei, r⟩
  item := by
    intro X hP hw hK hc i pins s σ H E I hf st hg
    subst hP hw hK
    obtain ⟨xs, x, hq, hx⟩ := hg
    obtain ⟨its, rv, p, hz⟩ := I.list hq
    obtain ⟨u, hu, ru⟩ := rv.get hx
    obtain ⟨⟨old, he⟩, hit⟩ := st
    refine wpAny_pyNext_enum_item he hit p.isList (x := u) (by simpa using hu) hne fun h' a1 a2 a3 a4 a5 => ?_
    refine ⟨_, rfl, wpAny_letOwnedTupleGo_enum a1 fun h2' a1' q' => ?_⟩
    have hn : H s.heap.objs.size = none := I.hok.fresh (Nat.le_refl _)
    have elt : e < s.heap.objs.size := Heap.lt_size he
    have ilt : it < s.heap.objs.size := by obtain ⟨_, e, _⟩ := hit; exact Heap.lt_size e
    have kk : ∀ b ob, b ∉ [e, it] → s.heap.get? b = some ob → h2'.get? b = some ob := fun b ob hb ee => by
      simp only [List.mem_cons, List.not_mem_nil, or_false, not_or] at hb
      exact q'.extBut _ _ hb.1 (a5 b ob hb.1 hb.2 ee)
    have I1 : Inv X pins σ (upd H s.heap.objs.size (.tup [.int i, x])) { s with heap := h2', toks := s.toks + 1 } := I.turnLaid (t' := s.toks + 1) hf kk (Nat.le_refl _)
      ⟨⟨by show 2 ≤ sizeLine; decide, fun o ee => by rw [q'.extBut _ _ (Nat.ne_of_gt elt) a3] at ee; cases ee; rfl⟩, [.int i s.toks, u], .cons ⟨_, rfl⟩ (.cons ru .nil), ⟨_, q'.extBut _ _ (Nat.ne_of_gt elt) a3, rfl, _, rfl⟩⟩
    refine ⟨.ref s.heap.objs.size, _, I1, rfl, ⟨_, hn, rfl, fun xs' x' k1 k3 => ?_⟩, ⟨⟨_, by simpa using a1'⟩, a2.extBut q'.extBut hne.symm⟩, fun b hb => ?_⟩
    · rw [I.list_inj k1 hq, hx] at k3
      cases k3
      rfl
    · have hb' := hb
      simp only [List.mem_cons, List.not_mem_nil, or_false] at hb'
      have hlt : b < s.heap.objs.size := by
        rcases hb' with rfl | rfl
        · exact elt
        · exact ilt
      rw [upd_ne (Nat.ne_of_lt hlt)]
      exact (hf b hb).1
  done := by
    intro X hP hw hK hc i pins s σ H E I hf st hg
    subst hP hw hK
    obtain ⟨xs, hq, hx⟩ := hg
    obtain ⟨its, rv, p, hz⟩ := I.list hq
    obtain ⟨⟨old, he⟩, hit⟩ := st
    have hl := rv.length
    refine wpAny_pyNext_enum_end (I.ok.hd hc) he hit p.isList (by simp; omega) fun h' eb => ⟨rfl, I.turnedL (t' := s.toks) hf fun b u hb q => ?_⟩
    simp only [List.mem_cons, List.not_mem_nil, or_false, not_or] at hb
    exact eb b u hb.2 q
  self := fun _ _ _ _ _ st h => by
    obtain ⟨⟨old, he⟩, _⟩ := st
    exact wpAny_pyIter_enum he h
section
variable {X : Cx}
def iEnum (K : PySem.W.Frag) (ta : TA) : TI := fun σ H R => ta σ H fun vs H1 => ∃ a xs, vs = [.ref a] ∧ SqL K H1 a xs ∧ R (Ite K a) H1
theorem pi_enumerate {elts : List Expr} {x1 : Nat} {tpos : Pos} {a : Expr} {ta : TA} {p pos : Pos} (hg : Gl X "enumerate") (hm : X.mg "enumerate" = none) (ha : PA X [a] ta)
    (he : starEach [a] X.env = (false, eval a X.env) :: starEach [] X.env := by rfl) (hpl : (backTo pos (starEach [] X.env)).any (·.1) = false := by rfl) : PI X (.Tuple elts x1 tpos) (.Call (.Name "enumerate" p) [a] [] pos) (iEnum X.K ta) := by
  intro pins s σ H R I h
  have boot_enum : bootBuiltins "enumerate" = some (.type "enumerate") := by decide +kernel
  refine wpAny_Call_Name_kw (ld_blt I hg hm boot_enum ?_)
  refine PyProof.Rows.callWith_type1 (thn (ha pos pins s σ H _ I h) fun us s1 ⟨vs, H1, I1, r1, t1, xs, e, q1, q⟩ => ?_) he hpl
  subst e
  obtain ⟨u, rfl, ru⟩ := vals1 r1
  cases ru
  obtain ⟨its, rv, p1, hz1⟩ := I1.list q1
  refine call_enumerate_list p1.isList fun h' hE hI hsz hk => ?_
  refine wpAny_pyIter_enum hE ?_
  have I2 : Inv X pins σ H1 { s1 with heap := h' } := I1.kept (t' := s1.toks) hk
  have hne : s1.heap.objs.size + 1 ≠ s1.heap.objs.size := by change @Ne Nat _ _; omega
  refine ⟨s1.heap.objs.size + 1, [s1.heap.objs.size + 1, s1.heap.objs.size], _, Ite X.K t1, H1, rfl, I2, turn_enum hne, ⟨⟨_, hE⟩, hI⟩, fun b hb => ?_, q⟩
  have hle : s1.heap.objs.size ≤ b := by
    simp only [List.mem_cons, List.not_mem_nil, or_false] at hb
    rcases hb with h | h <;> rw [h] <;> first | exact Nat.le_refl _ | exact Nat.le_add_right _ _
  exact I1.fpOk hle (I1.hok.fresh hle)
end
end L2
end
section
set_option autoImplicit false
namespace L2
open PySem PySem.Spec PyProof.Rows
section
variable {prog : Program} {w : World} {A : Around} {E : Value → Shared → Prop} {s : Shared}
end
end L2
end
section
set_option autoImplicit false
namespace L2
open PySem PySem.Spec PyProof.Rows
section
variable {X : Cx} {pins : List (Addr × Obj)} {σ : St} {A : Around}
end
end L2
end
section
set_option autoImplicit false
namespace L2
open PySem PySem.Spec PyProof.Rows
section
variable {X : Cx}
end
end L2
end
section
set_option autoImplicit false
namespace L2
open PySem PySem.Spec PyProof.Rows
section
variable {X : Cx}
abbrev tooLongS := @Builtin.Str.tooLong
theorem size_rep (xs : Array Nat) : ∀ (k : Nat) (acc : Array Nat), (List.foldl (fun x1 x2 => x1 ++ x2) acc (List.replicate k xs)).size = acc.size + k * xs.size
  | 0, acc => by simp
  | k + 1, acc => by
    rw [List.replicate_succ, List.foldl_cons, size_rep xs k, Array.size_append, Nat.succ_mul]
    omega
def strRep (x : Str) (n : Int) : Str := if n < 1 then Str.empty else if (n == 1 || x.length == 0) = true then x else ⟨(List.replicate n.toNat x.cps).foldl (· ++ ·) #[]⟩
theorem op_mulS : OpR X (binaryOp .Mult) (fun a b H Q => ∃ x n, a = .str x ∧ b = .int n ∧ 0 ≤ n ∧ n ≤ 1000 ∧ x.length ≤ 1000 ∧ Q (.str (strRep x n)) H) := by
  intro pins s σ H a b u v Q I ra rb h
  obtain ⟨x, n, rfl, rfl, h0, h1, hx, q⟩ := h
  obtain ⟨t, rfl⟩ := ra
  obtain ⟨t', rfl⟩ := rb
  have hz : sizeLine = 16777216 := sizeLine_eq
  have hm : x.length * n.toNat ≤ 1000000 := by
    have : x.length * n.toNat ≤ 1000 * 1000 := Nat.mul_le_mul hx (by omega)
    omega
  have h3 : tooLongS (x.length * n.toNat) = false := by
    unfold tooLongS
    exact decide_eq_false (by omega)
  refine P.mul_str ?_ ?_ (fun _ _ => h3) ?_
  · rw [decide_eq_false (by omega), decide_eq_false (by omega)]
    rfl
  · intro hn _ hgt
    have h4 : (x.length : Int) * n ≤ 2 ^ 63 - 1 := by
      have : (x.length : Int) * n ≤ 1000 * 1000 := Int.mul_le_mul (by omega) h1 h0 (by decide)
      omega
    have := (Int.le_ediv_iff_mul_le (by omega : 0 < n)).mpr h4
    omega
  · unfold strRep at q
    by_cases c1 : n < 1
    · rw [if_pos c1] at q ⊢
      exact ⟨by decide, .str _, H, I.tok _, ⟨_, rfl⟩, q⟩
    · rw [if_neg c1] at q ⊢
      by_cases c2 : (n == 1 || x.length == 0) = true
      · rw [if_pos c2] at q ⊢
        exact ⟨.str _, H, I, ⟨_, rfl⟩, q⟩
      · rw [if_neg c2] at q ⊢
        refine ⟨?_, .str _, H, I.tok _, ⟨_, rfl⟩, q⟩
        show (List.foldl (fun x1 x2 => x1 ++ x2) #[] (List.replicate n.toNat x.cps)).size ≤ sizeLine
        rw [size_rep]
        have : x.cps.size = x.length := rfl
        have : n.toNat * x.cps.size = x.length * n.toNat := by rw [this, Nat.mul_comm]
        rw [Array.size_empty]
        omega
end
end L2
end
section
set_option autoImplicit false
namespace L2
open PySem PySem.Spec PyProof.Rows PySem.W
def KOk {α : Type} (n : Nat) (P : α → Prop) : KasT α → Prop
  | .ret a => P a
  | .ask i j k => i < n ∧ j < n ∧ ∀ b, KOk n P (k b)
theorem KOk.bind {α β : Type} {n : Nat} {P : α → Prop} {Q : β → Prop} {f : α → KasT β} (hf : ∀ a, P a → KOk n Q (f a)) : ∀ {t : KasT α}, KOk n P t → KOk n Q (t.bind f)
  | .ret a, h => hf a h
  | .ask i j k, h => ⟨h.1, h.2.1, fun b => KOk.bind hf (h.2.2 b)⟩
theorem KOk.wp {α : Type} {n : Nat} {P : α → Prop} {Q : α → Shared → Prop} {s : Shared} {cmp : Nat → Nat → (Bool → Shared → Prop) → Shared → Prop} (hc : ∀ i j C, i < n → j < n → (∀ b, C b s) → cmp i j C s) (hq : ∀ a, P a → Q a s) : ∀ {t : KasT α}, KOk n P t → t.kasWp cmp Q s
  | .ret a, h => hq a h
  | .ask i j k, h => hc i j _ h.1 h.2.1 fun b => KOk.wp hc hq (h.2.2 b)
def Pm (n : Nat) (p : Array Nat) : Prop := p.Perm (List.range n).toArray
theorem Pm.lt {n : Nat} {p : Array Nat} (h : Pm n p) (h0 : 0 < n) (i : Nat) : p.getD i 0 < n := by
  by_cases hi : i < p.size
  · have e : p.getD i 0 = p[i] := by simp [Array.getD, hi]
    rw [e]
    have m : p[i] ∈ (List.range n).toArray := h.mem_iff.mp (Array.getElem_mem hi)
    simpa using m
  · have e : p.getD i 0 = 0 := by simp [Array.getD, hi]
    rw [e]
    exact h0
theorem Pm.rev {n : Nat} {p : Array Nat} (h : Pm n p) (i j : Nat) : Pm n (kas_rev p i j) := Array.Perm.trans (mirror_perm p i j _) h
theorem Pm.bub {n : Nat} {p : Array Nat} (h : Pm n p) (k d : Nat) : Pm n (bubble p k d) := Array.Perm.trans (bubble_perm p k d) h
section
variable {n : Nat} (h0 : 0 < n)
include h0
theorem ok_asc {p : Array Nat} (h : Pm n p) : ∀ (f m : Nat), KOk n (fun _ => True) (kas_asc p f m)
  | 0, m => trivial
  | f + 1, m => ⟨h.lt h0 _, h.lt h0 _, fun b => by
      cases b with
      | true => exact trivial
      | false => exact ok_asc h f (m + 1)⟩
theorem ok_desc : ∀ (f : Nat) {p : Array Nat} (m q : Nat), Pm n p → KOk n (fun r => Pm n r.1) (kas_desc f p m q)
  | 0, p, m, q, h => h
  | f + 1, p, m, q, h => ⟨h.lt h0 _, h.lt h0 _, fun b => by
      cases b with
      | true =>
        show KOk n _ (if true = true then _ else _)
        rw [if_pos rfl]
        split
        · exact ok_desc f _ _ (h.rev _ _)
        · exact ok_desc f _ _ h
      | false =>
        refine ⟨h.lt h0 _, h.lt h0 _, fun d => ?_⟩
        cases d with
        | true => exact h
        | false => exact ok_desc f _ _ h⟩
theorem ok_tail3 (m nrem : Nat) {p : Array Nat} (h : Pm n p) : KOk n (fun r => Pm n r.2) (kas_tail3 m nrem p) := by
  unfold kas_tail3
  refine KOk.bind (P := fun _ => True) (fun a _ => ?_) (ok_asc h0 (h.rev 0 m) _ _)
  exact h.rev 0 m
theorem ok_descPart (m nrem : Nat) {p : Array Nat} (h : Pm n p) : KOk n (fun r => Pm n r.2) (kas_descPart m nrem p) := by
  refine KOk.bind (fun r hr => ?_) (ok_desc h0 _ _ _ h)
  split
  · exact ok_tail3 h0 _ _ (hr.rev _ _)
  · exact ok_tail3 h0 _ _ hr
theorem ok_count (nrem : Nat) {p : Array Nat} (h : Pm n p) : KOk n (fun r => Pm n r.2) (kas_count nrem p) := by
  refine KOk.bind (fun r _ => ?_) (ok_asc h0 h _ _)
  split
  · exact h
  · split
    · refine ⟨h.lt h0 _, h.lt h0 _, fun b => ?_⟩
      cases b with
      | true => exact h
      | false => exact ok_descPart h0 _ _ (h.rev _ _)
    · exact ok_descPart h0 _ _ h
theorem ok_place {p : Array Nat} (h : Pm n p) (k : Nat) : ∀ (f l r : Nat), KOk n (fun _ => True) (kas_place p k f l r)
  | 0, l, r => trivial
  | f + 1, l, r => by
    unfold kas_place
    split
    · exact trivial
    · refine ⟨h.lt h0 _, h.lt h0 _, fun b => ?_⟩
      cases b with
      | true => exact ok_place h k f _ _
      | false => exact ok_place h k f _ _
theorem ok_bin : ∀ (f : Nat) {p : Array Nat} (k : Nat), Pm n p → KOk n (Pm n) (kas_bin f p k)
  | 0, p, k, h => h
  | f + 1, p, k, h => KOk.bind (fun l _ => ok_bin f (k + 1) (h.bub _ _)) (ok_place h0 h k _ _ _)
theorem ok_sort : KOk n (Pm n) (kas_sort n) := by
  refine KOk.bind (fun r hr => ?_) (ok_count h0 n (Array.Perm.refl _))
  split
  · exact ok_bin h0 _ _ hr
  · exact hr
end
theorem Pm.out {vs : List Value} {p : Array Nat} (h : Pm vs.length p) : (p.toList.map fun i => vs.getD i Value.none).Perm vs := by
  have h1 : p.toList.Perm (List.range vs.length) := by simpa using h.toList
  have h2 := h1.map fun i => vs.getD i Value.none
  have h3 : (List.range vs.length).map (fun i => vs.getD i Value.none) = vs := by
    apply List.ext_getElem (by simp)
    intro i a b
    simp [b]
  rw [h3] at h2
  exact h2
section
variable {prog : Program} {w : World} {A : Around} {E : Value → Shared → Prop} {s : Shared}
structure Cmps (prog : Program) (w : World) (A : Around) (κ : SortKind) (vs : List Value) (h : Heap) : Prop where
  kind : ∀ (s' : Shared) (Q : SortKind → Shared → Prop) (E : Value → Shared → Prop), (∀ b o, h.get? b = some o → s'.heap.get? b = some o) → Q κ s' → wpAny (model prog w) A (keyKind' vs.toArray) Q E s'
  lt : ∀ x ∈ vs, ∀ y ∈ vs, ∀ (s' : Shared) (C : Bool → Shared → Prop), (∀ b o, h.get? b = some o → s'.heap.get? b = some o) → (∀ b, C b s') → wpAny (model prog w) A (keyLt' κ x y) C (fun _ _ => False) s'
theorem list_sort_any {a : Addr} {vs : List Value} {n : Nat} {P : Fin → Shared → Prop} {h₀ : Heap} {κ : SortKind} (ho : s.heap.get? a = some (seqObj "list" vs.toArray n)) (h64 : vs.length < 64) (keep : ∀ b o, h₀.get? b = some o → s.heap.get? b = some o ∧ b ≠ a)
    (hc : 2 ≤ vs.length → Cmps prog w A κ vs h₀)
    (h : ∀ out : Array Value, out.toList.Perm vs → P (.done (.ret .none)) { s with heap := sortedHeap s.heap a vs out }) :
    wpAny (model prog w) A (Builtin.«list.sort» ⟨[.ref a], []⟩) P E s := by
  rw [list_sort_plain]
  have ha : a < s.heap.objs.size := Heap.lt_size ho
  refine wpAny_bind (listItems_at ho rfl ?_)
  refine wpAny_bind (listUpdate_at ho rfl ?_ (by rw [List.size_toArray, sizeLine_eq]; omega) (Nat.zero_le _))
  obtain ⟨e1, ho1⟩ : ∃ e1, (s.heap.update a (Obj.mapSeq fun _ => #[])).get? a = some (seqObj "list" #[] e1) := ⟨_, get?_update_seq ho (fun _ => #[])⟩
  refine wpAny_bind (seqEpoch_at ho1 rfl ?_)
  refine wpAny_bind (wpAny_newTuple ?_ (by show vs.length ≤ _; rw [sizeLine_eq]; omega))
  refine wpAny_bind (wpAny_newList ?_ (Nat.zero_le _))
  refine wpAny_holding ?_
  have ho6 : (((s.heap.update a (Obj.mapSeq fun _ => #[])).push (seqObj "tuple" vs.toArray 0)).push (seqObj "list" #[] 0)).get? a = some (seqObj "list" #[] e1) := by
    rw [Heap.get?_push_ne _ _ _ (by rw [size_push', Heap.size_update]; exact Nat.ne_of_lt (Nat.lt_succ_of_lt ha)), Heap.get?_push_ne _ _ _ (by rw [Heap.size_update]; exact Nat.ne_of_lt ha)]
    exact ho1
  have kp : ∀ b o, h₀.get? b = some o → (((s.heap.update a (Obj.mapSeq fun _ => #[])).push (seqObj "tuple" vs.toArray 0)).push (seqObj "list" #[] 0)).get? b = some o := fun b o e => by
    obtain ⟨e', ne⟩ := keep b o e
    exact Heap.get?_push_of_some _ (Heap.get?_push_of_some _ ((Heap.get?_update_other _ _ (Ne.symm ne)).trans e'))
  show wpAny (model prog w) A _ P E { s with heap := ((s.heap.update a (Obj.mapSeq fun _ => #[])).push (seqObj "tuple" vs.toArray 0)).push (seqObj "list" #[] 0) }
  dsimp only
  have hsz : vs.toArray.size = vs.length := by simp
  have fin : ∀ st' : SortSt, failedOf st' = none → ((arrOf st').map (·.2)).toList.Perm vs → wpAny (model prog w) A (do
      let touched := (← seqEpoch a) != e1
      Builtin.List.listUpdate (.ref a) fun _ => (arrOf st').map (·.2)
      if let some e := failedOf st' then rule "list.sort.comparison-raised"; throw e
      if touched then rule "list.sort.modified"; raiseError "ValueError" "list modified during sort"
      ret .none) P E { s with heap := ((s.heap.update a (Obj.mapSeq fun _ => #[])).push (seqObj "tuple" vs.toArray 0)).push (seqObj "list" #[] 0) } := fun st' hf hp => by
    refine wpAny_bind (seqEpoch_at ho6 rfl ?_)
    refine wpAny_bind (listUpdate_at ho6 rfl ?_ (Nat.zero_le _) (by
      have := hp.length_eq
      rw [Array.length_toList] at this
      show ((arrOf st').map (·.2)).size ≤ _
      rw [this, sizeLine_eq]
      omega))
    rw [hf]
    simp only [bne_self_eq_false, Bool.false_eq_true, if_false]
    exact wpAny_pure (h _ hp)
  by_cases h2 : vs.toArray.size < 2
  · rw [if_pos h2, if_pos h2]
    refine wpAny_bind (wpAny_pure ?_)
    rw [StateT.run_pure]
    refine wpAny_bind (wpAny_pure ?_)
    refine fin (SortSt.mk' general' (vs.toArray.zip vs.toArray) #[] 7 none) rfl ?_
    have e : ((vs.toArray.zip vs.toArray).map (·.2)).toList = vs := by
      simp only [List.zip_toArray, List.map_toArray]
      exact List.map_snd_zip (Nat.le_refl _)
    show ((vs.toArray.zip vs.toArray).map (·.2)).toList.Perm vs
    rw [e]
  · rw [if_neg h2, if_neg h2]
    rw [hsz] at h2
    have C := hc (by omega)
    refine wpAny_bind (C.kind _ _ _ kp ?_)
    refine wpAny_bind (wpAny_mono (kat_run (ks := vs) (Q := fun st' s' => s' = { s with heap := ((s.heap.update a (Obj.mapSeq fun _ => #[])).push (seqObj "tuple" vs.toArray 0)).push (seqObj "list" #[] 0) } ∧ failedOf st' = none ∧ ((arrOf st').map (·.2)).toList.Perm vs)
      (G := fun p s' => s' = { s with heap := ((s.heap.update a (Obj.mapSeq fun _ => #[])).push (seqObj "tuple" vs.toArray 0)).push (seqObj "list" #[] 0) } ∧ Pm vs.length p) rfl (by omega) h64 (fun p st' s' _ e1 e2 ⟨e3, e4⟩ => ⟨e3, e2, ?_⟩) ?_) ?_ fun _ _ e => e)
    · rw [kat_snds rfl e1]
      exact e4.out
    · refine KOk.wp (fun i j Cc hi hj hC => ?_) (fun p hp => ⟨rfl, hp⟩) (ok_sort (by omega))
      have gm : ∀ i, i < vs.length → vs.getD i Value.none ∈ vs := fun i hi => by
        have : vs.getD i Value.none = vs[i] := by simp [hi]
        rw [this]
        exact List.getElem_mem hi
      exact C.lt _ (gm i hi) _ (gm j hj) _ _ kp hC
    · rintro ⟨⟨⟩, st'⟩ s' ⟨rfl, hf, hp⟩
      exact fin st' hf hp
theorem sorted_any {l : Addr} {vs : List Value} {Q : Value → Shared → Prop} {κ : SortKind} (hl : s.heap.IsList l vs.toArray) (h64 : vs.length < 64) (hc : 2 ≤ vs.length → Cmps prog w A.in1.in1 κ vs s.heap)
    (h : ∀ out : Array Value, out.toList.Perm vs → Q (.ref (s.heap.objs.size + 1)) { s with heap := sortedAll s.heap vs out }) :
    wpAny (model prog w) A (call (.builtin "sorted") [.ref l]) Q E s := by
  refine Calls.call_function_entry kind_sorted plain_sorted entry_sorted (args_sorted1 _) ?_
  unfold Builtin.«sorted»
  refine wpAny_bind (m := checkCount "sorted" 1 1 _) (wpAny_pure ?_)
  refine wpAny_bind (collect_list hl ?_ (by rw [sizeLine_eq]; omega))
  refine wpAny_bind (wpAny_newList ?_ (by rw [sizeLine_eq]; omega))
  have hsz : ((s.heap.push (seqObj "list" #[] 0)).update s.heap.objs.size (Obj.mapSeq (· ++ vs.toArray))).objs.size = s.heap.objs.size + 1 := by
    rw [Heap.size_update, size_push']
  have hoL : (((s.heap.push (seqObj "list" #[] 0)).update s.heap.objs.size (Obj.mapSeq (· ++ vs.toArray))).push (seqObj "list" vs.toArray 0)).get? (s.heap.objs.size + 1) = some (seqObj "list" vs.toArray 0) := by
    rw [← hsz]; exact Heap.get?_push_size _ rfl
  have keep : ∀ b o, s.heap.get? b = some o → (((s.heap.push (seqObj "list" #[] 0)).update s.heap.objs.size (Obj.mapSeq (· ++ vs.toArray))).push (seqObj "list" vs.toArray 0)).get? b = some o ∧ b ≠ s.heap.objs.size + 1 := fun b o q => by
    have hlt : b < s.heap.objs.size := Heap.lt_size q
    refine ⟨?_, Nat.ne_of_lt (Nat.lt_succ_of_lt hlt)⟩
    rw [Heap.get?_push_ne _ _ _ (by rw [hsz]; exact Nat.ne_of_lt (Nat.lt_succ_of_lt hlt)), Heap.get?_update_ne _ _ _ _ (Nat.ne_of_lt hlt), Heap.get?_push_ne _ _ _ (Nat.ne_of_lt hlt)]
    exact q
  show wpAny _ _ _ _ _ { s with heap := ((s.heap.push (seqObj "list" #[] 0)).update s.heap.objs.size (Obj.mapSeq (· ++ vs.toArray))).push (seqObj "list" vs.toArray 0) }
  rw [hsz]
  refine wpAny_bind (wpAny_holding (wpAny_call_entry slot_list_sort ⟨_, hoL, rfl⟩ entry_list_sort (list_sort_any hoL h64 keep hc fun out a1 => ⟨_, rfl, ?_⟩) (args_list_sort _)))
  exact wpAny_pure ⟨_, rfl, h out a1⟩
end
theorem Vals.perm : ∀ {us ws : List Value}, us.Perm ws → ∀ {xs : List V}, Vals xs ws → ∃ ys, ys.Perm xs ∧ Vals ys us := by
  intro us ws h
  induction h with
  | nil => exact fun {xs} r => ⟨xs, .refl _, r⟩
  | cons a _ ih =>
    intro xs r
    cases r with
    | cons q t =>
      obtain ⟨ys, p, r'⟩ := ih t
      exact ⟨_ :: ys, p.cons _, .cons q r'⟩
  | swap a b l =>
    intro xs r
    cases r with
    | cons q t =>
      cases t with
      | cons q' t' => exact ⟨_, .swap _ _ _, .cons q' (.cons q t')⟩
  | trans _ _ i1 i2 =>
    intro xs r
    obtain ⟨ys, p, r'⟩ := i2 r
    obtain ⟨zs, p', r''⟩ := i1 r'
    exact ⟨zs, p'.trans p, r''⟩
def SecS (b : Bool) (y : V) : Prop := if b then (∃ x, y = .str x) else ∃ i, y = .int i
section
variable {X : Cx}
theorem call_sorted (b : Bool) : CallR X (.builtin "sorted") (fun xs H Q => ∃ l ps, xs = [.ref l] ∧ SqL X.K H l ps ∧ ps.length < 64 ∧ (∀ x ∈ ps, ∃ p i y, x = .ref p ∧ H p = some (.tup [.int i, y]) ∧ SecS b y) ∧ ∀ d qs, qs.Perm ps → H d = none → Q (.ref d) (upd H d (.lst qs))) := by
  intro pins s σ H xs us Q I r h
  obtain ⟨l, ps, rfl, hl, h64, hp, q⟩ := h
  obtain ⟨u, rfl, ru⟩ := vals1 r
  cases ru
  obtain ⟨its, rv, pl, hz⟩ := I.list hl
  have hlen := rv.length
  have item : ∀ v ∈ its, ∃ (p : Addr) (o : Obj) (i : Int) (t : Tok) (y : Value) (n : Nat), v = .ref p ∧ s.heap.get? p = some o ∧ o.cls = .type "tuple" ∧ o.data = .seq #[.int i t, y] n ∧ (if b then ∃ x t', y = Value.str x t' else ∃ j t', y = Value.int j t') := fun v hv => by
    obtain ⟨i, hi, rfl⟩ := List.getElem_of_mem hv
    have hi' : i < ps.length := by omega
    obtain ⟨w', hw, rw'⟩ := rv.get (i := i) (x := ps[i]) (List.getElem?_eq_getElem hi')
    rw [List.getElem?_eq_getElem hi] at hw
    cases hw
    obtain ⟨p, j, y, e, hH, hy⟩ := hp ps[i] (List.getElem_mem hi')
    rw [e] at rw'
    have rw' : its[i] = .ref p := rw'
    obtain ⟨jts, rj, ⟨o, go, co, n, dn⟩, _⟩ := I.tuple (SqT.of hH)
    obtain ⟨v1, v2, rfl, ⟨t, rfl⟩, r2⟩ := rj.two
    refine ⟨p, o, j, t, v2, n, rw', go, co, dn, ?_⟩
    unfold SecS at hy
    cases b with
    | true =>
      obtain ⟨x, rfl⟩ := (by simpa using hy : ∃ x, y = V.str x)
      obtain ⟨t', rfl⟩ := r2
      simp
    | false =>
      obtain ⟨x, rfl⟩ := (by simpa using hy : ∃ x, y = V.int x)
      obtain ⟨t', rfl⟩ := r2
      simp
  have hcmp : 2 ≤ its.length → Cmps X.prog X.w X.A.in1.in1 (tuples' ((Value.type "int") != Value.type "tuple")) its s.heap := fun h2 => by
    refine ⟨fun s' Q' E' kp hq => ?_, fun x hx y hy s' C kp hC => ?_⟩
    · have tups : ∀ vs : List Value, (∀ v ∈ vs, v ∈ its) → ∃ fs : List Value, KatTups s'.heap vs fs ∧ fs.length = vs.length ∧ ∀ f ∈ fs, ∃ i t, f = Value.int i t := by
        intro vs
        induction vs with
        | nil => exact fun _ => ⟨[], .nil, rfl, fun _ h => nomatch h⟩
        | cons v vs ih =>
          intro hm
          obtain ⟨fs, k, e, hf⟩ := ih fun v hv => hm v (List.mem_cons_of_mem _ hv)
          obtain ⟨p, o, i, t, y, n, rfl, go, co, dn, _⟩ := item v (hm v List.mem_cons_self)
          refine ⟨.int i t :: fs, .cons (kp p o go) co dn rfl k, by rw [List.length_cons, List.length_cons, e], fun f hf' => ?_⟩
          rcases List.mem_cons.mp hf' with rfl | h'
          · exact ⟨i, t, rfl⟩
          · exact hf f h'
      obtain ⟨fs, k, e, hf⟩ := tups its fun _ h => h
      refine kat_kind (T := .type "int") k (by omega) (fun v hv => ?_) rfl hq
      obtain ⟨i, t, rfl⟩ := hf v hv
      exact .now
    · obtain ⟨p, o, i, t, y1, n, rfl, go, co, dn, h1⟩ := item x hx
      obtain ⟨p', o', i', t', y2, n', rfl, go', co', dn', h1'⟩ := item y hy
      refine kat_lt (kp p o go) dn (kp p' o' go') dn' ?_
      show KatLex _ _ _ _ _ _ [(Value.int i t, Value.int i' t'), (y1, y2)] 0 s'
      refine kat_cons (wpAny_eqBool_int (kat_go (fun _ => kat_yes ?_) fun _ => kat_no ?_))
      · cases b with
        | true =>
          obtain ⟨x1, u1, rfl⟩ := (by simpa using h1 : ∃ x t', y1 = Value.str x t')
          obtain ⟨x2, u2, rfl⟩ := (by simpa using h1' : ∃ x t', y2 = Value.str x t')
          refine kat_cons (wpAny_eqBool_str (kat_go (fun _ => kat_yes (kat_nil (hC _))) fun _ => kat_no ?_))
          exact kat_one _ _ (lt_str (hC _))
        | false =>
          obtain ⟨x1, u1, rfl⟩ := (by simpa using h1 : ∃ x t', y1 = Value.int x t')
          obtain ⟨x2, u2, rfl⟩ := (by simpa using h1' : ∃ x t', y2 = Value.int x t')
          refine kat_cons (wpAny_eqBool_int (kat_go (fun _ => kat_yes (kat_nil (hC _))) fun _ => kat_no ?_))
          exact kat_one _ _ (PyProof.Rows.lt_int (hC _))
      · exact oneLt_int (hC _)
  refine sorted_any pl.isList (by omega) hcmp fun out hperm => ?_
  obtain ⟨ys, py, ry⟩ := rv.perm hperm
  obtain ⟨e, he⟩ := sortedAll_at s.heap its out
  have hd : H (s.heap.objs.size + 1) = none := I.hok.fresh (Nat.le_succ _)
  refine ⟨.ref (s.heap.objs.size + 1), _, I.laid (t' := s.toks) (o := .lst ys) (fun b o q => sortedAll_old q) (Nat.le_succ _) ⟨by rw [py.length_eq]; exact hz, out.toList, e, ry, by rw [Array.toArray_toList]; exact he⟩, rfl, q _ ys py hd⟩
end
end L2
end
section
set_option autoImplicit false
namespace L2
open PySem PySem.Spec PyProof.Rows
theorem bt_sorted : bootBuiltins "sorted" = some (.builtin "sorted") := by decide +kernel
section
variable {X : Cx} {K : PySem.W.Frag}
theorem pi_list_K {tg l : Expr} {tl : TE} (h : X.K = K) (hl : PE X l tl) : PI X tg l (iList K tl) := by subst h; exact pi_list hl
theorem call_any_K (h : X.K = K) (hc : X.calm = true) : CallR X (.builtin "any") (fun xs H Q => ∃ (p : Addr) (bs : List Bool), xs = [.ref p] ∧ SqL K H p (bs.map V.bl) ∧ Q (.bl (bs.any id)) H) := by subst h; exact call_any hc
end
end L2
end
section
set_option autoImplicit false
namespace L2
open PySem PyProof.Rows
theorem comp_by {J : It} {n own : Nat} {fr : List Nat} {g : TG} {tc : TT} {te : TE} {σ : St} {Q : VK} {D : Addr} {H0 : Hp} (Pv : Nat → List V → Hp → Prop) (h0 : Pv 0 [] H0) (stop : ∀ ys H, Pv n ys H → J.stop n H ∧ Q (.ref D) H)
    (go : ∀ i ys H, i < n → Pv i ys H → J.go i H ∧ ∀ x H', J.yld i H x H' → ∀ σo : St, σo.length = own → g x (σo ++ frv σ fr) H' fun σ2 H2 => (∃ σo' : St, σo'.length = own ∧ σ2 = σo' ++ frv σ fr) ∧
      tc σ2 H2 fun b H3 => if b = true then te σ2 H3 fun y H4 => ys.length < sizeLine ∧ H4 D = some (.lst ys) ∧ ∃ m', m' < n - i ∧ (m' = n - (i + 1) ∧ i + 1 ≤ n ∧ Pv (i + 1) (ys ++ [y]) (upd H4 D (.lst (ys ++ [y])))) else ∃ m', m' < n - i ∧ (m' = n - (i + 1) ∧ i + 1 ≤ n ∧ Pv (i + 1) ys H3)) :
    CompB own fr g tc te σ Q J D H0 := by
  refine ⟨fun i m ys H => m = n - i ∧ i ≤ n ∧ Pv i ys H, ⟨n, by simp, Nat.zero_le _, h0⟩, ?_⟩
  rintro i m ys H ⟨rfl, hi, p⟩
  by_cases hlt : i < n
  · exact .inr (go i ys H hlt p)
  · have e : i = n := by omega
    subst e
    exact .inl (stop ys H p)
theorem less_by {n i : Nat} (h : i < n) {P : Prop} (p : P) : ∃ m', m' < n - i ∧ (m' = n - (i + 1) ∧ i + 1 ≤ n ∧ P) := ⟨n - (i + 1), by omega, rfl, h, p⟩
theorem own1 {σo : St} (h : σo.length = 1) : ∃ o, σo = [o] := by
  cases σo with
  | nil => cases h
  | cons o r =>
    cases r with
    | nil => exact ⟨o, rfl⟩
    | cons _ _ => cases h
theorem own2 {σo : St} (h : σo.length = 2) : ∃ o o', σo = [o, o'] := by
  cases σo with
  | nil => cases h
  | cons o r =>
    cases r with
    | nil => cases h
    | cons o' r =>
      cases r with
      | nil => exact ⟨o, o', rfl⟩
      | cons _ _ => cases h
theorem nodup_map {α β : Type} {f : α → β} : ∀ {l : List α}, (∀ a ∈ l, ∀ b ∈ l, f a = f b → a = b) → l.Nodup → (l.map f).Nodup
  | [], _, _ => List.nodup_nil
  | a :: r, hi, hn => by
    obtain ⟨h1, h2⟩ := List.nodup_cons.mp hn
    rw [List.map_cons]
    refine List.nodup_cons.mpr ⟨fun m => ?_, nodup_map (fun x hx y hy => hi x (List.mem_cons_of_mem _ hx) y (List.mem_cons_of_mem _ hy)) h2⟩
    obtain ⟨b, hb, e⟩ := List.mem_map.mp m
    exact h1 (hi b (List.mem_cons_of_mem _ hb) a List.mem_cons_self e ▸ hb)
theorem nodup_le {α : Type} [DecidableEq α] : ∀ {l m : List α}, l.Nodup → (∀ x ∈ l, x ∈ m) → l.length ≤ m.length
  | [], _, _, _ => Nat.zero_le _
  | a :: r, m, hn, hs => by
    obtain ⟨h1, h2⟩ := List.nodup_cons.mp hn
    have hm : a ∈ m := hs a List.mem_cons_self
    have := nodup_le (l := r) (m := m.erase a) h2 fun x hx => by
      have ne : x ≠ a := fun e => h1 (e ▸ hx)
      exact (List.mem_erase_of_ne ne).mpr (hs x (List.mem_cons_of_mem _ hx))
    have e := List.length_erase_of_mem hm
    have p : 0 < m.length := List.length_pos_of_mem hm
    rw [List.length_cons]
    omega
theorem hu10 {A : Around} {k : Nat} (hr : Room k A) : A.units + 10 < cLine := by
  have := hr.units
  omega
def Pu (H : Hp) (p : Addr) : Prop := ∃ a b c : Int, H p = some (.lst [.int a, .int b, .int c])
theorem Pu.ne {H : Hp} {p u : Addr} {us : List Str} (h : Pu H p) (g : H u = some (.lst (us.map V.str))) : u ≠ p := by
  obtain ⟨a, b, c, e⟩ := h
  exact (ne_of e g strs_ne).symm
theorem Pu.upd {H : Hp} {p : Addr} {a b c : Int} : Pu (upd H p (.lst [.int a, .int b, .int c])) p := ⟨a, b, c, upd_same⟩
theorem Pu.same {H H' : Hp} {p : Addr} (h : Pu H p) (s : Same H H') : Pu H' p := by
  obtain ⟨a, b, c, e⟩ := h
  exact ⟨a, b, c, s p _ e⟩
theorem Pu.neN {H : Hp} {p q : Addr} (h : Pu H p) (g : H q = none) : p ≠ q := by
  obtain ⟨a, b, c, e⟩ := h
  exact ne_of_none e g
theorem Pu.upd_ne {H : Hp} {p q : Addr} {o : HO} (h : Pu H p) (g : p ≠ q) : Pu (L2.upd H q o) p := by
  obtain ⟨a, b, c, e⟩ := h
  exact ⟨a, b, c, by rw [L2.upd_ne g]; exact e⟩
theorem itePos {c A B : Prop} [Decidable c] (h : c) (a : A) : if c then A else B := by
  rw [if_pos h]
  exact a
theorem iteNeg {c A B : Prop} [Decidable c] (h : ¬ c) (b : B) : if c then A else B := by
  rw [if_neg h]
  exact b
def abc : Str := "abcdefghijklmnopqrstuvwxyz"
def letters : List Str := abc.cps.toList.map fun c => ⟨#[c]⟩
theorem letters_len : letters.length = 26 := by decide +kernel
theorem abc_len : abc.cps.size = 26 := by decide +kernel
theorem letters_one : ∀ x ∈ letters, x.length = 1 := by
  intro x hx
  obtain ⟨c, _, rfl⟩ := List.mem_map.mp hx
  rfl
theorem letters_nodup : letters.Nodup := by decide +kernel
theorem str_app_inj {a b z : Str} (ha : a.length = 1) (hb : b.length = 1) (h : a ++ z = b ++ z) : a = b := by
  obtain ⟨⟨a⟩⟩ := a
  obtain ⟨⟨b⟩⟩ := b
  have h' : (a ++ z.cps.toList) = (b ++ z.cps.toList) := by
    have e : ∀ y : List Nat, ((⟨⟨y⟩⟩ : Str) ++ z).cps.toList = y ++ z.cps.toList := fun y => by
      show ((⟨y⟩ : Array Nat) ++ z.cps).toList = _
      rw [Array.toList_append]
    rw [← e, ← e, h]
  have := List.append_cancel_right h'
  rw [this]
theorem str_len_app (a b : Str) : (a ++ b).length = a.length + b.length := by
  show (a.cps ++ b.cps).size = _
  rw [Array.size_append]
  rfl
theorem some_letter {us : List Str} (h : us.length ≤ 25) (z : Str) : ∃ c ∈ letters, ¬ (c ++ z) ∈ us := by
  apply Classical.byContradiction
  intro hn
  have all : ∀ c ∈ letters, (c ++ z) ∈ us := fun c hc => Classical.byContradiction fun hx => hn ⟨c, hc, hx⟩
  have nd : (letters.map (· ++ z)).Nodup := by
    exact nodup_map (fun a ha b hb e => str_app_inj (letters_one a ha) (letters_one b hb) e) letters_nodup
  have := nodup_le nd fun x hx => by
    obtain ⟨c, hc, rfl⟩ := List.mem_map.mp hx
    exact all c hc
  rw [List.length_map, letters_len] at this
  omega
theorem slice_len (z : Str) (lo hi : Option Int) : (Txt.slice z lo hi).length ≤ z.length := Txt.slice_le z lo hi
theorem for_enum {K : PySem.W.Frag} {a : Addr} {xs : List V} {g : TG} {tb : TS} {D : Ends} {σ : St} {H : Hp} (Pv : Nat → St → Hp → Prop) (h0 : Pv 0 σ H) (hl : ∀ i σ H, i ≤ xs.length → Pv i σ H → SqL K H a xs)
    (hs : ∀ i x σ H p, xs[i]? = some x → Pv i σ H → H p = none → g (.ref p) σ (upd H p (.tup [.int i, x])) fun σ2 H2 => tb { D with nx := Pv (i + 1), ct := Pv (i + 1), bk := D.nx } σ2 H2) (hd : ∀ σ H, Pv xs.length σ H → D.nx σ H) :
    ∃ W : Nat → Nat → St → Hp → Prop, (∃ m, W 0 m σ H) ∧ ∀ i m σ H, W i m σ H →
      ((Ite K a).stop i H ∧ D.nx σ H) ∨ ((Ite K a).go i H ∧ ∃ N : St → Hp → Prop, (∀ σ' H', N σ' H' → ∃ m', m' < m ∧ W (i + 1) m' σ' H') ∧ ∀ x H', (Ite K a).yld i H x H' → g x σ H' fun σ2 H2 => tb { D with nx := N, ct := N, bk := D.nx } σ2 H2) := by
  refine ⟨fun i m σ H => m = xs.length - i ∧ i ≤ xs.length ∧ Pv i σ H, ⟨xs.length, by simp, Nat.zero_le _, h0⟩, ?_⟩
  rintro i m σ H ⟨rfl, hi, p⟩
  have q := hl i σ H hi p
  by_cases hlt : i < xs.length
  · refine .inr ⟨⟨xs, xs[i], q, by simp [hlt]⟩, Pv (i + 1), fun σ' H' p' => ⟨xs.length - (i + 1), by omega, rfl, hlt, p'⟩, fun x H' y => ?_⟩
    obtain ⟨r, hr, rfl, y⟩ := y
    have e := y xs xs[i] q (by simp [hlt])
    subst e
    exact hs i xs[i] σ _ r (by simp [hlt]) p hr
  · have e : i = xs.length := by omega
    subst e
    exact .inl ⟨⟨xs, q, Nat.le_refl _⟩, hd σ H p⟩
theorem for_dict {o : Obj} {d : Addr} {kvs : List (Key × V)} {g : TG} {tb : TS} {D : Ends} {σ : St} {H : Hp} (Pv : Nat → St → Hp → Prop) (h0 : Pv 0 σ H) (hl : ∀ i σ H, i ≤ kvs.length → Pv i σ H → H d = some (.frz o (.dK kvs)))
    (hs : ∀ i kv σ H, kvs[i]? = some kv → Pv i σ H → g (kV kv.1) σ H fun σ2 H2 => tb { D with nx := Pv (i + 1), ct := Pv (i + 1), bk := D.nx } σ2 H2) (hd : ∀ σ H, Pv kvs.length σ H → D.nx σ H) :
    ∃ W : Nat → Nat → St → Hp → Prop, (∃ m, W 0 m σ H) ∧ ∀ i m σ H, W i m σ H →
      ((Itd o d kvs).stop i H ∧ D.nx σ H) ∨ ((Itd o d kvs).go i H ∧ ∃ N : St → Hp → Prop, (∀ σ' H', N σ' H' → ∃ m', m' < m ∧ W (i + 1) m' σ' H') ∧ ∀ x H', (Itd o d kvs).yld i H x H' → g x σ H' fun σ2 H2 => tb { D with nx := N, ct := N, bk := D.nx } σ2 H2) := by
  refine ⟨fun i m σ H => m = kvs.length - i ∧ i ≤ kvs.length ∧ Pv i σ H, ⟨kvs.length, by simp, Nat.zero_le _, h0⟩, ?_⟩
  rintro i m σ H ⟨rfl, hi, p⟩
  have q := hl i σ H hi p
  by_cases hlt : i < kvs.length
  · refine .inr ⟨⟨q, hlt⟩, Pv (i + 1), fun σ' H' p' => ⟨kvs.length - (i + 1), by omega, rfl, hlt, p'⟩, fun x H' y => ?_⟩
    obtain ⟨rfl, kv, e, rfl⟩ := y
    exact hs i kv σ _ e p
  · have e : i = kvs.length := by omega
    subst e
    exact .inl ⟨⟨q, Nat.le_refl _⟩, hd σ H p⟩
end L2
end
section
set_option autoImplicit false
namespace L2
open PySem PySem.Spec PyProof.Rows
section
variable {X : Cx} {K : PySem.W.Frag}
def rNeE (K : PySem.W.Frag) : R2 := fun x y H Q => ∃ (a b : Addr) (xs : List V), x = .ref a ∧ y = .ref b ∧ SqL K H a xs ∧ SqL K H b [] ∧ Q (.bl (!xs.isEmpty)) H
def rEqE (K : PySem.W.Frag) : R2 := fun x y H Q => ∃ (a b : Addr) (xs : List V), x = .ref a ∧ y = .ref b ∧ SqL K H a xs ∧ SqL K H b [] ∧ Q (.bl xs.isEmpty) H
theorem op_neE (hK : X.K = K) (hu : X.A.units < cLine) : OpR X (compareOp .NotEq) (rNeE K) := by
  subst hK
  intro pins s σ H x y v u Q I rx ry h
  obtain ⟨a, b, xs, rfl, rfl, ha, hb, q⟩ := h
  cases rx
  cases ry
  obtain ⟨its, r, p, _⟩ := I.list ha
  obtain ⟨its2, r2, p2, _⟩ := I.list hb
  have e2 : its2 = [] := r2.nil_iff.mpr rfl
  subst e2
  cases xs with
  | nil =>
    have e1 : its = [] := r.nil_iff.mpr rfl
    subst e1
    exact SeqAt.RcNeAt.lists (A := X.A) (s := s) (e := fun _ => true) p.isList p2.isList rfl hu (fun j h1 _ => by simp at h1) X.prog X.w X.xe _ ⟨.bl false, H, I, rfl, q⟩
  | cons x0 xr =>
    have hl := r.length
    refine SeqAt.RcNeAt.lists_lengths (A := X.A) (s := s) p.isList p2.isList ?_ hu X.prog X.w X.xe _ ⟨.bl true, H, I, rfl, q⟩
    rw [List.length_cons] at hl
    have : its.length ≠ 0 := by omega
    simpa using this
theorem op_eqE (hK : X.K = K) (hu : X.A.units < cLine) : OpR X (compareOp .Eq) (rEqE K) := by
  subst hK
  intro pins s σ H x y v u Q I rx ry h
  obtain ⟨a, b, xs, rfl, rfl, ha, hb, q⟩ := h
  cases rx
  cases ry
  obtain ⟨its, r, p, _⟩ := I.list ha
  obtain ⟨its2, r2, p2, _⟩ := I.list hb
  have e2 : its2 = [] := r2.nil_iff.mpr rfl
  subst e2
  cases xs with
  | nil =>
    have e1 : its = [] := r.nil_iff.mpr rfl
    subst e1
    exact SeqAt.RcAt.lists (A := X.A) (s := s) (e := fun _ => true) p.isList p2.isList rfl hu (fun j h1 _ => by simp at h1) X.prog X.w X.xe _ ⟨.bl true, H, I, rfl, q⟩
  | cons x0 xr =>
    have hl := r.length
    refine SeqAt.RcAt.lists_lengths (A := X.A) (s := s) p.isList p2.isList ?_ hu X.prog X.w X.xe _ ⟨.bl false, H, I, rfl, q⟩
    rw [List.length_cons] at hl
    have : its.length ≠ 0 := by omega
    simpa using this
theorem call_len_seqK (hK : X.K = K) : CallR X (.builtin "len") (fun xs H Q => ∃ p ys, xs = [.ref p] ∧ (SqL K H p ys ∨ SqT K H p ys) ∧ Q (.int ys.length) H) := by subst hK; exact call_len_seq
theorem call_list_ofK (hK : X.K = K) : CallR X (.type "list") (fun xs H Q => ∃ p ys, xs = [.ref p] ∧ (SqL K H p ys ∨ SqT K H p ys) ∧ ∀ l, H l = none → Q (.ref l) (upd H l (.lst ys))) := by subst hK; exact call_list_of
end
end L2
end
section
set_option autoImplicit false
namespace K10
open PySem L2
def top (i : Nat) : Stmt := PySem.Challenge.pw_warmrows_k10_looks_along_orders.main.body.getD i (.Pass ⟨0, 0, 0, 0⟩)
structure Adr where
  is_kind : Addr × FuncData
  check_kind : Addr × FuncData
  kinds_of : Addr × FuncData
  row_at : Addr × FuncData
  own_body : Addr × FuncData
  look_along : Addr × FuncData
  found : Addr × FuncData
  behind : Addr × FuncData
  _law_cell : Addr × FuncData
  _law_cells : Addr × FuncData
  _law_purse : Addr × FuncData
  _law_take : Addr × FuncData
  _law_word : Addr × FuncData
  _law_names : Addr × FuncData
  _law_some : Addr × FuncData
  _law_merge : Addr × FuncData
  _law_elders : Addr × FuncData
  _law_own : Addr × FuncData
  _law_table : Addr × FuncData
  _law_odd : Addr × FuncData
  _law_same : Addr × FuncData
  _law_look : Addr × FuncData
  _law_rest : Addr × FuncData
  _law_called : Addr × FuncData
  _law_looks : Addr × FuncData
  law : Addr × FuncData
structure Defs (K : PySem.W.Frag) (mg : Str → Option Value) (t : Adr) : Prop where
  is_kind : Fnd K mg "is_kind" (top 4) ["thing", "kinds"] t.is_kind.1 t.is_kind.2
  check_kind : Fnd K mg "check_kind" (top 5) ["kind", "kinds"] t.check_kind.1 t.check_kind.2
  kinds_of : Fnd K mg "kinds_of" (top 6) ["rows"] t.kinds_of.1 t.kinds_of.2
  row_at : Fnd K mg "row_at" (top 8) ["table", "kind"] t.row_at.1 t.row_at.2
  own_body : Fnd K mg "own_body" (top 9) ["row", "deed"] t.own_body.1 t.own_body.2
  look_along : Fnd K mg "look_along" (top 10) ["table", "kinds", "deed"] t.look_along.1 t.look_along.2
  found : Fnd K mg "found" (top 11) ["table", "kind", "deed"] t.found.1 t.found.2
  behind : Fnd K mg "behind" (top 12) ["table", "kind", "home", "deed"] t.behind.1 t.behind.2
  _law_cell : Fnd K mg "_law_cell" (top 14) ["_law_script", "_law_k"] t._law_cell.1 t._law_cell.2
  _law_cells : Fnd K mg "_law_cells" (top 15) ["_law_script", "_law_first", "_law_least", "_law_most"] t._law_cells.1 t._law_cells.2
  _law_purse : Fnd K mg "_law_purse" (top 16) ["_law_cell_here"] t._law_purse.1 t._law_purse.2
  _law_take : Fnd K mg "_law_take" (top 17) ["_law_purse_here", "_law_many"] t._law_take.1 t._law_take.2
  _law_word : Fnd K mg "_law_word" (top 18) ["_law_purse_here", "_law_used"] t._law_word.1 t._law_word.2
  _law_names : Fnd K mg "_law_names" (top 19) ["_law_purse_here", "_law_many", "_law_used"] t._law_names.1 t._law_names.2
  _law_some : Fnd K mg "_law_some" (top 20) ["_law_purse_here", "_law_menu", "_law_most"] t._law_some.1 t._law_some.2
  _law_merge : Fnd K mg "_law_merge" (top 21) ["_law_kind", "_law_rows"] t._law_merge.1 t._law_merge.2
  _law_elders : Fnd K mg "_law_elders" (top 22) ["_law_purse_here", "_law_names_here", "_law_shape", "_law_orders"] t._law_elders.1 t._law_elders.2
  _law_own : Fnd K mg "_law_own" (top 23) ["_law_purse_here", "_law_deeds"] t._law_own.1 t._law_own.2
  _law_table : Fnd K mg "_law_table" (top 24) ["_law_purse_here", "_law_many", "_law_deeds", "_law_fields"] t._law_table.1 t._law_table.2
  _law_odd : Fnd K mg "_law_odd" (top 25) ["_law_purse_here"] t._law_odd.1 t._law_odd.2
  _law_same : Fnd K mg "_law_same" (top 26) ["_law_told", "_law_due"] t._law_same.1 t._law_same.2
  _law_look : Fnd K mg "_law_look" (top 27) ["_law_rows", "_law_homes", "_law_deed"] t._law_look.1 t._law_look.2
  _law_rest : Fnd K mg "_law_rest" (top 28) ["_law_order", "_law_home"] t._law_rest.1 t._law_rest.2
  _law_called : Fnd K mg "_law_called" (top 29) ["_law_other", "_law_table_here"] t._law_called.1 t._law_called.2
  _law_looks : Fnd K mg "_law_looks" (top 30) ["_law_table_here", "_law_names_here"] t._law_looks.1 t._law_looks.2
  law : Fnd K mg "law" (top 31) ["_law_script"] t.law.1 t.law.2
  b_abs : mg "abs" = none
  b_all : mg "all" = none
  b_any : mg "any" = none
  b_bool : mg "bool" = none
  b_enumerate : mg "enumerate" = none
  b_int : mg "int" = none
  b_isinstance : mg "isinstance" = none
  b_len : mg "len" = none
  b_list : mg "list" = none
  b_max : mg "max" = none
  b_min : mg "min" = none
  b_range : mg "range" = none
  b_sorted : mg "sorted" = none
  b_str : mg "str" = none
  b_tuple : mg "tuple" = none
theorem sc_is_kind : FnScope ["thing", "kinds"] ["thing", "kinds"] (defScope (top 4)) := ⟨rfl, rfl, rfl, by decide +kernel, rfl, by decide +kernel, by decide +kernel⟩
theorem sc_check_kind : FnScope ["kind", "kinds"] ["kind", "kinds"] (defScope (top 5)) := ⟨rfl, rfl, rfl, by decide +kernel, rfl, by decide +kernel, by decide +kernel⟩
theorem sc_kinds_of : FnScope ["rows"] ["rows"] (defScope (top 6)) := ⟨rfl, rfl, rfl, by decide +kernel, rfl, by decide +kernel, by decide +kernel⟩
theorem sc_row_at : FnScope ["table", "kind"] ["table", "kind"] (defScope (top 8)) := ⟨rfl, rfl, rfl, by decide +kernel, rfl, by decide +kernel, by decide +kernel⟩
theorem sc_own_body : FnScope ["row", "deed", "name", "body"] ["row", "deed"] (defScope (top 9)) := ⟨rfl, rfl, rfl, by decide +kernel, rfl, by decide +kernel, by decide +kernel⟩
theorem sc_look_along : FnScope ["table", "kinds", "deed", "home", "body"] ["table", "kinds", "deed"] (defScope (top 10)) := ⟨rfl, rfl, rfl, by decide +kernel, rfl, by decide +kernel, by decide +kernel⟩
theorem sc_found : FnScope ["table", "kind", "deed"] ["table", "kind", "deed"] (defScope (top 11)) := ⟨rfl, rfl, rfl, by decide +kernel, rfl, by decide +kernel, by decide +kernel⟩
theorem sc_behind : FnScope ["table", "kind", "home", "deed", "order"] ["table", "kind", "home", "deed"] (defScope (top 12)) := ⟨rfl, rfl, rfl, by decide +kernel, rfl, by decide +kernel, by decide +kernel⟩
theorem sc__law_cell : FnScope ["_law_script", "_law_k", "_law_state", "_law_cell_here"] ["_law_script", "_law_k"] (defScope (top 14)) := ⟨rfl, rfl, rfl, by decide +kernel, rfl, by decide +kernel, by decide +kernel⟩
theorem sc__law_cells : FnScope ["_law_script", "_law_first", "_law_least", "_law_most", "_law_many"] ["_law_script", "_law_first", "_law_least", "_law_most"] (defScope (top 15)) := ⟨rfl, rfl, rfl, by decide +kernel, rfl, by decide +kernel, by decide +kernel⟩
theorem sc__law_purse : FnScope ["_law_cell_here", "_law_digits"] ["_law_cell_here"] (defScope (top 16)) := ⟨rfl, rfl, rfl, by decide +kernel, rfl, by decide +kernel, by decide +kernel⟩
theorem sc__law_take : FnScope ["_law_purse_here", "_law_many", "_law_state", "_law_taken"] ["_law_purse_here", "_law_many"] (defScope (top 17)) := ⟨rfl, rfl, rfl, by decide +kernel, rfl, by decide +kernel, by decide +kernel⟩
theorem sc__law_word : FnScope ["_law_purse_here", "_law_used", "_law_word_here", "_law_k", "_law_first"] ["_law_purse_here", "_law_used"] (defScope (top 18)) := ⟨rfl, rfl, rfl, by decide +kernel, rfl, by decide +kernel, by decide +kernel⟩
theorem sc__law_names : FnScope ["_law_purse_here", "_law_many", "_law_used", "_law_pick", "_law_word_here", "_law_place", "_law_first", "_law_names_here", "_law_k", "_law_sign", "_law_near"] ["_law_purse_here", "_law_many", "_law_used"] (defScope (top 19)) := ⟨rfl, rfl, rfl, by decide +kernel, rfl, by decide +kernel, by decide +kernel⟩
theorem sc__law_some : FnScope ["_law_purse_here", "_law_menu", "_law_most", "_law_some_here", "_law_k", "_law_one"] ["_law_purse_here", "_law_menu", "_law_most"] (defScope (top 20)) := ⟨rfl, rfl, rfl, by decide +kernel, rfl, by decide +kernel, by decide +kernel⟩
theorem sc__law_merge : FnScope ["_law_kind", "_law_rows", "_law_order", "_law_good"] ["_law_kind", "_law_rows"] (defScope (top 21)) := ⟨rfl, rfl, rfl, by decide +kernel, rfl, by decide +kernel, by decide +kernel⟩
theorem sc__law_elders : FnScope ["_law_purse_here", "_law_names_here", "_law_shape", "_law_orders", "_law_elders_here"] ["_law_purse_here", "_law_names_here", "_law_shape", "_law_orders"] (defScope (top 22)) := ⟨rfl, rfl, rfl, by decide +kernel, rfl, by decide +kernel, by decide +kernel⟩
theorem sc__law_own : FnScope ["_law_purse_here", "_law_deeds", "_law_some_here"] ["_law_purse_here", "_law_deeds"] (defScope (top 23)) := ⟨rfl, rfl, rfl, by decide +kernel, rfl, by decide +kernel, by decide +kernel⟩
theorem sc__law_table : FnScope ["_law_purse_here", "_law_many", "_law_deeds", "_law_fields", "_law_shape", "_law_names_here", "_law_rows", "_law_orders", "_law_k", "_law_kind", "_law_elders_here", "_law_number", "_law_places"] ["_law_purse_here", "_law_many", "_law_deeds", "_law_fields"] (defScope (top 24)) := ⟨rfl, rfl, rfl, by decide +kernel, rfl, by decide +kernel, by decide +kernel⟩
theorem sc__law_odd : FnScope ["_law_purse_here", "_law_menu", "_law_pick", "_law_deep", "_law_k"] ["_law_purse_here"] (defScope (top 25)) := ⟨rfl, rfl, rfl, by decide +kernel, rfl, by decide +kernel, by decide +kernel⟩
theorem sc__law_same : FnScope ["_law_told", "_law_due"] ["_law_told", "_law_due"] (defScope (top 26)) := ⟨rfl, rfl, rfl, by decide +kernel, rfl, by decide +kernel, by decide +kernel⟩
theorem sc__law_look : FnScope ["_law_rows", "_law_homes", "_law_deed", "_law_home", "_law_own_here", "_law_body"] ["_law_rows", "_law_homes", "_law_deed"] (defScope (top 27)) := ⟨rfl, rfl, rfl, by decide +kernel, rfl, by decide +kernel, by decide +kernel⟩
theorem sc__law_rest : FnScope ["_law_order", "_law_home"] ["_law_order", "_law_home"] (defScope (top 28)) := ⟨rfl, rfl, rfl, by decide +kernel, rfl, by decide +kernel, by decide +kernel⟩
theorem sc__law_called : FnScope ["_law_other", "_law_table_here", "_law_names_here", "_law_k", "_law_rows", "_law_row", "_law_elders_here", "_law_order"] ["_law_other", "_law_table_here"] (defScope (top 29)) := ⟨rfl, rfl, rfl, by decide +kernel, rfl, by decide +kernel, by decide +kernel⟩
theorem sc__law_looks : FnScope ["_law_table_here", "_law_names_here", "_law_rows", "_law_row", "_law_deed", "_law_home", "_law_due"] ["_law_table_here", "_law_names_here"] (defScope (top 30)) := ⟨rfl, rfl, rfl, by decide +kernel, rfl, by decide +kernel, by decide +kernel⟩
theorem sc_law : FnScope ["_law_script", "_law_purse_here", "_law_many", "_law_deeds", "_law_table_here", "_law_rows", "_law_row", "_law_names_here", "_law_other", "_law_cell_here", "_law_deed", "_law_pick", "_law_home", "_law_due"] ["_law_script"] (defScope (top 31)) := ⟨rfl, rfl, rfl, by decide +kernel, rfl, by decide +kernel, by decide +kernel⟩
end K10
end
section
set_option autoImplicit false
namespace L2
open PySem PyProof.Rows
def heldIn (rows : List (List Str)) (x : Str) : Bool := rows.any fun o => decide (x ∈ o.drop 1)
def freeOf (rows : List (List Str)) : List Str → List Str
  | [] => []
  | x :: _ => if heldIn rows x = true then [] else [x]
def frees (rows : List (List Str)) : List Str := rows.flatMap (freeOf rows)
def outOf (x : Str) (r : List Str) : List Str := r.filter fun y => decide (y ≠ x)
def full (rows : List (List Str)) : List (List Str) := rows.filter fun r => !r.isEmpty
inductive Mg : List (List Str) → Option (List Str) → Prop where
  | nil : Mg [] (some [])
  | stuck {rows : List (List Str)} : rows ≠ [] → frees rows = [] → Mg rows none
  | step {rows : List (List Str)} {x : Str} {more : List Str} {r : Option (List Str)} : frees rows = x :: more → Mg (full (rows.map (outOf x))) r → Mg rows (r.map (x :: ·))
theorem Mg.det {rows : List (List Str)} {r : Option (List Str)} (h : Mg rows r) : ∀ {r' : Option (List Str)}, Mg rows r' → r = r' := by
  induction h with
  | nil =>
    intro r' h'
    cases h' with
    | nil => rfl
    | stuck h _ => exact absurd rfl h
    | step h _ => cases h
  | stuck h1 h2 =>
    intro r' h'
    cases h' with
    | nil => exact absurd rfl h1
    | stuck _ _ => rfl
    | step h _ => rw [h2] at h; cases h
  | step h1 _ ih =>
    intro r' h'
    cases h' with
    | nil => cases h1
    | stuck _ h => rw [h1] at h; cases h
    | step h hr =>
      rw [h1] at h
      cases h
      rw [ih hr]
def tot (rows : List (List Str)) : Nat := (rows.map List.length).sum
theorem tot_cons (r : List Str) (rows : List (List Str)) : tot (r :: rows) = r.length + tot rows := by
  unfold tot
  rw [List.map_cons, List.sum_cons]
theorem tot_full : ∀ (rows : List (List Str)), tot (full rows) = tot rows
  | [] => rfl
  | r :: rows => by
    unfold full
    rw [List.filter_cons]
    have ih := tot_full rows
    unfold full at ih
    cases r with
    | nil =>
      rw [tot_cons, ← ih]
      simp
    | cons y r => simp only [List.isEmpty_cons, Bool.not_false, if_true]; rw [tot_cons, tot_cons, ih]
theorem out_le (x : Str) (r : List Str) : (outOf x r).length ≤ r.length := List.length_filter_le _ _
theorem tot_out_le (x : Str) : ∀ (rows : List (List Str)), tot (rows.map (outOf x)) ≤ tot rows
  | [] => Nat.le_refl _
  | r :: rows => by
    rw [List.map_cons, tot_cons, tot_cons]
    have := tot_out_le x rows
    have := out_le x r
    omega
theorem tot_out_lt {x : Str} : ∀ {rows : List (List Str)}, (∃ r ∈ rows, x ∈ r) → tot (rows.map (outOf x)) < tot rows
  | [], ⟨_, h, _⟩ => nomatch h
  | r :: rows, ⟨q, hq, hx⟩ => by
    rw [List.map_cons, tot_cons, tot_cons]
    have h1 := tot_out_le x rows
    have h2 := out_le x r
    rcases List.mem_cons.mp hq with rfl | h
    · have : (outOf x q).length < q.length := by
        unfold outOf
        refine Nat.lt_of_le_of_ne (List.length_filter_le _ _) fun e => ?_
        have := List.length_filter_eq_length_iff.mp e x hx
        simp at this
      omega
    · have := tot_out_lt ⟨q, h, hx⟩
      omega
theorem frees_mem {rows : List (List Str)} {x : Str} (h : x ∈ frees rows) : ∃ r ∈ rows, r.head? = some x := by
  obtain ⟨r, hr, hx⟩ := List.mem_flatMap.mp h
  refine ⟨r, hr, ?_⟩
  cases r with
  | nil => cases hx
  | cons y r =>
    have hx : x ∈ (if heldIn rows y = true then [] else [y]) := hx
    by_cases hh : heldIn rows y = true
    · rw [if_pos hh] at hx
      cases hx
    · rw [if_neg hh] at hx
      rw [List.mem_singleton.mp hx]
      rfl
theorem tot_le_mem {rows : List (List Str)} {r : List Str} (h : r ∈ rows) : r.length ≤ tot rows := by
  induction rows with
  | nil => cases h
  | cons q rows ih =>
    rw [tot_cons]
    rcases List.mem_cons.mp h with rfl | h
    · omega
    · have := ih h
      omega
theorem full_len_le : ∀ (rows : List (List Str)), (full rows).length ≤ tot rows
  | [] => Nat.le_refl _
  | r :: rows => by
    have ih := full_len_le rows
    unfold full at ih ⊢
    rw [List.filter_cons, tot_cons]
    cases r with
    | nil => simpa using ih
    | cons y r => simp only [List.isEmpty_cons, Bool.not_false, if_true, List.length_cons]; omega
def RowsT (H : Hp) (vs : List V) (rows : List (List Str)) : Prop := Paired (fun (v : V) (r : List Str) => ∃ a, v = .ref a ∧ H a = some (.tup (r.map V.str))) vs rows
def RowsL (H : Hp) (vs : List V) (rows : List (List Str)) : Prop := Paired (fun (v : V) (r : List Str) => ∃ a, v = .ref a ∧ H a = some (.lst (r.map V.str))) vs rows
theorem RowsT.mono {H H' : Hp} {vs : List V} {rows : List (List Str)} (h : RowsT H vs rows) (s : Tups H H') : RowsT H' vs rows := Paired.mapP h fun v r ⟨a, e, q⟩ => ⟨a, e, s a _ q⟩
def RowsX (H : Hp) (D : Addr) (vs : List V) (rows : List (List Str)) : Prop := Paired (fun (v : V) (r : List Str) => ∃ a, v = .ref a ∧ a ≠ D ∧ H a = some (.lst (r.map V.str))) vs rows
theorem RowsX.l {H : Hp} {D : Addr} {vs : List V} {rows : List (List Str)} (h : RowsX H D vs rows) : RowsL H vs rows := Paired.mapP h fun v r ⟨a, e, _, q⟩ => ⟨a, e, q⟩
theorem RowsX.mono {H H' : Hp} {D : Addr} {vs : List V} {rows : List (List Str)} (h : RowsX H D vs rows) (s : Same H H') : RowsX H' D vs rows := Paired.mapP h fun v r ⟨a, e, n, q⟩ => ⟨a, e, n, s a _ q⟩
def RowsY (H : Hp) (D E : Addr) (vs : List V) (rows : List (List Str)) : Prop := Paired (fun (v : V) (r : List Str) => ∃ a, v = .ref a ∧ a ≠ D ∧ a ≠ E ∧ H a = some (.lst (r.map V.str))) vs rows
theorem RowsY.x {H : Hp} {D E : Addr} {vs : List V} {rows : List (List Str)} (h : RowsY H D E vs rows) : RowsX H E vs rows := Paired.mapP h fun v r ⟨a, e, _, n, q⟩ => ⟨a, e, n, q⟩
theorem RowsY.grow {H H' : Hp} {D E : Addr} {o : HO} {vs : List V} {rows : List (List Str)} (h : RowsY H D E vs rows) (s : Same H H') : RowsY (upd H' D o) D E vs rows := Paired.mapP h fun v r ⟨a, e, n, n', q⟩ => ⟨a, e, n, n', by rw [upd_ne n]; exact s a _ q⟩
theorem RowsY.mono {H H' : Hp} {D E : Addr} {vs : List V} {rows : List (List Str)} (h : RowsY H D E vs rows) (s : Same H H') : RowsY H' D E vs rows := Paired.mapP h fun v r ⟨a, e, n, n', q⟩ => ⟨a, e, n, n', s a _ q⟩
theorem RowsX.get {H : Hp} {D : Addr} {vs : List V} {rows : List (List Str)} (h : RowsX H D vs rows) {i : Nat} (hi : i < vs.length) : ∃ (a : Addr) (hr : i < rows.length), vs[i]? = some (.ref a) ∧ a ≠ D ∧ H a = some (.lst (rows[i].map V.str)) := by
  have hr : i < rows.length := by rw [← Paired.length h]; exact hi
  obtain ⟨a, e, n, q⟩ := paired_get h i hi hr
  exact ⟨a, hr, by rw [List.getElem?_eq_getElem hi, e], n, q⟩
theorem at0 (y : Str) (r : List Str) : atI ((y :: r).map V.str) 0 = some (.str y) := atI_nat (j := 0) rfl
theorem free_len (R : List (List Str)) : ∀ (rows : List (List Str)), (rows.flatMap (freeOf R)).length ≤ rows.length
  | [] => Nat.le_refl _
  | r :: rows => by
    rw [List.flatMap_cons, List.length_append, List.length_cons]
    have := free_len R rows
    have : (freeOf R r).length ≤ 1 := by
      cases r with
      | nil => exact Nat.zero_le _
      | cons y r =>
        show (if heldIn R y = true then [] else [y]).length ≤ 1
        split <;> simp
    omega
theorem pairedSnoc {α β : Type} {F : α → β → Prop} {as : List α} {bs : List β} {a : α} {b : β} (h : Paired F as bs) (hy : F a b) : Paired F (as ++ [a]) (bs ++ [b]) := by
  induction h with
  | nil => exact .cons hy .nil
  | cons a _ ih => exact .cons a ih
theorem RowsT.get {H : Hp} {vs : List V} {rows : List (List Str)} (h : RowsT H vs rows) {i : Nat} (hi : i < vs.length) : ∃ (a : Addr) (hr : i < rows.length), vs[i]? = some (.ref a) ∧ H a = some (.tup (rows[i].map V.str)) := by
  have hr : i < rows.length := by rw [← Paired.length h]; exact hi
  obtain ⟨a, e, q⟩ := paired_get h i hi hr
  exact ⟨a, hr, by rw [List.getElem?_eq_getElem hi, e], q⟩
theorem take_snoc {α : Type} {l : List α} {i : Nat} (h : i < l.length) : l.take (i + 1) = l.take i ++ [l[i]] := by
  rw [List.take_succ, List.getElem?_eq_getElem h]
  rfl
theorem full_snoc (rows : List (List Str)) (r : List Str) : full (rows ++ [r]) = full rows ++ (if r.isEmpty = true then [] else [r]) := by
  unfold full
  rw [List.filter_append]
  congr 1
  cases r <;> rfl
theorem yes_by {σ : L2.St} {H : Hp} {A B : Hp → Prop} (h : A H) : tYes σ H (fun b H3 => if b = true then A H3 else B H3) := by
  show (if true = true then A H else B H)
  rw [if_pos rfl]
  exact h
def ResM (H : Hp) (x : Str) (r : Option (List Str)) (v : V) : Prop := match r with
  | none => v = .non
  | some os => ∃ q, v = .ref q ∧ H q = some (.tup ((x :: os).map V.str))
theorem cut1 (r : List Str) : cutV (r.map V.str) (some 1) none = (r.drop 1).map V.str := by
  unfold cutV
  rw [List.length_map]
  have e1 : HT.sIx r.length 0 (some 1) = min 1 r.length := HT.sIx_nat r.length 0 1
  have e2 : HT.sIx r.length r.length none = r.length := rfl
  rw [e1, e2, ← List.map_drop, ← List.map_take]
  congr 1
  cases r with
  | nil => rfl
  | cons y r =>
    have : min 1 (y :: r).length = 1 := by simp
    rw [this]
    exact List.take_of_length_le (by simp)
end L2
end
section
set_option autoImplicit false
namespace K10
open PySem PyProof.Rows L2
section
variable {P : Program} {w : World} {K : PySem.W.Frag} {mg : Str → Option Value} {base : Heap} {t : Adr}
def spMerge : Sp := fun vs H Q _ => ∃ (x : Str) (rl : Addr) (us : List V) (rows : List (List Str)), vs = [.str x, .ref rl] ∧ H rl = some (.lst us) ∧ RowsT H us rows ∧ tot rows ≤ 1000 ∧ rows.length ≤ 1000 ∧
  ∀ (v : V) (r : Option (List Str)) H', Mg (full rows) r → ResM H' x r v → Same H H' → Q v H'
theorem ok_merge (D : Defs K mg t) : FnOk P w K mg base CX0 1 t._law_merge.1 t._law_merge.2 ["_law_kind", "_law_rows"] spMerge := by
  have hz : sizeLine = 16777216 := sizeLine_eq
  refine D._law_merge.fn.ok sc__law_merge (fun vs H Q E h => ?_) (fun cdv A outer s H vs Q E hr h => ?_)
  · obtain ⟨x, rl, us, rows, rfl, _⟩ := h
    rfl
  · obtain ⟨x, rl, us, rows, rfl, hrl, rt, htot, hlen, k⟩ := h
    have hul : us.length = rows.length := Paired.length rt
    refine ⟨_, (pss_cons (ps_set (i := 2) sc__law_merge.nd rfl (Or.inl rfl) (pe_lst (pa_cons (pv 0) pa_nil)))
      (pss_cons (ps_set (i := 1) sc__law_merge.nd rfl (Or.inr rfl) (pe_comp rfl (CompScope.of ["_law_row"] [] ["_law_row"] (defScope (top 21)) ["_law_kind", "_law_rows", "_law_order", "_law_good"] rfl rfl (by decide +kernel)) ⟨fun _ _ _ _ _ => (pg_name (i := 0) (show List.Nodup [("_law_row" : Str)] by decide +kernel) rfl (Or.inl (lookup_relabel_local rfl)) (.inr (lookup_relabel_local rfl))), fun _ _ _ _ _ => (pts_one (pt_cmpR op_gt (pe_callB (call_len_seqK (K := K) rfl) (by rfl) D.b_len bt_len (pa_cons (pv 0) pa_nil)) pe_int (nomark _))), fun _ _ _ _ _ => (pe_callTy (call_list_ofK (K := K) rfl) (by rfl) D.b_list bt_list (pa_cons (pv 0) pa_nil))⟩ (pi_list (pv 1))))
      (pss_cons (ps_while PassesOwn.never (pt_cmpR (op_neE rfl hr.units0) (pv 1) (pe_lst pa_nil) (nomark _))
      (pss_cons (ps_set (i := 3) sc__law_merge.nd rfl (Or.inr rfl) (pe_comp rfl (CompScope.of ["_law_row"] [1] ["_law_row", "_law_rows"] (defScope (top 21)) ["_law_kind", "_law_rows", "_law_order", "_law_good"] rfl rfl (by decide +kernel)) ⟨fun _ _ _ _ _ => (pg_name (i := 0) (show List.Nodup [("_law_row" : Str), ("_law_rows" : Str)] by decide +kernel) rfl (Or.inr (lookup_relabel_cell rfl)) (.inl rfl)), fun _ _ _ _ _ => (pts_one (pt_not (pt_val (pe_callB (call_any_K (K := K) rfl rfl) (by rfl) D.b_any bt_any (pa_cons (pe_comp rfl (CompScope.of2 ["_law_other"] [0] ["_law_other", "_law_row"] ["_law_row", "_law_rows"] rfl rfl (by decide +kernel)) ⟨fun _ _ _ _ _ => (pg_name (i := 0) (show List.Nodup [("_law_other" : Str), ("_law_row" : Str)] by decide +kernel) rfl (Or.inl (lookup_relabel_local rfl)) (.inr (lookup_relabel_local rfl))), fun _ _ _ _ _ => pts_nil, fun _ _ _ _ _ => (pe_cmpR (op_in_K (K := K) rfl) (pe_ix (ix_list_K (K := K) rfl) (pv 1) pe_int (fun _ _ => rfl)) (pe_slice (sl_list_K (K := K) rfl) (pv 0) (po_some pe_int) po_none) (by with_unfolding_all rfl))⟩ (pi_list_K (K := K) rfl (pv 1))) pa_nil))))), fun _ _ _ _ _ => (pe_ix (ix_list_K (K := K) rfl) (pv 0) pe_int (fun _ _ => rfl))⟩ (pi_list (pv 1))))
      (pss_cons (ps_if (pt_cmpR (op_eqE rfl hr.units0) (pv 3) (pe_lst pa_nil) (nomark _))
      (pss_one (ps_ret pe_non))
      pss_nil)
      (pss_cons (ps_expr (pe_bm PySem.F.plainAttrs_list PySem.F.slot_list_append PySem.F.type_list_append mt_append (pv 2) (pa_cons (pe_ix ix_list (pv 3) pe_int (fun _ _ => rfl)) pa_nil)))
      (pss_cons (ps_set (i := 1) sc__law_merge.nd rfl (Or.inr rfl) (pe_comp rfl (CompScope.of ["_law_row"] [3] ["_law_row", "_law_good"] (defScope (top 21)) ["_law_kind", "_law_rows", "_law_order", "_law_good"] rfl rfl (by decide +kernel)) ⟨fun _ _ _ _ _ => (pg_name (i := 0) (show List.Nodup [("_law_row" : Str), ("_law_good" : Str)] by decide +kernel) rfl (Or.inl (lookup_relabel_local rfl)) (.inr (lookup_relabel_local rfl))), fun _ _ _ _ _ => pts_nil, fun _ _ _ _ _ => (pe_comp rfl (CompScope.of2 ["_law_one"] [1] ["_law_one", "_law_good"] ["_law_row", "_law_good"] rfl rfl (by decide +kernel)) ⟨fun _ _ _ _ _ => (pg_name (i := 0) (show List.Nodup [("_law_one" : Str), ("_law_good" : Str)] by decide +kernel) rfl (Or.inl (lookup_relabel_local rfl)) (.inr (lookup_relabel_local rfl))), fun _ _ _ _ _ => (pts_one (pt_cmpR op_ne (pv 0) (pe_ix (ix_list_K (K := K) rfl) (pv 1) pe_int (fun _ _ => rfl)) (nomark _))), fun _ _ _ _ _ => (pv 0)⟩ (pi_list_K (K := K) rfl (pv 0)))⟩ (pi_list (pv 1))))
      (pss_one (ps_set (i := 1) sc__law_merge.nd rfl (Or.inr rfl) (pe_comp rfl (CompScope.of ["_law_row"] [] ["_law_row"] (defScope (top 21)) ["_law_kind", "_law_rows", "_law_order", "_law_good"] rfl rfl (by decide +kernel)) ⟨fun _ _ _ _ _ => (pg_name (i := 0) (show List.Nodup [("_law_row" : Str)] by decide +kernel) rfl (Or.inl (lookup_relabel_local rfl)) (.inr (lookup_relabel_local rfl))), fun _ _ _ _ _ => (pts_one (pt_cmpR (op_neE (K := K) rfl hr.units0) (pv 0) (pe_lst pa_nil) (nomark _))), fun _ _ _ _ _ => (pv 0)⟩ (pi_list (pv 1))))))))))
      (pss_one (ps_ret (pe_callTy call_tuple_of (by rfl) D.b_tuple bt_tuple (pa_cons (pv 2) pa_nil))))))), ?_⟩
    refine ⟨_, rfl, by show 1 ≤ sizeLine; decide, fun ol hol => ?_⟩
    have s0 : Same H (upd H ol (.lst [.str x])) := Same.new hol
    refine ⟨_, rfl, rl, rfl, ⟨_, SqL.of (s0 rl _ hrl)⟩, fun D1 hD1 => ?_⟩
    have olD1 : ol ≠ D1 := ne_of_none upd_same hD1
    have hD1H : H D1 = none := by rw [upd_ne olD1.symm] at hD1; exact hD1
    refine comp_by (n := us.length) (fun i ys H2 => H2 D1 = some (.lst ys) ∧ RowsY H2 D1 ol ys (full (rows.take i)) ∧ H2 ol = some (.lst [.str x]) ∧ Same H H2)
      ⟨upd_same, .nil, by rw [upd_ne olD1, upd_same], s0.trans (Same.new hD1)⟩ ?_ ?_
    · rintro ys H2 ⟨hD2, rl2, hol2, sm2⟩
      rw [List.take_of_length_le (by omega)] at rl2
      refine ⟨⟨_, SqL.of (sm2 rl _ hrl), Nat.le_refl _⟩, ?_⟩
      refine ⟨fun m σ H3 => ∃ (zs : List V) (rows3 : List (List Str)) (os : List Str) (r3 : Addr) (v3 : Option V), σ = [some (.str x), some (.ref r3), some (.ref ol), v3] ∧ H3 r3 = some (.lst zs) ∧ RowsX H3 ol zs rows3 ∧ r3 ≠ ol ∧ full rows3 = rows3 ∧ H3 ol = some (.lst ((x :: os).map V.str)) ∧ m = tot rows3 ∧ os.length + tot rows3 ≤ 1000 ∧
        (∀ r, Mg rows3 r → Mg (full rows) (r.map (os ++ ·))) ∧ Same H H3, ⟨_, ys, full rows, [], D1, _, rfl, hD2, rl2.x, olD1.symm, ?_, hol2, rfl, by rw [tot_full]; show 0 + _ ≤ _; omega, fun r h => ?_, sm2⟩, ?_⟩
      · unfold full
        rw [List.filter_filter]
        simp
      · have : r.map (([] : List Str) ++ ·) = r := by cases r <;> rfl
        rw [this]
        exact h
      rintro m σ H3 ⟨zs, rows3, os, r3, v3, rfl, hr3, rl3, r3o, hf3, hol3, rfl, hb3, mg3, sm3⟩
      have hzl : zs.length = rows3.length := Paired.length rl3
      have hrl3 : rows3.length ≤ tot rows3 := by have := full_len_le rows3; rwa [hf3] at this
      refine ⟨_, rfl, Nat.zero_le _, fun e0 he0 => ⟨r3, e0, zs, rfl, rfl, SqL.of (by rw [upd_ne (ne_of_none hr3 he0)]; exact hr3), SqL.of upd_same, _, rfl, ?_⟩⟩
      have s4 : Same H3 (upd H3 e0 (.lst [])) := Same.new he0
      cases hzs : zs with
      | nil =>
        subst hzs
        have e3 : rows3 = [] := by
          cases rows3 with
          | nil => rfl
          | cons _ _ => rw [List.length_nil, List.length_cons] at hzl; omega
        subst e3
        refine iteF ⟨_, rfl, ol, _, rfl, .inl ⟨SqL.of (s4 ol _ hol3), fun q hq => ?_⟩⟩
        refine k (.ref q) (some os) _ ?_ ⟨q, rfl, upd_same⟩ ((sm3.trans s4).trans (Same.new hq))
        have := mg3 _ .nil
        simpa using this
      | cons z0 zr =>
        have hne : rows3 ≠ [] := fun e => by rw [e, hzs] at hzl; simp at hzl
        rw [← hzs]
        have hb : (!zs.isEmpty) = true := by rw [hzs]; rfl
        rw [hb]
        clear hzs hb z0 zr
        refine iteT ⟨fun σ' H' => ∃ m', m' < tot rows3 ∧ ∃ (zs : List V) (rows3 : List (List Str)) (os : List Str) (r3 : Addr) (v3 : Option V), σ' = [some (.str x), some (.ref r3), some (.ref ol), v3] ∧ H' r3 = some (.lst zs) ∧ RowsX H' ol zs rows3 ∧ r3 ≠ ol ∧ full rows3 = rows3 ∧ H' ol = some (.lst ((x :: os).map V.str)) ∧ m' = tot rows3 ∧ os.length + tot rows3 ≤ 1000 ∧
          (∀ r, Mg rows3 r → Mg (full rows) (r.map (os ++ ·))) ∧ Same H H', fun σ' H' h => h, ?_⟩
        have hnz : ∀ r ∈ rows3, ∃ y r', r = y :: r' := fun r hr => by
          rw [← hf3] at hr
          have := (List.mem_filter.mp hr).2
          cases r with
          | nil => cases this
          | cons y r' => exact ⟨y, r', rfl⟩
        generalize upd H3 e0 (.lst []) = H4 at s4
        have rl4 := rl3.mono s4
        have hr4 := s4 r3 _ hr3
        refine ⟨_, rfl, r3, rfl, ⟨_, SqL.of hr4⟩, fun D2 hD2 => ?_⟩
        refine comp_by (n := zs.length) (fun i ys H5 => ys = ((rows3.take i).flatMap (freeOf rows3)).map V.str ∧ H5 D2 = some (.lst ys) ∧ Same H4 H5) ⟨rfl, upd_same, Same.new hD2⟩ ?_ ?_
        · rintro ys' H5 ⟨rfl, hD5, sm5⟩
          rw [List.take_of_length_le (by omega)] at hD5
          refine ⟨⟨_, SqL.of (sm5 r3 _ hr4), Nat.le_refl _⟩, ?_⟩
          have hD5 : H5 D2 = some (.lst ((frees rows3).map V.str)) := hD5
          refine ⟨_, rfl, Nat.zero_le _, fun e1 he1 => ⟨D2, e1, _, rfl, rfl, SqL.of (by rw [upd_ne (ne_of_none hD5 he1)]; exact hD5), SqL.of upd_same, _, rfl, ?_⟩⟩
          have s6 : Same H5 (upd H5 e1 (.lst [])) := Same.new he1
          generalize upd H5 e1 (.lst []) = H6 at s6
          have sm6 : Same H4 H6 := sm5.trans s6
          have hD6 := s6 D2 _ hD5
          cases hfr : frees rows3 with
          | nil =>
            refine iteT ?_
            have := mg3 none (.stuck hne hfr)
            exact k .non none H6 this rfl ((sm3.trans s4).trans sm6)
          | cons x1 more =>
            rw [hfr] at hD6
            refine iteF ?_
            have hx1 : x1 ∈ frees rows3 := by rw [hfr]; exact List.mem_cons_self
            obtain ⟨r1, hr1, hh1⟩ := frees_mem hx1
            have hx1r : x1 ∈ r1 := by
              cases r1 with
              | nil => cases hh1
              | cons y r' =>
                cases hh1
                exact List.mem_cons_self
            have hol6 := sm6 ol _ (s4 ol _ hol3)
            have hr6 := sm6 r3 _ hr4
            refine ⟨_, rfl, .inl ⟨rfl, _, SqL.of hol6⟩, _, rfl, D2, _, _, _, rfl, rfl, SqL.of hD6, at0 x1 more, ol, _, .str x1, rfl, rfl, hol6, by rw [List.length_map, List.length_cons]; omega, ?_⟩
            have eol : (x :: os).map V.str ++ [V.str x1] = (x :: (os ++ [x1])).map V.str := by rw [List.map_cons, List.map_cons, List.map_append]; rfl
            rw [eol]
            have oD : ol ≠ D2 := fun e => by
              have h1 := hD2
              rw [← e, s4 ol _ hol3] at h1
              cases h1
            have kp7 : ∀ b u, b ≠ ol → H6 b = some u → (upd H6 ol (.lst ((x :: (os ++ [x1])).map V.str))) b = some u := fun b u hb e => by rw [upd_ne hb]; exact e
            have sm7 : Same H (upd H6 ol (.lst ((x :: (os ++ [x1])).map V.str))) := fun b u e => kp7 b u (ne_of_none e hol) (sm6 b u (s4 b u (sm3 b u e)))
            have rl7 : ∀ i (hi : i < zs.length), ∃ (a : Addr) (hr : i < rows3.length), zs[i]? = some (.ref a) ∧ (upd H6 ol (.lst ((x :: (os ++ [x1])).map V.str))) a = some (.lst (rows3[i].map V.str)) := fun i hi => by
              obtain ⟨a, hr', e, n, q⟩ := (rl4.mono sm6).get hi
              exact ⟨a, hr', e, kp7 a _ n q⟩
            have hol7 : (upd H6 ol (.lst ((x :: (os ++ [x1])).map V.str))) ol = some (.lst ((x :: (os ++ [x1])).map V.str)) := upd_same
            have hr7 := kp7 r3 _ r3o hr6
            have hD7 := kp7 D2 _ oD.symm hD6
            generalize upd H6 ol (.lst ((x :: (os ++ [x1])).map V.str)) = H7 at kp7 sm7 rl7 hol7 hr7 hD7
            have hlt := tot_out_lt (x := x1) ⟨r1, hr1, hx1r⟩
            refine ⟨_, rfl, r3, rfl, ⟨_, SqL.of hr7⟩, fun D4 hD4 => ?_⟩
            refine comp_by (n := zs.length) (fun i ys H8 => H8 D4 = some (.lst ys) ∧ RowsY H8 D4 ol ys ((rows3.take i).map (outOf x1)) ∧ Same H7 H8) ⟨upd_same, .nil, Same.new hD4⟩ ?_ ?_
            · rintro ys8 H8 ⟨hD8, ry8, sm8⟩
              rw [List.take_of_length_le (by omega)] at ry8
              refine ⟨⟨_, SqL.of (sm8 r3 _ hr7), Nat.le_refl _⟩, ?_⟩
              have hy8 : ys8.length = rows3.length := by rw [Paired.length ry8, List.length_map]
              refine ⟨_, rfl, D4, rfl, ⟨_, SqL.of hD8⟩, fun D6 hD6' => ?_⟩
              have rx8 := ry8.x
              refine comp_by (n := ys8.length) (fun i ys H9 => H9 D6 = some (.lst ys) ∧ RowsY H9 D6 ol ys (full ((rows3.map (outOf x1)).take i)) ∧ Same H8 H9) ⟨upd_same, .nil, Same.new hD6'⟩ ?_ ?_
              · rintro ys9 H9 ⟨hD9, ry9, sm9⟩
                rw [List.take_of_length_le (by rw [List.length_map]; omega)] at ry9
                refine ⟨⟨_, SqL.of (sm9 D4 _ hD8), Nat.le_refl _⟩, ?_⟩
                have sm89 := sm8.trans sm9
                refine ⟨tot (full (rows3.map (outOf x1))), by rw [tot_full]; exact hlt, ys9, full (rows3.map (outOf x1)), os ++ [x1], D6, _, rfl, hD9, ry9.x, ?_, ?_, sm89 ol _ hol7, rfl, ?_, fun r h => ?_, sm7.trans sm89⟩
                · intro e
                  rw [e] at hD9
                  rw [sm89 ol _ hol7] at hD9
                  injection hD9 with hD9
                  injection hD9 with hD9
                  cases ys9 with
                  | nil => cases hD9
                  | cons y9 _ =>
                    obtain ⟨a9, _, e9, _⟩ := ry9.x.get (i := 0) (by simp)
                    injection hD9 with h9 _
                    rw [← h9] at e9
                    cases e9
                · unfold full
                  rw [List.filter_filter]
                  simp
                · rw [tot_full, List.length_append, List.length_singleton]
                  omega
                · have h1 := mg3 _ (.step hfr h)
                  rw [Option.map_map] at h1
                  have : ((fun x => os ++ x) ∘ fun x => x1 :: x) = fun x => os ++ [x1] ++ x := by
                    funext z
                    simp
                  rw [this] at h1
                  exact h1
              · rintro i ys9 H9 hi ⟨hD9, ry9, sm9⟩
                obtain ⟨a, hir, ea, _, ha⟩ := (rx8.mono sm9).get hi
                refine ⟨⟨_, _, SqL.of (sm9 D4 _ hD8), ea⟩, ?_⟩
                rintro yv H10 ⟨rfl, yy⟩ σo ho
                obtain ⟨oo, rfl⟩ := own1 ho
                have ey := yy _ (SqL.of (sm9 D4 _ hD8))
                rw [ea] at ey
                cases ey
                have hys : ys9.length ≤ 1000 := by
                  rw [Paired.length ry9]
                  refine Nat.le_trans (List.length_filter_le _ _) ?_
                  rw [List.length_take, List.length_map]
                  omega
                refine ⟨⟨[_], rfl, rfl⟩, _, rfl, Nat.zero_le _, fun e2 he2 => ⟨a, e2, _, rfl, rfl, SqL.of (by rw [upd_ne (ne_of_none ha he2)]; exact ha), SqL.of upd_same, _, rfl, ?_⟩⟩
                have s10 : Same H10 (upd H10 e2 (.lst [])) := Same.new he2
                have hb : (!(((rows3.map (outOf x1))[i]).map V.str).isEmpty) = !((rows3.map (outOf x1))[i]).isEmpty := by
                  cases (rows3.map (outOf x1))[i] <;> rfl
                rw [hb]
                cases he : ((rows3.map (outOf x1))[i]).isEmpty with
                | true =>
                  refine iteF (less_by hi ⟨s10 D6 _ hD9, ?_, sm9.trans s10⟩)
                  rw [take_snoc hir, full_snoc, if_pos he, List.append_nil]
                  exact ry9.mono s10
                | false =>
                  have aD6 : a ≠ D6 := fun e => by
                    have := hD6'
                    obtain ⟨a', _, ea', _, ha'⟩ := rx8.get hi
                    rw [ea] at ea'
                    cases ea'
                    rw [← e, ha'] at this
                    cases this
                  have ao : a ≠ ol := by
                    obtain ⟨a', _, ea', n', _⟩ := rx8.get hi
                    rw [ea] at ea'
                    cases ea'
                    exact n'
                  refine iteT ⟨_, rfl, by omega, s10 D6 _ hD9, less_by hi ⟨upd_same, ?_, fun b u e => ?_⟩⟩
                  · rw [take_snoc hir, full_snoc, if_neg (by rw [he]; exact Bool.false_ne_true)]
                    exact pairedSnoc (ry9.grow s10) ⟨a, rfl, aD6, ao, by rw [upd_ne aD6]; exact s10 a _ ha⟩
                  · rw [upd_ne (ne_of_none e hD6')]
                    exact s10 b _ (sm9 b _ e)
            · rintro i ys8 H8 hi ⟨hD8, ry8, sm8⟩
              obtain ⟨a, hir, ea, ha⟩ := rl7 i hi
              have ha8 := sm8 a _ ha
              refine ⟨⟨_, _, SqL.of (sm8 r3 _ hr7), ea⟩, ?_⟩
              rintro yv H9 ⟨rfl, yy⟩ σo ho
              obtain ⟨oo, rfl⟩ := own1 ho
              have ey := yy _ (SqL.of (sm8 r3 _ hr7))
              rw [ea] at ey
              cases ey
              have hys : ys8.length ≤ 1000 := by
                rw [Paired.length ry8, List.length_map, List.length_take]
                omega
              refine ⟨⟨[_], rfl, rfl⟩, yes_by ⟨_, rfl, a, rfl, ⟨_, SqL.of ha8⟩, fun D5 hD5' => ?_⟩⟩
              have s9 : ∀ o, Same H9 (upd H9 D5 o) := fun o => Same.new hD5'
              have D54 : D5 ≠ D4 := fun e => by rw [e, hD8] at hD5'; cases hD5'
              have D5o : D5 ≠ ol := fun e => by rw [e, sm8 ol _ hol7] at hD5'; cases hD5'
              have hrl1 : (rows3[i]).length ≤ 1000 := by
                have := tot_le_mem (List.getElem_mem hir)
                omega
              refine comp_by (n := ((rows3[i]).map V.str).length) (fun j ys5 H10 => ys5 = (outOf x1 ((rows3[i]).take j)).map V.str ∧ H10 = upd H9 D5 (.lst ys5)) ⟨rfl, rfl⟩ ?_ ?_
              · rintro ys5 H10 ⟨rfl, rfl⟩
                rw [List.take_of_length_le (by rw [List.length_map]; exact Nat.le_refl _)]
                refine ⟨⟨_, SqL.of (s9 _ a _ ha8), Nat.le_refl _⟩, by omega, s9 _ D4 _ hD8, less_by hi ⟨upd_same, ?_, fun b u e => ?_⟩⟩
                · rw [take_snoc hir, List.map_append]
                  exact pairedSnoc (ry8.grow (s9 _)) ⟨D5, rfl, D54, D5o, by rw [upd_ne D54, upd_same]⟩
                · rw [upd_ne (ne_of_none e hD4)]
                  exact s9 _ b _ (sm8 b _ e)
              · rintro j ys5 H10 hj ⟨rfl, rfl⟩
                have hj' : j < (rows3[i]).length := by rw [List.length_map] at hj; exact hj
                have ej : ((rows3[i]).map V.str)[j]? = some (.str (rows3[i])[j]) := by rw [List.getElem?_map, List.getElem?_eq_getElem hj']; rfl
                refine ⟨⟨_, _, SqL.of (s9 _ a _ ha8), ej⟩, ?_⟩
                rintro y5 H11 ⟨rfl, yy⟩ σo5 ho5
                obtain ⟨o5, rfl⟩ := own1 ho5
                have ey := yy _ (SqL.of (s9 _ a _ ha8))
                rw [ej] at ey
                cases ey
                have eout : outOf x1 ((rows3[i]).take (j + 1)) = outOf x1 ((rows3[i]).take j) ++ (if decide ((rows3[i])[j] ≠ x1) = true then [(rows3[i])[j]] else []) := by
                  unfold outOf
                  rw [take_snoc hj', List.filter_append]
                  congr 1
                  rw [List.filter_cons]
                  rfl
                have hl5 : ((outOf x1 ((rows3[i]).take j)).map V.str).length ≤ 1000 := by
                  rw [List.length_map]
                  have h1 := out_le x1 ((rows3[i]).take j)
                  rw [List.length_take] at h1
                  omega
                refine ⟨⟨[_], rfl, rfl⟩, _, rfl, _, rfl, D2, _, _, _, rfl, rfl, SqL.of (s9 _ D2 _ (sm8 D2 _ hD7)), at0 x1 more, rfl, _, rfl, ite2 (fun hb => ?_) (fun hb => ?_)⟩
                · have hb : (rows3[i])[j] ≠ x1 := by
                    intro e
                    rw [e] at hb
                    simp at hb
                  refine ⟨_, rfl, by omega, upd_same, less_by hj ⟨?_, by rw [upd_upd]⟩⟩
                  rw [eout, if_pos (decide_eq_true hb), List.map_append]
                  rfl
                · have hb : (rows3[i])[j] = x1 := Classical.byContradiction fun e => hb (by
                    show (!decide (V.str (rows3[i])[j] = V.str x1)) = true
                    rw [decide_eq_false (by intro z; injection z with z; exact e z)]
                    rfl)
                  refine less_by hj ⟨?_, rfl⟩
                  rw [eout, if_neg (by simpa using hb), List.append_nil]
        · rintro i ys' H5 hi ⟨rfl, hD5, sm5⟩
          obtain ⟨a, hir, ea, _, ha⟩ := (rl4.mono sm5).get hi
          obtain ⟨y0, r0, er0⟩ := hnz rows3[i] (List.getElem_mem hir)
          rw [er0] at ha
          refine ⟨⟨_, _, SqL.of (sm5 r3 _ hr4), ea⟩, ?_⟩
          rintro yv H6 ⟨rfl, yy⟩ σo ho
          obtain ⟨oo, rfl⟩ := own1 ho
          have ey := yy _ (SqL.of (sm5 r3 _ hr4))
          rw [ea] at ey
          cases ey
          refine ⟨⟨[_], rfl, rfl⟩, _, rfl, r3, rfl, ⟨_, SqL.of (sm5 r3 _ hr4)⟩, fun D3 hD3 => ?_⟩
          refine comp_by (n := zs.length) (fun i3 bs H7 => bs = ((rows3.take i3).map fun o => decide (y0 ∈ o.drop 1)).map V.bl ∧ H7 D3 = some (.lst bs) ∧ Same H6 H7) ⟨rfl, upd_same, Same.new hD3⟩ ?_ ?_
          · rintro bs H7 ⟨rfl, hD7, sm7⟩
            rw [List.take_of_length_le (by omega)] at hD7
            refine ⟨⟨_, SqL.of (sm7 r3 _ (sm5 r3 _ hr4)), Nat.le_refl _⟩, D3, _, rfl, SqL.of hD7, _, rfl, ?_⟩
            have eany : (rows3.map fun o => decide (y0 ∈ o.drop 1)).any id = heldIn rows3 y0 := by
              unfold heldIn
              rw [List.any_map]
              rfl
            rw [eany]
            have efr : ((rows3.take (i + 1)).flatMap (freeOf rows3)) = ((rows3.take i).flatMap (freeOf rows3)) ++ (if heldIn rows3 y0 = true then [] else [y0]) := by
              rw [take_snoc hir, List.flatMap_append, List.flatMap_singleton, er0]
              rfl
            have hlen : (((rows3.take i).flatMap (freeOf rows3)).map V.str).length ≤ 1000 := by
              rw [List.length_map]
              have h1 := free_len rows3 (rows3.take i)
              rw [List.length_take] at h1
              omega
            cases hh : heldIn rows3 y0 with
            | true =>
              refine iteF (less_by hi ⟨?_, sm7 D2 _ hD5, sm5.trans sm7⟩)
              rw [efr, hh, if_pos rfl, List.append_nil]
            | false =>
              refine iteT ⟨_, rfl, a, _, _, _, rfl, rfl, SqL.of (sm7 a _ ha), at0 y0 r0, by omega, sm7 D2 _ hD5, less_by hi ⟨?_, upd_same, fun b u e => ?_⟩⟩
              · rw [efr, hh, if_neg Bool.false_ne_true, List.map_append]
                rfl
              · rw [upd_ne (ne_of_none e hD2)]
                exact sm7 b _ (sm5 b _ e)
          · rintro i3 bs H7 hi3 ⟨rfl, hD7, sm7⟩
            obtain ⟨a3, hir3, ea3, _, ha3⟩ := ((rl4.mono sm5).mono sm7).get hi3
            refine ⟨⟨_, _, SqL.of (sm7 r3 _ (sm5 r3 _ hr4)), ea3⟩, ?_⟩
            rintro y3 H8 ⟨rfl, yy⟩ σo3 ho3
            obtain ⟨o3, rfl⟩ := own1 ho3
            have ey := yy _ (SqL.of (sm7 r3 _ (sm5 r3 _ hr4)))
            rw [ea3] at ey
            cases ey
            refine ⟨⟨[_], rfl, rfl⟩, yes_by ⟨_, rfl, a, _, _, _, rfl, rfl, SqL.of (sm7 a _ ha), at0 y0 r0, _, rfl, _, rfl, a3, _, rfl, SqL.of ha3, fun q hq => ⟨q, _, rfl, .inl (SqL.of upd_same), rfl, by rw [cut1]; exact flat_strs _, by rw [List.length_map, List.length_map, List.length_take]; omega, by rw [upd_ne (ne_of_none hD7 hq)]; exact hD7, less_by hi3 ⟨?_, upd_same, fun b u e => ?_⟩⟩⟩⟩
            · show _ ++ [V.bl (inV (.str y0) (cutV ((rows3[i3]).map V.str) (some 1) none))] = _
              rw [cut1, inV_strs, take_snoc hir3, List.map_append, List.map_append]
              rfl
            · rw [upd_ne (ne_of_none e hD3), upd_ne (ne_of_none (sm7 b _ e) hq)]
              exact sm7 b _ e
    · rintro i ys H2 hi ⟨hD2, rl2, hol2, sm2⟩
      obtain ⟨a, hir, ea, ha⟩ := (rt.mono (Same.tups sm2)).get hi
      refine ⟨⟨_, _, SqL.of (sm2 rl _ hrl), ea⟩, ?_⟩
      rintro y H3 ⟨rfl, yy⟩ σo ho
      obtain ⟨o, rfl⟩ := own1 ho
      have ey := yy _ (SqL.of (sm2 rl _ hrl))
      rw [ea] at ey
      cases ey
      have hys : ys.length ≤ 1000 := by
        rw [Paired.length rl2]
        have := full_len_le (rows.take i)
        refine Nat.le_trans (List.length_filter_le _ _) ?_
        rw [List.length_take]
        omega
      refine ⟨⟨[_], rfl, rfl⟩, _, rfl, a, _, rfl, .inr (SqT.of ha), _, _, rfl, rfl, _, rfl, ite2 (fun hb => ?_) (fun hb => ?_)⟩
      · refine ⟨_, rfl, a, _, rfl, .inr (SqT.of ha), fun l hl => ?_⟩
        have sl : ∀ o, Same H3 (upd H3 l o) := fun o => Same.new hl
        have lD : l ≠ D1 := fun e => by rw [e, hD2] at hl; cases hl
        have lo : l ≠ ol := fun e => by rw [e, hol2] at hl; cases hl
        refine ⟨by omega, sl _ D1 _ hD2, less_by hi ⟨upd_same, ?_, ?_, ?_⟩⟩
        · have hne : ¬ (rows[i]).isEmpty = true := fun e => by
            have hb : decide ((0 : Int) < (((rows[i]).map V.str).length : Int)) = true := hb
            have := of_decide_eq_true hb
            rw [List.isEmpty_iff.mp e] at this
            simp at this
          rw [take_snoc hir, full_snoc, if_neg hne]
          exact pairedSnoc (rl2.grow (sl _)) ⟨l, rfl, lD, lo, by rw [upd_ne lD, upd_same]⟩
        · rw [upd_ne olD1]
          exact sl _ ol _ hol2
        · intro b o' e
          rw [upd_ne (ne_of_none e hD1H)]
          exact sl _ b _ (sm2 b _ e)
      · have he : (rows[i]).isEmpty = true := by
          have hb : ¬ decide ((0 : Int) < (((rows[i]).map V.str).length : Int)) = true := hb
          rw [decide_eq_true_iff, List.length_map] at hb
          exact List.isEmpty_iff_length_eq_zero.mpr (by omega)
        refine less_by hi ⟨hD2, ?_, hol2, sm2⟩
        rw [take_snoc hir, full_snoc, if_pos he, List.append_nil]
        exact rl2
end
end K10
end
section
set_option autoImplicit false
namespace K10
open PySem PyProof.Rows L2
section
variable {P : Program} {w : World} {K : PySem.W.Frag} {mg : Str → Option Value} {base : Heap} {t : Adr}
def spTake : Sp := fun vs H Q _ => ∃ (p : Addr) (n : Int), vs = [.ref p, .int n] ∧ Pu H p ∧ 0 < n ∧ n < 1606938044258990275541962092341162602522202993782792835301376 ∧ ∀ (r a b c : Int), 0 ≤ r → r < n → Q (.int r) (upd H p (.lst [.int a, .int b, .int c]))
theorem ok_take (D : Defs K mg t) : FnOk P w K mg base CX0 1 t._law_take.1 t._law_take.2 ["_law_purse_here", "_law_many"] spTake := by
  refine D._law_take.fn.ok sc__law_take (fun vs H Q E h => ?_) (fun cdv A outer s H vs Q E hr h => ?_)
  · obtain ⟨p, n, rfl, _⟩ := h
    rfl
  · obtain ⟨p, n, rfl, ⟨a, b, c, hp⟩, h0, h1, k⟩ := h
    refine ⟨_, (pss_cons (ps_asg (pe_op op_add (pe_ix ix_list (pv 0) pe_int (fun _ _ => rfl)) pe_int) (pg_sub (pv 0) pe_int set_list))
      (pss_cons (ps_set (i := 2) sc__law_take.nd rfl (Or.inl rfl) (pe_ix ix_list (pv 0) pe_int (fun _ _ => rfl)))
      (pss_cons (ps_asg (pe_op op_mod (pe_op op_add (pe_op op_mul (pv 2) (pe_op op_add (pe_op op_mod (pv 2) pe_int) pe_int)) (pe_op op_mul pe_int (pe_ix ix_list (pv 0) pe_int (fun _ _ => rfl)))) pe_int) (pg_sub (pv 0) pe_int set_list))
      (pss_cons (ps_if (pt_cmpR op_gt (pe_ix ix_list (pv 0) pe_int (fun _ _ => rfl)) pe_int (nomark _))
      (pss_cons (ps_set (i := 3) sc__law_take.nd rfl (Or.inl rfl) (pe_op op_mod (pe_ix ix_list (pv 0) pe_int (fun _ _ => rfl)) (pv 1)))
      (pss_cons (ps_asg (pe_op op_fdivL (pe_ix ix_list (pv 0) pe_int (fun _ _ => rfl)) (pv 1)) (pg_sub (pv 0) pe_int set_list))
      (pss_one (ps_ret (pv 3)))))
      pss_nil)
      (pss_one (ps_ret (pe_op op_mod (pe_op op_fdiv (pe_ix ix_list (pv 0) pe_int (fun _ _ => rfl)) pe_int) (pv 1)))))))), ?_⟩
    refine ⟨_, rfl, p, _, _, _, rfl, rfl, SqL.of hp, rfl, _, _, rfl, rfl, _, rfl, p, _, _, 2, rfl, rfl, hp, rfl, ?_⟩
    refine ⟨_, rfl, p, _, _, _, rfl, rfl, SqL.of upd_same, rfl, ?_⟩
    refine ⟨_, rfl, _, rfl, _, _, rfl, rfl, (by show (0 : Int) < 46337; decide), _, _, rfl, rfl, _, _, rfl, rfl, .inr ⟨?_, ?_⟩, _, rfl, p, _, _, _, rfl, rfl, SqL.of upd_same, rfl, _, _, rfl, rfl, .inl ⟨by decide, by decide⟩, _, _, rfl, rfl, _, _, rfl, rfl,
      (by show (0 : Int) < 2147483587; decide), _, rfl, p, _, _, 0, rfl, rfl, upd_same, rfl, ?_⟩
    · have := Int.emod_nonneg a (show (46337 : Int) ≠ 0 by decide)
      omega
    · have := Int.emod_lt_of_pos a (show (0 : Int) < 46337 by decide)
      omega
    rw [upd_upd]
    refine ⟨_, rfl, p, _, _, _, rfl, rfl, SqL.of upd_same, rfl, _, _, rfl, rfl, _, rfl, ite2 (fun hb => ?_) (fun hb => ?_)⟩
    · refine ⟨_, rfl, p, _, _, _, rfl, rfl, SqL.of upd_same, rfl, _, rfl, _, _, rfl, rfl, h0, _, rfl, p, _, _, _, rfl, rfl, SqL.of upd_same, rfl, _, rfl, _, _, rfl, rfl, ⟨h0, h1⟩, _, rfl, p, _, _, 1, rfl, rfl, upd_same, rfl, _, rfl, ?_⟩
      rw [upd_upd]
      exact k _ _ _ _ (Int.emod_nonneg _ (by omega)) (Int.emod_lt_of_pos _ h0)
    · refine ⟨_, rfl, p, _, _, _, rfl, rfl, SqL.of upd_same, rfl, _, _, rfl, rfl, ⟨by decide, by decide⟩, _, rfl, _, _, rfl, rfl, h0, ?_⟩
      exact k _ _ _ _ (Int.emod_nonneg _ (by omega)) (Int.emod_lt_of_pos _ h0)
def spPurse : Sp := fun vs H Q _ => ∃ (n : Int), vs = [.int n] ∧ ∀ (p : Addr) (a b c : Int), H p = none → Q (.ref p) (upd H p (.lst [.int a, .int b, .int c]))
theorem ok_purse (D : Defs K mg t) : FnOk P w K mg base CX0 1 t._law_purse.1 t._law_purse.2 ["_law_cell_here"] spPurse := by
  refine D._law_purse.fn.ok sc__law_purse (fun vs H Q E h => ?_) (fun cdv A outer s H vs Q E hr h => ?_)
  · obtain ⟨n, rfl, _⟩ := h
    rfl
  · obtain ⟨n, rfl, k⟩ := h
    refine ⟨_, (pss_cons (ps_set (i := 1) sc__law_purse.nd rfl (Or.inl rfl) pe_int)
      (pss_join (ps_if (PW.pt (pw_or (pt_cmpR op_lt (pv 0) pe_int (nomark _)) (pw_or1 (pt_cmpR op_ge (pv 0) (pe_op op_pow pe_int pe_int) (nomark _)))))
      (pss_one (ps_set (i := 1) sc__law_purse.nd rfl (Or.inl rfl) (pe_callB call_abs (by rfl) D.b_abs bt_abs (pa_cons (pv 0) pa_nil))))
      pss_nil)
      (pss_one (ps_ret (pe_lst (pa_cons (pe_op op_mod (pv 0) pe_int) (pa_cons (pv 1) (pa_cons pe_int pa_nil)))))))), ?_⟩
    refine ⟨fun σ' H' => ∃ d : Int, σ' = [some (.int n), some (.int d)] ∧ H' = H, ?_, ?_⟩
    · refine ⟨_, rfl, _, _, rfl, rfl, _, rfl, ite2 (fun hb => ?_) (fun hb => ?_)⟩
      · exact iteT ⟨_, rfl, _, rfl, _, rfl, rfl⟩
      · refine ⟨_, rfl, _, _, rfl, rfl, ⟨by decide, by decide, by decide⟩, _, _, rfl, rfl, _, rfl, ite2 (fun hc => ?_) (fun hc => ?_)⟩
        · exact ⟨_, rfl, _, rfl, _, rfl, rfl⟩
        · exact ⟨_, rfl, rfl⟩
    · rintro σ' H' ⟨d, rfl, rfl⟩
      exact ⟨_, rfl, _, _, rfl, rfl, (by show (0 : Int) < 2147483587; decide), _, rfl, (by show 3 ≤ sizeLine; decide), fun p hp => k p _ _ _ hp⟩
def spCell (K : PySem.W.Frag) : Sp := fun vs H Q _ => ∃ (a : Addr) (ns : List Int) (k : Int), vs = [.ref a, .int k] ∧ SqL K H a (ns.map V.int) ∧ ns.length ≤ 63 ∧ 0 ≤ k ∧ k ≤ 1000 ∧ ∀ (n : Int) H', Same H H' → Q (.int n) H'
theorem ok_cell (D : Defs K mg t) : FnOk P w K mg base CX0 1 t._law_cell.1 t._law_cell.2 ["_law_script", "_law_k"] (spCell K) := by
  refine D._law_cell.fn.ok sc__law_cell (fun vs H Q E h => ?_) (fun cdv A outer s H vs Q E hr h => ?_)
  · obtain ⟨a, ns, k, rfl, _⟩ := h
    rfl
  · obtain ⟨a, ns, k, rfl, hS, hl, h0, h1, q⟩ := h
    refine ⟨_, (pss_cons (ps_if (pt_cmpR op_lt (pv 1) (pe_callB call_len_seq (by rfl) D.b_len bt_len (pa_cons (pv 0) pa_nil)) (nomark _))
      (pss_one (ps_ret (pe_ix ix_list (pv 0) (pv 1) (fun _ _ => rfl))))
      pss_nil)
      (pss_cons (ps_set (i := 2) sc__law_cell.nd rfl (Or.inl rfl) (pe_op op_mul (pe_op op_mul pe_int (pe_op op_add (pv 1) pe_int)) (pe_op op_add (pv 1) pe_int)))
      (pss_cons (ps_for PassesOwn.never rfl (pi_list (pe_slice sl_list (pv 0) po_none (po_some pe_int))) (pg_name (i := 3) sc__law_cell.nd rfl (Or.inl rfl))
      (pss_one (ps_set (i := 2) sc__law_cell.nd rfl (Or.inl rfl) (pe_op op_mod (pe_op op_add (pe_op op_mul (pv 2) pe_int) (pv 3)) pe_int))))
      (pss_one (ps_ret (pv 2)))))), ?_⟩
    refine ⟨_, rfl, _, rfl, a, _, rfl, .inl hS, _, _, rfl, rfl, _, rfl, ite2 (fun hb => ?_) (fun hb => ?_)⟩
    · have hk : k < (ns.map V.int).length := of_decide_eq_true hb
      obtain ⟨v, e, m, _⟩ := atI_in h0 hk
      obtain ⟨z, _, rfl⟩ := List.mem_map.mp m
      exact ⟨_, rfl, _, rfl, a, _, _, _, rfl, rfl, hS, e, q z H (Same.refl H)⟩
    · refine ⟨_, rfl, _, _, rfl, rfl, _, _, rfl, rfl, .inl ⟨by decide, by decide⟩, _, rfl, _, _, rfl, rfl, _, _, rfl, rfl, .inr ⟨by omega, by omega⟩, ?_⟩
      refine ⟨_, rfl, _, rfl, a, _, rfl, hS, fun p hp => ⟨p, rfl, ⟨_, SqL.of upd_same⟩, for_list (K := K) (a := p) (xs := cutV (ns.map V.int) none (some 4)) (fun i σ H2 => ∃ (st : Int) (v : Option V), σ = [some (.ref a), some (.int k), some (.int st), v] ∧ H2 = upd H p (.lst (cutV (ns.map V.int) none (some 4))))
        ⟨_, _, rfl, rfl⟩ (fun i σ H2 _ ⟨_, _, _, e⟩ => by rw [e]; exact SqL.of upd_same) ?_ ?_⟩⟩
      · rintro i x σ H2 hi ⟨st, v, rfl, rfl⟩
        have m : x ∈ ns.map V.int := List.mem_of_mem_drop (List.mem_of_mem_take (List.mem_of_getElem? hi))
        obtain ⟨z, _, rfl⟩ := List.mem_map.mp m
        exact ⟨_, rfl, _, _, rfl, rfl, .inr ⟨by decide, by decide⟩, _, rfl, _, _, rfl, rfl, _, _, rfl, rfl, (by show (0 : Int) < 2147483587; decide), _, _, rfl, rfl⟩
      · rintro σ H2 ⟨st, v, rfl, rfl⟩
        exact ⟨_, rfl, q st _ (Same.new hp)⟩
end
end K10
end
section
set_option autoImplicit false
namespace K10
open PySem PyProof.Rows L2
section
variable {P : Program} {w : World} {K : PySem.W.Frag} {mg : Str → Option Value} {base : Heap} {t : Adr}
def spWord : Sp := fun vs H Q _ => ∃ (p u : Addr) (us : List Str), vs = [.ref p, .ref u] ∧ Pu H p ∧ H u = some (.lst (us.map V.str)) ∧ us.length ≤ 25 ∧ ∀ (x : Str) H', 1 ≤ x.length → x.length ≤ 7 → ¬ x ∈ us → Off p H H' → Pu H' p → Q (.str x) H'
theorem ok_word (D : Defs K mg t) : FnOk P w K mg base CX0 2 t._law_word.1 t._law_word.2 ["_law_purse_here", "_law_used"] spWord := by
  have G__law_take : FnOk P w K mg base CX0 1 t._law_take.1 t._law_take.2 _ spTake := ok_take D
  have hz : sizeLine = 16777216 := sizeLine_eq
  refine D._law_word.fn.ok sc__law_word (fun vs H Q E h => ?_) (fun cdv A outer s H vs Q E hr h => ?_)
  · obtain ⟨p, u, us, rfl, _⟩ := h
    rfl
  · obtain ⟨p, u, us, rfl, hp, hu, hl, k⟩ := h
    have up : u ≠ p := hp.ne hu
    refine ⟨_, (pss_cons (ps_set (i := 2) sc__law_word.nd rfl (Or.inr rfl) pe_str)
      (pss_cons (ps_for PassesOwn.never rfl (pi_range1 rfl D.b_range (pa_cons (pe_op op_add pe_int (pe_callF D._law_take G__law_take (hr.mono (by omega)) (by rfl) (pa_cons (pv 0) (pa_cons pe_int pa_nil)))) pa_nil)) (pg_name (i := 3) sc__law_word.nd rfl (Or.inl rfl))
      (pss_one (ps_set (i := 2) sc__law_word.nd rfl (Or.inr rfl) (pe_op op_add_str (pv 2) (pe_ix ix_str pe_str (pe_callF D._law_take G__law_take (hr.mono (by omega)) (by rfl) (pa_cons (pv 0) (pa_cons pe_int pa_nil))) (fun _ _ => rfl))))))
      (pss_cons (ps_if (pt_cmpR op_notIn_seq (pv 2) (pv 1) (by with_unfolding_all rfl))
      (pss_one (ps_ret (pv 2)))
      pss_nil)
      (pss_cons (ps_setc (i := 4) rfl sc__law_word.nd rfl (Or.inl rfl) (CompScope.of ["_law_a"] [1, 2] ["_law_a", "_law_used", "_law_word_here"] (defScope (top 18)) ["_law_purse_here", "_law_used", "_law_word_here", "_law_k", "_law_first"] rfl rfl (by decide +kernel)) ⟨fun _ _ _ _ _ => (pg_name (i := 0) (show List.Nodup [("_law_a" : Str), ("_law_used" : Str), ("_law_word_here" : Str)] by decide +kernel) rfl (Or.inl (lookup_relabel_local rfl)) (.inr (lookup_relabel_local rfl))), fun _ _ _ _ _ => (pts_one (pt_cmpR (op_notIn_K (K := K) rfl) (pe_op op_add_str (pv 0) (pe_slice sl_str (pv 2) po_none (po_some pe_int))) (pv 1) (by with_unfolding_all rfl))), fun _ _ _ _ _ => (pv 0)⟩ (pi_str pe_str))
      (pss_one (ps_ret (pe_op op_add_str (pe_ix ix_list (pv 4) pe_int (fun _ _ => rfl)) (pe_slice sl_str (pv 2) po_none (po_some pe_int))))))))), ?_⟩
    refine ⟨_, rfl, p, 6, rfl, hp, by decide, by decide, fun r2 a2 b2 c2 g0 g1 => ⟨_, _, rfl, rfl, _, rfl, by omega, by omega, ?_⟩⟩
    refine for_range (lo := 0) (n := (1 + r2).toNat) (fun i σ H2 => ∃ (x : Str) (v : Option V), σ = [some (.ref p), some (.ref u), some (.str x), v, none] ∧ x.length = i ∧ Off p H H2 ∧ Pu H2 p)
      ⟨_, _, rfl, by decide, Off.upd, Pu.upd⟩ ?_ ?_
    · rintro i σ H2 hi ⟨x, v, rfl, hx, o2, p2⟩
      refine ⟨_, rfl, _, rfl, p, 26, rfl, p2, by decide, by decide, fun r3 a3 b3 c3 f0 f1 => ?_⟩
      obtain ⟨cc, ec, _, _⟩ := atI_in (xs := abc.cps.toList) f0 (by rw [Array.length_toList, abc_len]; exact f1)
      refine ⟨abc, _, cc, rfl, rfl, by decide +kernel, ec, _, _, rfl, rfl, ?_, _, _, rfl, ?_, o2.trans Off.upd, Pu.upd⟩
      · show x.length + 1 ≤ sizeLine
        omega
      · rw [str_len_app]
        show x.length + 1 = i + 1
        omega
    · rintro σ' H' ⟨x, v, rfl, hx, oh, ph⟩
      have hx1 : 1 ≤ x.length := by omega
      have hx6 : x.length ≤ 6 := by omega
      have hu' : H' u = some (.lst (us.map V.str)) := oh u _ up hu
      refine ⟨_, rfl, _, rfl, u, _, rfl, .inl (SqL.of hu'), rfl, flat_strs us, _, rfl, ite2 (fun hb => ?_) (fun hb => ?_)⟩
      · refine ⟨_, rfl, k x H' hx1 (by omega) ?_ oh ph⟩
        intro hm
        have hb : (!inV (.str x) (us.map V.str)) = true := hb
        rw [inV_strs, decide_eq_true hm] at hb
        cases hb
      · have s5 : (Txt.slice x none (some 5)).length ≤ 6 := Nat.le_trans (slice_len x _ _) hx6
        refine ⟨_, rfl, by decide +kernel, fun Dd hD => ?_⟩
        have uD : u ≠ Dd := ne_of_none hu' hD
        have pD : p ≠ Dd := by
          obtain ⟨a, b, c, e⟩ := ph
          exact ne_of_none e hD
        refine comp_by (n := 26) (fun i ys H2 => ys = ((letters.take i).filter fun c => decide (¬ (c ++ Txt.slice x none (some 5)) ∈ us)).map V.str ∧ H2 = upd H' Dd (.lst ys)) ⟨rfl, rfl⟩ ?_ ?_
        · rintro ys H2 ⟨rfl, rfl⟩
          refine ⟨by show abc.cps.size ≤ 26; rw [abc_len]; exact Nat.le_refl _, ?_⟩
          rw [show letters.take 26 = letters from List.take_of_length_le (by rw [letters_len]; exact Nat.le_refl _)]
          obtain ⟨c, hc, hn⟩ := some_letter hl (Txt.slice x none (some 5))
          have hmem : c ∈ letters.filter fun c => decide (¬ (c ++ Txt.slice x none (some 5)) ∈ us) := List.mem_filter.mpr ⟨hc, decide_eq_true hn⟩
          obtain ⟨d, rest, ed⟩ := List.exists_cons_of_ne_nil (List.ne_nil_of_mem hmem)
          have hd : d ∈ letters.filter fun c => decide (¬ (c ++ Txt.slice x none (some 5)) ∈ us) := by rw [ed]; exact List.mem_cons_self
          obtain ⟨hd1, hd2⟩ := List.mem_filter.mp hd
          refine ⟨_, rfl, Dd, _, _, .str d, rfl, rfl, SqL.of upd_same, by rw [ed]; exact atI_nat (j := 0) rfl, _, rfl, _, rfl, x, rfl, by omega, _, _, rfl, rfl, ?_, ?_⟩
          · rw [letters_one d hd1]
            omega
          · refine k _ _ (by rw [str_len_app, letters_one d hd1]; omega) ?_ (of_decide_eq_true hd2) (oh.trans (Off.new hD)) ?_
            · rw [str_len_app, letters_one d hd1]
              omega
            · obtain ⟨a, b, c, e⟩ := ph
              exact ⟨a, b, c, by rw [upd_ne pD]; exact e⟩
        · rintro i ys H2 hi ⟨rfl, rfl⟩
          refine ⟨by show i < abc.cps.size; rw [abc_len]; exact hi, ?_⟩
          rintro y H3 ⟨rfl, c, ec, rfl⟩ σo ho
          obtain ⟨o, rfl⟩ := own1 ho
          have el : letters[i]? = some ⟨#[c]⟩ := by
            have ec' : abc.cps[i]? = some c := ec
            unfold letters
            rw [List.getElem?_map, Array.getElem?_toList, ec']
            rfl
          have et : letters.take (i + 1) = letters.take i ++ [⟨#[c]⟩] := by
            rw [List.take_succ, el]
            rfl
          have hlen : (((letters.take i).filter fun c => decide (¬ (c ++ Txt.slice x none (some 5)) ∈ us)).map V.str).length ≤ 26 := by
            rw [List.length_map]
            refine Nat.le_trans (List.length_filter_le _ _) ?_
            rw [List.length_take]
            omega
          refine ⟨⟨[_], rfl, rfl⟩, _, rfl, _, rfl, _, rfl, x, rfl, by omega, _, _, rfl, rfl, (by show 1 + _ ≤ sizeLine; omega), _, rfl, u, _, rfl, .inl (SqL.of (by rw [upd_ne uD]; exact hu')), rfl, flat_strs us, _, rfl, ite2 (fun hb => ?_) (fun hb => ?_)⟩
          · have hb : (!inV (.str (⟨#[c]⟩ ++ Txt.slice x none (some 5))) (us.map V.str)) = true := hb
            rw [inV_strs] at hb
            have hn : ¬ ((⟨#[c]⟩ : Str) ++ Txt.slice x none (some 5)) ∈ us := by simpa using hb
            refine ⟨_, rfl, by omega, upd_same, less_by hi ⟨?_, by rw [upd_upd]⟩⟩
            rw [et, List.filter_append, List.map_append]
            congr 1
            rw [List.filter_cons, if_pos (decide_eq_true hn)]
            rfl
          · have hb : ¬ (!inV (.str (⟨#[c]⟩ ++ Txt.slice x none (some 5))) (us.map V.str)) = true := hb
            rw [inV_strs] at hb
            have hn : ((⟨#[c]⟩ : Str) ++ Txt.slice x none (some 5)) ∈ us := by simpa using hb
            refine less_by hi ⟨?_, rfl⟩
            rw [et, List.filter_append]
            rw [show List.filter (fun c => decide (¬ (c ++ Txt.slice x none (some 5)) ∈ us)) [(⟨#[c]⟩ : Str)] = [] by rw [List.filter_cons, if_neg (by simpa using hn)]; rfl, List.append_nil]
end
end K10
end
section
set_option autoImplicit false
namespace K10
open PySem PyProof.Rows L2
section
variable {P : Program} {w : World} {K : PySem.W.Frag} {mg : Str → Option Value} {base : Heap} {t : Adr}
theorem strRep_len (x : Str) {n : Int} (h : 1 ≤ n) : (strRep x n).length ≤ x.length * n.toNat := by
  unfold strRep
  rw [if_neg (by omega)]
  split
  · have : 1 ≤ n.toNat := by omega
    exact Nat.le_mul_of_pos_right _ (by omega)
  · show (List.foldl (fun x1 x2 => x1 ++ x2) #[] (List.replicate n.toNat x.cps)).size ≤ _
    rw [size_rep, Array.size_empty, Nat.mul_comm, Nat.zero_add]
    exact Nat.le_refl _
def spNames : Sp := fun vs H Q _ => ∃ (p u : Addr) (us : List Str) (n : Int), vs = [.ref p, .int n, .ref u] ∧ Pu H p ∧ H u = some (.lst (us.map V.str)) ∧ 0 ≤ n ∧ us.length + n.toNat ≤ 25 ∧
  ∀ (l : Addr) (ns : List Str) H', H l = none → ns.length = n.toNat → ns.Nodup → (∀ x ∈ ns, ¬ x ∈ us ∧ x.length ≤ 100) → H' l = some (.lst (ns.map V.str)) → Off p H H' → Pu H' p → Q (.ref l) H'
theorem nd_snoc {α : Type} {l : List α} {x : α} (h : l.Nodup) (hx : ¬ x ∈ l) : (l ++ [x]).Nodup := by
  rw [List.nodup_append]
  refine ⟨h, by simp, fun a ha b hb e => ?_⟩
  have : b = x := by simpa using hb
  rw [e, this] at ha
  exact hx ha
theorem ok_names (D : Defs K mg t) : FnOk P w K mg base CX0 3 t._law_names.1 t._law_names.2 ["_law_purse_here", "_law_many", "_law_used"] spNames := by
  have G__law_take : FnOk P w K mg base CX0 1 t._law_take.1 t._law_take.2 _ spTake := ok_take D
  have G__law_word : FnOk P w K mg base CX0 2 t._law_word.1 t._law_word.2 _ spWord := ok_word D
  have hz : sizeLine = 16777216 := sizeLine_eq
  refine D._law_names.fn.ok sc__law_names (fun vs H Q E h => ?_) (fun cdv A outer s H vs Q E hr h => ?_)
  · obtain ⟨p, u, us, n, rfl, _⟩ := h
    rfl
  · obtain ⟨p, u, us, n, rfl, hp, hu, h0, h1, k⟩ := h
    have up : u ≠ p := hp.ne hu
    refine ⟨_, (pss_cons (ps_set (i := 3) sc__law_names.nd rfl (Or.inl rfl) (pe_callF D._law_take G__law_take (hr.mono (by omega)) (by rfl) (pa_cons (pv 0) (pa_cons pe_int pa_nil))))
      (pss_cons (ps_set (i := 4) sc__law_names.nd rfl (Or.inl rfl) (pe_callF D._law_word G__law_word (hr.mono (by omega)) (by rfl) (pa_cons (pv 0) (pa_cons (pv 2) pa_nil))))
      (pss_cons (ps_set (i := 5) sc__law_names.nd rfl (Or.inl rfl) (pe_callF D._law_take G__law_take (hr.mono (by omega)) (by rfl) (pa_cons (pv 0) (pa_cons (pe_callB call_len_str (by rfl) D.b_len bt_len (pa_cons (pv 4) pa_nil)) pa_nil))))
      (pss_cons (ps_set (i := 6) sc__law_names.nd rfl (Or.inl rfl) (pe_callF D._law_take G__law_take (hr.mono (by omega)) (by rfl) (pa_cons (pv 0) (pa_cons pe_int pa_nil))))
      (pss_cons (ps_set (i := 7) sc__law_names.nd rfl (Or.inl rfl) (pe_lst pa_nil))
      (pss_cons (ps_for PassesOwn.never rfl (pi_range1 rfl D.b_range (pa_cons (pv 1) pa_nil)) (pg_name (i := 8) sc__law_names.nd rfl (Or.inl rfl))
      (pss_cons (ps_set (i := 9) sc__law_names.nd rfl (Or.inl rfl) (pe_ix ix_str pe_str (pe_op op_mod (pe_op op_add (pv 6) (pe_op op_mul pe_int (pv 8))) pe_int) (fun _ _ => rfl)))
      (pss_cons (ps_set (i := 10) sc__law_names.nd rfl (Or.inl rfl) (pe_op op_add_str (pe_op op_add_str (pe_slice sl_str (pv 4) po_none (po_some (pv 5))) (pv 9)) (pe_slice sl_str (pv 4) (po_some (pe_op op_add (pv 5) pe_int)) po_none)))
      (pss_join (ps_if (pt_cmpR op_eq (pv 3) pe_int (nomark _))
      (pss_one (ps_set (i := 10) sc__law_names.nd rfl (Or.inl rfl) (pe_slice sl_str (pe_op op_mulS (pv 4) pe_int) po_none (po_some (pe_callB (call_min2 rfl) (by rfl) D.b_min bt_min (pa_cons pe_int (pa_cons (pe_op op_add (pv 8) pe_int) pa_nil)))))))
      pss_nil)
      (pss_join (ps_if (PW.pt (pw_or (pt_cmpR op_gt (pv 3) pe_int (nomark _)) (pw_or1 (pt_cmpR op_in_seq (pv 10) (pe_op op_cat (pv 2) (pv 7)) (by with_unfolding_all rfl)))))
      (pss_one (ps_set (i := 10) sc__law_names.nd rfl (Or.inl rfl) (pe_callF D._law_word G__law_word (hr.mono (by omega)) (by rfl) (pa_cons (pv 0) (pa_cons (pe_op op_cat (pv 2) (pv 7)) pa_nil)))))
      pss_nil)
      (pss_one (ps_expr (pe_bm PySem.F.plainAttrs_list PySem.F.slot_list_append PySem.F.type_list_append mt_append (pv 7) (pa_cons (pv 10) pa_nil)))))))))
      (pss_one (ps_ret (pv 7))))))))), ?_⟩
    refine ⟨_, rfl, p, 4, rfl, hp, by decide, by decide, fun pick a1 b1 c1 l1 u1 => ?_⟩
    refine ⟨_, rfl, _, rfl, p, u, us, rfl, Pu.upd, by rw [upd_ne up]; exact hu, by omega, fun x H1 hx1 hx7 _ o1 p1 => ?_⟩
    have o1 : Off p H H1 := Off.upd.trans o1
    refine ⟨_, rfl, _, rfl, x, rfl, by omega, p, _, rfl, p1, by omega, by omega, fun place a2 b2 c2 l2 u2 => ?_⟩
    refine ⟨_, rfl, p, 26, rfl, Pu.upd, by decide, by decide, fun first a3 b3 c3 l3 u3 => ?_⟩
    rw [upd_upd]
    have o3 : Off p H (upd H1 p (.lst [.int a3, .int b3, .int c3])) := o1.trans Off.upd
    refine ⟨Nat.zero_le _, fun l hl => ?_⟩
    have hlH : H l = none := by
      by_cases e : l = p
      · rw [e, upd_same] at hl
        cases hl
      · cases q : H l with
        | none => rfl
        | some o =>
          rw [o3 l o e q] at hl
          cases hl
    have pl : p ≠ l := hp.neN hlH
    have ul : u ≠ l := ne_of_none hu hlH
    refine ⟨_, rfl, n, rfl, by omega, by omega, for_range (lo := 0) (n := n.toNat) (fun i σ H2 => ∃ (ns : List Str) (v8 v9 v10 : Option V), σ = [some (.ref p), some (.int n), some (.ref u), some (.int pick), some (.str x), some (.int place), some (.int first), some (.ref l), v8, v9, v10] ∧
      ns.length = i ∧ ns.Nodup ∧ (∀ x ∈ ns, ¬ x ∈ us ∧ x.length ≤ 100) ∧ H2 l = some (.lst (ns.map V.str)) ∧ Off p H H2 ∧ Pu H2 p)
      ⟨[], _, _, _, rfl, rfl, List.nodup_nil, by simp, upd_same, o3.trans (Off.new hl), Pu.upd.upd_ne pl⟩ ?_ ?_⟩
    · rintro i σ H2 hi ⟨ns, v8, v9, v10, rfl, hns, nd, nu, hl2, o2, p2⟩
      have hu2 : H2 u = some (.lst (us.map V.str)) := o2 u _ up hu
      have m0 := Int.emod_nonneg (first + 7 * (0 + (i : Int))) (show (26 : Int) ≠ 0 by decide)
      have m1 := Int.emod_lt_of_pos (first + 7 * (0 + (i : Int))) (show (0 : Int) < 26 by decide)
      obtain ⟨cc, ec, _, _⟩ := atI_in (xs := abc.cps.toList) m0 (by rw [Array.length_toList, abc_len]; exact m1)
      refine ⟨_, rfl, _, rfl, _, _, rfl, rfl, .inl ⟨by decide, by decide⟩, _, _, rfl, rfl, _, _, rfl, rfl, (by show (0 : Int) < 26; decide), abc, _, cc, rfl, rfl, by decide +kernel, ec, ?_⟩
      have q1 := slice_len x none (some place)
      have q2 := slice_len x (some (place + 1)) none
      refine ⟨_, rfl, _, rfl, _, rfl, x, rfl, by omega, _, rfl, _, _, rfl, rfl, (by show (Txt.slice x none (some place)).length + 1 ≤ sizeLine; omega), _, rfl, _, rfl, _, _, rfl, rfl, _, rfl, x, rfl, by omega, _, _, rfl, rfl, ?_, ?_⟩
      · rw [str_len_app]
        show (Txt.slice x none (some place)).length + 1 + _ ≤ sizeLine
        omega
      refine ⟨fun σ' H' => ∃ (y : Str) (v8 v9 : Option V), σ' = [some (.ref p), some (.int n), some (.ref u), some (.int pick), some (.str x), some (.int place), some (.int first), some (.ref l), some (.int (0 + (i : Int))), v9, some (.str y)] ∧ H' = H2 ∧ y.length ≤ 100, ?_, ?_⟩
      · refine ⟨_, rfl, rfl, _, rfl, ite2 (fun hb => ?_) (fun hb => ?_)⟩
        · have q3 := strRep_len x (n := 6) (by decide)
          refine ⟨_, rfl, x, 6, rfl, rfl, by decide, by decide, by omega, _, rfl, _, _, rfl, rfl, _, _, rfl, _, rfl, _, rfl, by show (strRep x 6).length ≤ sizeLine; have : (6 : Int).toNat = 6 := rfl; rw [this] at q3; omega, _, none, _, rfl, rfl, ?_⟩
          have q4 := slice_len (strRep x 6) none (some (if 0 + (i : Int) + 1 < 6 then 0 + (i : Int) + 1 else 6))
          have : (6 : Int).toNat = 6 := rfl
          rw [this] at q3
          exact Nat.le_trans q4 (by omega)
        · refine ⟨_, none, _, rfl, rfl, ?_⟩
          rw [str_len_app, str_len_app]
          show (Txt.slice x none (some place)).length + 1 + _ ≤ 100
          omega
      · rintro σ' H' ⟨y, v8', v9', rfl, rfl, hyl⟩
        refine ⟨fun σ' H'' => ∃ (y : Str) (v9 : Option V), σ' = [some (.ref p), some (.int n), some (.ref u), some (.int pick), some (.str x), some (.int place), some (.int first), some (.ref l), some (.int (0 + (i : Int))), v9, some (.str y)] ∧ (¬ y ∈ us ∧ y.length ≤ 100) ∧ ¬ y ∈ ns ∧ Off p H' H'' ∧ Pu H'' p, ?_, ?_⟩
        · have cl : (us.map V.str).length + (ns.map V.str).length ≤ sizeLine := by rw [List.length_map, List.length_map]; omega
          have fresh : ∀ (q : Addr) (H0 : Hp), Off p H' H0 → Pu H0 p → H0 q = none → ∀ (y : Str) (H3 : Hp), ¬ y ∈ us ++ ns → Off p (upd H0 q (.lst (us.map V.str ++ ns.map V.str))) H3 → Pu H3 p → ¬ y ∈ us ∧ ¬ y ∈ ns ∧ Off p H' H3 ∧ Pu H3 p := fun q H0 o0 p0 hq y H3 hy o3 p3 =>
            ⟨fun h => hy (List.mem_append_left _ h), fun h => hy (List.mem_append_right _ h), (o0.trans (Off.new hq)).trans o3, p3⟩
          refine ⟨_, rfl, _, _, rfl, rfl, _, rfl, ite2 (fun hb => ?_) (fun hb => ?_)⟩
          · refine iteT ⟨_, rfl, _, rfl, _, rfl, u, l, _, _, rfl, rfl, hu2, hl2, cl, fun q hq => ⟨p, q, us ++ ns, rfl, p2.upd_ne (p2.neN hq), by rw [upd_same, List.map_append], by rw [List.length_append]; omega, fun y' H3 _ hy7 hy o3 p3 => ?_⟩⟩
            obtain ⟨f1, f2, f3, f4⟩ := fresh q H' (Off.refl p H') p2 hq y' H3 hy o3 p3
            exact ⟨y', _, rfl, ⟨f1, by omega⟩, f2, f3, f4⟩
          · refine ⟨_, rfl, _, rfl, _, rfl, u, l, _, _, rfl, rfl, hu2, hl2, cl, fun q hq => ⟨q, _, rfl, .inl (SqL.of upd_same), rfl, ?_, _, rfl, ite2 (fun hc => ?_) (fun hc => ?_)⟩⟩
            · rw [List.all_append, flat_strs, flat_strs]
              rfl
            · have uq : u ≠ q := ne_of_none hu2 hq
              have lq : l ≠ q := ne_of_none hl2 hq
              refine ⟨_, rfl, _, rfl, _, rfl, u, l, _, _, rfl, rfl, by rw [upd_ne uq]; exact hu2, by rw [upd_ne lq]; exact hl2, cl, fun q2 hq2 => ⟨p, q2, us ++ ns, rfl, (p2.upd_ne (p2.neN hq)).upd_ne ((p2.upd_ne (p2.neN hq)).neN hq2), by rw [upd_same, List.map_append], by rw [List.length_append]; omega, fun y' H3 _ hy7 hy o3 p3 => ?_⟩⟩
              obtain ⟨f1, f2, f3, f4⟩ := fresh q2 _ (Off.new hq) (p2.upd_ne (p2.neN hq)) hq2 y' H3 hy o3 p3
              exact ⟨y', _, rfl, ⟨f1, by omega⟩, f2, f3, f4⟩
            · have hc : ¬ inV (.str y) (us.map V.str ++ ns.map V.str) = true := hc
              rw [← List.map_append, inV_strs] at hc
              have hc : ¬ y ∈ us ++ ns := fun h => hc (decide_eq_true h)
              exact ⟨y, _, rfl, ⟨fun h => hc (List.mem_append_left _ h), hyl⟩, fun h => hc (List.mem_append_right _ h), Off.new hq, p2.upd_ne (p2.neN hq)⟩
        · rintro σ'' H3 ⟨y', v9'', rfl, y1, y2, o3, p3⟩
          have hl3 : H3 l = some (.lst (ns.map V.str)) := o3 l _ pl.symm hl2
          refine ⟨_, rfl, .inl ⟨rfl, _, SqL.of hl3⟩, _, rfl, l, ns.map V.str, .str y', rfl, rfl, hl3, by rw [List.length_map]; omega, ns ++ [y'], _, _, _, rfl, by rw [List.length_append, hns]; rfl, nd_snoc nd y2, ?_, by rw [upd_same, List.map_append]; rfl, ?_, p3.upd_ne pl⟩
          · intro z hz
            rcases List.mem_append.mp hz with h | h
            · exact nu z h
            · rw [List.mem_singleton.mp h]
              exact y1
          · intro b o hb e
            rw [upd_ne (ne_of_none e hlH)]
            exact o3 b o hb (o2 b o hb e)
    · rintro σ H2 ⟨ns, v8, v9, v10, rfl, hns, nd, nu, hl2, o2, p2⟩
      exact ⟨_, rfl, k l ns H2 hlH hns nd nu hl2 o2 p2⟩
end
end K10
end
section
set_option autoImplicit false
namespace K10
open PySem PyProof.Rows L2
section
variable {P : Program} {w : World} {K : PySem.W.Frag} {mg : Str → Option Value} {base : Heap} {t : Adr}
def spSome : Sp := fun vs H Q _ => ∃ (p m : Addr) (ns : List Str) (n : Nat), vs = [.ref p, .ref m, .int n] ∧ Pu H p ∧ H m = some (.lst (ns.map V.str)) ∧ n ≤ 100 ∧ ns.length ≤ 100 ∧
  ∀ (q : Addr) (es : List Str) H', H' q = some (.tup (es.map V.str)) → (∀ x ∈ es, x ∈ ns) → es.Nodup → es.length ≤ n → Off p H H' → Pu H' p → Q (.ref q) H'
theorem ok_some (D : Defs K mg t) : FnOk P w K mg base CX0 2 t._law_some.1 t._law_some.2 ["_law_purse_here", "_law_menu", "_law_most"] spSome := by
  have G__law_take : FnOk P w K mg base CX0 1 t._law_take.1 t._law_take.2 _ spTake := ok_take D
  have hz : sizeLine = 16777216 := sizeLine_eq
  refine D._law_some.fn.ok sc__law_some (fun vs H Q E h => ?_) (fun cdv A outer s H vs Q E hr h => ?_)
  · obtain ⟨p, m, ns, n, rfl, _⟩ := h
    rfl
  · obtain ⟨p, m, ns, n, rfl, hp, hm, hn, hl, k⟩ := h
    have mp : m ≠ p := hp.ne hm
    refine ⟨_, (pss_cons (ps_set (i := 3) sc__law_some.nd rfl (Or.inl rfl) (pe_lst pa_nil))
      (pss_cons (ps_if (pt_cmpR op_eq (pe_callB call_len_seq (by rfl) D.b_len bt_len (pa_cons (pv 1) pa_nil)) pe_int (nomark _))
      (pss_one (ps_ret (pe_tup pa_nil)))
      pss_nil)
      (pss_cons (ps_for PassesOwn.never rfl (pi_range1 rfl D.b_range (pa_cons (pe_callF D._law_take G__law_take (hr.mono (by omega)) (by rfl) (pa_cons (pv 0) (pa_cons (pe_op op_add (pv 2) pe_int) pa_nil))) pa_nil)) (pg_name (i := 4) sc__law_some.nd rfl (Or.inl rfl))
      (pss_cons (ps_set (i := 5) sc__law_some.nd rfl (Or.inl rfl) (pe_ix ix_list (pv 1) (pe_callF D._law_take G__law_take (hr.mono (by omega)) (by rfl) (pa_cons (pv 0) (pa_cons (pe_callB call_len_seq (by rfl) D.b_len bt_len (pa_cons (pv 1) pa_nil)) pa_nil))) (fun _ _ => rfl)))
      (pss_one (ps_if (pt_cmpR op_notIn_seq (pv 5) (pv 3) (by with_unfolding_all rfl))
      (pss_one (ps_expr (pe_bm PySem.F.plainAttrs_list PySem.F.slot_list_append PySem.F.type_list_append mt_append (pv 3) (pa_cons (pv 5) pa_nil))))
      pss_nil))))
      (pss_one (ps_ret (pe_callTy call_tuple_of (by rfl) D.b_tuple bt_tuple (pa_cons (pv 3) pa_nil))))))), ?_⟩
    refine ⟨Nat.zero_le _, fun l hll => ?_⟩
    have pl : p ≠ l := hp.neN hll
    have ml : m ≠ l := ne_of_none hm hll
    refine ⟨_, rfl, m, _, rfl, .inl (SqL.of (by rw [upd_ne ml]; exact hm)), rfl, _, rfl, ite2 (fun hb => ?_) (fun hb => ?_)⟩
    · exact ⟨Nat.zero_le _, fun q hq => k q [] _ upd_same (by simp) List.nodup_nil (Nat.zero_le _) ((Off.new hll).trans (Off.new hq)) ((hp.upd_ne pl).upd_ne ((hp.upd_ne pl).neN hq))⟩
    · have hpos : 0 < ns.length := by
        have hb : ¬ decide (V.int ((ns.map V.str).length : Int) = V.int 0) = true := hb
        rcases Nat.eq_zero_or_pos ns.length with h | h
        · exfalso
          apply hb
          rw [List.length_map, h]
          exact decide_eq_true rfl
        · exact h
      refine ⟨_, rfl, _, rfl, _, _, rfl, rfl, p, _, rfl, hp.upd_ne pl, by omega, by omega, fun r a1 b1 c1 l1 u1 => ⟨r, rfl, by omega, by omega, ?_⟩⟩
      refine for_range (lo := 0) (n := r.toNat) (fun i σ H2 => ∃ (es : List Str) (v4 v5 : Option V), σ = [some (.ref p), some (.ref m), some (.int n), some (.ref l), v4, v5] ∧ es.length ≤ i ∧ es.Nodup ∧ (∀ x ∈ es, x ∈ ns) ∧ H2 l = some (.lst (es.map V.str)) ∧ Off p H H2 ∧ Pu H2 p)
        ⟨[], _, _, rfl, Nat.le_refl _, List.nodup_nil, by simp, by rw [upd_ne pl.symm, upd_same]; rfl, (Off.new hll).trans Off.upd, Pu.upd⟩ ?_ ?_
      · rintro i σ H2 hi ⟨es, v4, v5, rfl, he, nd, sub, hl2, o2, p2⟩
        have hm2 : H2 m = some (.lst (ns.map V.str)) := o2 m _ mp hm
        refine ⟨_, rfl, _, rfl, _, rfl, m, _, rfl, .inl (SqL.of hm2), p, _, rfl, p2, by rw [List.length_map]; omega, by rw [List.length_map]; omega, fun r2 a2 b2 c2 l2 u2 => ?_⟩
        rw [List.length_map] at u2
        obtain ⟨x, ex, mx, _⟩ := atI_strs (ns := ns) l2 u2
        refine ⟨m, _, _, _, rfl, rfl, SqL.of (by rw [upd_ne mp]; exact hm2), ex, ?_⟩
        have lp : l ≠ p := pl.symm
        refine ⟨_, rfl, _, rfl, l, _, rfl, .inl (SqL.of (by rw [upd_ne lp]; exact hl2)), rfl, flat_strs es, _, rfl, ite2 (fun hc => ?_) (fun hc => ?_)⟩
        · have hc : (!inV (.str x) (es.map V.str)) = true := hc
          rw [inV_strs] at hc
          have hx : ¬ x ∈ es := by simpa using hc
          refine ⟨_, rfl, .inl ⟨rfl, _, SqL.of (by rw [upd_ne lp]; exact hl2)⟩, _, rfl, l, es.map V.str, .str x, rfl, rfl, by rw [upd_ne lp]; exact hl2, by rw [List.length_map]; omega, es ++ [x], _, _, rfl, by rw [List.length_append]; exact Nat.succ_le_succ he, nd_snoc nd hx, ?_, by rw [upd_same, List.map_append]; rfl, ?_, Pu.upd.upd_ne pl⟩
          · intro z hz
            rcases List.mem_append.mp hz with h | h
            · exact sub z h
            · rw [List.mem_singleton.mp h]
              exact mx
          · intro b o hb e
            rw [upd_ne (ne_of_none e hll), upd_ne hb]
            exact o2 b o hb e
        · exact ⟨es, _, _, rfl, Nat.le_succ_of_le he, nd, sub, by rw [upd_ne lp]; exact hl2, o2.trans Off.upd, Pu.upd⟩
      · rintro σ H2 ⟨es, v4, v5, rfl, he, nd, sub, hl2, o2, p2⟩
        refine ⟨_, rfl, l, _, rfl, .inl ⟨SqL.of hl2, fun q hq => ?_⟩⟩
        exact k q es _ upd_same sub nd (by omega) (o2.trans (Off.new hq)) (p2.upd_ne (p2.neN hq))
end
end K10
end
section
set_option autoImplicit false
namespace L2
open PySem PySem.Spec PyProof.Rows
section
variable {X : Cx} {K : PySem.W.Frag}
def SeqAt' (H : Hp) (v : V) (ys : List V) : Prop := ∃ p, v = .ref p ∧ (H p = some (.lst ys) ∨ H p = some (.tup ys))
end
end L2
end
section
set_option autoImplicit false
namespace L2
open PySem PySem.Spec PyProof.Rows
section
variable {X : Cx} {K : PySem.W.Frag}
end
end L2
end
section
set_option autoImplicit false
namespace L2
open PySem PySem.Spec PyProof.Rows PySem.W
section
variable {prog : Program} {w : World} {A : Around} {E : Value → Shared → Prop} {s : Shared} {T : String} {r d : Addr} {n : Nat} {P : Nat → Value → Prop} {OK : Heap → Prop}
end
end L2
end
section
set_option autoImplicit false
namespace L2
open PySem PySem.Spec PyProof.Rows
section
variable {X : Cx}
end
section
variable {prog : Program} {w : World} {A : Around} {E : Value → Shared → Prop} {s : Shared}
theorem enumT_new (l : Addr) (items : Array Value) (n : Nat) (dct : Option Addr) (sl : Array (Option Value)) :
    Meets (Builtin.«enumerate.__new__» ⟨[.type "enumerate", .ref l], []⟩) (fun _ R s => s.heap.get? l = some { cls := .type "tuple", dict := dct, data := .seq items n, slots := sl } ∧
      R (.ok (.ret (.ref (s.heap.push { cls := .type "tuple_iterator", data := .fields #[.ref l, .int 0 0] }).objs.size)))
        { s with heap := (s.heap.push { cls := .type "tuple_iterator", data := .fields #[.ref l, .int 0 0] }).push { cls := .type "enumerate", data := .fields #[.none, .bool false, .ref s.heap.objs.size, rawInt 0, .none, .none] } }) :=
  .of_wp fun prog w A R s h => by
    obtain ⟨hp, g, d, tk, os⟩ := s
    obtain ⟨hl, h⟩ := h
    have hsub := sub_enumerate
    have hL : Heap.IsTuple (Shared.heap ⟨hp, g, d, tk, os⟩) l items := ⟨_, hl, rfl, n, rfl⟩
    wp_walk using AutoSeq1.wpAny_loadPart' hl
    refine wpAny_stack_any fun st => wpAny_pure ?_
    split
    · rename_i c _ _ _ _ _
      cases (c == Value.type "enumerate")
      · wp_walk using AutoSeq1.wpAny_loadPart' hl, wpAny_pyIter_tuple hL
        exact ⟨_, rfl, h⟩
      · wp_walk using AutoSeq1.wpAny_loadPart' hl, wpAny_pyIter_tuple hL
        exact ⟨_, rfl, h⟩
    · wp_walk using AutoSeq1.wpAny_loadPart' hl, wpAny_pyIter_tuple hL
      exact ⟨_, rfl, h⟩
theorem call_enumT {l : Addr} {items : Array Value} {Q : Value → Shared → Prop} (hL : s.heap.IsTuple l items)
    (h : ∀ h', IsEnum h' (s.heap.objs.size + 1) s.heap.objs.size 0 .none → h'.IsTupleIter s.heap.objs.size l 0 → (∀ b o, s.heap.get? b = some o → h'.get? b = some o) → Q (.ref (s.heap.objs.size + 1)) { s with heap := h' }) :
    wpAny (model prog w) A (call (.type "enumerate") [.ref l]) Q E s := by
  obtain ⟨⟨c, dct, dt, sl⟩, hl, hc, n, hd⟩ := hL
  have hc : c = .type "tuple" := hc
  have hd : dt = .seq items n := hd
  subst hc hd
  refine callType_new F.called_enumerate (by decide) (F.typeCall_enumerate_1 _) (F.newCall_enumerate_1 _) (fun obj => F.args_object_init_2 obj _) F.entry_enumerate_new (enumT_new l items n dct sl) ⟨hl, ?_⟩
  have hz : (s.heap.push { cls := .type "tuple_iterator", data := .fields #[.ref l, .int 0 0] }).objs.size = s.heap.objs.size + 1 := Heap.size_push ..
  show _ ∧ _
  rw [hz]
  have he : IsEnum ((s.heap.push { cls := .type "tuple_iterator", data := .fields #[.ref l, .int 0 0] }).push { cls := .type "enumerate", data := .fields #[.none, .bool false, .ref s.heap.objs.size, rawInt 0, .none, .none] }) (s.heap.objs.size + 1) s.heap.objs.size 0 .none := by
    rw [← hz]
    exact Heap.get?_push_size _ rfl
  exact ⟨⟨_, he, rfl⟩, h _ he ⟨_, Heap.get?_push_of_some _ (Heap.get?_push_size _ rfl), rfl, rfl⟩ fun b o e => Heap.get?_push_of_some _ (Heap.get?_push_of_some _ e)⟩
end
end L2
end
section
set_option autoImplicit false
namespace L2
open PySem PySem.Spec PyProof.Rows
section
variable {prog : Program} {w : World} {A : Around} {E : Value → Shared → Prop} {s : Shared}
theorem enumT_item {e it l : Addr} {i : Nat} {items : Array Value} {x old : Value} {Q : Value → Shared → Prop} (he : IsEnum s.heap e it i old) (hit : s.heap.IsTupleIter it l i) (hl : s.heap.IsTuple l items) (hx : items[i]? = some x) (hne : e ≠ it)
    (hQ : ∀ h', IsEnumOut h' e it ((i : Int) + 1) x s.heap.objs.size → h'.IsTupleIter it l (i + 1) → h'.get? s.heap.objs.size = some { cls := .type "tuple", data := .seq #[.int i s.toks, x] } →
      (∀ b o, b ≠ e → b ≠ it → s.heap.get? b = some o → h'.get? b = some o) → Q (.ref s.heap.objs.size) { s with heap := h', toks := s.toks + 1 }) :
    wpAny (model prog w) A (Builtin.«enumerate.__next__» ⟨[.ref e], []⟩) (fun fin s' => ∃ v, fin = .done (.ret v) ∧ Q v s') E s := by
  obtain ⟨hp, g, d, tk, os⟩ := s
  have elt : e < hp.objs.size := Heap.lt_size he
  show wpAny _ _ (field (.ref e) 2 >>= _) _ _ _
  refine wpAny_bind (wpAny_field he rfl (x := .ref it) rfl ?_)
  refine wpAny_bind (nextT_item hit hl hx fun h1 t1 b1 => ?_)
  have e1 : IsEnum h1 e it i old := (b1.2 e hne).trans he
  show wpAny _ _ (field (.ref e) 3 >>= _) _ _ ⟨h1, g, d, tk, os⟩
  refine wpAny_bind (wpAny_field e1 rfl (x := rawInt i) rfl ?_)
  show wpAny _ _ (field (.ref e) 4 >>= _) _ _ ⟨h1, g, d, tk, os⟩
  refine wpAny_bind (wpAny_field e1 rfl (x := .none) rfl ?_)
  show wpAny _ _ (mkInt i >>= _) _ _ ⟨h1, g, d, tk, os⟩
  refine wpAny_bind (wpAny_mkInt ?_)
  show wpAny _ _ (setField (.ref e) 3 (rawInt ((i : Int) + 1)) >>= _) _ _ ⟨h1, g, d, tk + 1, os⟩
  refine wpAny_bind (wpAny_setField_rec e1 (by simp) fun h2 e2 b2 => ?_)
  replace e2 : IsEnum h2 e it ((i : Int) + 1) old := e2
  show wpAny _ _ (setField (.ref e) 4 .none >>= _) _ _ ⟨h2, g, d, tk + 1, os⟩
  refine wpAny_bind (wpAny_setField_rec e2 (by simp) fun h3 e3 b3 => ?_)
  replace e3 : IsEnum h3 e it ((i : Int) + 1) old := e3
  show wpAny _ _ (newTuple [.int i tk, x] >>= _) _ _ ⟨h3, g, d, tk + 1, os⟩
  refine wpAny_bind (wpAny_newTuple ?_)
  have hsz : h3.objs.size = hp.objs.size := b3.1.trans (b2.1.trans b1.1)
  have e4 : IsEnum (h3.push { cls := .type "tuple", data := .seq #[.int i tk, x] }) e it ((i : Int) + 1) old := Heap.get?_push_of_some _ e3
  have g4 : (h3.push { cls := .type "tuple", data := .seq #[.int i tk, x] }).get? hp.objs.size = some { cls := .type "tuple", data := .seq #[.int i tk, x] } := by
    rw [← hsz]
    exact Heap.get?_push_size _ rfl
  have k4 : ∀ b o, b ≠ e → b ≠ it → hp.get? b = some o → (h3.push { cls := .type "tuple", data := .seq #[.int i tk, x] }).get? b = some o := fun b o c1 c2 z =>
    Heap.get?_push_of_some _ (b3.extBut b o c1 (b2.extBut b o c1 (b1.extBut b o c2 z)))
  have t4 : (h3.push { cls := .type "tuple", data := .seq #[.int i tk, x] }).IsTupleIter it l (i + 1) := by
    obtain ⟨o, ho, r⟩ := (t1.extBut b2.extBut (Ne.symm hne)).extBut b3.extBut (Ne.symm hne)
    exact ⟨o, Heap.get?_push_of_some _ ho, r⟩
  have gt : hp.objs.size ≠ e := Nat.ne_of_gt elt
  show wpAny _ _ (Builtin.SmallTypes.ownedTupleIsFree (.ref e) >>= _) _ _ ⟨h3.push { cls := .type "tuple", data := .seq #[.int i tk, x] }, g, d, tk + 1, os⟩
  rw [hsz]
  generalize h3.push { cls := .type "tuple", data := .seq #[.int i tk, x] } = h4 at e4 g4 k4 t4
  refine wpAny_bind ?_
  unfold Builtin.SmallTypes.ownedTupleIsFree
  refine wpAny_bind (wpAny_field e4 rfl (x := .none) rfl (wpAny_pure ?_))
  simp only [if_true]
  refine wpAny_bind (wpAny_rule ?_)
  refine wpAny_bind (wpAny_field e4 rfl (x := old) rfl ?_)
  refine wpAny_bind (wpAny_setField_rec e4 (by simp) fun h5 e5 b5 => ?_)
  replace e5 : IsEnum h5 e it ((i : Int) + 1) x := e5
  show wpAny _ _ (Builtin.SmallTypes.ownedTupleHandOut (.ref e) (.ref hp.objs.size) >>= _) _ _ ⟨h5, g, d, tk + 1, os⟩
  refine wpAny_bind ?_
  unfold Builtin.SmallTypes.ownedTupleHandOut
  refine wpAny_bind (wpAny_setField_rec e5 (by simp) fun h6 e6 b6 => ?_)
  replace e6 : IsEnumOut h6 e it ((i : Int) + 1) x hp.objs.size := e6
  refine wpAny_setField_rec e6 (by simp) fun h7 e7 b7 => ?_
  replace e7 : IsEnumOut h7 e it ((i : Int) + 1) x hp.objs.size := e7
  refine wpAny_bind (wpAny_letGo (wpAny_pure ⟨_, rfl, hQ h7 e7 ?_ ?_ ?_⟩))
  · exact ((t4.extBut b5.extBut (Ne.symm hne)).extBut b6.extBut (Ne.symm hne)).extBut b7.extBut (Ne.symm hne)
  · exact b7.extBut _ _ gt (b6.extBut _ _ gt (b5.extBut _ _ gt g4))
  · exact fun b o c1 c2 z => b7.extBut b o c1 (b6.extBut b o c1 (b5.extBut b o c1 (k4 b o c1 c2 z)))
theorem nextE_item {e it l : Addr} {i : Nat} {items : Array Value} {x old : Value} {Q : Option Value → Shared → Prop} (he : IsEnum s.heap e it i old) (hit : s.heap.IsTupleIter it l i) (hl : s.heap.IsTuple l items) (hx : items[i]? = some x) (hne : e ≠ it)
    (hQ : ∀ h', IsEnumOut h' e it ((i : Int) + 1) x s.heap.objs.size → h'.IsTupleIter it l (i + 1) → h'.get? s.heap.objs.size = some { cls := .type "tuple", data := .seq #[.int i s.toks, x] } →
      (∀ b o, b ≠ e → b ≠ it → s.heap.get? b = some o → h'.get? b = some o) → Q (some (.ref s.heap.objs.size)) { s with heap := h', toks := s.toks + 1 }) :
    wpAny (model prog w) A (pyNext (.ref e)) Q E s := by
  have hT : s.TypeIs (.ref e) "enumerate" := ⟨_, he, rfl⟩
  unfold pyNext
  exact wpAny_bind (wpAny_attempt (wpAny_callSpecial?_slot (name := Str.ofString "__next__") hT F.slot_enumerate_next (wpAny_call_entry F.slot_enumerate_next hT F.entry_enumerate_next (enumT_item he hit hl hx hne fun h' a b c k => wpAny_pure (hQ h' a b c k)) (F.args_enumerate_next_1 _))))
theorem nextE_end {e it l : Addr} {i : Nat} {items : Array Value} {old : Value} {Q : Option Value → Shared → Prop} (hh : A.handled = none) (he : IsEnum s.heap e it i old) (hit : s.heap.IsTupleIter it l i) (hl : s.heap.IsTuple l items) (hx : items[i]? = none)
    (hQ : ∀ h', Heap.ExtBut it s.heap h' → Q none { s with heap := h' }) : wpAny (model prog w) A (pyNext (.ref e)) Q E s := by
  have hT : s.TypeIs (.ref e) "enumerate" := ⟨_, he, rfl⟩
  unfold pyNext
  refine wpAny_bind (wpAny_attempt (wpAny_callSpecial?_slot (name := Str.ofString "__next__") hT F.slot_enumerate_next (wpAny_call_entry F.slot_enumerate_next hT F.entry_enumerate_next ?_ (F.args_enumerate_next_1 _))))
  show wpAny _ _ (field (.ref e) 2 >>= _) _ _ _
  refine wpAny_bind (wpAny_field he rfl (x := .ref it) rfl ?_)
  refine wpAny_bind (nextT_end hh hit hl hx fun h' x' k' hx' => ?_)
  obtain ⟨o, ho, hc⟩ := hx'
  exact wpAny_bind (wpAny_isInstance (T := "StopIteration") (b := true) ⟨o, ho, hc⟩ isSubtype_stop (wpAny_pure (hQ _ k')))
end
end L2
end
section
set_option autoImplicit false
namespace L2
open PySem PySem.Spec PyProof.Rows
def IteT (K : PySem.W.Frag) (a : Addr) : It :=
  ⟨fun i H => ∃ xs x, SqT K H a xs ∧ xs[i]? = some x, fun i H v H' => ∃ p, H p = none ∧ v = .ref p ∧ ∀ xs x, SqT K H a xs → xs[i]? = some x → H' = upd H p (.tup [.int i, x]), fun i H => ∃ xs, SqT K H a xs ∧ xs.length ≤ i⟩
theorem turn_enumT {P : Program} {w : World} {K : PySem.W.Frag} {elts : List Expr} {x1 : Nat} {tpos : Pos} {e it l : Addr} (hne : e ≠ it) : Turn P w K (.Tuple elts x1 tpos) (IteT K l) [e, it] e
    (fun i h => (∃ old, IsEnum h e it i old) ∧ h.IsTupleIter it l i) where
  mem := by simp
  obj := fun i h st b hb => by
    obtain ⟨⟨old, he⟩, o, ei, c, d⟩ := st
    simp only [List.mem_cons, List.not_mem_nil, or_false] at hb
    rcases hb with rfl | rfl
    · exact ⟨_, he, fun v q => nomatch q⟩
    · exact ⟨o, ei, fun v z => by rw [d] at z; cases z⟩
  keep := fun i h h' st k => by
    obtain ⟨⟨old, he⟩, o, ei, r⟩ := st
    exact ⟨⟨old, k e (by simp) _ he⟩, o, k it (by simp) _ ei, r⟩
  item := by
    intro X hP hw hK hc i pins s σ H E I hf st hg
    subst hP hw hK
    obtain ⟨xs, x, hq, hx⟩ := hg
    obtain ⟨its, rv, p, hz⟩ := I.tuple hq
    obtain ⟨u, hu, ru⟩ := rv.get hx
    obtain ⟨⟨old, he⟩, hit⟩ := st
    refine nextE_item he hit (show s.heap.IsTuple l its.toArray from p) (x := u) (by simpa using hu) hne fun h' a1 a2 a3 a5 => ?_
    refine ⟨_, rfl, wpAny_letOwnedTupleGo_enum a1 fun h2' a1' q' => ?_⟩
    have hn : H s.heap.objs.size = none := I.hok.fresh (Nat.le_refl _)
    have elt : e < s.heap.objs.size := Heap.lt_size he
    have ilt : it < s.heap.objs.size := by obtain ⟨_, e, _⟩ := hit; exact Heap.lt_size e
    have kk : ∀ b ob, b ∉ [e, it] → s.heap.get? b = some ob → h2'.get? b = some ob := fun b ob hb ee => by
      simp only [List.mem_cons, List.not_mem_nil, or_false, not_or] at hb
      exact q'.extBut _ _ hb.1 (a5 b ob hb.1 hb.2 ee)
    have I1 : Inv X pins σ (upd H s.heap.objs.size (.tup [.int i, x])) { s with heap := h2', toks := s.toks + 1 } := I.turnLaid (t' := s.toks + 1) hf kk (Nat.le_refl _)
      ⟨⟨by show 2 ≤ sizeLine; decide, fun o ee => by rw [q'.extBut _ _ (Nat.ne_of_gt elt) a3] at ee; cases ee; rfl⟩, [.int i s.toks, u], .cons ⟨_, rfl⟩ (.cons ru .nil), ⟨_, q'.extBut _ _ (Nat.ne_of_gt elt) a3, rfl, _, rfl⟩⟩
    refine ⟨.ref s.heap.objs.size, _, I1, rfl, ⟨_, hn, rfl, fun xs' x' k1 k3 => ?_⟩, ⟨⟨_, by simpa using a1'⟩, a2.extBut q'.extBut hne.symm⟩, fun b hb => ?_⟩
    · rw [I.tuple_inj k1 hq, hx] at k3
      cases k3
      rfl
    · have hb' := hb
      simp only [List.mem_cons, List.not_mem_nil, or_false] at hb'
      have hlt : b < s.heap.objs.size := by
        rcases hb' with rfl | rfl
        · exact elt
        · exact ilt
      rw [upd_ne (Nat.ne_of_lt hlt)]
      exact (hf b hb).1
  done := by
    intro X hP hw hK hc i pins s σ H E I hf st hg
    subst hP hw hK
    obtain ⟨xs, hq, hx⟩ := hg
    obtain ⟨its, rv, p, hz⟩ := I.tuple hq
    obtain ⟨⟨old, he⟩, hit⟩ := st
    have hl := rv.length
    refine nextE_end (I.ok.hd hc) he hit (show s.heap.IsTuple l its.toArray from p) (by simp; omega) fun h' eb => ⟨rfl, I.turnedL (t' := s.toks) hf fun b u hb q => ?_⟩
    simp only [List.mem_cons, List.not_mem_nil, or_false, not_or] at hb
    exact eb b u hb.2 q
  self := fun _ _ _ _ _ st h => by
    obtain ⟨⟨old, he⟩, _⟩ := st
    exact wpAny_pyIter_enum he h
section
variable {X : Cx} {K : PySem.W.Frag}
def iEnumS (K : PySem.W.Frag) (ta : TA) : TI := fun σ H R => ta σ H fun vs H1 => ∃ a, vs = [.ref a] ∧ ((∃ xs, SqL K H1 a xs ∧ R (Ite K a) H1) ∨ ∃ xs, SqT K H1 a xs ∧ R (IteT K a) H1)
theorem pi_enumS {elts : List Expr} {x1 : Nat} {tpos : Pos} {a : Expr} {ta : TA} {p pos : Pos} (hK : X.K = K) (hg : Gl X "enumerate") (hm : X.mg "enumerate" = none) (ha : PA X [a] ta)
    (he : starEach [a] X.env = (false, eval a X.env) :: starEach [] X.env := by rfl) (hpl : (backTo pos (starEach [] X.env)).any (·.1) = false := by rfl) : PI X (.Tuple elts x1 tpos) (.Call (.Name "enumerate" p) [a] [] pos) (iEnumS K ta) := by
  subst hK
  intro pins s σ H R I h
  have boot_enum : bootBuiltins "enumerate" = some (.type "enumerate") := by decide +kernel
  refine wpAny_Call_Name_kw (ld_blt I hg hm boot_enum ?_)
  refine PyProof.Rows.callWith_type1 (thn (ha pos pins s σ H _ I h) fun us s1 ⟨vs, H1, I1, r1, t1, e, q1⟩ => ?_) he hpl
  subst e
  obtain ⟨u, rfl, ru⟩ := vals1 r1
  cases ru
  have hne : s1.heap.objs.size + 1 ≠ s1.heap.objs.size := by change @Ne Nat _ _; omega
  have fp : ∀ b ∈ [s1.heap.objs.size + 1, s1.heap.objs.size], FpOk X pins H1 b := fun b hb => by
    have hle : s1.heap.objs.size ≤ b := by
      simp only [List.mem_cons, List.not_mem_nil, or_false] at hb
      rcases hb with h | h <;> rw [h] <;> first | exact Nat.le_refl _ | exact Nat.le_add_right _ _
    exact I1.fpOk hle (I1.hok.fresh hle)
  rcases q1 with ⟨xs, q1, q⟩ | ⟨xs, q1, q⟩
  · obtain ⟨its, rv, p1, hz1⟩ := I1.list q1
    refine call_enumerate_list p1.isList fun h' hE hI hsz hk => ?_
    refine wpAny_pyIter_enum hE ?_
    exact ⟨s1.heap.objs.size + 1, [s1.heap.objs.size + 1, s1.heap.objs.size], _, Ite X.K t1, H1, rfl, I1.kept (t' := s1.toks) hk, turn_enum hne, ⟨⟨_, hE⟩, hI⟩, fp, q⟩
  · obtain ⟨its, rv, p1, hz1⟩ := I1.tuple q1
    refine call_enumT (show s1.heap.IsTuple t1 its.toArray from p1) fun h' hE hI hk => ?_
    refine wpAny_pyIter_enum hE ?_
    exact ⟨s1.heap.objs.size + 1, [s1.heap.objs.size + 1, s1.heap.objs.size], _, IteT X.K t1, H1, rfl, I1.kept (t' := s1.toks) hk, turn_enumT hne, ⟨⟨_, hE⟩, hI⟩, fp, q⟩
end
theorem for_enumT {K : PySem.W.Frag} {a : Addr} {xs : List V} {g : TG} {tb : TS} {D : Ends} {σ : St} {H : Hp} (Pv : Nat → St → Hp → Prop) (h0 : Pv 0 σ H) (hl : ∀ i σ H, i ≤ xs.length → Pv i σ H → SqT K H a xs)
    (hs : ∀ i x σ H p, xs[i]? = some x → Pv i σ H → H p = none → g (.ref p) σ (upd H p (.tup [.int i, x])) fun σ2 H2 => tb { D with nx := Pv (i + 1), ct := Pv (i + 1), bk := D.nx } σ2 H2) (hd : ∀ σ H, Pv xs.length σ H → D.nx σ H) :
    ∃ W : Nat → Nat → St → Hp → Prop, (∃ m, W 0 m σ H) ∧ ∀ i m σ H, W i m σ H →
      ((IteT K a).stop i H ∧ D.nx σ H) ∨ ((IteT K a).go i H ∧ ∃ N : St → Hp → Prop, (∀ σ' H', N σ' H' → ∃ m', m' < m ∧ W (i + 1) m' σ' H') ∧ ∀ x H', (IteT K a).yld i H x H' → g x σ H' fun σ2 H2 => tb { D with nx := N, ct := N, bk := D.nx } σ2 H2) := by
  refine ⟨fun i m σ H => m = xs.length - i ∧ i ≤ xs.length ∧ Pv i σ H, ⟨xs.length, by simp, Nat.zero_le _, h0⟩, ?_⟩
  rintro i m σ H ⟨rfl, hi, p⟩
  have q := hl i σ H hi p
  by_cases hlt : i < xs.length
  · refine .inr ⟨⟨xs, xs[i], q, by simp [hlt]⟩, Pv (i + 1), fun σ' H' p' => ⟨xs.length - (i + 1), by omega, rfl, hlt, p'⟩, fun x H' y => ?_⟩
    obtain ⟨r, hr, rfl, y⟩ := y
    have e := y xs xs[i] q (by simp [hlt])
    subst e
    exact hs i xs[i] σ _ r (by simp [hlt]) p hr
  · have e : i = xs.length := by omega
    subst e
    exact .inl ⟨⟨xs, q, Nat.le_refl _⟩, hd σ H p⟩
end L2
end
section
set_option autoImplicit false
namespace L2
open PySem PyProof.Rows
def RowsS (H : Hp) (vs : List V) (rows : List (List Str)) : Prop := Paired (fun (v : V) (r : List Str) => SeqAt' H v (r.map V.str)) vs rows
end L2
end
section
set_option autoImplicit false
namespace K10
open PySem PyProof.Rows L2
structure Row where
  kind : Str
  elders : List Str
  order : List Str
  fields : List Str
  deeds : List (Str × Int)
  num : Int
def rowP (r : Row) : List T := [.str r.kind, .tup (r.elders.map T.str), .tup (r.order.map T.str), .tup (r.fields.map T.str), .tup (r.deeds.map fun d => T.tup [.str d.1, .int d.2]), .int r.num]
def trow (r : Row) : T := .tup (rowP r)
def tabT (tb : List Row) : T := .tup (tb.map trow)
def kns (tb : List Row) : List Str := tb.map (·.kind)
structure GoodTb (tb : List Row) : Prop where
  nd : (kns tb).Nodup
  len : tb.length ≤ 7
  ord : ∀ r ∈ tb, ∀ x ∈ r.order, x ∈ kns tb
  ol : ∀ r ∈ tb, r.order.length ≤ 8
  fl : ∀ r ∈ tb, r.fields.length ≤ 7
  kl : ∀ r ∈ tb, r.kind.length ≤ 100
  es : ∀ r ∈ tb, (∀ x ∈ r.elders, x ∈ kns tb) ∧ r.elders.length ≤ 7
theorem one_kind {r : Row} : ∀ {tb : List Row}, (kns tb).Nodup → r ∈ tb → tb.filter (fun x => decide (x.kind = r.kind)) = [r]
  | [], _, h => by cases h
  | y :: tb, nd, h => by
    obtain ⟨n1, n2⟩ := List.nodup_cons.mp nd
    rw [List.filter_cons]
    by_cases e : y.kind = r.kind
    · rw [if_pos (decide_eq_true e)]
      have hy : y = r := by
        rcases List.mem_cons.mp h with h | h
        · exact h.symm
        · exact absurd (List.mem_map.mpr ⟨r, h, e.symm⟩) n1
      rw [hy, List.filter_eq_nil_iff.mpr fun z hz hk => n1 (List.mem_map.mpr ⟨z, hz, (of_decide_eq_true hk).trans e.symm⟩)]
    · rw [if_neg (by rw [decide_eq_false e]; exact Bool.false_ne_true)]
      rcases List.mem_cons.mp h with h | h
      · exact absurd (by rw [h]) e
      · exact one_kind n2 h
theorem Dp.of_trow {H : Hp} {r : Row} {v : V} (d : Dp H (trow r) v) : ∃ (q e o f g : Addr) (ds : List V), v = .ref q ∧ H q = some (.tup [.str r.kind, .ref e, .ref o, .ref f, .ref g, .int r.num]) ∧ H e = some (.tup (r.elders.map V.str)) ∧ H o = some (.tup (r.order.map V.str)) ∧ H f = some (.tup (r.fields.map V.str)) ∧ H g = some (.tup ds) := by
  obtain ⟨q, xs, rfl, hq, dl⟩ := L2.Dp.of_tup d
  obtain ⟨x1, r1, rfl, d1, dl⟩ := DpL.cases dl
  obtain ⟨x2, r2, rfl, d2, dl⟩ := DpL.cases dl
  obtain ⟨x3, r3, rfl, d3, dl⟩ := DpL.cases dl
  obtain ⟨x4, r4, rfl, d4, dl⟩ := DpL.cases dl
  obtain ⟨x5, r5, rfl, d5, dl⟩ := DpL.cases dl
  obtain ⟨x6, r6, rfl, d6, dl⟩ := DpL.cases dl
  have e1 : x1 = .str r.kind := d1.of_str
  have e6 : x6 = .int r.num := by rw [Dp] at d6; exact d6
  have e7 : r6 = [] := by
    cases r6 with
    | nil => rfl
    | cons _ _ => have := dl.length; cases this
  obtain ⟨a2, y2, rfl, h2, l2⟩ := L2.Dp.of_tup d2
  obtain ⟨a3, y3, rfl, h3, l3⟩ := L2.Dp.of_tup d3
  obtain ⟨a4, y4, rfl, h4, l4⟩ := L2.Dp.of_tup d4
  obtain ⟨a5, y5, rfl, h5, _⟩ := L2.Dp.of_tup d5
  rw [DpL.of_strs l2] at h2
  rw [DpL.of_strs l3] at h3
  rw [DpL.of_strs l4] at h4
  subst e1 e6 e7
  exact ⟨q, a2, a3, a4, a5, y5, rfl, hq, h2, h3, h4, h5⟩
section
variable {P : Program} {w : World} {K : PySem.W.Frag} {mg : Str → Option Value} {base : Heap} {t : Adr}
def spIsKind : Sp := fun vs H Q _ => ∃ (x : Str) (q : Addr) (ks : List Str), vs = [.str x, .ref q] ∧ H q = some (.tup (ks.map V.str)) ∧ Q (.bl (decide (x ∈ ks))) H
theorem ok_isKind (D : Defs K mg t) : FnOk P w K mg base CX0 1 t.is_kind.1 t.is_kind.2 ["thing", "kinds"] spIsKind := by
  refine D.is_kind.fn.ok sc_is_kind (fun vs H Q E h => ?_) (fun cdv A outer s H vs Q E hr h => ?_)
  · obtain ⟨x, q, ks, rfl, _⟩ := h
    rfl
  · obtain ⟨x, q, ks, rfl, hq, k⟩ := h
    refine ⟨_, (pss_one (ps_ret (pe_and (pe_callB call_isinst (by rfl) D.b_isinstance bt_isinstance (pa_cons (pv 0) (pa_cons (pe_bltn (v := V.ty "str") rfl D.b_str bt_str rfl) pa_nil))) (pe_one (pe_cmpR op_in_seq (pv 0) (pv 1) (by with_unfolding_all rfl)))))), ?_⟩
    refine ⟨_, rfl, _, _, _, true, rfl, .str x, kit_same K "str", _, rfl, iteT ⟨_, rfl, _, rfl, q, _, rfl, .inr (SqT.of hq), rfl, flat_strs _, ?_⟩⟩
    show Q (.bl (inV (.str x) (ks.map V.str))) H
    rw [inV_strs]
    exact k
def spCheck : Sp := fun vs H Q _ => ∃ (x : Str) (q : Addr) (ks : List Str), vs = [.str x, .ref q] ∧ H q = some (.tup (ks.map V.str)) ∧ x ∈ ks ∧ Q .non H
theorem ok_check (D : Defs K mg t) : FnOk P w K mg base CX0 2 t.check_kind.1 t.check_kind.2 ["kind", "kinds"] spCheck := by
  have G_is_kind : FnOk P w K mg base CX0 1 t.is_kind.1 t.is_kind.2 _ spIsKind := ok_isKind D
  refine D.check_kind.fn.ok sc_check_kind (fun vs H Q E h => ?_) (fun cdv A outer s H vs Q E hr h => ?_)
  · obtain ⟨x, q, ks, rfl, _⟩ := h
    rfl
  · obtain ⟨x, q, ks, rfl, hq, hx, k⟩ := h
    refine ⟨_, (pss_one (ps_if (pt_not (pt_val (pe_callF D.is_kind G_is_kind (hr.mono (by omega)) (by rfl) (pa_cons (pv 0) (pa_cons (pv 1) pa_nil)))))
      (pss_one ps_never)
      pss_nil)), ?_⟩
    refine ⟨_, rfl, _, rfl, x, q, ks, rfl, hq, _, rfl, ?_⟩
    rw [decide_eq_true hx]
    exact iteF k
def spKinds : Sp := fun vs H Q _ => ∃ (v : V) (tb : List Row), vs = [v] ∧ Dp H (tabT tb) v ∧ tb.length ≤ 7 ∧ ∀ (q : Addr) H', H' q = some (.tup ((kns tb).map V.str)) → Same H H' → Q (.ref q) H'
theorem ok_kinds (D : Defs K mg t) : FnOk P w K mg base CX0 1 t.kinds_of.1 t.kinds_of.2 ["rows"] spKinds := by
  have hz : sizeLine = 16777216 := sizeLine_eq
  refine D.kinds_of.fn.ok sc_kinds_of (fun vs H Q E h => ?_) (fun cdv A outer s H vs Q E hr h => ?_)
  · obtain ⟨v, tb, rfl, _⟩ := h
    rfl
  · obtain ⟨v, tb, rfl, dv, h7, k⟩ := h
    obtain ⟨a, xs, rfl, ha, dl⟩ := L2.Dp.of_tup dv
    have hxl : xs.length = tb.length := by have := dl.length; rwa [List.length_map] at this
    refine ⟨_, (pss_one (ps_ret (pe_callTy call_tuple_of (by rfl) D.b_tuple bt_tuple (pa_cons (pe_comp rfl (CompScope.of ["row"] [] ["row"] (defScope (top 6)) ["rows"] rfl rfl (by decide +kernel)) ⟨fun _ _ _ _ _ => (pg_name (i := 0) (show List.Nodup [("row" : Str)] by decide +kernel) rfl (Or.inl (lookup_relabel_local rfl)) (.inr (lookup_relabel_local rfl))), fun _ _ _ _ _ => pts_nil, fun _ _ _ _ _ => (pe_ix (ix_tup_K (K := K) rfl) (pv 0) pe_int (fun _ _ => rfl))⟩ (pi_tup (pv 0))) pa_nil)))), ?_⟩
    refine ⟨_, rfl, a, rfl, ⟨_, SqT.of ha⟩, fun D1 hD1 => ?_⟩
    have s1 : ∀ u, Same H (upd H D1 u) := fun u => Same.new hD1
    refine comp_by (n := xs.length) (fun i ys H2 => ys = ((kns tb).take i).map V.str ∧ H2 = upd H D1 (.lst ys)) ⟨rfl, rfl⟩ ?_ ?_
    rotate_left
    · rintro i ys H2 hi ⟨rfl, rfl⟩
      have hit : i < tb.length := by omega
      obtain ⟨y, ei, dy⟩ := dl.get (i := i) (t := trow tb[i]) (by rw [List.getElem?_map, List.getElem?_eq_getElem hit]; rfl)
      obtain ⟨q, e, o, f, g, ds, rfl, hq, _⟩ := K10.Dp.of_trow dy
      have hai := s1 (.lst (((kns tb).take i).map V.str)) a _ ha
      refine ⟨⟨_, _, SqT.of hai, ei⟩, ?_⟩
      rintro v H3 ⟨rfl, yy⟩ σo ho
      obtain ⟨oo, rfl⟩ := own1 ho
      have ev := yy _ (SqT.of hai)
      rw [ei] at ev
      cases ev
      have hkl : i < (kns tb).length := by show i < (tb.map _).length; rw [List.length_map]; exact hit
      have ek : (kns tb)[i] = tb[i].kind := List.getElem_map _
      refine ⟨⟨[_], rfl, rfl⟩, yes_by ⟨_, rfl, q, _, _, _, rfl, rfl, SqT.of (s1 _ q _ hq), atI_nat (j := 0) rfl, by rw [List.length_map, List.length_take]; omega, upd_same, less_by hi ⟨?_, by rw [upd_upd]⟩⟩⟩
      rw [take_snoc hkl, List.map_append, ek]
      rfl
    rintro ys H2 ⟨rfl, rfl⟩
    rw [List.take_of_length_le (by show (tb.map _).length ≤ _; rw [List.length_map]; omega)]
    refine ⟨⟨_, SqT.of (s1 _ a _ ha), Nat.le_refl _⟩, D1, _, rfl, .inl ⟨SqL.of upd_same, fun q hq => ?_⟩⟩
    exact k q _ upd_same ((s1 _).trans (Same.new hq))
def spRowAt : Sp := fun vs H Q _ => ∃ (v : V) (tb : List Row) (r : Row), vs = [v, .str r.kind] ∧ Dp H (tabT tb) v ∧ GoodTb tb ∧ r ∈ tb ∧ ∀ (u : V) H', Dp H' (trow r) u → Same H H' → Q u H'
theorem ok_rowAt (D : Defs K mg t) : FnOk P w K mg base CX0 3 t.row_at.1 t.row_at.2 ["table", "kind"] spRowAt := by
  have G_check_kind : FnOk P w K mg base CX0 2 t.check_kind.1 t.check_kind.2 _ spCheck := ok_check D
  have G_kinds_of : FnOk P w K mg base CX0 1 t.kinds_of.1 t.kinds_of.2 _ spKinds := ok_kinds D
  have hz : sizeLine = 16777216 := sizeLine_eq
  refine D.row_at.fn.ok sc_row_at (fun vs H Q E h => ?_) (fun cdv A outer s H vs Q E hr h => ?_)
  · obtain ⟨v, tb, r, rfl, _⟩ := h
    rfl
  · obtain ⟨v, tb, r, rfl, dv, G, hr', k⟩ := h
    obtain ⟨a, xs, rfl, ha, dl⟩ := L2.Dp.of_tup dv
    have hxl : xs.length = tb.length := by have := dl.length; rwa [List.length_map] at this
    have h7 := G.len
    have hx : r.kind ∈ kns tb := List.mem_map.mpr ⟨r, hr', rfl⟩
    refine ⟨_, (pss_cons (ps_expr (pe_callF D.check_kind G_check_kind (hr.mono (by omega)) (by rfl) (pa_cons (pv 1) (pa_cons (pe_callF D.kinds_of G_kinds_of (hr.mono (by omega)) (by rfl) (pa_cons (pv 0) pa_nil)) pa_nil))))
      (pss_one (ps_ret (pe_ix ix_list (pe_comp rfl (CompScope.of ["row"] [1] ["row", "kind"] (defScope (top 8)) ["table", "kind"] rfl rfl (by decide +kernel)) ⟨fun _ _ _ _ _ => (pg_name (i := 0) (show List.Nodup [("row" : Str), ("kind" : Str)] by decide +kernel) rfl (Or.inl (lookup_relabel_local rfl)) (.inr (lookup_relabel_local rfl))), fun _ _ _ _ _ => (pts_one (pt_cmpR op_eq (pe_ix (ix_tup_K (K := K) rfl) (pv 0) pe_int (fun _ _ => rfl)) (pv 1) (nomark _))), fun _ _ _ _ _ => (pv 0)⟩ (pi_tup (pv 0))) pe_int (fun _ _ => rfl))))), ?_⟩
    refine ⟨_, rfl, _, rfl, .ref a, tb, rfl, dv, h7, fun q H1 hq s1 => ⟨r.kind, q, _, rfl, hq, hx, ?_⟩⟩
    have ha1 := s1 a _ ha
    have dl1 := dl.mono (Same.tups s1)
    refine ⟨_, rfl, a, rfl, ⟨_, SqT.of ha1⟩, fun D1 hD1 => ?_⟩
    have s2 : ∀ u, Same H1 (upd H1 D1 u) := fun u => Same.new hD1
    refine comp_by (n := xs.length) (fun i ys H2 => Paired (fun (v : V) (r : Row) => Dp H1 (trow r) v) ys ((tb.take i).filter fun x => decide (x.kind = r.kind)) ∧ H2 = upd H1 D1 (.lst ys)) ⟨.nil, rfl⟩ ?_ ?_
    rotate_left
    · rintro i ys H2 hi ⟨pr, rfl⟩
      have hit : i < tb.length := by omega
      obtain ⟨y, ei, dy⟩ := dl1.get (i := i) (t := trow tb[i]) (by rw [List.getElem?_map, List.getElem?_eq_getElem hit]; rfl)
      obtain ⟨q, e, o, f, g, ds, rfl, hq', _⟩ := K10.Dp.of_trow dy
      have hai := s2 (.lst ys) a _ ha1
      refine ⟨⟨_, _, SqT.of hai, ei⟩, ?_⟩
      rintro v H3 ⟨rfl, yy⟩ σo ho
      obtain ⟨oo, rfl⟩ := own1 ho
      have ev := yy _ (SqT.of hai)
      rw [ei] at ev
      cases ev
      have hyl : ys.length ≤ 7 := by
        rw [Paired.length pr]
        refine Nat.le_trans (List.length_filter_le _ _) ?_
        rw [List.length_take]
        omega
      have etk : (tb.take (i + 1)).filter (fun x => decide (x.kind = r.kind)) = (tb.take i).filter (fun x => decide (x.kind = r.kind)) ++ (if decide (tb[i].kind = r.kind) = true then [tb[i]] else []) := by
        rw [take_snoc hit, List.filter_append, List.filter_cons]
        rfl
      refine ⟨⟨[_], rfl, rfl⟩, _, rfl, q, _, _, _, rfl, rfl, SqT.of (s2 _ q _ hq'), atI_nat (j := 0) rfl, _, rfl, rfl, _, rfl, ite2 (fun hb => ?_) (fun hb => ?_)⟩
      · have hb : tb[i].kind = r.kind := by
          have := of_decide_eq_true hb
          injection this
        refine ⟨_, rfl, by omega, upd_same, less_by hi ⟨?_, by rw [upd_upd]⟩⟩
        rw [etk, if_pos (decide_eq_true hb)]
        exact pairedSnoc pr dy
      · have hb : ¬ tb[i].kind = r.kind := fun e => hb (decide_eq_true (by rw [e]))
        refine less_by hi ⟨?_, rfl⟩
        rw [etk, if_neg (by rw [decide_eq_false hb]; exact Bool.false_ne_true), List.append_nil]
        exact pr
    rintro ys H2 ⟨pr, rfl⟩
    rw [List.take_of_length_le (by omega), one_kind G.nd hr'] at pr
    cases pr with
    | cons du nn =>
      cases nn
      refine ⟨⟨_, SqT.of (s2 _ a _ ha1), Nat.le_refl _⟩, D1, _, _, _, rfl, rfl, SqL.of upd_same, atI_nat (j := 0) rfl, ?_⟩
      exact k _ _ (du.mono (Same.tups (s2 _))) (s1.trans (s2 _))
end
end K10
end
section
set_option autoImplicit false
namespace L2
open PySem PySem.Spec PyProof.Rows
section
variable {X : Cx}
def iDictA (te : TE) : TI := fun σ H R => te σ H fun x H1 => ∃ (d : Addr) (kvs : List (Key × V)), x = .ref d ∧ ((H1 d = some (.dK kvs) ∧ ∀ o, R (Itd o d kvs) (upd H1 d (.frz o (.dK kvs)))) ∨ ∃ o, H1 d = some (.frz o (.dK kvs)) ∧ R (Itd o d kvs) H1)
theorem pi_dictA {l : Expr} {tg : Expr} {te : TE} (hl : PE X l te) : PI X tg l (iDictA te) := by
  intro pins s σ H R I h
  refine thn (hl pins s σ H _ I h) fun v s1 ⟨x, H1, I1, r, d, kvs, e, q⟩ => ?_
  subst e
  cases r
  rcases q with ⟨hd, q⟩ | ⟨o, hd, q⟩
  · exact iter_dict I1 hd q
  · obtain ⟨ho, hz, hs, vs, rv, od, es, ep, ho', r1, r2, r3⟩ := (show ObjOk X.prog X.w H1 s1.heap d (.frz o (.dK kvs)) from I1.hok d _ hd)
    rw [ho] at ho'
    cases ho'
    have hl : vs.length = kvs.length := (Paired.length rv).symm
    refine wpAny_pyIter_dict (knd := mixKind X.prog X.w) (kvs := vs) (ep := ep) hs ⟨_, _, ho, r1, r2, r3⟩ ?_
    have I2 := I1.kept (t' := s1.toks) (h' := s1.heap.push { cls := .type "dict_keyiterator", data := .fields #[.ref d, .int 0 0, .int vs.length 0, .int ep 0] }) fun b o e => Heap.get?_push_of_some _ e
    refine ⟨s1.heap.objs.size, [s1.heap.objs.size], _, _, _, rfl, I2, turn_dict r2 d s1.heap.objs.size kvs, ?_, fun b hb => ?_, q⟩
    · exact ⟨_, Heap.get?_push_size _ rfl, rfl, by rw [hl]; rfl⟩
    · have e : b = s1.heap.objs.size := by simpa using hb
      subst e
      exact I1.fpOk (Nat.le_refl _) (I1.hok.fresh (Nat.le_refl _))
end
end L2
end
section
set_option autoImplicit false
namespace L2
open PySem PySem.Spec PyProof.Rows
def RowsI (H : Hp) (us : List V) (tbl : List (List Int)) : Prop := Paired (fun (v : V) (js : List Int) => ∃ a, v = .ref a ∧ H a = some (.tup (js.map V.int))) us tbl
end L2
end
section
set_option autoImplicit false
namespace L2
open PySem PySem.Spec PyProof.Rows
section
variable {prog : Program} {w : World} {A : Around} {E : Value → Shared → Prop} {s : Shared}
theorem sorted_seqS {l : Addr} {T : String} {o : Obj} {vs : List Value} {n : Nat} {ss : List Str} {Q : Value → Shared → Prop} (hT : T = "list" ∨ T = "tuple") (ho : s.heap.get? l = some o) (hc : o.cls = .type T) (hd : o.data = .seq vs.toArray n) (hS : StrsAre vs ss) (h64 : vs.length < 64)
    (h : ∀ (h1 : Heap) (out : Array Value) (ss' : List Str), (∀ b o', s.heap.get? b = some o' → h1.get? b = some o') → StrsAre out.toList ss' → ss'.Perm ss → sortedS ss' = true → Q (.ref h1.objs.size) { s with heap := sortedHeap (h1.push (seqObj "list" vs.toArray 0)) h1.objs.size vs out }) :
    wpAny (model prog w) A (call (.builtin "sorted") [.ref l]) Q E s := by
  refine Calls.call_function_entry kind_sorted plain_sorted entry_sorted (args_sorted1 _) ?_
  unfold Builtin.«sorted»
  refine wpAny_bind (m := checkCount "sorted" 1 1 _) (wpAny_pure ?_)
  refine wpAny_bind (wpAny_collect_seq l hT ho hc hd (fun h1 kp => ?_) (by rw [List.size_toArray, sizeLine_eq]; omega))
  have e0 : vs.toArray.toList = vs := by simp
  rw [e0]
  refine wpAny_bind (wpAny_newList ?_ (by rw [sizeLine_eq]; omega))
  have hoL : (h1.push (seqObj "list" vs.toArray 0)).get? h1.objs.size = some (seqObj "list" vs.toArray 0) := Heap.get?_push_size _ rfl
  show wpAny _ _ _ _ _ { s with heap := h1.push (seqObj "list" vs.toArray 0) }
  refine wpAny_bind (wpAny_holding (wpAny_call_entry slot_list_sort ⟨_, hoL, rfl⟩ entry_list_sort (list_sort_treeK strKind_oneLt hoL hS.keysOf (fun v₁ v₂ rest e => keyKind_strs (by rw [← e]; exact hS)) h64 fun st' a1 a2 => ⟨_, rfl, ?_⟩) (args_list_sort _)))
  obtain ⟨ss', b1, b2, b3⟩ := sorted_out_str hS a1 a2
  exact wpAny_pure ⟨_, rfl, h h1 _ ss' kp b1 b2 b3⟩
end
theorem strsAre_of : ∀ {ss : List Str} {us : List Value}, Vals (ss.map V.str) us → StrsAre us ss
  | [], _, .nil => .nil
  | x :: ss, _, .cons r t => by
    obtain ⟨k, rfl⟩ := r
    exact .cons x k (strsAre_of t)
theorem strsAre_vals : ∀ {ss : List Str} {us : List Value}, StrsAre us ss → Vals (ss.map V.str) us
  | _, _, .nil => .nil
  | _, _, .cons y t h => .cons ⟨t, rfl⟩ (strsAre_vals h)
section
variable {X : Cx}
theorem call_sortedS : CallR X (.builtin "sorted") (fun xs H Q => ∃ p ss, xs = [.ref p] ∧ (SqL X.K H p (ss.map V.str) ∨ SqT X.K H p (ss.map V.str)) ∧ ss.length < 64 ∧ ∀ d ss', ss'.Perm ss → sortedS ss' = true → H d = none → Q (.ref d) (upd H d (.lst (ss'.map V.str)))) := by
  intro pins s σ H xs us Q I r h
  obtain ⟨p, ss, rfl, hq, h64, q⟩ := h
  obtain ⟨u, rfl, rx⟩ := vals1 r
  cases rx
  have fin : ∀ (its : List Value) (h1 : Heap) (out : Array Value) (ss' : List Str), (∀ b o', s.heap.get? b = some o' → h1.get? b = some o') → StrsAre out.toList ss' → ss'.Perm ss → sortedS ss' = true → EP X pins σ Q (.ref h1.objs.size) { s with heap := sortedHeap (h1.push (seqObj "list" its.toArray 0)) h1.objs.size its out } := fun its h1 out ss' kp b1 b2 b3 => by
    have I1 : Inv X pins σ H { s with heap := h1 } := I.kept (t' := s.toks) kp
    have hoL : (h1.push (seqObj "list" its.toArray 0)).get? h1.objs.size = some (seqObj "list" its.toArray 0) := Heap.get?_push_size _ rfl
    obtain ⟨e, he⟩ := sortedHeap_at (out := out) hoL
    refine ⟨.ref h1.objs.size, _, I1.laid (t' := s.toks) (o := .lst (ss'.map V.str)) (fun b o e' => ?_) (Nat.le_refl _) ⟨?_, out.toList, e, strsAre_vals b1, by rw [Array.toArray_toList]; exact he⟩, rfl, q _ ss' b2 b3 (I1.hok.fresh (Nat.le_refl _))⟩
    · have hlt : b < h1.objs.size := Heap.lt_size e'
      rw [sortedHeap_old (Nat.ne_of_lt hlt) (by rw [size_push']; exact Nat.lt_succ_of_lt hlt)]
      exact Heap.get?_push_of_some _ e'
    · rw [List.length_map, b2.length_eq, sizeLine_eq]
      omega
  rcases hq with hq | hq
  · obtain ⟨its, r', pl, hz⟩ := I.list hq
    have hlen := r'.length
    rw [List.length_map] at hlen
    obtain ⟨o, ho, hc, n, hd⟩ := pl.isList
    exact sorted_seqS (.inl rfl) ho hc hd (strsAre_of r') (by omega) (fin its)
  · obtain ⟨its, r', pl, hz⟩ := I.tuple hq
    have hlen := r'.length
    rw [List.length_map] at hlen
    obtain ⟨o, ho, hc, n, hd⟩ := pl
    exact sorted_seqS (.inr rfl) ho hc hd (strsAre_of r') (by omega) (fin its)
end
end L2
end
section
set_option autoImplicit false
namespace K10
open PySem PyProof.Rows L2
def deedT (d : Str × Int) : T := .tup [.str d.1, .int d.2]
section
variable {P : Program} {w : World} {K : PySem.W.Frag} {mg : Str → Option Value} {base : Heap} {t : Adr}
def spOwn : Sp := fun vs H Q _ => ∃ (p l : Addr) (ns : List Str), vs = [.ref p, .ref l] ∧ Pu H p ∧ H l = some (.lst (ns.map V.str)) ∧ ns.length ≤ 3 ∧
  ∀ (v : V) (ds : List (Str × Int)) H', Dp H' (.tup (ds.map deedT)) v → Off p H H' → Pu H' p → Q v H'
theorem ok_own (D : Defs K mg t) : FnOk P w K mg base CX0 3 t._law_own.1 t._law_own.2 ["_law_purse_here", "_law_deeds"] spOwn := by
  have G__law_take : FnOk P w K mg base CX0 1 t._law_take.1 t._law_take.2 _ spTake := ok_take D
  have G__law_some : FnOk P w K mg base CX0 2 t._law_some.1 t._law_some.2 _ spSome := ok_some D
  have hz : sizeLine = 16777216 := sizeLine_eq
  refine D._law_own.fn.ok sc__law_own (fun vs H Q E h => ?_) (fun cdv A outer s H vs Q E hr h => ?_)
  · obtain ⟨p, l, ns, rfl, _⟩ := h
    rfl
  · obtain ⟨p, l, ns, rfl, hp, hl, h3, k⟩ := h
    refine ⟨_, (pss_cons (ps_set (i := 2) sc__law_own.nd rfl (Or.inl rfl) (pe_callB call_sortedS (by rfl) D.b_sorted bt_sorted (pa_cons (pe_callF D._law_some G__law_some (hr.mono (by omega)) (by rfl) (pa_cons (pv 0) (pa_cons (pv 1) (pa_cons (pe_callB call_len_seq (by rfl) D.b_len bt_len (pa_cons (pv 1) pa_nil)) pa_nil)))) pa_nil)))
      (pss_one (ps_ret (pe_callTy call_tuple_of (by rfl) D.b_tuple bt_tuple (pa_cons (pe_comp rfl (CompScope.of ["_law_deed"] [0] ["_law_deed", "_law_purse_here"] (defScope (top 23)) ["_law_purse_here", "_law_deeds", "_law_some_here"] rfl rfl (by decide +kernel)) ⟨fun _ _ _ _ _ => (pg_name (i := 0) (show List.Nodup [("_law_deed" : Str), ("_law_purse_here" : Str)] by decide +kernel) rfl (Or.inl (lookup_relabel_local rfl)) (.inr (lookup_relabel_local rfl))), fun _ _ _ _ _ => pts_nil, fun _ _ _ _ _ => (pe_tup (pa_cons (pv 0) (pa_cons (pe_ix (ix_list_K (K := K) rfl) (pe_lst (pa_cons pe_int (pa_cons pe_int (pa_cons (pe_op op_add pe_int (pe_callF D._law_take G__law_take (hr.mono (by omega)) (by rfl) (pa_cons (pv 1) (pa_cons pe_int pa_nil)))) pa_nil)))) (pe_callF D._law_take G__law_take (hr.mono (by omega)) (by rfl) (pa_cons (pv 1) (pa_cons pe_int pa_nil))) (fun _ _ => rfl)) pa_nil)))⟩ (pi_list (pv 2))) pa_nil))))), ?_⟩
    refine ⟨_, rfl, _, rfl, _, rfl, l, _, rfl, .inl (SqL.of hl), p, l, ns, ns.length, by rw [List.length_map]; rfl, hp, hl, by omega, by omega, ?_⟩
    intro q es H1 hq sub nd hle o1 p1
    refine ⟨q, es, rfl, .inr (SqT.of hq), by omega, fun d ss pm _ hd => ?_⟩
    have hsl : ss.length = es.length := pm.length_eq
    have pd : p ≠ d := p1.neN hd
    have o2 : Off p H (upd H1 d (.lst (ss.map V.str))) := o1.trans (Off.new hd)
    have p2 : Pu (upd H1 d (.lst (ss.map V.str))) p := p1.upd_ne pd
    have hd2 : (upd H1 d (.lst (ss.map V.str))) d = some (.lst (ss.map V.str)) := upd_same
    generalize upd H1 d (.lst (ss.map V.str)) = H2 at o2 p2 hd2
    refine ⟨_, rfl, d, rfl, ⟨_, SqL.of hd2⟩, fun D1 hD1 => ?_⟩
    have pD : p ≠ D1 := p2.neN hD1
    have dD : d ≠ D1 := ne_of_none hd2 hD1
    refine comp_by (n := (ss.map V.str).length) (fun i ys H3 => ∃ ds : List (Str × Int), ds.length = i ∧ DpL H3 (ds.map deedT) ys ∧ H3 D1 = some (.lst ys) ∧ H3 d = some (.lst (ss.map V.str)) ∧ Off p H2 H3 ∧ Pu H3 p)
      ⟨[], rfl, .nil, upd_same, by rw [upd_ne dD]; exact hd2, Off.new hD1, p2.upd_ne pD⟩ ?_ ?_
    · rintro ys H3 ⟨ds, hdl, dl, hD3, hd3, o3, p3⟩
      refine ⟨⟨_, SqL.of hd3, Nat.le_refl _⟩, D1, _, rfl, .inl ⟨SqL.of hD3, fun q4 hq4 => ?_⟩⟩
      exact k (.ref q4) ds _ (L2.Dp.tup upd_same (dl.mono (Same.tups (Same.new hq4)))) (o2.trans (o3.trans (Off.new hq4))) (p3.upd_ne (p3.neN hq4))
    · rintro i ys H3 hi ⟨ds, hdl, dl, hD3, hd3, o3, p3⟩
      have hi' : i < ss.length := by rw [List.length_map] at hi; exact hi
      have ei : (ss.map V.str)[i]? = some (.str ss[i]) := by rw [List.getElem?_map, List.getElem?_eq_getElem hi']; rfl
      refine ⟨⟨_, _, SqL.of hd3, ei⟩, ?_⟩
      rintro x H4 ⟨rfl, yy⟩ σo ho
      obtain ⟨oo, rfl⟩ := own1 ho
      have ev := yy _ (SqL.of hd3)
      rw [ei] at ev
      cases ev
      refine ⟨⟨[_], rfl, rfl⟩, yes_by ?_⟩
      refine ⟨_, rfl, _, rfl, p, 99, rfl, p3, by decide, by decide, fun r1 a1 b1 c1 l1 u1 => ⟨_, _, rfl, rfl, by show 3 ≤ sizeLine; decide, fun m hm => ?_⟩⟩
      have pm' : p ≠ m := Pu.upd.neN hm
      have p5 := (Pu.upd (H := H4) (p := p) (a := a1) (b := b1) (c := c1)).upd_ne (o := .lst [.int 1, .int 99, .int (1 + r1)]) pm'
      have o5 : Off p H4 (upd (upd H4 p (.lst [.int a1, .int b1, .int c1])) m (.lst [.int 1, .int 99, .int (1 + r1)])) := Off.upd.trans (Off.new hm)
      have hm5 : (upd (upd H4 p (.lst [.int a1, .int b1, .int c1])) m (.lst [.int 1, .int 99, .int (1 + r1)])) m = some (.lst [.int 1, .int 99, .int (1 + r1)]) := upd_same
      generalize upd (upd H4 p (.lst [.int a1, .int b1, .int c1])) m (.lst [.int 1, .int 99, .int (1 + r1)]) = H5 at p5 o5 hm5
      refine ⟨_, rfl, p, 3, rfl, p5, by decide, by decide, fun r2 a2 b2 c2 l2 u2 => ?_⟩
      have p6 : Pu (upd H5 p (.lst [.int a2, .int b2, .int c2])) p := Pu.upd
      have o6 : Off p H4 (upd H5 p (.lst [.int a2, .int b2, .int c2])) := o5.trans Off.upd
      have hm6 : (upd H5 p (.lst [.int a2, .int b2, .int c2])) m = some (.lst [.int 1, .int 99, .int (1 + r1)]) := by rw [upd_ne pm'.symm]; exact hm5
      generalize upd H5 p (.lst [.int a2, .int b2, .int c2]) = H6 at p6 o6 hm6
      obtain ⟨z, hz'⟩ : ∃ z : Int, atI [V.int 1, V.int 99, V.int (1 + r1)] r2 = some (.int z) := by
        rcases (by omega : r2 = 0 ∨ r2 = 1 ∨ r2 = 2) with rfl | rfl | rfl
        · exact ⟨_, atI_nat (j := 0) rfl⟩
        · exact ⟨_, atI_nat (j := 1) rfl⟩
        · exact ⟨_, atI_nat (j := 2) rfl⟩
      refine ⟨m, _, _, _, rfl, rfl, SqL.of hm6, hz', by show 2 ≤ sizeLine; decide, fun q7 hq7 => ?_⟩
      have Dp' : D1 ≠ p := pD.symm
      have dp' : d ≠ p := pd.symm
      have hD6 := o6 D1 _ Dp' hD3
      have hd6 := o6 d _ dp' hd3
      have tu6 : Tups H4 H6 := fun c zs e => by
        obtain ⟨x1, x2, x3, ep⟩ := p3
        exact o6 c _ (ne_of e ep (fun z => nomatch z)) e
      have s7 : Same H6 (upd H6 q7 (.tup [.str ss[i], .int z])) := Same.new hq7
      have q7D : q7 ≠ D1 := fun e => by rw [e, hD6] at hq7; cases hq7
      have hyl : ys.length = i := by
        have := dl.length
        rw [List.length_map] at this
        omega
      refine ⟨by omega, s7 D1 _ hD6, less_by hi ⟨ds ++ [(ss[i], z)], by rw [List.length_append, hdl]; rfl, ?_, upd_same, by rw [upd_ne dD]; exact s7 d _ hd6, ?_, ?_⟩⟩
      · rw [List.map_append]
        have tu7 : Tups (upd H6 q7 (.tup [.str ss[i], .int z])) (upd (upd H6 q7 (.tup [.str ss[i], .int z])) D1 (.lst (ys ++ [.ref q7]))) := fun c zs e => by
          rw [upd_ne (ne_of e (s7 D1 _ hD6) (fun z => nomatch z))]
          exact e
        refine (dl.mono (tu6.trans ((Same.tups s7).trans tu7))).append (.cons ?_ .nil)
        exact L2.Dp.tup (by rw [upd_ne q7D, upd_same]) (.cons (L2.Dp.str _) (.cons (L2.Dp.int _) .nil))
      · exact fun b u hb e => by
          rw [upd_ne (fun e' => by subst e'; rw [e] at hD1; cases hD1)]
          exact s7 b u (o6 b u hb (o3 b u hb e))
      · exact (p6.upd_ne (p6.neN hq7)).upd_ne pD
end
end K10
end
section
set_option autoImplicit false
namespace L2
open PySem PySem.Spec PyProof.Rows
section
variable {X : Cx}
end
end L2
end
section
set_option autoImplicit false
namespace L2
open PySem PySem.Spec PyProof.Rows
end L2
end
section
set_option autoImplicit false
namespace HT
open PySem PySem.Spec PyProof.Rows
section
variable {prog : Program} {w : World} {A : Around} {E : Value → Shared → Prop} {s : Shared}
theorem getItem_tuple_whole {t sl : Addr} {items : Array Value} {vl vu : Value} {lo hi : Option Int} {Q : Value → Shared → Prop} (ht : IsTup s.heap t items) (hs : s.heap.IsSliceOf sl vl vu .none) (pl : IsPart vl lo) (pu : IsPart vu hi)
    (hw : sIx items.size 0 lo = 0 ∧ sIx items.size items.size hi = items.size) (h : Q (.ref t) s) : wpAny (model prog w) A (getItem (.ref t) (.ref sl)) Q E s := by
  obtain ⟨os, hos, hcs, hds⟩ := id hs
  have hTs : s.TypeIs (.ref sl) "slice" := ⟨os, hos, hcs⟩
  unfold getItem
  try with_reducible refine wpAny_holding ?_
  first | refine wpAny_bind (wpAny_pure ?_) | skip
  refine wpAny_bind (wpAny_sequenceKey ht.typeIs (by decide) ?_)
  refine wpAny_bind (wpAny_callSpecial?_slot (name := Str.ofString "__getitem__") ht.typeIs PyProof.Rows.slot_tuple_getitem
    (wpAny_call_entry PyProof.Rows.slot_tuple_getitem ht.typeIs entry_tuple_getitem ?_ (args_tuple_getitem _ _)))
  show wpAny _ _ (Builtin.Tuple.tupleItemsOf (.ref t) >>= _) _ _ s
  refine wpAny_bind (tupleItemsOf_ ht ?_)
  refine wpAny_bind (wpAny_typeOf hTs ?_)
  rw [if_pos (by decide)]
  refine wpAny_bind (sliceApplied_gen hs pl pu ?_)
  have hyes : (((sIx items.size 0 lo : Nat) : Int) == 0 && (1 : Int) == 1 && (sIx items.size items.size hi - sIx items.size 0 lo) == items.size) = true := by
    rw [hw.1, hw.2]
    simp
  show wpAny _ _ (if (((sIx items.size 0 lo : Nat) : Int) == 0 && (1 : Int) == 1 && (sIx items.size items.size hi - sIx items.size 0 lo) == items.size) = true then _ else _) _ _ s
  rw [if_pos hyes]
  unfold Builtin.Tuple.tupleIsExact
  refine wpAny_bind (wpAny_bind (wpAny_typeOf ht.typeIs (wpAny_pure ?_)))
  rw [if_pos (by decide)]
  refine wpAny_bind (wpAny_rule ?_)
  exact wpAny_pure ⟨_, rfl, wpAny_pure h⟩
end
end HT
namespace L2
open PySem PySem.Spec PyProof.Rows
section
variable {X : Cx}
def rSlW (K : PySem.W.Frag) : V → Option Int → Option Int → Hp → VK → Prop := fun x lo hi H Q => ∃ a xs, x = .ref a ∧ H a = some (.tup xs) ∧
  ∀ p H', H' p = some (.tup (cutV xs lo hi)) → Same H H' → Q (.ref p) H'
theorem sl_tupW : SlR X (rSlW X.K) := by
  intro pins s σ H x v vl vu lo hi sl Q I rx hs pl pu h
  obtain ⟨a, xs, rfl, hx, q⟩ := h
  by_cases hw : HT.sIx xs.length 0 lo = 0 ∧ HT.sIx xs.length xs.length hi = xs.length
  · cases rx
    obtain ⟨its, r, ht, hz⟩ := I.tuple (SqT.of (K := X.K) hx)
    have hlen : its.toArray.size = xs.length := by rw [List.size_toArray]; exact r.length.symm
    refine ⟨"tuple", _, PyProof.Rows.slot_tuple_getitem.lookup, ht.typeIs, ?_⟩
    refine HT.getItem_tuple_whole ht hs pl pu (by rw [hlen]; exact hw) ?_
    have e : cutV xs lo hi = xs := by
      unfold cutV
      rw [hw.1, hw.2]
      simp
    exact ⟨.ref a, H, I, rfl, q a H (by rw [e]; exact hx) (Same.refl H)⟩
  · exact sl_tup pins s σ H (.ref a) v vl vu lo hi sl Q I rx hs pl pu ⟨a, xs, rfl, SqT.of hx, hw, fun p hp => q p _ upd_same (Same.new hp)⟩
end
end L2
end
section
set_option autoImplicit false
namespace K10
open PySem PyProof.Rows L2
def OrdsG (H : Hp) (kvs : List (Key × V)) (g : Str → List Str) (ns : List Str) : Prop := ∀ x ∈ ns, ∃ q, valV kvs (.inr x) = some (.ref q) ∧ H q = some (.tup ((g x).map V.str)) ∧ (g x).length ≤ 8
theorem OrdsG.mono {H H' : Hp} {kvs : List (Key × V)} {g : Str → List Str} {ns : List Str} (h : OrdsG H kvs g ns) (s : Tups H H') : OrdsG H' kvs g ns := fun x hx => by
  obtain ⟨q, h1, h2, h3⟩ := h x hx
  exact ⟨q, h1, s q _ h2, h3⟩
theorem cutV_to (xs : List V) (k : Nat) (h : k ≤ xs.length) : cutV xs none (some (k : Int)) = xs.take k := by
  unfold cutV
  rw [HT.sIx_nat, Nat.min_eq_left h]
  rfl
theorem cutV_from (xs : List V) (k : Nat) (h : k ≤ xs.length) : cutV xs (some (k : Int)) none = xs.drop k := by
  unfold cutV
  rw [HT.sIx_nat, Nat.min_eq_left h]
  show List.take (xs.length - k) (xs.drop k) = _
  rw [List.take_of_length_le]
  rw [List.length_drop]
  exact Nat.le_refl _
theorem cut1_to (xs : List V) : cutV xs none (some 1) = xs.take 1 := by
  cases xs with
  | nil => rfl
  | cons x xs => exact cutV_to (x :: xs) 1 (by rw [List.length_cons]; omega)
def rowsG (g : Str → List Str) (es : List Str) : List (List Str) := es.map g ++ [es]
theorem tot_rowsG {g : Str → List Str} {es : List Str} (h : ∀ x ∈ es, (g x).length ≤ 8) : tot (rowsG g es) ≤ 9 * es.length := by
  have tl : ∀ es : List Str, (∀ x ∈ es, (g x).length ≤ 8) → tot (es.map g) ≤ 8 * es.length := by
    intro es
    induction es with
    | nil => exact fun _ => Nat.le_refl _
    | cons x es ih =>
      intro h
      rw [List.map_cons, tot_cons, List.length_cons]
      have := h x List.mem_cons_self
      have := ih fun y hy => h y (List.mem_cons_of_mem _ hy)
      omega
  have ta : tot (rowsG g es) = tot (es.map g) + es.length := by
    unfold rowsG tot
    rw [List.map_append, List.sum_append]
    simp
  have := tl es h
  omega
theorem nodup_rev {ns : List Str} (h : ns.Nodup) : ns.reverse.Nodup := (List.pairwise_reverse.mpr (List.Pairwise.imp (fun e z => e z.symm) h))
theorem cut_sub (ns : List Str) (lo hi : Option Int) : ∃ ms : List Str, cutV (ns.map V.str) lo hi = ms.map V.str ∧ ms.Sublist ns :=
  ⟨(ns.drop (HT.sIx ns.length 0 lo)).take (HT.sIx ns.length ns.length hi - HT.sIx ns.length 0 lo), by unfold cutV; rw [List.length_map, List.map_take, List.map_drop], (List.take_sublist _ _).trans (List.drop_sublist _ _)⟩
section
variable {P : Program} {w : World} {K : PySem.W.Frag} {mg : Str → Option Value} {base : Heap} {t : Adr}
def spEld : Sp := fun vs H Q _ => ∃ (p nl od : Addr) (sh : Int) (ns : List Str) (kvs : List (Key × V)) (g : Str → List Str), vs = [.ref p, .ref nl, .int sh, .ref od] ∧ Pu H p ∧ H nl = some (.lst (ns.map V.str)) ∧ ns.Nodup ∧ ns.length ≤ 7 ∧ 0 ≤ sh ∧ sh < 6 ∧ H od = some (.dK kvs) ∧ OrdsG H kvs g ns ∧
  ∀ (q : Addr) (es : List Str) H', H' q = some (.tup (es.map V.str)) → (∀ x ∈ es, x ∈ ns) → es.Nodup → (es.length ≤ 1 ∨ ∃ os, Mg (full (rowsG g es)) (some os)) → Off p H H' → Pu H' p → Q (.ref q) H'
theorem ok_eld (D : Defs K mg t) : FnOk P w K mg base CX0 3 t._law_elders.1 t._law_elders.2 ["_law_purse_here", "_law_names_here", "_law_shape", "_law_orders"] spEld := by
  have G__law_take : FnOk P w K mg base CX0 1 t._law_take.1 t._law_take.2 _ spTake := ok_take D
  have G__law_some : FnOk P w K mg base CX0 2 t._law_some.1 t._law_some.2 _ spSome := ok_some D
  have G__law_merge : FnOk P w K mg base CX0 1 t._law_merge.1 t._law_merge.2 _ spMerge := ok_merge D
  have hz : sizeLine = 16777216 := sizeLine_eq
  refine D._law_elders.fn.ok sc__law_elders (fun vs H Q E h => ?_) (fun cdv A outer s H vs Q E hr h => ?_)
  · obtain ⟨p, nl, od, sh, ns, kvs, g, rfl, _⟩ := h
    rfl
  · obtain ⟨p, nl, od, sh, ns, kvs, g, rfl, hp, hnl, nd, h7, hs0, hs6, hod, og, k⟩ := h
    have np : nl ≠ p := hp.ne hnl
    refine ⟨_, (pss_cons (ps_set (i := 4) sc__law_elders.nd rfl (Or.inl rfl) (pe_callF D._law_some G__law_some (hr.mono (by omega)) (by rfl) (pa_cons (pv 0) (pa_cons (pv 1) (pa_cons (pe_ix ix_list (pe_lst (pa_cons pe_int (pa_cons pe_int (pa_cons pe_int (pa_cons pe_int pa_nil))))) (pe_callF D._law_take G__law_take (hr.mono (by omega)) (by rfl) (pa_cons (pv 0) (pa_cons pe_int pa_nil))) (fun _ _ => rfl)) pa_nil)))))
      (pss_join (ps_if (pt_cmpR op_lt (pv 2) pe_int (nomark _))
      (pss_one (ps_set (i := 4) sc__law_elders.nd rfl (Or.inl rfl) (pe_callTy call_tuple_of (by rfl) D.b_tuple bt_tuple (pa_cons (pe_slK (pe_slice sl_list (pv 1) (po_some (pe_callB (call_max2 rfl) (by rfl) D.b_max bt_max (pa_cons pe_int (pa_cons (pe_op op_sub (pe_op op_sub (pe_callB call_len_seq (by rfl) D.b_len bt_len (pa_cons (pv 1) pa_nil)) pe_int) (pe_op op_mul pe_int (pv 2))) pa_nil)))) po_none) (pe_op op_sub pe_int (pe_op op_mul pe_int (pe_callF D._law_take G__law_take (hr.mono (by omega)) (by rfl) (pa_cons (pv 0) (pa_cons pe_int pa_nil)))))) pa_nil))))
      pss_nil)
      (pss_cons (ps_if (pt_cmpR op_isN (pe_callF D._law_merge G__law_merge (hr.mono (by omega)) (by rfl) (pa_cons pe_str (pa_cons (pe_op op_cat (pe_comp rfl (CompScope.of ["_law_one"] [3] ["_law_one", "_law_orders"] (defScope (top 22)) ["_law_purse_here", "_law_names_here", "_law_shape", "_law_orders", "_law_elders_here"] rfl rfl (by decide +kernel)) ⟨fun _ _ _ _ _ => (pg_name (i := 0) (show List.Nodup [("_law_one" : Str), ("_law_orders" : Str)] by decide +kernel) rfl (Or.inl (lookup_relabel_local rfl)) (.inr (lookup_relabel_local rfl))), fun _ _ _ _ _ => pts_nil, fun _ _ _ _ _ => (pe_dget (hu_of hr) (pv 1) (pv 0) (fun _ _ => rfl))⟩ (pi_tup (pv 4))) (pe_lst (pa_cons (pv 4) pa_nil))) pa_nil))) pe_non (nomark _))
      (pss_one (ps_ret (pe_slice sl_tupW (pv 4) po_none (po_some pe_int))))
      pss_nil)
      (pss_one (ps_ret (pv 4)))))), ?_⟩
    refine ⟨_, rfl, _, rfl, by show 4 ≤ sizeLine; decide, fun m hm => ?_⟩
    have pm' : p ≠ m := hp.neN hm
    refine ⟨_, rfl, p, 4, rfl, hp.upd_ne pm', by decide, by decide, fun r a1 b1 c1 l1 u1 => ?_⟩
    have o1 : Off p H (upd (upd H m (.lst [.int 4, .int 4, .int 4, .int 14])) p (.lst [.int a1, .int b1, .int c1])) := (Off.new hm).trans Off.upd
    have p1 : Pu (upd (upd H m (.lst [.int 4, .int 4, .int 4, .int 14])) p (.lst [.int a1, .int b1, .int c1])) p := Pu.upd
    have hm1 : (upd (upd H m (.lst [.int 4, .int 4, .int 4, .int 14])) p (.lst [.int a1, .int b1, .int c1])) m = some (.lst [.int 4, .int 4, .int 4, .int 14]) := by rw [upd_ne pm'.symm, upd_same]
    generalize upd (upd H m (.lst [.int 4, .int 4, .int 4, .int 14])) p (.lst [.int a1, .int b1, .int c1]) = H1 at o1 p1 hm1
    obtain ⟨z, hz', hz14⟩ : ∃ z : Nat, atI [V.int 4, V.int 4, V.int 4, V.int 14] r = some (.int (z : Nat)) ∧ z ≤ 14 := by
      rcases (by omega : r = 0 ∨ r = 1 ∨ r = 2 ∨ r = 3) with rfl | rfl | rfl | rfl
      · exact ⟨4, atI_nat (j := 0) rfl, by decide⟩
      · exact ⟨4, atI_nat (j := 1) rfl, by decide⟩
      · exact ⟨4, atI_nat (j := 2) rfl, by decide⟩
      · exact ⟨14, atI_nat (j := 3) rfl, by decide⟩
    refine ⟨m, _, _, _, rfl, rfl, SqL.of hm1, hz', p, nl, ns, z, rfl, p1, o1 nl _ np hnl, by omega, by omega, fun q es H2 hq sub nde hle o2 p2 => ?_⟩
    have o2 : Off p H H2 := o1.trans o2
    refine ⟨fun σ H3 => ∃ (q : Addr) (es : List Str), σ = [some (.ref p), some (.ref nl), some (.int sh), some (.ref od), some (.ref q)] ∧ H3 q = some (.tup (es.map V.str)) ∧ (∀ x ∈ es, x ∈ ns) ∧ es.Nodup ∧ Off p H H3 ∧ Pu H3 p, ?_, ?_⟩
    · refine ⟨_, rfl, _, _, rfl, rfl, _, rfl, ite2 (fun hb => ?_) (fun hb => ⟨q, es, rfl, hq, sub, nde, o2, p2⟩)⟩
      refine ⟨_, rfl, _, rfl, nl, _, rfl, .inl (SqL.of (o2 nl _ np hnl)), _, _, rfl, rfl, ?_⟩
      refine ⟨_, rfl, _, _, rfl, rfl, .inl ⟨by decide, by decide⟩, _, _, rfl, rfl, _, _, rfl, _, rfl, nl, _, rfl, SqL.of (o2 nl _ np hnl), fun m2 hm2 => ?_⟩
      obtain ⟨ms, em, sbm⟩ := cut_sub ns (some (if ((ns.map V.str).length : Int) - 1 - 2 * sh > 0 then ((ns.map V.str).length : Int) - 1 - 2 * sh else 0)) none
      have p5 := p2.upd_ne (o := .lst (cutV (ns.map V.str) (some (if ((ns.map V.str).length : Int) - 1 - 2 * sh > 0 then ((ns.map V.str).length : Int) - 1 - 2 * sh else 0)) none)) (p2.neN hm2)
      have hm5 : (upd H2 m2 (.lst (cutV (ns.map V.str) (some (if ((ns.map V.str).length : Int) - 1 - 2 * sh > 0 then ((ns.map V.str).length : Int) - 1 - 2 * sh else 0)) none))) m2 = some (.lst (ms.map V.str)) := by rw [upd_same, em]
      have o5 : Off p H (upd H2 m2 (.lst (cutV (ns.map V.str) (some (if ((ns.map V.str).length : Int) - 1 - 2 * sh > 0 then ((ns.map V.str).length : Int) - 1 - 2 * sh else 0)) none))) := o2.trans (Off.new hm2)
      have m2p : m2 ≠ p := (p2.neN hm2).symm
      generalize upd H2 m2 (.lst (cutV (ns.map V.str) (some (if ((ns.map V.str).length : Int) - 1 - 2 * sh > 0 then ((ns.map V.str).length : Int) - 1 - 2 * sh else 0)) none)) = H5 at p5 hm5 o5
      refine ⟨_, rfl, p, 2, rfl, p5, by decide, by decide, fun r7 a7 b7 c7 l7 u7 => ⟨_, _, rfl, rfl, .inl ⟨by decide, by decide⟩, _, _, rfl, rfl, m2, _, _, rfl, rfl, SqL.of (by rw [upd_ne m2p]; exact hm5), ?_⟩⟩
      have o7 : Off p H (upd H5 p (.lst [.int a7, .int b7, .int c7])) := o5.trans Off.upd
      have p7 : Pu (upd H5 p (.lst [.int a7, .int b7, .int c7])) p := Pu.upd
      generalize upd H5 p (.lst [.int a7, .int b7, .int c7]) = H7 at o7 p7
      rcases (by omega : r7 = 0 ∨ r7 = 1) with rfl | rfl
      · refine .inl ⟨by decide, fun q6 hq6 => ⟨q6, _, rfl, .inl ⟨SqL.of upd_same, fun q8 hq8 => ?_⟩⟩⟩
        have p8 := p7.upd_ne (o := .lst (ms.map V.str)) (p7.neN hq6)
        exact ⟨q8, ms, rfl, upd_same, fun x hx => sbm.subset hx, nd.sublist sbm, o7.trans ((Off.new hq6).trans (Off.new hq8)), p8.upd_ne (p8.neN hq8)⟩
      · refine .inr ⟨by decide, fun q6 hq6 => ⟨q6, _, rfl, .inl ⟨SqL.of upd_same, fun q8 hq8 => ?_⟩⟩⟩
        have p8 := p7.upd_ne (o := .lst (ms.map V.str).reverse) (p7.neN hq6)
        exact ⟨q8, ms.reverse, rfl, by rw [upd_same, List.map_reverse], fun x hx => sbm.subset (List.mem_reverse.mp hx), nodup_rev (nd.sublist sbm), o7.trans ((Off.new hq6).trans (Off.new hq8)), p8.upd_ne (p8.neN hq8)⟩
    · rintro σ H3 ⟨q, es, rfl, hq, sub, nde, o3, p3⟩
      have odp : od ≠ p := by
        obtain ⟨x1, x2, x3, ep⟩ := hp
        exact ne_of hod ep (fun z => nomatch z)
      have hod3 := o3 od _ odp hod
      have og3 : OrdsG H3 kvs g ns := og.mono fun c zs e => by
        obtain ⟨x1, x2, x3, ep⟩ := hp
        exact o3 c _ (ne_of e ep (fun z => nomatch z)) e
      have hel : es.length ≤ 7 := Nat.le_trans (nodup_le nde (m := ns) sub) h7
      refine ⟨_, rfl, q, rfl, ⟨_, SqT.of hq⟩, fun D1 hD1 => ?_⟩
      have s4 : ∀ u, Same H3 (upd H3 D1 u) := fun u => Same.new hD1
      refine comp_by (n := (es.map V.str).length) (fun j ys H4 => RowsT H3 ys ((es.take j).map g) ∧ H4 = upd H3 D1 (.lst ys)) ⟨.nil, rfl⟩ ?_ ?_
      rotate_left
      · rintro j ys H4 hj ⟨rt, rfl⟩
        have hj' : j < es.length := by rw [List.length_map] at hj; exact hj
        have ej : (es.map V.str)[j]? = some (.str es[j]) := by rw [List.getElem?_map, List.getElem?_eq_getElem hj']; rfl
        refine ⟨⟨_, _, SqT.of (s4 _ q _ hq), ej⟩, ?_⟩
        rintro y H5 ⟨rfl, yy⟩ σo ho
        obtain ⟨oo, rfl⟩ := own1 ho
        have ey := yy _ (SqT.of (s4 _ q _ hq))
        rw [ej] at ey
        cases ey
        obtain ⟨q', h1, h2, _⟩ := og3 es[j] (sub _ (List.getElem_mem hj'))
        refine ⟨⟨[_], rfl, rfl⟩, yes_by ⟨_, rfl, _, rfl, od, .ref q', rfl, .inl ⟨kvs, .inr es[j], .inl (s4 _ od _ hod3), rfl, h1.symm⟩, by rw [Paired.length rt, List.length_map, List.length_take]; omega, upd_same, less_by hj ⟨?_, by rw [upd_upd]⟩⟩⟩
        rw [take_snoc hj', List.map_append]
        exact pairedSnoc rt ⟨q', rfl, h2⟩
      rintro ys H4 ⟨rt, rfl⟩
      rw [List.length_map, List.take_of_length_le (Nat.le_refl _)] at rt
      refine ⟨⟨_, SqT.of (s4 _ q _ hq), Nat.le_refl _⟩, ?_⟩
      have hyl : ys.length = es.length := by rw [Paired.length rt, List.length_map]
      refine ⟨_, rfl, by show 1 ≤ sizeLine; decide, fun m2 hm2 => ?_⟩
      have s5 := (s4 (.lst ys)).trans (Same.new (o := .lst [.ref q]) hm2)
      have hD5 : (upd (upd H3 D1 (.lst ys)) m2 (.lst [.ref q])) D1 = some (.lst ys) := by rw [upd_ne (ne_of_none upd_same hm2), upd_same]
      refine ⟨D1, m2, ys, [.ref q], rfl, rfl, hD5, upd_same, by show ys.length + 1 ≤ sizeLine; omega, fun rl hrl => ?_⟩
      have s6 := s5.trans (Same.new (o := .lst (ys ++ [.ref q])) hrl)
      have hrl6 : (upd (upd (upd H3 D1 (.lst ys)) m2 (.lst [.ref q])) rl (.lst (ys ++ [.ref q]))) rl = some (.lst (ys ++ [.ref q])) := upd_same
      generalize upd (upd (upd H3 D1 (.lst ys)) m2 (.lst [.ref q])) rl (.lst (ys ++ [.ref q])) = H6 at s6 hrl6
      have rt6 : RowsT H6 (ys ++ [.ref q]) (rowsG g es) := pairedSnoc (rt.mono (Same.tups s6)) ⟨q, rfl, s6 q _ hq⟩
      have tt := tot_rowsG (g := g) (es := es) fun x hx => by
        obtain ⟨_, _, _, h⟩ := og3 x (sub x hx)
        exact h
      refine ⟨"", rl, _, rowsG g es, rfl, hrl6, rt6, by omega, by unfold rowsG; rw [List.length_append, List.length_map, List.length_singleton]; omega, fun v r H7 hm res s7 => ?_⟩
      have s37 := s6.trans s7
      have p7 : Pu H7 p := p3.same s37
      have o7 : Off p H H7 := o3.trans s37.off
      cases r with
      | none =>
        have ev : v = .non := res
        subst ev
        refine ⟨rfl, _, rfl, itePos (decide_eq_true rfl) ?_⟩
        refine ⟨_, rfl, _, rfl, q, _, rfl, s37 q _ hq, fun q8 H8 hq8 s8 => ?_⟩
        rw [cut1_to, ← List.map_take] at hq8
        exact k q8 (es.take 1) H8 hq8 (fun x hx => sub x (List.mem_of_mem_take hx)) (nde.sublist (List.take_sublist _ _)) (.inl (by rw [List.length_take]; omega)) (o7.trans s8.off) (p7.same s8)
      | some os =>
        obtain ⟨a', ev, _⟩ : ∃ a', v = V.ref a' ∧ True := by
          obtain ⟨a', h, _⟩ := res
          exact ⟨a', h, trivial⟩
        subst ev
        refine ⟨rfl, _, rfl, iteNeg (by rw [decide_eq_false (fun z => nomatch z)]; exact Bool.false_ne_true) ?_⟩
        exact ⟨_, rfl, k q es H7 (s37 q _ hq) sub nde (.inr ⟨os, hm⟩) o7 p7⟩
end
end K10
end
section
set_option autoImplicit false
namespace K10
open PySem PyProof.Rows L2
theorem Mg.some_sub {rows : List (List Str)} {r : Option (List Str)} (h : Mg rows r) : ∀ os, r = some os → (∀ y ∈ os, ∃ q ∈ rows, y ∈ q) ∧ os.Nodup := by
  induction h with
  | nil =>
    intro os e
    cases e
    exact ⟨by simp, List.nodup_nil⟩
  | stuck _ _ =>
    intro os e
    cases e
  | @step rows x more r hf _ ih =>
    intro os e
    cases r with
    | none => cases e
    | some os' =>
      cases e
      obtain ⟨h1, h2⟩ := ih os' rfl
      have back : ∀ y ∈ os', y ≠ x ∧ ∃ q ∈ rows, y ∈ q := fun y hy => by
        obtain ⟨q, hq, hyq⟩ := h1 y hy
        obtain ⟨hq1, _⟩ := List.mem_filter.mp hq
        obtain ⟨q0, hq0, rfl⟩ := List.mem_map.mp hq1
        obtain ⟨a, b⟩ := List.mem_filter.mp hyq
        exact ⟨of_decide_eq_true b, q0, hq0, a⟩
      refine ⟨fun y hy => ?_, List.nodup_cons.mpr ⟨fun h => (back x h).1 rfl, h2⟩⟩
      rcases List.mem_cons.mp hy with rfl | h
      · obtain ⟨q, hq, hh⟩ := frees_mem (by rw [hf]; exact List.mem_cons_self)
        refine ⟨q, hq, ?_⟩
        cases q with
        | nil => cases hh
        | cons z q =>
          cases hh
          exact List.mem_cons_self
      · exact (back y h).2
theorem out_id {x : Str} {q : List Str} (h : ¬ x ∈ q) : outOf x q = q := by
  unfold outOf
  rw [List.filter_eq_self]
  intro y hy
  exact decide_eq_true fun e => h (e ▸ hy)
theorem mg_single : ∀ (os : List Str), os.Nodup → Mg (full [os]) (some os)
  | [], _ => .nil
  | y :: os, nd => by
    obtain ⟨n1, n2⟩ := List.nodup_cons.mp nd
    have ih := mg_single os n2
    have hh : ¬ heldIn [y :: os] y = true := by
      unfold heldIn
      simp [n1]
    have hf : frees [y :: os] = y :: [] := by
      show (if heldIn [y :: os] y = true then [] else [y]) ++ [] = _
      rw [if_neg hh]
      rfl
    have ho : full ([y :: os].map (outOf y)) = full [os] := by
      have : outOf y (y :: os) = os := by
        have h1 : outOf y (y :: os) = outOf y os := by
          unfold outOf
          rw [List.filter_cons]
          simp
        rw [h1, out_id n1]
      show full [outOf y (y :: os)] = _
      rw [this]
    have := Mg.step hf (r := some os) (by rw [ho]; exact ih)
    exact this
theorem mg_one {e : Str} {os : List Str} (nd : (e :: os).Nodup) : Mg (full [e :: os, [e]]) (some (e :: os)) := by
  obtain ⟨n1, n2⟩ := List.nodup_cons.mp nd
  have ih := mg_single os n2
  have hh : ¬ heldIn [e :: os, [e]] e = true := by
    unfold heldIn
    simp [n1]
  have hf : frees [e :: os, [e]] = e :: [e] := by
    show (if heldIn [e :: os, [e]] e = true then [] else [e]) ++ ((if heldIn [e :: os, [e]] e = true then [] else [e]) ++ []) = _
    rw [if_neg hh]
    rfl
  have h1 : outOf e (e :: os) = os := by
    have h1 : outOf e (e :: os) = outOf e os := by
      unfold outOf
      rw [List.filter_cons]
      simp
    rw [h1, out_id n1]
  have h2 : outOf e [e] = [] := by
    unfold outOf
    simp
  have ho : full ([e :: os, [e]].map (outOf e)) = full [os] := by
    show full [outOf e (e :: os), outOf e [e]] = _
    rw [h1, h2]
    cases os <;> rfl
  have hfull : full [e :: os, [e]] = [e :: os, [e]] := rfl
  rw [hfull]
  exact Mg.step hf (r := some os) (by rw [ho]; exact ih)
theorem Paired.perm {α β : Type} {F : α → β → Prop} : ∀ {us ws : List α}, us.Perm ws → ∀ {xs : List β}, Paired F ws xs → ∃ ys, ys.Perm xs ∧ Paired F us ys := by
  intro us ws h
  induction h with
  | nil => exact fun {xs} r => ⟨xs, .refl _, r⟩
  | cons a _ ih =>
    intro xs r
    cases r with
    | cons q t =>
      obtain ⟨ys, p, r'⟩ := ih t
      exact ⟨_ :: ys, p.cons _, .cons q r'⟩
  | swap a b l =>
    intro xs r
    cases r with
    | cons q t =>
      cases t with
      | cons q' t' => exact ⟨_, .swap _ _ _, .cons q' (.cons q t')⟩
  | trans _ _ ih1 ih2 =>
    intro xs r
    obtain ⟨ys, p, r'⟩ := ih2 r
    obtain ⟨zs, p', r''⟩ := ih1 r'
    exact ⟨zs, p'.trans p, r''⟩
def GOk (g : Str → List Str) (S : List Str) : Prop := ∀ x ∈ S, (g x).Nodup ∧ (∃ os, g x = x :: os) ∧ ∀ y ∈ g x, y ∈ S
theorem mg_eld {g : Str → List Str} {es S : List Str} (gg : GOk g S) (sub : ∀ x ∈ es, x ∈ S) (h : es.length ≤ 1 ∨ ∃ os, Mg (full (rowsG g es)) (some os)) : ∃ os, Mg (full (rowsG g es)) (some os) := by
  rcases h with h | h
  · cases es with
    | nil => exact ⟨[], .nil⟩
    | cons e r =>
      cases r with
      | nil =>
        obtain ⟨nd, ⟨os, eo⟩, _⟩ := gg e (sub e List.mem_cons_self)
        rw [eo] at nd
        refine ⟨e :: os, ?_⟩
        show Mg (full [g e, [e]]) _
        rw [eo]
        exact mg_one nd
      | cons e2 r => simp at h
  · exact h
theorem mg_new {g : Str → List Str} {es S os : List Str} (gg : GOk g S) (sub : ∀ x ∈ es, x ∈ S) (h : Mg (full (rowsG g es)) (some os)) : os.Nodup ∧ ∀ y ∈ os, y ∈ S := by
  obtain ⟨h1, h2⟩ := Mg.some_sub h os rfl
  refine ⟨h2, fun y hy => ?_⟩
  obtain ⟨q, hq, hyq⟩ := h1 y hy
  have hq := (List.mem_filter.mp hq).1
  rcases List.mem_append.mp hq with h | h
  · obtain ⟨e, he, rfl⟩ := List.mem_map.mp h
    exact (gg e (sub e he)).2.2 y hyq
  · rw [List.mem_singleton.mp h] at hyq
    exact sub y hyq
def putG (g : Str → List Str) (x : Str) (o : List Str) : Str → List Str := fun y => if y = x then o else g y
theorem GOk.put {g : Str → List Str} {S os : List Str} {x : Str} (gg : GOk g S) (hx : ¬ x ∈ S) (nd : os.Nodup) (sub : ∀ y ∈ os, y ∈ S) : GOk (putG g x (x :: os)) (S ++ [x]) := fun y hy => by
  unfold putG
  by_cases e : y = x
  · rw [if_pos e, e]
    refine ⟨List.nodup_cons.mpr ⟨fun h => hx (sub x h), nd⟩, ⟨os, rfl⟩, fun z hz => ?_⟩
    rcases List.mem_cons.mp hz with rfl | h
    · exact List.mem_append_right _ (List.mem_singleton.mpr rfl)
    · exact List.mem_append_left _ (sub z h)
  · rw [if_neg e]
    have hy' : y ∈ S := by
      rcases List.mem_append.mp hy with h | h
      · exact h
      · exact absurd (List.mem_singleton.mp h) e
    obtain ⟨a, b, c⟩ := gg y hy'
    exact ⟨a, b, fun z hz => List.mem_append_left _ (c z hz)⟩
theorem OrdsG.put {H H' : Hp} {kvs : List (Key × V)} {g : Str → List Str} {S os : List Str} {x : Str} {q : Addr} (h : OrdsG H kvs g S) (s : Tups H H') (hq : H' q = some (.tup (os.map V.str))) (hl : os.length ≤ 8) : OrdsG H' (putK kvs (.inr x) (.ref q)) (putG g x os) (S ++ [x]) := fun y hy => by
  unfold putG
  rw [valV_put]
  by_cases e : y = x
  · rw [if_pos e, if_pos (by rw [e])]
    exact ⟨q, rfl, hq, hl⟩
  · rw [if_neg e, if_neg (by intro z; injection z with z; exact e z)]
    have hy' : y ∈ S := by
      rcases List.mem_append.mp hy with h | h
      · exact h
      · exact absurd (List.mem_singleton.mp h) e
    exact h.mono s y hy'
theorem Dp.row6 {H : Hp} {q e o f : Addr} {d : V} {x : Str} {es os fs : List Str} {ds : List (Str × Int)} {n : Int} (hq : H q = some (.tup [.str x, .ref e, .ref o, .ref f, d, .int n])) (he : H e = some (.tup (es.map V.str))) (ho : H o = some (.tup (os.map V.str))) (hf : H f = some (.tup (fs.map V.str))) (hd : Dp H (.tup (ds.map deedT)) d) : Dp H (trow ⟨x, es, os, fs, ds, n⟩) (.ref q) :=
  L2.Dp.tup hq (.cons (L2.Dp.str x) (.cons (L2.Dp.tup he (DpL.strs es)) (.cons (L2.Dp.tup ho (DpL.strs os)) (.cons (L2.Dp.tup hf (DpL.strs fs)) (.cons hd (.cons (L2.Dp.int n) .nil))))))
def RowOk (S : List Str) (r : Row) : Prop := (∀ x ∈ r.order, x ∈ S) ∧ r.order.length ≤ 8 ∧ r.fields.length ≤ 7 ∧ (∀ x ∈ r.elders, x ∈ S) ∧ r.elders.length ≤ 7 ∧ r.kind.length ≤ 100
theorem GoodTb.perm {tb tb' : List Row} (G : GoodTb tb) (p : tb'.Perm tb) : GoodTb tb' := by
  have pk : (kns tb').Perm (kns tb) := p.map _
  exact ⟨pk.nodup_iff.mpr G.nd, by rw [p.length_eq]; exact G.len, fun r hr x hx => pk.mem_iff.mpr (G.ord r (p.mem_iff.mp hr) x hx), fun r hr => G.ol r (p.mem_iff.mp hr), fun r hr => G.fl r (p.mem_iff.mp hr), fun r hr => G.kl r (p.mem_iff.mp hr), fun r hr => ⟨fun x hx => pk.mem_iff.mpr ((G.es r (p.mem_iff.mp hr)).1 x hx), (G.es r (p.mem_iff.mp hr)).2⟩⟩
def AtJ (H : Hp) (y : V) (j : Nat) : Prop := ∃ (q : Addr) (i : Int), y = .ref q ∧ H q = some (.tup [.int i, .int j])
section
variable {P : Program} {w : World} {K : PySem.W.Frag} {mg : Str → Option Value} {base : Heap} {t : Adr}
def spTable : Sp := fun vs H Q _ => ∃ (p dl fl : Addr) (n : Nat) (ds fs : List Str), vs = [.ref p, .int n, .ref dl, .ref fl] ∧ Pu H p ∧ 1 ≤ n ∧ n ≤ 7 ∧ H dl = some (.lst (ds.map V.str)) ∧ ds.length ≤ 3 ∧ H fl = some (.lst (fs.map V.str)) ∧ fs.length ≤ 100 ∧
  ∀ (v : V) (tb : List Row) H', Dp H' (tabT tb) v → GoodTb tb → tb.length = n → Off p H H' → Pu H' p → Q v H'
theorem ok_table (D : Defs K mg t) : FnOk P w K mg base CX0 4 t._law_table.1 t._law_table.2 ["_law_purse_here", "_law_many", "_law_deeds", "_law_fields"] spTable := by
  have G__law_take : FnOk P w K mg base CX0 1 t._law_take.1 t._law_take.2 _ spTake := ok_take D
  have G__law_names : FnOk P w K mg base CX0 3 t._law_names.1 t._law_names.2 _ spNames := ok_names D
  have G__law_some : FnOk P w K mg base CX0 2 t._law_some.1 t._law_some.2 _ spSome := ok_some D
  have G__law_elders : FnOk P w K mg base CX0 3 t._law_elders.1 t._law_elders.2 _ spEld := ok_eld D
  have G__law_merge : FnOk P w K mg base CX0 1 t._law_merge.1 t._law_merge.2 _ spMerge := ok_merge D
  have G__law_own : FnOk P w K mg base CX0 3 t._law_own.1 t._law_own.2 _ spOwn := ok_own D
  have hz : sizeLine = 16777216 := sizeLine_eq
  refine D._law_table.fn.ok sc__law_table (fun vs H Q E h => ?_) (fun cdv A outer s H vs Q E hr h => ?_)
  · obtain ⟨p, dl, fl, n, ds, fs, rfl, _⟩ := h
    rfl
  · obtain ⟨p, dl, fl, n, ds, fs, rfl, hp, hn1, hn7, hdl, hds, hfl, hfs, k⟩ := h
    have dlp : dl ≠ p := hp.ne hdl
    have flp : fl ≠ p := hp.ne hfl
    refine ⟨_, (pss_cons (ps_set (i := 4) sc__law_table.nd rfl (Or.inl rfl) (pe_callF D._law_take G__law_take (hr.mono (by omega)) (by rfl) (pa_cons (pv 0) (pa_cons pe_int pa_nil))))
      (pss_cons (ps_set (i := 5) sc__law_table.nd rfl (Or.inl rfl) (pe_callF D._law_names G__law_names (hr.mono (by omega)) (by rfl) (pa_cons (pv 0) (pa_cons (pv 1) (pa_cons (pe_lst pa_nil) pa_nil)))))
      (pss_cons (ps_asg (pe_tup (pa_cons (pe_lst pa_nil) (pa_cons pe_dnewK pa_nil))) (pg_tup rfl (pgs_cons (pg_name (i := 6) sc__law_table.nd rfl (Or.inr rfl)) (pgs_cons (pg_name (i := 7) sc__law_table.nd rfl (Or.inr rfl)) pgs_nil))))
      (pss_cons (ps_for PassesOwn.never rfl (pi_enumerate rfl D.b_enumerate (pa_cons (pv 5) pa_nil)) (pg_tup rfl (pgs_cons (pg_name (i := 8) sc__law_table.nd rfl (Or.inl rfl)) (pgs_cons (pg_name (i := 9) sc__law_table.nd rfl (Or.inl rfl)) pgs_nil)))
      (pss_cons (ps_set (i := 10) sc__law_table.nd rfl (Or.inl rfl) (pe_callF D._law_elders G__law_elders (hr.mono (by omega)) (by rfl) (pa_cons (pv 0) (pa_cons (pe_slice sl_list (pv 5) po_none (po_some (pv 8))) (pa_cons (pv 4) (pa_cons (pv 7) pa_nil))))))
      (pss_cons (ps_dput (hu_of hr) (pv 7) (pv 9) (pe_callF D._law_merge G__law_merge (hr.mono (by omega)) (by rfl) (pa_cons (pv 9) (pa_cons (pe_op op_cat (pe_comp rfl (CompScope.of ["_law_one"] [7] ["_law_one", "_law_orders"] (defScope (top 24)) ["_law_purse_here", "_law_many", "_law_deeds", "_law_fields", "_law_shape", "_law_names_here", "_law_rows", "_law_orders", "_law_k", "_law_kind", "_law_elders_here", "_law_number", "_law_places"] rfl rfl (by decide +kernel)) ⟨fun _ _ _ _ _ => (pg_name (i := 0) (show List.Nodup [("_law_one" : Str), ("_law_orders" : Str)] by decide +kernel) rfl (Or.inl (lookup_relabel_local rfl)) (.inr (lookup_relabel_local rfl))), fun _ _ _ _ _ => pts_nil, fun _ _ _ _ _ => (pe_dget (hu_of hr) (pv 1) (pv 0) (fun _ _ => rfl))⟩ (pi_tup (pv 10))) (pe_lst (pa_cons (pv 10) pa_nil))) pa_nil))) rfl)
      (pss_cons (ps_set (i := 11) sc__law_table.nd rfl (Or.inl rfl) (pe_callF D._law_take G__law_take (hr.mono (by omega)) (by rfl) (pa_cons (pv 0) (pa_cons (pe_ix ix_list (pe_lst (pa_cons pe_int (pa_cons pe_int (pa_cons (pe_op op_pow pe_int pe_int) pa_nil)))) (pe_callF D._law_take G__law_take (hr.mono (by omega)) (by rfl) (pa_cons (pv 0) (pa_cons pe_int pa_nil))) (fun _ _ => rfl)) pa_nil))))
      (pss_one (ps_expr (pe_bm PySem.F.plainAttrs_list PySem.F.slot_list_append PySem.F.type_list_append mt_append (pv 6) (pa_cons (pe_tup (pa_cons (pv 9) (pa_cons (pv 10) (pa_cons (pe_dget (hu_of hr) (pv 7) (pv 9) (fun _ _ => rfl)) (pa_cons (pe_callF D._law_some G__law_some (hr.mono (by omega)) (by rfl) (pa_cons (pv 0) (pa_cons (pv 3) (pa_cons pe_int pa_nil)))) (pa_cons (pe_callF D._law_own G__law_own (hr.mono (by omega)) (by rfl) (pa_cons (pv 0) (pa_cons (pv 2) pa_nil))) (pa_cons (pv 11) pa_nil))))))) pa_nil))))))))
      (pss_cons (ps_set (i := 12) sc__law_table.nd rfl (Or.inl rfl) (pe_callB (call_sorted false) (by rfl) D.b_sorted bt_sorted (pa_cons (pe_comp rfl (CompScope.of ["_law_k"] [0] ["_law_k", "_law_purse_here"] (defScope (top 24)) ["_law_purse_here", "_law_many", "_law_deeds", "_law_fields", "_law_shape", "_law_names_here", "_law_rows", "_law_orders", "_law_k", "_law_kind", "_law_elders_here", "_law_number", "_law_places"] rfl rfl (by decide +kernel)) ⟨fun _ _ _ _ _ => (pg_name (i := 0) (show List.Nodup [("_law_k" : Str), ("_law_purse_here" : Str)] by decide +kernel) rfl (Or.inl (lookup_relabel_local rfl)) (.inr (lookup_relabel_local rfl))), fun _ _ _ _ _ => pts_nil, fun _ _ _ _ _ => (pe_tup (pa_cons (pe_callF D._law_take G__law_take (hr.mono (by omega)) (by rfl) (pa_cons (pv 1) (pa_cons pe_int pa_nil))) (pa_cons (pv 0) pa_nil)))⟩ (pi_range1 rfl D.b_range (pa_cons (pv 1) pa_nil))) pa_nil)))
      (pss_one (ps_ret (pe_callTy call_tuple_of (by rfl) D.b_tuple bt_tuple (pa_cons (pe_comp rfl (CompScope.of ["_law_number", "_law_k"] [6] ["_law_number", "_law_k", "_law_rows"] (defScope (top 24)) ["_law_purse_here", "_law_many", "_law_deeds", "_law_fields", "_law_shape", "_law_names_here", "_law_rows", "_law_orders", "_law_k", "_law_kind", "_law_elders_here", "_law_number", "_law_places"] rfl rfl (by decide +kernel)) ⟨fun _ _ _ _ _ => (pg_tup_K (K := K) (n := 2) rfl rfl (pgs_cons (pg_name (i := 0) (show List.Nodup [("_law_number" : Str), ("_law_k" : Str), ("_law_rows" : Str)] by decide +kernel) rfl (Or.inl (lookup_relabel_local rfl)) (.inr (lookup_relabel_local rfl))) (pgs_cons (pg_name (i := 1) (show List.Nodup [("_law_number" : Str), ("_law_k" : Str), ("_law_rows" : Str)] by decide +kernel) rfl (Or.inl (lookup_relabel_local rfl)) (.inr (lookup_relabel_local rfl))) pgs_nil))), fun _ _ _ _ _ => pts_nil, fun _ _ _ _ _ => (pe_ix (ix_list_K (K := K) rfl) (pv 2) (pv 1) (fun _ _ => rfl))⟩ (pi_list (pv 12))) pa_nil))))))))), ?_⟩
    refine ⟨_, rfl, p, 6, rfl, hp, by decide, by decide, fun sh a1 b1 c1 l1 u1 => ?_⟩
    refine ⟨_, rfl, _, rfl, Nat.zero_le _, fun u hu => ?_⟩
    have pu : p ≠ u := Pu.upd.neN hu
    refine ⟨p, u, [], n, rfl, Pu.upd.upd_ne pu, upd_same, by omega, by show 0 + _ ≤ 25; omega, fun l ns H1 hl hns nd nlen hl1 o1 p1 => ?_⟩
    have o1 : Off p H H1 := (Off.upd.trans (Off.new hu)).trans o1
    have lp : l ≠ p := p1.ne hl1
    have hns7 : ns.length ≤ 7 := by omega
    refine ⟨Nat.zero_le _, fun rl hrl od hod => ⟨by show 2 ≤ sizeLine; decide, fun tq htq => ?_⟩⟩
    have p3 := ((p1.upd_ne (o := .lst []) (p1.neN hrl)).upd_ne (o := .dK []) ((p1.upd_ne (p1.neN hrl)).neN hod)).upd_ne (o := .tup [.ref rl, .ref od]) (((p1.upd_ne (p1.neN hrl)).upd_ne ((p1.upd_ne (p1.neN hrl)).neN hod)).neN htq)
    have o3 : Off p H (upd (upd (upd H1 rl (.lst [])) od (.dK [])) tq (.tup [.ref rl, .ref od])) := o1.trans ((Off.new hrl).trans ((Off.new hod).trans (Off.new htq)))
    have rlo : rl ≠ od := ne_of_none upd_same hod
    have odt : od ≠ tq := ne_of_none upd_same htq
    have rlt : rl ≠ tq := fun e => by rw [← e, upd_ne rlo, upd_same] at htq; cases htq
    have hrl3 : (upd (upd (upd H1 rl (.lst [])) od (.dK [])) tq (.tup [.ref rl, .ref od])) rl = some (.lst []) := by rw [upd_ne rlt, upd_ne rlo, upd_same]
    have hod3 : (upd (upd (upd H1 rl (.lst [])) od (.dK [])) tq (.tup [.ref rl, .ref od])) od = some (.dK []) := by rw [upd_ne odt, upd_same]
    have lrl : l ≠ rl := ne_of_none hl1 hrl
    have lod : l ≠ od := fun e => by rw [← e, upd_ne lrl, hl1] at hod; cases hod
    have ltq : l ≠ tq := fun e => by rw [← e, upd_ne lod, upd_ne lrl, hl1] at htq; cases htq
    have hl3 : (upd (upd (upd H1 rl (.lst [])) od (.dK [])) tq (.tup [.ref rl, .ref od])) l = some (.lst (ns.map V.str)) := by rw [upd_ne ltq, upd_ne lod, upd_ne lrl]; exact hl1
    have nof : ∀ {b : Addr}, b ≠ p → H1 b = none → H b = none := fun {b} hb hn => by
      cases q : H b with
      | none => rfl
      | some o => rw [o1 b o hb q] at hn; cases hn
    have hrlH : H rl = none := nof (p1.neN hrl).symm hrl
    have hodH : H od = none := nof ((p1.upd_ne (p1.neN hrl)).neN hod).symm (by rw [upd_ne rlo.symm] at hod; exact hod)
    have rlp : rl ≠ p := (p1.neN hrl).symm
    have odp : od ≠ p := ((p1.upd_ne (p1.neN hrl)).neN hod).symm
    refine ⟨tq, _, rfl, SqT.of upd_same, rfl, _, _, rfl, _, _, rfl, rfl, ?_⟩
    generalize upd (upd (upd H1 rl (.lst [])) od (.dK [])) tq (.tup [.ref rl, .ref od]) = H3 at p3 o3 hrl3 hod3 hl3
    refine ⟨_, rfl, l, _, rfl, SqL.of hl3, for_enum (K := K) (a := l) (xs := ns.map V.str) (fun i σ H2 => ∃ (rs : List Row) (ys : List V) (kvs : List (Key × V)) (g : Str → List Str) (v8 v9 v10 v11 : Option V), σ = [some (.ref p), some (.int n), some (.ref dl), some (.ref fl), some (.int sh), some (.ref l), some (.ref rl), some (.ref od), v8, v9, v10, v11, none] ∧
      kns rs = ns.take i ∧ (∀ r ∈ rs, RowOk (ns.take i) r) ∧ kvs.length ≤ i ∧ OrdsG H2 kvs g (ns.take i) ∧ GOk g (ns.take i) ∧ H2 rl = some (.lst ys) ∧ DpL H2 (rs.map trow) ys ∧ H2 od = some (.dK kvs) ∧ H2 l = some (.lst (ns.map V.str)) ∧ Off p H H2 ∧ Pu H2 p)
      ⟨[], [], [], fun _ => [], _, _, _, _, rfl, rfl, by simp, Nat.le_refl _, fun x hx => by simp at hx, fun x hx => by simp at hx, hrl3, .nil, hod3, hl3, o3, p3⟩ (fun i σ H2 _ ⟨_, _, _, _, _, _, _, _, _, _, _, _, _, _, _, _, _, e, _⟩ => SqL.of e) ?_ ?_⟩
    · rintro i x σ H2 q0 hi ⟨rs, ys, kvs, g, v8, v9, v10, v11, rfl, hrn, hrs, hkl, og, gg, hrl2, dl2, hod2, hl2, o2, p2⟩ hq0
      have hil : i < ns.length := by
        have := (List.getElem?_eq_some_iff.mp hi).1
        rwa [List.length_map] at this
      have ex : x = .str ns[i] := by
        rw [List.getElem?_map, List.getElem?_eq_getElem hil] at hi
        exact (Option.some.inj hi).symm
      subst ex
      have hni : ¬ ns[i] ∈ ns.take i := fun h => by
        have nd' := nd
        rw [← List.take_append_drop i ns] at nd'
        exact (List.nodup_append.mp nd').2.2 _ h _ (by rw [List.drop_eq_getElem_cons hil]; exact List.mem_cons_self) rfl
      refine ⟨q0, _, rfl, SqT.of upd_same, rfl, _, _, rfl, _, _, rfl, rfl, ?_⟩
      have s0 : Same H2 (upd H2 q0 (.tup [.int i, .str ns[i]])) := Same.new hq0
      refine ⟨_, rfl, _, rfl, _, rfl, _, rfl, l, _, rfl, SqL.of (s0 l _ hl2), fun m hm => ?_⟩
      have s1 := s0.trans (Same.new (o := .lst (cutV (ns.map V.str) none (some (i : Int)))) hm)
      have hm1 : (upd (upd H2 q0 (.tup [.int i, .str ns[i]])) m (.lst (cutV (ns.map V.str) none (some (i : Int))))) m = some (.lst ((ns.take i).map V.str)) := by rw [upd_same, cutV_to _ _ (by rw [List.length_map]; omega), List.map_take]
      generalize upd (upd H2 q0 (.tup [.int i, .str ns[i]])) m (.lst (cutV (ns.map V.str) none (some (i : Int)))) = H4 at s1 hm1
      have hti : (ns.take i).length ≤ 7 := by rw [List.length_take]; omega
      refine ⟨_, rfl, _, rfl, p, m, od, sh, ns.take i, kvs, g, rfl, p2.same s1, hm1, nd.sublist (List.take_sublist _ _), hti, l1, u1, s1 od _ hod2, og.mono (Same.tups s1), fun q es H5 hq sub nde hmg o5 p5 => ?_⟩
      have o5 : Off p H2 H5 := s1.off.trans o5
      have hod5 := o5 od _ odp hod2
      have hrl5 := o5 rl _ rlp hrl2
      have hl5 := o5 l _ lp hl2
      have tu5 : Tups H2 H5 := fun c zs e => by
        obtain ⟨x1, x2, x3, ep⟩ := p2
        exact o5 c _ (ne_of e ep (fun z => nomatch z)) e
      have og5 := og.mono tu5
      have hel : es.length ≤ 7 := Nat.le_trans (nodup_le nde (m := ns.take i) sub) hti
      refine ⟨_, rfl, _, rfl, q, rfl, ⟨_, SqT.of hq⟩, fun D1 hD1 => ?_⟩
      have s4 : ∀ u, Same H5 (upd H5 D1 u) := fun u => Same.new hD1
      refine comp_by (n := (es.map V.str).length) (fun j ys H6 => RowsT H5 ys ((es.take j).map g) ∧ H6 = upd H5 D1 (.lst ys)) ⟨.nil, rfl⟩ ?_ ?_
      rotate_left
      · rintro j ys H6 hj ⟨rt, rfl⟩
        have hj' : j < es.length := by rw [List.length_map] at hj; exact hj
        have ej : (es.map V.str)[j]? = some (.str es[j]) := by rw [List.getElem?_map, List.getElem?_eq_getElem hj']; rfl
        refine ⟨⟨_, _, SqT.of (s4 _ q _ hq), ej⟩, ?_⟩
        rintro y H7 ⟨rfl, yy⟩ σo ho
        obtain ⟨oo, rfl⟩ := own1 ho
        have ey := yy _ (SqT.of (s4 _ q _ hq))
        rw [ej] at ey
        cases ey
        obtain ⟨q', h1, h2, _⟩ := og5 es[j] (sub _ (List.getElem_mem hj'))
        refine ⟨⟨[_], rfl, rfl⟩, yes_by ⟨_, rfl, _, rfl, od, .ref q', rfl, .inl ⟨kvs, .inr es[j], .inl (s4 _ od _ hod5), rfl, h1.symm⟩, by rw [Paired.length rt, List.length_map, List.length_take]; omega, upd_same, less_by hj ⟨?_, by rw [upd_upd]⟩⟩⟩
        rw [take_snoc hj', List.map_append]
        exact pairedSnoc rt ⟨q', rfl, h2⟩
      rintro us H6 ⟨rt, rfl⟩
      rw [List.length_map, List.take_of_length_le (Nat.le_refl _)] at rt
      refine ⟨⟨_, SqT.of (s4 _ q _ hq), Nat.le_refl _⟩, ?_⟩
      have hyl : us.length = es.length := by rw [Paired.length rt, List.length_map]
      refine ⟨_, rfl, by show 1 ≤ sizeLine; decide, fun m2 hm2 => ?_⟩
      have s6 := (s4 (.lst us)).trans (Same.new (o := .lst [.ref q]) hm2)
      have hD6 : (upd (upd H5 D1 (.lst us)) m2 (.lst [.ref q])) D1 = some (.lst us) := by rw [upd_ne (ne_of_none upd_same hm2), upd_same]
      refine ⟨D1, m2, us, [.ref q], rfl, rfl, hD6, upd_same, by show us.length + 1 ≤ sizeLine; omega, fun ra hra => ?_⟩
      have s7 := s6.trans (Same.new (o := .lst (us ++ [.ref q])) hra)
      have hra7 : (upd (upd (upd H5 D1 (.lst us)) m2 (.lst [.ref q])) ra (.lst (us ++ [.ref q]))) ra = some (.lst (us ++ [.ref q])) := upd_same
      generalize upd (upd (upd H5 D1 (.lst us)) m2 (.lst [.ref q])) ra (.lst (us ++ [.ref q])) = H7 at s7 hra7
      have rt7 : RowsT H7 (us ++ [.ref q]) (rowsG g es) := pairedSnoc (rt.mono (Same.tups s7)) ⟨q, rfl, s7 q _ hq⟩
      have tt := tot_rowsG (g := g) (es := es) fun x hx => by
        obtain ⟨_, _, _, h⟩ := og5 x (sub x hx)
        exact h
      refine ⟨ns[i], ra, _, rowsG g es, rfl, hra7, rt7, by omega, by unfold rowsG; rw [List.length_append, List.length_map, List.length_singleton]; omega, fun v r H8 hm res s8 => ?_⟩
      have s58 := s7.trans s8
      have p8 : Pu H8 p := p5.same s58
      have o8 : Off p H2 H8 := o5.trans s58.off
      obtain ⟨os, hos⟩ := mg_eld gg sub hmg
      have er := Mg.det hm hos
      subst er
      obtain ⟨qo, rfl, hqo⟩ : ∃ qo, v = V.ref qo ∧ H8 qo = some (.tup ((ns[i] :: os).map V.str)) := res
      obtain ⟨ndo, subo⟩ := mg_new gg sub hos
      have hol : (ns[i] :: os).length ≤ 8 := by
        have := nodup_le ndo subo
        rw [List.length_cons]
        omega
      have hod8 := s58 od _ hod5
      have hrl8 := s58 rl _ hrl5
      have hl8 := s58 l _ hl5
      have hq8 := s58 q _ hq
      refine ⟨_, rfl, _, rfl, od, _, rfl, DPut.k (k := .inr ns[i]) hod8 (by omega), ?_⟩
      have tu9 : Tups H8 (upd H8 od (.dK (putK kvs (.inr ns[i]) (.ref qo)))) := fun c zs e => by
        rw [upd_ne (ne_of e hod8 (fun z => nomatch z))]
        exact e
      have og9 := (og5.mono (Same.tups s58)).put (x := ns[i]) tu9 (tu9 qo _ hqo) hol
      have gg9 := gg.put hni ndo subo
      have p9 := p8.upd_ne (o := .dK (putK kvs (.inr ns[i]) (.ref qo))) odp.symm
      have kp9 : ∀ b u, b ≠ od → H8 b = some u → (upd H8 od (.dK (putK kvs (.inr ns[i]) (.ref qo)))) b = some u := fun b u hb e => by rw [upd_ne hb]; exact e
      have hod9 : (upd H8 od (.dK (putK kvs (.inr ns[i]) (.ref qo)))) od = some (.dK (putK kvs (.inr ns[i]) (.ref qo))) := upd_same
      have tu29 : Tups H2 (upd H8 od (.dK (putK kvs (.inr ns[i]) (.ref qo)))) := tu5.trans ((Same.tups s58).trans tu9)
      have hqo9 := tu9 qo _ hqo
      have hq9 := tu9 q _ hq8
      have hrl9 := kp9 rl _ rlo hrl8
      have hl9 := kp9 l _ lod hl8
      have o9 : Off p H (upd H8 od (.dK (putK kvs (.inr ns[i]) (.ref qo)))) := fun b u hb e => kp9 b u (ne_of_none e hodH) (o8 b u hb (o2 b u hb e))
      have hkl9 : (putK kvs (.inr ns[i]) (V.ref qo)).length ≤ i + 1 := Nat.le_trans (length_putK _ _ _) (by omega)
      have hg9 : valV (putK kvs (.inr ns[i]) (V.ref qo)) (.inr ns[i]) = some (.ref qo) := by rw [valV_put, if_pos rfl]
      generalize hk9 : putK kvs (.inr ns[i]) (V.ref qo) = kvs9 at og9 p9 hod9 tu29 hqo9 hq9 hrl9 hl9 o9 hkl9 hg9
      generalize upd H8 od (.dK kvs9) = H9 at og9 p9 hod9 tu29 hqo9 hq9 hrl9 hl9 o9
      clear kp9 tu9 hk9
      refine ⟨_, rfl, _, _, rfl, rfl, ⟨by decide, by decide, by decide⟩, by show 3 ≤ sizeLine; decide, fun mn hmn => ?_⟩
      have pmn : p ≠ mn := p9.neN hmn
      have p10 : Pu (upd H9 mn (.lst [.int 1, .int 4, .int (10 ^ (12 : Int).toNat)])) p := p9.upd_ne pmn
      have s10 : Same H9 (upd H9 mn (.lst [.int 1, .int 4, .int (10 ^ (12 : Int).toNat)])) := Same.new hmn
      have hmn10 : (upd H9 mn (.lst [.int 1, .int 4, .int (10 ^ (12 : Int).toNat)])) mn = some (.lst [.int 1, .int 4, .int (10 ^ (12 : Int).toNat)]) := upd_same
      refine ⟨_, rfl, p, 3, rfl, p10, by decide, by decide, fun r2 a2 b2 c2 l2 u2 => ?_⟩
      have o11 : Off p H9 (upd (upd H9 mn (.lst [.int 1, .int 4, .int (10 ^ (12 : Int).toNat)])) p (.lst [.int a2, .int b2, .int c2])) := s10.off.trans Off.upd
      have hmn11 : (upd (upd H9 mn (.lst [.int 1, .int 4, .int (10 ^ (12 : Int).toNat)])) p (.lst [.int a2, .int b2, .int c2])) mn = some (.lst [.int 1, .int 4, .int (10 ^ (12 : Int).toNat)]) := by rw [upd_ne pmn.symm]; exact hmn10
      have p11 : Pu (upd (upd H9 mn (.lst [.int 1, .int 4, .int (10 ^ (12 : Int).toNat)])) p (.lst [.int a2, .int b2, .int c2])) p := Pu.upd
      generalize upd (upd H9 mn (.lst [.int 1, .int 4, .int (10 ^ (12 : Int).toNat)])) p (.lst [.int a2, .int b2, .int c2]) = H11 at o11 hmn11 p11
      obtain ⟨z, hz', hz1, hz2⟩ : ∃ z : Int, atI [V.int 1, V.int 4, V.int (10 ^ (12 : Int).toNat)] r2 = some (.int z) ∧ 0 < z ∧ z < 1606938044258990275541962092341162602522202993782792835301376 := by
        rcases (by omega : r2 = 0 ∨ r2 = 1 ∨ r2 = 2) with rfl | rfl | rfl
        · exact ⟨_, atI_nat (j := 0) rfl, by decide, by decide⟩
        · exact ⟨_, atI_nat (j := 1) rfl, by decide, by decide⟩
        · exact ⟨_, atI_nat (j := 2) rfl, by decide, by decide⟩
      refine ⟨mn, _, _, _, rfl, rfl, SqL.of hmn11, hz', p, z, rfl, p11, hz1, hz2, fun num a3 b3 c3 _ _ => ?_⟩
      have o12 : Off p H9 (upd H11 p (.lst [.int a3, .int b3, .int c3])) := o11.trans Off.upd
      have p12 : Pu (upd H11 p (.lst [.int a3, .int b3, .int c3])) p := Pu.upd
      generalize upd H11 p (.lst [.int a3, .int b3, .int c3]) = H12 at o12 p12
      have hrl12 := o12 rl _ rlp hrl9
      have hod12 := o12 od _ odp hod9
      have hfl12 := o12 fl _ flp (o9 fl _ flp hfl)
      refine ⟨_, rfl, .inl ⟨rfl, _, SqL.of hrl12⟩, _, rfl, _, rfl, _, rfl, _, rfl, od, .ref qo, rfl, .inl ⟨kvs9, .inr ns[i], .inl hod12, rfl, hg9.symm⟩, ?_⟩
      refine ⟨_, rfl, _, rfl, p, fl, fs, 3, rfl, p12, hfl12, by decide, hfs, fun qf fs' H13 hqf _ _ hfl' o13 p13 => ?_⟩
      have o13 : Off p H9 H13 := o12.trans o13
      have hdl13 := o13 dl _ dlp (o9 dl _ dlp hdl)
      refine ⟨_, rfl, _, rfl, p, dl, ds, rfl, p13, hdl13, hds, fun vd dds H14 dvd o14 p14 => ?_⟩
      have tu14 : Tups H13 H14 := fun c zs e => by
        obtain ⟨x1, x2, x3, ep⟩ := p13
        exact o14 c _ (ne_of e ep (fun z => nomatch z)) e
      have hqf14 := tu14 qf _ hqf
      have o14 : Off p H9 H14 := o13.trans o14
      have tu914 : Tups H9 H14 := fun c zs e => by
        obtain ⟨x1, x2, x3, ep⟩ := p9
        exact o14 c _ (ne_of e ep (fun z => nomatch z)) e
      have hrl14 := o14 rl _ rlp hrl9
      have hod14 := o14 od _ odp hod9
      have hl14 := o14 l _ lp hl9
      refine ⟨_, rfl, by show 6 ≤ sizeLine; decide, fun qr hqr => ?_⟩
      have hyl : ys.length = i := by
        have e1 := dl2.length
        rw [List.length_map] at e1
        have e2 := congrArg List.length hrn
        unfold kns at e2
        rw [List.length_map, List.length_take] at e2
        omega
      have qrr : rl ≠ qr := ne_of_none hrl14 hqr
      refine ⟨rl, ys, .ref qr, rfl, rfl, by rw [upd_ne qrr]; exact hrl14, by omega, ?_⟩
      have tu15 : Tups H14 (upd (upd H14 qr (.tup [.str ns[i], .ref q, .ref qo, .ref qf, vd, .int num])) rl (.lst (ys ++ [.ref qr]))) := fun c zs e => by
        rw [upd_ne (ne_of e hrl14 (fun z => nomatch z)), upd_ne (ne_of_none e hqr)]
        exact e
      refine ⟨rs ++ [⟨ns[i], es, ns[i] :: os, fs', dds, num⟩], ys ++ [.ref qr], kvs9, putG g ns[i] (ns[i] :: os), _, _, _, _, rfl, ?_, ?_, hkl9, ?_, ?_, upd_same, ?_, ?_, ?_, ?_, ?_⟩
      · unfold kns
        rw [List.map_append, take_snoc hil]
        show kns rs ++ [ns[i]] = _
        rw [hrn]
      · intro r hr'
        rw [take_snoc hil]
        rcases List.mem_append.mp hr' with h | h
        · obtain ⟨h1, h2, h3, h4, h5⟩ := hrs r h
          exact ⟨fun x hx => List.mem_append_left _ (h1 x hx), h2, h3, fun x hx => List.mem_append_left _ (h4 x hx), h5⟩
        · rw [List.mem_singleton.mp h]
          refine ⟨fun x hx => ?_, hol, by show fs'.length ≤ 7; omega, fun x hx => List.mem_append_left _ (sub x hx), hel, (nlen _ (List.getElem_mem hil)).2⟩
          rcases List.mem_cons.mp hx with rfl | h
          · exact List.mem_append_right _ (List.mem_singleton.mpr rfl)
          · exact List.mem_append_left _ (subo x h)
      · rw [take_snoc hil]
        exact og9.mono (tu914.trans tu15)
      · rw [take_snoc hil]
        exact gg9
      · rw [List.map_append]
        refine (dl2.mono (tu29.trans (tu914.trans tu15))).append (.cons (K10.Dp.row6 (e := q) (o := qo) (f := qf) ?_ ((tu914.trans tu15) q _ hq9) ((tu914.trans tu15) qo _ hqo9) (tu15 qf _ hqf14) (dvd.mono tu15)) .nil)
        rw [upd_ne qrr.symm, upd_same]
      · rw [upd_ne rlo.symm, upd_ne (ne_of_none hod14 hqr)]
        exact hod14
      · rw [upd_ne lrl, upd_ne (ne_of_none hl14 hqr)]
        exact hl14
      · intro b u hb e
        rw [upd_ne (ne_of_none e hrlH)]
        exact (Off.new hqr : L2.Off p _ _) b u hb (o14 b u hb (o9 b u hb e))
      · exact (p14.upd_ne (p14.neN hqr)).upd_ne rlp.symm
    · rintro σ H2 ⟨rows, ys, kvs, g, v8, v9, v10, v11, rfl, hrn, hrs, _, _, _, hf2, dl, _, hl2, o2, p2⟩
      have hrn : kns rows = ns := by rw [hrn, List.length_map, List.take_of_length_le (Nat.le_refl _)]
      have hrl : rows.length = ns.length := by rw [← hrn]; exact (List.length_map _).symm
      have good : GoodTb rows := by
        refine ⟨by rw [hrn]; exact nd, by omega, fun r hr x hx => ?_, fun r hr => (hrs r hr).2.1, fun r hr => (hrs r hr).2.2.1, fun r hr => (hrs r hr).2.2.2.2.2, fun r hr => ⟨fun x hx => ?_, (hrs r hr).2.2.2.2.1⟩⟩
        rotate_left
        · rw [hrn]
          exact List.mem_of_mem_take ((hrs r hr).2.2.2.1 x hx)
        rw [hrn]
        exact List.mem_of_mem_take ((hrs r hr).1 x hx)
      have hyl : ys.length = rows.length := by have := dl.length; rwa [List.length_map] at this
      have hyn : ys.length = n := by omega
      refine ⟨_, rfl, _, rfl, by omega, by omega, fun Dd hD => ?_⟩
      have pD : p ≠ Dd := p2.neN hD
      have fD : rl ≠ Dd := ne_of_none hf2 hD
      have hDH : H Dd = none := by
        cases q : H Dd with
        | none => rfl
        | some o =>
          rw [o2 Dd o pD.symm q] at hD
          cases hD
      have fp2 : rl ≠ p := rlp
      refine comp_by (n := ((n : Nat) : Int).toNat) (fun i zs H3 => Paired (AtJ H3) zs (List.range i) ∧ H3 Dd = some (.lst zs) ∧ H3 rl = some (.lst ys) ∧ DpL H3 (rows.map trow) ys ∧ Off p H H3 ∧ Pu H3 p)
        ⟨.nil, upd_same, by rw [upd_ne fD]; exact hf2, dl.mono (Same.tups (Same.new hD)), o2.trans (Off.new hD), p2.upd_ne pD⟩ ?_ ?_
      · rintro zs H3 ⟨pz, hD3, hf3, dl3, o3, p3⟩
        have hzl : zs.length = ys.length := by have := Paired.length pz; rw [List.length_range] at this; omega
        refine ⟨Nat.le_refl _, Dd, zs, rfl, SqL.of hD3, by omega, ?_, fun d qs pq hd => ?_⟩
        · intro z hz'
          obtain ⟨i, hi, rfl⟩ := List.getElem_of_mem hz'
          obtain ⟨q, j, e, hq⟩ := paired_get pz i hi (by rw [← Paired.length pz]; exact hi)
          exact ⟨q, j, _, e, hq, by unfold SecS; rw [if_neg Bool.false_ne_true]; exact ⟨_, rfl⟩⟩
        obtain ⟨js, pj, pqj⟩ := K10.Paired.perm pq pz
        have pd : p ≠ d := p3.neN hd
        have fd : rl ≠ d := ne_of_none hf3 hd
        have hql : qs.length = ys.length := by rw [pq.length_eq]; exact hzl
        have hjl : js.length = qs.length := (Paired.length pqj).symm
        have hjm : ∀ j ∈ js, j < rows.length := fun j hj => by
          have := List.mem_range.mp (pj.mem_iff.mp hj)
          omega
        refine ⟨_, rfl, d, rfl, ⟨_, SqL.of upd_same⟩, fun D2 hD2 => ?_⟩
        have dD2 : d ≠ D2 := ne_of_none upd_same hD2
        have s4 : Same H3 (upd H3 d (.lst qs)) := Same.new hd
        have fD2 : rl ≠ D2 := ne_of_none (s4 rl _ hf3) hD2
        have p4 : Pu (upd H3 d (.lst qs)) p := p3.same s4
        have s5 : ∀ o, Same H3 (upd (upd H3 d (.lst qs)) D2 o) := fun o => s4.trans (Same.new hD2)
        refine comp_by (n := qs.length) (fun i ws H5 => ws = (js.take i).map (fun j => ys.getD j .non) ∧ H5 = upd (upd H3 d (.lst qs)) D2 (.lst ws)) ⟨rfl, rfl⟩ ?_ ?_
        · rintro ws H5 ⟨rfl, rfl⟩
          rw [List.take_of_length_le (by omega)]
          refine ⟨⟨_, SqL.of (by rw [upd_ne dD2, upd_same]), Nat.le_refl _⟩, D2, _, rfl, .inl ⟨SqL.of upd_same, fun q hq => ?_⟩⟩
          have s6 := (s5 (.lst (js.map fun j => ys.getD j .non))).trans (Same.new (o := .tup (js.map fun j => ys.getD j .non)) hq)
          refine k (.ref q) (js.map fun j => rows.getD j ⟨"", [], [], [], [], 0⟩) _ (L2.Dp.tup upd_same ?_) (good.perm ?_) (by rw [List.length_map]; omega) (o3.trans s6.off) (p3.same s6)
          · have key : ∀ js : List Nat, (∀ j ∈ js, j < rows.length) → DpL H3 ((js.map fun j => rows.getD j ⟨"", [], [], [], [], 0⟩).map trow) (js.map fun j => ys.getD j .non) := by
              intro js
              induction js with
              | nil => exact fun _ => .nil
              | cons j js ih =>
                intro h
                have hj : j < rows.length := h j List.mem_cons_self
                obtain ⟨y, ey, dy⟩ := dl3.get (i := j) (t := trow rows[j]) (by rw [List.getElem?_map, List.getElem?_eq_getElem hj]; rfl)
                have e1 : rows.getD j ⟨"", [], [], [], [], 0⟩ = rows[j] := by simp [hj]
                have e2 : ys.getD j .non = y := by rw [List.getD_eq_getElem?_getD, ey]; rfl
                rw [List.map_cons, List.map_cons, List.map_cons, e1, e2]
                exact .cons dy (ih fun j' h' => h j' (List.mem_cons_of_mem _ h'))
            exact (key js hjm).mono (Same.tups s6)
          · have := pj.map fun j => rows.getD j ⟨"", [], [], [], [], 0⟩
            have e3 : (List.range ((n : Nat) : Int).toNat).map (fun j => rows.getD j ⟨"", [], [], [], [], 0⟩) = rows := by
              apply List.ext_getElem (by rw [List.length_map, List.length_range]; omega)
              intro i a b
              simp [b]
            rw [e3] at this
            exact this
        · rintro i ws H5 hi ⟨rfl, rfl⟩
          have ei : qs[i]? = some qs[i] := List.getElem?_eq_getElem hi
          have hd5 : (upd (upd H3 d (.lst qs)) D2 (.lst ((js.take i).map fun j => ys.getD j .non))) d = some (.lst qs) := by rw [upd_ne dD2, upd_same]
          refine ⟨⟨_, _, SqL.of hd5, ei⟩, ?_⟩
          rintro y H6 ⟨rfl, yy⟩ σo ho
          obtain ⟨o, o', rfl⟩ := own2 ho
          have ey := yy _ (SqL.of hd5)
          rw [ei] at ey
          have ey := (Option.some.inj ey).symm
          have hij : i < js.length := by omega
          obtain ⟨q', r', e, hq'⟩ := paired_get pqj i hi hij
          rw [e] at ey
          subst ey
          have hj := hjm js[i] (List.getElem_mem hij)
          have ey : ys[js[i]]? = some ys[js[i]] := List.getElem?_eq_getElem (by omega)
          refine ⟨q', _, rfl, SqT.of (s5 _ q' _ hq'), rfl, _, _, rfl, _, _, rfl, rfl, ⟨[_, _], rfl, rfl⟩, yes_by ⟨_, rfl, _, rfl, rl, ys, _, _, rfl, rfl, SqL.of (s5 _ rl _ hf3), atI_nat ey, by rw [List.length_map, List.length_take]; omega, upd_same, less_by hi ⟨?_, by rw [upd_upd]⟩⟩⟩
          rw [List.take_succ, List.getElem?_eq_getElem hij, List.map_append]
          congr 1
          show [ys[js[i]]] = [ys.getD js[i] .non]
          rw [List.getD_eq_getElem?_getD, ey]
          rfl
      · rintro i zs H3 hi ⟨pz, hD3, hf3, dl3, o3, p3⟩
        refine ⟨hi, ?_⟩
        rintro x H4 ⟨rfl, rfl⟩ σo ho
        obtain ⟨o, rfl⟩ := own1 ho
        have hzl : zs.length = i := by have := Paired.length pz; rwa [List.length_range] at this
        refine ⟨⟨[_], rfl, rfl⟩, yes_by ⟨_, rfl, p, 997, rfl, p3, by decide, by decide, fun r a4 b4 c4 l4 u4 => ⟨_, rfl, by show 2 ≤ sizeLine; decide, fun q hq => ?_⟩⟩⟩
        have qD : q ≠ Dd := by
          intro e
          rw [e, upd_ne pD.symm, hD3] at hq
          cases hq
        have qp : q ≠ p := fun e => by
          rw [e, upd_same] at hq
          cases hq
        rw [upd_ne qp] at hq
        have tu : ∀ o, Tups H4 (upd (upd (upd H4 p (.lst [.int a4, .int b4, .int c4])) q (.tup [.int r, .int (0 + (i : Int))])) Dd (.lst o)) := fun o c zs' e => by
          obtain ⟨a, b, cc, ep⟩ := p3
          rw [upd_ne (ne_of e hD3 (fun z => nomatch z)), upd_ne (ne_of_none e hq), upd_ne (ne_of e ep (fun z => nomatch z))]
          exact e
        refine ⟨by omega, by rw [upd_ne qD.symm, upd_ne pD.symm]; exact hD3, less_by hi ⟨?_, upd_same, ?_, dl3.mono (tu _), ?_, ?_⟩⟩
        · rw [List.range_succ]
          have key : ∀ {as : List V} {bs : List Nat} {y : V} {j : Nat} {F : V → Nat → Prop}, Paired F as bs → F y j → Paired F (as ++ [y]) (bs ++ [j]) := by
            intro as bs y j F h hy
            induction h with
            | nil => exact .cons hy .nil
            | cons a _ ih => exact .cons a ih
          refine key (Paired.mapP pz fun y j ⟨q', r', e, hq'⟩ => ⟨q', r', e, tu _ q' _ hq'⟩) ⟨q, r, rfl, ?_⟩
          rw [upd_ne qD, upd_same]
          simp
        · rw [upd_ne fD, upd_ne (ne_of_none hf3 hq), upd_ne fp2]
          exact hf3
        · intro b o hb e
          rw [upd_ne (ne_of_none e hDH), upd_ne (fun z => by rw [← z] at hq; rw [o3 b o hb e] at hq; cases hq), upd_ne hb]
          exact o3 b o hb e
        · exact (Pu.upd.upd_ne qp.symm).upd_ne pD
end
end K10
end
section
set_option autoImplicit false
namespace K10
open PySem PyProof.Rows L2
theorem Dp.of_row6 {H : Hp} {r : Row} {v : V} (d : Dp H (trow r) v) : ∃ (q e o f : Addr) (vd : V), v = .ref q ∧ H q = some (.tup [.str r.kind, .ref e, .ref o, .ref f, vd, .int r.num]) ∧ H e = some (.tup (r.elders.map V.str)) ∧ H o = some (.tup (r.order.map V.str)) ∧ H f = some (.tup (r.fields.map V.str)) ∧ Dp H (.tup (r.deeds.map deedT)) vd := by
  obtain ⟨q, xs, rfl, hq, dl⟩ := L2.Dp.of_tup d
  obtain ⟨x1, r1, rfl, d1, dl⟩ := DpL.cases dl
  obtain ⟨x2, r2, rfl, d2, dl⟩ := DpL.cases dl
  obtain ⟨x3, r3, rfl, d3, dl⟩ := DpL.cases dl
  obtain ⟨x4, r4, rfl, d4, dl⟩ := DpL.cases dl
  obtain ⟨x5, r5, rfl, d5, dl⟩ := DpL.cases dl
  obtain ⟨x6, r6, rfl, d6, dl⟩ := DpL.cases dl
  have e1 : x1 = .str r.kind := d1.of_str
  have e6 : x6 = .int r.num := by rw [Dp] at d6; exact d6
  have e7 : r6 = [] := by
    cases r6 with
    | nil => rfl
    | cons _ _ => have := dl.length; cases this
  obtain ⟨a2, y2, rfl, h2, l2⟩ := L2.Dp.of_tup d2
  obtain ⟨a3, y3, rfl, h3, l3⟩ := L2.Dp.of_tup d3
  obtain ⟨a4, y4, rfl, h4, l4⟩ := L2.Dp.of_tup d4
  rw [DpL.of_strs l2] at h2
  rw [DpL.of_strs l3] at h3
  rw [DpL.of_strs l4] at h4
  subst e1 e6 e7
  exact ⟨q, a2, a3, a4, x5, rfl, hq, h2, h3, h4, d5⟩
def ren (kvs : List (Key × V)) (x : Str) : Str := match valV kvs (.inr x) with
  | some (.str y) => y
  | _ => ""
theorem ren_of {kvs : List (Key × V)} {x y : Str} (h : valV kvs (.inr x) = some (.str y)) : ren kvs x = y := by
  unfold ren
  rw [h]
section
variable {P : Program} {w : World} {K : PySem.W.Frag} {mg : Str → Option Value} {base : Heap} {t : Adr}
def spCalled : Sp := fun vs H Q _ => ∃ (vo vt : V) (to tt : List Row), vs = [vo, vt] ∧ Dp H (tabT to) vo ∧ Dp H (tabT tt) vt ∧ GoodTb to ∧ GoodTb tt ∧ to.length = tt.length ∧
  ∀ (v : V) (tb : List Row) H', Dp H' (tabT tb) v → GoodTb tb → tb.length = tt.length → Same H H' → Q v H'
theorem ok_called (D : Defs K mg t) : FnOk P w K mg base CX0 1 t._law_called.1 t._law_called.2 ["_law_other", "_law_table_here"] spCalled := by
  have hz : sizeLine = 16777216 := sizeLine_eq
  refine D._law_called.fn.ok sc__law_called (fun vs H Q E h => ?_) (fun cdv A outer s H vs Q E hr h => ?_)
  · obtain ⟨vo, vt, to, tt, rfl, _⟩ := h
    rfl
  · obtain ⟨vo, vt, to, tt, rfl, dvo, dvt, Go, Gt, hlen, k⟩ := h
    obtain ⟨ao, xo, rfl, hao, dlo⟩ := L2.Dp.of_tup dvo
    obtain ⟨at', xt, rfl, hat, dlt⟩ := L2.Dp.of_tup dvt
    have hxo : xo.length = to.length := by have := dlo.length; rwa [List.length_map] at this
    have hxt : xt.length = tt.length := by have := dlt.length; rwa [List.length_map] at this
    have h7 := Gt.len
    have rowO : ∀ {j : Nat} (hj : j < to.length), ∃ (q e o f : Addr) (vd : V), xo[j]? = some (.ref q) ∧ H q = some (.tup [.str to[j].kind, .ref e, .ref o, .ref f, vd, .int to[j].num]) ∧ H e = some (.tup (to[j].elders.map V.str)) ∧ H o = some (.tup (to[j].order.map V.str)) ∧ H f = some (.tup (to[j].fields.map V.str)) ∧ Dp H (.tup (to[j].deeds.map deedT)) vd := fun {j} hj => by
      obtain ⟨y, ey, dy⟩ := dlo.get (i := j) (t := trow to[j]) (by rw [List.getElem?_map, List.getElem?_eq_getElem hj]; rfl)
      obtain ⟨q, e, o, f, vd, rfl, h⟩ := K10.Dp.of_row6 dy
      exact ⟨q, e, o, f, vd, ey, h⟩
    have rowT' : ∀ {j : Nat} (hj : j < tt.length), ∃ (q e o f : Addr) (vd : V), xt[j]? = some (.ref q) ∧ H q = some (.tup [.str tt[j].kind, .ref e, .ref o, .ref f, vd, .int tt[j].num]) := fun {j} hj => by
      obtain ⟨y, ey, dy⟩ := dlt.get (i := j) (t := trow tt[j]) (by rw [List.getElem?_map, List.getElem?_eq_getElem hj]; rfl)
      obtain ⟨q, e, o, f, vd, rfl, h, _⟩ := K10.Dp.of_row6 dy
      exact ⟨q, e, o, f, vd, ey, h⟩
    refine ⟨_, (pss_cons (ps_set (i := 2) sc__law_called.nd rfl (Or.inr rfl) pe_dnewK)
      (pss_cons (ps_for PassesOwn.never rfl (pi_range1 rfl D.b_range (pa_cons (pe_callB call_len_seq (by rfl) D.b_len bt_len (pa_cons (pv 1) pa_nil)) pa_nil)) (pg_name (i := 3) sc__law_called.nd rfl (Or.inl rfl))
      (pss_one (ps_dput (hu_of hr) (pv 2) (pe_ix ix_tup (pe_ix ix_tup (pv 0) (pv 3) (fun _ _ => rfl)) pe_int (fun _ _ => rfl)) (pe_ix ix_tup (pe_ix ix_tup (pv 1) (pv 3) (fun _ _ => rfl)) pe_int (fun _ _ => rfl)) rfl)))
      (pss_cons (ps_set (i := 4) sc__law_called.nd rfl (Or.inl rfl) (pe_lst pa_nil))
      (pss_cons (ps_for PassesOwn.never rfl (pi_enumS (K := K) rfl rfl D.b_enumerate (pa_cons (pv 0) pa_nil)) (pg_tup rfl (pgs_cons (pg_name (i := 3) sc__law_called.nd rfl (Or.inl rfl)) (pgs_cons (pg_name (i := 5) sc__law_called.nd rfl (Or.inl rfl)) pgs_nil)))
      (pss_cons (ps_set (i := 6) sc__law_called.nd rfl (Or.inl rfl) (pe_callTy call_tuple_of (by rfl) D.b_tuple bt_tuple (pa_cons (pe_comp rfl (CompScope.of ["_law_one"] [2] ["_law_one", "_law_names_here"] (defScope (top 29)) ["_law_other", "_law_table_here", "_law_names_here", "_law_k", "_law_rows", "_law_row", "_law_elders_here", "_law_order"] rfl rfl (by decide +kernel)) ⟨fun _ _ _ _ _ => (pg_name (i := 0) (show List.Nodup [("_law_one" : Str), ("_law_names_here" : Str)] by decide +kernel) rfl (Or.inl (lookup_relabel_local rfl)) (.inr (lookup_relabel_local rfl))), fun _ _ _ _ _ => pts_nil, fun _ _ _ _ _ => (pe_dget (hu_of hr) (pv 1) (pv 0) (fun _ _ => rfl))⟩ (pi_tup (pe_ix ix_tup (pv 5) pe_int (fun _ _ => rfl)))) pa_nil)))
      (pss_cons (ps_set (i := 7) sc__law_called.nd rfl (Or.inl rfl) (pe_callTy call_tuple_of (by rfl) D.b_tuple bt_tuple (pa_cons (pe_comp rfl (CompScope.of ["_law_one"] [2] ["_law_one", "_law_names_here"] (defScope (top 29)) ["_law_other", "_law_table_here", "_law_names_here", "_law_k", "_law_rows", "_law_row", "_law_elders_here", "_law_order"] rfl rfl (by decide +kernel)) ⟨fun _ _ _ _ _ => (pg_name (i := 0) (show List.Nodup [("_law_one" : Str), ("_law_names_here" : Str)] by decide +kernel) rfl (Or.inl (lookup_relabel_local rfl)) (.inr (lookup_relabel_local rfl))), fun _ _ _ _ _ => pts_nil, fun _ _ _ _ _ => (pe_dget (hu_of hr) (pv 1) (pv 0) (fun _ _ => rfl))⟩ (pi_tup (pe_ix ix_tup (pv 5) pe_int (fun _ _ => rfl)))) pa_nil)))
      (pss_one (ps_expr (pe_bm PySem.F.plainAttrs_list PySem.F.slot_list_append PySem.F.type_list_append mt_append (pv 4) (pa_cons (pe_tup (pa_cons (pe_dget (hu_of hr) (pv 2) (pe_ix ix_tup (pv 5) pe_int (fun _ _ => rfl)) (fun _ _ => rfl)) (pa_cons (pv 6) (pa_cons (pv 7) (pa_cons (pe_ix ix_tup (pv 5) pe_int (fun _ _ => rfl)) (pa_cons (pe_ix ix_tup (pv 5) pe_int (fun _ _ => rfl)) (pa_cons (pe_ix ix_tup (pe_ix ix_tup (pv 1) (pv 3) (fun _ _ => rfl)) pe_int (fun _ _ => rfl)) pa_nil))))))) pa_nil)))))))
      (pss_one (ps_ret (pe_callTy call_tuple_of (by rfl) D.b_tuple bt_tuple (pa_cons (pv 4) pa_nil)))))))), ?_⟩
    intro nd hnd
    have s0 : ∀ u, Same H (upd H nd u) := fun u => Same.new hnd
    refine ⟨_, rfl, at', _, rfl, .inr (SqT.of (s0 _ at' _ hat)), _, rfl, by omega, by rw [hxt]; omega, ?_⟩
    refine for_range (lo := 0) (n := ((xt.length : Nat) : Int).toNat) (fun i σ H2 => ∃ (v3 : Option V) (kvs : List (Key × V)), σ = [some (.ref ao), some (.ref at'), some (.ref nd), v3, none, none, none, none] ∧ H2 = upd H nd (.dK kvs) ∧ kvs.length ≤ i ∧ ∀ j (h1 : j < to.length) (h2 : j < tt.length), j < i → valV kvs (.inr to[j].kind) = some (.str tt[j].kind))
      ⟨_, [], rfl, rfl, Nat.zero_le _, fun j _ _ h => absurd h (Nat.not_lt_zero _)⟩ ?_ ?_
    · rintro i σ H2 hi ⟨v3, kvs, rfl, rfl, hkl, hkv⟩
      have hit : i < tt.length := by omega
      have hio : i < to.length := by omega
      obtain ⟨q, e, o, f, vd, ei, hq, _⟩ := rowO hio
      obtain ⟨q2, e2, o2, f2, vd2, ei2, hq2⟩ := rowT' hit
      have s2 := s0 (.dK kvs)
      have ez : (0 : Int) + (i : Int) = (i : Int) := by omega
      refine ⟨_, rfl, _, rfl, at', _, _, _, rfl, rfl, SqT.of (s2 at' _ hat), by rw [ez]; exact atI_nat ei2, q2, _, _, _, rfl, rfl, SqT.of (s2 q2 _ hq2), atI_nat (j := 0) rfl, ?_⟩
      refine ⟨_, rfl, _, rfl, _, rfl, ao, _, _, _, rfl, rfl, SqT.of (s2 ao _ hao), by rw [ez]; exact atI_nat ei, q, _, _, _, rfl, rfl, SqT.of (s2 q _ hq), atI_nat (j := 0) rfl, nd, _, rfl, DPut.k (k := .inr to[i].kind) upd_same (by omega), ?_⟩
      rw [upd_upd]
      refine ⟨_, _, rfl, rfl, Nat.le_trans (length_putK _ _ _) (by omega), fun j h1 h2 hj => ?_⟩
      rw [valV_put]
      rcases Nat.lt_or_ge j i with h | h
      · rw [if_neg (fun z => by
          injection z with z
          have nd' := Go.nd
          unfold kns at nd'
          have := (List.pairwise_iff_getElem.mp nd') j i (by rw [List.length_map]; exact h1) (by rw [List.length_map]; exact hio) h
          rw [List.getElem_map, List.getElem_map] at this
          exact this z)]
        exact hkv j h1 h2 h
      · have e : j = i := by omega
        subst e
        rw [if_pos rfl]
    · rintro σ H2 ⟨v3, kvs, rfl, rfl, hkl, hkv⟩
      have hkl : kvs.length ≤ 7 := by omega
      have hkv : ∀ j (h1 : j < to.length) (h2 : j < tt.length), valV kvs (.inr to[j].kind) = some (.str tt[j].kind) := fun j h1 h2 => hkv j h1 h2 (by omega)
      have hren : ∀ x ∈ kns to, valV kvs (.inr x) = some (.str (ren kvs x)) ∧ ren kvs x ∈ kns tt := fun x hx => by
        obtain ⟨r, hr', e⟩ := List.mem_map.mp hx
        obtain ⟨j, hj, rfl⟩ := List.getElem_of_mem hr'
        have e : to[j].kind = x := e
        have h := hkv j hj (by omega)
        rw [e] at h
        rw [ren_of h]
        exact ⟨h, List.mem_map.mpr ⟨_, List.getElem_mem (by omega), rfl⟩⟩
      have s2 := s0 (.dK kvs)
      have hnd2 : (upd H nd (.dK kvs)) nd = some (.dK kvs) := upd_same
      generalize upd H nd (.dK kvs) = H2 at s2 hnd2
      refine ⟨Nat.zero_le _, fun rl hrl => ?_⟩
      have s3 : ∀ u, Same H2 (upd H2 rl u) := fun u => Same.new hrl
      have ha3 := (s3 (.lst [])) ao _ (s2 ao _ hao)
      refine ⟨_, rfl, ao, rfl, .inr ⟨xo, SqT.of ha3, for_enumT (K := K) (a := ao) (xs := xo) (fun i σ H4 => ∃ (rs : List Row) (ys : List V) (v3 v5 v6 v7 : Option V), σ = [some (.ref ao), some (.ref at'), some (.ref nd), v3, some (.ref rl), v5, v6, v7] ∧ kns rs = (kns tt).take i ∧ (∀ r ∈ rs, RowOk (kns tt) r) ∧ H4 rl = some (.lst ys) ∧ DpL H4 (rs.map trow) ys ∧ Same H2 H4)
        ⟨[], [], _, _, _, _, rfl, rfl, by simp, upd_same, .nil, s3 _⟩ (fun i σ H4 _ ⟨_, _, _, _, _, _, _, _, _, _, _, e⟩ => SqT.of (e ao _ (s2 ao _ hao))) ?_ ?_⟩⟩
      · rintro i x σ H4 q0 hi ⟨rs, ys, v3, v5, v6, v7, rfl, hrn, hrs, hrl4, dl4, s4⟩ hq0
        have hio : i < to.length := by
          have := (List.getElem?_eq_some_iff.mp hi).1
          omega
        have hit : i < tt.length := by omega
        obtain ⟨q, e, o, f, vd, ei, hq, he, ho, hf, dvd⟩ := rowO hio
        obtain ⟨q2, e2, o2, f2, vd2, ei2, hq2⟩ := rowT' hit
        rw [hi] at ei
        cases ei
        refine ⟨q0, _, rfl, SqT.of upd_same, rfl, _, _, rfl, _, _, rfl, rfl, ?_⟩
        have s5 : Same H4 (upd H4 q0 (.tup [.int i, .ref q])) := Same.new hq0
        have sH : Same H (upd H4 q0 (.tup [.int i, .ref q])) := s2.trans (s4.trans s5)
        have hnd5 := s5 nd _ (s4 nd _ hnd2)
        have hrl5 := s5 rl _ hrl4
        have dl5 := dl4.mono (Same.tups s5)
        have sH2 := s4.trans s5
        clear s5
        generalize upd H4 q0 (.tup [.int i, .ref q]) = H5 at sH hnd5 hrl5 dl5 sH2
        have hro : to[i] ∈ to := List.getElem_mem hio
        have in_elders := (Go.es _ hro).1
        have len_elders := (Go.es _ hro).2
        have in_order := Go.ord _ hro
        have len_order := Go.ol _ hro
        refine ⟨_, rfl, q, _, _, _, rfl, rfl, SqT.of (sH q _ hq), atI_nat (j := 1) rfl, e, rfl, ⟨_, SqT.of (sH e _ he)⟩, fun D1 hD1 => ?_⟩
        have sd : ∀ u, Same H5 (upd H5 D1 u) := fun u => Same.new hD1
        refine comp_by (n := (to[i].elders.map V.str).length) (fun j ys H6 => ys = ((to[i].elders.take j).map (ren kvs)).map V.str ∧ H6 = upd H5 D1 (.lst ys)) ⟨rfl, rfl⟩ ?_ ?_
        rotate_left
        · rintro j ys' H6 hj ⟨rfl, rfl⟩
          have hj' : j < to[i].elders.length := by rw [List.length_map] at hj; exact hj
          have ej : (to[i].elders.map V.str)[j]? = some (.str to[i].elders[j]) := by rw [List.getElem?_map, List.getElem?_eq_getElem hj']; rfl
          have hx := hren _ (in_elders _ (List.getElem_mem hj'))
          refine ⟨⟨_, _, SqT.of (sd _ e _ (sH e _ he)), ej⟩, ?_⟩
          rintro y H7 ⟨rfl, yy⟩ σo hown
          obtain ⟨oo, rfl⟩ := own1 hown
          have ey := yy _ (SqT.of (sd _ e _ (sH e _ he)))
          rw [ej] at ey
          cases ey
          refine ⟨⟨[_], rfl, rfl⟩, yes_by ⟨_, rfl, _, rfl, nd, .str (ren kvs to[i].elders[j]), rfl, .inl ⟨kvs, .inr to[i].elders[j], .inl (sd _ nd _ hnd5), rfl, hx.1.symm⟩, by rw [List.length_map, List.length_map, List.length_take]; omega, upd_same, less_by hj ⟨?_, by rw [upd_upd]⟩⟩⟩
          rw [take_snoc hj', List.map_append, List.map_append]
          rfl
        rintro ys' H6 ⟨rfl, rfl⟩
        rw [List.length_map, List.take_of_length_le (Nat.le_refl _)]
        refine ⟨⟨_, SqT.of (sd _ e _ (sH e _ he)), by rw [List.length_map]; exact Nat.le_refl _⟩, D1, _, rfl, .inl ⟨SqL.of upd_same, fun qe hqe => ?_⟩⟩
        have st := (sd (.lst ((to[i].elders.map (ren kvs)).map V.str))).trans (Same.new (o := .tup ((to[i].elders.map (ren kvs)).map V.str)) hqe)
        have hqe : (upd (upd H5 D1 (.lst ((to[i].elders.map (ren kvs)).map V.str))) qe (.tup ((to[i].elders.map (ren kvs)).map V.str))) qe = some (.tup ((to[i].elders.map (ren kvs)).map V.str)) := upd_same
        clear sd
        generalize upd (upd H5 D1 (.lst ((to[i].elders.map (ren kvs)).map V.str))) qe (.tup ((to[i].elders.map (ren kvs)).map V.str)) = H8 at st hqe
        replace sH := sH.trans st
        replace hnd5 := st nd _ hnd5
        replace hrl5 := st rl _ hrl5
        replace dl5 := dl5.mono (Same.tups st)
        replace sH2 := sH2.trans st
        clear st
        refine ⟨_, rfl, q, _, _, _, rfl, rfl, SqT.of (sH q _ hq), atI_nat (j := 2) rfl, o, rfl, ⟨_, SqT.of (sH o _ ho)⟩, fun D2 hD2 => ?_⟩
        have sd : ∀ u, Same H8 (upd H8 D2 u) := fun u => Same.new hD2
        refine comp_by (n := (to[i].order.map V.str).length) (fun j ys H6 => ys = ((to[i].order.take j).map (ren kvs)).map V.str ∧ H6 = upd H8 D2 (.lst ys)) ⟨rfl, rfl⟩ ?_ ?_
        rotate_left
        · rintro j ys' H6 hj ⟨rfl, rfl⟩
          have hj' : j < to[i].order.length := by rw [List.length_map] at hj; exact hj
          have ej : (to[i].order.map V.str)[j]? = some (.str to[i].order[j]) := by rw [List.getElem?_map, List.getElem?_eq_getElem hj']; rfl
          have hx := hren _ (in_order _ (List.getElem_mem hj'))
          refine ⟨⟨_, _, SqT.of (sd _ o _ (sH o _ ho)), ej⟩, ?_⟩
          rintro y H7 ⟨rfl, yy⟩ σo hown
          obtain ⟨oo, rfl⟩ := own1 hown
          have ey := yy _ (SqT.of (sd _ o _ (sH o _ ho)))
          rw [ej] at ey
          cases ey
          refine ⟨⟨[_], rfl, rfl⟩, yes_by ⟨_, rfl, _, rfl, nd, .str (ren kvs to[i].order[j]), rfl, .inl ⟨kvs, .inr to[i].order[j], .inl (sd _ nd _ hnd5), rfl, hx.1.symm⟩, by rw [List.length_map, List.length_map, List.length_take]; omega, upd_same, less_by hj ⟨?_, by rw [upd_upd]⟩⟩⟩
          rw [take_snoc hj', List.map_append, List.map_append]
          rfl
        rintro ys' H6 ⟨rfl, rfl⟩
        rw [List.length_map, List.take_of_length_le (Nat.le_refl _)]
        refine ⟨⟨_, SqT.of (sd _ o _ (sH o _ ho)), by rw [List.length_map]; exact Nat.le_refl _⟩, D2, _, rfl, .inl ⟨SqL.of upd_same, fun qo hqo => ?_⟩⟩
        have st := (sd (.lst ((to[i].order.map (ren kvs)).map V.str))).trans (Same.new (o := .tup ((to[i].order.map (ren kvs)).map V.str)) hqo)
        have hqo : (upd (upd H8 D2 (.lst ((to[i].order.map (ren kvs)).map V.str))) qo (.tup ((to[i].order.map (ren kvs)).map V.str))) qo = some (.tup ((to[i].order.map (ren kvs)).map V.str)) := upd_same
        clear sd
        generalize upd (upd H8 D2 (.lst ((to[i].order.map (ren kvs)).map V.str))) qo (.tup ((to[i].order.map (ren kvs)).map V.str)) = H9 at st hqo
        replace sH := sH.trans st
        replace hnd5 := st nd _ hnd5
        replace hrl5 := st rl _ hrl5
        replace dl5 := dl5.mono (Same.tups st)
        replace sH2 := sH2.trans st
        replace hqe := st qe _ hqe
        clear st
        have hqq := sH q _ hq
        have hyl : ys.length = i := by
          have e1 := dl5.length
          rw [List.length_map] at e1
          have e2 := congrArg List.length hrn
          unfold kns at e2
          rw [List.length_map, List.length_take, List.length_map] at e2
          omega
        refine ⟨_, rfl, .inl ⟨rfl, _, SqL.of hrl5⟩, _, rfl, _, rfl, q, _, _, _, rfl, rfl, SqT.of hqq, atI_nat (j := 0) rfl, nd, .str tt[i].kind, rfl, .inl ⟨kvs, .inr to[i].kind, .inl hnd5, rfl, (hkv i hio hit).symm⟩, ?_⟩
        refine ⟨_, rfl, _, rfl, _, rfl, q, _, _, _, rfl, rfl, SqT.of hqq, atI_nat (j := 3) rfl, _, rfl, q, _, _, _, rfl, rfl, SqT.of hqq, atI_nat (j := 4) rfl, ?_⟩
        refine ⟨_, rfl, _, rfl, at', _, _, _, rfl, rfl, SqT.of (sH at' _ hat), atI_nat ei2, q2, _, _, _, rfl, rfl, SqT.of (sH q2 _ hq2), atI_nat (j := 5) rfl, by show 6 ≤ sizeLine; decide, fun qr hqr => ?_⟩
        have qrr : rl ≠ qr := ne_of_none hrl5 hqr
        refine ⟨rl, ys, .ref qr, rfl, rfl, by rw [upd_ne qrr]; exact hrl5, by omega, ?_⟩
        have tu : Tups H9 (upd (upd H9 qr (.tup [.str tt[i].kind, .ref qe, .ref qo, .ref f, vd, .int tt[i].num])) rl (.lst (ys ++ [.ref qr]))) := fun c zs e => by
          rw [upd_ne (ne_of e hrl5 (fun z => nomatch z)), upd_ne (ne_of_none e hqr)]
          exact e
        refine ⟨rs ++ [⟨tt[i].kind, to[i].elders.map (ren kvs), to[i].order.map (ren kvs), to[i].fields, to[i].deeds, tt[i].num⟩], ys ++ [.ref qr], _, _, _, _, rfl, ?_, ?_, upd_same, ?_, ?_⟩
        · have hkl : i < (kns tt).length := by unfold kns; rw [List.length_map]; exact hit
          have ek : (kns tt)[i] = tt[i].kind := List.getElem_map _
          rw [take_snoc hkl, ← hrn, ek]
          unfold kns
          rw [List.map_append]
          rfl
        · intro r hr'
          rcases List.mem_append.mp hr' with h | h
          · exact hrs r h
          · rw [List.mem_singleton.mp h]
            refine ⟨fun x hx => ?_, by show (to[i].order.map _).length ≤ 8; rw [List.length_map]; exact len_order, (show to[i].fields.length ≤ 7 from Go.fl _ hro), fun x hx => ?_, by show (to[i].elders.map _).length ≤ 7; rw [List.length_map]; exact len_elders, (show tt[i].kind.length ≤ 100 from Gt.kl _ (List.getElem_mem hit))⟩
            · obtain ⟨y, hy, rfl⟩ := List.mem_map.mp hx
              exact (hren y (in_order y hy)).2
            · obtain ⟨y, hy, rfl⟩ := List.mem_map.mp hx
              exact (hren y (in_elders y hy)).2
        · rw [List.map_append]
          refine (dl5.mono tu).append (.cons (K10.Dp.row6 (e := qe) (o := qo) (f := f) ?_ (tu qe _ hqe) (tu qo _ hqo) (tu f _ (sH f _ hf)) (dvd.mono ((Same.tups sH).trans tu))) .nil)
          rw [upd_ne qrr.symm, upd_same]
        · intro b u e
          rw [upd_ne (fun z => by rw [z] at e; rw [e] at hrl; cases hrl), upd_ne (ne_of_none (sH2 b u e) hqr)]
          exact sH2 b u e
      · rintro σ H4 ⟨rs, ys, v3, v5, v6, v7, rfl, hrn, hrs, hrl4, dl4, s4⟩
        have hrn : kns rs = kns tt := by rw [hrn, hxo, List.take_of_length_le (by unfold kns; rw [List.length_map]; omega)]
        have hrl' : rs.length = tt.length := by
          have := congrArg List.length hrn
          unfold kns at this
          rwa [List.length_map, List.length_map] at this
        refine ⟨_, rfl, rl, _, rfl, .inl ⟨SqL.of hrl4, fun q hq => ?_⟩⟩
        refine k (.ref q) rs _ (L2.Dp.tup upd_same (dl4.mono (Same.tups (Same.new hq)))) ⟨by rw [hrn]; exact Gt.nd, by omega, fun r hr x hx => by rw [hrn]; exact (hrs r hr).1 x hx, fun r hr => (hrs r hr).2.1, fun r hr => (hrs r hr).2.2.1, fun r hr => (hrs r hr).2.2.2.2.2, fun r hr => ⟨fun x hx => by rw [hrn]; exact (hrs r hr).2.2.2.1 x hx, (hrs r hr).2.2.2.2.1⟩⟩ hrl' (s2.trans (s4.trans (Same.new hq)))
end
end K10
end
section
set_option autoImplicit false
namespace K10
open PySem PyProof.Rows L2
theorem Dp.of_deed {H : Hp} {d : Str × Int} {v : V} (h : Dp H (deedT d) v) : ∃ q, v = .ref q ∧ H q = some (.tup [.str d.1, .int d.2]) := by
  obtain ⟨q, xs, rfl, hq, dl⟩ := L2.Dp.of_tup h
  obtain ⟨x1, r1, rfl, d1, dl⟩ := DpL.cases dl
  obtain ⟨x2, r2, rfl, d2, dl⟩ := DpL.cases dl
  have e1 : x1 = .str d.1 := d1.of_str
  have e2 : x2 = .int d.2 := by rw [Dp] at d2; exact d2
  have e3 : r2 = [] := by
    cases r2 with
    | nil => rfl
    | cons _ _ => have := dl.length; cases this
  subst e1 e2 e3
  exact ⟨q, rfl, hq⟩
def bodyOf (ds : List (Str × Int)) (d : Str) : Option Int := (ds.find? fun x => decide (x.1 = d)).map (·.2)
def optI : Option Int → V
  | none => .non
  | some n => .int n
theorem bodyOf_at {ds : List (Str × Int)} {d : Str} {i : Nat} (hi : i < ds.length) (h0 : ∀ x ∈ ds.take i, ¬ x.1 = d) (h : ds[i].1 = d) : bodyOf ds d = some ds[i].2 := by
  unfold bodyOf
  have e : ds = ds.take i ++ ds[i] :: ds.drop (i + 1) := by rw [← List.drop_eq_getElem_cons hi, List.take_append_drop]
  have hf : (ds.take i).find? (fun x => decide (x.1 = d)) = none := List.find?_eq_none.mpr fun x hx => by rw [decide_eq_true_eq]; exact h0 x hx
  have : ds.find? (fun x => decide (x.1 = d)) = some ds[i] := by
    conv => lhs; rw [e]
    rw [List.find?_append, hf, List.find?_cons, decide_eq_true h]
    rfl
  rw [this]
  rfl
theorem bodyOf_none {ds : List (Str × Int)} {d : Str} (h0 : ∀ x ∈ ds, ¬ x.1 = d) : bodyOf ds d = none := by
  unfold bodyOf
  rw [List.find?_eq_none.mpr fun x hx => by rw [decide_eq_true_eq]; exact h0 x hx]
  rfl
def rowOf (tb : List Row) (x : Str) : Option Row := tb.find? fun r => decide (r.kind = x)
theorem rowOf_in : ∀ {tb : List Row} {r : Row}, (kns tb).Nodup → r ∈ tb → rowOf tb r.kind = some r
  | [], _, _, h => by cases h
  | y :: tb, r, nd, h => by
    obtain ⟨n1, n2⟩ := List.nodup_cons.mp nd
    unfold rowOf
    rw [List.find?_cons]
    by_cases e : y.kind = r.kind
    · rw [decide_eq_true e]
      rcases List.mem_cons.mp h with h | h
      · rw [h]
      · exact absurd (List.mem_map.mpr ⟨r, h, e.symm⟩) n1
    · rw [decide_eq_false e]
      rcases List.mem_cons.mp h with h | h
      · exact absurd (by rw [h]) e
      · exact rowOf_in n2 h
def lookF (tb : List Row) (d : Str) : List Str → Option (Str × Int)
  | [] => none
  | x :: ks => match (rowOf tb x).bind fun r => bodyOf r.deeds d with
    | some n => some (x, n)
    | none => lookF tb d ks
theorem lookF_yes {tb : List Row} {d : Str} {r : Row} {ks : List Str} {n : Int} (nd : (kns tb).Nodup) (hr : r ∈ tb) (h : bodyOf r.deeds d = some n) : lookF tb d (r.kind :: ks) = some (r.kind, n) := by
  unfold lookF
  rw [rowOf_in nd hr]
  show (match bodyOf r.deeds d with | some n => some (r.kind, n) | none => lookF tb d ks) = _
  rw [h]
theorem lookF_no {tb : List Row} {d : Str} {r : Row} {ks : List Str} (nd : (kns tb).Nodup) (hr : r ∈ tb) (h : bodyOf r.deeds d = none) : lookF tb d (r.kind :: ks) = lookF tb d ks := by
  conv => lhs; unfold lookF
  rw [rowOf_in nd hr]
  show (match bodyOf r.deeds d with | some n => some (r.kind, n) | none => lookF tb d ks) = _
  rw [h]
def ResL (H : Hp) (o : Option (Str × Int)) (v : V) : Prop := match o with
  | none => v = .non
  | some (x, n) => ∃ q, v = .ref q ∧ H q = some (.tup [.str x, .int n])
theorem ResL.mono {H H' : Hp} {o : Option (Str × Int)} {v : V} (h : ResL H o v) (s : Tups H H') : ResL H' o v := by
  cases o with
  | none => exact h
  | some p =>
    obtain ⟨q, e, hq⟩ := h
    exact ⟨q, e, s q _ hq⟩
def after (x : Str) : List Str → List Str
  | [] => []
  | y :: ks => if y = x then ks else after x ks
theorem after_at {x : Str} : ∀ {ks : List Str} {j : Nat}, ks[j]? = some x → (∀ m, m < j → ks[m]? ≠ some x) → after x ks = ks.drop (j + 1)
  | [], _, h, _ => by simp at h
  | y :: ks, 0, h, _ => by
    have e : y = x := by simpa using h
    unfold after
    rw [if_pos e]
    rfl
  | y :: ks, j + 1, h, h0 => by
    have n : ¬ y = x := fun e => h0 0 (Nat.succ_pos _) (by simp [e])
    unfold after
    rw [if_neg n, after_at (by simpa using h) fun m hm => by have := h0 (m + 1) (Nat.succ_lt_succ hm); simpa using this]
    rfl
theorem after_no {x : Str} : ∀ {ks : List Str}, ¬ x ∈ ks → after x ks = []
  | [], _ => rfl
  | y :: ks, h => by
    unfold after
    rw [if_neg (fun e => h (by rw [e]; exact List.mem_cons_self)), after_no fun e => h (List.mem_cons_of_mem _ e)]
theorem first_at {x : Str} : ∀ {ks : List Str}, x ∈ ks → ∃ j : Nat, ks[j]? = some x ∧ ∀ m, m < j → ks[m]? ≠ some x
  | [], h => by cases h
  | y :: ks, h => by
    by_cases e : y = x
    · exact ⟨0, by simp [e], fun m hm => absurd hm (Nat.not_lt_zero _)⟩
    · have h' : x ∈ ks := by
        rcases List.mem_cons.mp h with h | h
        · exact absurd h.symm e
        · exact h
      obtain ⟨j, h1, h2⟩ := first_at h'
      refine ⟨j + 1, by simpa using h1, fun m hm => ?_⟩
      cases m with
      | zero => simpa using e
      | succ m => simpa using h2 m (Nat.lt_of_succ_lt_succ hm)
theorem after_sub {x y : Str} : ∀ {ks : List Str}, y ∈ after x ks → y ∈ ks
  | [], h => h
  | z :: ks, h => by
    unfold after at h
    by_cases e : z = x
    · rw [if_pos e] at h
      exact List.mem_cons_of_mem _ h
    · rw [if_neg e] at h
      exact List.mem_cons_of_mem _ (after_sub h)
section
variable {P : Program} {w : World} {K : PySem.W.Frag} {mg : Str → Option Value} {base : Heap} {t : Adr}
def spOwnBody : Sp := fun vs H Q _ => ∃ (v : V) (r : Row) (d : Str), vs = [v, .str d] ∧ Dp H (trow r) v ∧ Q (optI (bodyOf r.deeds d)) H
theorem ok_ownBody (D : Defs K mg t) : FnOk P w K mg base CX0 1 t.own_body.1 t.own_body.2 ["row", "deed"] spOwnBody := by
  refine D.own_body.fn.ok sc_own_body (fun vs H Q E h => ?_) (fun cdv A outer s H vs Q E hr h => ?_)
  · obtain ⟨v, r, d, rfl, _⟩ := h
    rfl
  · obtain ⟨v, r, d, rfl, dv, k⟩ := h
    obtain ⟨q, e, o, f, vd, rfl, hq, _, _, _, dvd⟩ := K10.Dp.of_row6 dv
    obtain ⟨ad, xs, rfl, had, dl⟩ := L2.Dp.of_tup dvd
    have hxl : xs.length = r.deeds.length := by have := dl.length; rwa [List.length_map] at this
    refine ⟨_, (pss_cons (ps_for PassesOwn.never rfl (pi_tup (pe_ix ix_tup (pv 0) pe_int (fun _ _ => rfl))) (pg_tup rfl (pgs_cons (pg_name (i := 2) sc_own_body.nd rfl (Or.inl rfl)) (pgs_cons (pg_name (i := 3) sc_own_body.nd rfl (Or.inl rfl)) pgs_nil)))
      (pss_one (ps_if (pt_cmpR op_eq (pv 2) (pv 1) (nomark _))
      (pss_one (ps_ret (pv 3)))
      pss_nil)))
      (pss_one (ps_ret pe_non))), ?_⟩
    refine ⟨_, rfl, q, _, _, _, rfl, rfl, SqT.of hq, atI_nat (j := 4) rfl, ad, rfl, ⟨_, SqT.of had⟩, ?_⟩
    refine for_tup (K := K) (a := ad) (xs := xs) (fun i σ H2 => ∃ (v2 v3 : Option V), σ = [some (.ref q), some (.str d), v2, v3] ∧ H2 = H ∧ ∀ x ∈ r.deeds.take i, ¬ x.1 = d)
      ⟨_, _, rfl, rfl, by simp⟩ (fun i σ H2 _ ⟨_, _, _, e, _⟩ => by rw [e]; exact SqT.of had) ?_ ?_
    · rintro i x σ H2 hi ⟨v2, v3, rfl, rfl, h0⟩
      have hid : i < r.deeds.length := by
        have := (List.getElem?_eq_some_iff.mp hi).1
        omega
      obtain ⟨y, ey, dy⟩ := dl.get (i := i) (t := deedT r.deeds[i]) (by rw [List.getElem?_map, List.getElem?_eq_getElem hid]; rfl)
      rw [hi] at ey
      cases ey
      obtain ⟨qd, rfl, hqd⟩ := K10.Dp.of_deed dy
      refine ⟨qd, _, rfl, SqT.of hqd, rfl, _, _, rfl, _, _, rfl, rfl, ?_⟩
      refine ⟨_, rfl, _, rfl, rfl, _, rfl, ite2 (fun hb => ?_) (fun hb => ?_)⟩
      · have hb : r.deeds[i].1 = d := by
          have := of_decide_eq_true hb
          injection this
        rw [bodyOf_at hid h0 hb] at k
        exact ⟨_, rfl, k⟩
      · have hb : ¬ r.deeds[i].1 = d := fun e => hb (decide_eq_true (by rw [e]))
        refine ⟨_, _, rfl, rfl, fun x hx => ?_⟩
        rw [take_snoc hid] at hx
        rcases List.mem_append.mp hx with h | h
        · exact h0 x h
        · rw [List.mem_singleton.mp h]
          exact hb
    · rintro σ H2 ⟨v2, v3, rfl, rfl, h0⟩
      rw [List.take_of_length_le (by omega)] at h0
      rw [bodyOf_none h0] at k
      exact k
def spLookA : Sp := fun vs H Q _ => ∃ (v : V) (q : Addr) (tb : List Row) (ks : List Str) (d : Str), vs = [v, .ref q, .str d] ∧ Dp H (tabT tb) v ∧ GoodTb tb ∧ H q = some (.tup (ks.map V.str)) ∧ (∀ x ∈ ks, x ∈ kns tb) ∧
  ∀ (u : V) H', ResL H' (lookF tb d ks) u → Same H H' → Q u H'
theorem ok_lookA (D : Defs K mg t) : FnOk P w K mg base CX0 4 t.look_along.1 t.look_along.2 ["table", "kinds", "deed"] spLookA := by
  have G_row_at : FnOk P w K mg base CX0 3 t.row_at.1 t.row_at.2 _ spRowAt := ok_rowAt D
  have G_own_body : FnOk P w K mg base CX0 1 t.own_body.1 t.own_body.2 _ spOwnBody := ok_ownBody D
  refine D.look_along.fn.ok sc_look_along (fun vs H Q E h => ?_) (fun cdv A outer s H vs Q E hr h => ?_)
  · obtain ⟨v, q, tb, ks, d, rfl, _⟩ := h
    rfl
  · obtain ⟨v, q, tb, ks, d, rfl, dv, G, hq, hsub, k⟩ := h
    refine ⟨_, (pss_cons (ps_for PassesOwn.never rfl (pi_tup (pv 1)) (pg_name (i := 3) sc_look_along.nd rfl (Or.inl rfl))
      (pss_cons (ps_set (i := 4) sc_look_along.nd rfl (Or.inl rfl) (pe_callF D.own_body G_own_body (hr.mono (by omega)) (by rfl) (pa_cons (pe_callF D.row_at G_row_at (hr.mono (by omega)) (by rfl) (pa_cons (pv 0) (pa_cons (pv 3) pa_nil))) (pa_cons (pv 2) pa_nil))))
      (pss_one (ps_if (pt_cmpR op_notN (pv 4) pe_non (nomark _))
      (pss_one (ps_ret (pe_tup (pa_cons (pv 3) (pa_cons (pv 4) pa_nil)))))
      pss_nil))))
      (pss_one (ps_ret pe_non))), ?_⟩
    refine ⟨_, rfl, q, rfl, ⟨_, SqT.of hq⟩, ?_⟩
    refine for_tup (K := K) (a := q) (xs := ks.map V.str) (fun i σ H2 => ∃ (v3 v4 : Option V), σ = [some v, some (.ref q), some (.str d), v3, v4] ∧ Same H H2 ∧ lookF tb d ks = lookF tb d (ks.drop i))
      ⟨_, _, rfl, Same.refl H, rfl⟩ (fun i σ H2 _ ⟨_, _, _, e, _⟩ => SqT.of (e q _ hq)) ?_ ?_
    · rintro i x σ H2 hi ⟨v3, v4, rfl, s2, hl⟩
      have hik : i < ks.length := by
        have := (List.getElem?_eq_some_iff.mp hi).1
        rwa [List.length_map] at this
      rw [List.getElem?_map, List.getElem?_eq_getElem hik] at hi
      cases hi
      obtain ⟨r, hr', er⟩ := List.mem_map.mp (hsub _ (List.getElem_mem hik))
      have er : r.kind = ks[i] := er
      rw [List.drop_eq_getElem_cons hik, ← er] at hl
      rw [← er]
      refine ⟨_, rfl, _, rfl, v, tb, r, rfl, dv.mono (Same.tups s2), G, hr', fun u H3 du s3 => ⟨_, rfl, u, r, d, rfl, du, ?_⟩⟩
      have s23 := s2.trans s3
      cases hb : bodyOf r.deeds d with
      | none =>
        rw [lookF_no G.nd hr' hb] at hl
        refine ⟨_, rfl, rfl, _, rfl, iteNeg (by simp [optI]) ?_⟩
        exact ⟨_, _, rfl, s23, hl⟩
      | some n =>
        rw [lookF_yes G.nd hr' hb] at hl
        refine ⟨_, rfl, rfl, _, rfl, itePos (by simp [optI]) ?_⟩
        refine ⟨_, rfl, _, rfl, by show 2 ≤ sizeLine; decide, fun q4 hq4 => ?_⟩
        refine k (.ref q4) _ ?_ (s23.trans (Same.new hq4))
        rw [hl]
        exact ⟨q4, rfl, upd_same⟩
    · rintro σ H2 ⟨v3, v4, rfl, s2, hl⟩
      rw [List.length_map, List.drop_of_length_le (Nat.le_refl _)] at hl
      refine k .non H2 ?_ s2
      rw [hl]
      rfl
end
end K10
end
section
set_option autoImplicit false
namespace K10
open PySem PyProof.Rows L2
theorem TyOf.same {K : PySem.W.Frag} {H H' : Hp} {v : V} {ty : Value} (h : TyOf K H v ty) (s : Same H H') : TyOf K H' v ty := by
  cases h with
  | non => exact .non
  | bl x => exact .bl x
  | int i => exact .int i
  | str x => exact .str x
  | flt x => exact .flt x
  | lst e => exact .lst (s _ _ e)
  | frz e => exact .frz (s _ _ e)
  | tup e => exact .tup (s _ _ e)
  | dK e => exact .dK (s _ _ e)
  | dT e => exact .dT (s _ _ e)
  | ins e a b c d f => exact .ins (s _ _ e) a b c d f
def HomeV (K : PySem.W.Frag) (H : Hp) (v : V) (h : Option Str) : Prop := match h with
  | some x => v = .str x
  | none => ∃ ty, TyOf K H v ty ∧ PySem.W.kitOne K ty (.type "str") = some false
theorem HomeV.same {K : PySem.W.Frag} {H H' : Hp} {v : V} {h : Option Str} (e : HomeV K H v h) (s : Same H H') : HomeV K H' v h := by
  cases h with
  | some x => exact e
  | none =>
    obtain ⟨ty, a, b⟩ := e
    exact ⟨ty, K10.TyOf.same a s, b⟩
def isIn (ks : List Str) : Option Str → Bool
  | some x => decide (x ∈ ks)
  | none => false
def restF (ks : List Str) : Option Str → List Str
  | some x => after x ks
  | none => []
theorem restF_no {ks : List Str} {h : Option Str} (e : isIn ks h = false) : restF ks h = [] := by
  cases h with
  | none => rfl
  | some x => exact after_no (of_decide_eq_false e)
theorem restF_sub {ks : List Str} {h : Option Str} {y : Str} (e : y ∈ restF ks h) : y ∈ ks := by
  cases h with
  | none => cases e
  | some x => exact after_sub e
theorem lv_strs {ks : List Str} : ∀ t ∈ ks.map T.str, Lv 6 t := fun t h => by
  obtain ⟨x, _, rfl⟩ := List.mem_map.mp h
  exact trivial
theorem first_T {x : Str} {ks : List Str} {j : Nat} (h1 : ks[j]? = some x) (h2 : ∀ m, m < j → ks[m]? ≠ some x) : (ks.map T.str)[j]? = some (T.str x) ∧ ∀ m, m < j → (ks.map T.str)[m]? ≠ some (T.str x) := by
  refine ⟨by rw [List.getElem?_map, h1]; rfl, fun m hm e => h2 m hm ?_⟩
  rw [List.getElem?_map] at e
  cases q : ks[m]? with
  | none => rw [q] at e; cases e
  | some y =>
    rw [q] at e
    injection e with e
    injection e with e
    rw [e]
section
variable {P : Program} {w : World} {K : PySem.W.Frag} {mg : Str → Option Value} {base : Heap} {t : Adr}
def spIsKindV (K : PySem.W.Frag) : Sp := fun vs H Q _ => ∃ (v : V) (h : Option Str) (q : Addr) (ks : List Str), vs = [v, .ref q] ∧ HomeV K H v h ∧ H q = some (.tup (ks.map V.str)) ∧ Q (.bl (isIn ks h)) H
theorem ok_isKindV (D : Defs K mg t) : FnOk P w K mg base CX0 1 t.is_kind.1 t.is_kind.2 ["thing", "kinds"] (spIsKindV K) := by
  refine D.is_kind.fn.ok sc_is_kind (fun vs H Q E h => ?_) (fun cdv A outer s H vs Q E hr h => ?_)
  · obtain ⟨v, h, q, ks, rfl, _⟩ := h
    rfl
  · obtain ⟨v, h, q, ks, rfl, hv, hq, k⟩ := h
    refine ⟨_, (pss_one (ps_ret (pe_and (pe_callB call_isinst (by rfl) D.b_isinstance bt_isinstance (pa_cons (pv 0) (pa_cons (pe_bltn (v := V.ty "str") rfl D.b_str bt_str rfl) pa_nil))) (pe_one (pe_cmpR op_in_seq (pv 0) (pv 1) (by with_unfolding_all rfl)))))), ?_⟩
    cases h with
    | some x =>
      have ev : v = .str x := hv
      subst ev
      refine ⟨_, rfl, _, _, _, true, rfl, .str x, kit_same K "str", _, rfl, iteT ⟨_, rfl, _, rfl, q, _, rfl, .inr (SqT.of hq), rfl, flat_strs _, ?_⟩⟩
      show Q (.bl (inV (.str x) (ks.map V.str))) H
      rw [inV_strs]
      exact k
    | none =>
      obtain ⟨ty, h1, h2⟩ := hv
      refine ⟨_, rfl, _, _, _, false, rfl, h1, h2, _, rfl, iteF ?_⟩
      exact k
def spFound : Sp := fun vs H Q _ => ∃ (v : V) (tb : List Row) (r : Row) (d : Str), vs = [v, .str r.kind, .str d] ∧ Dp H (tabT tb) v ∧ GoodTb tb ∧ r ∈ tb ∧ ∀ (u : V) H', ResL H' (lookF tb d r.order) u → Same H H' → Q u H'
theorem ok_found (D : Defs K mg t) : FnOk P w K mg base CX0 5 t.found.1 t.found.2 ["table", "kind", "deed"] spFound := by
  have G_row_at : FnOk P w K mg base CX0 3 t.row_at.1 t.row_at.2 _ spRowAt := ok_rowAt D
  have G_look_along : FnOk P w K mg base CX0 4 t.look_along.1 t.look_along.2 _ spLookA := ok_lookA D
  refine D.found.fn.ok sc_found (fun vs H Q E h => ?_) (fun cdv A outer s H vs Q E hr h => ?_)
  · obtain ⟨v, tb, r, d, rfl, _⟩ := h
    rfl
  · obtain ⟨v, tb, r, d, rfl, dv, G, hr', k⟩ := h
    refine ⟨_, (pss_one (ps_ret (pe_callF D.look_along G_look_along (hr.mono (by omega)) (by rfl) (pa_cons (pv 0) (pa_cons (pe_ix ix_tup (pe_callF D.row_at G_row_at (hr.mono (by omega)) (by rfl) (pa_cons (pv 0) (pa_cons (pv 1) pa_nil))) pe_int (fun _ _ => rfl)) (pa_cons (pv 2) pa_nil)))))), ?_⟩
    refine ⟨_, rfl, _, rfl, _, rfl, v, tb, r, rfl, dv, G, hr', fun u H1 du s1 => ?_⟩
    obtain ⟨q, e, o, f, vd, rfl, hq, _, ho, _⟩ := K10.Dp.of_row6 du
    refine ⟨q, _, _, _, rfl, rfl, SqT.of hq, atI_nat (j := 2) rfl, _, rfl, v, o, tb, r.order, d, rfl, dv.mono (Same.tups s1), G, ho, G.ord r hr', fun u H2 hu s2 => ?_⟩
    exact k u H2 hu (s1.trans s2)
def spBehind (K : PySem.W.Frag) : Sp := fun vs H Q _ => ∃ (v vh : V) (tb : List Row) (r : Row) (h : Option Str) (d : Str), vs = [v, .str r.kind, vh, .str d] ∧ Dp H (tabT tb) v ∧ GoodTb tb ∧ r ∈ tb ∧ HomeV K H vh h ∧ ∀ (u : V) H', ResL H' (lookF tb d (restF r.order h)) u → Same H H' → Q u H'
theorem ok_behind (D : Defs K mg t) : FnOk P w K mg base CX0 5 t.behind.1 t.behind.2 ["table", "kind", "home", "deed"] (spBehind K) := by
  have G_row_at : FnOk P w K mg base CX0 3 t.row_at.1 t.row_at.2 _ spRowAt := ok_rowAt D
  have G_is_kind : FnOk P w K mg base CX0 1 t.is_kind.1 t.is_kind.2 _ (spIsKindV K) := ok_isKindV D
  have G_look_along : FnOk P w K mg base CX0 4 t.look_along.1 t.look_along.2 _ spLookA := ok_lookA D
  refine D.behind.fn.ok sc_behind (fun vs H Q E h => ?_) (fun cdv A outer s H vs Q E hr h => ?_)
  · obtain ⟨v, vh, tb, r, h, d, rfl, _⟩ := h
    rfl
  · obtain ⟨v, vh, tb, r, h, d, rfl, dv, G, hr', hv, k⟩ := h
    refine ⟨_, (pss_cons (ps_set (i := 4) sc_behind.nd rfl (Or.inl rfl) (pe_ix ix_tup (pe_callF D.row_at G_row_at (hr.mono (by omega)) (by rfl) (pa_cons (pv 0) (pa_cons (pv 1) pa_nil))) pe_int (fun _ _ => rfl)))
      (pss_cons (ps_if (pt_not (pt_val (pe_callF D.is_kind G_is_kind (hr.mono (by omega)) (by rfl) (pa_cons (pv 2) (pa_cons (pv 4) pa_nil)))))
      (pss_one (ps_ret pe_non))
      pss_nil)
      (pss_one (ps_ret (pe_callF D.look_along G_look_along (hr.mono (by omega)) (by rfl) (pa_cons (pv 0) (pa_cons (pe_slice sl_tupW (pv 4) (po_some (pe_op op_add (pe_bmT PySem.F.slot_tuple_index PySem.F.type_tuple_index (mt_indexTt (hu10 hr)) (pv 4) (pa_cons (pv 2) pa_nil)) pe_int)) po_none) (pa_cons (pv 3) pa_nil)))))))), ?_⟩
    refine ⟨_, rfl, _, rfl, v, tb, r, rfl, dv, G, hr', fun u H1 du s1 => ?_⟩
    obtain ⟨q, e, o, f, vd, rfl, hq, _, ho, _⟩ := K10.Dp.of_row6 du
    refine ⟨q, _, _, _, rfl, rfl, SqT.of hq, atI_nat (j := 2) rfl, ?_⟩
    refine ⟨_, rfl, _, rfl, vh, h, o, r.order, rfl, hv.same s1, ho, _, rfl, ?_⟩
    cases hin : isIn r.order h with
    | false =>
      refine iteT ?_
      refine k .non H1 ?_ s1
      rw [restF_no hin]
      rfl
    | true =>
      refine iteF ?_
      cases h with
      | none => cases hin
      | some x =>
        have ev : vh = .str x := hv
        subst ev
        obtain ⟨j, h1, h2⟩ := first_at (of_decide_eq_true hin)
        obtain ⟨t1, t2⟩ := first_T h1 h2
        have hjl : j < r.order.length := (List.getElem?_eq_some_iff.mp h1).1
        refine ⟨_, rfl, _, rfl, _, rfl, ⟨o, _, rfl, ho⟩, _, rfl, o, .str x, _, T.str x, r.order.map T.str, j, rfl, rfl, ho, L2.Dp.str x, DpL.strs _, lv_strs, t1, t2, ?_⟩
        refine ⟨_, _, rfl, rfl, _, rfl, o, _, rfl, ho, fun q8 H8 hq8 s8 => ?_⟩
        have ec : cutV (r.order.map V.str) (some ((j : Int) + 1)) none = (after x r.order).map V.str := by
          have := cutV_from (r.order.map V.str) (j + 1) (by rw [List.length_map]; omega)
          rw [← List.map_drop, ← after_at h1 h2] at this
          exact this
        rw [ec] at hq8
        refine ⟨_, rfl, v, q8, tb, after x r.order, d, rfl, dv.mono (Same.tups (s1.trans s8)), G, hq8, fun y hy => G.ord r hr' y (after_sub hy), fun u H9 hu s9 => ?_⟩
        exact k u H9 hu ((s1.trans s8).trans s9)
end
end K10
end
section
set_option autoImplicit false
namespace K10
open PySem PyProof.Rows L2
theorem kit_st (K : PySem.W.Frag) : PySem.W.kitOne K (.type "str") (.type "tuple") = some false := by rfl
theorem kit_it (K : PySem.W.Frag) : PySem.W.kitOne K (.type "int") (.type "tuple") = some false := by rfl
theorem kit_is' (K : PySem.W.Frag) : PySem.W.kitOne K (.type "int") (.type "str") = some false := by rfl
theorem kit_ib (K : PySem.W.Frag) : PySem.W.kitOne K (.type "int") (.type "bool") = some false := by rfl
theorem kit_nt (K : PySem.W.Frag) : PySem.W.kitOne K (.type "NoneType") (.type "tuple") = some false := by rfl
section
variable {P : Program} {w : World} {K : PySem.W.Frag} {mg : Str → Option Value} {base : Heap} {t : Adr}
theorem ok_same0 (D : Defs K mg t) : FnOk P w K mg base CX0 1 t._law_same.1 t._law_same.2 ["_law_told", "_law_due"] (fun _ _ _ _ => False) := by
  refine D._law_same.fn.ok (sp := fun _ _ _ _ => False) sc__law_same (fun vs H Q E h => False.elim h) (fun cdv A outer s H vs Q E hr h => False.elim h)
def spSameS : Sp := fun vs H Q _ => ((∃ (x : Str), vs = [.str x, .str x]) ∨ ∃ n : Int, vs = [.int n, .int n]) ∧ Q (.bl true) H
theorem ok_sameS (D : Defs K mg t) : FnOk P w K mg base CX0 2 t._law_same.1 t._law_same.2 ["_law_told", "_law_due"] spSameS := by
  have G__law_same : FnOk P w K mg base CX0 1 t._law_same.1 t._law_same.2 _ (fun _ _ _ _ => False) := ok_same0 D
  refine D._law_same.fn.ok sc__law_same (fun vs H Q E h => ?_) (fun cdv A outer s H vs Q E hr h => ?_)
  · obtain ⟨⟨x, rfl⟩ | ⟨x, rfl⟩, _⟩ := h <;> rfl
  · obtain ⟨h, k⟩ := h
    refine ⟨_, (pss_cons (ps_if (pt_val (pe_callB call_isinst (by rfl) D.b_isinstance bt_isinstance (pa_cons (pv 1) (pa_cons (pe_bltn (v := V.ty "tuple") rfl D.b_tuple bt_tuple rfl) pa_nil))))
      (pss_cons (ps_if (PW.pt (pw_or (pt_not (pt_val (pe_callB call_isinst (by rfl) D.b_isinstance bt_isinstance (pa_cons (pv 0) (pa_cons (pe_bltn (v := V.ty "tuple") rfl D.b_tuple bt_tuple rfl) pa_nil))))) (pw_or1 (pt_cmpR op_ne (pe_callB call_len_seq (by rfl) D.b_len bt_len (pa_cons (pv 0) pa_nil)) (pe_callB call_len_seq (by rfl) D.b_len bt_len (pa_cons (pv 1) pa_nil)) (nomark _)))))
      (pss_one (ps_ret pe_bl))
      pss_nil)
      (pss_one (ps_ret (pe_callB (call_all rfl) (by rfl) D.b_all bt_all (pa_cons (pe_comp rfl (CompScope.of ["_law_k"] [0, 1] ["_law_k", "_law_told", "_law_due"] (defScope (top 26)) ["_law_told", "_law_due"] rfl rfl (by decide +kernel)) ⟨fun _ _ _ _ _ => (pg_name (i := 0) (show List.Nodup [("_law_k" : Str), ("_law_told" : Str), ("_law_due" : Str)] by decide +kernel) rfl (Or.inl (lookup_relabel_local rfl)) (.inr (lookup_relabel_local rfl))), fun _ _ _ _ _ => pts_nil, fun _ _ _ _ _ => (pe_callF D._law_same G__law_same (hr.mono (by omega)) (by rfl) (pa_cons (pe_ix (ix_tup_K (K := K) rfl) (pv 1) (pv 0) (fun _ _ => rfl)) (pa_cons (pe_ix (ix_tup_K (K := K) rfl) (pv 2) (pv 0) (fun _ _ => rfl)) pa_nil)))⟩ (pi_range1 rfl D.b_range (pa_cons (pe_callB call_len_seq (by rfl) D.b_len bt_len (pa_cons (pv 1) pa_nil)) pa_nil))) pa_nil)))))
      pss_nil)
      (pss_cons (ps_if (pt_cmpR op_isN (pv 1) pe_non (nomark _))
      (pss_one (ps_ret (pe_cmpR op_isN (pv 0) pe_non (nomark _))))
      pss_nil)
      (pss_cons (ps_if (pt_val (pe_callB call_isinst (by rfl) D.b_isinstance bt_isinstance (pa_cons (pv 1) (pa_cons (pe_bltn (v := V.ty "str") rfl D.b_str bt_str rfl) pa_nil))))
      (pss_one (ps_ret (pe_and (pe_callB call_isinst (by rfl) D.b_isinstance bt_isinstance (pa_cons (pv 0) (pa_cons (pe_bltn (v := V.ty "str") rfl D.b_str bt_str rfl) pa_nil))) (pe_one (pe_cmpR op_eq (pv 0) (pv 1) (nomark _))))))
      pss_nil)
      (pss_cons (ps_if (pt_val (pe_callB call_isinst (by rfl) D.b_isinstance bt_isinstance (pa_cons (pv 1) (pa_cons (pe_bltn (v := V.ty "bool") rfl D.b_bool bt_bool rfl) pa_nil))))
      (pss_one (ps_ret (pe_and (pe_callB call_isinst (by rfl) D.b_isinstance bt_isinstance (pa_cons (pv 0) (pa_cons (pe_bltn (v := V.ty "bool") rfl D.b_bool bt_bool rfl) pa_nil))) (pe_one (pe_cmpR op_eq (pv 0) (pv 1) (nomark _))))))
      pss_nil)
      (pss_one (ps_ret (pe_and (pe_callB call_isinst (by rfl) D.b_isinstance bt_isinstance (pa_cons (pv 0) (pa_cons (pe_bltn (v := V.ty "int") rfl D.b_int bt_int rfl) pa_nil))) (pe_and (pe_not (pe_callB call_isinst (by rfl) D.b_isinstance bt_isinstance (pa_cons (pv 0) (pa_cons (pe_bltn (v := V.ty "bool") rfl D.b_bool bt_bool rfl) pa_nil)))) (pe_one (pe_cmpR op_eq (pv 0) (pv 1) (nomark _))))))))))), ?_⟩
    rcases h with ⟨x, rfl⟩ | ⟨n, rfl⟩
    · refine ⟨_, rfl, _, _, _, false, rfl, .str x, kit_st K, _, rfl, iteF ?_⟩
      refine ⟨_, rfl, rfl, _, rfl, iteNeg (by rw [decide_eq_false (fun z => nomatch z)]; exact Bool.false_ne_true) ?_⟩
      refine ⟨_, rfl, _, _, _, true, rfl, .str x, kit_same K "str", _, rfl, iteT ?_⟩
      refine ⟨_, rfl, _, _, _, true, rfl, .str x, kit_same K "str", _, rfl, iteT ?_⟩
      refine ⟨_, rfl, _, rfl, rfl, ?_⟩
      rw [decide_eq_true rfl]
      exact k
    · refine ⟨_, rfl, _, _, _, false, rfl, .int n, kit_it K, _, rfl, iteF ?_⟩
      refine ⟨_, rfl, rfl, _, rfl, iteNeg (by rw [decide_eq_false (fun z => nomatch z)]; exact Bool.false_ne_true) ?_⟩
      refine ⟨_, rfl, _, _, _, false, rfl, .int n, kit_is' K, _, rfl, iteF ?_⟩
      refine ⟨_, rfl, _, _, _, false, rfl, .int n, kit_ib K, _, rfl, iteF ?_⟩
      refine ⟨_, rfl, _, _, _, true, rfl, .int n, kit_same K "int", _, rfl, iteT ?_⟩
      refine ⟨_, rfl, _, _, _, false, rfl, .int n, kit_ib K, ?_⟩
      refine ⟨_, rfl, _, rfl, iteT ⟨_, rfl, _, rfl, rfl, ?_⟩⟩
      rw [decide_eq_true rfl]
      exact k
def spSame : Sp := fun vs H Q _ => ∃ (u v : V) (o : Option (Str × Int)), vs = [u, v] ∧ ResL H o u ∧ ResL H o v ∧ ∀ H', Same H H' → Q (.bl true) H'
theorem ok_same (D : Defs K mg t) : FnOk P w K mg base CX0 3 t._law_same.1 t._law_same.2 ["_law_told", "_law_due"] spSame := by
  have G__law_same : FnOk P w K mg base CX0 2 t._law_same.1 t._law_same.2 _ spSameS := ok_sameS D
  have hz : sizeLine = 16777216 := sizeLine_eq
  refine D._law_same.fn.ok sc__law_same (fun vs H Q E h => ?_) (fun cdv A outer s H vs Q E hr h => ?_)
  · obtain ⟨u, v, o, rfl, _⟩ := h
    rfl
  · obtain ⟨u, v, o, rfl, hu, hv, k⟩ := h
    refine ⟨_, (pss_cons (ps_if (pt_val (pe_callB call_isinst (by rfl) D.b_isinstance bt_isinstance (pa_cons (pv 1) (pa_cons (pe_bltn (v := V.ty "tuple") rfl D.b_tuple bt_tuple rfl) pa_nil))))
      (pss_cons (ps_if (PW.pt (pw_or (pt_not (pt_val (pe_callB call_isinst (by rfl) D.b_isinstance bt_isinstance (pa_cons (pv 0) (pa_cons (pe_bltn (v := V.ty "tuple") rfl D.b_tuple bt_tuple rfl) pa_nil))))) (pw_or1 (pt_cmpR op_ne (pe_callB call_len_seq (by rfl) D.b_len bt_len (pa_cons (pv 0) pa_nil)) (pe_callB call_len_seq (by rfl) D.b_len bt_len (pa_cons (pv 1) pa_nil)) (nomark _)))))
      (pss_one (ps_ret pe_bl))
      pss_nil)
      (pss_one (ps_ret (pe_callB (call_all rfl) (by rfl) D.b_all bt_all (pa_cons (pe_comp rfl (CompScope.of ["_law_k"] [0, 1] ["_law_k", "_law_told", "_law_due"] (defScope (top 26)) ["_law_told", "_law_due"] rfl rfl (by decide +kernel)) ⟨fun _ _ _ _ _ => (pg_name (i := 0) (show List.Nodup [("_law_k" : Str), ("_law_told" : Str), ("_law_due" : Str)] by decide +kernel) rfl (Or.inl (lookup_relabel_local rfl)) (.inr (lookup_relabel_local rfl))), fun _ _ _ _ _ => pts_nil, fun _ _ _ _ _ => (pe_callF D._law_same G__law_same (hr.mono (by omega)) (by rfl) (pa_cons (pe_ix (ix_tup_K (K := K) rfl) (pv 1) (pv 0) (fun _ _ => rfl)) (pa_cons (pe_ix (ix_tup_K (K := K) rfl) (pv 2) (pv 0) (fun _ _ => rfl)) pa_nil)))⟩ (pi_range1 rfl D.b_range (pa_cons (pe_callB call_len_seq (by rfl) D.b_len bt_len (pa_cons (pv 1) pa_nil)) pa_nil))) pa_nil)))))
      pss_nil)
      (pss_cons (ps_if (pt_cmpR op_isN (pv 1) pe_non (nomark _))
      (pss_one (ps_ret (pe_cmpR op_isN (pv 0) pe_non (nomark _))))
      pss_nil)
      (pss_cons (ps_if (pt_val (pe_callB call_isinst (by rfl) D.b_isinstance bt_isinstance (pa_cons (pv 1) (pa_cons (pe_bltn (v := V.ty "str") rfl D.b_str bt_str rfl) pa_nil))))
      (pss_one (ps_ret (pe_and (pe_callB call_isinst (by rfl) D.b_isinstance bt_isinstance (pa_cons (pv 0) (pa_cons (pe_bltn (v := V.ty "str") rfl D.b_str bt_str rfl) pa_nil))) (pe_one (pe_cmpR op_eq (pv 0) (pv 1) (nomark _))))))
      pss_nil)
      (pss_cons (ps_if (pt_val (pe_callB call_isinst (by rfl) D.b_isinstance bt_isinstance (pa_cons (pv 1) (pa_cons (pe_bltn (v := V.ty "bool") rfl D.b_bool bt_bool rfl) pa_nil))))
      (pss_one (ps_ret (pe_and (pe_callB call_isinst (by rfl) D.b_isinstance bt_isinstance (pa_cons (pv 0) (pa_cons (pe_bltn (v := V.ty "bool") rfl D.b_bool bt_bool rfl) pa_nil))) (pe_one (pe_cmpR op_eq (pv 0) (pv 1) (nomark _))))))
      pss_nil)
      (pss_one (ps_ret (pe_and (pe_callB call_isinst (by rfl) D.b_isinstance bt_isinstance (pa_cons (pv 0) (pa_cons (pe_bltn (v := V.ty "int") rfl D.b_int bt_int rfl) pa_nil))) (pe_and (pe_not (pe_callB call_isinst (by rfl) D.b_isinstance bt_isinstance (pa_cons (pv 0) (pa_cons (pe_bltn (v := V.ty "bool") rfl D.b_bool bt_bool rfl) pa_nil)))) (pe_one (pe_cmpR op_eq (pv 0) (pv 1) (nomark _))))))))))), ?_⟩
    cases o with
    | none =>
      have eu : u = .non := hu
      have ev : v = .non := hv
      subst eu ev
      refine ⟨_, rfl, _, _, _, false, rfl, .non, kit_nt K, _, rfl, iteF ?_⟩
      refine ⟨_, rfl, rfl, _, rfl, itePos (decide_eq_true rfl) ?_⟩
      refine ⟨_, rfl, rfl, ?_⟩
      rw [decide_eq_true rfl]
      exact k H (Same.refl H)
    | some p =>
      obtain ⟨a, rfl, ha⟩ := hu
      obtain ⟨b, rfl, hb⟩ := hv
      refine ⟨_, rfl, _, _, _, true, rfl, .tup hb, kit_same K "tuple", _, rfl, iteT ?_⟩
      refine ⟨_, rfl, _, _, _, true, rfl, .tup ha, kit_same K "tuple", _, rfl, iteF ?_⟩
      refine ⟨_, rfl, a, _, rfl, .inr (SqT.of ha), _, rfl, b, _, rfl, .inr (SqT.of hb), rfl, _, rfl, iteNeg (by simp) ?_⟩
      refine ⟨_, rfl, b, _, rfl, .inr (SqT.of hb), _, rfl, by omega, by show (2 : Int) < _; omega, fun D1 hD1 => ?_⟩
      have s1 : ∀ u, Same H (upd H D1 u) := fun u => Same.new hD1
      refine comp_by (n := 2) (fun i ys H2 => ys = (List.replicate i true).map V.bl ∧ H2 = upd H D1 (.lst ys)) ⟨rfl, rfl⟩ ?_ ?_
      · rintro ys H2 ⟨rfl, rfl⟩
        refine ⟨by show 2 ≤ 2; omega, D1, List.replicate 2 true, rfl, SqL.of upd_same, ?_⟩
        exact k _ (s1 _)
      · rintro i ys H2 hi ⟨rfl, rfl⟩
        refine ⟨hi, ?_⟩
        rintro x H3 ⟨rfl, rfl⟩ σo ho
        obtain ⟨oo, rfl⟩ := own1 ho
        obtain ⟨z, ea, hz'⟩ : ∃ z : V, atI [V.str p.1, V.int p.2] (0 + (i : Int)) = some z ∧ ((∃ x, [z, z] = [V.str x, V.str x]) ∨ ∃ n, [z, z] = [V.int n, V.int n]) := by
          rcases (by omega : i = 0 ∨ i = 1) with rfl | rfl
          · exact ⟨_, atI_nat (j := 0) rfl, .inl ⟨_, rfl⟩⟩
          · exact ⟨_, atI_nat (j := 1) rfl, .inr ⟨_, rfl⟩⟩
        refine ⟨⟨[_], rfl, rfl⟩, yes_by ⟨_, rfl, _, rfl, a, _, _, _, rfl, rfl, SqT.of (s1 _ a _ ha), ea, _, rfl, _, rfl, b, _, _, _, rfl, rfl, SqT.of (s1 _ b _ hb), ea, hz', by rw [List.length_map, List.length_replicate]; omega, upd_same, less_by hi ⟨?_, by rw [upd_upd]⟩⟩⟩
        rw [List.replicate_succ', List.map_append]
        rfl
end
end K10
end
section
set_option autoImplicit false
namespace K10
open PySem PyProof.Rows L2
def RowsD (H : Hp) (kvs : List (Key × V)) (tb : List Row) : Prop := ∀ r ∈ tb, ∃ u, valV kvs (.inr r.kind) = some u ∧ Dp H (trow r) u
theorem RowsD.mono {H H' : Hp} {kvs : List (Key × V)} {tb : List Row} (h : RowsD H kvs tb) (s : Tups H H') : RowsD H' kvs tb := fun r hr => by
  obtain ⟨u, h1, h2⟩ := h r hr
  exact ⟨u, h1, h2.mono s⟩
theorem Rd.same {H H' : Hp} {rd : Addr} {o : HO} (h : Rd H rd o) (s : Same H H') : Rd H' rd o := by
  rcases h with h | ⟨ob, h⟩
  · exact .inl (s rd _ h)
  · exact .inr ⟨ob, s rd _ h⟩
section
variable {P : Program} {w : World} {K : PySem.W.Frag} {mg : Str → Option Value} {base : Heap} {t : Adr}
def spLook : Sp := fun vs H Q _ => ∃ (rd q : Addr) (kvs : List (Key × V)) (tb : List Row) (ks : List Str) (d : Str), vs = [.ref rd, .ref q, .str d] ∧ Rd H rd (.dK kvs) ∧ RowsD H kvs tb ∧ GoodTb tb ∧ H q = some (.tup (ks.map V.str)) ∧ (∀ x ∈ ks, x ∈ kns tb) ∧
  ∀ (u : V) H', ResL H' (lookF tb d ks) u → Same H H' → Q u H'
theorem ok_look (D : Defs K mg t) : FnOk P w K mg base CX0 1 t._law_look.1 t._law_look.2 ["_law_rows", "_law_homes", "_law_deed"] spLook := by
  refine D._law_look.fn.ok sc__law_look (fun vs H Q E h => ?_) (fun cdv A outer s H vs Q E hr h => ?_)
  · obtain ⟨rd, q, kvs, tb, ks, d, rfl, _⟩ := h
    rfl
  · obtain ⟨rd, q, kvs, tb, ks, d, rfl, hrd, rows, G, hq, hsub, k⟩ := h
    refine ⟨_, (pss_cons (ps_for PassesOwn.never rfl (pi_tup (pv 1)) (pg_name (i := 3) sc__law_look.nd rfl (Or.inl rfl))
      (pss_one (ps_for PassesOwn.never rfl (pi_tup (pe_ix ix_tup (pe_dget (hu_of hr) (pv 0) (pv 3) (fun _ _ => rfl)) pe_int (fun _ _ => rfl))) (pg_tup rfl (pgs_cons (pg_name (i := 4) sc__law_look.nd rfl (Or.inl rfl)) (pgs_cons (pg_name (i := 5) sc__law_look.nd rfl (Or.inl rfl)) pgs_nil)))
      (pss_one (ps_if (pt_cmpR op_eq (pv 4) (pv 2) (nomark _))
      (pss_one (ps_ret (pe_tup (pa_cons (pv 3) (pa_cons (pv 5) pa_nil)))))
      pss_nil)))))
      (pss_one (ps_ret pe_non))), ?_⟩
    refine ⟨_, rfl, q, rfl, ⟨_, SqT.of hq⟩, ?_⟩
    refine for_tup (K := K) (a := q) (xs := ks.map V.str) (fun i σ H2 => ∃ (v3 v4 v5 : Option V), σ = [some (.ref rd), some (.ref q), some (.str d), v3, v4, v5] ∧ H2 = H ∧ lookF tb d ks = lookF tb d (ks.drop i))
      ⟨_, _, _, rfl, rfl, rfl⟩ (fun i σ H2 _ ⟨_, _, _, _, e, _⟩ => by rw [e]; exact SqT.of hq) ?_ ?_
    · rintro i x σ H2 hi ⟨v3, v4, v5, rfl, rfl, hl⟩
      have hik : i < ks.length := by
        have := (List.getElem?_eq_some_iff.mp hi).1
        rwa [List.length_map] at this
      rw [List.getElem?_map, List.getElem?_eq_getElem hik] at hi
      cases hi
      obtain ⟨r, hr', er⟩ := List.mem_map.mp (hsub _ (List.getElem_mem hik))
      have er : r.kind = ks[i] := er
      rw [List.drop_eq_getElem_cons hik, ← er] at hl
      rw [← er]
      obtain ⟨u, hu, du⟩ := rows r hr'
      obtain ⟨qr, e, o, f, vd, rfl, hqr, _, _, _, dvd⟩ := K10.Dp.of_row6 du
      obtain ⟨ad, xs, rfl, had, dl⟩ := L2.Dp.of_tup dvd
      have hxl : xs.length = r.deeds.length := by have := dl.length; rwa [List.length_map] at this
      refine ⟨_, rfl, _, rfl, rd, .ref qr, rfl, .inl ⟨kvs, .inr r.kind, hrd, rfl, hu.symm⟩, qr, _, _, _, rfl, rfl, SqT.of hqr, atI_nat (j := 4) rfl, ad, rfl, ⟨_, SqT.of had⟩, ?_⟩
      refine for_tup (K := K) (a := ad) (xs := xs) (fun j σ H3 => ∃ (v4 v5 : Option V), σ = [some (.ref rd), some (.ref q), some (.str d), some (.str r.kind), v4, v5] ∧ H3 = H2 ∧ ∀ x ∈ r.deeds.take j, ¬ x.1 = d)
        ⟨_, _, rfl, rfl, by simp⟩ (fun j σ H3 _ ⟨_, _, _, e, _⟩ => by rw [e]; exact SqT.of had) ?_ ?_
      · rintro j x σ H3 hj ⟨v4', v5', rfl, rfl, h0⟩
        have hjd : j < r.deeds.length := by
          have := (List.getElem?_eq_some_iff.mp hj).1
          omega
        obtain ⟨y, ey, dy⟩ := dl.get (i := j) (t := deedT r.deeds[j]) (by rw [List.getElem?_map, List.getElem?_eq_getElem hjd]; rfl)
        rw [hj] at ey
        cases ey
        obtain ⟨qd, rfl, hqd⟩ := K10.Dp.of_deed dy
        refine ⟨qd, _, rfl, SqT.of hqd, rfl, _, _, rfl, _, _, rfl, rfl, ?_⟩
        refine ⟨_, rfl, _, rfl, rfl, _, rfl, ite2 (fun hb => ?_) (fun hb => ?_)⟩
        · have hb : r.deeds[j].1 = d := by
            have := of_decide_eq_true hb
            injection this
          rw [lookF_yes G.nd hr' (bodyOf_at hjd h0 hb)] at hl
          refine ⟨_, rfl, _, rfl, by show 2 ≤ sizeLine; decide, fun q4 hq4 => ?_⟩
          refine k (.ref q4) _ ?_ (Same.new hq4)
          rw [hl]
          exact ⟨q4, rfl, upd_same⟩
        · have hb : ¬ r.deeds[j].1 = d := fun e => hb (decide_eq_true (by rw [e]))
          refine ⟨_, _, rfl, rfl, fun x hx => ?_⟩
          rw [take_snoc hjd] at hx
          rcases List.mem_append.mp hx with h | h
          · exact h0 x h
          · rw [List.mem_singleton.mp h]
            exact hb
      · rintro σ H3 ⟨v4', v5', rfl, rfl, h0⟩
        rw [List.take_of_length_le (by omega)] at h0
        rw [lookF_no G.nd hr' (bodyOf_none h0)] at hl
        exact ⟨_, _, _, rfl, rfl, hl⟩
    · rintro σ H2 ⟨v3, v4, v5, rfl, rfl, hl⟩
      rw [List.length_map, List.drop_of_length_le (Nat.le_refl _)] at hl
      refine k .non H2 ?_ (Same.refl H2)
      rw [hl]
      rfl
def spRest (K : PySem.W.Frag) : Sp := fun vs H Q _ => ∃ (vh : V) (q : Addr) (ks : List Str) (h : Option Str), vs = [.ref q, vh] ∧ HomeV K H vh h ∧ H q = some (.tup (ks.map V.str)) ∧ ∀ (q' : Addr) H', H' q' = some (.tup ((restF ks h).map V.str)) → Same H H' → Q (.ref q') H'
theorem ok_rest (D : Defs K mg t) : FnOk P w K mg base CX0 1 t._law_rest.1 t._law_rest.2 ["_law_order", "_law_home"] (spRest K) := by
  refine D._law_rest.fn.ok sc__law_rest (fun vs H Q E h => ?_) (fun cdv A outer s H vs Q E hr h => ?_)
  · obtain ⟨vh, q, ks, h, rfl, _⟩ := h
    rfl
  · obtain ⟨vh, q, ks, h, rfl, hv, hq, k⟩ := h
    refine ⟨_, (pss_cons (ps_if (PW.pt (pw_or (pt_not (pt_val (pe_callB call_isinst (by rfl) D.b_isinstance bt_isinstance (pa_cons (pv 1) (pa_cons (pe_bltn (v := V.ty "str") rfl D.b_str bt_str rfl) pa_nil))))) (pw_or1 (pt_cmpR op_notIn_seq (pv 1) (pv 0) (by with_unfolding_all rfl)))))
      (pss_one (ps_ret (pe_tup pa_nil)))
      pss_nil)
      (pss_one (ps_ret (pe_slice sl_tupW (pv 0) (po_some (pe_op op_add (pe_bmT PySem.F.slot_tuple_index PySem.F.type_tuple_index (mt_indexTt (hu10 hr)) (pv 0) (pa_cons (pv 1) pa_nil)) pe_int)) po_none)))), ?_⟩
    cases h with
    | none =>
      obtain ⟨ty, h1, h2⟩ := hv
      refine ⟨_, rfl, _, _, _, false, rfl, h1, h2, _, rfl, iteT ?_⟩
      exact ⟨Nat.zero_le _, fun q' hq' => k q' _ upd_same (Same.new hq')⟩
    | some x =>
      have ev : vh = .str x := hv
      subst ev
      refine ⟨_, rfl, _, _, _, true, rfl, .str x, kit_same K "str", _, rfl, iteF ?_⟩
      refine ⟨_, rfl, _, rfl, q, _, rfl, .inr (SqT.of hq), rfl, flat_strs _, _, rfl, ite2 (fun hb => ?_) (fun hb => ?_)⟩
      · have hb : (!inV (.str x) (ks.map V.str)) = true := hb
        rw [inV_strs] at hb
        have hn : ¬ x ∈ ks := fun h => by rw [decide_eq_true h] at hb; cases hb
        refine ⟨Nat.zero_le _, fun q' hq' => k q' _ ?_ (Same.new hq')⟩
        show _ = some (HO.tup ((after x ks).map V.str))
        rw [after_no hn, upd_same]
        rfl
      · have hb : ¬ (!inV (.str x) (ks.map V.str)) = true := hb
        rw [inV_strs] at hb
        have hin : x ∈ ks := by
          by_cases h : x ∈ ks
          · exact h
          · rw [decide_eq_false h] at hb; exact absurd rfl hb
        obtain ⟨j, h1, h2⟩ := first_at hin
        obtain ⟨t1, t2⟩ := first_T h1 h2
        have hjl : j < ks.length := (List.getElem?_eq_some_iff.mp h1).1
        refine ⟨_, rfl, _, rfl, ⟨q, _, rfl, hq⟩, _, rfl, q, .str x, _, T.str x, ks.map T.str, j, rfl, rfl, hq, L2.Dp.str x, DpL.strs _, lv_strs, t1, t2, ?_⟩
        refine ⟨_, _, rfl, rfl, _, rfl, q, _, rfl, hq, fun q8 H8 hq8 s8 => ?_⟩
        have ec : cutV (ks.map V.str) (some ((j : Int) + 1)) none = (after x ks).map V.str := by
          have := cutV_from (ks.map V.str) (j + 1) (by rw [List.length_map]; omega)
          rw [← List.map_drop, ← after_at h1 h2] at this
          exact this
        rw [ec] at hq8
        exact k q8 H8 hq8 s8
end
end K10
end
section
set_option autoImplicit false
namespace K10
open PySem PyProof.Rows L2
theorem kit_ls (K : PySem.W.Frag) : PySem.W.kitOne K (.type "list") (.type "str") = some false := by rfl
theorem kit_ts (K : PySem.W.Frag) : PySem.W.kitOne K (.type "tuple") (.type "str") = some false := by rfl
theorem kit_ds (K : PySem.W.Frag) : PySem.W.kitOne K (.type "dict") (.type "str") = some false := by rfl
theorem kit_bs (K : PySem.W.Frag) : PySem.W.kitOne K (.type "bool") (.type "str") = some false := by rfl
theorem kit_ns (K : PySem.W.Frag) : PySem.W.kitOne K (.type "NoneType") (.type "str") = some false := by rfl
theorem HomeV.non {K : PySem.W.Frag} {H : Hp} : HomeV K H .non none := ⟨_, .non, kit_ns K⟩
theorem HomeV.bl {K : PySem.W.Frag} {H : Hp} (b : Bool) : HomeV K H (.bl b) none := ⟨_, .bl b, kit_bs K⟩
theorem HomeV.int {K : PySem.W.Frag} {H : Hp} (n : Int) : HomeV K H (.int n) none := ⟨_, .int n, kit_is' K⟩
theorem HomeV.str {K : PySem.W.Frag} {H : Hp} (x : Str) : HomeV K H (.str x) (some x) := rfl
theorem HomeV.tup {K : PySem.W.Frag} {H : Hp} {a : Addr} {xs : List V} (e : H a = some (.tup xs)) : HomeV K H (.ref a) none := ⟨_, .tup e, kit_ts K⟩
theorem HomeV.lst {K : PySem.W.Frag} {H : Hp} {a : Addr} {xs : List V} (e : H a = some (.lst xs)) : HomeV K H (.ref a) none := ⟨_, .lst e, kit_ls K⟩
theorem HomeV.dct {K : PySem.W.Frag} {H : Hp} {a : Addr} {kvs : List (Key × V)} (e : H a = some (.dK kvs)) : HomeV K H (.ref a) none := ⟨_, .dK e, kit_ds K⟩
section
variable {P : Program} {w : World} {K : PySem.W.Frag} {mg : Str → Option Value} {base : Heap} {t : Adr}
def spOdd (K : PySem.W.Frag) : Sp := fun vs H Q _ => ∃ (p : Addr), vs = [.ref p] ∧ Pu H p ∧ ∀ (v : V) (h : Option Str) H', HomeV K H' v h → Off p H H' → Pu H' p → Q v H'
theorem ok_odd (D : Defs K mg t) : FnOk P w K mg base CX0 2 t._law_odd.1 t._law_odd.2 ["_law_purse_here"] (spOdd K) := by
  have G__law_take : FnOk P w K mg base CX0 1 t._law_take.1 t._law_take.2 _ spTake := ok_take D
  refine D._law_odd.fn.ok sc__law_odd (fun vs H Q E h => ?_) (fun cdv A outer s H vs Q E hr h => ?_)
  · obtain ⟨p, rfl, _⟩ := h
    rfl
  · obtain ⟨p, rfl, hp, k⟩ := h
    refine ⟨_, (@pss_cons _ _ _ _ _ (@ps_set _ _ 1 _ _ _ _ sc__law_odd.nd rfl (Or.inl rfl) (@pe_lst _ _ _ _ (@pa_cons _ _ _ _ _ pe_non (@pa_cons _ _ _ _ _ pe_bl (@pa_cons _ _ _ _ _ pe_bl (@pa_cons _ _ _ _ _ pe_int (@pa_cons _ _ _ _ _ pe_int (@pa_cons _ _ _ _ _ (pe_un un_neg pe_int) (@pa_cons _ _ _ _ _ (@pe_tup _ _ _ _ _ (@pa_cons _ _ _ _ _ (@pe_lst _ _ _ _ (@pa_cons _ _ _ _ _ pe_str pa_nil (by rfl))) pa_nil (by rfl))) (@pa_cons _ _ _ _ _ pe_str (@pa_cons _ _ _ _ _ pe_str (@pa_cons _ _ _ _ _ pe_str (@pa_cons _ _ _ _ _ pe_str (@pa_cons _ _ _ _ _ pe_str (@pa_cons _ _ _ _ _ pe_str (@pa_cons _ _ _ _ _ (@pe_tup _ _ _ _ _ pa_nil) (@pa_cons _ _ _ _ _ (@pe_tup _ _ _ _ _ (@pa_cons _ _ _ _ _ pe_str pa_nil (by rfl))) (@pa_cons _ _ _ _ _ (@pe_tup _ _ _ _ _ (@pa_cons _ _ _ _ _ pe_str (@pa_cons _ _ _ _ _ pe_str pa_nil (by rfl)) (by rfl))) pa_nil (by rfl)) (by rfl)) (by rfl)) (by rfl)) (by rfl)) (by rfl)) (by rfl)) (by rfl)) (by rfl)) (by rfl)) (by rfl)) (by rfl)) (by rfl)) (by rfl)) (by rfl)) (by rfl))) (by rfl) (by first | exact .inl rfl | exact .inr rfl))
      (@pss_cons _ _ _ _ _ (ps_set (i := 2) sc__law_odd.nd rfl (Or.inl rfl) (@pe_callF _ _ _ _ _ _ _ _ _ _ _ _ _ D._law_take G__law_take (hr.mono (by omega)) (by rfl) (@pa_cons _ _ _ _ _ (pv 0) (@pa_cons _ _ _ _ _ (@pe_op _ _ _ _ _ _ _ _ op_add (@pe_callB _ _ _ _ _ _ _ _ _ call_len_seq (by rfl) D.b_len bt_len (@pa_cons _ _ _ _ _ (pv 1) pa_nil (by rfl)) (by decide) (by decide) (by rfl) (by rfl)) pe_int) pa_nil (by rfl)) (by rfl)) (by decide) (by rfl) (by rfl)))
      (@pss_cons _ _ _ _ _ (@ps_if _ _ _ _ _ _ _ _ (pt_cmpR op_lt (pv 2) (@pe_callB _ _ _ _ _ _ _ _ _ call_len_seq (by rfl) D.b_len bt_len (@pa_cons _ _ _ _ _ (pv 1) pa_nil (by rfl)) (by decide) (by decide) (by rfl) (by rfl)) (nomark _))
      (@pss_one _ _ _ (@ps_ret _ _ _ _ (@pe_ix _ _ _ _ _ _ _ ix_list (pv 1) (pv 2) (fun _ _ => rfl))))
      pss_nil)
      (@pss_cons _ _ _ _ _ (ps_set (i := 3) sc__law_odd.nd rfl (Or.inl rfl) (@pe_tup _ _ _ _ _ pa_nil))
      (@pss_cons _ _ _ _ _ (ps_for PassesOwn.never rfl (pi_range1 rfl D.b_range (@pa_cons _ _ _ _ _ pe_int pa_nil (by rfl))) (pg_name (i := 4) sc__law_odd.nd rfl (Or.inl rfl))
      (@pss_one _ _ _ (ps_set (i := 3) sc__law_odd.nd rfl (Or.inl rfl) (@pe_tup _ _ _ _ _ (@pa_cons _ _ _ _ _ (pv 3) pa_nil (by rfl))))))
      (@pss_one _ _ _ (@ps_ret _ _ _ _ (@pe_ix _ _ _ _ _ _ _ ix_list (@pe_lst _ _ _ _ (@pa_cons _ _ _ _ _ (@pe_lst _ _ _ _ pa_nil) (@pa_cons _ _ _ _ _ (@pe_lst _ _ _ _ (@pa_cons _ _ _ _ _ pe_str pa_nil (by rfl))) (@pa_cons _ _ _ _ _ pe_dnewK (@pa_cons _ _ _ _ _ (pe_disp (pps_cons pe_str pe_int pps_nil) rfl rfl (by intro z; cases z) (by decide)) (@pa_cons _ _ _ _ _ (pv 3) (@pa_cons _ _ _ _ _ (@pe_lst _ _ _ _ (@pa_cons _ _ _ _ _ (pv 3) pa_nil (by rfl))) pa_nil (by rfl)) (by rfl)) (by rfl)) (by rfl)) (by rfl)) (by rfl))) (@pe_op _ _ _ _ _ _ _ _ op_sub (pv 2) (@pe_callB _ _ _ _ _ _ _ _ _ call_len_seq (by rfl) D.b_len bt_len (@pa_cons _ _ _ _ _ (pv 1) pa_nil (by rfl)) (by decide) (by decide) (by rfl) (by rfl))) (fun _ _ => rfl))))))))), ?_⟩
    refine ⟨1, rfl, by show 1 ≤ sizeLine; decide, fun a1 ha1 => ⟨by show 1 ≤ sizeLine; decide, fun t1 ht1 => ⟨Nat.zero_le _, fun t2 ht2 => ⟨by show 1 ≤ sizeLine; decide, fun t3 ht3 => ⟨by show 2 ≤ sizeLine; decide, fun t4 ht4 => ⟨by show 16 ≤ sizeLine; decide, fun m hm => ?_⟩⟩⟩⟩⟩⟩
    have s1 := (Same.new (o := .lst [.str "a"]) ha1).trans (Same.new (o := .tup [.ref a1]) ht1)
    have e1 : (upd (upd H a1 (.lst [.str "a"])) t1 (.tup [.ref a1])) t1 = some (.tup [.ref a1]) := upd_same
    generalize upd (upd H a1 (.lst [.str "a"])) t1 (.tup [.ref a1]) = H1 at s1 e1 ht2 ht3 ht4 hm ⊢
    have s2 : Same H1 (upd H1 t2 (.tup [])) := Same.new ht2
    have e2 : (upd H1 t2 (.tup [])) t2 = some (.tup []) := upd_same
    generalize upd H1 t2 (.tup []) = H2 at s2 e2 ht3 ht4 hm ⊢
    have s3 : Same H2 (upd H2 t3 (.tup [.str "a"])) := Same.new ht3
    have e3 : (upd H2 t3 (.tup [.str "a"])) t3 = some (.tup [.str "a"]) := upd_same
    generalize upd H2 t3 (.tup [.str "a"]) = H3 at s3 e3 ht4 hm ⊢
    have s4 : Same H3 (upd H3 t4 (.tup [.str "a", .str "a"])) := Same.new ht4
    have e4 : (upd H3 t4 (.tup [.str "a", .str "a"])) t4 = some (.tup [.str "a", .str "a"]) := upd_same
    generalize upd H3 t4 (.tup [.str "a", .str "a"]) = H4 at s4 e4 hm ⊢
    generalize hvs : [V.non, V.bl true, V.bl false, V.int 0, V.int 1, V.int (-1), V.ref t1, V.str "", V.str "a", V.str "A", V.str "a1", V.str "abcdefg", V.str "a b", V.ref t2, V.ref t3, V.ref t4] = vs
    have hvl : vs.length = 16 := by rw [← hvs]; rfl
    have hvh : ∀ i : Nat, i < 16 → ∃ v h, vs[i]? = some v ∧ ∀ H' : Hp, Tups H4 H' → HomeV K H' v h := fun i hi => by
      have z1 : ∀ H' : Hp, Tups H4 H' → HomeV K H' (.ref t1) none := fun H' tu => HomeV.tup (tu _ _ (s4 _ _ (s3 _ _ (s2 _ _ e1))))
      have z2 : ∀ H' : Hp, Tups H4 H' → HomeV K H' (.ref t2) none := fun H' tu => HomeV.tup (tu _ _ (s4 _ _ (s3 _ _ e2)))
      have z3 : ∀ H' : Hp, Tups H4 H' → HomeV K H' (.ref t3) none := fun H' tu => HomeV.tup (tu _ _ (s4 _ _ e3))
      have z4 : ∀ H' : Hp, Tups H4 H' → HomeV K H' (.ref t4) none := fun H' tu => HomeV.tup (tu _ _ e4)
      rw [← hvs]
      rcases (by omega : i = 0 ∨ i = 1 ∨ i = 2 ∨ i = 3 ∨ i = 4 ∨ i = 5 ∨ i = 6 ∨ i = 7 ∨ i = 8 ∨ i = 9 ∨ i = 10 ∨ i = 11 ∨ i = 12 ∨ i = 13 ∨ i = 14 ∨ i = 15) with rfl | rfl | rfl | rfl | rfl | rfl | rfl | rfl | rfl | rfl | rfl | rfl | rfl | rfl | rfl | rfl
      · exact ⟨_, _, rfl, fun _ _ => HomeV.non⟩
      · exact ⟨_, _, rfl, fun _ _ => HomeV.bl _⟩
      · exact ⟨_, _, rfl, fun _ _ => HomeV.bl _⟩
      · exact ⟨_, _, rfl, fun _ _ => HomeV.int _⟩
      · exact ⟨_, _, rfl, fun _ _ => HomeV.int _⟩
      · exact ⟨_, _, rfl, fun _ _ => HomeV.int _⟩
      · exact ⟨_, _, rfl, z1⟩
      · exact ⟨_, _, rfl, fun _ _ => HomeV.str _⟩
      · exact ⟨_, _, rfl, fun _ _ => HomeV.str _⟩
      · exact ⟨_, _, rfl, fun _ _ => HomeV.str _⟩
      · exact ⟨_, _, rfl, fun _ _ => HomeV.str _⟩
      · exact ⟨_, _, rfl, fun _ _ => HomeV.str _⟩
      · exact ⟨_, _, rfl, fun _ _ => HomeV.str _⟩
      · exact ⟨_, _, rfl, z2⟩
      · exact ⟨_, _, rfl, z3⟩
      · exact ⟨_, _, rfl, z4⟩
    have s04 := s1.trans (s2.trans (s3.trans s4))
    have p4 : Pu H4 p := hp.same s04
    clear s1 s2 s3 s4 e1 e2 e3 e4 hvs
    have pm : p ≠ m := p4.neN hm
    have s5 : Same H4 (upd H4 m (.lst vs)) := Same.new hm
    have p5 : Pu (upd H4 m (.lst vs)) p := p4.upd_ne pm
    have hm5 : (upd H4 m (.lst vs)) m = some (.lst vs) := upd_same
    generalize upd H4 m (.lst vs) = H5 at s5 p5 hm5
    refine ⟨_, rfl, _, rfl, m, _, rfl, .inl (SqL.of hm5), _, _, rfl, rfl, p, _, rfl, p5, by rw [hvl]; decide, by rw [hvl]; decide, fun r a b c l u => ?_⟩
    have u : r < 22 := by rw [hvl] at u; exact u
    have o6 : Off p H5 (upd H5 p (.lst [.int a, .int b, .int c])) := Off.upd
    have p6 : Pu (upd H5 p (.lst [.int a, .int b, .int c])) p := Pu.upd
    have hm6 := o6 m _ pm.symm hm5
    have o46 : Off p H4 (upd H5 p (.lst [.int a, .int b, .int c])) := s5.off.trans o6
    generalize upd H5 p (.lst [.int a, .int b, .int c]) = H6 at o6 p6 hm6 o46
    refine ⟨_, rfl, _, rfl, m, _, rfl, .inl (SqL.of hm6), _, _, rfl, rfl, _, rfl, ite2 (fun hb => ?_) (fun hb => ?_)⟩
    · have hb : r < 16 := by
        have := of_decide_eq_true hb
        rw [hvl] at this
        exact this
      obtain ⟨j, rfl⟩ : ∃ j : Nat, r = (j : Int) := ⟨r.toNat, by omega⟩
      obtain ⟨v, h, ev, hv⟩ := hvh j (by omega)
      refine ⟨_, rfl, _, rfl, m, _, _, _, rfl, rfl, SqL.of hm6, atI_nat ev, ?_⟩
      refine k v h H6 (hv H6 fun c zs e => ?_) (s04.off.trans o46) p6
      obtain ⟨x1, x2, x3, ep⟩ := p4
      exact o46 c _ (ne_of e ep (fun z => nomatch z)) e
    · have hb : ¬ r < 16 := fun h => hb (decide_eq_true (by rw [hvl]; exact h))
      refine ⟨Nat.zero_le _, fun d hd => ?_⟩
      refine ⟨_, rfl, by decide, by decide, ?_⟩
      have pd : p ≠ d := p6.neN hd
      refine for_range (lo := 0) (n := (24 : Int).toNat) (fun i σ H2 => ∃ (q : Addr) (xs : List V) (v4 : Option V), σ = [some (.ref p), some (.ref m), some (.int r), some (.ref q), v4] ∧ H2 q = some (.tup xs) ∧ Same H6 H2)
        ⟨d, [], _, rfl, upd_same, Same.new hd⟩ ?_ ?_
      · rintro i σ H2 hi ⟨q, xs, v4, rfl, hq, s2⟩
        refine ⟨_, rfl, by show 1 ≤ sizeLine; decide, fun q2 hq2 => ?_⟩
        exact ⟨q2, _, _, rfl, upd_same, s2.trans (Same.new hq2)⟩
      · rintro σ H2 ⟨q, xs, v4, rfl, hq, s2⟩
        refine ⟨Nat.zero_le _, fun l1 hl1 => ⟨by show 1 ≤ sizeLine; decide, fun l2 hl2 => fun d1 hd1 => fun d2 hd2 => ?_⟩⟩
        have sa : Same H2 (upd (upd H2 l1 (.lst [])) l2 (.lst [.str "a"])) := (Same.new hl1).trans (Same.new hl2)
        have f1 : (upd (upd H2 l1 (.lst [])) l2 (.lst [.str "a"])) l1 = some (.lst []) := by rw [upd_ne (ne_of_none upd_same hl2), upd_same]
        have f2 : (upd (upd H2 l1 (.lst [])) l2 (.lst [.str "a"])) l2 = some (.lst [.str "a"]) := upd_same
        generalize upd (upd H2 l1 (.lst [])) l2 (.lst [.str "a"]) = H3 at sa f1 f2 hd1 hd2 ⊢
        have sb : Same H3 (upd H3 d1 (.dK [])) := Same.new hd1
        have f3 : (upd H3 d1 (.dK [])) d1 = some (.dK []) := upd_same
        generalize upd H3 d1 (.dK []) = H4' at sb f3 hd2 ⊢
        refine ⟨upd_same, [(.inr "a", .int 1)], rfl, by decide, ?_⟩
        rw [upd_upd]
        have sc : Same H4' (upd H4' d2 (.dK (mergeK [] [(.inr "a", .int 1)]))) := Same.new hd2
        have f4 : (upd H4' d2 (.dK (mergeK [] [(.inr "a", .int 1)]))) d2 = some (.dK (mergeK [] [(.inr "a", .int 1)])) := upd_same
        generalize upd H4' d2 (.dK (mergeK [] [(.inr "a", .int 1)])) = H5' at sc f4 ⊢
        refine ⟨_, rfl, _, rfl, by show 1 ≤ sizeLine; decide, fun l3 hl3 => ?_⟩
        have sd : Same H5' (upd H5' l3 (.lst [.ref q])) := Same.new hl3
        have f5 : (upd H5' l3 (.lst [.ref q])) l3 = some (.lst [.ref q]) := upd_same
        generalize upd H5' l3 (.lst [.ref q]) = H6' at sd f5 ⊢
        refine ⟨by show 6 ≤ sizeLine; decide, fun l4 hl4 => ?_⟩
        have se : Same H6' (upd H6' l4 (.lst [.ref l1, .ref l2, .ref d1, .ref d2, .ref q, .ref l3])) := Same.new hl4
        have f6 : (upd H6' l4 (.lst [.ref l1, .ref l2, .ref d1, .ref d2, .ref q, .ref l3])) l4 = some (.lst [.ref l1, .ref l2, .ref d1, .ref d2, .ref q, .ref l3]) := upd_same
        generalize upd H6' l4 (.lst [.ref l1, .ref l2, .ref d1, .ref d2, .ref q, .ref l3]) = H7' at se f6 ⊢
        have sall := s2.trans (sa.trans (sb.trans (sc.trans (sd.trans se))))
        obtain ⟨v, ev, hv⟩ : ∃ v, atI [V.ref l1, .ref l2, .ref d1, .ref d2, .ref q, .ref l3] (r - 16) = some v ∧ HomeV K H7' v none := by
          have g1 := se _ _ (sd _ _ (sc _ _ (sb _ _ f1)))
          have g2 := se _ _ (sd _ _ (sc _ _ (sb _ _ f2)))
          have g3 := se _ _ (sd _ _ (sc _ _ f3))
          have g4 := se _ _ (sd _ _ f4)
          have g5 := se _ _ f5
          have g6 := se _ _ (sd _ _ (sc _ _ (sb _ _ (sa _ _ hq))))
          rcases (by omega : r = 16 ∨ r = 17 ∨ r = 18 ∨ r = 19 ∨ r = 20 ∨ r = 21) with rfl | rfl | rfl | rfl | rfl | rfl
          · exact ⟨_, atI_nat (j := 0) rfl, HomeV.lst g1⟩
          · exact ⟨_, atI_nat (j := 1) rfl, HomeV.lst g2⟩
          · exact ⟨_, atI_nat (j := 2) rfl, HomeV.dct g3⟩
          · exact ⟨_, atI_nat (j := 3) rfl, HomeV.dct g4⟩
          · exact ⟨_, atI_nat (j := 4) rfl, HomeV.tup g6⟩
          · exact ⟨_, atI_nat (j := 5) rfl, HomeV.lst g5⟩
        refine ⟨_, rfl, _, rfl, m, _, rfl, .inl (SqL.of (sall m _ hm6)), _, _, rfl, rfl, l4, _, _, v, rfl, rfl, SqL.of f6, ?_, ?_⟩
        · rw [hvl]
          exact ev
        · exact k v none H7' hv (s04.off.trans (o46.trans sall.off)) (p6.same sall)
end
end K10
end
section
set_option autoImplicit false
namespace K10
open PySem PyProof.Rows L2
theorem valV_key {κ : Type} [DecidableEq κ] : ∀ {kvs : List (κ × V)} {k : κ}, (valV kvs k).isSome = true ↔ k ∈ kvs.map (·.1)
  | [], k => by simp [valV]
  | p :: kvs, k => by
    by_cases e : p.1 = k
    · rw [valV_pos e]
      simp [e]
    · rw [valV_neg e, valV_key]
      have : ¬ k = p.1 := fun z => e z.symm
      simp [this]
def RowK (H : Hp) (kvs : List (Key × V)) (tb : List Row) : Prop := Paired (fun (kv : Key × V) (r : Row) => kv.1 = .inr r.kind ∧ Dp H (trow r) kv.2) kvs tb
theorem RowK.keys {H : Hp} {kvs : List (Key × V)} {tb : List Row} (h : RowK H kvs tb) : kvs.map (·.1) = (kns tb).map Sum.inr := by
  induction h with
  | nil => rfl
  | cons r _ ih =>
    rw [List.map_cons, ih, r.1]
    rfl
theorem RowK.rows {H : Hp} : ∀ {kvs : List (Key × V)} {tb : List Row}, RowK H kvs tb → (kns tb).Nodup → RowsD H kvs tb
  | _, _, .nil, _ => fun r hr => by cases hr
  | kv :: kvs, r0 :: tb, .cons h0 h, nd => fun r hr => by
    obtain ⟨n1, n2⟩ := List.nodup_cons.mp nd
    rcases List.mem_cons.mp hr with rfl | hr
    · exact ⟨kv.2, valV_pos (p := kv) h0.1, h0.2⟩
    · obtain ⟨u, h1, h2⟩ := RowK.rows h n2 r hr
      refine ⟨u, ?_, h2⟩
      rw [valV_neg (p := kv) (by
        rw [h0.1]
        intro z
        injection z with z
        exact n1 (List.mem_map.mpr ⟨r, hr, z.symm⟩))]
      exact h1
theorem RowK.none {H : Hp} {kvs : List (Key × V)} {tb : List Row} {i : Nat} (hi : i < tb.length) (nd : (kns tb).Nodup) (rk : RowK H kvs (tb.take i)) : valV kvs (.inr tb[i].kind) = none := by
  cases q : valV kvs (.inr tb[i].kind) with
  | none => rfl
  | some y =>
    exfalso
    have h1 : (valV kvs (.inr tb[i].kind)).isSome = true := by rw [q]; rfl
    rw [valV_key, rk.keys, List.mem_map] at h1
    obtain ⟨z, hz', e⟩ := h1
    injection e with e
    subst e
    unfold kns at hz'
    rw [List.map_take] at hz'
    unfold kns at nd
    have hkl : i < (tb.map (·.kind)).length := by rw [List.length_map]; exact hi
    rw [← List.take_append_drop i (tb.map (·.kind))] at nd
    have hd : tb[i].kind ∈ (tb.map (·.kind)).drop i := by
      rw [List.drop_eq_getElem_cons hkl, List.getElem_map]
      exact List.mem_cons_self
    exact (List.nodup_append.mp nd).2.2 _ hz' _ hd rfl
theorem dictA_by {i : Nat} {σ : L2.St} {R : It → Hp → Prop} {H : Hp} {rd : Addr} {kvs : List (Key × V)} (hv : σ[i]? = some (some (.ref rd))) (h : Rd H rd (.dK kvs)) (hR : ∀ o H3, H3 rd = some (.frz o (.dK kvs)) → (∀ b u, b ≠ rd → H b = some u → H3 b = some u) → R (Itd o rd kvs) H3) :
    iDictA (tVar i) σ H R := by
  refine ⟨_, hv, rd, kvs, rfl, ?_⟩
  rcases h with h | ⟨o, h⟩
  · exact .inl ⟨h, fun o => hR o _ upd_same fun b u hb e => by rw [upd_ne hb]; exact e⟩
  · exact .inr ⟨o, h, hR o H h fun b u _ e => e⟩
section
variable {P : Program} {w : World} {K : PySem.W.Frag} {mg : Str → Option Value} {base : Heap} {t : Adr}
def spLooks : Sp := fun vs H Q _ => ∃ (v : V) (l : Addr) (tb : List Row) (ns : List Str), vs = [v, .ref l] ∧ Dp H (tabT tb) v ∧ GoodTb tb ∧ H l = some (.lst (ns.map V.str)) ∧ ∀ H', Same H H' → Q (.bl true) H'
theorem ok_looks (D : Defs K mg t) : FnOk P w K mg base CX0 6 t._law_looks.1 t._law_looks.2 ["_law_table_here", "_law_names_here"] spLooks := by
  have G_found : FnOk P w K mg base CX0 5 t.found.1 t.found.2 _ spFound := ok_found D
  have G_behind : FnOk P w K mg base CX0 5 t.behind.1 t.behind.2 _ (spBehind K) := ok_behind D
  have G__law_same : FnOk P w K mg base CX0 3 t._law_same.1 t._law_same.2 _ spSame := ok_same D
  have G__law_look : FnOk P w K mg base CX0 1 t._law_look.1 t._law_look.2 _ spLook := ok_look D
  have G__law_rest : FnOk P w K mg base CX0 1 t._law_rest.1 t._law_rest.2 _ (spRest K) := ok_rest D
  have hz : sizeLine = 16777216 := sizeLine_eq
  refine D._law_looks.fn.ok sc__law_looks (fun vs H Q E h => ?_) (fun cdv A outer s H vs Q E hr h => ?_)
  · obtain ⟨v, l, tb, ns, rfl, _⟩ := h
    rfl
  · obtain ⟨v, l, tb, ns, rfl, dv, G, hl, k⟩ := h
    obtain ⟨a, xs, rfl, ha, dl⟩ := L2.Dp.of_tup dv
    have hxl : xs.length = tb.length := by have := dl.length; rwa [List.length_map] at this
    have h7 := G.len
    refine ⟨_, (pss_cons (ps_set (i := 2) sc__law_looks.nd rfl (Or.inl rfl) pe_dnewK)
      (pss_cons (ps_for PassesOwn.never rfl (pi_tup (pv 0)) (pg_name (i := 3) sc__law_looks.nd rfl (Or.inl rfl))
      (pss_one (ps_dput (hu_of hr) (pv 2) (pe_ix ix_tup (pv 3) pe_int (fun _ _ => rfl)) (pv 3) rfl)))
      (pss_cons (ps_for PassesOwn.never rfl (pi_tup (pv 0)) (pg_name (i := 3) sc__law_looks.nd rfl (Or.inl rfl))
      (pss_one (ps_for PassesOwn.never rfl (pi_list (pv 1)) (pg_name (i := 4) sc__law_looks.nd rfl (Or.inl rfl))
      (pss_cons (ps_if (pt_not (pt_val (pe_callF D._law_same G__law_same (hr.mono (by omega)) (by rfl) (pa_cons (pe_callF D.found G_found (hr.mono (by omega)) (by rfl) (pa_cons (pv 0) (pa_cons (pe_ix ix_tup (pv 3) pe_int (fun _ _ => rfl)) (pa_cons (pv 4) pa_nil)))) (pa_cons (pe_callF D._law_look G__law_look (hr.mono (by omega)) (by rfl) (pa_cons (pv 2) (pa_cons (pe_ix ix_tup (pv 3) pe_int (fun _ _ => rfl)) (pa_cons (pv 4) pa_nil)))) pa_nil)))))
      (pss_one (ps_ret pe_bl))
      pss_nil)
      (pss_one (ps_for PassesOwn.never rfl (pi_dictA (pv 2)) (pg_name (i := 5) sc__law_looks.nd rfl (Or.inl rfl))
      (pss_cons (ps_set (i := 6) sc__law_looks.nd rfl (Or.inl rfl) (pe_callF D._law_look G__law_look (hr.mono (by omega)) (by rfl) (pa_cons (pv 2) (pa_cons (pe_callF D._law_rest G__law_rest (hr.mono (by omega)) (by rfl) (pa_cons (pe_ix ix_tup (pv 3) pe_int (fun _ _ => rfl)) (pa_cons (pv 5) pa_nil))) (pa_cons (pv 4) pa_nil)))))
      (pss_one (ps_if (pt_not (pt_val (pe_callF D._law_same G__law_same (hr.mono (by omega)) (by rfl) (pa_cons (pe_callF D.behind G_behind (hr.mono (by omega)) (by rfl) (pa_cons (pv 0) (pa_cons (pe_ix ix_tup (pv 3) pe_int (fun _ _ => rfl)) (pa_cons (pv 5) (pa_cons (pv 4) pa_nil))))) (pa_cons (pv 6) pa_nil)))))
      (pss_one (ps_ret pe_bl))
      pss_nil)))))))))
      (pss_one (ps_ret pe_bl))))), ?_⟩
    intro rd hrd
    have s0 : ∀ u, Same H (upd H rd u) := fun u => Same.new hrd
    refine ⟨_, rfl, a, rfl, ⟨_, SqT.of (s0 _ a _ ha)⟩, ?_⟩
    refine for_tup (K := K) (a := a) (xs := xs) (fun i σ H2 => ∃ (v3 : Option V) (kvs : List (Key × V)), σ = [some (.ref a), some (.ref l), some (.ref rd), v3, none, none, none] ∧ H2 = upd H rd (.dK kvs) ∧ RowK H kvs (tb.take i))
      ⟨_, [], rfl, rfl, .nil⟩ (fun i σ H2 _ ⟨_, _, _, e, _⟩ => by rw [e]; exact SqT.of (s0 _ a _ ha)) ?_ ?_
    · rintro i x σ H2 hi ⟨v2, kvs, rfl, rfl, rk⟩
      have hit : i < tb.length := by
        have := (List.getElem?_eq_some_iff.mp hi).1
        omega
      obtain ⟨y, ey, dy⟩ := dl.get (i := i) (t := trow tb[i]) (by rw [List.getElem?_map, List.getElem?_eq_getElem hit]; rfl)
      rw [hi] at ey
      cases ey
      have s2 := s0 (.dK kvs)
      obtain ⟨q, e, o, f, g, rfl, hq, _⟩ := K10.Dp.of_row6 dy
      have hkl : kvs.length ≤ 7 := by rw [Paired.length rk, List.length_take]; omega
      refine ⟨_, rfl, _, rfl, _, rfl, q, _, _, _, rfl, rfl, SqT.of (s2 q _ hq), atI_nat (j := 0) rfl, rd, _, rfl, DPut.k (k := .inr tb[i].kind) upd_same (by omega), ?_⟩
      rw [upd_upd, putK_new _ (rk.none hit G.nd)]
      refine ⟨_, _, rfl, rfl, ?_⟩
      rw [take_snoc hit]
      exact pairedSnoc rk ⟨rfl, dy⟩
    rintro σ H2 ⟨v2, kvs, rfl, rfl, rk⟩
    rw [hxl, List.take_of_length_le (Nat.le_refl _)] at rk
    have rows := rk.rows G.nd
    have s2 := s0 (.dK kvs)
    have hrd2 : Rd (upd H rd (.dK kvs)) rd (.dK kvs) := .inl upd_same
    generalize upd H rd (.dK kvs) = H2 at s2 hrd2
    refine ⟨_, rfl, a, rfl, ⟨_, SqT.of (s2 a _ ha)⟩, ?_⟩
    refine for_tup (K := K) (a := a) (xs := xs) (fun i σ H3 => ∃ (v3 v4 v5 v6 : Option V), σ = [some (.ref a), some (.ref l), some (.ref rd), v3, v4, v5, v6] ∧ Same H H3 ∧ Rd H3 rd (.dK kvs))
      ⟨_, _, _, _, rfl, s2, hrd2⟩ (fun i σ H3 _ ⟨_, _, _, _, _, e, _⟩ => SqT.of (e a _ ha)) ?_ ?_
    · rintro i x σ H3 hi ⟨v3, v4, v5, v6, rfl, s3, hrd3⟩
      have hit : i < tb.length := by
        have := (List.getElem?_eq_some_iff.mp hi).1
        omega
      obtain ⟨y, ey, dy⟩ := dl.get (i := i) (t := trow tb[i]) (by rw [List.getElem?_map, List.getElem?_eq_getElem hit]; rfl)
      rw [hi] at ey
      cases ey
      obtain ⟨q, e, o, f, g, rfl, hq, _, ho, _⟩ := K10.Dp.of_row6 dy
      have hr' : tb[i] ∈ tb := List.getElem_mem hit
      generalize tb[i] = r at hq ho hr'
      refine ⟨_, rfl, l, rfl, ⟨_, SqL.of (s3 l _ hl)⟩, ?_⟩
      refine for_list (K := K) (a := l) (xs := ns.map V.str) (fun j σ H4 => ∃ (v4 v5 v6 : Option V), σ = [some (.ref a), some (.ref l), some (.ref rd), some (.ref q), v4, v5, v6] ∧ Same H H4 ∧ Rd H4 rd (.dK kvs))
        ⟨_, _, _, rfl, s3, hrd3⟩ (fun j σ H4 _ ⟨_, _, _, _, e, _⟩ => SqL.of (e l _ hl)) ?_ ?_
      · rintro j x σ H4 hj ⟨v4, v5, v6, rfl, s4, hrd4⟩
        obtain ⟨d, _, rfl⟩ := List.mem_map.mp (List.mem_of_getElem? hj)
        refine ⟨_, rfl, _, rfl, q, _, _, _, rfl, rfl, SqT.of (s4 q _ hq), atI_nat (j := 0) rfl, _, rfl, .ref a, tb, r, d, rfl, dv.mono (Same.tups s4), G, hr', fun u H5 hu s5 => ?_⟩
        have s45 := s4.trans s5
        refine ⟨_, rfl, _, rfl, q, _, _, _, rfl, rfl, SqT.of (s45 q _ hq), atI_nat (j := 2) rfl, _, rfl, rd, o, kvs, tb, r.order, d, rfl, K10.Rd.same hrd4 s5, rows.mono (Same.tups s45), G, s45 o _ ho, G.ord r hr', fun u' H6 hu' s6 => ?_⟩
        refine ⟨u, u', _, rfl, hu.mono (Same.tups s6), hu', fun H7 s7 => ⟨_, rfl, iteF ?_⟩⟩
        have s47 := s45.trans (s6.trans s7)
        have hrd7 := K10.Rd.same hrd4 (s5.trans (s6.trans s7))
        show tFor (iDictA (tVar 2)) _ _ _ _ _
        unfold tFor
        refine dictA_by (i := 2) (rd := rd) (kvs := kvs) ?_ hrd7 fun ob H8 h8 kp8 => ?_
        · rfl
        have s8 : Same H H8 := fun b u e => kp8 b u (ne_of_none e hrd) (s47 b u e)
        refine for_dict (fun m σ H9 => ∃ (v5 v6 : Option V), σ = [some (.ref a), some (.ref l), some (.ref rd), some (.ref q), some (.str d), v5, v6] ∧ Same H H9 ∧ H9 rd = some (.frz ob (.dK kvs)))
          ⟨_, _, rfl, s8, h8⟩ (fun m σ H9 _ ⟨_, _, _, _, e⟩ => e) ?_ ?_
        · rintro m kv σ H9 hm ⟨v5, v6, rfl, s9, h9⟩
          obtain ⟨x, ex⟩ : ∃ x : Str, kV kv.1 = .str x := by
            have h := List.mem_map_of_mem (f := (·.1)) (List.mem_of_getElem? hm)
            rw [rk.keys] at h
            obtain ⟨x, _, e⟩ := List.mem_map.mp h
            exact ⟨x, by rw [← e]; rfl⟩
          rw [ex]
          refine ⟨_, rfl, _, rfl, q, _, _, _, rfl, rfl, SqT.of (s9 q _ hq), atI_nat (j := 2) rfl, _, rfl, .str x, o, r.order, some x, rfl, rfl, s9 o _ ho, fun q' H10 hq' s10 => ?_⟩
          have s910 := s9.trans s10
          refine ⟨_, rfl, rd, q', kvs, tb, restF r.order (some x), d, rfl, .inr ⟨ob, s10 rd _ h9⟩, rows.mono (Same.tups s910), G, hq', fun y hy => G.ord r hr' y (restF_sub hy), fun u1 H11 hu1 s11 => ?_⟩
          have s11' := s910.trans s11
          refine ⟨_, rfl, _, rfl, q, _, _, _, rfl, rfl, SqT.of (s11' q _ hq), atI_nat (j := 0) rfl, _, rfl, _, rfl, .ref a, .str x, tb, r, some x, d, rfl, dv.mono (Same.tups s11'), G, hr', rfl, fun u2 H12 hu2 s12 => ?_⟩
          refine ⟨_, rfl, u2, u1, _, rfl, hu2, hu1.mono (Same.tups s12), fun H13 s13 => ⟨_, rfl, iteF ?_⟩⟩
          exact ⟨_, _, rfl, s11'.trans (s12.trans s13), (s10.trans (s11.trans (s12.trans s13))) rd _ h9⟩
        · rintro σ H9 ⟨v5, v6, rfl, s9, h9⟩
          exact ⟨_, _, _, rfl, s9, .inr ⟨ob, h9⟩⟩
      · rintro σ H4 ⟨v4, v5, v6, rfl, s4, hrd4⟩
        exact ⟨_, _, _, _, rfl, s4, hrd4⟩
    · rintro σ H3 ⟨v3, v4, v5, v6, rfl, s3, _⟩
      exact k H3 s3
end
end K10
end
section
set_option autoImplicit false
namespace K10
open PySem PyProof.Rows L2
theorem SqL.keep {K : PySem.W.Frag} {H H' : Hp} {a : Addr} {xs : List V} (h : SqL K H a xs) (k : ∀ o, H a = some o → H' a = some o) : SqL K H' a xs := by
  rcases h with (h | ⟨o, h⟩) | h
  · exact .inl (.inl (k _ h))
  · exact .inl (.inr ⟨o, k _ h⟩)
  · exact .inr h
section
variable {P : Program} {w : World} {K : PySem.W.Frag} {mg : Str → Option Value} {base : Heap} {t : Adr}
def spCells (K : PySem.W.Frag) : Sp := fun vs H Q _ => ∃ (a : Addr) (ns : List Int), vs = [.ref a, .int 1, .int 3, .int 12] ∧ SqL K H a (ns.map V.int) ∧ ns.length ≤ 63 ∧ ∀ (l : Addr) (ms : List Int) H', H' l = some (.lst (ms.map V.int)) → ms.length ≤ 12 → H l = none → Same H H' → Q (.ref l) H'
theorem ok_cells (D : Defs K mg t) : FnOk P w K mg base CX0 2 t._law_cells.1 t._law_cells.2 ["_law_script", "_law_first", "_law_least", "_law_most"] (spCells K) := by
  have G__law_cell : FnOk P w K mg base CX0 1 t._law_cell.1 t._law_cell.2 _ (spCell K) := ok_cell D
  have hz : sizeLine = 16777216 := sizeLine_eq
  refine D._law_cells.fn.ok sc__law_cells (fun vs H Q E h => ?_) (fun cdv A outer s H vs Q E hr h => ?_)
  · obtain ⟨a, ns, rfl, _⟩ := h
    rfl
  · obtain ⟨a, ns, rfl, hS, hl, k⟩ := h
    refine ⟨_, (pss_cons (ps_set (i := 4) sc__law_cells.nd rfl (Or.inl rfl) (pe_callB (call_max2 rfl) (by rfl) D.b_max bt_max (pa_cons (pv 2) (pa_cons (pe_callB (call_min2 rfl) (by rfl) D.b_min bt_min (pa_cons (pv 3) (pa_cons (pe_op op_sub (pe_callB call_len_seq (by rfl) D.b_len bt_len (pa_cons (pv 0) pa_nil)) (pv 1)) pa_nil))) pa_nil))))
      (pss_one (ps_ret (pe_comp rfl (CompScope.of ["_law_k"] [0, 1] ["_law_k", "_law_script", "_law_first"] (defScope (top 15)) ["_law_script", "_law_first", "_law_least", "_law_most", "_law_many"] rfl rfl (by decide +kernel)) ⟨fun _ _ _ _ _ => (pg_name (i := 0) (show List.Nodup [("_law_k" : Str), ("_law_script" : Str), ("_law_first" : Str)] by decide +kernel) rfl (Or.inl (lookup_relabel_local rfl)) (.inr (lookup_relabel_local rfl))), fun _ _ _ _ _ => pts_nil, fun _ _ _ _ _ => (pe_callF D._law_cell G__law_cell (hr.mono (by omega)) (by rfl) (pa_cons (pv 1) (pa_cons (pe_op op_add (pv 2) (pv 0)) pa_nil)))⟩ (pi_range1 rfl D.b_range (pa_cons (pv 4) pa_nil)))))), ?_⟩
    refine ⟨_, rfl, _, rfl, _, rfl, a, _, rfl, .inl hS, _, rfl, _, _, rfl, rfl, _, _, rfl, _, _, rfl, ?_⟩
    have hN : ∃ N : Int, (if (if ((ns.map V.int).length : Int) - 1 < 12 then ((ns.map V.int).length : Int) - 1 else 12) > 3 then (if ((ns.map V.int).length : Int) - 1 < 12 then ((ns.map V.int).length : Int) - 1 else 12) else 3) = N ∧ 0 ≤ N ∧ N ≤ 12 := by
      refine ⟨_, rfl, ?_, ?_⟩ <;> (split <;> split <;> omega)
    obtain ⟨N, eN, hN0, hN12⟩ := hN
    rw [eN]
    refine ⟨_, rfl, N, rfl, by omega, by omega, fun D1 hD1 => ?_⟩
    have s1 : ∀ u, Same H (upd H D1 u) := fun u => Same.new hD1
    refine comp_by (n := N.toNat) (fun i ys H2 => ∃ ms : List Int, ys = ms.map V.int ∧ ms.length = i ∧ H2 D1 = some (.lst ys) ∧ Same H H2) ⟨[], rfl, rfl, upd_same, s1 _⟩ ?_ ?_
    · rintro ys H2 ⟨ms, rfl, hm, hD2, s2⟩
      refine ⟨Nat.le_refl _, ?_⟩
      exact k D1 ms H2 hD2 (by omega) hD1 s2
    · rintro i ys H2 hi ⟨ms, rfl, hm, hD2, s2⟩
      refine ⟨hi, ?_⟩
      rintro x H3 ⟨rfl, rfl⟩ σo ho
      obtain ⟨oo, rfl⟩ := own1 ho
      refine ⟨⟨[_], rfl, rfl⟩, yes_by ⟨_, rfl, _, rfl, _, rfl, _, _, rfl, rfl, a, ns, _, rfl, SqL.keep hS fun o e => s2 a o e, hl, by omega, by omega, fun n H4 s4 => ?_⟩⟩
      refine ⟨by rw [List.length_map]; omega, s4 D1 _ hD2, less_by hi ⟨ms ++ [n], by rw [List.map_append]; rfl, by rw [List.length_append, hm]; rfl, upd_same, fun b u e => by rw [upd_ne (ne_of_none e hD1)]; exact s4 b u (s2 b u e)⟩⟩
end
end K10
end
section
set_option autoImplicit false
namespace K10
open PySem PyProof.Rows L2
theorem same_off {p : Addr} {H H1 H2 : Hp} (s : Same H H1) (o : L2.Off p H1 H2) (hp : H p = none) : Same H H2 := fun b u e => o b u (ne_of_none e hp) (s b u e)
theorem tups_off {p : Addr} {H1 H2 : Hp} (o : L2.Off p H1 H2) (hp : Pu H1 p) : Tups H1 H2 := fun c zs e => by
  obtain ⟨x1, x2, x3, ep⟩ := hp
  exact o c _ (ne_of e ep (fun z => nomatch z)) e
section
variable {P : Program} {w : World} {K : PySem.W.Frag} {mg : Str → Option Value} {base : Heap} {t : Adr}
def spLaw (K : PySem.W.Frag) : Sp := fun vs H Q _ => ∃ (a : Addr) (ns : List Int), vs = [.ref a] ∧ SqL K H a (ns.map V.int) ∧ ns.length ≤ 63 ∧ ∀ H', Q (.bl true) H'
theorem ok_law (D : Defs K mg t) : FnOk P w K mg base CX0 7 t.law.1 t.law.2 ["_law_script"] (spLaw K) := by
  have G__law_take : FnOk P w K mg base CX0 1 t._law_take.1 t._law_take.2 _ spTake := ok_take D
  have G__law_purse : FnOk P w K mg base CX0 1 t._law_purse.1 t._law_purse.2 _ spPurse := ok_purse D
  have G__law_cell : FnOk P w K mg base CX0 1 t._law_cell.1 t._law_cell.2 _ (spCell K) := ok_cell D
  have G__law_cells : FnOk P w K mg base CX0 2 t._law_cells.1 t._law_cells.2 _ (spCells K) := ok_cells D
  have G__law_word : FnOk P w K mg base CX0 2 t._law_word.1 t._law_word.2 _ spWord := ok_word D
  have G__law_names : FnOk P w K mg base CX0 3 t._law_names.1 t._law_names.2 _ spNames := ok_names D
  have G__law_table : FnOk P w K mg base CX0 4 t._law_table.1 t._law_table.2 _ spTable := ok_table D
  have G__law_called : FnOk P w K mg base CX0 1 t._law_called.1 t._law_called.2 _ spCalled := ok_called D
  have G__law_looks : FnOk P w K mg base CX0 6 t._law_looks.1 t._law_looks.2 _ spLooks := ok_looks D
  have G__law_odd : FnOk P w K mg base CX0 2 t._law_odd.1 t._law_odd.2 _ (spOdd K) := ok_odd D
  have G__law_look : FnOk P w K mg base CX0 1 t._law_look.1 t._law_look.2 _ spLook := ok_look D
  have G__law_rest : FnOk P w K mg base CX0 1 t._law_rest.1 t._law_rest.2 _ (spRest K) := ok_rest D
  have G__law_same : FnOk P w K mg base CX0 3 t._law_same.1 t._law_same.2 _ spSame := ok_same D
  have G_behind : FnOk P w K mg base CX0 5 t.behind.1 t.behind.2 _ (spBehind K) := ok_behind D
  have hz : sizeLine = 16777216 := sizeLine_eq
  refine D.law.fn.ok sc_law (fun vs H Q E h => ?_) (fun cdv A outer s H vs Q E hr h => ?_)
  · obtain ⟨a, ns, rfl, _⟩ := h
    rfl
  · obtain ⟨a, ns, rfl, hS, hl, k⟩ := h
    refine ⟨_, (pss_cons (ps_set (i := 1) sc_law.nd rfl (Or.inl rfl) (pe_callF D._law_purse G__law_purse (hr.mono (by omega)) (by rfl) (pa_cons (pe_callF D._law_cell G__law_cell (hr.mono (by omega)) (by rfl) (pa_cons (pv 0) (pa_cons pe_int pa_nil))) pa_nil)))
      (pss_cons (ps_set (i := 2) sc_law.nd rfl (Or.inl rfl) (pe_op op_add pe_int (pe_callF D._law_take G__law_take (hr.mono (by omega)) (by rfl) (pa_cons (pv 1) (pa_cons pe_int pa_nil)))))
      (pss_cons (ps_set (i := 3) sc_law.nd rfl (Or.inl rfl) (pe_callF D._law_names G__law_names (hr.mono (by omega)) (by rfl) (pa_cons (pv 1) (pa_cons (pe_op op_add pe_int (pe_callF D._law_take G__law_take (hr.mono (by omega)) (by rfl) (pa_cons (pv 1) (pa_cons pe_int pa_nil)))) (pa_cons (pe_lst pa_nil) pa_nil)))))
      (pss_cons (ps_set (i := 4) sc_law.nd rfl (Or.inl rfl) (pe_callF D._law_table G__law_table (hr.mono (by omega)) (by rfl) (pa_cons (pv 1) (pa_cons (pv 2) (pa_cons (pv 3) (pa_cons (pe_lst (pa_cons pe_str pa_nil)) pa_nil))))))
      (pss_cons (ps_set (i := 5) sc_law.nd rfl (Or.inl rfl) pe_dnewK)
      (pss_cons (ps_for PassesOwn.never rfl (pi_tup (pv 4)) (pg_name (i := 6) sc_law.nd rfl (Or.inl rfl))
      (pss_one (ps_dput (hu_of hr) (pv 5) (pe_ix ix_tup (pv 6) pe_int (fun _ _ => rfl)) (pv 6) rfl)))
      (pss_cons (ps_set (i := 7) sc_law.nd rfl (Or.inl rfl) (pe_op op_cat (pv 3) (pe_lst (pa_cons (pe_callF D._law_word G__law_word (hr.mono (by omega)) (by rfl) (pa_cons (pv 1) (pa_cons (pv 3) pa_nil))) pa_nil))))
      (pss_cons (ps_set (i := 8) sc_law.nd rfl (Or.inl rfl) (pe_callF D._law_called G__law_called (hr.mono (by omega)) (by rfl) (pa_cons (pe_callF D._law_table G__law_table (hr.mono (by omega)) (by rfl) (pa_cons (pv 1) (pa_cons (pv 2) (pa_cons (pv 3) (pa_cons (pe_lst (pa_cons pe_str pa_nil)) pa_nil))))) (pa_cons (pv 4) pa_nil))))
      (pss_cons (ps_if (PW.pt (pw_or (pt_not (pt_val (pe_callF D._law_looks G__law_looks (hr.mono (by omega)) (by rfl) (pa_cons (pv 4) (pa_cons (pv 7) pa_nil))))) (pw_or (pt_not (pt_val (pe_callF D._law_looks G__law_looks (hr.mono (by omega)) (by rfl) (pa_cons (pv 8) (pa_cons (pv 7) pa_nil))))) (pw_or1 (pt_not (pt_val (pe_callF D._law_looks G__law_looks (hr.mono (by omega)) (by rfl) (pa_cons (pv 4) (pa_cons (pv 7) pa_nil)))))))))
      (pss_one (ps_ret pe_bl))
      pss_nil)
      (pss_cons (ps_for PassesOwn.never rfl (pi_list (pe_callF D._law_cells G__law_cells (hr.mono (by omega)) (by rfl) (pa_cons (pv 0) (pa_cons pe_int (pa_cons pe_int (pa_cons pe_int pa_nil)))))) (pg_name (i := 9) sc_law.nd rfl (Or.inl rfl))
      (pss_cons (ps_set (i := 1) sc_law.nd rfl (Or.inl rfl) (pe_callF D._law_purse G__law_purse (hr.mono (by omega)) (by rfl) (pa_cons (pv 9) pa_nil)))
      (pss_cons (ps_set (i := 6) sc_law.nd rfl (Or.inl rfl) (pe_ix ix_tup (pv 4) (pe_callF D._law_take G__law_take (hr.mono (by omega)) (by rfl) (pa_cons (pv 1) (pa_cons (pv 2) pa_nil))) (fun _ _ => rfl)))
      (pss_cons (ps_set (i := 10) sc_law.nd rfl (Or.inl rfl) (pe_ix ix_list (pv 3) (pe_callF D._law_take G__law_take (hr.mono (by omega)) (by rfl) (pa_cons (pv 1) (pa_cons (pe_callB call_len_seq (by rfl) D.b_len bt_len (pa_cons (pv 3) pa_nil)) pa_nil))) (fun _ _ => rfl)))
      (pss_cons (ps_set (i := 11) sc_law.nd rfl (Or.inl rfl) (pe_callF D._law_take G__law_take (hr.mono (by omega)) (by rfl) (pa_cons (pv 1) (pa_cons pe_int pa_nil))))
      (pss_cons (ps_set (i := 12) sc_law.nd rfl (Or.inl rfl) (pe_ix ix_list (pe_lst (pa_cons (pe_callF D._law_word G__law_word (hr.mono (by omega)) (by rfl) (pa_cons (pv 1) (pa_cons (pe_lst pa_nil) pa_nil))) (pa_cons (pe_op op_add_str (pe_ix ix_tup (pv 6) pe_int (fun _ _ => rfl)) pe_str) (pa_cons (pe_tup (pa_cons (pe_ix ix_tup (pv 6) pe_int (fun _ _ => rfl)) pa_nil)) (pa_cons (pe_lst (pa_cons (pe_ix ix_tup (pv 6) pe_int (fun _ _ => rfl)) pa_nil)) (pa_cons (pe_callF D._law_odd G__law_odd (hr.mono (by omega)) (by rfl) (pa_cons (pv 1) pa_nil)) pa_nil)))))) (pv 11) (fun _ _ => rfl)))
      (pss_cons (ps_set (i := 13) sc_law.nd rfl (Or.inl rfl) (pe_callF D._law_look G__law_look (hr.mono (by omega)) (by rfl) (pa_cons (pv 5) (pa_cons (pe_callF D._law_rest G__law_rest (hr.mono (by omega)) (by rfl) (pa_cons (pe_ix ix_tup (pv 6) pe_int (fun _ _ => rfl)) (pa_cons (pv 12) pa_nil))) (pa_cons (pv 10) pa_nil)))))
      (pss_one (ps_if (pt_not (pt_val (pe_callF D._law_same G__law_same (hr.mono (by omega)) (by rfl) (pa_cons (pe_callF D.behind G_behind (hr.mono (by omega)) (by rfl) (pa_cons (pv 4) (pa_cons (pe_ix ix_tup (pv 6) pe_int (fun _ _ => rfl)) (pa_cons (pv 12) (pa_cons (pv 10) pa_nil))))) (pa_cons (pv 13) pa_nil)))))
      (pss_one (ps_ret pe_bl))
      pss_nil)))))))))
      (pss_one (ps_ret pe_bl)))))))))))), ?_⟩
    refine ⟨_, rfl, a, ns, 0, rfl, hS, hl, by decide, by decide, fun z0 H1 s1 => ⟨z0, rfl, fun p a1 b1 c1 hp => ?_⟩⟩
    have hpH : H p = none := by
      cases q : H p with
      | none => rfl
      | some o => rw [s1 p o q] at hp; cases hp
    have s2 : Same H (upd H1 p (.lst [.int a1, .int b1, .int c1])) := s1.trans (Same.new hp)
    have p2 : Pu (upd H1 p (.lst [.int a1, .int b1, .int c1])) p := Pu.upd
    generalize upd H1 p (.lst [.int a1, .int b1, .int c1]) = H2 at s2 p2
    refine ⟨_, rfl, p, 7, rfl, p2, by decide, by decide, fun r a2 b2 c2 l2 u2 => ⟨_, _, rfl, rfl, ?_⟩⟩
    have s3 := same_off s2 (Off.upd (p := p) (o := .lst [.int a2, .int b2, .int c2])) hpH
    have p3 : Pu (upd H2 p (.lst [.int a2, .int b2, .int c2])) p := Pu.upd
    generalize upd H2 p (.lst [.int a2, .int b2, .int c2]) = H3 at s3 p3
    obtain ⟨n, en, hn1, hn7⟩ : ∃ n : Nat, 1 + r = (n : Int) ∧ 1 ≤ n ∧ n ≤ 7 := ⟨(1 + r).toNat, by omega, by omega, by omega⟩
    refine ⟨_, rfl, _, rfl, p, 3, rfl, p3, by decide, by decide, fun r4 a4 b4 c4 l4 u4 => ⟨_, _, rfl, rfl, Nat.zero_le _, fun u hu => ?_⟩⟩
    have s4 := same_off s3 (Off.upd (p := p) (o := .lst [.int a4, .int b4, .int c4])) hpH
    have p4 : Pu (upd H3 p (.lst [.int a4, .int b4, .int c4])) p := Pu.upd
    generalize upd H3 p (.lst [.int a4, .int b4, .int c4]) = H4 at s4 p4 hu ⊢
    refine ⟨p, u, [], 1 + r4, rfl, p4.upd_ne (p4.neN hu), upd_same, by omega, by show 0 + _ ≤ 25; omega, fun dl ds H5 _ hds _ _ hdl5 o5 p5 => ?_⟩
    have s5 := same_off (s4.trans (Same.new hu)) o5 hpH
    have dlp : dl ≠ p := p5.ne hdl5
    have hds1 : 1 ≤ ds.length := by omega
    have hds3 : ds.length ≤ 3 := by omega
    refine ⟨_, rfl, _, rfl, _, rfl, by show 1 ≤ sizeLine; decide, fun f1 hf1 => ⟨p, dl, f1, n, ds, ["a"], (show [V.ref p, V.int (1 + r), V.ref dl, V.ref f1] = _ by rw [en]), p5.upd_ne (p5.neN hf1), hn1, hn7, by rw [upd_ne (ne_of_none hdl5 hf1)]; exact hdl5, hds3, upd_same, by decide, fun v tb H6 dv G hlen o6 p6 => ?_⟩⟩
    have s6 := same_off (s5.trans (Same.new hf1)) o6 hpH
    have hdl6 := o6 dl _ dlp (by rw [upd_ne (ne_of_none hdl5 hf1)]; exact hdl5)
    obtain ⟨ta, xs, rfl, hta, dxs⟩ := L2.Dp.of_tup dv
    have hxl : xs.length = tb.length := by have := dxs.length; rwa [List.length_map] at this
    have h7 := G.len
    intro rd hrd
    have srd : ∀ u, Same H6 (upd H6 rd u) := fun u => Same.new hrd
    refine ⟨_, rfl, ta, rfl, ⟨_, SqT.of (srd _ ta _ hta)⟩, ?_⟩
    refine for_tup (K := K) (a := ta) (xs := xs) (fun i σ H7 => ∃ (v6 : Option V) (kvs : List (Key × V)), σ = [some (.ref a), some (.ref p), some (.int (1 + r)), some (.ref dl), some (.ref ta), some (.ref rd), v6, none, none, none, none, none, none, none] ∧ H7 = upd H6 rd (.dK kvs) ∧ RowK H6 kvs (tb.take i))
      ⟨_, [], rfl, rfl, .nil⟩ (fun i σ H7 _ ⟨_, _, _, e, _⟩ => by rw [e]; exact SqT.of (srd _ ta _ hta)) ?_ ?_
    · rintro i x σ H7 hi ⟨v6, kvs, rfl, rfl, rk⟩
      have hit : i < tb.length := by
        have := (List.getElem?_eq_some_iff.mp hi).1
        omega
      obtain ⟨y, ey, dy⟩ := dxs.get (i := i) (t := trow tb[i]) (by rw [List.getElem?_map, List.getElem?_eq_getElem hit]; rfl)
      rw [hi] at ey
      cases ey
      obtain ⟨q, e, o, f, g, rfl, hq, _⟩ := K10.Dp.of_row6 dy
      have hkl : kvs.length ≤ 7 := by rw [Paired.length rk, List.length_take]; omega
      refine ⟨_, rfl, _, rfl, _, rfl, q, _, _, _, rfl, rfl, SqT.of (srd _ q _ hq), atI_nat (j := 0) rfl, rd, _, rfl, DPut.k (k := .inr tb[i].kind) upd_same (by omega), ?_⟩
      rw [upd_upd, putK_new _ (rk.none hit G.nd)]
      refine ⟨_, _, rfl, rfl, ?_⟩
      rw [take_snoc hit]
      exact pairedSnoc rk ⟨rfl, dy⟩
    rintro σ H7 ⟨v6, kvs, rfl, rfl, rk⟩
    rw [hxl, List.take_of_length_le (Nat.le_refl _)] at rk
    have rows := rk.rows G.nd
    have s7 := s6.trans (srd (.dK kvs))
    have p7 : Pu (upd H6 rd (.dK kvs)) p := p6.same (srd _)
    have hdl7 := srd (.dK kvs) dl _ hdl6
    have dv7 := dv.mono (Same.tups (srd (.dK kvs)))
    have rows7 := rows.mono (Same.tups (srd (.dK kvs)))
    have hrd7 : (upd H6 rd (.dK kvs)) rd = some (.dK kvs) := upd_same
    have rdp : rd ≠ p := (p6.neN hrd).symm
    clear rk rows srd
    generalize upd H6 rd (.dK kvs) = H7 at s7 p7 hdl7 dv7 rows7 hrd7
    refine ⟨_, rfl, _, rfl, _, rfl, p, dl, ds, rfl, p7, hdl7, by omega, fun x H8 _ _ _ o8 p8 => ?_⟩
    have s8 := same_off s7 o8 hpH
    have hdl8 := o8 dl _ dlp hdl7
    have hrd8 := o8 rd _ rdp hrd7
    have dv8 := dv7.mono (tups_off o8 p7)
    have rows8 := rows7.mono (tups_off o8 p7)
    refine ⟨by show 1 ≤ sizeLine; decide, fun m hm => ?_⟩
    have s9 : Same H8 (upd H8 m (.lst [.str x])) := Same.new hm
    have hm9 : (upd H8 m (.lst [.str x])) m = some (.lst [.str x]) := upd_same
    generalize upd H8 m (.lst [.str x]) = H9 at s9 hm9
    refine ⟨dl, m, ds.map V.str, [.str x], rfl, rfl, s9 dl _ hdl8, hm9, by rw [List.length_map]; show _ + 1 ≤ sizeLine; omega, fun nl hnl => ?_⟩
    have s10 : Same H8 (upd H9 nl (.lst (ds.map V.str ++ [.str x]))) := s9.trans (Same.new hnl)
    have hnl10 : (upd H9 nl (.lst (ds.map V.str ++ [.str x]))) nl = some (.lst ((ds ++ [x]).map V.str)) := by rw [upd_same, List.map_append]; rfl
    generalize upd H9 nl (.lst (ds.map V.str ++ [.str x])) = H10 at s10 hnl10
    have p10 := p8.same s10
    have hdl10 := s10 dl _ hdl8
    have hrd10 := s10 rd _ hrd8
    have dv10 := dv8.mono (Same.tups s10)
    have rows10 := rows8.mono (Same.tups s10)
    have sH10 := s8.trans s10
    have nlp : nl ≠ p := p10.ne hnl10
    refine ⟨_, rfl, _, rfl, _, rfl, by show 1 ≤ sizeLine; decide, fun f2 hf2 => ⟨p, dl, f2, n, ds, ["a"], (show [V.ref p, V.int (1 + r), V.ref dl, V.ref f2] = _ by rw [en]), p10.upd_ne (p10.neN hf2), hn1, hn7, by rw [upd_ne (ne_of_none hdl10 hf2)]; exact hdl10, hds3, upd_same, by decide, fun v' tb' H11 dv' G' hlen' o11 p11 => ?_⟩⟩
    have o11 : Off p H10 H11 := (Off.new hf2).trans o11
    have sH11 := same_off sH10 o11 hpH
    have hdl11 := o11 dl _ dlp hdl10
    have hrd11 := o11 rd _ rdp hrd10
    have hnl11 := o11 nl _ nlp hnl10
    have dv11 := dv10.mono (tups_off o11 p10)
    have rows11 := rows10.mono (tups_off o11 p10)
    refine ⟨_, rfl, v', .ref ta, tb', tb, rfl, dv', dv11, G', G, hlen'.trans hlen.symm, fun vo to H12 dvo Go _ s12 => ?_⟩
    refine ⟨_, rfl, _, rfl, .ref ta, nl, tb, ds ++ [x], rfl, dv11.mono (Same.tups s12), G, s12 nl _ hnl11, fun H13 s13 => ⟨true, rfl, iteF ?_⟩⟩
    refine ⟨_, rfl, _, rfl, vo, nl, to, ds ++ [x], rfl, dvo.mono (Same.tups s13), Go, (s12.trans s13) nl _ hnl11, fun H14 s14 => ⟨true, rfl, iteF ?_⟩⟩
    refine ⟨_, rfl, _, rfl, .ref ta, nl, tb, ds ++ [x], rfl, dv11.mono (Same.tups (s12.trans (s13.trans s14))), G, (s12.trans (s13.trans s14)) nl _ hnl11, fun H15 s15 => ⟨true, rfl, iteF ?_⟩⟩
    have s1115 := s12.trans (s13.trans (s14.trans s15))
    have sH15 := sH11.trans s1115
    have hdl15 := s1115 dl _ hdl11
    have hrd15 := s1115 rd _ hrd11
    have dv15 := dv11.mono (Same.tups s1115)
    have rows15 := rows11.mono (Same.tups s1115)
    clear dv11 rows11 hdl11 hrd11 hnl11 dv10 rows10 hdl10 hrd10 dv8 rows8 hdl8 hrd8 dv7 rows7 hdl7 hrd7 dvo dv'
    refine ⟨_, rfl, a, ns, rfl, SqL.keep hS fun o e => sH15 a o e, hl, fun cl ms H16 hcl16 hms _ s16 => ⟨cl, rfl, ⟨_, SqL.of hcl16⟩, ?_⟩⟩
    have hdl16 := s16 dl _ hdl15
    have hrd16 := s16 rd _ hrd15
    have dv16 := dv15.mono (Same.tups s16)
    have rows16 := rows15.mono (Same.tups s16)
    obtain ⟨ta', xs', e, hta16, dxs16⟩ := L2.Dp.of_tup dv16
    cases e
    have hxl16 : xs'.length = tb.length := by have := dxs16.length; rwa [List.length_map] at this
    refine for_list (K := K) (a := cl) (xs := ms.map V.int) (fun i σ H2 => ∃ (v1 v6 v7 v8 v9 v10 v11 v12 v13 : Option V), σ = [some (.ref a), v1, some (.int (1 + r)), some (.ref dl), some (.ref ta), some (.ref rd), v6, v7, v8, v9, v10, v11, v12, v13] ∧ Same H16 H2)
      ⟨_, _, _, _, _, _, _, _, _, rfl, Same.refl _⟩ (fun i σ H2 _ ⟨_, _, _, _, _, _, _, _, _, _, e⟩ => SqL.of (e cl _ hcl16)) ?_ ?_
    · rintro i x σ H17 hi ⟨v1, v6, v7, v8, v9, v10, v11, v12, v13, rfl, s17⟩
      obtain ⟨z, _, rfl⟩ := List.mem_map.mp (List.mem_of_getElem? hi)
      refine ⟨_, rfl, z, rfl, fun p' a5 b5 c5 hp' => ?_⟩
      have hpH' : H16 p' = none := by
        cases q : H16 p' with
        | none => rfl
        | some o => rw [s17 p' o q] at hp'; cases hp'
      have s18 : Same H16 (upd H17 p' (.lst [.int a5, .int b5, .int c5])) := s17.trans (Same.new hp')
      have p18 : Pu (upd H17 p' (.lst [.int a5, .int b5, .int c5])) p' := Pu.upd
      generalize upd H17 p' (.lst [.int a5, .int b5, .int c5]) = H18 at s18 p18
      refine ⟨_, rfl, _, rfl, _, rfl, p', 1 + r, rfl, p18, by omega, by omega, fun r19 a6 b6 c6 l6 u6 => ?_⟩
      have s19 := same_off s18 (Off.upd (p := p') (o := .lst [.int a6, .int b6, .int c6])) hpH'
      have p19 : Pu (upd H18 p' (.lst [.int a6, .int b6, .int c6])) p' := Pu.upd
      generalize upd H18 p' (.lst [.int a6, .int b6, .int c6]) = H19 at s19 p19
      obtain ⟨j, rfl⟩ : ∃ j : Nat, r19 = (j : Int) := ⟨r19.toNat, by omega⟩
      have hjt : j < tb.length := by omega
      obtain ⟨y, ey, dy⟩ := dxs16.get (i := j) (t := trow tb[j]) (by rw [List.getElem?_map, List.getElem?_eq_getElem hjt]; rfl)
      obtain ⟨q, e, o, f, g, rfl, hq, _, ho, _⟩ := K10.Dp.of_row6 dy
      have hr' : tb[j] ∈ tb := List.getElem_mem hjt
      have hkl := G.kl _ hr'
      refine ⟨ta, _, _, _, rfl, rfl, SqT.of (s19 ta _ hta16), atI_nat ey, ?_⟩
      generalize tb[j] = rw' at hq ho hr' hkl
      refine ⟨_, rfl, _, rfl, _, rfl, dl, _, rfl, .inl (SqL.of (s19 dl _ hdl16)), p', _, rfl, p19, by rw [List.length_map]; omega, by rw [List.length_map]; omega, fun r20 a7 b7 c7 l7 u7 => ?_⟩
      have s20 := same_off s19 (Off.upd (p := p') (o := .lst [.int a7, .int b7, .int c7])) hpH'
      have p20 : Pu (upd H19 p' (.lst [.int a7, .int b7, .int c7])) p' := Pu.upd
      generalize upd H19 p' (.lst [.int a7, .int b7, .int c7]) = H20 at s20 p20
      have u7 : r20 < ds.length := by rw [List.length_map] at u7; exact u7
      obtain ⟨jd, rfl⟩ : ∃ jd : Nat, r20 = (jd : Int) := ⟨r20.toNat, by omega⟩
      have hjd : jd < ds.length := by omega
      refine ⟨dl, _, _, _, rfl, rfl, SqL.of (s20 dl _ hdl16), atI_nat (show (ds.map V.str)[jd]? = some (.str ds[jd]) by rw [List.getElem?_map, List.getElem?_eq_getElem hjd]; rfl), ?_⟩
      generalize ds[jd] = d
      refine ⟨_, rfl, p', 5, rfl, p20, by decide, by decide, fun pk a8 b8 c8 l8 u8 => ?_⟩
      have s21 := same_off s20 (Off.upd (p := p') (o := .lst [.int a8, .int b8, .int c8])) hpH'
      have p21 : Pu (upd H20 p' (.lst [.int a8, .int b8, .int c8])) p' := Pu.upd
      generalize upd H20 p' (.lst [.int a8, .int b8, .int c8]) = H21 at s21 p21
      refine ⟨_, rfl, Nat.zero_le _, fun u9 hu9 => ⟨p', u9, [], rfl, p21.upd_ne (p21.neN hu9), upd_same, by decide, fun y1 H22 _ _ _ o22 p22 => ?_⟩⟩
      have s22 := same_off (s21.trans (Same.new hu9)) o22 hpH'
      refine ⟨_, rfl, q, _, _, _, rfl, rfl, SqT.of (s22 q _ hq), atI_nat (j := 0) rfl, _, _, rfl, rfl, by show rw'.kind.length + 1 ≤ sizeLine; omega, ?_⟩
      refine ⟨_, rfl, q, _, _, _, rfl, rfl, SqT.of (s22 q _ hq), atI_nat (j := 0) rfl, by show 1 ≤ sizeLine; decide, fun t1 ht1 => ?_⟩
      have s23 := Same.new (o := .tup [.str rw'.kind]) ht1
      have e1 : (upd H22 t1 (.tup [.str rw'.kind])) t1 = some (.tup [.str rw'.kind]) := upd_same
      generalize upd H22 t1 (.tup [.str rw'.kind]) = H23 at s23 e1
      refine ⟨_, rfl, q, _, _, _, rfl, rfl, SqT.of ((s22.trans s23) q _ hq), atI_nat (j := 0) rfl, by show 1 ≤ sizeLine; decide, fun t2 ht2 => ?_⟩
      have s24 := Same.new (o := .lst [.str rw'.kind]) ht2
      have e2 : (upd H23 t2 (.lst [.str rw'.kind])) t2 = some (.lst [.str rw'.kind]) := upd_same
      have p24 : Pu (upd H23 t2 (.lst [.str rw'.kind])) p' := (p22.same s23).same s24
      have t2p : t2 ≠ p' := ((p22.same s23).neN ht2).symm
      have e1' := s24 t1 _ e1
      generalize upd H23 t2 (.lst [.str rw'.kind]) = H24 at s24 e2 p24 e1'
      refine ⟨_, rfl, p', rfl, p24, fun vo' ho' H25 hv25 o25 p25 => ?_⟩
      have s25 := same_off (s22.trans (s23.trans s24)) o25 hpH'
      have f1 := tups_off o25 p24 t1 _ e1'
      have f2 := o25 t2 _ t2p e2
      refine ⟨by show 5 ≤ sizeLine; decide, fun hm5 hhm5 => ?_⟩
      have s26 := Same.new (o := .lst [.str y1, .str (rw'.kind ++ "a"), .ref t1, .ref t2, vo']) hhm5
      have e26 : (upd H25 hm5 (.lst [.str y1, .str (rw'.kind ++ "a"), .ref t1, .ref t2, vo'])) hm5 = some (.lst [.str y1, .str (rw'.kind ++ "a"), .ref t1, .ref t2, vo']) := upd_same
      generalize upd H25 hm5 (.lst [.str y1, .str (rw'.kind ++ "a"), .ref t1, .ref t2, vo']) = H26 at s26 e26
      have s1626 := s25.trans s26
      obtain ⟨vh, hh, eh, hvh⟩ : ∃ (vh : V) (hh : Option Str), atI [.str y1, .str (rw'.kind ++ "a"), .ref t1, .ref t2, vo'] pk = some vh ∧ HomeV K H26 vh hh := by
        rcases (by omega : pk = 0 ∨ pk = 1 ∨ pk = 2 ∨ pk = 3 ∨ pk = 4) with rfl | rfl | rfl | rfl | rfl
        · exact ⟨_, _, atI_nat (j := 0) rfl, HomeV.str _⟩
        · exact ⟨_, _, atI_nat (j := 1) rfl, HomeV.str _⟩
        · exact ⟨_, _, atI_nat (j := 2) rfl, HomeV.tup (s26 t1 _ f1)⟩
        · exact ⟨_, _, atI_nat (j := 3) rfl, HomeV.lst (s26 t2 _ f2)⟩
        · exact ⟨_, _, atI_nat (j := 4) rfl, hv25.same s26⟩
      refine ⟨_, rfl, hm5, _, _, vh, rfl, rfl, SqL.of e26, eh, ?_⟩
      refine ⟨_, rfl, _, rfl, q, _, _, _, rfl, rfl, SqT.of (s1626 q _ hq), atI_nat (j := 2) rfl, _, rfl, vh, o, rw'.order, hh, rfl, hvh, s1626 o _ ho, fun q' H27 hq' s27 => ?_⟩
      have s1627 := s1626.trans s27
      refine ⟨_, rfl, rd, q', kvs, tb, restF rw'.order hh, d, rfl, .inl (s1627 rd _ hrd16), rows16.mono (Same.tups s1627), G, hq', fun y hy => G.ord rw' hr' y (restF_sub hy), fun ua H28 hua s28 => ?_⟩
      have s1628 := s1627.trans s28
      refine ⟨_, rfl, _, rfl, q, _, _, _, rfl, rfl, SqT.of (s1628 q _ hq), atI_nat (j := 0) rfl, _, rfl, _, rfl, .ref ta, vh, tb, rw', hh, d, rfl, dv16.mono (Same.tups s1628), G, hr', hvh.same (s27.trans s28), fun ub H29 hub s29 => ?_⟩
      refine ⟨_, rfl, ub, ua, _, rfl, hub, hua.mono (Same.tups s29), fun H30 s30 => ⟨true, rfl, iteF ?_⟩⟩
      exact ⟨_, _, _, _, _, _, _, _, _, rfl, s1628.trans (s29.trans s30)⟩
    · rintro σ H2 ⟨v1, v6, v7, v8, v9, v10, v11, v12, v13, rfl, s2'⟩
      exact k H2
end
end K10
end
section
set_option autoImplicit false
namespace K10
open PySem PyProof.Rows L2
theorem el1 {α : Type} {C : List α → Prop} (h : ∀ v0, C [v0]) : ∀ us : List α, us.length = 1 → C us
  | [v0], _ => h v0
theorem el2 {α : Type} {C : List α → Prop} (h : ∀ v0 v1, C [v0, v1]) : ∀ us : List α, us.length = 2 → C us
  | [v0, v1], _ => h v0 v1
theorem el3 {α : Type} {C : List α → Prop} (h : ∀ v0 v1 v2, C [v0, v1, v2]) : ∀ us : List α, us.length = 3 → C us
  | [v0, v1, v2], _ => h v0 v1 v2
theorem el4 {α : Type} {C : List α → Prop} (h : ∀ v0 v1 v2 v3, C [v0, v1, v2, v3]) : ∀ us : List α, us.length = 4 → C us
  | [v0, v1, v2, v3], _ => h v0 v1 v2 v3
theorem all_mk {l : PySem.W.OpenLaw} {w : World} {K : PySem.W.Frag} {h : Heap} {mg : Str → Option Value} {fa f0 f1 f2 f3 f4 f5 f6 f7 f8 f9 f10 f11 f12 f13 f14 f15 f16 f17 f18 f19 f20 f21 f22 f23 f24 f25 : Addr} (X : K.In h) (G : h.Ns mainGlobals mg) (hfa : mg "law" = some (.ref fa))
    {od0 an0 od1 an1 od2 an2 od3 an3 od4 an4 od5 an5 od6 an6 od7 an7 od8 an8 od9 an9 od10 an10 od11 an11 od12 an12 od13 an13 od14 an14 od15 an15 od16 an16 od17 an17 od18 an18 od19 an19 od20 an20 od21 an21 od22 an22 od23 an23 od24 an24 od25 an25 : Option Addr} {sl0 sl1 sl2 sl3 sl4 sl5 sl6 sl7 sl8 sl9 sl10 sl11 sl12 sl13 sl14 sl15 sl16 sl17 sl18 sl19 sl20 sl21 sl22 sl23 sl24 sl25 : Array (Option Value)} {oc0 kV0 dc0 pm0 cd0 ct0 oc1 kV1 dc1 pm1 cd1 ct1 oc2 kV2 dc2 pm2 cd2 ct2 oc3 kV3 dc3 pm3 cd3 ct3 oc4 kV4 dc4 pm4 cd4 ct4 oc5 kV5 dc5 pm5 cd5 ct5 oc6 kV6 dc6 pm6 cd6 ct6 oc7 kV7 dc7 pm7 cd7 ct7 oc8 kV8 dc8 pm8 cd8 ct8 oc9 kV9 dc9 pm9 cd9 ct9 oc10 kV10 dc10 pm10 cd10 ct10 oc11 kV11 dc11 pm11 cd11 ct11 oc12 kV12 dc12 pm12 cd12 ct12 oc13 kV13 dc13 pm13 cd13 ct13 oc14 kV14 dc14 pm14 cd14 ct14 oc15 kV15 dc15 pm15 cd15 ct15 oc16 kV16 dc16 pm16 cd16 ct16 oc17 kV17 dc17 pm17 cd17 ct17 oc18 kV18 dc18 pm18 cd18 ct18 oc19 kV19 dc19 pm19 cd19 ct19 oc20 kV20 dc20 pm20 cd20 ct20 oc21 kV21 dc21 pm21 cd21 ct21 oc22 kV22 dc22 pm22 cd22 ct22 oc23 kV23 dc23 pm23 cd23 ct23 oc24 kV24 dc24 pm24 cd24 ct24 oc25 kV25 dc25 pm25 cd25 ct25 : Value}
    (a0 : PySem.W.nsIn K mainGlobals "is_kind" = some (some (.ref f0))) (l0 : K.lookup f0 = some ⟨oc0, od0, .func (PySem.W.fnOf "is_kind" "is_kind" (defArgs (top 4)) (defBody (top 4)) (defScope (top 4)) .none kV0 dc0 pm0 an0 cd0 ct0), sl0⟩) (c0 : PySem.W.codeIn K cd0 "is_kind" = true) (k0 : PySem.W.keepIn K (.ref f0) = true)
    (a1 : PySem.W.nsIn K mainGlobals "check_kind" = some (some (.ref f1))) (l1 : K.lookup f1 = some ⟨oc1, od1, .func (PySem.W.fnOf "check_kind" "check_kind" (defArgs (top 5)) (defBody (top 5)) (defScope (top 5)) .none kV1 dc1 pm1 an1 cd1 ct1), sl1⟩) (c1 : PySem.W.codeIn K cd1 "check_kind" = true) (k1 : PySem.W.keepIn K (.ref f1) = true)
    (a2 : PySem.W.nsIn K mainGlobals "kinds_of" = some (some (.ref f2))) (l2 : K.lookup f2 = some ⟨oc2, od2, .func (PySem.W.fnOf "kinds_of" "kinds_of" (defArgs (top 6)) (defBody (top 6)) (defScope (top 6)) .none kV2 dc2 pm2 an2 cd2 ct2), sl2⟩) (c2 : PySem.W.codeIn K cd2 "kinds_of" = true) (k2 : PySem.W.keepIn K (.ref f2) = true)
    (a3 : PySem.W.nsIn K mainGlobals "row_at" = some (some (.ref f3))) (l3 : K.lookup f3 = some ⟨oc3, od3, .func (PySem.W.fnOf "row_at" "row_at" (defArgs (top 8)) (defBody (top 8)) (defScope (top 8)) .none kV3 dc3 pm3 an3 cd3 ct3), sl3⟩) (c3 : PySem.W.codeIn K cd3 "row_at" = true) (k3 : PySem.W.keepIn K (.ref f3) = true)
    (a4 : PySem.W.nsIn K mainGlobals "own_body" = some (some (.ref f4))) (l4 : K.lookup f4 = some ⟨oc4, od4, .func (PySem.W.fnOf "own_body" "own_body" (defArgs (top 9)) (defBody (top 9)) (defScope (top 9)) .none kV4 dc4 pm4 an4 cd4 ct4), sl4⟩) (c4 : PySem.W.codeIn K cd4 "own_body" = true) (k4 : PySem.W.keepIn K (.ref f4) = true)
    (a5 : PySem.W.nsIn K mainGlobals "look_along" = some (some (.ref f5))) (l5 : K.lookup f5 = some ⟨oc5, od5, .func (PySem.W.fnOf "look_along" "look_along" (defArgs (top 10)) (defBody (top 10)) (defScope (top 10)) .none kV5 dc5 pm5 an5 cd5 ct5), sl5⟩) (c5 : PySem.W.codeIn K cd5 "look_along" = true) (k5 : PySem.W.keepIn K (.ref f5) = true)
    (a6 : PySem.W.nsIn K mainGlobals "found" = some (some (.ref f6))) (l6 : K.lookup f6 = some ⟨oc6, od6, .func (PySem.W.fnOf "found" "found" (defArgs (top 11)) (defBody (top 11)) (defScope (top 11)) .none kV6 dc6 pm6 an6 cd6 ct6), sl6⟩) (c6 : PySem.W.codeIn K cd6 "found" = true) (k6 : PySem.W.keepIn K (.ref f6) = true)
    (a7 : PySem.W.nsIn K mainGlobals "behind" = some (some (.ref f7))) (l7 : K.lookup f7 = some ⟨oc7, od7, .func (PySem.W.fnOf "behind" "behind" (defArgs (top 12)) (defBody (top 12)) (defScope (top 12)) .none kV7 dc7 pm7 an7 cd7 ct7), sl7⟩) (c7 : PySem.W.codeIn K cd7 "behind" = true) (k7 : PySem.W.keepIn K (.ref f7) = true)
    (a8 : PySem.W.nsIn K mainGlobals "_law_cell" = some (some (.ref f8))) (l8 : K.lookup f8 = some ⟨oc8, od8, .func (PySem.W.fnOf "_law_cell" "_law_cell" (defArgs (top 14)) (defBody (top 14)) (defScope (top 14)) .none kV8 dc8 pm8 an8 cd8 ct8), sl8⟩) (c8 : PySem.W.codeIn K cd8 "_law_cell" = true) (k8 : PySem.W.keepIn K (.ref f8) = true)
    (a9 : PySem.W.nsIn K mainGlobals "_law_cells" = some (some (.ref f9))) (l9 : K.lookup f9 = some ⟨oc9, od9, .func (PySem.W.fnOf "_law_cells" "_law_cells" (defArgs (top 15)) (defBody (top 15)) (defScope (top 15)) .none kV9 dc9 pm9 an9 cd9 ct9), sl9⟩) (c9 : PySem.W.codeIn K cd9 "_law_cells" = true) (k9 : PySem.W.keepIn K (.ref f9) = true)
    (a10 : PySem.W.nsIn K mainGlobals "_law_purse" = some (some (.ref f10))) (l10 : K.lookup f10 = some ⟨oc10, od10, .func (PySem.W.fnOf "_law_purse" "_law_purse" (defArgs (top 16)) (defBody (top 16)) (defScope (top 16)) .none kV10 dc10 pm10 an10 cd10 ct10), sl10⟩) (c10 : PySem.W.codeIn K cd10 "_law_purse" = true) (k10 : PySem.W.keepIn K (.ref f10) = true)
    (a11 : PySem.W.nsIn K mainGlobals "_law_take" = some (some (.ref f11))) (l11 : K.lookup f11 = some ⟨oc11, od11, .func (PySem.W.fnOf "_law_take" "_law_take" (defArgs (top 17)) (defBody (top 17)) (defScope (top 17)) .none kV11 dc11 pm11 an11 cd11 ct11), sl11⟩) (c11 : PySem.W.codeIn K cd11 "_law_take" = true) (k11 : PySem.W.keepIn K (.ref f11) = true)
    (a12 : PySem.W.nsIn K mainGlobals "_law_word" = some (some (.ref f12))) (l12 : K.lookup f12 = some ⟨oc12, od12, .func (PySem.W.fnOf "_law_word" "_law_word" (defArgs (top 18)) (defBody (top 18)) (defScope (top 18)) .none kV12 dc12 pm12 an12 cd12 ct12), sl12⟩) (c12 : PySem.W.codeIn K cd12 "_law_word" = true) (k12 : PySem.W.keepIn K (.ref f12) = true)
    (a13 : PySem.W.nsIn K mainGlobals "_law_names" = some (some (.ref f13))) (l13 : K.lookup f13 = some ⟨oc13, od13, .func (PySem.W.fnOf "_law_names" "_law_names" (defArgs (top 19)) (defBody (top 19)) (defScope (top 19)) .none kV13 dc13 pm13 an13 cd13 ct13), sl13⟩) (c13 : PySem.W.codeIn K cd13 "_law_names" = true) (k13 : PySem.W.keepIn K (.ref f13) = true)
    (a14 : PySem.W.nsIn K mainGlobals "_law_some" = some (some (.ref f14))) (l14 : K.lookup f14 = some ⟨oc14, od14, .func (PySem.W.fnOf "_law_some" "_law_some" (defArgs (top 20)) (defBody (top 20)) (defScope (top 20)) .none kV14 dc14 pm14 an14 cd14 ct14), sl14⟩) (c14 : PySem.W.codeIn K cd14 "_law_some" = true) (k14 : PySem.W.keepIn K (.ref f14) = true)
    (a15 : PySem.W.nsIn K mainGlobals "_law_merge" = some (some (.ref f15))) (l15 : K.lookup f15 = some ⟨oc15, od15, .func (PySem.W.fnOf "_law_merge" "_law_merge" (defArgs (top 21)) (defBody (top 21)) (defScope (top 21)) .none kV15 dc15 pm15 an15 cd15 ct15), sl15⟩) (c15 : PySem.W.codeIn K cd15 "_law_merge" = true) (k15 : PySem.W.keepIn K (.ref f15) = true)
    (a16 : PySem.W.nsIn K mainGlobals "_law_elders" = some (some (.ref f16))) (l16 : K.lookup f16 = some ⟨oc16, od16, .func (PySem.W.fnOf "_law_elders" "_law_elders" (defArgs (top 22)) (defBody (top 22)) (defScope (top 22)) .none kV16 dc16 pm16 an16 cd16 ct16), sl16⟩) (c16 : PySem.W.codeIn K cd16 "_law_elders" = true) (k16 : PySem.W.keepIn K (.ref f16) = true)
    (a17 : PySem.W.nsIn K mainGlobals "_law_own" = some (some (.ref f17))) (l17 : K.lookup f17 = some ⟨oc17, od17, .func (PySem.W.fnOf "_law_own" "_law_own" (defArgs (top 23)) (defBody (top 23)) (defScope (top 23)) .none kV17 dc17 pm17 an17 cd17 ct17), sl17⟩) (c17 : PySem.W.codeIn K cd17 "_law_own" = true) (k17 : PySem.W.keepIn K (.ref f17) = true)
    (a18 : PySem.W.nsIn K mainGlobals "_law_table" = some (some (.ref f18))) (l18 : K.lookup f18 = some ⟨oc18, od18, .func (PySem.W.fnOf "_law_table" "_law_table" (defArgs (top 24)) (defBody (top 24)) (defScope (top 24)) .none kV18 dc18 pm18 an18 cd18 ct18), sl18⟩) (c18 : PySem.W.codeIn K cd18 "_law_table" = true) (k18 : PySem.W.keepIn K (.ref f18) = true)
    (a19 : PySem.W.nsIn K mainGlobals "_law_odd" = some (some (.ref f19))) (l19 : K.lookup f19 = some ⟨oc19, od19, .func (PySem.W.fnOf "_law_odd" "_law_odd" (defArgs (top 25)) (defBody (top 25)) (defScope (top 25)) .none kV19 dc19 pm19 an19 cd19 ct19), sl19⟩) (c19 : PySem.W.codeIn K cd19 "_law_odd" = true) (k19 : PySem.W.keepIn K (.ref f19) = true)
    (a20 : PySem.W.nsIn K mainGlobals "_law_same" = some (some (.ref f20))) (l20 : K.lookup f20 = some ⟨oc20, od20, .func (PySem.W.fnOf "_law_same" "_law_same" (defArgs (top 26)) (defBody (top 26)) (defScope (top 26)) .none kV20 dc20 pm20 an20 cd20 ct20), sl20⟩) (c20 : PySem.W.codeIn K cd20 "_law_same" = true) (k20 : PySem.W.keepIn K (.ref f20) = true)
    (a21 : PySem.W.nsIn K mainGlobals "_law_look" = some (some (.ref f21))) (l21 : K.lookup f21 = some ⟨oc21, od21, .func (PySem.W.fnOf "_law_look" "_law_look" (defArgs (top 27)) (defBody (top 27)) (defScope (top 27)) .none kV21 dc21 pm21 an21 cd21 ct21), sl21⟩) (c21 : PySem.W.codeIn K cd21 "_law_look" = true) (k21 : PySem.W.keepIn K (.ref f21) = true)
    (a22 : PySem.W.nsIn K mainGlobals "_law_rest" = some (some (.ref f22))) (l22 : K.lookup f22 = some ⟨oc22, od22, .func (PySem.W.fnOf "_law_rest" "_law_rest" (defArgs (top 28)) (defBody (top 28)) (defScope (top 28)) .none kV22 dc22 pm22 an22 cd22 ct22), sl22⟩) (c22 : PySem.W.codeIn K cd22 "_law_rest" = true) (k22 : PySem.W.keepIn K (.ref f22) = true)
    (a23 : PySem.W.nsIn K mainGlobals "_law_called" = some (some (.ref f23))) (l23 : K.lookup f23 = some ⟨oc23, od23, .func (PySem.W.fnOf "_law_called" "_law_called" (defArgs (top 29)) (defBody (top 29)) (defScope (top 29)) .none kV23 dc23 pm23 an23 cd23 ct23), sl23⟩) (c23 : PySem.W.codeIn K cd23 "_law_called" = true) (k23 : PySem.W.keepIn K (.ref f23) = true)
    (a24 : PySem.W.nsIn K mainGlobals "_law_looks" = some (some (.ref f24))) (l24 : K.lookup f24 = some ⟨oc24, od24, .func (PySem.W.fnOf "_law_looks" "_law_looks" (defArgs (top 30)) (defBody (top 30)) (defScope (top 30)) .none kV24 dc24 pm24 an24 cd24 ct24), sl24⟩) (c24 : PySem.W.codeIn K cd24 "_law_looks" = true) (k24 : PySem.W.keepIn K (.ref f24) = true)
    (a25 : PySem.W.nsIn K mainGlobals "law" = some (some (.ref f25))) (l25 : K.lookup f25 = some ⟨oc25, od25, .func (PySem.W.fnOf "law" "law" (defArgs (top 31)) (defBody (top 31)) (defScope (top 31)) .none kV25 dc25 pm25 an25 cd25 ct25), sl25⟩) (c25 : PySem.W.codeIn K cd25 "law" = true) (k25 : PySem.W.keepIn K (.ref f25) = true)
    (z0 : PySem.W.nsIn K mainGlobals "abs" = some none) (z1 : PySem.W.nsIn K mainGlobals "all" = some none) (z2 : PySem.W.nsIn K mainGlobals "any" = some none) (z3 : PySem.W.nsIn K mainGlobals "bool" = some none) (z4 : PySem.W.nsIn K mainGlobals "enumerate" = some none) (z5 : PySem.W.nsIn K mainGlobals "int" = some none) (z6 : PySem.W.nsIn K mainGlobals "isinstance" = some none) (z7 : PySem.W.nsIn K mainGlobals "len" = some none) (z8 : PySem.W.nsIn K mainGlobals "list" = some none) (z9 : PySem.W.nsIn K mainGlobals "max" = some none) (z10 : PySem.W.nsIn K mainGlobals "min" = some none) (z11 : PySem.W.nsIn K mainGlobals "range" = some none) (z12 : PySem.W.nsIn K mainGlobals "sorted" = some none) (z13 : PySem.W.nsIn K mainGlobals "str" = some none) (z14 : PySem.W.nsIn K mainGlobals "tuple" = some none) :
    ∃ fd : FuncData, (∀ (s : Shared) (v : Value), BindsTo s fd ⟨[v], []⟩ [("_law_script", v)]) ∧ ∀ base : Heap, K.In base → base.Ns mainGlobals mg → FnOk l.prog w K mg base CX0 7 fa fd ["_law_script"] (spLaw K) := by
  have e := hfa.symm.trans (PySem.W.mg_of X G a25)
  cases e
  have F0 := fun_mk (st := top 4) l0 c0 k0
  have b0 := F0.binds (ps := ["thing", "kinds"]) fun _ _ _ _ _ _ => el2 fun _ _ => rfl
  have F1 := fun_mk (st := top 5) l1 c1 k1
  have b1 := F1.binds (ps := ["kind", "kinds"]) fun _ _ _ _ _ _ => el2 fun _ _ => rfl
  have F2 := fun_mk (st := top 6) l2 c2 k2
  have b2 := F2.binds (ps := ["rows"]) fun _ _ _ _ _ _ => el1 fun _ => rfl
  have F3 := fun_mk (st := top 8) l3 c3 k3
  have b3 := F3.binds (ps := ["table", "kind"]) fun _ _ _ _ _ _ => el2 fun _ _ => rfl
  have F4 := fun_mk (st := top 9) l4 c4 k4
  have b4 := F4.binds (ps := ["row", "deed"]) fun _ _ _ _ _ _ => el2 fun _ _ => rfl
  have F5 := fun_mk (st := top 10) l5 c5 k5
  have b5 := F5.binds (ps := ["table", "kinds", "deed"]) fun _ _ _ _ _ _ => el3 fun _ _ _ => rfl
  have F6 := fun_mk (st := top 11) l6 c6 k6
  have b6 := F6.binds (ps := ["table", "kind", "deed"]) fun _ _ _ _ _ _ => el3 fun _ _ _ => rfl
  have F7 := fun_mk (st := top 12) l7 c7 k7
  have b7 := F7.binds (ps := ["table", "kind", "home", "deed"]) fun _ _ _ _ _ _ => el4 fun _ _ _ _ => rfl
  have F8 := fun_mk (st := top 14) l8 c8 k8
  have b8 := F8.binds (ps := ["_law_script", "_law_k"]) fun _ _ _ _ _ _ => el2 fun _ _ => rfl
  have F9 := fun_mk (st := top 15) l9 c9 k9
  have b9 := F9.binds (ps := ["_law_script", "_law_first", "_law_least", "_law_most"]) fun _ _ _ _ _ _ => el4 fun _ _ _ _ => rfl
  have F10 := fun_mk (st := top 16) l10 c10 k10
  have b10 := F10.binds (ps := ["_law_cell_here"]) fun _ _ _ _ _ _ => el1 fun _ => rfl
  have F11 := fun_mk (st := top 17) l11 c11 k11
  have b11 := F11.binds (ps := ["_law_purse_here", "_law_many"]) fun _ _ _ _ _ _ => el2 fun _ _ => rfl
  have F12 := fun_mk (st := top 18) l12 c12 k12
  have b12 := F12.binds (ps := ["_law_purse_here", "_law_used"]) fun _ _ _ _ _ _ => el2 fun _ _ => rfl
  have F13 := fun_mk (st := top 19) l13 c13 k13
  have b13 := F13.binds (ps := ["_law_purse_here", "_law_many", "_law_used"]) fun _ _ _ _ _ _ => el3 fun _ _ _ => rfl
  have F14 := fun_mk (st := top 20) l14 c14 k14
  have b14 := F14.binds (ps := ["_law_purse_here", "_law_menu", "_law_most"]) fun _ _ _ _ _ _ => el3 fun _ _ _ => rfl
  have F15 := fun_mk (st := top 21) l15 c15 k15
  have b15 := F15.binds (ps := ["_law_kind", "_law_rows"]) fun _ _ _ _ _ _ => el2 fun _ _ => rfl
  have F16 := fun_mk (st := top 22) l16 c16 k16
  have b16 := F16.binds (ps := ["_law_purse_here", "_law_names_here", "_law_shape", "_law_orders"]) fun _ _ _ _ _ _ => el4 fun _ _ _ _ => rfl
  have F17 := fun_mk (st := top 23) l17 c17 k17
  have b17 := F17.binds (ps := ["_law_purse_here", "_law_deeds"]) fun _ _ _ _ _ _ => el2 fun _ _ => rfl
  have F18 := fun_mk (st := top 24) l18 c18 k18
  have b18 := F18.binds (ps := ["_law_purse_here", "_law_many", "_law_deeds", "_law_fields"]) fun _ _ _ _ _ _ => el4 fun _ _ _ _ => rfl
  have F19 := fun_mk (st := top 25) l19 c19 k19
  have b19 := F19.binds (ps := ["_law_purse_here"]) fun _ _ _ _ _ _ => el1 fun _ => rfl
  have F20 := fun_mk (st := top 26) l20 c20 k20
  have b20 := F20.binds (ps := ["_law_told", "_law_due"]) fun _ _ _ _ _ _ => el2 fun _ _ => rfl
  have F21 := fun_mk (st := top 27) l21 c21 k21
  have b21 := F21.binds (ps := ["_law_rows", "_law_homes", "_law_deed"]) fun _ _ _ _ _ _ => el3 fun _ _ _ => rfl
  have F22 := fun_mk (st := top 28) l22 c22 k22
  have b22 := F22.binds (ps := ["_law_order", "_law_home"]) fun _ _ _ _ _ _ => el2 fun _ _ => rfl
  have F23 := fun_mk (st := top 29) l23 c23 k23
  have b23 := F23.binds (ps := ["_law_other", "_law_table_here"]) fun _ _ _ _ _ _ => el2 fun _ _ => rfl
  have F24 := fun_mk (st := top 30) l24 c24 k24
  have b24 := F24.binds (ps := ["_law_table_here", "_law_names_here"]) fun _ _ _ _ _ _ => el2 fun _ _ => rfl
  have F25 := fun_mk (st := top 31) l25 c25 k25
  have b25 := F25.binds (ps := ["_law_script"]) fun _ _ _ _ _ _ => el1 fun _ => rfl
  have T : Defs K mg ⟨(f0, PySem.W.fnOf "is_kind" "is_kind" (defArgs (top 4)) (defBody (top 4)) (defScope (top 4)) .none kV0 dc0 pm0 an0 cd0 ct0), (f1, PySem.W.fnOf "check_kind" "check_kind" (defArgs (top 5)) (defBody (top 5)) (defScope (top 5)) .none kV1 dc1 pm1 an1 cd1 ct1), (f2, PySem.W.fnOf "kinds_of" "kinds_of" (defArgs (top 6)) (defBody (top 6)) (defScope (top 6)) .none kV2 dc2 pm2 an2 cd2 ct2), (f3, PySem.W.fnOf "row_at" "row_at" (defArgs (top 8)) (defBody (top 8)) (defScope (top 8)) .none kV3 dc3 pm3 an3 cd3 ct3), (f4, PySem.W.fnOf "own_body" "own_body" (defArgs (top 9)) (defBody (top 9)) (defScope (top 9)) .none kV4 dc4 pm4 an4 cd4 ct4), (f5, PySem.W.fnOf "look_along" "look_along" (defArgs (top 10)) (defBody (top 10)) (defScope (top 10)) .none kV5 dc5 pm5 an5 cd5 ct5), (f6, PySem.W.fnOf "found" "found" (defArgs (top 11)) (defBody (top 11)) (defScope (top 11)) .none kV6 dc6 pm6 an6 cd6 ct6), (f7, PySem.W.fnOf "behind" "behind" (defArgs (top 12)) (defBody (top 12)) (defScope (top 12)) .none kV7 dc7 pm7 an7 cd7 ct7), (f8, PySem.W.fnOf "_law_cell" "_law_cell" (defArgs (top 14)) (defBody (top 14)) (defScope (top 14)) .none kV8 dc8 pm8 an8 cd8 ct8), (f9, PySem.W.fnOf "_law_cells" "_law_cells" (defArgs (top 15)) (defBody (top 15)) (defScope (top 15)) .none kV9 dc9 pm9 an9 cd9 ct9), (f10, PySem.W.fnOf "_law_purse" "_law_purse" (defArgs (top 16)) (defBody (top 16)) (defScope (top 16)) .none kV10 dc10 pm10 an10 cd10 ct10), (f11, PySem.W.fnOf "_law_take" "_law_take" (defArgs (top 17)) (defBody (top 17)) (defScope (top 17)) .none kV11 dc11 pm11 an11 cd11 ct11), (f12, PySem.W.fnOf "_law_word" "_law_word" (defArgs (top 18)) (defBody (top 18)) (defScope (top 18)) .none kV12 dc12 pm12 an12 cd12 ct12), (f13, PySem.W.fnOf "_law_names" "_law_names" (defArgs (top 19)) (defBody (top 19)) (defScope (top 19)) .none kV13 dc13 pm13 an13 cd13 ct13), (f14, PySem.W.fnOf "_law_some" "_law_some" (defArgs (top 20)) (defBody (top 20)) (defScope (top 20)) .none kV14 dc14 pm14 an14 cd14 ct14), (f15, PySem.W.fnOf "_law_merge" "_law_merge" (defArgs (top 21)) (defBody (top 21)) (defScope (top 21)) .none kV15 dc15 pm15 an15 cd15 ct15), (f16, PySem.W.fnOf "_law_elders" "_law_elders" (defArgs (top 22)) (defBody (top 22)) (defScope (top 22)) .none kV16 dc16 pm16 an16 cd16 ct16), (f17, PySem.W.fnOf "_law_own" "_law_own" (defArgs (top 23)) (defBody (top 23)) (defScope (top 23)) .none kV17 dc17 pm17 an17 cd17 ct17), (f18, PySem.W.fnOf "_law_table" "_law_table" (defArgs (top 24)) (defBody (top 24)) (defScope (top 24)) .none kV18 dc18 pm18 an18 cd18 ct18), (f19, PySem.W.fnOf "_law_odd" "_law_odd" (defArgs (top 25)) (defBody (top 25)) (defScope (top 25)) .none kV19 dc19 pm19 an19 cd19 ct19), (f20, PySem.W.fnOf "_law_same" "_law_same" (defArgs (top 26)) (defBody (top 26)) (defScope (top 26)) .none kV20 dc20 pm20 an20 cd20 ct20), (f21, PySem.W.fnOf "_law_look" "_law_look" (defArgs (top 27)) (defBody (top 27)) (defScope (top 27)) .none kV21 dc21 pm21 an21 cd21 ct21), (f22, PySem.W.fnOf "_law_rest" "_law_rest" (defArgs (top 28)) (defBody (top 28)) (defScope (top 28)) .none kV22 dc22 pm22 an22 cd22 ct22), (f23, PySem.W.fnOf "_law_called" "_law_called" (defArgs (top 29)) (defBody (top 29)) (defScope (top 29)) .none kV23 dc23 pm23 an23 cd23 ct23), (f24, PySem.W.fnOf "_law_looks" "_law_looks" (defArgs (top 30)) (defBody (top 30)) (defScope (top 30)) .none kV24 dc24 pm24 an24 cd24 ct24), (fa, PySem.W.fnOf "law" "law" (defArgs (top 31)) (defBody (top 31)) (defScope (top 31)) .none kV25 dc25 pm25 an25 cd25 ct25)⟩ := ⟨⟨F0, b0, PySem.W.mg_of X G a0⟩, ⟨F1, b1, PySem.W.mg_of X G a1⟩, ⟨F2, b2, PySem.W.mg_of X G a2⟩, ⟨F3, b3, PySem.W.mg_of X G a3⟩, ⟨F4, b4, PySem.W.mg_of X G a4⟩, ⟨F5, b5, PySem.W.mg_of X G a5⟩, ⟨F6, b6, PySem.W.mg_of X G a6⟩, ⟨F7, b7, PySem.W.mg_of X G a7⟩, ⟨F8, b8, PySem.W.mg_of X G a8⟩, ⟨F9, b9, PySem.W.mg_of X G a9⟩, ⟨F10, b10, PySem.W.mg_of X G a10⟩, ⟨F11, b11, PySem.W.mg_of X G a11⟩, ⟨F12, b12, PySem.W.mg_of X G a12⟩, ⟨F13, b13, PySem.W.mg_of X G a13⟩, ⟨F14, b14, PySem.W.mg_of X G a14⟩, ⟨F15, b15, PySem.W.mg_of X G a15⟩, ⟨F16, b16, PySem.W.mg_of X G a16⟩, ⟨F17, b17, PySem.W.mg_of X G a17⟩, ⟨F18, b18, PySem.W.mg_of X G a18⟩, ⟨F19, b19, PySem.W.mg_of X G a19⟩, ⟨F20, b20, PySem.W.mg_of X G a20⟩, ⟨F21, b21, PySem.W.mg_of X G a21⟩, ⟨F22, b22, PySem.W.mg_of X G a22⟩, ⟨F23, b23, PySem.W.mg_of X G a23⟩, ⟨F24, b24, PySem.W.mg_of X G a24⟩, ⟨F25, b25, PySem.W.mg_of X G a25⟩, PySem.W.mg_none_of X G z0, PySem.W.mg_none_of X G z1, PySem.W.mg_none_of X G z2, PySem.W.mg_none_of X G z3, PySem.W.mg_none_of X G z4, PySem.W.mg_none_of X G z5, PySem.W.mg_none_of X G z6, PySem.W.mg_none_of X G z7, PySem.W.mg_none_of X G z8, PySem.W.mg_none_of X G z9, PySem.W.mg_none_of X G z10, PySem.W.mg_none_of X G z11, PySem.W.mg_none_of X G z12, PySem.W.mg_none_of X G z13, PySem.W.mg_none_of X G z14⟩
  exact ⟨PySem.W.fnOf "law" "law" (defArgs (top 31)) (defBody (top 31)) (defScope (top 31)) .none kV25 dc25 pm25 an25 cd25 ct25, fun s v => .of_eq rfl, fun base _ _ => ok_law T⟩
theorem walk {l : PySem.W.OpenLaw} {q : Program} {loose : List Str} {XP : (Str → Option Value) → Heap → Prop} {YP : World → Heap → Prop} {d : DefRec} {K : Params → PySem.W.Frag} (hn : l.most = some 63) (hdf : d.params.defaults = [])
    (hY : ∀ (w : World) (h : Heap), YP w h → (K w.params).In h)
    (F : ∀ (w : World) (mg : Str → Option Value) (fa : Addr) (h : Heap), (K w.params).In h → h.Ns mainGlobals mg → mg d.name = some (.ref fa) →
      ∃ fd : FuncData, (∀ (s : Shared) (u : Value), BindsTo s fd ⟨[u], []⟩ [("_law_script", u)]) ∧ ∀ base : Heap, (K w.params).In base → base.Ns mainGlobals mg → FnOk l.prog w (K w.params) mg base CX0 7 fa fd ["_law_script"] (spLaw (K w.params))) :
    PySem.W.WalkO q loose XP YP l.row.toRowW d [] (fun f vs => PySem.call f vs) :=
  L2.walk_of (n := 63) (k := 7) (x := "_law_script") (CX := fun _ => CX0) (sp := fun w => spLaw (K w.params)) hn (by decide) hdf ⟨rfl, by decide, by decide⟩ hY F (fun _ _ a ns hl _ hS => ⟨a, ns, rfl, hS, hl, fun _ => rfl⟩) fun _ _ _ _ _ z => z
end K10
theorem PySem.W.Fast.tw16055566681707557090 : True := trivial
theorem PySem.W.Fast.tw12376644676899787986 : True := trivial
theorem PySem.W.Fast.tw4214641342606653012 : True := trivial
theorem PySem.W.Fast.tw10813395625293063879 : True := trivial
theorem PySem.W.Fast.tw10408302367102766190 : True := trivial
theorem PySem.W.Fast.tw15424443727140383472 : True := trivial
theorem PySem.W.Fast.tw4836462312296802352 : True := trivial
theorem PySem.W.Fast.tw2014094327605436878 : True := trivial
theorem PySem.W.Fast.tw4799870593722709846 : True := trivial
theorem PySem.W.Fast.tw15545970167191819669 : True := trivial
theorem PySem.W.Fast.tw5142764329166748826 : True := trivial
theorem PySem.W.Fast.tw15558691754341975402 : True := trivial
theorem PySem.W.Fast.tw3108939455156090459 : True := trivial
theorem PySem.W.Fast.tw16801938069463708462 : True := trivial
theorem PySem.W.Fast.tw16949888763706597472 : True := trivial
theorem PySem.W.Fast.tw12390112352705582357 : True := trivial
theorem PySem.W.Fast.tw14619777558696675202 : True := trivial
theorem PySem.W.Fast.tw376112443909109459 : True := trivial
theorem PySem.W.Fast.tw3866814061142457202 : True := trivial
theorem PySem.W.Fast.tw3888591963541671678 : True := trivial
theorem PySem.W.Fast.tw10787801823364237234 : True := trivial
theorem PySem.W.Fast.tw571924971718545373 : True := trivial
theorem PySem.W.Fast.tw16915104405330095462 : True := trivial
theorem PySem.W.Fast.tw16293453882272239744 : True := trivial
theorem PySem.W.Fast.tw11200005354928583307 : True := trivial
theorem PySem.W.Fast.tw2128492748947674491 : True := trivial
theorem PySem.W.Fast.tw18087291316619141280 : True := trivial
theorem PySem.W.Fast.tw7895604189722461662 : True := trivial
theorem PySem.W.Fast.tw17505553998690351780 : True := trivial
theorem PySem.W.Fast.tw2366298256356852389 : True := trivial
theorem PySem.W.Fast.tw10732582596940038325 : True := trivial
theorem PySem.W.Fast.tw3337399713629741882 : True := trivial
theorem PySem.W.Fast.tw7456537968912323068 : True := trivial
theorem PySem.W.Fast.tw7183725956397826482 : True := trivial
theorem PySem.W.Fast.tw7694135400208153550 : True := trivial
theorem PySem.W.Fast.tw11783658700231708209 : True := trivial
theorem PySem.W.Fast.tw2724761528862800514 : True := trivial
theorem PySem.W.Fast.tw17357967530031200844 : True := trivial
theorem PySem.W.Fast.tw6256635394847154577 : True := trivial
theorem PySem.W.Fast.tw9414757356179538936 : True := trivial
theorem PySem.W.Fast.tw18069188798611029650 : True := trivial
theorem PySem.W.Fast.tw9559685761148741975 : True := trivial
theorem PySem.W.Fast.tw1337864280027229286 : True := trivial
theorem PySem.W.Fast.tw13911297505423324673 : True := trivial
theorem PySem.W.Fast.tw4927153795357240826 : True := trivial
theorem PySem.W.Fast.tw11533643081751704238 : True := trivial
theorem PySem.W.Fast.tw9977089567502497031 : True := trivial
theorem PySem.W.Fast.tw12688903050019090229 : True := trivial
theorem PySem.W.Fast.tw15294853023086307168 : True := trivial
theorem PySem.W.Fast.tw13108486858157188779 : True := trivial
theorem PySem.W.Fast.tw15226192062814101006 : True := trivial
theorem PySem.W.Fast.tw5370524783849189992 : True := trivial
open PySem PySem.W PyProof.Rows
set_option maxRecDepth 100000 in
set_option maxHeartbeats 0 in
theorem PySem.Challenge.cw_warmrows_k10_looks_along_orders_holds : PySem.Challenge.rw_warmrows_k10_looks_along_orders.Holds := by
  w_on; o_law; k_head; (case hw => w_witness2)
  k_fill
  refine K10.walk (l := PySem.Challenge.rw_warmrows_k10_looks_along_orders) rfl rfl (fun w h Y => PySem.W.kIn_of Y) ?F
  case F =>
    intro w mg fa h KX G hmg
    refine' K10.all_mk KX G hmg ?a0 ?l0 ?c0 ?k0 ?a1 ?l1 ?c1 ?k1 ?a2 ?l2 ?c2 ?k2 ?a3 ?l3 ?c3 ?k3 ?a4 ?l4 ?c4 ?k4 ?a5 ?l5 ?c5 ?k5 ?a6 ?l6 ?c6 ?k6 ?a7 ?l7 ?c7 ?k7 ?a8 ?l8 ?c8 ?k8 ?a9 ?l9 ?c9 ?k9 ?a10 ?l10 ?c10 ?k10 ?a11 ?l11 ?c11 ?k11 ?a12 ?l12 ?c12 ?k12 ?a13 ?l13 ?c13 ?k13 ?a14 ?l14 ?c14 ?k14 ?a15 ?l15 ?c15 ?k15 ?a16 ?l16 ?c16 ?k16 ?a17 ?l17 ?c17 ?k17 ?a18 ?l18 ?c18 ?k18 ?a19 ?l19 ?c19 ?k19 ?a20 ?l20 ?c20 ?k20 ?a21 ?l21 ?c21 ?k21 ?a22 ?l22 ?c22 ?k22 ?a23 ?l23 ?c23 ?k23 ?a24 ?l24 ?c24 ?k24 ?a25 ?l25 ?c25 ?k25 ?z0 ?z1 ?z2 ?z3 ?z4 ?z5 ?z6 ?z7 ?z8 ?z9 ?z10 ?z11 ?z12 ?z13 ?z14
    (case a0 => k_is); (case l0 => k_is); (case c0 => k_is); (case k0 => k_is)
    (case a1 => k_is); (case l1 => k_is); (case c1 => k_is); (case k1 => k_is)
    (case a2 => k_is); (case l2 => k_is); (case c2 => k_is); (case k2 => k_is)
    (case a3 => k_is); (case l3 => k_is); (case c3 => k_is); (case k3 => k_is)
    (case a4 => k_is); (case l4 => k_is); (case c4 => k_is); (case k4 => k_is)
    (case a5 => k_is); (case l5 => k_is); (case c5 => k_is); (case k5 => k_is)
    (case a6 => k_is); (case l6 => k_is); (case c6 => k_is); (case k6 => k_is)
    (case a7 => k_is); (case l7 => k_is); (case c7 => k_is); (case k7 => k_is)
    (case a8 => k_is); (case l8 => k_is); (case c8 => k_is); (case k8 => k_is)
    (case a9 => k_is); (case l9 => k_is); (case c9 => k_is); (case k9 => k_is)
    (case a10 => k_is); (case l10 => k_is); (case c10 => k_is); (case k10 => k_is)
    (case a11 => k_is); (case l11 => k_is); (case c11 => k_is); (case k11 => k_is)
    (case a12 => k_is); (case l12 => k_is); (case c12 => k_is); (case k12 => k_is)
    (case a13 => k_is); (case l13 => k_is); (case c13 => k_is); (case k13 => k_is)
    (case a14 => k_is); (case l14 => k_is); (case c14 => k_is); (case k14 => k_is)
    (case a15 => k_is); (case l15 => k_is); (case c15 => k_is); (case k15 => k_is)
    (case a16 => k_is); (case l16 => k_is); (case c16 => k_is); (case k16 => k_is)
    (case a17 => k_is); (case l17 => k_is); (case c17 => k_is); (case k17 => k_is)
    (case a18 => k_is); (case l18 => k_is); (case c18 => k_is); (case k18 => k_is)
    (case a19 => k_is); (case l19 => k_is); (case c19 => k_is); (case k19 => k_is)
    (case a20 => k_is); (case l20 => k_is); (case c20 => k_is); (case k20 => k_is)
    (case a21 => k_is); (case l21 => k_is); (case c21 => k_is); (case k21 => k_is)
    (case a22 => k_is); (case l22 => k_is); (case c22 => k_is); (case k22 => k_is)
    (case a23 => k_is); (case l23 => k_is); (case c23 => k_is); (case k23 => k_is)
    (case a24 => k_is); (case l24 => k_is); (case c24 => k_is); (case k24 => k_is)
    (case a25 => k_is); (case l25 => k_is); (case c25 => k_is); (case k25 => k_is)
    (case z0 => k_is); (case z1 => k_is); (case z2 => k_is); (case z3 => k_is); (case z4 => k_is); (case z5 => k_is); (case z6 => k_is); (case z7 => k_is); (case z8 => k_is); (case z9 => k_is); (case z10 => k_is); (case z11 => k_is); (case z12 => k_is); (case z13 => k_is); (case z14 => k_is)
end
