import PyProof.Rows.All
import Wide.All
import OpenK.AllK
import Wide.FinOn
import Lean
import PyProof.EqAt
import PyProof.EqKinds
import PyProof.TupleCall
import KE.KTryMore
import PyProof.ExcAttrAll.ValueError
import PyProof.ExcBaseAll.ValueError
import PyProof.DictWalks
import PyProof.EnumIter
import PyProof.EnumFor
import PyProof.EnumMake
import PyProof.AttrMissHeap
import KE.KDictOf
import KE.KDictList
import PyProof.StrOps2
import KE.KSortTup
import PyProof.NeKinds
import PySem.Challenge.RW_warmrows_k23_tables_that_programs_begin
import PyProof.Rows.SortStr
import PyProof.TupleOfSeq
import PyProof.WalkInts
import PyProof.ZipIter
import PyProof.Rows.CallKwBuiltin
set_option Elab.async false
set_option linter.all false
set_option maxRecDepth 100000
set_option maxHeartbeats 4000000
section
namespace L2
open PySem PySem.Spec PyProof.Rows
abbrev Key := Sum Int Str
def keyIs : Key → Value → Bool
  | .inl k, v => Value.isInt k v
  | .inr x, v => Value.isStrOf x v
def keyH (w : World) : Key → Int
  | .inl k => hashInt k
  | .inr x => hashStr w x
theorem keyIs_shape : ∀ {k : Key} {v : Value}, keyIs k v = true → (∃ i t, k = Sum.inl i ∧ v = Value.int i t) ∨ (∃ x t, k = Sum.inr x ∧ v = Value.str x t)
  | .inl i, v, h => by
    obtain ⟨t, e⟩ := Value.isInt_shape (k := i) (v := v) h
    exact .inl ⟨i, t, rfl, e⟩
  | .inr x, v, h => by
    obtain ⟨t, e⟩ := Value.isStrOf_shape (x := x) (v := v) h
    exact .inr ⟨x, t, rfl, e⟩
theorem keyIs_int (i : Int) (t : Tok) : keyIs (.inl i) (.int i t) = true := by simp [keyIs, Value.isInt]
theorem keyIs_str (x : Str) (t : Tok) : keyIs (.inr x) (.str x t) = true := by simp [keyIs, Value.isStrOf]
theorem key_ll (a b : Int) : decide ((Sum.inl a : Key) = Sum.inl b) = (a == b) := by
  by_cases e : a = b
  · subst e; simp
  · have h : ¬ (Sum.inl a : Key) = Sum.inl b := fun q => e (Sum.inl.inj q)
    rw [decide_eq_false h]
    exact (beq_eq_false_iff_ne.mpr e).symm
theorem key_rr (a b : Str) : decide ((Sum.inr a : Key) = Sum.inr b) = decide (a = b) := by
  by_cases e : a = b
  · subst e; simp
  · have h : ¬ (Sum.inr a : Key) = Sum.inr b := fun q => e (Sum.inr.inj q)
    rw [decide_eq_false h, decide_eq_false e]
theorem key_lr (a : Int) (b : Str) : decide ((Sum.inl a : Key) = Sum.inr b) = false := decide_eq_false (fun q => nomatch q)
theorem key_rl (a : Str) (b : Int) : decide ((Sum.inr a : Key) = Sum.inl b) = false := decide_eq_false (fun q => nomatch q)
def mixKind (prog : Program) (w : World) : PySem.KeyKind prog w Key where
  is := keyIs
  hash := keyH w
  inj := fun v a b ha hb => by
    rcases keyIs_shape ha with ⟨i, t, rfl, rfl⟩ | ⟨x, t, rfl, rfl⟩
    · rcases keyIs_shape hb with ⟨j, u, rfl, e⟩ | ⟨y, u, rfl, e⟩
      · injection e with e1 _; rw [e1]
      · exact nomatch e
    · rcases keyIs_shape hb with ⟨j, u, rfl, e⟩ | ⟨y, u, rfl, e⟩
      · exact nomatch e
      · injection e with e1 _; rw [e1]
  byValue := fun k v h => by
    rcases keyIs_shape h with ⟨i, t, rfl, rfl⟩ | ⟨x, t, rfl, rfl⟩ <;> rfl
  pyHash := fun hv h => by
    rcases keyIs_shape hv with ⟨i, t, rfl, rfl⟩ | ⟨x, t, rfl, rfl⟩
    · exact wpAny_pyHash_int h
    · exact wpAny_pyHash_str h
  eqBool := fun hu hv h => by
    rcases keyIs_shape hu with ⟨i, t, rfl, rfl⟩ | ⟨x, t, rfl, rfl⟩
    · rcases keyIs_shape hv with ⟨j, u, rfl, rfl⟩ | ⟨y, u, rfl, rfl⟩
      · rw [key_ll] at h; exact wpAny_eqBool_int h
      · rw [key_lr] at h; exact SeqAt.EqAt.int_str i t y u _ _ _ _ h
    · rcases keyIs_shape hv with ⟨j, u, rfl, rfl⟩ | ⟨y, u, rfl, rfl⟩
      · rw [key_rl] at h; exact SeqAt.EqAt.str_int x t j u _ _ _ _ h
      · rw [key_rr] at h; exact wpAny_eqBool_str h
  «strs» := fun k x t v h => by
    rcases keyIs_shape h with ⟨i, u, rfl, e⟩ | ⟨y, u, rfl, e⟩
    · exact nomatch e
    · injection e with e1 _
      subst e1
      cases v <;> rfl
theorem mixKind_is (prog : Program) (w : World) (k : Key) (v : Value) : (mixKind prog w).is k v = keyIs k v := rfl
theorem mixKind_int (prog : Program) (w : World) (i : Int) (t : Tok) : (mixKind prog w).is (.inl i) (.int i t) = true := keyIs_int i t
theorem mixKind_str (prog : Program) (w : World) (x : Str) (t : Tok) : (mixKind prog w).is (.inr x) (.str x t) = true := keyIs_str x t
end L2
namespace L2
open PySem PySem.Spec PyProof.Rows
inductive V where
  | non | bl (b : Bool) | int (i : Int) | str (x : Str) | byt (b : Array UInt8) | flt (b : UInt64) | ref (a : Addr) | ty (n : String)
  deriving DecidableEq
def RelV : V → Value → Prop
  | .non, u => u = Value.none
  | .bl b, u => u = Value.bool b
  | .int i, u => ∃ t, u = Value.int i t
  | .str x, u => ∃ t, u = Value.str x t
  | .byt b, u => ∃ t, u = Value.bytes b t
  | .flt b, u => ∃ t, u = Value.float b t
  | .ref a, u => u = Value.ref a
  | .ty n, u => u = Value.type n
abbrev Vals : List V → List Value → Prop := Paired RelV
theorem Vals.length {xs : List V} {us : List Value} (r : Vals xs us) : xs.length = us.length := Paired.length r
theorem Vals.get : ∀ {xs : List V} {us : List Value} {i : Nat} {x : V}, Vals xs us → xs[i]? = some x → ∃ u, us[i]? = some u ∧ RelV x u
  | _, _, _, _, .nil, e => by simp at e
  | _, _, 0, _, .cons r _, e => by simp at e; subst e; exact ⟨_, rfl, r⟩
  | _, _, i + 1, x, .cons _ t, e => by
    obtain ⟨u, h1, h2⟩ := Vals.get (i := i) (x := x) t (by simpa using e)
    exact ⟨u, by simpa using h1, h2⟩
theorem Vals.set {x : V} {u : Value} (r : RelV x u) : ∀ {xs : List V} {us : List Value} (i : Nat), Vals xs us → Vals (xs.set i x) (us.set i u)
  | _, _, _, .nil => .nil
  | _, _, 0, .cons _ t => .cons r t
  | _, _, i + 1, .cons q t => .cons q (Vals.set r i t)
theorem Vals.append : ∀ {xs ys : List V} {us ws : List Value}, Vals xs us → Vals ys ws → Vals (xs ++ ys) (us ++ ws)
  | _, _, _, _, .nil, s => s
  | _, _, _, _, .cons r t, s => .cons r (Vals.append t s)
theorem Vals.take : ∀ {xs : List V} {us : List Value} (n : Nat), Vals xs us → Vals (xs.take n) (us.take n)
  | _, _, 0, _ => .nil
  | _, _, _ + 1, .nil => .nil
  | _, _, n + 1, .cons r t => .cons r (Vals.take n t)
theorem Vals.drop : ∀ {xs : List V} {us : List Value} (n : Nat), Vals xs us → Vals (xs.drop n) (us.drop n)
  | _, _, 0, r => r
  | _, _, _ + 1, .nil => .nil
  | _, _, n + 1, .cons _ t => Vals.drop n t
def RelO : Option V → Option Value → Prop
  | some v, some u => RelV v u
  | none, none => True
  | _, _ => False
def KV {κ : Type} : List (κ × V) → List (κ × Value) → Prop := Paired fun (p : κ × V) (q : κ × Value) => p.1 = q.1 ∧ RelV p.2 q.2
def kV : Key → V
  | .inl i => .int i
  | .inr x => .str x
inductive HO where
  | lst (xs : List V)
  | tup (xs : List V)
  | dK (kvs : List (Key × V)) | dT (kvs : List (List Key × V))
  | set (S : Int → Bool) (n : Nat)
  | ins (C dx : Addr) (fs : List (Str × V))
  | own (x : Addr)
  | xd (fs : List (Str × V))
  | met (f x : Addr)
  | rng (lo hi : Int)
  | frz (o : Obj) (u : HO)
  | tbl (ps : Array Value)
  | ext (φ : Heap → Prop)
abbrev Hp := Addr → Option HO
def upd (H : Hp) (a : Addr) (o : HO) : Hp := fun b => if b = a then some o else H b
theorem upd_same {H : Hp} {a : Addr} {o : HO} : upd H a o a = some o := by unfold upd; rw [if_pos rfl]
theorem upd_ne {H : Hp} {a b : Addr} {o : HO} (h : b ≠ a) : upd H a o b = H b := by unfold upd; rw [if_neg h]
theorem upd_upd {H : Hp} {a : Addr} {o u : HO} : upd (upd H a o) a u = upd H a u := by
  funext b; unfold upd; split <;> rfl
theorem ne_of {H : Hp} {a b : Addr} {o u : HO} (h : H a = some o) (h' : H b = some u) (d : o ≠ u) : a ≠ b := by
  intro e; subst e; rw [h] at h'; exact d (Option.some.inj h')
theorem ne_of_none {H : Hp} {a b : Addr} {o : HO} (h : H a = some o) (h' : H b = none) : a ≠ b := by
  intro e; subst e; rw [h] at h'; cases h'
def NoD (h : Heap) (a : Addr) : Prop := ∀ o, h.get? a = some o → o.dict = none
theorem nod_push (h : Heap) (its : Array Value) : NoD (h.push { cls := .type "tuple", data := .seq its }) h.objs.size := fun o e => by
  rw [Heap.get?_push_size _ rfl] at e
  cases e
  rfl
section
variable (P : Program) (w : World)
def ObjOk (H : Hp) (h : Heap) (a : Addr) : HO → Prop
  | .lst xs => xs.length ≤ sizeLine ∧ ∃ (its : List Value) (n : Nat), Vals xs its ∧ h.get? a = some { cls := .type "list", data := .seq its.toArray n }
  | .tup xs => (xs.length ≤ sizeLine ∧ NoD h a) ∧ ∃ its : List Value, Vals xs its ∧ IsTup h a its.toArray
  | .dK kvs => kvs.length ≤ sizeLine ∧ (a == sysModules) = false ∧ ∃ vs, KV kvs vs ∧ h.DictOf (mixKind P w) a vs
  | .dT kvs => kvs.length ≤ sizeLine ∧ (a == sysModules) = false ∧ ∃ xs : List (List Key × Addr × Value),
      Paired (fun (p : List Key × V) (q : List Key × Addr × Value) => p.1 = q.1 ∧ H q.2.1 = some (.tup (p.1.map kV)) ∧ RelV p.2 q.2.2) kvs xs ∧
      ∃ o es ep, h.get? a = some o ∧ o.ExactDict ∧ o.data = .dict es ep ∧ es.toList = xs.map (entryOfKey (tupleKind (mixKind P w))) ∧ (xs.map (·.1)).Nodup
  | .set S n => h.SetOf (intKind P w) a S n
  | .ins C dx fs => H dx = some (.own a) ∧ fs.length ≤ 1000 ∧ dx ≠ a ∧ h.get? a = some (PySem.W.instObj C dx) ∧
      ∃ mA, h.Ns1 dx mA ∧ (∀ f, RelO (fs.lookup f) (mA f)) ∧ PySem.Within mA (fs.map (·.1))
  | .own _ => ∃ o, h.get? a = some o
  | .xd fs => ∃ mA, h.Ns1 a mA ∧ ∀ f, RelO (fs.lookup f) (mA f)
  | .rng lo hi => ∃ t u v, h.get? a = some { cls := .type "range", data := .fields #[.int lo t, .int hi u, .int 1 v] }
  | .frz o u => h.get? a = some o ∧ ObjOk H h a u
  | .tbl ps => h.get? a = some { cls := .none, data := .fields ps }
  | .met f x => h.get? a = some (PySem.W.methodObj (.ref f) (.ref x))
  | .ext φ => φ h ∧ (∃ o, h.get? a = some o) ∧ ∀ h1 h2 : Heap, φ h1 → (∀ o, h1.get? a = some o → h2.get? a = some o) → φ h2
def HOk (H : Hp) (h : Heap) : Prop := ∀ a o, H a = some o → ObjOk P w H h a o
end
section
variable {P : Program} {w : World} {H H' : Hp} {h h' : Heap} {a : Addr} {o : HO}
theorem ObjOk.lt (x : ObjOk P w H h a o) : a < h.objs.size := by
  cases o with
  | lst xs => obtain ⟨_, _, _, _, e⟩ := x; exact Heap.lt_size e
  | tup xs => obtain ⟨_, _, _, p⟩ := x; exact p.lt
  | dK kvs => obtain ⟨_, _, _, _, o, _, _, e, _⟩ := x; exact Heap.lt_size e
  | dT kvs => obtain ⟨_, _, _, _, o, _, _, e, _⟩ := x; exact Heap.lt_size e
  | set S n => obtain ⟨o, _, _, _, e, _⟩ := x; exact Heap.lt_size e
  | ins C dx fs => obtain ⟨_, _, _, e, _⟩ := x; exact Heap.lt_size e
  | own y => obtain ⟨_, e⟩ := x; exact Heap.lt_size e
  | xd fs => obtain ⟨_, ⟨_, _, _, e, _⟩, _⟩ := x; exact Heap.lt_size e
  | rng lo hi => obtain ⟨_, _, _, e⟩ := x; exact Heap.lt_size e
  | frz ob u => obtain ⟨e, _⟩ := x; exact Heap.lt_size e
  | tbl ps => exact Heap.lt_size (show h.get? a = some _ from x)
  | met f y => exact Heap.lt_size (show h.get? a = some _ from x)
  | ext φ => obtain ⟨_, ⟨_, e⟩, _⟩ := x; exact Heap.lt_size e
theorem Paired.mapP {α β : Type} {F G : α → β → Prop} : ∀ {l₁ : List α} {l₂ : List β}, Paired F l₁ l₂ → (∀ a b, F a b → G a b) → Paired G l₁ l₂
  | _, _, .nil, _ => .nil
  | _, _, .cons r t, f => .cons (f _ _ r) (Paired.mapP t f)
theorem ObjOk.stay (x : ObjOk P w H h a o) (k : ∀ b u, (b = a ∨ H b = some (.own a)) → h.get? b = some u → h'.get? b = some u)
    (ho : ∀ b, H b = some (.own a) → H' b = some (.own a)) (ht : ∀ b xs, H b = some (.tup xs) → H' b = some (.tup xs)) : ObjOk P w H' h' a o := by
  induction o with
  | lst xs => obtain ⟨z, its, n, r, e⟩ := x; exact ⟨z, its, n, r, k _ _ (.inl rfl) e⟩
  | tup xs =>
    obtain ⟨z, its, r, ob, e, c⟩ := x
    have e' := k _ _ (.inl rfl) e
    exact ⟨⟨z.1, fun o q => by rw [e'] at q; cases q; exact z.2 _ e⟩, its, r, ob, e', c⟩
  | dK kvs => obtain ⟨z, y, vs, r, ob, es, ep, e, c⟩ := x; exact ⟨z, y, vs, r, ob, es, ep, k _ _ (.inl rfl) e, c⟩
  | dT kvs =>
    obtain ⟨z, y, xs, r, ob, es, ep, e, c⟩ := x
    exact ⟨z, y, xs, Paired.mapP r fun p q z => ⟨z.1, ht _ _ z.2.1, z.2.2⟩, ob, es, ep, k _ _ (.inl rfl) e, c⟩
  | set S n => obtain ⟨ob, es, ep, t, e, c⟩ := x; exact ⟨ob, es, ep, t, k _ _ (.inl rfl) e, c⟩
  | ins C dx fs =>
    obtain ⟨d, z, ne, e, mA, ⟨od, es, ep, e2, c⟩, r⟩ := x
    exact ⟨ho _ d, z, ne, k _ _ (.inl rfl) e, mA, ⟨od, es, ep, k _ _ (.inr d) e2, c⟩, r⟩
  | own y => obtain ⟨ob, e⟩ := x; exact ⟨ob, k _ _ (.inl rfl) e⟩
  | xd fs => obtain ⟨mA, ⟨od, es, ep, e, c⟩, r⟩ := x; exact ⟨mA, ⟨od, es, ep, k _ _ (.inl rfl) e, c⟩, r⟩
  | rng lo hi => obtain ⟨t, u, v, e⟩ := x; exact ⟨t, u, v, k _ _ (.inl rfl) e⟩
  | frz ob u ih => obtain ⟨e, q⟩ := x; exact ⟨k _ _ (.inl rfl) e, ih q⟩
  | tbl ps =>
    have e : h.get? a = some { cls := .none, data := .fields ps } := x
    show h'.get? a = some { cls := .none, data := .fields ps }
    exact k a _ (.inl rfl) e
  | met f y =>
    have e : h.get? a = some (PySem.W.methodObj (.ref f) (.ref y)) := x
    show h'.get? a = some (PySem.W.methodObj (.ref f) (.ref y))
    exact k a _ (.inl rfl) e
  | ext φ => obtain ⟨p, ⟨o, e⟩, st⟩ := x; exact ⟨st _ _ p fun o q => k _ _ (.inl rfl) q, ⟨o, k _ _ (.inl rfl) e⟩, st⟩
theorem HOk.lt (x : HOk P w H h) (e : H a = some o) : a < h.objs.size := (x a o e).lt
theorem HOk.fresh (x : HOk P w H h) (e : h.objs.size ≤ a) : H a = none := by
  cases q : H a with
  | none => rfl
  | some u => exact absurd (Nat.lt_of_lt_of_le (x.lt q) e) (Nat.lt_irrefl _)
theorem HOk.kept (x : HOk P w H h) (k : ∀ b u, h.get? b = some u → h'.get? b = some u) : HOk P w H h' := fun a o e =>
  (x a o e).stay (fun b u _ q => k b u q) (fun _ q => q) fun _ _ q => q
theorem HOk.laid (x : HOk P w H h) (k : ∀ b u, h.get? b = some u → h'.get? b = some u) (hp : h.objs.size ≤ a) (new : ObjOk P w (upd H a o) h' a o) : HOk P w (upd H a o) h' := fun b u e => by
  have hn := x.fresh hp
  by_cases hb : b = a
  · subst hb; rw [upd_same] at e; cases e; exact new
  · rw [upd_ne hb] at e
    exact (x b u e).stay (fun c v _ q => k c v q) (fun c q => by rw [upd_ne (ne_of_none q hn)]; exact q) fun c xs q => by rw [upd_ne (ne_of_none q hn)]; exact q
end
def Rd (H : Hp) (a : Addr) (u : HO) : Prop := H a = some u ∨ ∃ o, H a = some (.frz o u)
theorem Rd.ok {P : Program} {w : World} {H : Hp} {h : Heap} {a : Addr} {u : HO} (r : Rd H a u) (x : HOk P w H h) : ObjOk P w H h a u := by
  rcases r with r | ⟨o, r⟩
  · exact x a u r
  · obtain ⟨_, q⟩ := x a _ r
    exact q
def Mut : Option HO → Prop
  | some (.lst _) => True
  | some (.dK _) => True
  | some (.dT _) => True
  | some (.set _ _) => True
  | some (.ins _ _ _) => True
  | some (.ext _) => True
  | _ => False
section
variable {P : Program} {w : World} {H : Hp} {h h' : Heap} {x e : Addr} {o' : HO}
theorem HOk.write (ok : HOk P w H h) (mu : Mut (H x)) (he : e = x ∨ H e = some (.own x)) (k : ∀ b u, b ≠ e → h.get? b = some u → h'.get? b = some u) (heo : ∃ u, h'.get? e = some u)
    (new : ObjOk P w (upd H x o') h' x o') : HOk P w (upd H x o') h' := fun b u q => by
  have nown : ∀ c y, H c = some (.own y) → c ≠ x := fun c y r z => by subst z; rw [r] at mu; exact mu
  have ntup : ∀ c xs, H c = some (.tup xs) → c ≠ x := fun c xs r z => by subst z; rw [r] at mu; exact mu
  by_cases hb : b = x
  · subst hb; rw [upd_same] at q; cases q; exact new
  · rw [upd_ne hb] at q
    by_cases hbe : b = e
    · have q' : H b = some (.own x) := by
        rcases he with z | z
        · exact absurd (hbe.trans z) hb
        · rw [hbe]; exact z
      rw [q] at q'; cases q'
      obtain ⟨v, hv⟩ := heo
      exact ⟨v, by rw [hbe]; exact hv⟩
    · refine (ok b u q).stay (fun c v hc r => k c v ?_ r) (fun c r => by rw [upd_ne (nown c b r)]; exact r) fun c xs r => by rw [upd_ne (ntup c xs r)]; exact r
      rcases hc with rfl | hc
      · exact hbe
      · rintro rfl
        rcases he with z | z
        · exact nown c b hc z
        · rw [hc] at z; cases z; exact hb rfl
end
structure Un (fs ex : List Addr) (H H' : Hp) (h h' : Heap) : Prop where
  keep : ∀ b o, h.get? b = some o → H b = none → b ∉ fs → b ∉ ex → h'.get? b = some o
  slot : ∀ b o, h.get? b = some o → H b = none → b ∈ fs → b ∉ ex → ∃ sl, h'.get? b = some { o with slots := sl }
  free : ∀ b o, h.get? b = some o → H b = none → b ∉ ex → H' b = none
  there : ∀ b o, h.get? b = some o → b ∉ ex → ∃ o', h'.get? b = some o'
  tups : ∀ b xs, H b = some (.tup xs) → H' b = some (.tup xs)
  frzs : ∀ b o u, H b = some (.frz o u) → H' b = some (.frz o u)
  tbls : ∀ b ps, H b = some (.tbl ps) → ∃ more, H' b = some (.tbl (ps ++ more))
section
variable {fs fs' ex ex' : List Addr} {H H1 H2 : Hp} {h h1 h2 h' : Heap} {a x e : Addr} {o : HO}
theorem Un.any (u : Un fs ex H H1 h h1) {b : Addr} {ob : Obj} (q : h.get? b = some ob) (n : H b = none) (hx : b ∉ ex) : ∃ sl, h1.get? b = some { ob with slots := sl } := by
  by_cases hb : b ∈ fs
  · exact u.slot b ob q n hb hx
  · exact ⟨ob.slots, u.keep b ob q n hb hx⟩
theorem Un.kept (k : ∀ b u, h.get? b = some u → h'.get? b = some u) : Un fs ex H H h h' :=
  ⟨fun b ob q _ _ _ => k b ob q, fun b ob q _ _ _ => ⟨ob.slots, k b ob q⟩, fun _ _ _ n _ => n, fun b ob q _ => ⟨ob, k b ob q⟩, fun _ _ q => q, fun _ _ _ q => q, fun _ ps q => ⟨#[], by rw [q]; simp⟩⟩
theorem Un.refl : Un fs ex H H h h := Un.kept fun _ _ q => q
theorem Un.laid (k : ∀ b u, h.get? b = some u → h'.get? b = some u) (hp : h.objs.size ≤ a) (hn : H a = none) : Un fs ex H (upd H a o) h h' where
  keep := fun b u q _ _ _ => k b u q
  slot := fun b u q _ _ _ => ⟨u.slots, k b u q⟩
  free := fun b u q n _ => by rw [upd_ne (Nat.ne_of_lt (Nat.lt_of_lt_of_le (Heap.lt_size q) hp))]; exact n
  there := fun b u q _ => ⟨u, k b u q⟩
  tups := fun b xs q => by rw [upd_ne (ne_of_none q hn)]; exact q
  frzs := fun b u xs q => by rw [upd_ne (ne_of_none q hn)]; exact q
  tbls := fun b ps q => ⟨#[], by rw [upd_ne (ne_of_none q hn), q]; simp⟩
theorem Un.write (mu : Mut (H x)) (he : e = x ∨ H e = some (.own x)) (k : ∀ b u, b ≠ e → h.get? b = some u → h'.get? b = some u) (heo : ∃ u, h'.get? e = some u) : Un fs ex H (upd H x o) h h' := by
  have hx : ∀ b, H b = none → b ≠ x := fun b n z => by subst z; rw [n] at mu; exact mu
  have hb : ∀ b, H b = none → b ≠ e := fun b n z => by
    subst z
    rcases he with r | r
    · exact hx b n r
    · rw [n] at r; cases r
  have hm : ∀ b u, H b = some u → ¬ Mut (some u) → b ≠ x := fun b u q nm z => by subst z; rw [q] at mu; exact nm mu
  refine ⟨fun b u q n _ _ => k b u (hb b n) q, fun b u q n _ _ => ⟨u.slots, k b u (hb b n) q⟩, fun b u q n _ => by rw [upd_ne (hx b n)]; exact n, fun b u q _ => ?_,
    fun b xs q => by rw [upd_ne (hm b _ q fun z => z)]; exact q, fun b u xs q => by rw [upd_ne (hm b _ q fun z => z)]; exact q, fun b ps q => ⟨#[], by rw [upd_ne (hm b _ q fun z => z), q]; simp⟩⟩
  by_cases hbe : b = e
  · subst hbe; exact heo
  · exact ⟨u, k b u hbe q⟩
end
def trk (h : Heap) (H : Hp) : List Addr := (List.range h.objs.size).filter fun a => (H a).isSome
def hidT (h : Heap) (H : Hp) : Heap := PySem.W.hideAll h (trk h H)
theorem hidT_size (h : Heap) (H : Hp) : (hidT h H).objs.size = h.objs.size := PySem.W.hideAll_size _ _
theorem hidT_get {h : Heap} {H : Hp} {b : Addr} {o : Obj} (e : h.get? b = some o) (n : H b = none) : (hidT h H).get? b = some o :=
  PySem.W.hideAll_get _ e fun hm => by
    have q : (H b).isSome = true := (List.mem_filter.mp hm).2
    rw [n] at q; simp at q
theorem of_hidT {h : Heap} {H : Hp} {b : Addr} {o : Obj} (e : (hidT h H).get? b = some o) : h.get? b = some o ∧ H b = none := by
  have e' : h.get? b = some o := PySem.W.of_hideAll (trk h H) e
  refine ⟨e', ?_⟩
  cases q : H b with
  | none => rfl
  | some x =>
    have hm : b ∈ trk h H := List.mem_filter.mpr ⟨List.mem_range.mpr (Heap.lt_size e'), by simp [q]⟩
    have z : (hidT h H).get? b = none := PySem.W.hideAll_none (trk h H) hm
    rw [z] at e; cases e
def allNews (g h : Heap) (L : Addr) : List (Addr × Obj) := (List.range h.objs.size).filterMap fun a => if a = L ∨ (g.get? a).isSome = true then none else (h.get? a).map fun o => (a, o)
def rest (g h : Heap) (L d : Addr) : List (Addr × Obj) := (allNews g h L).filter fun p => decide (p.1 ≠ d)
end L2
namespace L2
open PySem PySem.Spec PyProof.Rows
structure Mod (K : PySem.W.Frag) (mg : Str → Option Value) (base : Heap) : Prop where
  kin : K.In base
  glob : base.Ns mainGlobals mg
  blt : ∃ mb, base.Ns builtinsNs mb ∧ ∀ x : Str, x ≠ "__name__" → mb x = bootBuiltins x
  nolimit : base.NoLimit
/-- the context: a def's body (or a comprehension's block) running. base: fixed through the whole law; s₀, H₀: the entry; outer: the frames whose slots others may change (a def's callers); stack: all frames that run;
   ex: iterators that were made ahead of the entry and are walked here (a comprehension's); fn: the names whose cells were made at the entry (a def: all; a comprehension's block: its own); calm: not within an except suite; pn: pins that every state bears; xe: what is wanted of an exception that leaves the code -/
structure Cx where
  prog : Program
  w : World
  K : PySem.W.Frag
  mg : Str → Option Value
  base : Heap
  A : Around
  N : List Str
  s₀ : Shared
  H₀ : Hp
  env : Env
  outer : List Env
  stack : List Env
  ex : List Addr
  fn : Str → Bool
  calm : Bool
  pn : List (Addr × Obj)
  xe : Value → Shared → Prop
def frs (l : List Env) : List Addr := l.filterMap (·.frame)
abbrev Cx.fs (X : Cx) : List Addr := frs X.outer
def Vis (sc : Scope) (x : Str) : Prop := sc.names.lookup x = some .local ∨ sc.names.lookup x = some .cell ∨ sc.names.lookup x = some .free
def Loc (sc : Scope) (x : Str) : Prop := sc.names.lookup x = some .local ∨ sc.names.lookup x = some .cell
def Look (env : Env) (h : Heap) (m : Str → Option Value) (x : Str) (u : Value) : Prop :=
  (env.kindOf x = some .local ∧ m x = some u) ∨ ((env.kindOf x = some .cell ∨ env.kindOf x = some .free) ∧ ∃ c, env.cells.lookup x = some c ∧ h.IsCell c (some u))
structure Cx.Ok (X : Cx) : Prop where
  mod : Mod X.K X.mg X.base
  kind : X.env.scope.kind = .function
  glob : X.env.globals = mainGlobals
  blt : X.env.builtins = builtinsNs
  above : X.s₀.heap.objs.size ≤ X.env.locals
  inj : ∀ x y c, X.env.cells.lookup x = some c → X.env.cells.lookup y = some c → x = y
  has : ∀ x, (X.env.kindOf x = some .cell ∨ X.env.kindOf x = some .free) → ∃ c, X.env.cells.lookup x = some c
  cab : ∀ x c, X.fn x = true → X.env.cells.lookup x = some c → X.s₀.heap.objs.size ≤ c
  hd : X.calm = true → X.A.handled = none
  frames : X.A.frames = some X.stack
  stk : X.stack = X.outer ∨ (X.stack = X.env :: X.outer ∧ X.env.frame = some X.env.locals)
  exf : ∀ b ∈ X.ex, b ≠ X.env.locals ∧ ∀ x c, X.env.cells.lookup x = some c → c ≠ b
  bs : ∀ b o, X.base.get? b = some o → X.s₀.heap.get? b = some o ∧ X.H₀ b = none
  bsz : X.base.objs.size ≤ X.s₀.heap.objs.size
  noex : ∀ b o, X.base.get? b = some o → b ∉ X.ex
  exfs : ∀ b ∈ X.ex, b ∉ X.fs
  funs : X.s₀.heap.FunFrames X.base X.outer
  frf : ∀ b ∈ X.fs, X.H₀ b = none
structure Inv (X : Cx) (pins : List (Addr × Obj)) (σ : List (Option V)) (H : Hp) (s : Shared) : Prop where
  ok : X.Ok
  os : s.os = X.s₀.os
  bare : AllBare s.gens
  base : Un X.fs X.ex X.H₀ H X.s₀.heap s.heap
  loc : ∃ m, s.heap.Ns X.env.locals m ∧ ∀ (i : Nat) (x : Str) (v : V), X.N[i]? = some x → σ[i]? = some (some v) → Vis X.env.scope x → ∃ u, RelV v u ∧ Look X.env s.heap m x u
  cell : ∀ x c, X.env.cells.lookup x = some c → ∃ v, s.heap.IsCell c v
  free : H X.env.locals = none
  freeC : ∀ x c, X.env.cells.lookup x = some c → H c = none
  pin : ∀ p ∈ X.pn ++ pins, s.heap.get? p.1 = some p.2 ∧ H p.1 = none ∧ p.1 ≠ X.env.locals ∧ p.1 ∉ X.fs ∧ ∀ v, p.2.data ≠ .cell v
  hok : HOk X.prog X.w H s.heap
  len : σ.length = X.N.length
section
variable {X : Cx} {pins : List (Addr × Obj)} {σ : List (Option V)} {H H' : Hp} {s : Shared} {h' : Heap}
theorem Cx.Ok.nofr (ok : X.Ok) {b : Addr} {o : Obj} (e : X.base.get? b = some o) : b ∉ X.fs := fun hb => by
  have := (ok.funs.mem hb).1
  rw [e] at this; cases this
theorem Inv.bs (I : Inv X pins σ H s) : ∀ b o, X.base.get? b = some o → s.heap.get? b = some o ∧ H b = none := fun b o e =>
  ⟨I.base.keep b o (I.ok.bs b o e).1 (I.ok.bs b o e).2 (I.ok.nofr e) (I.ok.noex b o e), I.base.free b o (I.ok.bs b o e).1 (I.ok.bs b o e).2 (I.ok.noex b o e)⟩
theorem Inv.bk (I : Inv X pins σ H s) : ∀ b o, X.base.get? b = some o → s.heap.get? b = some o := fun b o e => (I.bs b o e).1
theorem Inv.mod (I : Inv X pins σ H s) : Mod X.K X.mg X.base := I.ok.mod
theorem Inv.kIn (I : Inv X pins σ H s) : X.K.In s.heap := I.ok.mod.kin.keeps I.bk
theorem Inv.lt (I : Inv X pins σ H s) : X.env.locals < s.heap.objs.size := let ⟨_, hn, _⟩ := I.loc; hn.lt
theorem Inv.sz (I : Inv X pins σ H s) : X.s₀.heap.objs.size ≤ s.heap.objs.size := Nat.le_trans I.ok.above (Nat.le_of_lt I.lt)
theorem Inv.nofs (I : Inv X pins σ H s) {a : Addr} (h : s.heap.objs.size ≤ a) : a ∉ X.fs := fun hb => by
  obtain ⟨_, o, ho, _⟩ := I.ok.funs.mem hb
  exact absurd (Nat.lt_of_lt_of_le (Heap.lt_size ho) (Nat.le_trans I.sz h)) (Nat.lt_irrefl _)
theorem Inv.cne (I : Inv X pins σ H s) : ∀ x c, X.env.cells.lookup x = some c → c ≠ X.env.locals := fun x c e z => by
  obtain ⟨v, o, ho, hd⟩ := I.cell x c e
  obtain ⟨m, ⟨o', es, ep, ho', hd', _⟩, _⟩ := I.loc
  rw [z, ho'] at ho; cases ho; rw [hd'] at hd; cases hd
theorem Inv.funs (I : Inv X pins σ H s) : s.heap.FunFrames X.base X.outer := by
  have all : ∀ (l : List Env), (∀ b ∈ frs l, b ∈ X.fs) → X.s₀.heap.FunFrames X.base l → s.heap.FunFrames X.base l := by
    intro l
    induction l with
    | nil => intro _ _; trivial
    | cons env r ih =>
      intro hs hl
      obtain ⟨hk, ⟨L, o, hf, hn, ho, hd⟩, hr⟩ := hl
      have hL : L ∈ X.fs := hs L (by unfold frs; rw [List.filterMap_cons, hf]; exact List.mem_cons_self)
      obtain ⟨sl, e⟩ := I.base.slot L o ho (I.ok.frf L hL) hL fun z => I.ok.exfs L z hL
      exact ⟨hk, ⟨L, _, hf, hn, e, hd⟩, ih (fun b hb => hs b (by unfold frs; rw [List.filterMap_cons, hf]; exact List.mem_cons_of_mem _ hb)) hr⟩
  exact all X.outer (fun _ hb => hb) I.ok.funs
theorem Inv.stack (I : Inv X pins σ H s) : s.heap.FunFrames X.base X.stack := by
  rcases I.ok.stk with e | ⟨e, hf⟩
  · rw [e]; exact I.funs
  · rw [e]
    obtain ⟨m, hn, _⟩ := I.loc
    refine .cons (by rw [I.ok.kind]; decide) hf hn ?_ I.funs
    exact Heap.get?_none_of_le (Nat.le_trans I.ok.bsz I.ok.above)
theorem Inv.stkSub (I : Inv X pins σ H s) : ∀ b ∈ frs X.stack, b ∈ X.env.locals :: X.fs := fun b hb => by
  rcases I.ok.stk with e | ⟨e, hf⟩
  · rw [e] at hb; exact List.mem_cons_of_mem _ hb
  · rw [e] at hb
    unfold frs at hb
    rw [List.filterMap_cons, hf] at hb
    exact hb
theorem Inv.stkFree (I : Inv X pins σ H s) : ∀ b ∈ frs X.stack, H b = none := fun b hb => by
  rcases List.mem_cons.mp (I.stkSub b hb) with e | hb
  · rw [e]; exact I.free
  · obtain ⟨_, o, ho, _⟩ := I.ok.funs.mem hb
    exact I.base.free b o ho (I.ok.frf b hb) fun z => I.ok.exfs b z hb
theorem Inv.step {g' : Array GenState} {t' : Nat} {d' : Drawn} {ch : List Addr} (I : Inv X pins σ H s)
    (hch : ∀ b ∈ ch, (b ∈ X.ex ∨ X.s₀.heap.objs.size ≤ b) ∧ b ≠ X.env.locals ∧ (∀ x c, X.env.cells.lookup x = some c → c ≠ b) ∧ ∀ p ∈ X.pn ++ pins, p.1 ≠ b)
    (keep : ∀ b o, b ≠ X.env.locals → b ∉ X.fs → b ∉ ch → s.heap.get? b = some o → H b = none → h'.get? b = some o)
    (slot : ∀ b o, b ≠ X.env.locals → b ∈ X.fs → b ∉ ch → s.heap.get? b = some o → H b = none → ∃ sl, h'.get? b = some { o with slots := sl }) (free : ∀ b o, b ∉ ch → s.heap.get? b = some o → H b = none → H' b = none)
    (there : ∀ b o, b ∉ ch → s.heap.get? b = some o → ∃ o', h'.get? b = some o')
    (tups : ∀ b xs, H b = some (.tup xs) → H' b = some (.tup xs)) (frzs : ∀ b o u, H b = some (.frz o u) → H' b = some (.frz o u)) (tbls : ∀ b ps, H b = some (.tbl ps) → ∃ more, H' b = some (.tbl (ps ++ more)))
    (ns : ∀ m, s.heap.Ns X.env.locals m → h'.Ns X.env.locals m) (hok : HOk X.prog X.w H' h') (hg : AllBare g') :
    Inv X pins σ H' { s with heap := h', gens := g', drawn := d', toks := t' } := by
  have neL : ∀ b o, X.s₀.heap.get? b = some o → b ≠ X.env.locals := fun b o e => Nat.ne_of_lt (Nat.lt_of_lt_of_le (Heap.lt_size e) I.ok.above)
  have neC : ∀ b o, X.s₀.heap.get? b = some o → b ∉ X.ex → b ∉ ch := fun b o e hx hb => by
    rcases (hch b hb).1 with z | z
    · exact hx z
    · exact absurd (Nat.lt_of_lt_of_le (Heap.lt_size e) z) (Nat.lt_irrefl _)
  have cellK : ∀ x c, X.env.cells.lookup x = some c → ∀ v, s.heap.IsCell c v → h'.IsCell c v := fun x c e v ⟨o, ho, hd⟩ => by
    have nch : c ∉ ch := fun z => (hch c z).2.2.1 x c e rfl
    by_cases hc : c ∈ X.fs
    · obtain ⟨sl, q⟩ := slot c o (I.cne x c e) hc nch ho (I.freeC x c e)
      exact ⟨_, q, hd⟩
    · exact ⟨o, keep c o (I.cne x c e) hc nch ho (I.freeC x c e), hd⟩
  refine ⟨I.ok, I.os, hg, ⟨fun b o e n hb hx => ?_, fun b o e n hb hx => ?_, fun b o e n hx => ?_, fun b o e hx => ?_, fun b xs e => tups b xs (I.base.tups b xs e), fun b o xs e => frzs b o xs (I.base.frzs b o xs e), fun b ps e => ?_⟩, ?_, fun x c e => ?_, ?_, fun x c e => ?_, fun p hp => ?_, hok, I.len⟩
  · exact keep b o (neL b o e) hb (neC b o e hx) (I.base.keep b o e n hb hx) (I.base.free b o e n hx)
  · obtain ⟨sl, e1⟩ := I.base.slot b o e n hb hx
    obtain ⟨sl', e2⟩ := slot b _ (neL b o e) hb (neC b o e hx) e1 (I.base.free b o e n hx)
    exact ⟨sl', e2⟩
  · obtain ⟨o', e1⟩ := I.base.there b o e hx
    exact free b o' (neC b o e hx) e1 (I.base.free b o e n hx)
  · obtain ⟨o', e1⟩ := I.base.there b o e hx
    exact there b o' (neC b o e hx) e1
  · obtain ⟨m1, e1⟩ := I.base.tbls b ps e
    obtain ⟨m2, e2⟩ := tbls b _ e1
    exact ⟨m1 ++ m2, by rw [e2, Array.append_assoc]⟩
  · obtain ⟨m, hn, hl⟩ := I.loc
    refine ⟨m, ns m hn, fun i x v e1 e2 e3 => ?_⟩
    obtain ⟨u, r, l⟩ := hl i x v e1 e2 e3
    refine ⟨u, r, ?_⟩
    rcases l with l | ⟨k, c, e, z⟩
    · exact .inl l
    · exact .inr ⟨k, c, e, cellK x c e _ z⟩
  · obtain ⟨v, z⟩ := I.cell x c e
    exact ⟨v, cellK x c e v z⟩
  · obtain ⟨m, ⟨o, _, _, ho, _⟩, _⟩ := I.loc
    exact free _ o (fun z => (hch _ z).2.1 rfl) ho I.free
  · obtain ⟨v, o, ho, hd⟩ := I.cell x c e
    exact free c o (fun z => (hch c z).2.2.1 x c e rfl) ho (I.freeC x c e)
  · obtain ⟨e, n, ne, nf, d⟩ := I.pin p hp
    have nch : p.1 ∉ ch := fun z => (hch p.1 z).2.2.2 p hp rfl
    exact ⟨keep p.1 p.2 ne nf nch e n, free p.1 p.2 nch e n, ne, nf, d⟩
theorem Inv.un {t' : Nat} (I : Inv X pins σ H s) (u : Un X.fs [] H H' s.heap h') (hok : HOk X.prog X.w H' h') : Inv X pins σ H' { s with heap := h', toks := t' } := by
  obtain ⟨m, ⟨o, es, ep, ho, r⟩, _⟩ := id I.loc
  obtain ⟨sl, hL⟩ := u.any ho I.free (by simp)
  exact I.step (g' := s.gens) (d' := s.drawn) (ch := []) (fun _ z => nomatch z) (fun b o _ hb _ e n => u.keep b o e n hb (by simp)) (fun b o _ hb _ e n => u.slot b o e n hb (by simp)) (fun b o _ e n => u.free b o e n (by simp)) (fun b o _ e => u.there b o e (by simp)) u.tups u.frzs u.tbls (fun m' hm => by
    obtain ⟨o', es', ep', ho', r'⟩ := hm
    rw [ho] at ho'; cases ho'
    exact ⟨_, es', ep', hL, r'⟩) hok I.bare
theorem Inv.call {g' : Array GenState} {t' : Nat} {d' : Drawn} {ch : List Addr} (I : Inv X pins σ H s) (u : Un (frs X.stack) ch H H' s.heap h') (hok : HOk X.prog X.w H' h') (hg : AllBare g')
    (hch : ∀ b ∈ ch, (b ∈ X.ex ∨ X.s₀.heap.objs.size ≤ b) ∧ b ≠ X.env.locals ∧ (∀ x c, X.env.cells.lookup x = some c → c ≠ b) ∧ ∀ p ∈ X.pn ++ pins, p.1 ≠ b) :
    Inv X pins σ H' { s with heap := h', gens := g', drawn := d', toks := t' } := by
  obtain ⟨m, ⟨o, es, ep, ho, r⟩, _⟩ := id I.loc
  obtain ⟨sl, hL⟩ := u.any ho I.free fun z => (hch _ z).2.1 rfl
  exact I.step (ch := ch) hch (fun b o hL hb hc e n => u.keep b o e n (fun z => (List.mem_cons.mp (I.stkSub b z)).elim hL hb) hc) (fun b o _ _ hc e n => u.any e n hc) (fun b o hc e n => u.free b o e n hc) (fun b o hc e => u.there b o e hc) u.tups u.frzs u.tbls (fun m' hm => by
    obtain ⟨o', es', ep', ho', r'⟩ := hm
    rw [ho] at ho'; cases ho'
    exact ⟨_, es', ep', hL, r'⟩) hok hg
theorem Inv.turned {t' : Nat} {it : Addr} (I : Inv X pins σ H s) (k : ∀ b o, b ≠ it → s.heap.get? b = some o → h'.get? b = some o) (hn : H it = none) (hL : it ≠ X.env.locals)
    (h1 : it ∈ X.ex ∨ X.s₀.heap.objs.size ≤ it) (h2 : ∀ x c, X.env.cells.lookup x = some c → c ≠ it) (h3 : ∀ p ∈ X.pn ++ pins, p.1 ≠ it) : Inv X pins σ H { s with heap := h', toks := t' } := by
  have nit : ∀ b u, H b = some u → b ≠ it := fun b u e z => by rw [z, hn] at e; cases e
  refine I.step (g' := s.gens) (d' := s.drawn) (ch := [it]) (fun b hb => ?_) (fun b o _ _ hc e _ => k b o (fun z => hc (by simp [z])) e) (fun b o _ _ hc e _ => ⟨o.slots, k b o (fun z => hc (by simp [z])) e⟩) (fun _ _ _ _ n => n)
    (fun b o hc e => ⟨o, k b o (fun z => hc (by simp [z])) e⟩) (fun _ _ e => e) (fun _ _ _ e => e) (fun b ps e => ⟨#[], by rw [e]; simp⟩) (fun m hm => ?_) (fun b u e => ?_) I.bare
  · have e : b = it := by simpa using hb
    subst e
    exact ⟨h1, hL, h2, h3⟩
  · obtain ⟨o, es, ep, ho, r⟩ := hm
    exact ⟨o, es, ep, k _ o (Ne.symm hL) ho, r⟩
  · refine (I.hok b u e).stay (fun c v hc q => k c v ?_ q) (fun _ q => q) fun _ _ q => q
    rcases hc with z | z
    · rw [z]; exact nit b u e
    · exact nit c _ z
theorem Inv.tok (I : Inv X pins σ H s) (t : Nat) : Inv X pins σ H { s with toks := t } := I.un (h' := s.heap) (t' := t) Un.refl I.hok
theorem Inv.kept {t' : Nat} (I : Inv X pins σ H s) (k : ∀ b u, s.heap.get? b = some u → h'.get? b = some u) : Inv X pins σ H { s with heap := h', toks := t' } := I.un (Un.kept k) (I.hok.kept k)
theorem Inv.laid {a : Addr} {o : HO} {t' : Nat} (I : Inv X pins σ H s) (k : ∀ b u, s.heap.get? b = some u → h'.get? b = some u) (hp : s.heap.objs.size ≤ a) (new : ObjOk X.prog X.w (upd H a o) h' a o) :
    Inv X pins σ (upd H a o) { s with heap := h', toks := t' } := I.un (Un.laid k hp (I.hok.fresh hp)) (I.hok.laid k hp new)
theorem Inv.write {x e : Addr} {o : HO} {t' : Nat} (I : Inv X pins σ H s) (mu : Mut (H x)) (he : e = x ∨ H e = some (.own x)) (k : ∀ b u, b ≠ e → s.heap.get? b = some u → h'.get? b = some u) (heo : ∃ u, h'.get? e = some u)
    (new : ObjOk X.prog X.w (upd H x o) h' x o) : Inv X pins σ (upd H x o) { s with heap := h', toks := t' } := I.un (Un.write mu he k heo) (I.hok.write mu he k heo new)
theorem Inv.pins_of {pins' : List (Addr × Obj)} (I : Inv X pins σ H s) (h : ∀ p ∈ pins', s.heap.get? p.1 = some p.2 ∧ H p.1 = none ∧ p.1 ≠ X.env.locals ∧ p.1 ∉ X.fs ∧ ∀ v, p.2.data ≠ .cell v) : Inv X pins' σ H s :=
  ⟨I.ok, I.os, I.bare, I.base, I.loc, I.cell, I.free, I.freeC, fun p hp => (List.mem_append.mp hp).elim (fun z => I.pin p (List.mem_append_left _ z)) (h p), I.hok, I.len⟩
theorem nodup_ix {N : List Str} (hN : N.Nodup) {i j : Nat} {x : Str} (a : N[i]? = some x) (b : N[j]? = some x) : i = j := by
  obtain ⟨h1, e1⟩ := List.getElem?_eq_some_iff.mp a
  obtain ⟨h2, e2⟩ := List.getElem?_eq_some_iff.mp b
  exact (List.getElem_inj hN).mp (e1.trans e2.symm)
theorem store_ok2 {M : Model} {A : Around} {E : Value → Shared → Prop} {i : Nat} {x : Str} {v : V} {u : Value} {Q : Unit → Shared → Prop} (I : Inv X pins σ H s) (hN : X.N.Nodup) (hi : X.N[i]? = some x) (hx : Loc X.env.scope x) (r : RelV v u)
    (h : ∀ s', Inv X pins (σ.set i (some v)) H s' → (∃ a, Heap.SameBut a s.heap s'.heap ∧ (a = X.env.locals ∨ X.env.cells.lookup x = some a)) → Q () s') (hf : X.fn x = true ∨ X.env.scope.names.lookup x = some .local := by first | exact .inl rfl | exact .inr rfl | assumption) : wpAny M A (storeName X.env x u) Q E s := by
  obtain ⟨m, hn, hl⟩ := id I.loc
  have hcls : (X.env.scope.kind == .class || (X.env.scope.kind == .module && X.env.locals != X.env.globals)) = false := by rw [I.ok.kind]; rfl
  have hiσ : i < σ.length := by rw [I.len]; exact (List.getElem?_eq_some_iff.mp hi).1
  have cne := I.cne
  have tracked : ∀ {a : Addr} {h' : Heap}, (∃ o, s.heap.get? a = some o ∧ H a = none) → Heap.SameBut a s.heap h' → HOk X.prog X.w H h' := fun {a h'} ha hs b ob e => by
    obtain ⟨_, _, hfree⟩ := ha
    refine (I.hok b ob e).stay (fun c w' hc q => (hs.2 c ?_).trans q) (fun _ q => q) fun _ _ q => q
    rintro rfl
    rcases hc with rfl | hc
    · rw [hfree] at e; cases e
    · rw [hfree] at hc; cases hc
  rcases hx with hk | hk
  · refine wpAny_storeName_local hk hn (fun h' hn' hs => ?_) hcls
    obtain ⟨oL, _, _, hoL, _⟩ := id hn
    refine h _ ⟨I.ok, I.os, I.bare, ⟨fun b o e n hb hx => ?_, fun b o e n hb hx => ?_, I.base.free, fun b o e hx => ?_, I.base.tups, I.base.frzs, I.base.tbls⟩, ⟨_, hn', fun j y v' e1 e2 e3 => ?_⟩, fun y c e => ?_, I.free, I.freeC, fun p hp => ?_, tracked ⟨oL, hoL, I.free⟩ hs, by simpa using I.len⟩ ⟨_, hs, .inl rfl⟩
    · exact (hs.2 b (Nat.ne_of_lt (Nat.lt_of_lt_of_le (Heap.lt_size e) I.ok.above))).trans (I.base.keep b o e n hb hx)
    · obtain ⟨sl, e1⟩ := I.base.slot b o e n hb hx
      exact ⟨sl, (hs.2 b (Nat.ne_of_lt (Nat.lt_of_lt_of_le (Heap.lt_size e) I.ok.above))).trans e1⟩
    · obtain ⟨o', e1⟩ := I.base.there b o e hx
      exact ⟨o', (hs.2 b (Nat.ne_of_lt (Nat.lt_of_lt_of_le (Heap.lt_size e) I.ok.above))).trans e1⟩
    · by_cases hj : j = i
      · subst hj
        rw [hi] at e1; cases e1
        rw [List.getElem?_set_self hiσ] at e2
        cases e2
        exact ⟨u, r, .inl ⟨hk, by simp⟩⟩
      · rw [List.getElem?_set_ne (Ne.symm hj)] at e2
        obtain ⟨u', r', q⟩ := hl j y v' e1 e2 e3
        refine ⟨u', r', ?_⟩
        rcases q with ⟨k, e⟩ | ⟨k, c, e, z⟩
        · refine .inl ⟨k, ?_⟩
          have : y ≠ x := fun e => hj (nodup_ix hN e1 (e ▸ hi))
          simp [this, e]
        · exact .inr ⟨k, c, e, z.sameBut hs (cne y c e)⟩
    · obtain ⟨w', z⟩ := I.cell y c e
      exact ⟨w', z.sameBut hs (cne y c e)⟩
    · obtain ⟨e, n, ne, nf, d⟩ := I.pin p hp
      exact ⟨(hs.2 p.1 ne).trans e, n, ne, nf, d⟩
  · have hfn : X.fn x = true := by
      rcases hf with z | z
      · exact z
      · rw [z] at hk; cases hk
    obtain ⟨c, hc⟩ := I.ok.has x (.inl hk)
    obtain ⟨w', z⟩ := I.cell x c hc
    refine wpAny_storeName_cell I.ok.kind hk hc z (fun h' hc' hs => ?_)
    obtain ⟨oc, hoc, hocd⟩ := id z
    refine h { s with heap := h' } ⟨I.ok, I.os, I.bare, ⟨fun b o e n hb hx => ?_, fun b o e n hb hx => ?_, I.base.free, fun b o e hx => ?_, I.base.tups, I.base.frzs, I.base.tbls⟩, ⟨m, hn.sameBut hs (Ne.symm (cne x c hc)), fun j y v' e1 e2 e3 => ?_⟩, fun y c' e => ?_, I.free, I.freeC, fun p hp => ?_, tracked ⟨oc, hoc, I.freeC x c hc⟩ hs, by simpa using I.len⟩ ⟨c, hs, .inr hc⟩
    · exact (hs.2 b (Nat.ne_of_lt (Nat.lt_of_lt_of_le (Heap.lt_size e) (I.ok.cab x c hfn hc)))).trans (I.base.keep b o e n hb hx)
    · obtain ⟨sl, e1⟩ := I.base.slot b o e n hb hx
      exact ⟨sl, (hs.2 b (Nat.ne_of_lt (Nat.lt_of_lt_of_le (Heap.lt_size e) (I.ok.cab x c hfn hc)))).trans e1⟩
    · obtain ⟨o', e1⟩ := I.base.there b o e hx
      exact ⟨o', (hs.2 b (Nat.ne_of_lt (Nat.lt_of_lt_of_le (Heap.lt_size e) (I.ok.cab x c hfn hc)))).trans e1⟩
    · by_cases hj : j = i
      · subst hj
        rw [hi] at e1; cases e1
        rw [List.getElem?_set_self hiσ] at e2
        cases e2
        exact ⟨u, r, .inr ⟨.inl hk, c, hc, hc'⟩⟩
      · rw [List.getElem?_set_ne (Ne.symm hj)] at e2
        obtain ⟨u', r', q⟩ := hl j y v' e1 e2 e3
        refine ⟨u', r', ?_⟩
        rcases q with q | ⟨k, c', e, z'⟩
        · exact .inl q
        · refine .inr ⟨k, c', e, z'.sameBut hs ?_⟩
          rintro rfl
          exact hj (nodup_ix hN e1 (I.ok.inj _ _ _ e hc ▸ hi))
    · by_cases hcc : c' = c
      · subst hcc; exact ⟨_, hc'⟩
      · obtain ⟨w2, z2⟩ := I.cell y c' e
        exact ⟨w2, z2.sameBut hs hcc⟩
    · obtain ⟨e, n, ne, nf, d⟩ := I.pin p hp
      refine ⟨(hs.2 p.1 ?_).trans e, n, ne, nf, d⟩
      intro q
      rw [q, hoc] at e
      have q' : oc = p.2 := Option.some.inj e
      exact d w' (by rw [← q']; exact hocd)
theorem store_ok {M : Model} {A : Around} {E : Value → Shared → Prop} {i : Nat} {x : Str} {v : V} {u : Value} {Q : Unit → Shared → Prop} (I : Inv X pins σ H s) (hN : X.N.Nodup) (hi : X.N[i]? = some x) (hx : Loc X.env.scope x) (r : RelV v u)
    (h : ∀ s', Inv X pins (σ.set i (some v)) H s' → Q () s') (hf : X.fn x = true ∨ X.env.scope.names.lookup x = some .local := by first | exact .inl rfl | exact .inr rfl | assumption) : wpAny M A (storeName X.env x u) Q E s :=
  store_ok2 I hN hi hx r (fun s' I' _ => h s' I') hf
theorem Inv.call' {s' : Shared} {ch : List Addr} (I : Inv X pins σ H s) (ho : s'.os = s.os) (u : Un (frs X.stack) ch H H' s.heap s'.heap) (hok : HOk X.prog X.w H' s'.heap) (hg : AllBare s'.gens)
    (hch : ∀ b ∈ ch, (b ∈ X.ex ∨ X.s₀.heap.objs.size ≤ b) ∧ b ≠ X.env.locals ∧ (∀ x c, X.env.cells.lookup x = some c → c ≠ b) ∧ ∀ p ∈ X.pn ++ pins, p.1 ≠ b) : Inv X pins σ H' s' := by
  obtain ⟨h', g', d', t', o'⟩ := s'
  have e : o' = s.os := ho
  subst e
  exact I.call (g' := g') (t' := t') (d' := d') u hok hg hch
end
abbrev XK := Value → Option Addr → Hp → Prop
abbrev St := List (Option V)
abbrev VK := V → Hp → Prop
abbrev TE := St → Hp → VK → Prop
abbrev TT := St → Hp → (Bool → Hp → Prop) → Prop
abbrev TA := St → Hp → (List V → Hp → Prop) → Prop
structure Ends where
  nx : St → Hp → Prop
  rt : VK
  bk : St → Hp → Prop := fun _ _ => False
  ct : St → Hp → Prop := fun _ _ => False
abbrev TS := Ends → St → Hp → Prop
def EP (X : Cx) (pins : List (Addr × Obj)) (σ : St) (Q : VK) (u : Value) (s' : Shared) : Prop := ∃ v H', Inv X pins σ H' s' ∧ RelV v u ∧ Q v H'
def TP (X : Cx) (pins : List (Addr × Obj)) (σ : St) (Q : Bool → Hp → Prop) (b : Bool) (s' : Shared) : Prop := ∃ H', Inv X pins σ H' s' ∧ Q b H'
def AP (X : Cx) (pins : List (Addr × Obj)) (σ : St) (Q : List V → Hp → Prop) (us : List Value) (s' : Shared) : Prop := ∃ vs H', Inv X pins σ H' s' ∧ Vals vs us ∧ Q vs H'
def SP (X : Cx) (pins : List (Addr × Obj)) (D : Ends) (f : Flow) (s' : Shared) : Prop :=
  match f with
  | .next => ∃ σ' H', Inv X pins σ' H' s' ∧ D.nx σ' H'
  | .brk => ∃ σ' H', Inv X pins σ' H' s' ∧ D.bk σ' H'
  | .cont => ∃ σ' H', Inv X pins σ' H' s' ∧ D.ct σ' H'
  | .ret u => ∃ v σ' H', Inv X pins σ' H' s' ∧ RelV v u ∧ D.rt v H'
def PE (X : Cx) (e : Expr) (t : TE) : Prop :=
  ∀ (pins : List (Addr × Obj)) (s : Shared) (σ : St) (H : Hp) (Q : VK), Inv X pins σ H s → t σ H Q → wpAny (model X.prog X.w) X.A (eval e X.env) (EP X pins σ Q) X.xe s
def PT (X : Cx) (e : Expr) (t : TT) : Prop :=
  ∀ (pins : List (Addr × Obj)) (s : Shared) (σ : St) (H : Hp) (Q : Bool → Hp → Prop), Inv X pins σ H s → t σ H Q → wpAny (model X.prog X.w) X.A (isTrue e X.env (eval e X.env)) (TP X pins σ Q) X.xe s
def PW (X : Cx) (e : Expr) (t : TT) : Prop :=
  ∀ (whole : Sem Value) (pins : List (Addr × Obj)) (s : Shared) (σ : St) (H : Hp) (Q : Bool → Hp → Prop), Inv X pins σ H s → t σ H Q → wpAny (model X.prog X.w) X.A (isTrue e X.env whole) (TP X pins σ Q) X.xe s
theorem PW.pt {X : Cx} {e : Expr} {t : TT} (h : PW X e t) : PT X e t := h _
def PA (X : Cx) (es : List Expr) (t : TA) : Prop :=
  ∀ (pos : Pos) (pins : List (Addr × Obj)) (s : Shared) (σ : St) (H : Hp) (Q : List V → Hp → Prop), Inv X pins σ H s → t σ H Q → wpAny (model X.prog X.w) X.A (spliced (backTo pos (starEach es X.env))) (AP X pins σ Q) X.xe s
def PS (X : Cx) (st : Stmt) (t : TS) : Prop :=
  ∀ (pins : List (Addr × Obj)) (s : Shared) (σ : St) (H : Hp) (D : Ends), Inv X pins σ H s → t D σ H → wpAny (model X.prog X.w) X.A (exec st X.env) (SP X pins D) X.xe s
def PSs (X : Cx) (st : List Stmt) (t : TS) : Prop :=
  ∀ (pins : List (Addr × Obj)) (s : Shared) (σ : St) (H : Hp) (D : Ends), Inv X pins σ H s → t D σ H → wpAny (model X.prog X.w) X.A (execs st X.env) (SP X pins D) X.xe s
theorem thn {α : Type} {t : Sem α} {Q Q' : α → Shared → Prop} {M : Model} {A : Around} {E : Value → Shared → Prop} {s : Shared} (h : wpAny M A t Q E s) (hQ : ∀ a s, Q a s → Q' a s) : wpAny M A t Q' E s := wpAny_mono h hQ fun _ _ x => x
end L2
namespace L2
open PySem PySem.Spec PyProof.Rows
section
variable {X : Cx}
def tVar (i : Nat) : TE := fun σ H Q => ∃ v, σ[i]? = some (some v) ∧ Q v H
def tC (v : V) : TE := fun _ H Q => Q v H
theorem pe_var {i : Nat} {x : Str} {pos : Pos} (hN : X.N[i]? = some x) (hv : Vis X.env.scope x) (hd : (x == ("__debug__" : Str)) = false := by decide) (hcd : (x == ("__classdict__" : Str)) = false := by decide) : PE X (.Name x pos) (tVar i) := by
  intro pins s σ H Q I h
  obtain ⟨v, e, h⟩ := h
  obtain ⟨m, hn, hl⟩ := I.loc
  obtain ⟨u, r, l⟩ := hl i x v hN e hv
  have fin : EP X pins σ Q u s := ⟨v, H, I, r, h⟩
  rcases l with ⟨hk, hm⟩ | ⟨hk, c, hc, hcell⟩
  · exact wpAny_Name (wpAny_loadName_local I.ok.kind hk hn hm fin) hd
  · rcases hk with hk | hk
    · exact wpAny_Name (wpAny_loadName_cell I.ok.kind hk hc hcell fin) hd
    · exact wpAny_Name (wpAny_loadName_free I.ok.kind hk hc hcell fin hcd) hd
theorem pe_int {i j pos} : PE X (.Constant (.int i) j pos) (tC (.int i)) := fun _ _ _ H _ I h => wpAny_Constant_int ⟨.int i, H, I.tok _, ⟨_, rfl⟩, h⟩
theorem pe_bl {b j pos} : PE X (.Constant (.bool b) j pos) (tC (.bl b)) := fun _ _ _ H _ I h => Constant_bool ⟨.bl b, H, I, rfl, h⟩
theorem pe_non {j pos} : PE X (.Constant .none j pos) (tC .non) := fun _ _ _ H _ I h => Constant_none ⟨.non, H, I, rfl, h⟩
theorem pe_str {x j pos} : PE X (.Constant (.str x) j pos) (tC (.str x)) := fun _ _ _ H _ I h => Calls.Constant_str ⟨.str x, H, I.tok _, ⟨_, rfl⟩, h⟩
def Gl (X : Cx) (x : Str) : Prop := X.env.kindOf x = some .globalImplicit
theorem ld_glob {E : Value → Shared → Prop} {pins : List (Addr × Obj)} {s : Shared} {σ : St} {H : Hp} {x : Str} {u : Value} {pos : Pos} {Q : Value → Shared → Prop} (I : Inv X pins σ H s) (hg : Gl X x) (hm : X.mg x = some u) (h : Q u s)
    (hd : (x == ("__debug__" : Str)) = false := by decide) : wpAny (model X.prog X.w) X.A (eval (.Name x pos) X.env) Q E s :=
  Calls.Name_function_global I.ok.kind hg (Calls.loadGlobal_global (by rw [I.ok.glob]; exact I.mod.glob.keeps I.bk) hm h) hd
theorem ld_blt {E : Value → Shared → Prop} {pins : List (Addr × Obj)} {s : Shared} {σ : St} {H : Hp} {x : Str} {u : Value} {pos : Pos} {Q : Value → Shared → Prop} (I : Inv X pins σ H s) (hg : Gl X x) (hm : X.mg x = none) (hv : bootBuiltins x = some u) (h : Q u s)
    (hn : x ≠ "__name__" := by decide) (hd : (x == ("__debug__" : Str)) = false := by decide) : wpAny (model X.prog X.w) X.A (eval (.Name x pos) X.env) Q E s := by
  obtain ⟨mb, h1, h2⟩ := I.mod.blt
  exact Calls.Name_function_global I.ok.kind hg (Calls.loadGlobal_builtin (by rw [I.ok.glob]; exact I.mod.glob.keeps I.bk) hm (by rw [I.ok.blt]; exact h1.keeps I.bk) ((h2 x hn).trans hv) h) hd
theorem pe_bltn {x : Str} {v : V} {u : Value} {pos : Pos} (hg : Gl X x) (hm : X.mg x = none) (hv : bootBuiltins x = some u) (r : RelV v u) (hn : x ≠ "__name__" := by decide) (hd : (x == ("__debug__" : Str)) = false := by decide) : PE X (.Name x pos) (tC v) :=
  fun _ _ _ H _ I h => ld_blt I hg hm hv ⟨v, H, I, r, h⟩ hn hd
variable {a b : Expr} {ta tb : TE} {pos : Pos}
def PC (X : Cx) (op : CmpOp) (a b : Expr) (t : TE) : Prop :=
  ∀ (pins : List (Addr × Obj)) (s : Shared) (σ : St) (H : Hp) (Q : VK), Inv X pins σ H s → t σ H Q →
    wpAny (model X.prog X.w) X.A (eval a X.env) (fun v s₁ => wpAny (model X.prog X.w) X.A (eval b X.env) (fun u s₂ => wpAny (model X.prog X.w) X.A (compareOp op v u) (EP X pins σ Q) X.xe s₂) X.xe s₁) X.xe s
def tB (t : TE) : TT := fun σ H Q => t σ H fun x H1 => ∃ c, x = .bl c ∧ Q c H1
theorem pe_cmp {op : CmpOp} {t : TE} (h : PC X op a b t) (h1 : behindInMarks op b = false := by first | exact nobehind _ (by decide) (by decide) | rfl) : PE X (.Compare a [op] [b] pos) t := fun pins s σ H Q I hw => wpAny_Compare1 (h pins s σ H Q I hw) h1
theorem pt_cmp {op : CmpOp} {t : TE} (h : PC X op a b t) (h1 : behindInMarks op b = false := by first | exact nobehind _ (by decide) (by decide) | rfl) : PT X (.Compare a [op] [b] pos) (tB t) := by
  intro pins s σ H Q I hw
  refine wpAny_isTrue_Compare1 (thn (h pins s σ H _ I hw) fun v s1 h1 => thn h1 fun u s2 h2 => thn h2 fun c s3 ⟨x, H1, I1, r1, q1⟩ => ?_) h1
  obtain ⟨d, rfl, q⟩ := q1
  cases r1
  exact wpAny_truthy_bool ⟨H1, I1, q⟩
theorem pt_val {e : Expr} {t : TE} (h : PE X e t) (he : ∀ whole, isTrue e X.env whole = (do let v ← whole; standAt e.pos; holding [v] (truthy v)) := by intro _; rfl) : PT X e (tB t) := by
  intro pins s σ H Q I hw
  refine isTrue_plain (thn (h pins s σ H _ I hw) fun v s1 ⟨x, H1, I1, r1, q1⟩ => ?_) (he _)
  obtain ⟨d, rfl, q⟩ := q1
  cases r1
  exact wpAny_truthy_bool ⟨H1, I1, q⟩
variable {tA tB' : TT} {rest : List Expr}
def tAnd (t u : TT) : TT := fun σ H Q => t σ H fun c H1 => if c = true then u σ H1 Q else Q false H1
def tOr (t u : TT) : TT := fun σ H Q => t σ H fun c H1 => if c = true then Q true H1 else u σ H1 Q
def tNot (t : TT) : TT := fun σ H Q => t σ H fun c H1 => Q (!c) H1
theorem pw_and1 (ha : PT X a tA) : PW X (.BoolOp .And [a] pos) tA := by
  intro wh pins s σ H Q I h
  refine isTrue_and (thn (ha pins s σ H Q I h) fun c s1 e => ?_)
  cases c with
  | true => exact isTrue_and_nil e
  | false => exact e
theorem pw_or1 (ha : PT X a tA) : PW X (.BoolOp .Or [a] pos) tA := by
  intro wh pins s σ H Q I h
  refine isTrue_or (thn (ha pins s σ H Q I h) fun c s1 e => ?_)
  cases c with
  | false => exact isTrue_or_nil e
  | true => exact e
theorem pw_and (ha : PT X a tA) (hb : PW X (.BoolOp .And (b :: rest) pos) tB') : PW X (.BoolOp .And (a :: b :: rest) pos) (tAnd tA tB') := by
  intro wh pins s σ H Q I h
  refine isTrue_and (thn (ha pins s σ H _ I h) fun c s1 ⟨H1, I1, q1⟩ => ?_)
  cases c with
  | true => exact hb wh pins s1 σ H1 Q I1 q1
  | false => exact ⟨H1, I1, q1⟩
theorem pw_or (ha : PT X a tA) (hb : PW X (.BoolOp .Or (b :: rest) pos) tB') : PW X (.BoolOp .Or (a :: b :: rest) pos) (tOr tA tB') := by
  intro wh pins s σ H Q I h
  refine isTrue_or (thn (ha pins s σ H _ I h) fun c s1 ⟨H1, I1, q1⟩ => ?_)
  cases c with
  | true => exact ⟨H1, I1, q1⟩
  | false => exact hb wh pins s1 σ H1 Q I1 q1
theorem pt_not (ha : PT X a tA) : PT X (.UnaryOp .Not a pos) (tNot tA) := by
  intro pins s σ H Q I h
  exact isTrue_not (ha pins s σ H (fun c H1 => Q (!c) H1) I h)
def tAndV (ta tb : TE) : TE := fun σ H Q => ta σ H fun x H1 => ∃ c, x = .bl c ∧ if c = true then tb σ H1 Q else Q (.bl false) H1
def tNotV (ta : TE) : TE := fun σ H Q => ta σ H fun x H1 => ∃ c, x = .bl c ∧ Q (.bl (!c)) H1
theorem pe_one {op} {t : TE} (h : PE X a t) : PE X (.BoolOp op [a] pos) t := fun pins s σ H Q I hw => BoolOp_one (h pins s σ H Q I hw)
theorem pe_and (ha : PE X a ta) (hb : PE X (.BoolOp .And (b :: rest) pos) tb) : PE X (.BoolOp .And (a :: b :: rest) pos) (tAndV ta tb) := by
  intro pins s σ H Q I h
  refine BoolOp_and (thn (ha pins s σ H _ I h) fun v s1 ⟨x, H1, I1, r1, q1⟩ => ?_)
  obtain ⟨c, rfl, q1⟩ := q1
  cases r1
  refine wpAny_truthy_bool ?_
  cases c with
  | true => exact hb pins s1 σ H1 Q I1 q1
  | false => exact ⟨.bl false, H1, I1, rfl, q1⟩
theorem pe_not (ha : PE X a ta) : PE X (.UnaryOp .Not a pos) (tNotV ta) := by
  intro pins s σ H Q I h
  refine UnaryOp_ (thn (ha pins s σ H _ I h) fun v s1 ⟨x, H1, I1, r1, q1⟩ => ?_)
  obtain ⟨c, rfl, q1⟩ := q1
  cases r1
  exact not_of (wpAny_truthy_bool ⟨.bl (!c), H1, I1, rfl, q1⟩)
end
end L2
namespace L2
open PySem PySem.Spec PyProof.Rows
def SqL (K : PySem.W.Frag) (H : Hp) (a : Addr) (xs : List V) : Prop :=
  Rd H a (.lst xs) ∨
    ∃ (o : Obj) (its : Array Value) (n : Nat), K.lookup a = some o ∧ o.cls = .type "list" ∧ o.dict = none ∧ o.data = .seq its n ∧ its.size ≤ sizeLine ∧ Vals xs its.toList
def SqT (K : PySem.W.Frag) (H : Hp) (a : Addr) (xs : List V) : Prop :=
  Rd H a (.tup xs) ∨
    ∃ (o : Obj) (its : Array Value) (n : Nat), K.lookup a = some o ∧ o.cls = .type "tuple" ∧ o.data = .seq its n ∧ its.size ≤ sizeLine ∧ Vals xs its.toList
def absV : Value → Option V
  | .none => some .non
  | .bool b => some (.bl b)
  | .int i _ => some (.int i)
  | .str x _ => some (.str x)
  | .bytes b _ => some (.byt b)
  | .float b _ => some (.flt b)
  | .ref a => some (.ref a)
  | .type n => some (.ty n)
  | _ => none
theorem RelV.abs {x : V} {u : Value} (r : RelV x u) : absV u = some x := by
  cases x with
  | non => cases r; rfl
  | bl _ => cases r; rfl
  | int _ => obtain ⟨t, rfl⟩ := r; rfl
  | str _ => obtain ⟨t, rfl⟩ := r; rfl
  | byt _ => obtain ⟨t, rfl⟩ := r; rfl
  | flt _ => obtain ⟨t, rfl⟩ := r; rfl
  | ref _ => cases r; rfl
  | ty _ => cases r; rfl
theorem RelV.inj {x y : V} {u : Value} (r : RelV x u) (q : RelV y u) : x = y := Option.some.inj (r.abs.symm.trans q.abs)
theorem Vals.inj : ∀ {xs ys : List V} {us : List Value}, Vals xs us → Vals ys us → xs = ys
  | _, _, _, .nil, .nil => rfl
  | _, _, _, .cons r t, .cons r' t' => by rw [r.inj r', Vals.inj t t']
section
variable {X : Cx} {pins : List (Addr × Obj)} {σ : St} {H : Hp} {s : Shared} {a : Addr} {xs ys : List V}
theorem SqL.of {K : PySem.W.Frag} (h : H a = some (.lst xs)) : SqL K H a xs := .inl (.inl h)
theorem SqT.of {K : PySem.W.Frag} (h : H a = some (.tup xs)) : SqT K H a xs := .inl (.inl h)
theorem Inv.list (I : Inv X pins σ H s) (h : SqL X.K H a xs) : ∃ its : List Value, Vals xs its ∧ PlainL s.heap a its.toArray ∧ xs.length ≤ sizeLine := by
  rcases h with h | ⟨o, its, n, hk, hc, hd, hs, hz, r⟩
  · obtain ⟨z, its, n, r, e⟩ := h.ok I.hok
    exact ⟨its, r, ⟨_, n, e, rfl, rfl, rfl⟩, z⟩
  · refine ⟨its.toList, r, ⟨o, n, I.kIn a o hk, hc, hd, by simpa using hs⟩, ?_⟩
    have e := r.length
    simp only [Array.length_toList] at e
    omega
theorem Inv.tuple (I : Inv X pins σ H s) (h : SqT X.K H a xs) : ∃ its : List Value, Vals xs its ∧ IsTup s.heap a its.toArray ∧ xs.length ≤ sizeLine := by
  rcases h with h | ⟨o, its, n, hk, hc, hs, hz, r⟩
  · obtain ⟨z, its, r, p⟩ := h.ok I.hok
    exact ⟨its, r, p, z.1⟩
  · refine ⟨its.toList, r, ⟨o, I.kIn a o hk, hc, n, by simpa using hs⟩, ?_⟩
    have e := r.length
    simp only [Array.length_toList] at e
    omega
theorem Inv.list_inj (I : Inv X pins σ H s) (h : SqL X.K H a xs) (h' : SqL X.K H a ys) : xs = ys := by
  obtain ⟨its, r, ⟨o, n, e, _, _, d⟩, _⟩ := I.list h
  obtain ⟨its', r', ⟨o', n', e', _, _, d'⟩, _⟩ := I.list h'
  rw [e] at e'; cases e'
  rw [d] at d'
  injection d' with d1 _
  have : its = its' := by simpa using congrArg Array.toList d1
  subst this
  exact r.inj r'
theorem Inv.tuple_inj (I : Inv X pins σ H s) (h : SqT X.K H a xs) (h' : SqT X.K H a ys) : xs = ys := by
  obtain ⟨its, r, ⟨o, e, _, n, d⟩, _⟩ := I.tuple h
  obtain ⟨its', r', ⟨o', e', _, n', d'⟩, _⟩ := I.tuple h'
  rw [e] at e'; cases e'
  rw [d] at d'
  injection d' with d1 _
  have : its = its' := by simpa using congrArg Array.toList d1
  subst this
  exact r.inj r'
end
abbrev Cx.wish (X : Cx) (E : Value → Shared → Prop) : Cx := { X with xe := E }
abbrev Cx.nox (X : Cx) : Cx := X.wish fun _ _ => False
theorem Cx.Ok.wish {X : Cx} (ok : X.Ok) (E : Value → Shared → Prop) : (X.wish E).Ok :=
  ⟨ok.mod, ok.kind, ok.glob, ok.blt, ok.above, ok.inj, ok.has, ok.cab, ok.hd, ok.frames, ok.stk, ok.exf, ok.bs, ok.bsz, ok.noex, ok.exfs, ok.funs, ok.frf⟩
theorem Cx.Ok.unwish {X : Cx} {E : Value → Shared → Prop} (ok : (X.wish E).Ok) : X.Ok :=
  ⟨ok.mod, ok.kind, ok.glob, ok.blt, ok.above, ok.inj, ok.has, ok.cab, ok.hd, ok.frames, ok.stk, ok.exf, ok.bs, ok.bsz, ok.noex, ok.exfs, ok.funs, ok.frf⟩
section
variable {X : Cx} {pins : List (Addr × Obj)} {σ : St} {H : Hp} {s : Shared} {E : Value → Shared → Prop}
theorem Inv.wish (I : Inv X pins σ H s) (E : Value → Shared → Prop) : Inv (X.wish E) pins σ H s := ⟨I.ok.wish E, I.os, I.bare, I.base, I.loc, I.cell, I.free, I.freeC, I.pin, I.hok, I.len⟩
theorem Inv.unwish (I : Inv (X.wish E) pins σ H s) : Inv X pins σ H s := ⟨I.ok.unwish, I.os, I.bare, I.base, I.loc, I.cell, I.free, I.freeC, I.pin, I.hok, I.len⟩
theorem SP.unwish {D : Ends} {f : Flow} {s' : Shared} (h : SP (X.wish E) pins D f s') : SP X pins D f s' := by
  cases f with
  | next => obtain ⟨σ', H', I, q⟩ := h; exact ⟨σ', H', I.unwish, q⟩
  | brk => obtain ⟨σ', H', I, q⟩ := h; exact ⟨σ', H', I.unwish, q⟩
  | cont => obtain ⟨σ', H', I, q⟩ := h; exact ⟨σ', H', I.unwish, q⟩
  | ret u => obtain ⟨v, σ', H', I, r, q⟩ := h; exact ⟨v, σ', H', I.unwish, r, q⟩
theorem PSs.nox {st : List Stmt} {t : TS} (h : PSs X.nox st t) : PSs X st t := fun pins s σ H D I hw =>
  wpAny_mono (h pins s σ H D (I.wish _) hw) (fun _ _ q => q.unwish) fun _ _ z => False.elim z
end
section
variable {X : Cx} {st : Stmt} {rest : List Stmt} {t u : TS} {e : Expr} {te : TE} {pos : Pos}
def tNext : TS := fun D σ H => D.nx σ H
def tSeq (t u : TS) : TS := fun D σ H => t { D with nx := u D } σ H
theorem pss_nil : PSs X [] tNext := fun _ _ σ H _ I h => wpAny_execs_nil ⟨σ, H, I, h⟩
theorem pss_cons (h1 : PS X st t) (h2 : PSs X rest u) : PSs X (st :: rest) (tSeq t u) := by
  intro pins s σ H D I h
  refine wpAny_execs_cons (thn (h1 pins s σ H { D with nx := u D } I h) fun f s1 q => ?_)
  cases f with
  | next =>
    obtain ⟨σ', H', I', q⟩ := q
    exact h2 pins s1 σ' H' D I' q
  | ret v => exact q
  | brk => exact q
  | cont => exact q
theorem pss_one (h1 : PS X st t) : PSs X [st] t := by
  intro pins s σ H D I h
  refine wpAny_execs_cons (thn (h1 pins s σ H D I h) fun f s1 q => ?_)
  cases f with
  | next => exact wpAny_execs_nil q
  | ret v => exact q
  | brk => exact q
  | cont => exact q
theorem Inv.quiet {pins : List (Addr × Obj)} {σ : St} {H : Hp} {s : Shared} (I : Inv X pins σ H s) : interactive X.env = false := by simp [interactive, I.ok.kind]
def tDrop (te : TE) : TS := fun D σ H => te σ H fun _ H1 => D.nx σ H1
theorem ps_expr (he : PE X e te) (hs : swapsWith e none pos.line X.env = pure false := by rfl) : PS X (.Expr e pos) (tDrop te) := by
  intro pins s σ H D I h
  exact wpAny_Expr_any (thn (he pins s σ H _ I h) fun v s1 ⟨x, H1, I1, r1, q1⟩ => ⟨σ, H1, I1, q1⟩) I.quiet hs
def tRet (te : TE) : TS := fun D σ H => te σ H D.rt
theorem ps_ret (he : PE X e te) : PS X (.Return (some e) pos) (tRet te) := by
  intro pins s σ H D I h
  exact wpAny_Return_some (thn (he pins s σ H _ I h) fun v s1 ⟨x, H1, I1, r1, q1⟩ => ⟨x, σ, H1, I1, r1, q1⟩)
def tIfS (c : TT) (t u : TS) : TS := fun D σ H => c σ H fun b H1 => if b = true then t D σ H1 else u D σ H1
theorem ps_if {c : Expr} {a b : List Stmt} {tc : TT} (hc : PT X c tc) (ha : PSs X a t) (hb : PSs X b u) : PS X (.If c a b pos) (tIfS tc t u) := by
  intro pins s σ H D I h
  refine wpAny_If (thn (hc pins s σ H _ I h) fun d s1 ⟨H1, I1, q1⟩ => ?_)
  cases d with
  | true => exact ha pins s1 σ H1 D I1 q1
  | false => exact hb pins s1 σ H1 D I1 q1
end
abbrev TG := V → St → Hp → (St → Hp → Prop) → Prop
abbrev TGs := List V → St → Hp → (St → Hp → Prop) → Prop
def PG (X : Cx) (target : Expr) (t : TG) : Prop :=
  ∀ (pins : List (Addr × Obj)) (s : Shared) (σ : St) (H : Hp) (v : V) (u : Value) (Q : St → Hp → Prop), Inv X pins σ H s → RelV v u → t v σ H Q →
    wpAny (model X.prog X.w) X.A (assign target X.env u) (fun _ s' => ∃ σ' H', Inv X pins σ' H' s' ∧ Q σ' H') X.xe s
def PGs (X : Cx) (ts : List Expr) (t : TGs) : Prop :=
  ∀ (pins : List (Addr × Obj)) (s : Shared) (σ : St) (H : Hp) (vs : List V) (us : List Value) (Q : St → Hp → Prop), Inv X pins σ H s → Vals vs us → t vs σ H Q →
    wpAny (model X.prog X.w) X.A (assignInOrder ((assignEach ts X.env).map (·.2)) us) (fun _ s' => ∃ σ' H', Inv X pins σ' H' s' ∧ Q σ' H') X.xe s
abbrev TSet := V → V → V → Hp → (Hp → Prop) → Prop
def PSet (X : Cx) (t : TSet) : Prop :=
  ∀ (pins : List (Addr × Obj)) (s : Shared) (σ : St) (H : Hp) (o i v : V) (ov iv u : Value) (Q : Hp → Prop), Inv X pins σ H s → RelV o ov → RelV i iv → RelV v u → t o i v H Q →
    wpAny (model X.prog X.w) X.A (setItem ov iv u) (fun _ s' => ∃ H', Inv X pins σ H' s' ∧ Q H') X.xe s
section
variable {X : Cx} {pos : Pos}
def gName (i : Nat) : TG := fun v σ H Q => Q (σ.set i (some v)) H
theorem pg_name {i : Nat} {x : Str} (hN : X.N.Nodup) (hi : X.N[i]? = some x) (hx : Loc X.env.scope x) (hf : X.fn x = true ∨ X.env.scope.names.lookup x = some .local := by first | exact .inl rfl | exact .inr rfl | assumption) : PG X (.Name x pos) (gName i) := by
  intro pins s σ H v u Q I r h
  exact wpAny_assign_Name (store_ok I hN hi hx r (fun s' I' => ⟨_, H, I', h⟩) hf)
def gNil : TGs := fun vs σ H Q => vs = [] ∧ Q σ H
def gCons (t : TG) (u : TGs) : TGs := fun vs σ H Q => ∃ v r, vs = v :: r ∧ t v σ H fun σ' H' => u r σ' H' Q
theorem pgs_nil : PGs X [] gNil := by
  intro pins s σ H vs us Q I r h
  obtain ⟨e, h⟩ := h
  subst e
  cases r
  exact assignInOrder_nil ⟨σ, H, I, h⟩
theorem pgs_cons {e : Expr} {es : List Expr} {t : TG} {u : TGs} (h1 : PG X e t) (h2 : PGs X es u)
    (hs : (assignEach (e :: es) X.env).map (·.2) = assign e X.env :: (assignEach es X.env).map (·.2) := by rfl) : PGs X (e :: es) (gCons t u) := by
  intro pins s σ H vs us Q I r h
  obtain ⟨v, vr, e1, h⟩ := h
  subst e1
  cases r with
  | cons r rr =>
    rw [hs]
    refine assignInOrder_cons (thn (h1 pins s σ H _ _ _ I r h) fun _ s1 ⟨σ1, H1, I1, q1⟩ => ?_)
    exact h2 pins s1 σ1 H1 _ _ Q I1 rr q1
def gTup (K : PySem.W.Frag) (n : Nat) (t : TGs) : TG := fun v σ H Q => ∃ a xs, v = .ref a ∧ SqT K H a xs ∧ xs.length = n ∧ t xs σ H Q
theorem pg_tup {es : List Expr} {k : Nat} {t : TGs} {n : Nat} (hc : X.calm = true) (h : PGs X es t)
    (hn : (assignEach es X.env).length = n := by rfl) (hst : (assignEach es X.env).findIdx? (·.1) = none := by rfl) : PG X (.Tuple es k pos) (gTup X.K n t) := by
  intro pins s σ H v u Q I r hw
  obtain ⟨a, xs, e1, hq, hl, hw⟩ := hw
  subst e1
  cases r
  obtain ⟨its, rv, ht, hz⟩ := I.tuple hq
  refine assign_Tuple_tuple (I.ok.hd hc) ht (by simp [hn, ← hl, rv.length]) hst fun h' hx => ?_
  have I1 : Inv X pins σ H { s with heap := h' } := I.kept (t' := s.toks) fun b o e => hx b o (Nat.ne_of_lt (Heap.lt_size e)) e
  exact h pins _ σ H xs _ Q I1 (by simpa using rv) hw
def gSub (to ti : TE) (t : TSet) : TG := fun v σ H Q => to σ H fun o H1 => ti σ H1 fun i H2 => t o i v H2 fun H3 => Q σ H3
theorem pg_sub {o i : Expr} {to ti : TE} {t : TSet} (ho : PE X o to) (hi : PE X i ti) (hs : PSet X t)
    (ha : ∀ v, assign (.Subscript o i pos) X.env v = (do
      let ov ← holding [v] (eval o X.env)
      let iv ← holding [v, ov] (eval i X.env)
      standAt pos
      holding [v, ov, iv] (setItem ov iv v)
      release [v, ov, iv] []) := by intro _; rfl) : PG X (.Subscript o i pos) (gSub to ti t) := by
  intro pins s σ H v u Q I r h
  rw [ha]
  refine wpAny_bind (wpAny_holding (thn (ho pins s σ H _ I h) fun ov s1 ⟨x, H1, I1, r1, q1⟩ => ?_))
  refine wpAny_bind (wpAny_holding (thn (hi pins s1 σ H1 _ I1 q1) fun iv s2 ⟨y, H2, I2, r2, q2⟩ => ?_))
  refine wpAny_bind (wpAny_standAt (wpAny_bind (wpAny_holding (thn (hs pins s2 σ H2 x y v ov iv u _ I2 r1 r2 r q2) fun _ s3 ⟨H3, I3, q3⟩ => ?_))))
  exact wpAny_release ⟨σ, H3, I3, q3⟩
def tAsg (te : TE) (g : TG) : TS := fun D σ H => te σ H fun x H1 => g x σ H1 D.nx
theorem ps_asg {tg e : Expr} {te : TE} {g : TG} (he : PE X e te) (hg : PG X tg g) (hs : swapsWithSole [tg] e pos.line X.env = pure false := by rfl) (hw : swappedStores [tg] e X.env = pure none := by rfl)
    (h1 : (assignEach [tg] X.env).map (·.2) = [assign tg X.env] := by rfl) : PS X (.Assign [tg] e pos) (tAsg te g) := by
  intro pins s σ H D I h
  refine wpAny_Assign_stores (thn (he pins s σ H _ I h) fun v s1 ⟨x, H1, I1, r1, q1⟩ => ?_) hs hw
  rw [h1]
  exact thn (hg pins s1 σ H1 x v _ I1 r1 q1) fun _ s2 q => q
theorem ps_set {i : Nat} {x : Str} {e : Expr} {te : TE} {pos' : Pos} (hN : X.N.Nodup) (hi : X.N[i]? = some x) (hx : Loc X.env.scope x) (he : PE X e te) (hs : swapsWith e (some (.Name x pos')) pos.line X.env = pure false := by rfl) (hf : X.fn x = true ∨ X.env.scope.names.lookup x = some .local := by first | exact .inl rfl | exact .inr rfl | assumption) :
    PS X (.Assign [.Name x pos'] e pos) (tAsg te (gName i)) := by
  intro pins s σ H D I h
  refine wpAny_Assign_Name (thn (he pins s σ H _ I h) fun v s1 ⟨y, H1, I1, r1, q1⟩ => ?_) hs
  exact store_ok I1 hN hi hx r1 (fun s2 I2 => ⟨_, H1, I2, q1⟩) hf
def tPar (i j : Nat) (ta : TA) : TS := fun D σ H => ta σ H fun vs H1 => ∃ v w, vs = [v, w] ∧ D.nx ((σ.set i (some v)).set j (some w)) H1
theorem ps_par {i j : Nat} {x y : Str} {a b : Expr} {ta : TA} {px py pt : Pos} {kt k2 pt2} (hc : X.calm = true) (hN : X.N.Nodup) (hi : X.N[i]? = some x) (hj : X.N[j]? = some y) (hij : i ≠ j)
    (hx : X.env.scope.names.lookup x = some .local) (hy : X.env.scope.names.lookup y = some .local) (ha : PA X [a, b] ta)
    (hw : swappedStores [.Tuple [.Name x px, .Name y py] kt pt] (.Tuple [a, b] k2 pt2) X.env = pure (some [x, y]))
    (hs : swapsWithSole [.Tuple [.Name x px, .Name y py] kt pt] (.Tuple [a, b] k2 pt2) pos.line X.env = pure false := by rfl) :
    PS X (.Assign [.Tuple [.Name x px, .Name y py] kt pt] (.Tuple [a, b] k2 pt2) pos) (tPar i j ta) := by
  intro pins s σ H D I h
  rw [exec_Assign_arm]
  refine wpAny_bind (wpAny_standAt ?_)
  rw [hs]
  refine wpAny_bind (wpAny_pure ?_)
  rw [if_neg (by decide)]
  refine wpAny_bind (Tuple_ (thn (ha _ pins s σ H _ I h) fun us s1 ⟨vs, H1, I1, r1, q1⟩ => ?_))
  obtain ⟨v, w, e1, q1⟩ := q1
  subst e1
  obtain ⟨u1, u2, rfl, rv, rw'⟩ : ∃ u1 u2, us = [u1, u2] ∧ RelV v u1 ∧ RelV w u2 := by
    cases r1 with
    | cons p q =>
      cases q with
      | cons p' q' =>
        cases q'
        exact ⟨_, _, rfl, p, p'⟩
  refine wpAny_newObj_type ?_ (by show 2 ≤ sizeLine; decide)
  have I2 : Inv X pins σ H1 { s1 with heap := s1.heap.push { cls := .type "tuple", data := .seq [u1, u2].toArray } } := I1.kept (t' := s1.toks) fun b o e => Heap.get?_push_of_some _ e
  rw [hw]
  refine wpAny_bind (wpAny_pure ?_)
  show wpAny (model X.prog X.w) X.A (do rule "assign.swapped-stores"; let items ← unpackItems (.ref s1.heap.objs.size) 2 none; assignInOrder [fun v => bindName X.env y v, fun v => bindName X.env x v] items.reverse; pure Flow.next) _ _ _
  refine wpAny_bind (wpAny_rule (wpAny_bind (unpackItems_tuple (items := #[u1, u2]) (I.ok.hd hc) (IsTup.new s1.heap _) fun h' hx' => ?_)))
  have I3 := I2.kept (h' := h') (t' := s1.toks) fun b o e => hx' b o (Nat.ne_of_lt (Heap.lt_size e)) e
  show wpAny _ _ (assignInOrder [fun v => bindName X.env y v, fun v => bindName X.env x v] [u2, u1] >>= fun _ => pure Flow.next) _ _ _
  refine wpAny_bind (assignInOrder_cons (wpAny_bindName (store_ok I3 hN hj (.inl hy) rw' (fun s2 I4 => ?_) (.inr hy))))
  refine assignInOrder_cons (wpAny_bindName (store_ok I4 hN hi (.inl hx) rv (fun s3 I5 => assignInOrder_nil (wpAny_pure ?_)) (.inr hx)))
  rw [List.set_comm _ _ (Ne.symm hij)] at I5
  exact ⟨_, H1, I5, q1⟩
end
section
variable {X : Cx} {pos : Pos}
def tWhile (c : TT) (tb : TS) : TS := fun D σ H => ∃ W : Nat → St → Hp → Prop, (∃ m, W m σ H) ∧ ∀ m σ H, W m σ H →
  c σ H fun b H1 => if b = true then ∃ N : St → Hp → Prop, (∀ σ' H', N σ' H' → ∃ m', m' < m ∧ W m' σ' H') ∧ tb { D with nx := N, ct := N, bk := D.nx } σ H1 else D.nx σ H1
theorem ps_while {c : Expr} {body : List Stmt} {tc : TT} {tb : TS} (hp : PassesOwn (model X.prog X.w) X.A X.env X.xe) (hc : PT X c tc) (hb : PSs X body tb) : PS X (.While c body [] pos) (tWhile tc tb) := by
  intro pins s σ H D I h
  obtain ⟨W, ⟨m0, w0⟩, turn⟩ := h
  refine wpAny_While (codeAny_whileLoop (fun n s' => ∃ σ' H', Inv X pins σ' H' s' ∧ W n σ' H') ?_ m0 ⟨σ, H, I, w0⟩)
  rintro n s1 ⟨σ1, H1, I1, w1⟩
  refine wpAny_passesOwn hp (thn (hc pins s1 σ1 H1 _ I1 (turn n σ1 H1 w1)) fun b s2 ⟨H2, I2, q2⟩ => ?_)
  cases b with
  | true =>
    obtain ⟨N, hN, q2⟩ := q2
    rw [if_pos rfl]
    refine wpAny_passesOwn hp (thn (hb pins s2 σ1 H2 _ I2 q2) fun f s3 q3 => ?_)
    cases f with
    | next =>
      obtain ⟨σ3, H3, I3, n3⟩ := q3
      obtain ⟨m', hm, w3⟩ := hN σ3 H3 n3
      exact ⟨m', hm, σ3, H3, I3, w3⟩
    | cont =>
      obtain ⟨σ3, H3, I3, n3⟩ := q3
      obtain ⟨m', hm, w3⟩ := hN σ3 H3 n3
      exact ⟨m', hm, σ3, H3, I3, w3⟩
    | brk => exact q3
    | ret v => exact q3
  | false =>
    rw [if_neg Bool.false_ne_true]
    exact wpAny_execs_nil ⟨σ1, H2, I2, q2⟩
end
structure It where
  go : Nat → Hp → Prop
  yld : Nat → Hp → V → Hp → Prop
  stop : Nat → Hp → Prop
def FpOk (X : Cx) (pins : List (Addr × Obj)) (H : Hp) (b : Addr) : Prop :=
  H b = none ∧ b ≠ X.env.locals ∧ b ∉ X.fs ∧ (b ∈ X.ex ∨ X.s₀.heap.objs.size ≤ b) ∧ (∀ x c, X.env.cells.lookup x = some c → c ≠ b) ∧ ∀ p ∈ X.pn ++ pins, p.1 ≠ b
theorem Inv.fpOk {X : Cx} {pins : List (Addr × Obj)} {σ : St} {H H' : Hp} {s : Shared} {b : Addr} (I : Inv X pins σ H s) (hb : s.heap.objs.size ≤ b) (hn : H' b = none) : FpOk X pins H' b := by
  refine ⟨hn, Nat.ne_of_gt (Nat.lt_of_lt_of_le I.lt hb), I.nofs hb, .inr (Nat.le_trans I.sz hb), fun x c e z => ?_, fun p hp z => ?_⟩
  · obtain ⟨v, q⟩ := I.cell x c e
    exact absurd (Nat.lt_of_lt_of_le q.lt (by rw [z]; exact hb)) (Nat.lt_irrefl _)
  · exact absurd (Nat.lt_of_lt_of_le (Heap.lt_size (I.pin p hp).1) (by rw [z]; exact hb)) (Nat.lt_irrefl _)
structure Turn (P : Program) (w : World) (K : PySem.W.Frag) (tg : Expr) (J : It) (fp : List Addr) (it : Addr) (tn : Nat → Heap → Prop) : Prop where
  mem : it ∈ fp
  obj : ∀ i h, tn i h → ∀ b ∈ fp, ∃ o, h.get? b = some o ∧ ∀ v, o.data ≠ .cell v
  keep : ∀ i h h', tn i h → (∀ b ∈ fp, ∀ o, h.get? b = some o → h'.get? b = some o) → tn i h'
  item : ∀ (X : Cx), X.prog = P → X.w = w → X.K = K → X.calm = true → ∀ (i : Nat) (pins : List (Addr × Obj)) (s : Shared) (σ : St) (H : Hp) (E : Value → Shared → Prop), Inv X pins σ H s → (∀ b ∈ fp, FpOk X pins H b) → tn i s.heap → J.go i H →
    wpAny (model P w) X.A (pyNext (.ref it)) (fun r s1 => ∃ u, r = some u ∧
      wpAny (model P w) X.A (letOwnedTupleGo tg (.ref it) u) (fun _ s2 => ∃ x H', Inv X pins σ H' s2 ∧ RelV x u ∧ J.yld i H x H' ∧ tn (i + 1) s2.heap ∧ ∀ b ∈ fp, H' b = none) E s1) E s
  done : ∀ (X : Cx), X.prog = P → X.w = w → X.K = K → X.calm = true → ∀ (i : Nat) (pins : List (Addr × Obj)) (s : Shared) (σ : St) (H : Hp) (E : Value → Shared → Prop), Inv X pins σ H s → (∀ b ∈ fp, FpOk X pins H b) → tn i s.heap → J.stop i H →
    wpAny (model P w) X.A (pyNext (.ref it)) (fun r s1 => r = none ∧ Inv X pins σ H s1) E s
  self : ∀ (A : Around) (i : Nat) (s : Shared) (Q : Value → Shared → Prop) (E : Value → Shared → Prop), tn i s.heap → Q (.ref it) s → wpAny (model P w) A (pyIter (.ref it)) Q E s
abbrev TI := St → Hp → (It → Hp → Prop) → Prop
def PIE (X : Cx) (pins : List (Addr × Obj)) (σ : St) (tg : Expr) (R : It → Hp → Prop) (itv : Value) (s2 : Shared) : Prop :=
  ∃ (it : Addr) (fp : List Addr) (tn : Nat → Heap → Prop) (J : It) (H' : Hp), itv = .ref it ∧ Inv X pins σ H' s2 ∧ Turn X.prog X.w X.K tg J fp it tn ∧ tn 0 s2.heap ∧ (∀ b ∈ fp, FpOk X pins H' b) ∧ R J H'
def PI (X : Cx) (tg iter : Expr) (wi : TI) : Prop :=
  ∀ (pins : List (Addr × Obj)) (s : Shared) (σ : St) (H : Hp) (R : It → Hp → Prop), Inv X pins σ H s → wi σ H R →
    wpAny (model X.prog X.w) X.A (eval iter X.env) (fun v s1 => wpAny (model X.prog X.w) X.A (pyIter v) (PIE X pins σ tg R) X.xe s1) X.xe s
theorem go_of {M : Model} {A : Around} {E : Value → Shared → Prop} {s : Shared} {tg : Expr} {it : Addr} {u : Value} {o : Obj} {n : String} {vs : Array Value} {Q : Unit → Shared → Prop} (ho : s.heap.get? it = some o) (hc : o.cls = .type n) (hd : o.data = .fields vs)
    (hn : ["enumerate", "zip", "dict_itemiterator", "dict_reverseitemiterator", "odict_iterator", "itertools.zip_longest", "itertools.pairwise"].contains n = false) (hQ : Q () s) : wpAny M A (letOwnedTupleGo tg (.ref it) u) Q E s := by
  unfold letOwnedTupleGo
  cases tg <;> first
    | exact wpAny_pure hQ
    | (cases u <;> first
        | exact wpAny_pure hQ
        | (refine wpAny_bind (wpAny_load ho ?_)
           rw [hc, hd]
           show wpAny M A (if (["enumerate", "zip", "dict_itemiterator", "dict_reverseitemiterator", "odict_iterator", "itertools.zip_longest", "itertools.pairwise"].contains n && vs[0]? == some (rawInt _)) = true then _ else _) Q E s
           rw [if_neg (by intro h; rw [hn, Bool.false_and] at h; cases h)]
           exact wpAny_pure hQ))
def Itl (K : PySem.W.Frag) (a : Addr) : It :=
  ⟨fun i H => ∃ xs x, SqL K H a xs ∧ xs[i]? = some x, fun i H x H' => H' = H ∧ ∀ xs, SqL K H a xs → xs[i]? = some x, fun i H => ∃ xs, SqL K H a xs ∧ xs.length ≤ i⟩
def Itt (K : PySem.W.Frag) (a : Addr) : It :=
  ⟨fun i H => ∃ xs x, SqT K H a xs ∧ xs[i]? = some x, fun i H x H' => H' = H ∧ ∀ xs, SqT K H a xs → xs[i]? = some x, fun i H => ∃ xs, SqT K H a xs ∧ xs.length ≤ i⟩
def Itr (lo : Int) (n : Nat) : It := ⟨fun i _ => i < n, fun i H x H' => H' = H ∧ x = .int (lo + i), fun i _ => n ≤ i⟩
theorem turn_list {P : Program} {w : World} {K : PySem.W.Frag} {tg : Expr} (a it : Addr) : Turn P w K tg (Itl K a) [it] it (fun i h => h.IsListIter it a i) where
  mem := by simp
  obj := fun i h st b hb => by
    have e : b = it := by simpa using hb
    subst e
    obtain ⟨o, e, c, d⟩ := st
    exact ⟨o, e, fun v z => by rw [d] at z; cases z⟩
  keep := fun i h h' st k => st.at fun o e => k it (by simp) o e
  item := by
    intro X hP hw hK hc i pins s σ H E I hf st hg
    subst hP hw hK
    obtain ⟨xs, x, hq, hx⟩ := hg
    obtain ⟨its, rv, p, hz⟩ := I.list hq
    obtain ⟨u, hu, ru⟩ := rv.get hx
    obtain ⟨f0, f1, f2, f3, f4, f5⟩ := hf it (by simp)
    refine wpAny_pyNext_list_item st p.isList (x := u) (by simpa using hu) fun h' st' sb => ?_
    have I1 : Inv X pins σ H { s with heap := h' } := I.turned (t' := s.toks) (fun b o hb e => (sb.2 b hb).trans e) f0 f1 f3 f4 f5
    obtain ⟨o, e, c, d⟩ := id st'
    exact ⟨u, rfl, go_of (s := { s with heap := h' }) e c d (by decide) ⟨x, H, I1, ru, ⟨rfl, fun ys hy => by rw [I.list_inj hy hq]; exact hx⟩, st', fun b hb => (hf b hb).1⟩⟩
  done := by
    intro X hP hw hK hc i pins s σ H E I hf st hg
    subst hP hw hK
    obtain ⟨xs, hq, hx⟩ := hg
    obtain ⟨its, rv, p, hz⟩ := I.list hq
    obtain ⟨f0, f1, f2, f3, f4, f5⟩ := hf it (by simp)
    have hl := rv.length
    exact wpAny_pyNext_list_end (I.ok.hd hc) st p.isList (by simp; omega) fun h' eb => ⟨rfl, I.turned (t' := s.toks) (fun b o hb e => eb b o hb e) f0 f1 f3 f4 f5⟩
  self := fun _ _ _ _ _ st h => wpAny_pyIter_listiter st h
theorem turn_tuple {P : Program} {w : World} {K : PySem.W.Frag} {tg : Expr} (a it : Addr) : Turn P w K tg (Itt K a) [it] it (fun i h => h.IsTupleIter it a i) where
  mem := by simp
  obj := fun i h st b hb => by
    have e : b = it := by simpa using hb
    subst e
    obtain ⟨o, e, c, d⟩ := st
    exact ⟨o, e, fun v z => by rw [d] at z; cases z⟩
  keep := fun i h h' st k => st.at fun o e => k it (by simp) o e
  item := by
    intro X hP hw hK hc i pins s σ H E I hf st hg
    subst hP hw hK
    obtain ⟨xs, x, hq, hx⟩ := hg
    obtain ⟨its, rv, p, hz⟩ := I.tuple hq
    obtain ⟨u, hu, ru⟩ := rv.get hx
    obtain ⟨f0, f1, f2, f3, f4, f5⟩ := hf it (by simp)
    refine wpAny_pyNext_tuple_item st (show s.heap.IsTuple a its.toArray from p) (x := u) (by simpa using hu) fun h' st' sb => ?_
    have I1 : Inv X pins σ H { s with heap := h' } := I.turned (t' := s.toks) (fun b o hb e => (sb.2 b hb).trans e) f0 f1 f3 f4 f5
    obtain ⟨o, e, c, d⟩ := id st'
    exact ⟨u, rfl, go_of (s := { s with heap := h' }) e c d (by decide) ⟨x, H, I1, ru, ⟨rfl, fun ys hy => by rw [I.tuple_inj hy hq]; exact hx⟩, st', fun b hb => (hf b hb).1⟩⟩
  done := by
    intro X hP hw hK hc i pins s σ H E I hf st hg
    subst hP hw hK
    obtain ⟨xs, hq, hx⟩ := hg
    obtain ⟨its, rv, p, hz⟩ := I.tuple hq
    obtain ⟨f0, f1, f2, f3, f4, f5⟩ := hf it (by simp)
    have hl := rv.length
    exact wpAny_pyNext_tuple_end (I.ok.hd hc) st (show s.heap.IsTuple a its.toArray from p) (by simp; omega) fun h' eb => ⟨rfl, I.turned (t' := s.toks) (fun b o hb e => eb b o hb e) f0 f1 f3 f4 f5⟩
  self := fun _ _ _ _ _ st h => wpAny_pyIter_tupleiter st h
theorem turn_range {P : Program} {w : World} {K : PySem.W.Frag} {tg : Expr} (it : Addr) (lo : Int) (n : Nat) : Turn P w K tg (Itr lo n) [it] it (fun i h => IsRangeIter h it (lo + (i : Nat) * 1) ((n : Int) - (i : Nat)) 1) where
  mem := by simp
  obj := fun i h st b hb => by
    have e : b = it := by simpa using hb
    subst e
    exact ⟨_, st, fun v z => by
      have z' : Data.fields _ = Data.cell v := z
      cases z'⟩
  keep := fun i h h' st k => k it (by simp) _ st
  item := by
    intro X hP hw hK hc i pins s σ H E I hf st hg
    subst hP hw hK
    obtain ⟨f0, f1, f2, f3, f4, f5⟩ := hf it (by simp)
    have W := Walks.range (prog := X.prog) (w := X.w) (I.ok.hd hc) it lo 1 n
    refine W.item i s _ _ hg st fun v h' tk hv st' kk => ?_
    obtain ⟨t, rfl⟩ := hv
    have I1 : Inv X pins σ H { s with heap := h', toks := tk } := I.turned (fun b o hb e => kk b o (by simpa using hb) e) f0 f1 f3 f4 f5
    refine ⟨_, rfl, go_of (s := { s with heap := h', toks := tk }) (n := "range_iterator") st' rfl rfl (by decide) ⟨.int (lo + i), H, I1, ⟨t, ?_⟩, ⟨rfl, rfl⟩, st', fun b hb => (hf b hb).1⟩⟩
    rw [Int.mul_one]
  done := by
    intro X hP hw hK hc i pins s σ H E I hf st hg
    subst hP hw hK
    obtain ⟨f0, f1, f2, f3, f4, f5⟩ := hf it (by simp)
    exact wpAny_pyNext_range_end (I.ok.hd hc) st (by have : n ≤ i := hg; omega) fun h' eb => ⟨rfl, I.turned (t' := s.toks) (fun b o hb e => eb b o hb e) f0 f1 f3 f4 f5⟩
  self := fun _ _ _ _ _ st h => wpAny_pyIter_rangeiter st h
end L2
namespace L2
open PySem PySem.Spec PyProof.Rows
section
variable {X : Cx} {tg : Expr}
def iList (K : PySem.W.Frag) (tl : TE) : TI := fun σ H R => tl σ H fun x H1 => ∃ a, x = .ref a ∧ (∃ xs, SqL K H1 a xs) ∧ R (Itl K a) H1
def iTup (K : PySem.W.Frag) (tl : TE) : TI := fun σ H R => tl σ H fun x H1 => ∃ a, x = .ref a ∧ (∃ xs, SqT K H1 a xs) ∧ R (Itt K a) H1
theorem pi_list {l : Expr} {tl : TE} (hl : PE X l tl) : PI X tg l (iList X.K tl) := by
  intro pins s σ H R I h
  refine thn (hl pins s σ H _ I h) fun v s1 ⟨x, H1, I1, r1, q1⟩ => ?_
  obtain ⟨a, e, ⟨xs, hq⟩, q⟩ := q1
  subst e
  cases r1
  obtain ⟨its, rv, p, hz⟩ := I1.list hq
  refine wpAny_pyIter_list p.isList ?_
  refine ⟨s1.heap.objs.size, [s1.heap.objs.size], _, _, H1, rfl, I1.kept (t' := s1.toks) fun b o e => Heap.get?_push_of_some _ e, turn_list a _, ⟨_, Heap.get?_push_size _ rfl, rfl, rfl⟩, fun b hb => ?_, q⟩
  have e : b = s1.heap.objs.size := by simpa using hb
  subst e
  exact I1.fpOk (Nat.le_refl _) (I1.hok.fresh (Nat.le_refl _))
theorem pi_tup {l : Expr} {tl : TE} (hl : PE X l tl) : PI X tg l (iTup X.K tl) := by
  intro pins s σ H R I h
  refine thn (hl pins s σ H _ I h) fun v s1 ⟨x, H1, I1, r1, q1⟩ => ?_
  obtain ⟨a, e, ⟨xs, hq⟩, q⟩ := q1
  subst e
  cases r1
  obtain ⟨its, rv, p, hz⟩ := I1.tuple hq
  refine wpAny_pyIter_tuple (show s1.heap.IsTuple a its.toArray from p) ?_
  refine ⟨s1.heap.objs.size, [s1.heap.objs.size], _, _, H1, rfl, I1.kept (t' := s1.toks) fun b o e => Heap.get?_push_of_some _ e, turn_tuple a _, ⟨_, Heap.get?_push_size _ rfl, rfl, rfl⟩, fun b hb => ?_, q⟩
  have e : b = s1.heap.objs.size := by simpa using hb
  subst e
  exact I1.fpOk (Nat.le_refl _) (I1.hok.fresh (Nat.le_refl _))
theorem range_it {pins : List (Addr × Obj)} {σ : St} {H : Hp} {s : Shared} {R : It → Hp → Prop} {E : Value → Shared → Prop} {lo hi : Int} {t u v : Tok} {tk : Nat} (I : Inv X pins σ H s) (h1 : -(2 ^ 62) ≤ lo) (h2 : lo < 2 ^ 62) (h3 : -(2 ^ 62) ≤ hi) (h4 : hi < 2 ^ 62)
    (q : R (Itr lo (hi - lo).toNat) H) : wpAny (model X.prog X.w) X.A (pyIter (.ref s.heap.objs.size)) (PIE X pins σ tg R) E { s with heap := s.heap.push { cls := .type "range", data := .fields #[.int lo t, .int hi u, .int 1 v] }, toks := tk } := by
  refine wpAny_pyIter_range (IsRange.new ..) (small_one h1 h2 h3 h4) ?_
  have I1 : Inv X pins σ H { s with heap := s.heap.push { cls := .type "range", data := .fields #[.int lo t, .int hi u, .int 1 v] }, toks := tk } := I.kept fun b o e => Heap.get?_push_of_some _ e
  refine ⟨(s.heap.push { cls := .type "range", data := .fields #[.int lo t, .int hi u, .int 1 v] }).objs.size, [(s.heap.push { cls := .type "range", data := .fields #[.int lo t, .int hi u, .int 1 v] }).objs.size], _, _, H, rfl,
    I1.kept (t' := tk) fun b o e => Heap.get?_push_of_some _ e, turn_range _ lo (hi - lo).toNat, ?_, fun b hb => ?_, q⟩
  · have e1 : lo + ((0 : Nat) : Int) * 1 = lo := by simp
    have e2 : (((hi - lo).toNat : Nat) : Int) - ((0 : Nat) : Int) = Builtin.Range.rangeSize lo hi 1 := by rw [rangeSize_one]; split <;> omega
    show IsRangeIter _ _ (lo + ((0 : Nat) : Int) * 1) ((((hi - lo).toNat : Nat) : Int) - ((0 : Nat) : Int)) 1
    rw [e1, e2]
    exact Heap.get?_push_size _ rfl
  · have e : b = (s.heap.push { cls := .type "range", data := .fields #[.int lo t, .int hi u, .int 1 v] }).objs.size := by simpa using hb
    subst e
    exact I1.fpOk (Nat.le_refl _) (I1.hok.fresh (Nat.le_refl _))
def iRng1 (ta : TA) : TI := fun σ H R => ta σ H fun vs H1 => ∃ j : Int, vs = [.int j] ∧ -(2 ^ 62) ≤ j ∧ j < 2 ^ 62 ∧ R (Itr 0 j.toNat) H1
theorem pi_range1 {a : Expr} {ta : TA} {p pos : Pos} (hg : Gl X "range") (hm : X.mg "range" = none) (ha : PA X [a] ta) (hs : starEach [a] X.env = [(false, eval a X.env)] := by rfl) : PI X tg (.Call (.Name "range" p) [a] [] pos) (iRng1 ta) := by
  intro pins s σ H R I h
  refine Call_ (ld_blt I hg hm boot_range (PyProof.Rows.callWith_type1 (thn (ha pos pins s σ H _ I h) fun us s1 ⟨vs, H1, I1, r1, q1⟩ => ?_) hs rfl))
  obtain ⟨j, e, q1, q2, q⟩ := q1
  subst e
  cases r1 with
  | cons r rr =>
    cases rr
    obtain ⟨t, rfl⟩ := r
    exact call_range_1 (range_it I1 (by omega) (by omega) q1 q2 (by simpa using q))
def tFor (wi : TI) (g : TG) (tb : TS) : TS := fun D σ H => wi σ H fun J H1 => ∃ W : Nat → Nat → St → Hp → Prop, (∃ m, W 0 m σ H1) ∧ ∀ i m σ H, W i m σ H →
  (J.stop i H ∧ D.nx σ H) ∨ (J.go i H ∧ ∃ N : St → Hp → Prop, (∀ σ' H', N σ' H' → ∃ m', m' < m ∧ W (i + 1) m' σ' H') ∧ ∀ x H', J.yld i H x H' → g x σ H' fun σ2 H2 => tb { D with nx := N, ct := N, bk := D.nx } σ2 H2)
def pinsAt (fp : List Addr) (h : Heap) : List (Addr × Obj) := fp.filterMap fun b => (h.get? b).map fun o => (b, o)
theorem mem_pinsAt {fp : List Addr} {h : Heap} {b : Addr} {o : Obj} (hb : b ∈ fp) (e : h.get? b = some o) : (b, o) ∈ pinsAt fp h := List.mem_filterMap.mpr ⟨b, hb, by rw [e]; rfl⟩
theorem of_pinsAt {fp : List Addr} {h : Heap} {p : Addr × Obj} (hp : p ∈ pinsAt fp h) : p.1 ∈ fp ∧ h.get? p.1 = some p.2 := by
  obtain ⟨b, hb, e⟩ := List.mem_filterMap.mp hp
  cases q : h.get? b with
  | none => rw [q] at e; cases e
  | some o =>
    rw [q] at e
    have e' : (b, o) = p := Option.some.inj e
    subst e'
    exact ⟨hb, q⟩
theorem Inv.pinned {pins : List (Addr × Obj)} {σ : St} {H : Hp} {s : Shared} {fp : List Addr} (I : Inv X pins σ H s) (hf : ∀ b ∈ fp, FpOk X pins H b) (ho : ∀ b ∈ fp, ∃ o, s.heap.get? b = some o ∧ ∀ v, o.data ≠ .cell v) : Inv X (pins ++ pinsAt fp s.heap) σ H s :=
  I.pins_of fun p hp => (List.mem_append.mp hp).elim (fun z => I.pin p (List.mem_append_right _ z)) fun z => by
    obtain ⟨hb, e⟩ := of_pinsAt z
    obtain ⟨f0, f1, f2, _⟩ := hf p.1 hb
    obtain ⟨o, e', d⟩ := ho p.1 hb
    rw [e] at e'; cases e'
    exact ⟨e, f0, f1, f2, d⟩
theorem Inv.unpinned {pins pl : List (Addr × Obj)} {σ : St} {H : Hp} {s : Shared} (I : Inv X (pins ++ pl) σ H s) : Inv X pins σ H s := I.pins_of fun p hp => I.pin p (List.mem_append_right _ (List.mem_append_left _ hp))
theorem ps_for {iter : Expr} {body : List Stmt} {wi : TI} {g : TG} {tb : TS} {pos : Pos} (hp : PassesOwn (model X.prog X.w) X.A X.env X.xe) (hc : X.calm = true) (hi : PI X tg iter wi) (hg : PG X tg g) (hb : PSs X body tb)
    (hs : ∀ x, foldedSetIterable iter X.env x = pure x := by intro _; rfl) : PS X (.For tg iter body [] pos) (tFor wi g tb) := by
  intro pins s σ H D I h
  refine wpAny_For (thn (hi pins s σ H _ I h) fun v s1 h1 => thn h1 fun itv s2 h2 => ?_) hs
  obtain ⟨it, fp, tn, J, H2, e, I2, T, st2, f2, W, ⟨m0, w0⟩, turn⟩ := h2
  subst e
  have stat : ∀ {H' : Hp}, (∀ b ∈ fp, H' b = none) → ∀ b ∈ fp, FpOk X pins H' b := fun hn b hb => ⟨hn b hb, (f2 b hb).2⟩
  refine codeAny_forLoop_any (fun n s' => ∃ i σ' H', Inv X pins σ' H' s' ∧ tn i s'.heap ∧ (∀ b ∈ fp, H' b = none) ∧ W i n σ' H') ?_ m0 ⟨0, σ, H2, I2, st2, fun b hb => (f2 b hb).1, w0⟩
  rintro n s3 ⟨i, σ3, H3, I3, st3, fr3, w3⟩
  rcases turn i n σ3 H3 w3 with ⟨stop, qn⟩ | ⟨go, N, hN, step⟩
  · refine wpAny_passesOwn hp (thn (T.done X rfl rfl rfl hc i pins s3 σ3 H3 X.xe I3 (stat fr3) st3 stop) fun r s4 ⟨hr, I4⟩ => ?_)
    subst hr
    exact wpAny_execs_nil ⟨σ3, H3, I4, qn⟩
  · refine wpAny_passesOwn hp (thn (T.item X rfl rfl rfl hc i pins s3 σ3 H3 X.xe I3 (stat fr3) st3 go) fun r s4 ⟨u, hr, h4⟩ => ?_)
    subst hr
    refine wpAny_passesOwn hp (thn h4 fun _ s5 ⟨x, H5, I5, r5, y5, st5, fr5⟩ => ?_)
    have I5' := I5.pinned (stat fr5) (T.obj _ _ st5)
    refine wpAny_passesOwn hp (thn (hg _ s5 σ3 H5 x u _ I5' r5 (step x H5 y5)) fun _ s6 ⟨σ6, H6, I6, q6⟩ => ?_)
    refine wpAny_passesOwn hp (thn (hb _ s6 σ6 H6 _ I6 q6) fun f s7 q7 => ?_)
    have again : ∀ {σ7 : St} {H7 : Hp}, Inv X (pins ++ pinsAt fp s5.heap) σ7 H7 s7 → N σ7 H7 → ∃ m, m < n ∧ ∃ i σ' H', Inv X pins σ' H' s7 ∧ tn i s7.heap ∧ (∀ b ∈ fp, H' b = none) ∧ W i m σ' H' := fun {σ7 H7} I7 n7 => by
      obtain ⟨m', hm, w7⟩ := hN σ7 H7 n7
      refine ⟨m', hm, i + 1, σ7, H7, I7.unpinned, T.keep _ _ _ st5 fun b hb o e => (I7.pin (b, o) (List.mem_append_right _ (List.mem_append_right _ (mem_pinsAt hb e)))).1, fun b hb => ?_, w7⟩
      obtain ⟨o, e, d⟩ := T.obj _ _ st5 b hb
      exact (I7.pin (b, o) (List.mem_append_right _ (List.mem_append_right _ (mem_pinsAt hb e)))).2.1
    cases f with
    | next => obtain ⟨σ7, H7, I7, n7⟩ := q7; exact again I7 n7
    | cont => obtain ⟨σ7, H7, I7, n7⟩ := q7; exact again I7 n7
    | brk => obtain ⟨σ7, H7, I7, q7⟩ := q7; exact ⟨σ7, H7, I7.unpinned, q7⟩
    | ret v => obtain ⟨x7, σ7, H7, I7, r7, q7⟩ := q7; exact ⟨x7, σ7, H7, I7.unpinned, r7, q7⟩
end
theorem for_list {K : PySem.W.Frag} {a : Addr} {xs : List V} {g : TG} {tb : TS} {D : Ends} {σ : St} {H : Hp} (Pv : Nat → St → Hp → Prop) (h0 : Pv 0 σ H) (hl : ∀ i σ H, i ≤ xs.length → Pv i σ H → SqL K H a xs)
    (hs : ∀ i x σ H, xs[i]? = some x → Pv i σ H → g x σ H fun σ2 H2 => tb { D with nx := Pv (i + 1), ct := Pv (i + 1), bk := D.nx } σ2 H2) (hd : ∀ σ H, Pv xs.length σ H → D.nx σ H) :
    ∃ W : Nat → Nat → St → Hp → Prop, (∃ m, W 0 m σ H) ∧ ∀ i m σ H, W i m σ H →
      ((Itl K a).stop i H ∧ D.nx σ H) ∨ ((Itl K a).go i H ∧ ∃ N : St → Hp → Prop, (∀ σ' H', N σ' H' → ∃ m', m' < m ∧ W (i + 1) m' σ' H') ∧ ∀ x H', (Itl K a).yld i H x H' → g x σ H' fun σ2 H2 => tb { D with nx := N, ct := N, bk := D.nx } σ2 H2) := by
  refine ⟨fun i m σ H => m = xs.length - i ∧ i ≤ xs.length ∧ Pv i σ H, ⟨xs.length, by simp, Nat.zero_le _, h0⟩, ?_⟩
  rintro i m σ H ⟨rfl, hi, p⟩
  have q := hl i σ H hi p
  by_cases hlt : i < xs.length
  · refine .inr ⟨⟨xs, xs[i], q, by simp [hlt]⟩, Pv (i + 1), fun σ' H' p' => ⟨xs.length - (i + 1), by omega, rfl, hlt, p'⟩, fun x H' y => ?_⟩
    obtain ⟨e, y⟩ := y
    subst e
    exact hs i x σ _ (y xs q) p
  · have e : i = xs.length := by omega
    subst e
    exact .inl ⟨⟨xs, q, Nat.le_refl _⟩, hd σ H p⟩
theorem for_tup {K : PySem.W.Frag} {a : Addr} {xs : List V} {g : TG} {tb : TS} {D : Ends} {σ : St} {H : Hp} (Pv : Nat → St → Hp → Prop) (h0 : Pv 0 σ H) (hl : ∀ i σ H, i ≤ xs.length → Pv i σ H → SqT K H a xs)
    (hs : ∀ i x σ H, xs[i]? = some x → Pv i σ H → g x σ H fun σ2 H2 => tb { D with nx := Pv (i + 1), ct := Pv (i + 1), bk := D.nx } σ2 H2) (hd : ∀ σ H, Pv xs.length σ H → D.nx σ H) :
    ∃ W : Nat → Nat → St → Hp → Prop, (∃ m, W 0 m σ H) ∧ ∀ i m σ H, W i m σ H →
      ((Itt K a).stop i H ∧ D.nx σ H) ∨ ((Itt K a).go i H ∧ ∃ N : St → Hp → Prop, (∀ σ' H', N σ' H' → ∃ m', m' < m ∧ W (i + 1) m' σ' H') ∧ ∀ x H', (Itt K a).yld i H x H' → g x σ H' fun σ2 H2 => tb { D with nx := N, ct := N, bk := D.nx } σ2 H2) := by
  refine ⟨fun i m σ H => m = xs.length - i ∧ i ≤ xs.length ∧ Pv i σ H, ⟨xs.length, by simp, Nat.zero_le _, h0⟩, ?_⟩
  rintro i m σ H ⟨rfl, hi, p⟩
  have q := hl i σ H hi p
  by_cases hlt : i < xs.length
  · refine .inr ⟨⟨xs, xs[i], q, by simp [hlt]⟩, Pv (i + 1), fun σ' H' p' => ⟨xs.length - (i + 1), by omega, rfl, hlt, p'⟩, fun x H' y => ?_⟩
    obtain ⟨e, y⟩ := y
    subst e
    exact hs i x σ _ (y xs q) p
  · have e : i = xs.length := by omega
    subst e
    exact .inl ⟨⟨xs, q, Nat.le_refl _⟩, hd σ H p⟩
theorem for_range {lo : Int} {n : Nat} {g : TG} {tb : TS} {D : Ends} {σ : St} {H : Hp} (Pv : Nat → St → Hp → Prop) (h0 : Pv 0 σ H)
    (hs : ∀ i σ H, i < n → Pv i σ H → g (.int (lo + i)) σ H fun σ2 H2 => tb { D with nx := Pv (i + 1), ct := Pv (i + 1), bk := D.nx } σ2 H2) (hd : ∀ σ H, Pv n σ H → D.nx σ H) :
    ∃ W : Nat → Nat → St → Hp → Prop, (∃ m, W 0 m σ H) ∧ ∀ i m σ H, W i m σ H →
      ((Itr lo n).stop i H ∧ D.nx σ H) ∨ ((Itr lo n).go i H ∧ ∃ N : St → Hp → Prop, (∀ σ' H', N σ' H' → ∃ m', m' < m ∧ W (i + 1) m' σ' H') ∧ ∀ x H', (Itr lo n).yld i H x H' → g x σ H' fun σ2 H2 => tb { D with nx := N, ct := N, bk := D.nx } σ2 H2) := by
  refine ⟨fun i m σ H => m = n - i ∧ i ≤ n ∧ Pv i σ H, ⟨n, by simp, Nat.zero_le _, h0⟩, ?_⟩
  rintro i m σ H ⟨rfl, hi, p⟩
  by_cases hlt : i < n
  · refine .inr ⟨hlt, Pv (i + 1), fun σ' H' p' => ⟨n - (i + 1), by omega, rfl, hlt, p'⟩, fun x H' y => ?_⟩
    obtain ⟨e, y⟩ := y
    subst e y
    exact hs i σ _ hlt p
  · have e : i = n := by omega
    subst e
    exact .inl ⟨Nat.le_refl _, hd σ H p⟩
end L2
namespace L2
open PySem PySem.Spec PyProof.Rows
abbrev R2 := V → V → Hp → VK → Prop
def OpR (X : Cx) (f : Value → Value → Sem Value) (r : R2) : Prop :=
  ∀ (pins : List (Addr × Obj)) (s : Shared) (σ : St) (H : Hp) (x y : V) (v u : Value) (Q : VK), Inv X pins σ H s → RelV x v → RelV y u → r x y H Q →
    wpAny (model X.prog X.w) X.A (f v u) (EP X pins σ Q) X.xe s
def UnR (X : Cx) (f : Value → Sem Value) (r : V → Hp → VK → Prop) : Prop :=
  ∀ (pins : List (Addr × Obj)) (s : Shared) (σ : St) (H : Hp) (x : V) (v : Value) (Q : VK), Inv X pins σ H s → RelV x v → r x H Q →
    wpAny (model X.prog X.w) X.A (f v) (EP X pins σ Q) X.xe s
def CallR (X : Cx) (f : Value) (r : List V → Hp → VK → Prop) : Prop :=
  ∀ (pins : List (Addr × Obj)) (s : Shared) (σ : St) (H : Hp) (xs : List V) (us : List Value) (Q : VK), Inv X pins σ H s → Vals xs us → r xs H Q →
    wpAny (model X.prog X.w) X.A (call f us) (EP X pins σ Q) X.xe s
def TruR (X : Cx) (r : V → Hp → (Bool → Hp → Prop) → Prop) : Prop :=
  ∀ (pins : List (Addr × Obj)) (s : Shared) (σ : St) (H : Hp) (x : V) (v : Value) (Q : Bool → Hp → Prop), Inv X pins σ H s → RelV x v → r x H Q →
    wpAny (model X.prog X.w) X.A (truthy v) (TP X pins σ Q) X.xe s
def tOp (r : R2) (ta tb : TE) : TE := fun σ H Q => ta σ H fun x H1 => tb σ H1 fun y H2 => r x y H2 Q
def tUn (r : V → Hp → VK → Prop) (ta : TE) : TE := fun σ H Q => ta σ H fun x H1 => r x H1 Q
def rI (C : Int → Int → Prop) (g : Int → Int → V) : R2 := fun x y H Q => ∃ i j, x = .int i ∧ y = .int j ∧ C i j ∧ Q (g i j) H
def rI0 (g : Int → Int → V) : R2 := fun x y H Q => ∃ i j, x = .int i ∧ y = .int j ∧ Q (g i j) H
def rU (g : Int → V) : V → Hp → VK → Prop := fun x H Q => ∃ i, x = .int i ∧ Q (g i) H
section
variable {X : Cx} {a b c : Expr} {ta tb tc : TE} {pos : Pos}
theorem binT (ha : PE X a ta) (hb : PE X b tb) {pins : List (Addr × Obj)} {s : Shared} {σ : St} {H : Hp} {R : V → V → Hp → Prop} (I : Inv X pins σ H s)
    (h : ta σ H fun x H1 => tb σ H1 fun y H2 => R x y H2) {Q : Value → Shared → Prop} {f : Value → Value → Sem Value}
    (hf : ∀ v u s2 x y H2, Inv X pins σ H2 s2 → RelV x v → RelV y u → R x y H2 → wpAny (model X.prog X.w) X.A (f v u) Q X.xe s2) :
    wpAny (model X.prog X.w) X.A (eval a X.env) (fun v s₁ => wpAny (model X.prog X.w) X.A (eval b X.env) (fun u s₂ => wpAny (model X.prog X.w) X.A (f v u) Q X.xe s₂) X.xe s₁) X.xe s := by
  refine thn (ha pins s σ H _ I h) fun v s1 ⟨x, H1, I1, r1, q1⟩ => ?_
  refine thn (hb pins s1 σ H1 _ I1 q1) fun u s2 ⟨y, H2, I2, r2, q2⟩ => ?_
  exact hf v u s2 x y H2 I2 r1 r2 q2
theorem pe_op {op : Operator} {r : R2} (ho : OpR X (binaryOp op) r) (ha : PE X a ta) (hb : PE X b tb) : PE X (.BinOp a op b pos) (tOp r ta tb) := by
  intro pins s σ H Q I h
  exact wpAny_BinOp (binT ha hb I h fun v u s2 x y H2 I2 rx ry q => ho pins s2 σ H2 x y v u Q I2 rx ry q)
theorem pe_un {op : UnaryOp} {r : V → Hp → VK → Prop} (ho : UnR X (unaryOp op) r) (ha : PE X a ta) : PE X (.UnaryOp op a pos) (tUn r ta) := by
  intro pins s σ H Q I h
  exact UnaryOp_ (thn (ha pins s σ H _ I h) fun v s1 ⟨x, H1, I1, r1, q1⟩ => ho pins s1 σ H1 x v Q I1 r1 q1)
theorem opI {f : Value → Value → Sem Value} {C : Int → Int → Prop} {g : Int → Int → Int}
    (rule : ∀ (i j : Int) (t u : Tok) (s : Shared) (Q : Value → Shared → Prop) (E : Value → Shared → Prop), C i j → Q (.int (g i j) s.toks) { s with toks := s.toks + 1 } → wpAny (model X.prog X.w) X.A (f (.int i t) (.int j u)) Q E s) :
    OpR X f (rI C fun i j => .int (g i j)) := by
  intro pins s σ H x y v u Q I rx ry h
  obtain ⟨i, j, rfl, rfl, hc, q⟩ := h
  obtain ⟨t, rfl⟩ := rx
  obtain ⟨t', rfl⟩ := ry
  exact rule i j t t' s _ _ hc ⟨.int (g i j), H, I.tok _, ⟨_, rfl⟩, q⟩
theorem opI0 {f : Value → Value → Sem Value} {g : Int → Int → Int}
    (rule : ∀ (i j : Int) (t u : Tok) (s : Shared) (Q : Value → Shared → Prop) (E : Value → Shared → Prop), Q (.int (g i j) s.toks) { s with toks := s.toks + 1 } → wpAny (model X.prog X.w) X.A (f (.int i t) (.int j u)) Q E s) :
    OpR X f (rI0 fun i j => .int (g i j)) := by
  intro pins s σ H x y v u Q I rx ry h
  obtain ⟨i, j, rfl, rfl, q⟩ := h
  obtain ⟨t, rfl⟩ := rx
  obtain ⟨t', rfl⟩ := ry
  exact rule i j t t' s _ _ ⟨.int (g i j), H, I.tok _, ⟨_, rfl⟩, q⟩
theorem opB0 {f : Value → Value → Sem Value} {g : Int → Int → Bool}
    (rule : ∀ (i j : Int) (t u : Tok) (s : Shared) (Q : Value → Shared → Prop) (E : Value → Shared → Prop), Q (.bool (g i j)) s → wpAny (model X.prog X.w) X.A (f (.int i t) (.int j u)) Q E s) :
    OpR X f (rI0 fun i j => .bl (g i j)) := by
  intro pins s σ H x y v u Q I rx ry h
  obtain ⟨i, j, rfl, rfl, q⟩ := h
  obtain ⟨t, rfl⟩ := rx
  obtain ⟨t', rfl⟩ := ry
  exact rule i j t t' s _ _ ⟨.bl (g i j), H, I, rfl, q⟩
def CDiv (i j : Int) : Prop := 0 < j ∧ j < 1073741824
def CPow (i j : Int) : Prop := 0 ≤ j ∧ j ≤ 1000000 ∧ i.natAbs < 2 ^ 64
def CMul (i j : Int) : Prop := (-(2 ^ 64) < i ∧ i < 2 ^ 64) ∨ (-(2 ^ 64) < j ∧ j < 2 ^ 64)
theorem CMul.ok {i j : Int} (h : CMul i j) : IntMulOk i j := by
  rcases h with ⟨h1, h2⟩ | ⟨h1, h2⟩
  · exact .of_left (intBits_le_64 h1 h2)
  · exact .of_right (intBits_le_64 h1 h2)
theorem op_add : OpR X (binaryOp .Add) (rI0 fun i j => .int (i + j)) := opI0 fun _ _ _ _ _ _ _ q => add_int q
theorem op_sub : OpR X (binaryOp .Sub) (rI0 fun i j => .int (i - j)) := opI0 fun _ _ _ _ _ _ _ q => sub_int q
theorem op_mul : OpR X (binaryOp .Mult) (rI CMul fun i j => .int (i * j)) := opI fun _ _ _ _ _ _ _ hc q => mul_int q hc.ok
theorem op_fdiv : OpR X (binaryOp .FloorDiv) (rI CDiv fun i j => .int (i / j)) := opI fun i j _ _ _ _ _ hc q => by
  have h1 : (0 : Int) < j := hc.1
  have h2 : j < 1073741824 := hc.2
  exact floordiv_int (by omega) (by rw [Int.fdiv_eq_ediv_of_nonneg i (by omega)]; exact q) (.inl (PyProof.noPylong_small (by omega)))
theorem op_mod : OpR X (binaryOp .Mod) (rI (fun _ j => 0 < j) fun i j => .int (i % j)) := opI fun i j _ _ _ _ _ hc q => by
  have h1 : (0 : Int) < j := hc
  exact mod_int' (by omega) (by rw [Int.fmod_eq_emod_of_nonneg i (by omega)]; exact q)
theorem op_pow : OpR X (binaryOp .Pow) (rI CPow fun i j => .int (i ^ j.toNat)) := opI fun _ _ _ _ _ _ _ hc q => pow_int_small hc.1 hc.2.1 hc.2.2 q
theorem unI {f : Value → Sem Value} {g : Int → Int}
    (rule : ∀ (i : Int) (t : Tok) (s : Shared) (Q : Value → Shared → Prop) (E : Value → Shared → Prop), Q (.int (g i) s.toks) { s with toks := s.toks + 1 } → wpAny (model X.prog X.w) X.A (f (.int i t)) Q E s) :
    UnR X f (rU fun i => .int (g i)) := by
  intro pins s σ H x v Q I rx h
  obtain ⟨i, rfl, q⟩ := h
  obtain ⟨t, rfl⟩ := rx
  exact rule i t s _ _ ⟨.int (g i), H, I.tok _, ⟨_, rfl⟩, q⟩
theorem un_neg : UnR X (unaryOp .USub) (rU fun i => .int (-i)) := unI fun _ _ _ _ _ q => neg_int q
end
def scal : V → V → Bool
  | .non, .non => true | .non, .int _ => true | .int _, .non => true | .non, .bl _ => true | .bl _, .non => true | .non, .str _ => true | .str _, .non => true
  | .int _, .int _ => true | .bl _, .bl _ => true | .str _, .str _ => true | .byt _, .byt _ => true
  | .int _, .str _ => true | .str _, .int _ => true | .bl _, .str _ => true | .str _, .bl _ => true
  | _, _ => false
def rEq : R2 := fun x y H Q => scal x y = true ∧ Q (.bl (decide (x = y))) H
def rNe : R2 := fun x y H Q => scal x y = true ∧ Q (.bl (!decide (x = y))) H
theorem dec_int {i j : Int} : decide (V.int i = V.int j) = (i == j) := by
  rw [Bool.eq_iff_iff]
  simp
theorem dec_bl {i j : Bool} : decide (V.bl i = V.bl j) = (i == j) := by
  rw [Bool.eq_iff_iff]
  simp
theorem dec_str {i j : Str} : decide (V.str i = V.str j) = (i == j) := by
  rw [Bool.eq_iff_iff]
  simp
theorem dec_byt {i j : Array UInt8} : decide (V.byt i = V.byt j) = (i.toList == j.toList) := by
  rw [Bool.eq_iff_iff]
  cases i
  cases j
  simp
section
variable {X : Cx} {a b c : Expr} {ta tb tc : TE} {pos : Pos}
theorem fin_bl {pins : List (Addr × Obj)} {σ : St} {H : Hp} {s : Shared} {Q : VK} {k k' : Bool} (I : Inv X pins σ H s) (q : Q (.bl k) H) (e : k = k') : EP X pins σ Q (.bool k') s := by
  subst e
  exact ⟨.bl k, H, I, rfl, q⟩
theorem op_eq : OpR X (compareOp .Eq) rEq := by
  intro pins s σ H x y v u Q I rx ry h
  obtain ⟨hs, q⟩ := h
  cases x with
  | non =>
    cases rx
    cases y with
    | non => cases ry; exact PySem.EqNone.eq_none_none (fin_bl I q (by simp))
    | bl j => cases ry; exact PySem.EqNone.eq_none_bool (fin_bl I q (by simp))
    | int j => obtain ⟨t', rfl⟩ := ry; exact PySem.EqNone.eq_none_int (fin_bl I q (by simp))
    | str j => obtain ⟨t', rfl⟩ := ry; exact PySem.EqNone.eq_none_str (fin_bl I q (by simp))
    | _ => exact absurd (show false = true from hs) Bool.false_ne_true
  | bl i =>
    cases rx
    cases y with
    | non => cases ry; exact PySem.EqNone.eq_bool_none (fin_bl I q (by simp))
    | bl j => cases ry; exact eq_bool (fin_bl I q dec_bl)
    | str j => obtain ⟨t', rfl⟩ := ry; exact PySem.EqMixed.eq_bool_str (fin_bl I q (by simp))
    | _ => exact absurd (show false = true from hs) Bool.false_ne_true
  | int i =>
    obtain ⟨t, rfl⟩ := rx
    cases y with
    | non => cases ry; exact PySem.EqNone.eq_int_none (fin_bl I q (by simp))
    | int j => obtain ⟨t', rfl⟩ := ry; exact eq_int (fin_bl I q dec_int)
    | str j => obtain ⟨t', rfl⟩ := ry; exact PySem.EqMixed.eq_int_str (fin_bl I q (by simp))
    | _ => exact absurd (show false = true from hs) Bool.false_ne_true
  | str i =>
    obtain ⟨t, rfl⟩ := rx
    cases y with
    | non => cases ry; exact PySem.EqNone.eq_str_none (fin_bl I q (by simp))
    | bl j => cases ry; exact PySem.EqMixed.eq_str_bool (fin_bl I q (by simp))
    | int j => obtain ⟨t', rfl⟩ := ry; exact PySem.EqMixed.eq_str_int (fin_bl I q (by simp))
    | str j => obtain ⟨t', rfl⟩ := ry; exact eq_str (fin_bl I q dec_str)
    | _ => exact absurd (show false = true from hs) Bool.false_ne_true
  | byt i =>
    obtain ⟨t, rfl⟩ := rx
    cases y with
    | byt j => obtain ⟨t', rfl⟩ := ry; exact PySem.W.eq_bytes (fin_bl I q dec_byt)
    | _ => exact absurd (show false = true from hs) Bool.false_ne_true
  | _ => cases y <;> exact absurd (show false = true from hs) Bool.false_ne_true
theorem op_ne : OpR X (compareOp .NotEq) rNe := by
  intro pins s σ H x y v u Q I rx ry h
  obtain ⟨hs, q⟩ := h
  cases x with
  | non =>
    cases rx
    cases y with
    | non => cases ry; exact PySem.EqNone.ne_none_none (fin_bl I q (by simp))
    | bl j => cases ry; exact PySem.EqNone.ne_none_bool (fin_bl I q (by simp))
    | int j => obtain ⟨t', rfl⟩ := ry; exact PySem.EqNone.ne_none_int (fin_bl I q (by simp))
    | str j => obtain ⟨t', rfl⟩ := ry; exact PySem.EqNone.ne_none_str (fin_bl I q (by simp))
    | _ => exact absurd (show false = true from hs) Bool.false_ne_true
  | bl i =>
    cases rx
    cases y with
    | non => cases ry; exact PySem.EqNone.ne_bool_none (fin_bl I q (by simp))
    | bl j => cases ry; exact ne_bool (fin_bl I q (congrArg not dec_bl))
    | str j => obtain ⟨t', rfl⟩ := ry; exact PySem.EqMixed.ne_bool_str (fin_bl I q (by simp))
    | _ => exact absurd (show false = true from hs) Bool.false_ne_true
  | int i =>
    obtain ⟨t, rfl⟩ := rx
    cases y with
    | non => cases ry; exact PySem.EqNone.ne_int_none (fin_bl I q (by simp))
    | int j => obtain ⟨t', rfl⟩ := ry; exact ne_int (fin_bl I q (congrArg not dec_int))
    | str j => obtain ⟨t', rfl⟩ := ry; exact PySem.EqMixed.ne_int_str (fin_bl I q (by simp))
    | _ => exact absurd (show false = true from hs) Bool.false_ne_true
  | str i =>
    obtain ⟨t, rfl⟩ := rx
    cases y with
    | non => cases ry; exact PySem.EqNone.ne_str_none (fin_bl I q (by simp))
    | bl j => cases ry; exact PySem.EqMixed.ne_str_bool (fin_bl I q (by simp))
    | int j => obtain ⟨t', rfl⟩ := ry; exact PySem.EqMixed.ne_str_int (fin_bl I q (by simp))
    | str j => obtain ⟨t', rfl⟩ := ry; exact ne_str (fin_bl I q (congrArg not dec_str))
    | _ => exact absurd (show false = true from hs) Bool.false_ne_true
  | byt i =>
    obtain ⟨t, rfl⟩ := rx
    cases y with
    | byt j => obtain ⟨t', rfl⟩ := ry; exact PySem.W.ne_bytes (fin_bl I q (congrArg not dec_byt))
    | _ => exact absurd (show false = true from hs) Bool.false_ne_true
  | _ => cases y <;> exact absurd (show false = true from hs) Bool.false_ne_true
theorem op_lt : OpR X (compareOp .Lt) (rI0 fun i j => .bl (decide (i < j))) := opB0 fun _ _ _ _ _ _ _ q => lt_int q
theorem op_gt : OpR X (compareOp .Gt) (rI0 fun i j => .bl (decide (j < i))) := opB0 fun _ _ _ _ _ _ _ q => gt_int q
theorem op_ge : OpR X (compareOp .GtE) (rI0 fun i j => .bl (decide (j ≤ i))) := opB0 fun _ _ _ _ _ _ _ q => ge_int q
theorem op_isN : OpR X (compareOp .Is) (fun x y H Q => y = .non ∧ Q (.bl (decide (x = .non))) H) := by
  intro pins s σ H x y v u Q I rx ry h
  obtain ⟨rfl, q⟩ := h
  cases ry
  refine is_none_gen (fin_bl I q ?_)
  cases x <;> first
    | (cases rx; rfl)
    | (obtain ⟨t, rfl⟩ := rx; rfl)
theorem OpR.or {f : Value → Value → Sem Value} {r r' : R2} (h : OpR X f r) (h' : OpR X f r') : OpR X f (fun x y H Q => r x y H Q ∨ r' x y H Q) := by
  intro pins s σ H x y v u Q I rx ry q
  rcases q with q | q
  · exact h pins s σ H x y v u Q I rx ry q
  · exact h' pins s σ H x y v u Q I rx ry q
theorem nomark (b : Expr) {op : CmpOp} (h : op ≠ .In := by decide) (h2 : op ≠ .NotIn := by decide) : behindInMarks op b = false := by
  have e1 : (op == CmpOp.In) = false := by cases op <;> first | rfl | exact absurd rfl h
  have e2 : (op == CmpOp.NotIn) = false := by cases op <;> first | rfl | exact absurd rfl h2
  cases b <;> simp [behindInMarks, e1, e2]
theorem pe_cmpR {op : CmpOp} {r : R2} (ho : OpR X (compareOp op) r) (ha : PE X a ta) (hb : PE X b tb) (hm : behindInMarks op b = false) : PE X (.Compare a [op] [b] pos) (tOp r ta tb) := by
  intro pins s σ H Q I h
  exact wpAny_Compare1 (binT ha hb I h fun v u s2 x y H2 I2 rx ry q => ho pins s2 σ H2 x y v u Q I2 rx ry q) hm
def tTest (t : TE) : TT := fun σ H Q => t σ H fun x H' => ∃ k, x = .bl k ∧ Q k H'
theorem pt_cmpR {op : CmpOp} {r : R2} (ho : OpR X (compareOp op) r) (ha : PE X a ta) (hb : PE X b tb) (hm : behindInMarks op b = false) : PT X (.Compare a [op] [b] pos) (tTest (tOp r ta tb)) := by
  intro pins s σ H Q I h
  refine wpAny_isTrue_Compare1 (thn (ha pins s σ H _ I h) fun v s1 ⟨x, H1, I1, r1, q1⟩ => thn (hb pins s1 σ H1 _ I1 q1) fun u s2 ⟨y, H2, I2, r2, q2⟩ =>
    thn (ho pins s2 σ H2 x y v u _ I2 r1 r2 q2) fun c s3 ⟨z, H3, I3, r3, k, e, q3⟩ => ?_) hm
  subst e
  cases r3
  exact wpAny_truthy_bool ⟨H3, I3, q3⟩
def TruV (K : PySem.W.Frag) (x : V) (H : Hp) (k : Bool) : Prop :=
  match x with
  | .non => k = false
  | .bl b => k = b
  | .int i => k = (i != 0)
  | .str y => y.length ≤ sizeLine ∧ k = ((y.length : Int) != 0)
  | .byt y => y.size ≤ sizeLine ∧ k = ((y.size : Int) != 0)
  | .ref p => (∃ xs, SqL K H p xs ∧ k = !xs.isEmpty) ∨ (∃ xs, SqT K H p xs ∧ k = !xs.isEmpty) ∨ ∃ kvs, H p = some (.dK kvs) ∧ k = !kvs.isEmpty
  | _ => False
theorem isEmpty_kv {κ : Type} {kvs : List (κ × V)} {vs : List (κ × Value)} (r : KV kvs vs) : (!vs.isEmpty) = !kvs.isEmpty := by
  cases r <;> rfl
theorem isEmpty_of {xs : List V} {its : List Value} (r : Vals xs its) : (!its.toArray.isEmpty) = !xs.isEmpty := by
  cases r <;> simp
theorem line63 : (sizeLine : Nat) < 2 ^ 63 := by rw [sizeLine_eq]; decide
theorem tru_ok : TruR X (fun x H Q => ∃ k, TruV X.K x H k ∧ Q k H) := by
  intro pins s σ H x v Q I rx h
  obtain ⟨k, e, q⟩ := h
  have hl := line63
  have hs : sizeLine = 16777216 := sizeLine_eq
  cases x with
  | non =>
    cases rx
    have e' : k = false := e
    subst e'
    exact truthy_none ⟨H, I, q⟩
  | bl b =>
    cases rx
    have e' : k = b := e
    subst e'
    exact wpAny_truthy_bool ⟨H, I, q⟩
  | int i =>
    obtain ⟨t, rfl⟩ := rx
    have e' : k = (i != 0) := e
    subst e'
    exact PySem.P.truthy_int ⟨H, I, q⟩
  | str y =>
    obtain ⟨t, rfl⟩ := rx
    obtain ⟨hy, e'⟩ : y.length ≤ sizeLine ∧ k = ((y.length : Int) != 0) := e
    subst e'
    exact PySem.P.truthy_str (by omega) ⟨H, I.tok _, q⟩
  | byt y =>
    obtain ⟨t, rfl⟩ := rx
    obtain ⟨hy, e'⟩ : y.size ≤ sizeLine ∧ k = ((y.size : Int) != 0) := e
    subst e'
    exact PySem.W.truthy_bytes (by omega) ⟨H, I.tok _, q⟩
  | ref p =>
    cases rx
    have e' : (∃ xs, SqL X.K H p xs ∧ k = !xs.isEmpty) ∨ (∃ xs, SqT X.K H p xs ∧ k = !xs.isEmpty) ∨ ∃ kvs, H p = some (.dK kvs) ∧ k = !kvs.isEmpty := e
    rcases e' with ⟨xs, hx, e'⟩ | ⟨xs, hx, e'⟩ | ⟨kvs, hx, e'⟩
    · subst e'
      obtain ⟨its, r, pl, hz⟩ := I.list hx
      have hlen := r.length
      exact wpAny_truthy_list pl.isList (by simp only [List.size_toArray]; omega) ⟨H, I.tok _, by rw [isEmpty_of r]; exact q⟩
    · subst e'
      obtain ⟨its, r, pl, hz⟩ := I.tuple hx
      have hlen := r.length
      exact truthy_tuple pl (by simp only [List.size_toArray]; omega) ⟨H, I.tok _, by rw [isEmpty_of r]; exact q⟩
    · subst e'
      obtain ⟨hz, hS, vs, r, m⟩ : kvs.length ≤ sizeLine ∧ (p == sysModules) = false ∧ ∃ vs, KV kvs vs ∧ s.heap.DictOf (mixKind X.prog X.w) p vs := I.hok p _ hx
      have hlen : kvs.length = vs.length := Paired.length r
      exact wpAny_truthy_dict hS m (by omega) ⟨H, I.tok _, by rw [isEmpty_kv r]; exact q⟩
  | _ => exact (show False from e).elim
theorem pt_truth (ha : PE X a ta) (he : ∀ whole, isTrue a X.env whole = (do let v ← whole; standAt a.pos; holding [v] (truthy v))) :
    PT X a (fun σ H Q => ta σ H fun x H' => ∃ k, TruV X.K x H' k ∧ Q k H') := by
  intro pins s σ H Q I h
  exact isTrue_plain (thn (ha pins s σ H _ I h) fun v s1 ⟨x, H1, I1, r1, q1⟩ => tru_ok pins s1 σ H1 x v Q I1 r1 q1) (he _)
theorem op_add_str : OpR X (binaryOp .Add) (fun x y H Q => ∃ i j, x = .str i ∧ y = .str j ∧ i.length + j.length ≤ sizeLine ∧ Q (.str (i ++ j)) H) := by
  intro pins s σ H x y v u Q I rx ry h
  obtain ⟨i, j, rfl, rfl, hz, q⟩ := h
  obtain ⟨t, rfl⟩ := rx
  obtain ⟨t', rfl⟩ := ry
  exact add_str (fun t' tk => ⟨.str (i ++ j), H, I.tok _, ⟨_, rfl⟩, q⟩) hz
theorem vals1 {x : V} {us : List Value} (r : Vals [x] us) : ∃ u, us = [u] ∧ RelV x u := by
  cases r with
  | cons r1 r2 => cases r2; exact ⟨_, rfl, r1⟩
theorem vals2 {x y : V} {us : List Value} (r : Vals [x, y] us) : ∃ u w', us = [u, w'] ∧ RelV x u ∧ RelV y w' := by
  cases r with
  | cons r1 r2 =>
    cases r2 with
    | cons r3 r4 => cases r4; exact ⟨_, _, rfl, r1, r3⟩
theorem call_abs : CallR X (.builtin "abs") (fun xs H Q => ∃ i, xs = [.int i] ∧ Q (.int (if i < 0 then -i else i)) H) := by
  intro pins s σ H xs us Q I r h
  obtain ⟨i, rfl, q⟩ := h
  obtain ⟨u, rfl, t, rfl⟩ := vals1 r
  exact call_abs_int fun u tk => ⟨.int (if i < 0 then -i else i), H, I.tok _, ⟨_, rfl⟩, q⟩
theorem call_max2 (hc : X.calm = true) : CallR X (.builtin "max") (fun xs H Q => ∃ i j, xs = [.int i, .int j] ∧ Q (.int (if j > i then j else i)) H) := by
  intro pins s σ H xs us Q I r h
  obtain ⟨i, j, rfl, q⟩ := h
  obtain ⟨u, w', rfl, ⟨t, rfl⟩, ⟨t', rfl⟩⟩ := vals2 r
  refine max_two_ints (I.ok.hd hc) fun h' tk k => ⟨_, H, I.kept k, ?_, q⟩
  by_cases hj : j > i
  · rw [if_pos hj, if_pos hj]; exact ⟨_, rfl⟩
  · rw [if_neg hj, if_neg hj]; exact ⟨_, rfl⟩
theorem call_min2 (hc : X.calm = true) : CallR X (.builtin "min") (fun xs H Q => ∃ i j, xs = [.int i, .int j] ∧ Q (.int (if j < i then j else i)) H) := by
  intro pins s σ H xs us Q I r h
  obtain ⟨i, j, rfl, q⟩ := h
  obtain ⟨u, w', rfl, ⟨t, rfl⟩, ⟨t', rfl⟩⟩ := vals2 r
  refine min_two_ints (I.ok.hd hc) fun h' tk k => ⟨_, H, I.kept k, ?_, q⟩
  by_cases hj : j < i
  · rw [if_pos hj, if_pos hj]; exact ⟨_, rfl⟩
  · rw [if_neg hj, if_neg hj]; exact ⟨_, rfl⟩
theorem call_int1 : CallR X (.type "int") (fun xs H Q => (∃ i, xs = [.int i] ∧ Q (.int i) H) ∨ ∃ k, xs = [.bl k] ∧ Q (.int (if k then 1 else 0)) H) := by
  intro pins s σ H xs us Q I r h
  rcases h with ⟨i, rfl, q⟩ | ⟨k, rfl, q⟩
  · obtain ⟨u, rfl, t, rfl⟩ := vals1 r
    exact call_int_int ⟨.int i, H, I, ⟨_, rfl⟩, q⟩
  · obtain ⟨u, rfl, r1⟩ := vals1 r
    cases r1
    exact call_int_bool ⟨.int (if k then 1 else 0), H, I.tok _, ⟨_, rfl⟩, q⟩
end
end L2
namespace L2
open PySem PySem.Spec PyProof.Rows
structure ObjM (h : Heap) (x dx C : Addr) (mA : Str → Option Value) : Prop where
  obj : h.get? x = some (PySem.W.instObj C dx)
  ns : h.Ns1 dx mA
  ne : dx ≠ x
theorem lookIn_ns {h : Heap} {dx : Addr} {mA : Str → Option Value} (n : h.Ns1 dx mA) : ∃ od, h.get? dx = some od ∧ ∀ name, PySem.W.lookIn name od = some (mA name) := by
  obtain ⟨o, es, ep, ho, hd, hk, _, hm⟩ := n
  refine ⟨o, ho, fun name => ?_⟩
  have e := hm name
  unfold nsFind findBy at e
  rw [← Array.find?_toList] at e
  unfold PySem.W.lookIn
  rw [hd]
  dsimp only
  split
  · rename_i y q
    rw [q] at e
    exact congrArg some e
  · rename_i q
    rw [q] at e
    have a : es.toList.any (·.refKey) = false := by
      rw [List.any_eq_false]
      intro y hy
      obtain ⟨z, t, hkey⟩ := hk y (Array.mem_toList_iff.mp hy)
      simp [DictEntry.refKey, hkey]
    have a' : ¬ es.toList.any (·.refKey) = true := by rw [a]; exact Bool.false_ne_true
    rw [if_neg a']
    exact congrArg some e
theorem ObjM.look {h : Heap} {x dx C : Addr} {mA : Str → Option Value} (I : ObjM h x dx C mA) : ∃ od, PySem.W.InstAt h x (PySem.W.instObj C dx) C (some od) ∧ ∀ name, PySem.W.lookIn name od = some (mA name) :=
  let ⟨od, ho, hl⟩ := lookIn_ns I.ns
  ⟨od, ⟨I.obj, rfl, rfl, ho⟩, hl⟩
section
variable {prog : Program} {w : World} {A : Around} {E : Value → Shared → Prop} {s : Shared} {K : PySem.W.Frag} {x dx C f : Addr} {mA : Str → Option Value} {name : Str} {v : Value}
end
theorem RelO.some_of {v : V} {o : Option Value} (r : RelO (some v) o) : ∃ u, o = some u ∧ RelV v u := by
  cases o with
  | none => exact (show False from r).elim
  | some u => exact ⟨u, rfl, r⟩
section
variable {P : Program} {w : World} {H H' : Hp} {h h' : Heap} {a C dx : Addr} {fs fs' : List (Str × V)}
theorem ins_get (hok : HOk P w H h) (e : H a = some (.ins C dx fs)) : ∃ mA, ObjM h a dx C mA ∧ (∀ f, RelO (fs.lookup f) (mA f)) ∧ PySem.Within mA (fs.map (·.1)) ∧ fs.length ≤ 1000 ∧ H dx = some (.own a) := by
  obtain ⟨d, z, ne, ob, mA, n, r, q⟩ := (show ObjOk P w H h a (.ins C dx fs) from hok a _ e)
  exact ⟨mA, ⟨ob, n, ne⟩, r, q, z, d⟩
end
structure Cls (K : PySem.W.Frag) (C : Addr) : Prop where
  pg : PySem.W.plainGet K C Str.empty = true
  hd : PySem.W.hasDictIn K C = true
  po : PySem.W.plainOver K C = true
  sa : PySem.W.findIn K (.ref C) "__setattr__" = some (some (.builtin "object.__setattr__"))
theorem Cls.get {K : PySem.W.Frag} {C : Addr} (c : Cls K C) (f : Str) : PySem.W.plainGet K C f = true := c.pg
structure Con (K : PySem.W.Frag) (C : Addr) (f : Str) (v : V) (u : Value) : Prop where
  at_ : PySem.W.findIn K (.ref C) f = some (some u)
  rel : RelV v u
  get : PySem.W.specialIn K u "__get__" = some none
  cp : PySem.W.copiedNames.contains f = false
structure Meth (K : PySem.W.Frag) (C : Addr) (m : Str) (f : Addr) : Prop where
  at_ : PySem.W.findIn K (.ref C) m = some (some (.ref f))
  fn : PySem.W.isFn K (.ref f) = true
  kp : PySem.W.keepIn K (.ref f) = true
section
variable {X : Cx} {pins : List (Addr × Obj)} {σ : St} {H : Hp} {s : Shared} {a C dx : Addr} {fs : List (Str × V)} {f : Str} {v : V} {A : Around} {E : Value → Shared → Prop}
end
section
variable {X : Cx} {o e value : Expr} {f : Str} {pos pos' tpos : Pos} {ta tv : TE}
end
section
variable {X : Cx} {pins : List (Addr × Obj)} {σ : St} {H : Hp} {s : Shared} {A : Around} {E : Value → Shared → Prop} {Q : Value → Shared → Prop} {c : Value} {b : Bool}
inductive TyOf (K : PySem.W.Frag) (H : Hp) : V → Value → Prop where
  | non : TyOf K H .non (.type "NoneType")
  | bl (x : Bool) : TyOf K H (.bl x) (.type "bool")
  | int (i : Int) : TyOf K H (.int i) (.type "int")
  | str (x : Str) : TyOf K H (.str x) (.type "str")
  | flt (x : UInt64) : TyOf K H (.flt x) (.type "float")
  | lst {a : Addr} {xs : List V} (e : H a = some (.lst xs)) : TyOf K H (.ref a) (.type "list")
  | frz {a : Addr} {o : Obj} {xs : List V} (e : H a = some (.frz o (.lst xs))) : TyOf K H (.ref a) (.type "list")
  | tup {a : Addr} {xs : List V} (e : H a = some (.tup xs)) : TyOf K H (.ref a) (.type "tuple")
  | dK {a : Addr} {kvs : List (Key × V)} (e : H a = some (.dK kvs)) : TyOf K H (.ref a) (.type "dict")
  | dT {a : Addr} {kvs : List (List Key × V)} (e : H a = some (.dT kvs)) : TyOf K H (.ref a) (.type "dict")
  | ins {a C dx : Addr} {fs : List (Str × V)} (e : H a = some (.ins C dx fs)) (cl : Cls K C) (ha : PySem.W.findIn K (.ref C) "__class__" = some (some (.builtin "object.__class__")))
      (hn : PySem.W.specialIn K (.builtin "object.__class__") "__get__" = some (some (.builtin "getset_descriptor.__get__"))) (htk : PySem.W.takesIn K (.builtin "object.__class__") = some true)
      (hm : PySem.W.mroIn K C (.type "object") = some true) : TyOf K H (.ref a) (.ref C)
theorem isinst_ok {x : V} {u t : Value} (I : Inv X pins σ H s) (rx : RelV x u) (ty : TyOf X.K H x t) (e : PySem.W.kitOne X.K t c = some b) (h : ∀ tk, Q (.bool b) { s with toks := tk }) :
    wpAny (model X.prog X.w) A (call (.builtin "isinstance") [u, c]) Q E s := by
  cases ty with
  | non => cases (show u = Value.none from rx); exact PySem.W.kia_one PySem.W.kitx_none I.kIn True.intro e (fun z => nomatch z) h
  | bl y => cases (show u = Value.bool y from rx); exact PySem.W.kia_one PySem.W.kitx_bool I.kIn True.intro e (fun z => nomatch z) h
  | int i => obtain ⟨t, q⟩ := (show ∃ t, u = Value.int i t from rx); cases q; exact PySem.W.kia_one PySem.W.kitx_int I.kIn True.intro e (fun z => nomatch z) h
  | str y => obtain ⟨t, q⟩ := (show ∃ t, u = Value.str y t from rx); cases q; exact PySem.W.kia_one PySem.W.kitx_str I.kIn True.intro e (fun z => nomatch z) h
  | flt y => obtain ⟨t, q⟩ := (show ∃ t, u = Value.float y t from rx); cases q; exact PySem.W.kia_one PySem.W.kitx_float I.kIn True.intro e (fun z => nomatch z) h
  | @lst a xs ea =>
    cases (show u = Value.ref a from rx)
    obtain ⟨_, _, n, _, h1⟩ := (show ObjOk X.prog X.w H s.heap a (.lst xs) from I.hok a _ ea)
    exact PySem.W.kia_one PySem.W.kitx_list I.kIn ⟨_, h1, rfl⟩ e (fun z => nomatch z) h
  | @frz a ob xs ea =>
    cases (show u = Value.ref a from rx)
    obtain ⟨_, _, _, n, _, h1⟩ := (show ObjOk X.prog X.w H s.heap a (.frz ob (.lst xs)) from I.hok a _ ea)
    exact PySem.W.kia_one PySem.W.kitx_list I.kIn ⟨_, h1, rfl⟩ e (fun z => nomatch z) h
  | @tup a xs ea =>
    cases (show u = Value.ref a from rx)
    obtain ⟨_, _, _, p⟩ := (show ObjOk X.prog X.w H s.heap a (.tup xs) from I.hok a _ ea)
    obtain ⟨o, h1, h2, _⟩ := p
    exact PySem.W.kia_one PySem.W.kitx_tuple I.kIn ⟨o, h1, h2⟩ e (fun z => nomatch z) h
  | @dK a kvs ea =>
    cases (show u = Value.ref a from rx)
    obtain ⟨_, _, vs, _, p⟩ := (show ObjOk X.prog X.w H s.heap a (.dK kvs) from I.hok a _ ea)
    obtain ⟨o, es, ep, h1, h2, _⟩ := p
    exact PySem.W.kia_one PySem.W.kitx_dict I.kIn ⟨o, h1, h2.1⟩ e (fun z => nomatch z) h
  | @dT a kvs ea =>
    cases (show u = Value.ref a from rx)
    obtain ⟨_, _, xs, _, o, es, ep, h1, h2, _⟩ := (show ObjOk X.prog X.w H s.heap a (.dT kvs) from I.hok a _ ea)
    exact PySem.W.kia_one PySem.W.kitx_dict I.kIn ⟨o, h1, h2.1⟩ e (fun z => nomatch z) h
  | @ins a C dx fs ea cl ha hn htk hm =>
    cases (show u = Value.ref a from rx)
    obtain ⟨mA, O, _⟩ := ins_get I.hok ea
    obtain ⟨od, J, _⟩ := O.look
    exact PySem.W.kia_one (PySem.W.kitx_own (cl.get _) cl.hd ha hn htk hm) I.kIn J e (fun z => nomatch z) h
end
end L2
namespace L2
open PySem PySem.Spec PyProof.Rows
structure Room (k : Nat) (A : Around) : Prop where
  hd : A.handled = none
  dp : A.depth + 3 * k + 5 < recursionLimit
  un : A.units + 16 * k + 200 < cLine
theorem Room.mono {j k : Nat} {A : Around} (r : Room k A) (h : j ≤ k) : Room j A := ⟨r.hd, by have := r.dp; omega, by have := r.un; omega⟩
theorem Room.deeper {k : Nat} {A : Around} (r : Room (k + 1) A) (env : Env) : Room k (A.deeper env) :=
  ⟨r.hd, by have := r.dp; show A.depth + 1 + 3 * k + 5 < _; omega, by have := r.un; show A.units + 3 + 16 * k + 200 < _; omega⟩
theorem Room.depth {k : Nat} {A : Around} (r : Room k A) : A.depth < recursionLimit := by have := r.dp; omega
theorem Room.units {k : Nat} {A : Around} (r : Room k A) : A.units + 64 < cLine := by have := r.un; omega
theorem Room.units0 {k : Nat} {A : Around} (r : Room k A) : A.units < cLine := by have := r.un; omega
def tNil : TA := fun _ H Q => Q [] H
def tCons (ta : TE) (tr : TA) : TA := fun σ H Q => ta σ H fun x H1 => tr σ H1 fun xs H2 => Q (x :: xs) H2
section
variable {X : Cx} {e : Expr} {es : List Expr} {te : TE} {t : TA} {pos : Pos}
theorem pa_nil : PA X [] tNil := fun _ _ _ _ H Q I h => Calls.spliced_nil ⟨[], H, I, .nil, h⟩
theorem pa_cons (ha : PE X e te) (hr : PA X es t) (hs : starEach (e :: es) X.env = (false, eval e X.env) :: starEach es X.env := by rfl) : PA X (e :: es) (tCons te t) := by
  intro pos pins s σ H Q I h
  rw [hs]
  show wpAny _ _ (spliced ((false, eval e X.env) :: backTo pos (starEach es X.env))) _ _ s
  refine Calls.spliced_cons (thn (ha pins s σ H _ I h) fun u s1 ⟨x, H1, I1, r1, q1⟩ => ?_)
  exact thn (hr pos pins s1 σ H1 _ I1 q1) fun us s2 ⟨xs, H2, I2, r2, q2⟩ => ⟨x :: xs, H2, I2, .cons r1 r2, q2⟩
def tTup (t : TA) : TE := fun σ H Q => t σ H fun xs H1 => xs.length ≤ sizeLine ∧ ∀ p, H1 p = none → Q (.ref p) (upd H1 p (.tup xs))
def tLst (t : TA) : TE := fun σ H Q => t σ H fun xs H1 => xs.length ≤ sizeLine ∧ ∀ p, H1 p = none → Q (.ref p) (upd H1 p (.lst xs))
theorem pe_tup {x1} (h : PA X es t) : PE X (.Tuple es x1 pos) (tTup t) := by
  intro pins s σ H Q I hq
  refine wpAny_Tuple_spliced (thn (h pos pins s σ H _ I hq) fun us s1 ⟨xs, H1, I1, r, z, q⟩ => ⟨by rw [← r.length]; exact z, ?_⟩)
  have hf : H1 s1.heap.objs.size = none := I1.hok.fresh (Nat.le_refl _)
  refine ⟨.ref s1.heap.objs.size, upd H1 s1.heap.objs.size (.tup xs), I1.laid (t' := s1.toks) (fun b u e => Heap.get?_push_of_some _ e) (Nat.le_refl _) ?_, rfl, q _ hf⟩
  exact ⟨⟨z, nod_push _ _⟩, us, r, ⟨_, Heap.get?_push_size _ rfl, rfl, _, rfl⟩⟩
theorem pe_lst (h : PA X es t) : PE X (.List es pos) (tLst t) := by
  intro pins s σ H Q I hq
  refine wpAny_List_spliced (thn (h pos pins s σ H _ I hq) fun us s1 ⟨xs, H1, I1, r, z, q⟩ => ⟨by rw [← r.length]; exact z, ?_⟩)
  have hf : H1 s1.heap.objs.size = none := I1.hok.fresh (Nat.le_refl _)
  refine ⟨.ref s1.heap.objs.size, upd H1 s1.heap.objs.size (.lst xs), I1.laid (t' := s1.toks) (fun b u e => Heap.get?_push_of_some _ e) (Nat.le_refl _) ?_, rfl, q _ hf⟩
  exact ⟨z, us, 0, r, Heap.get?_push_size _ rfl⟩
end
abbrev Sp := List V → Hp → VK → XK → Prop
abbrev CXT := List Env → Hp → Shared → XK → Value → Shared → Prop
structure Env0 (P : Program) (w : World) (K : PySem.W.Frag) (mg : Str → Option Value) (base : Heap) (A : Around) (outer : List Env) (s : Shared) (H : Hp) : Prop where
  frames : A.frames = some outer
  mod : Mod K mg base
  bs : ∀ b o, base.get? b = some o → s.heap.get? b = some o ∧ H b = none
  bsz : base.objs.size ≤ s.heap.objs.size
  funs : s.heap.FunFrames base outer
  frf : ∀ b ∈ frs outer, H b = none
  hok : HOk P w H s.heap
  bare : AllBare s.gens
def CE (outer : List Env) (P : Program) (w : World) (H : Hp) (s : Shared) (Q : VK) (u : Value) (s' : Shared) : Prop :=
  ∃ v H', s'.os = s.os ∧ AllBare s'.gens ∧ Un (frs outer) [] H H' s.heap s'.heap ∧ HOk P w H' s'.heap ∧ RelV v u ∧ Q v H'
def CR (CX : CXT) (outer : List Env) (P : Program) (w : World) (H : Hp) (s : Shared) (Q : VK) (E : XK) (r : Result) (s' : Shared) : Prop :=
  match r with
  | .ok (.ret u) => CE outer P w H s Q u s'
  | .ok _ => False
  | .error e => CX outer H s E e s'
structure FnOk (P : Program) (w : World) (K : PySem.W.Frag) (mg : Str → Option Value) (base : Heap) (CX : CXT) (k : Nat) (f : Addr) (fd : FuncData) (ps : List Str) (sp : Sp) : Prop where
  len : ∀ vs H Q E, sp vs H Q E → vs.length = ps.length
  run : ∀ (A : Around) (outer : List Env) (s : Shared) (H : Hp) (args : Args) (us : List Value) (vs : List V) (Q : VK) (E : XK), Room k A → Env0 P w K mg base A outer s H → BindsTo s fd args (ps.zip us) → Vals vs us → sp vs H Q E →
    codeAny (model P w) A (.call (.ref f) args) (CR CX outer P w H s Q E) s
section
variable {X : Cx} {pins : List (Addr × Obj)} {σ : St} {H : Hp} {s s' : Shared}
theorem Inv.env0 (I : Inv X pins σ H s) : Env0 X.prog X.w X.K X.mg X.base X.A X.stack s H :=
  ⟨I.ok.frames, I.ok.mod, I.bs, Nat.le_trans I.ok.bsz I.sz, I.stack, I.stkFree, I.hok, I.bare⟩
theorem Inv.after {Q : VK} {u : Value} (I : Inv X pins σ H s) (h : CE X.stack X.prog X.w H s Q u s') : EP X pins σ Q u s' := by
  obtain ⟨v, H', os, bare, un, hok, r, q⟩ := h
  obtain ⟨hh, g, d, t, os'⟩ := s'
  obtain rfl : os' = s.os := os
  exact ⟨v, H', I.call (h' := hh) (g' := g) (d' := d) (t' := t) (ch := []) un hok bare (fun b z => absurd z (by simp)), r, q⟩
end
def tCall (sp : Sp) (dvs : List V) (E : XK) (t : TA) : TE := fun σ H Q => t σ H fun vs H1 => sp (vs ++ dvs) H1 Q E
def Binds (K : PySem.W.Frag) (fd : FuncData) (ps : List Str) (ds : List Value) : Prop :=
  ∀ (s : Shared) (us : List Value), K.In s.heap → (us ++ ds).length = ps.length → BindsTo s fd ⟨us, []⟩ (ps.zip (us ++ ds))
theorem Binds.all {K : PySem.W.Frag} {fd : FuncData} {ps : List Str} (h : ∀ us : List Value, us.length = ps.length → bindArgs fd ⟨us, []⟩ = pure (ps.zip us)) : Binds K fd ps [] := fun s us _ hl => by
  rw [List.append_nil] at hl ⊢
  exact .of_eq (h us hl)
def Passes (CX : CXT) (X : Cx) (E : XK) : Prop := ∀ (pins : List (Addr × Obj)) (σ : St) (H : Hp) (s : Shared) (e : Value) (s' : Shared), Inv X pins σ H s → CX X.stack H s E e s' → X.xe e s'
section
variable {X : Cx} {CX : CXT} {k : Nat} {f C : Addr} {fd : FuncData} {ps : List Str} {sp : Sp} {dvs : List V} {ds : List Value} {E : XK} {x m : Str} {p pos apos : Pos} {e o : Expr} {es : List Expr} {ta : TE} {t : TA}
theorem run_fn {pins : List (Addr × Obj)} {σ : St} {H : Hp} {s : Shared} {Q : VK} {us : List Value} {vs : List V} (F : FnOk X.prog X.w X.K X.mg X.base CX k f fd ps sp) (hr : Room k X.A) (hb : Binds X.K fd ps ds) (hd : Vals dvs ds) (hx : Passes CX X E)
    (I : Inv X pins σ H s) (r : Vals vs us) (h : sp (vs ++ dvs) H Q E) : wpAny (model X.prog X.w) X.A (call (.ref f) us) (EP X pins σ Q) X.xe s := by
  have r2 : Vals (vs ++ dvs) (us ++ ds) := r.append hd
  have hl : (us ++ ds).length = ps.length := by rw [← r2.length]; exact F.len _ _ _ _ h
  refine wpAny_call (codeAny_mono (F.run X.A X.stack s H ⟨us, []⟩ (us ++ ds) (vs ++ dvs) Q E hr I.env0 (hb s us I.kIn hl) r2 h) fun r s' hq => ?_)
  cases r with
  | error e => exact hx pins σ H s e s' I hq
  | ok fl =>
    cases fl with
    | ret u => exact I.after hq
    | next => exact False.elim hq
    | brk => exact False.elim hq
    | cont => exact False.elim hq
theorem pe_call (F : FnOk X.prog X.w X.K X.mg X.base CX k f fd ps sp) (hr : Room k X.A) (hg : Gl X x) (hm : X.mg x = some (.ref f)) (hk : PySem.W.keepIn X.K (.ref f) = true) (hb : Binds X.K fd ps ds) (hd : Vals dvs ds) (hx : Passes CX X E)
    (ha : PA X (e :: es) t) (hdb : (x == ("__debug__" : Str)) = false := by decide) (he : starEach (e :: es) X.env = (false, eval e X.env) :: starEach es X.env := by rfl) (hpl : (backTo pos (starEach es X.env)).any (·.1) = false := by rfl) :
    PE X (.Call (.Name x p) (e :: es) [] pos) (tCall sp dvs E t) := by
  intro pins s σ H Q I h
  refine wpAny_Call_Name_kw (ld_glob I hg hm ?_ hdb)
  refine PySem.W.callWith_K (h₀ := X.base) I.ok.mod.kin hk (thn (ha pos pins s σ H _ I h) fun us s1 ⟨vs, H1, I1, r, q⟩ => ⟨I1.kIn, ?_⟩) he hpl
  exact run_fn F hr hb hd hx I1 r q
structure Mk (K : PySem.W.Frag) (C f : Addr) : Prop where
  makes : PySem.W.makesIn K C = true
  init : PySem.W.findIn K (.ref C) "__init__" = some (some (.ref f))
  fn : PySem.W.isFn K (.ref f) = true
  kp : PySem.W.keepIn K (.ref C) = true
end
section
variable {X : Cx} {CX : CXT} {k : Nat} {f C : Addr} {fd : FuncData} {ps ks : List Str} {sp : Sp} {E : XK} {x m : Str} {p pos apos kpos : Pos} {e o : Expr} {es : List Expr} {kws : List Keyword} {te ta : TE} {t tk : TA} {nm : Option Str}
structure KBinds (K : PySem.W.Frag) (fd : FuncData) (ps ks : List Str) (g : List Value → List Value → List Value) (gV : List V → List V → List V) : Prop where
  to : ∀ (s : Shared) (us ws : List Value), K.In s.heap → (g us ws).length = ps.length → BindsTo s fd ⟨us, ks.zip ws⟩ (ps.zip (g us ws))
  rel : ∀ {vs : List V} {us : List Value} {zs : List V} {ws : List Value}, Vals vs us → Vals zs ws → Vals (gV vs zs) (g us ws)
variable {g : List Value → List Value → List Value} {gV : List V → List V → List V}
end
structure FnScope (N P : List Str) (sc : Scope) : Prop where
  kind : sc.kind = .function
  co : sc.isCoroutine = false
  gen : sc.isGenerator = false
  nd : N.Nodup
  pre : N.take P.length = P
  par : ∀ x ∈ P, sc.names.lookup x = some .local ∨ sc.names.lookup x = some .cell
  nofree : ∀ y ∈ sc.names, y.2 ≠ .free
theorem bindL_out {kindOf : Str → Option NameKind} {x : Str} : ∀ {binds : List (Str × Value)} {m : Str → Option Value}, (∀ v, (x, v) ∉ binds) → bindL kindOf binds m x = m x
  | [], _, _ => rfl
  | (n, v) :: r, m, h => by
    unfold bindL
    rw [bindL_out fun w hw => h w (List.mem_cons_of_mem _ hw)]
    split
    · have : x ≠ n := by rintro rfl; exact h v List.mem_cons_self
      simp [this]
    · rfl
theorem bindC_out {kindOf : Str → Option NameKind} {x : Str} : ∀ {binds : List (Str × Value)} {m : Str → Option Value}, (∀ v, (x, v) ∉ binds) → bindC kindOf binds m x = m x
  | [], _, _ => rfl
  | (n, v) :: r, m, h => by
    unfold bindC
    rw [bindC_out fun w hw => h w (List.mem_cons_of_mem _ hw)]
    split
    · rfl
    · have : x ≠ n := by rintro rfl; exact h v List.mem_cons_self
      simp [this]
theorem bindL_get {kindOf : Str → Option NameKind} {x : Str} {v : Value} : ∀ {P : List Str} {vs : List Value} {i : Nat} {m : Str → Option Value}, P.Nodup → P[i]? = some x → vs[i]? = some v → kindOf x = some .local →
    bindL kindOf (P.zip vs) m x = some v
  | [], _, _, _, _, h, _, _ => by simp at h
  | _ :: _, [], _, _, _, _, h, _ => by simp at h
  | p :: P, w :: vs, 0, m, nd, h1, h2, hk => by
    simp at h1 h2; subst h1; subst h2
    show bindL kindOf ((p, w) :: P.zip vs) m p = _
    unfold bindL
    rw [bindL_out fun v hv => (List.nodup_cons.mp nd).1 (List.of_mem_zip hv).1, if_pos hk]
    simp
  | p :: P, w :: vs, i + 1, m, nd, h1, h2, hk => by
    show bindL kindOf ((p, w) :: P.zip vs) m x = _
    unfold bindL
    exact bindL_get (i := i) (List.nodup_cons.mp nd).2 (by simpa using h1) (by simpa using h2) hk
theorem bindC_get {kindOf : Str → Option NameKind} {x : Str} {v : Value} : ∀ {P : List Str} {vs : List Value} {i : Nat} {m : Str → Option Value}, P.Nodup → P[i]? = some x → vs[i]? = some v → kindOf x ≠ some .local →
    bindC kindOf (P.zip vs) m x = some v
  | [], _, _, _, _, h, _, _ => by simp at h
  | _ :: _, [], _, _, _, _, h, _ => by simp at h
  | p :: P, w :: vs, 0, m, nd, h1, h2, hk => by
    simp at h1 h2; subst h1; subst h2
    show bindC kindOf ((p, w) :: P.zip vs) m p = _
    unfold bindC
    rw [bindC_out fun v hv => (List.nodup_cons.mp nd).1 (List.of_mem_zip hv).1, if_neg hk]
    simp
  | p :: P, w :: vs, i + 1, m, nd, h1, h2, hk => by
    show bindC kindOf ((p, w) :: P.zip vs) m x = _
    unfold bindC
    exact bindC_get (i := i) (List.nodup_cons.mp nd).2 (by simpa using h1) (by simpa using h2) hk
def start (N : List Str) (vs : List V) : St := vs.map some ++ List.replicate (N.length - vs.length) none
def cxOf (CX : CXT) (P : Program) (w : World) (K : PySem.W.Frag) (mg : Str → Option Value) (base : Heap) (N : List Str) (qual : Str) (scope : Scope) (f : Addr) (cd : Value) (A : Around) (outer : List Env) (s : Shared) (H : Hp) (E : XK) : Cx where
  prog := P
  w := w
  K := K
  mg := mg
  base := base
  A := A.deeper (envOfC qual scope s.heap.objs.size f cd)
  N := N
  s₀ := s
  H₀ := H
  env := envOfC qual scope s.heap.objs.size f cd
  outer := outer
  stack := envOfC qual scope s.heap.objs.size f cd :: outer
  ex := []
  calm := true
  fn := fun _ => true
  pn := []
  xe := fun e s' => wpAny (model P w) (A.deeper (envOfC qual scope s.heap.objs.size f cd)) (leaving (envOfC qual scope s.heap.objs.size f cd) e) (fun _ s'' => CX outer H s E e s'') (fun e' s'' => CX outer H s E e' s'') s'
theorem cell_has {sc : Scope} {n : Nat} {x : Str} (h : sc.names.lookup x = some .cell) : ∃ c, (cellsFrom n sc.names []).lookup x = some c := by
  have q := PySem.W.cellsFrom_some sc.names n [] (.inl h)
  exact Option.isSome_iff_exists.mp q
theorem inv_start {CX : CXT} {P : Program} {w : World} {K : PySem.W.Frag} {mg : Str → Option Value} {base : Heap} {N ps : List Str} {qual : Str} {scope : Scope} {f : Addr} {cd : Value} {A : Around} {outer : List Env} {s s1 : Shared} {H : Hp} {E : XK} {us : List Value} {vs : List V}
    (S : FnScope N ps scope) (hd : A.handled = none) (e0 : Env0 P w K mg base A outer s H) (hl : vs.length = ps.length) (r : Vals vs us)
    (x : InCallC s s.heap.objs.size (bindL (envOfC qual scope s.heap.objs.size f cd).kindOf (ps.zip us) fun _ => none) (cellsFrom (s.heap.objs.size + 1) scope.names []) (bindC (envOfC qual scope s.heap.objs.size f cd).kindOf (ps.zip us) fun _ => none) s1) :
    Inv (cxOf CX P w K mg base N qual scope f cd A outer s H E) [] (start N vs) H s1 := by
  have hpl : ps.length ≤ N.length := by have := congrArg List.length S.pre; rw [List.length_take] at this; omega
  obtain ⟨h1, tk, rfl, hk⟩ := x.done
  have noA : ∀ b : Addr, b ∉ (cxOf CX P w K mg base N qual scope f cd A outer s H E).ex := fun b z => absurd (show b ∈ ([] : List Addr) from z) (by simp)
  refine ⟨⟨e0.mod, S.kind, rfl, rfl, Nat.le_refl _, fun y z c h1 h2 => ?_, fun y hy => ?_, fun y c _ h => ?_, fun _ => hd, Around.frames_deeper e0.frames, .inr ⟨rfl, rfl⟩, fun b z => absurd z (noA b), e0.bs, e0.bsz, fun b _ _ => noA b, fun b z => absurd z (noA b), e0.funs, e0.frf⟩,
    rfl, e0.bare, Un.kept hk, ⟨_, x.toInCall.ns, fun i y v h1 h2 h3 => ?_⟩, fun y c h => ⟨_, x.cell y c h⟩, e0.hok.fresh (Nat.le_refl _), fun y c h => ?_, fun p hp => absurd (show p ∈ ([] : List (Addr × Obj)) from hp) (by simp), e0.hok.kept hk, ?_⟩
  · exact name_of_addr x.apart (PySem.mem_of_lookup h1) (PySem.mem_of_lookup h2)
  · have hy : scope.names.lookup y = some .cell ∨ scope.names.lookup y = some .free := hy
    rcases hy with hy | hy
    · exact cell_has hy
    · exact absurd rfl (S.nofree _ (PySem.mem_of_lookup hy))
  · exact Nat.le_of_lt (x.above y c (PySem.mem_of_lookup h))
  · have hi : i < vs.length := by
      unfold start at h2
      by_cases hi : i < vs.length
      · exact hi
      · rw [List.getElem?_append_right (by simpa using hi)] at h2
        rw [List.getElem?_replicate] at h2
        split at h2 <;> cases h2
    have ha : vs[i]? = some v := by
      unfold start at h2
      rw [List.getElem?_append_left (by simpa using hi), List.getElem?_map] at h2
      cases e : vs[i]? with
      | none => rw [e] at h2; cases h2
      | some a => rw [e] at h2; cases h2; rfl
    obtain ⟨u, hu, rv⟩ := r.get ha
    have hp : ps[i]? = some y := by
      rw [← S.pre, List.getElem?_take_of_lt (by omega)]; exact h1
    have ndP : ps.Nodup := by rw [← S.pre]; exact S.nd.sublist (List.take_sublist _ _)
    refine ⟨u, rv, ?_⟩
    rcases S.par y (List.mem_of_getElem? hp) with k | k
    · exact .inl ⟨k, bindL_get ndP hp hu k⟩
    · obtain ⟨c, e⟩ := cell_has (n := s.heap.objs.size + 1) k
      refine .inr ⟨.inl k, c, e, ?_⟩
      have q := x.cell y c e
      rw [bindC_get ndP hp hu (by show scope.names.lookup y ≠ _; rw [k]; decide)] at q
      exact q
  · exact e0.hok.fresh (Nat.le_of_lt (x.above y c (PySem.mem_of_lookup h)))
  · unfold start
    show _ = N.length
    rw [List.length_append, List.length_map, List.length_replicate]
    omega
theorem fn_of {CX : CXT} {P : Program} {w : World} {K : PySem.W.Frag} {mg : Str → Option Value} {base : Heap} {k : Nat} {f : Addr} {name qual : Str} {params : Arguments} {body : List Stmt} {scope : Scope} {dV kV doc pm cdv ct oc : Value} {an od : Option Addr}
    {osl : Array (Option Value)} {N ps : List Str} {sp : Sp} (lk : K.lookup f = some ⟨oc, od, .func (PySem.W.fnOf name qual params body scope dV kV doc pm an cdv ct), osl⟩) (hcd : PySem.W.codeIn K cdv qual = true) (S : FnScope N ps scope)
    (len : ∀ vs H Q E, sp vs H Q E → vs.length = ps.length)
    (hbody : ∀ (A : Around) (outer : List Env) (s : Shared) (H : Hp) (vs : List V) (Q : VK) (E : XK), Room k (A.deeper (envOfC qual scope s.heap.objs.size f cdv)) → sp vs H Q E →
      ∃ t, PSs (cxOf CX P w K mg base N qual scope f cdv A outer s H E) body t ∧ t { nx := fun _ H' => Q .non H', rt := Q } (start N vs) H) :
    FnOk P w K mg base CX (k + 1) f (PySem.W.fnOf name qual params body scope dV kV doc pm an cdv ct) ps sp := by
  refine ⟨len, fun A outer s H args us vs Q E hr e0 hb r hsp => ?_⟩
  have hl := len _ _ _ _ hsp
  have KX : K.In s.heap := e0.mod.kin.keeps fun b o e => (e0.bs b o e).1
  have lim : s.heap.NoLimit := e0.mod.nolimit.keeps fun b o e => (e0.bs b o e).1
  have hkind : ∀ y ∈ ps.zip us, scope.names.lookup y.1 = some .local ∨ (scope.names.lookup y.1 = some .cell ∧ ((cellsFrom (s.heap.objs.size + 1) scope.names []).lookup y.1).isSome = true) := fun ⟨n, v⟩ hy => by
    rcases S.par n (List.of_mem_zip hy).1 with q | q
    · exact .inl q
    · exact .inr ⟨q, PySem.W.cellsFrom_some _ _ _ (.inl q)⟩
  refine codeAny_call_function hr.depth (KX _ _ lk) rfl S.co S.gen rfl (PySem.W.codeRec_of KX hcd) (hb _ _ _ _ ?_)
  refine wpAny_newFunctionEnv_cells S.kind hkind fun env he s1 x => ?_
  subst he
  refine ⟨lim.keeps x.toInCall.keep, codeAny_func ?_⟩
  obtain ⟨t, ht, hq⟩ := hbody A outer s H vs Q E (hr.deeper _) hsp
  have I : Inv (cxOf CX P w K mg base N qual scope f cdv A outer s H E) [] (start N vs) H s1 := inv_start S hr.hd e0 hl r x
  refine wpAny_mono (ht [] s1 (start N vs) H _ I hq) (fun fl s' hs => ?_) fun e s' hs => hs
  have fin : ∀ {σ' : St} {H' : Hp} {v : V} {u : Value}, Inv (cxOf CX P w K mg base N qual scope f cdv A outer s H E) [] σ' H' s' → RelV v u → Q v H' → CE outer P w H s Q u s' :=
    fun {σ' H' v u} J rv q => ⟨v, H', J.os, J.bare, J.base, J.hok, rv, q⟩
  cases fl with
  | ret u =>
    obtain ⟨v, σ', H', J, rv, q⟩ := hs
    exact fin J rv q
  | next =>
    obtain ⟨σ', H', J, q⟩ := hs
    exact fin (v := V.non) (u := Value.none) J rfl q
  | brk =>
    obtain ⟨_, _, _, q⟩ := hs
    exact False.elim q
  | cont =>
    obtain ⟨_, _, _, q⟩ := hs
    exact False.elim q
end L2
namespace L2
open PySem PySem.Spec PyProof.Rows
section
variable {X : Cx} {x : Str} {p pos : Pos} {e : Expr} {es : List Expr} {t : TA} {id T : String} {r : List V → Hp → VK → Prop}
def tCB (r : List V → Hp → VK → Prop) (t : TA) : TE := fun σ H Q => t σ H fun vs H1 => r vs H1 Q
theorem pe_callB (hc : CallR X (.builtin id) r) (hg : Gl X x) (hm : X.mg x = none) (hv : bootBuiltins x = some (.builtin id)) (ha : PA X (e :: es) t) (hn : x ≠ "__name__" := by decide) (hdb : (x == ("__debug__" : Str)) = false := by decide)
    (he : starEach (e :: es) X.env = (false, eval e X.env) :: starEach es X.env := by rfl) (hpl : (backTo pos (starEach es X.env)).any (·.1) = false := by rfl) : PE X (.Call (.Name x p) (e :: es) [] pos) (tCB r t) := by
  intro pins s σ H Q I h
  refine wpAny_Call_Name_kw (ld_blt I hg hm hv ?_ hn hdb)
  exact PyProof.Rows.callWith_builtin1 (thn (ha pos pins s σ H _ I h) fun us s1 ⟨vs, H1, I1, r1, q1⟩ => hc pins s1 σ H1 vs us Q I1 r1 q1) he hpl
theorem pe_callTy (hc : CallR X (.type T) r) (hg : Gl X x) (hm : X.mg x = none) (hv : bootBuiltins x = some (.type T)) (ha : PA X (e :: es) t) (hn : x ≠ "__name__" := by decide) (hdb : (x == ("__debug__" : Str)) = false := by decide)
    (he : starEach (e :: es) X.env = (false, eval e X.env) :: starEach es X.env := by rfl) (hpl : (backTo pos (starEach es X.env)).any (·.1) = false := by rfl) : PE X (.Call (.Name x p) (e :: es) [] pos) (tCB r t) := by
  intro pins s σ H Q I h
  refine wpAny_Call_Name_kw (ld_blt I hg hm hv ?_ hn hdb)
  exact PyProof.Rows.callWith_type1 (thn (ha pos pins s σ H _ I h) fun us s1 ⟨vs, H1, I1, r1, q1⟩ => hc pins s1 σ H1 vs us Q I1 r1 q1) he hpl
end
end L2
end
section
namespace HT
open PySem PyProof.Rows
section
open PySem.SeqAt
open PySem.AutoSeq1 (wpAny_loadPart')
open PySem.MeetsSeq PySem.MeetsSeq2 PySem.MeetsSeq3
end
section
variable {prog : Program} {w : World} {A : Around} {E : Value → Shared → Prop} {s : Shared}
theorem cat_tup {t b : Addr} {vs ws : List Value} {Q : Value → Shared → Prop} (ht : IsTup s.heap t vs.toArray) (hb : IsTup s.heap b ws.toArray) (hv : vs ≠ [])
    (h1 : ws = [] → Q (.ref t) s) (h2 : ws ≠ [] → Q (.ref s.heap.objs.size) { s with heap := s.heap.push { cls := .type "tuple", data := .seq (vs ++ ws).toArray } })
    (hsz : vs.length + ws.length ≤ sizeLine) : wpAny (model prog w) A (binaryOp .Add (.ref t) (.ref b)) Q E s := by
  obtain ⟨⟨cls, dd, data, sl⟩, ho, hc, n, hd⟩ := id ht
  obtain ⟨⟨cls2, dd2, data2, sl2⟩, ho2, hc2, n2, hd2⟩ := id hb
  simp only at hc hd hc2 hd2
  subst hc hd hc2 hd2
  have e : vs.toArray ++ ws.toArray = (vs ++ ws).toArray := by simp
  by_cases hw : ws = []
  · exact concat_meets ⟨_, ho, rfl⟩ ⟨_, ho2, rfl⟩ noFill_tuple_add seq_tuple_add PySem.F.slot_tuple_add PySem.F.entry_tuple_add (PySem.F.args_tuple_add_2 _ _)
      (tuple_addW1 t b vs.toArray ws.toArray n n2 dd dd2 sl sl2 (by simpa using hv) (by simp [hw])) ⟨ho, ho2, h1 hw⟩
  · refine concat_meets ⟨_, ho, rfl⟩ ⟨_, ho2, rfl⟩ noFill_tuple_add seq_tuple_add PySem.F.slot_tuple_add PySem.F.entry_tuple_add (PySem.F.args_tuple_add_2 _ _)
      (tuple_addW2 t b vs.toArray ws.toArray n n2 dd dd2 sl sl2 (by simpa using hv) (by simpa using hw) (by rw [List.size_toArray, List.size_toArray]; exact hsz)) ⟨ho, ho2, ?_⟩
    rw [e]
    exact h2 hw
def sIx (n d : Nat) : Option Int → Nat
  | none => d
  | some v => if v < 0 then (v + (n : Int)).toNat else min v.toNat n
theorem sIx_nat (n d k : Nat) : sIx n d (some (k : Int)) = min k n := by
  show (if (k : Int) < 0 then ((k : Int) + (n : Int)).toNat else min (k : Int).toNat n) = min k n
  rw [if_neg (by omega), Int.toNat_natCast]
theorem sIx_le (n d : Nat) (hd : d ≤ n) (o : Option Int) : sIx n d o ≤ n := by
  cases o with
  | none => exact hd
  | some v =>
    show (if v < 0 then (v + (n : Int)).toNat else min v.toNat n) ≤ n
    by_cases hv : v < 0
    · rw [if_pos hv]; omega
    · rw [if_neg hv]; exact Nat.min_le_right _ _
theorem clip_eq (v : Int) (n d : Nat) : (if v < 0 then max (v + (n : Int)) 0 else min v (n : Int)) = ((sIx n d (some v) : Nat) : Int) := by
  show (if v < 0 then max (v + (n : Int)) 0 else min v (n : Int)) = (((if v < 0 then (v + (n : Int)).toNat else min v.toNat n) : Nat) : Int)
  by_cases hv : v < 0
  · simp only [if_pos hv]; omega
  · simp only [if_neg hv]; omega
theorem adjust_gen (lo hi : Option Int) (n : Nat) : Builtin.Slice.sliceAdjust lo hi 1 (n : Int) = (((sIx n 0 lo : Nat) : Int), ((sIx n n hi : Nat) : Int)) := by
  have h1 : ¬ ((1 : Int) < 0) := by omega
  unfold Builtin.Slice.sliceAdjust
  simp only [h1, if_false]
  refine Prod.ext ?_ ?_
  · cases lo with
    | none => rfl
    | some v => exact clip_eq v n 0
  · cases hi with
    | none => rfl
    | some v => exact clip_eq v n n
theorem places_gen (i j : Nat) : Builtin.Slice.slicePlaces (i : Int) (j : Int) 1 = j - i := by
  unfold Builtin.Slice.slicePlaces
  have h1 : (1 : Int) > 0 := by omega
  simp only [h1, if_true, Int.ediv_one]
  split <;> omega
theorem slicePart_ {v : Value} {o : Option Int} {Q : Option Int → Shared → Prop} (p : IsPart v o) (h : Q o s) : wpAny (model prog w) A (Builtin.Slice.slicePartIndex v) Q E s := by
  cases p with
  | none => exact slicePart_none h
  | int i t => exact slicePart_int h
theorem sliceApplied_gen {sl : Addr} {vl vu : Value} {lo hi : Option Int} {n : Nat} {Q : Int × Int × Nat → Shared → Prop} (hs : s.heap.IsSliceOf sl vl vu .none) (pl : IsPart vl lo) (pu : IsPart vu hi)
    (h : Q (((sIx n 0 lo : Nat) : Int), 1, sIx n n hi - sIx n 0 lo) s) : wpAny (model prog w) A (Builtin.Slice.sliceApplied (.ref sl) (pure (n : Int))) Q E s := by
  obtain ⟨os, hos, hcs, hds⟩ := id hs
  unfold Builtin.Slice.sliceApplied Builtin.Slice.sliceFields
  refine wpAny_bind (wpAny_bind (wpAny_field hos hds (x := vl) rfl (wpAny_bind (wpAny_field hos hds (x := vu) rfl (wpAny_bind (wpAny_field hos hds (x := .none) rfl (wpAny_pure ?_)))))))
  refine wpAny_bind (slicePart_none ?_)
  show wpAny _ _ (if ((1 : Int) == 0) = true then _ else _) _ _ s
  rw [if_neg (by decide)]
  refine wpAny_bind (slicePart_ pl (wpAny_bind (slicePart_ pu (wpAny_bind (wpAny_pure ?_)))))
  show wpAny _ _ (match Builtin.Slice.sliceAdjust lo hi 1 (n : Int) with | (lo, hi) => pure (lo, (1 : Int), Builtin.Slice.slicePlaces lo hi 1)) _ _ s
  rw [adjust_gen lo hi n]
  show wpAny _ _ (pure (((sIx n 0 lo : Nat) : Int), (1 : Int), Builtin.Slice.slicePlaces ((sIx n 0 lo : Nat) : Int) ((sIx n n hi : Nat) : Int) 1)) _ _ s
  rw [places_gen]
  exact wpAny_pure h
theorem pick_gen (xs : Array Value) (i k : Nat) : ((List.range k).filterMap fun (m : Nat) => xs[((i : Int) + (m : Int) * 1).toNat]?).toArray = ((xs.toList.drop i).take k).toArray := by
  have e : (fun (m : Nat) => xs[((i : Int) + (m : Int) * 1).toNat]?) = fun m => xs[i + m]? := by
    funext m
    have : ((i : Int) + (m : Int) * 1).toNat = i + m := by omega
    rw [this]
  rw [e]
  have := pick_run xs i k
  rw [List.filterMap_map] at this
  have e2 : ((fun x => xs[x]?) ∘ fun x => i + x) = fun m => xs[i + m]? := rfl
  rw [e2] at this
  rw [this]
theorem getItem_tuple_cut {t sl : Addr} {items : Array Value} {vl vu : Value} {lo hi : Option Int} {Q : Value → Shared → Prop} (ht : IsTup s.heap t items) (hs : s.heap.IsSliceOf sl vl vu .none) (pl : IsPart vl lo) (pu : IsPart vu hi)
    (hw : ¬ (sIx items.size 0 lo = 0 ∧ sIx items.size items.size hi = items.size))
    (h : Q (.ref s.heap.objs.size) { s with heap := s.heap.push { cls := .type "tuple", data := .seq ((items.toList.drop (sIx items.size 0 lo)).take (sIx items.size items.size hi - sIx items.size 0 lo)).toArray } })
    (hsz : items.size ≤ sizeLine) : wpAny (model prog w) A (getItem (.ref t) (.ref sl)) Q E s := by
  have htake : sizeOk (.seq ((items.toList.drop (sIx items.size 0 lo)).take (sIx items.size items.size hi - sIx items.size 0 lo)).toArray) := by
    show ((items.toList.drop (sIx items.size 0 lo)).take (sIx items.size items.size hi - sIx items.size 0 lo)).toArray.size ≤ sizeLine
    rw [List.size_toArray, List.length_take, List.length_drop, Array.length_toList]
    omega
  have hj : sIx items.size items.size hi ≤ items.size := sIx_le _ _ (Nat.le_refl _) hi
  obtain ⟨os, hos, hcs, hds⟩ := id hs
  have hTs : s.TypeIs (.ref sl) "slice" := ⟨os, hos, hcs⟩
  unfold getItem
  try with_reducible refine wpAny_holding ?_
  first | refine wpAny_bind (wpAny_pure ?_) | skip
  refine wpAny_bind (wpAny_sequenceKey ht.typeIs (by decide) ?_)
  refine wpAny_bind (wpAny_callSpecial?_slot (name := Str.ofString "__getitem__") ht.typeIs PyProof.Rows.slot_tuple_getitem
    (wpAny_call_entry PyProof.Rows.slot_tuple_getitem ht.typeIs entry_tuple_getitem ?_ (args_tuple_getitem _ _)))
  show wpAny _ _ (Builtin.Tuple.tupleItemsOf (.ref t) >>= _) _ _ s
  refine wpAny_bind (tupleItemsOf_ ht ?_)
  refine wpAny_bind (wpAny_typeOf hTs ?_)
  rw [if_pos (by decide)]
  refine wpAny_bind (sliceApplied_gen hs pl pu ?_)
  have hno : ¬ ((((sIx items.size 0 lo : Nat) : Int) == 0 && (1 : Int) == 1 && (sIx items.size items.size hi - sIx items.size 0 lo) == items.size) = true) := by
    intro q
    rw [Bool.and_eq_true, Bool.and_eq_true] at q
    have q1 : ((sIx items.size 0 lo : Nat) : Int) = 0 := eq_of_beq q.1.1
    have q2 : sIx items.size items.size hi - sIx items.size 0 lo = items.size := eq_of_beq q.2
    exact hw ⟨by omega, by omega⟩
  show wpAny _ _ (if (((sIx items.size 0 lo : Nat) : Int) == 0 && (1 : Int) == 1 && (sIx items.size items.size hi - sIx items.size 0 lo) == items.size) = true then _ else _) _ _ s
  rw [if_neg hno, pick_gen]
  first
    | exact wpAny_bind (m := Builtin.Tuple.tupleExact _) (wpAny_newObj_type (wpAny_pure ⟨_, rfl, wpAny_pure h⟩) htake)
    | exact wpAny_bind (m := Builtin.Tuple.tupleExact _) (wpAny_newObj_type (wpAny_bind (wpAny_pure (wpAny_pure ⟨_, rfl, wpAny_pure h⟩))) htake)
    | exact wpAny_bind (wpAny_bind (m := Builtin.Tuple.tupleExact _) (wpAny_newObj_type (wpAny_pure (wpAny_pure ⟨_, rfl, wpAny_pure h⟩)) htake))
    | exact wpAny_bind (wpAny_bind (m := Builtin.Tuple.tupleExact _) (wpAny_newObj_type (wpAny_pure ⟨_, rfl, wpAny_pure h⟩) htake))
end
end HT
namespace L2
open PySem PySem.Spec PyProof.Rows
abbrev TO := St → Hp → (Option Int → Hp → Prop) → Prop
def PO (X : Cx) (e : Option Expr) (t : TO) : Prop :=
  ∀ (pins : List (Addr × Obj)) (s : Shared) (σ : St) (H : Hp) (Q : Option Int → Hp → Prop), Inv X pins σ H s → t σ H Q →
    wpAny (model X.prog X.w) X.A (evalPart e X.env) (fun u s' => ∃ o H', Inv X pins σ H' s' ∧ IsPart u o ∧ Q o H') X.xe s
def tNoPart : TO := fun _ H Q => Q none H
def tPart (t : TE) : TO := fun σ H Q => t σ H fun x H1 => ∃ i, x = .int i ∧ Q (some i) H1
section
variable {X : Cx} {e : Expr} {te : TE} {lo hi : Option Expr} {tl th : TO} {pos p2 : Pos}
theorem po_none : PO X none tNoPart := by
  intro pins s σ H Q I h
  rw [evalPart_none]
  exact wpAny_pure ⟨none, H, I, .none, h⟩
theorem po_some (h : PE X e te) : PO X (some e) (tPart te) := by
  intro pins s σ H Q I hw
  rw [evalPart_some]
  refine thn (h pins s σ H _ I hw) fun u s1 ⟨x, H1, I1, r1, q1⟩ => ?_
  obtain ⟨i, rfl, q⟩ := q1
  obtain ⟨t, rfl⟩ := r1
  exact ⟨some i, H1, I1, .int i t, q⟩
def SlR (X : Cx) (r : V → Option Int → Option Int → Hp → VK → Prop) : Prop :=
  ∀ (pins : List (Addr × Obj)) (s : Shared) (σ : St) (H : Hp) (x : V) (v vl vu : Value) (lo hi : Option Int) (sl : Addr) (Q : VK), Inv X pins σ H s → RelV x v → s.heap.IsSliceOf sl vl vu .none → IsPart vl lo → IsPart vu hi → r x lo hi H Q →
    ∃ T id, typeLookup (.type T) "__getitem__" = pure (some (.builtin id)) ∧ s.TypeIs v T ∧ wpAny (model X.prog X.w) X.A (getItem v (.ref sl)) (EP X pins σ Q) X.xe s
theorem SlR.or {r r' : V → Option Int → Option Int → Hp → VK → Prop} (h : SlR X r) (h' : SlR X r') : SlR X (fun x lo hi H Q => r x lo hi H Q ∨ r' x lo hi H Q) := by
  intro pins s σ H x v vl vu lo hi sl Q I rx hs pl pu q
  rcases q with q | q
  · exact h pins s σ H x v vl vu lo hi sl Q I rx hs pl pu q
  · exact h' pins s σ H x v vl vu lo hi sl Q I rx hs pl pu q
def tSl (r : V → Option Int → Option Int → Hp → VK → Prop) (te : TE) (tl th : TO) : TE := fun σ H Q => te σ H fun x H1 => tl σ H1 fun l H2 => th σ H2 fun u H3 => r x l u H3 Q
theorem pe_slice {r : V → Option Int → Option Int → Hp → VK → Prop} (hr : SlR X r) (he : PE X e te) (hl : PO X lo tl) (hu : PO X hi th) : PE X (.Subscript e (.Slice lo hi none p2) pos) (tSl r te tl th) := by
  intro pins s σ H Q I h
  refine Subscript_ (thn (he pins s σ H _ I h) fun v s1 ⟨x, H1, I1, r1, q1⟩ => ?_)
  refine wpAny_Slice (thn (hl pins s1 σ H1 _ I1 q1) fun vl s2 ⟨l, H2, I2, pl, q2⟩ => thn (hu pins s2 σ H2 _ I2 q2) fun vu s3 ⟨u, H3, I3, pu, q3⟩ => ?_)
  rw [evalPart_none]
  refine wpAny_pure ?_
  have I4 : Inv X pins σ H3 { s3 with heap := s3.heap.push { cls := .type "slice", data := .fields #[vl, vu, .none] } } := I3.kept (t' := s3.toks) fun b ob q => Heap.get?_push_of_some _ q
  obtain ⟨T, id, hT, ht, hg⟩ := hr pins { s3 with heap := s3.heap.push { cls := .type "slice", data := .fields #[vl, vu, .none] } } σ H3 x v vl vu l u s3.heap.objs.size Q I4 r1 (Heap.IsSliceOf.new ..) pl pu q3
  show wpAny (model X.prog X.w) X.A (subscriptTail e (.Slice lo hi none p2) v (.ref s3.heap.objs.size)) (EP X pins σ Q) X.xe { s3 with heap := s3.heap.push { cls := .type "slice", data := .fields #[vl, vu, .none] } }
  exact tail_any (ops := [.ref s3.heap.objs.size, v]) ht hT hg (by with_unfolding_all rfl)
def cutV (xs : List V) (lo hi : Option Int) : List V := (xs.drop (HT.sIx xs.length 0 lo)).take (HT.sIx xs.length xs.length hi - HT.sIx xs.length 0 lo)
theorem cutV_length (xs : List V) (lo hi : Option Int) : (cutV xs lo hi).length ≤ xs.length := by
  unfold cutV
  rw [List.length_take, List.length_drop]
  omega
def rSlT (K : PySem.W.Frag) : V → Option Int → Option Int → Hp → VK → Prop := fun x lo hi H Q => ∃ a xs, x = .ref a ∧ SqT K H a xs ∧
  ¬ (HT.sIx xs.length 0 lo = 0 ∧ HT.sIx xs.length xs.length hi = xs.length) ∧ ∀ p, H p = none → Q (.ref p) (upd H p (.tup (cutV xs lo hi)))
theorem sl_tup : SlR X (rSlT X.K) := by
  intro pins s σ H x v vl vu lo hi sl Q I rx hs pl pu h
  obtain ⟨a, xs, rfl, hx, hw, q⟩ := h
  cases rx
  obtain ⟨its, r, ht, hz⟩ := I.tuple hx
  have hlen : its.toArray.size = xs.length := by rw [List.size_toArray]; exact r.length.symm
  refine ⟨"tuple", _, PyProof.Rows.slot_tuple_getitem.lookup, ht.typeIs, ?_⟩
  refine HT.getItem_tuple_cut ht hs pl pu (by rw [hlen]; exact hw) ?_ (by rw [hlen]; exact hz)
  rw [hlen]
  refine ⟨.ref s.heap.objs.size, _, I.laid (t' := s.toks) (o := .tup (cutV xs lo hi)) (fun b ob q => Heap.get?_push_of_some _ q) (Nat.le_refl _) ?_, rfl, q _ (I.hok.fresh (Nat.le_refl _))⟩
  exact ⟨⟨Nat.le_trans (cutV_length xs lo hi) hz, nod_push _ _⟩, _, (r.drop (HT.sIx xs.length 0 lo)).take (HT.sIx xs.length xs.length hi - HT.sIx xs.length 0 lo), IsTup.new _ _⟩
def rCatT (K : PySem.W.Frag) : R2 := fun x y H Q => ∃ a b xs ys, x = .ref a ∧ y = .ref b ∧ SqT K H a xs ∧ SqT K H b ys ∧ xs ≠ [] ∧ xs.length + ys.length ≤ sizeLine ∧
  (ys = [] → Q (.ref a) H) ∧ (ys ≠ [] → ∀ p, H p = none → Q (.ref p) (upd H p (.tup (xs ++ ys))))
theorem Vals.nil_iff {xs : List V} {us : List Value} (r : Vals xs us) : us = [] ↔ xs = [] := by
  cases r with
  | nil => simp
  | cons _ _ => simp
theorem op_catT : OpR X (binaryOp .Add) (rCatT X.K) := by
  intro pins s σ H x y v u Q I rx ry h
  obtain ⟨a, b, xs, ys, rfl, rfl, ha, hb, hx, hz, q1, q2⟩ := h
  cases rx
  cases ry
  obtain ⟨its, r1, p1, _⟩ := I.tuple ha
  obtain ⟨its2, r2, p2, _⟩ := I.tuple hb
  refine HT.cat_tup p1 p2 (fun z => hx (r1.nil_iff.mp z)) (fun z => ⟨.ref a, H, I, rfl, q1 (r2.nil_iff.mp z)⟩) (fun z => ?_) (by rw [← r1.length, ← r2.length]; exact hz)
  refine ⟨.ref s.heap.objs.size, _, I.laid (t' := s.toks) (o := .tup (xs ++ ys)) (fun b ob q => Heap.get?_push_of_some _ q) (Nat.le_refl _) ?_, rfl, q2 (fun w => z (r2.nil_iff.mpr w)) _ (I.hok.fresh (Nat.le_refl _))⟩
  exact ⟨⟨by rw [List.length_append]; exact hz, nod_push _ _⟩, _, r1.append r2, IsTup.new _ _⟩
end
end L2
namespace L2
open PySem PySem.Spec PyProof.Rows
def ixN (n : Nat) (i : Int) : Option Nat := if 0 ≤ i then (if i < n then some i.toNat else none) else if -(n : Int) ≤ i then some (i + n).toNat else none
def atI {α : Type} (xs : List α) (i : Int) : Option α := (ixN xs.length i).bind fun j => xs[j]?
theorem ixN_seq {n : Nat} {i : Int} {j : Nat} (h : ixN n i = some j) : seqIndex? i n = some j ∧ j < n ∧ -(n : Int) ≤ i ∧ i < n := by
  unfold ixN at h
  by_cases h0 : 0 ≤ i
  · rw [if_pos h0] at h
    by_cases h1 : i < n
    · rw [if_pos h1] at h
      have e : i.toNat = j := Option.some.inj h
      exact ⟨by rw [seqIndex_of h0 h1, e], by omega, by omega, h1⟩
    · rw [if_neg h1] at h; cases h
  · rw [if_neg h0] at h
    by_cases h1 : -(n : Int) ≤ i
    · rw [if_pos h1] at h
      have e : (i + n).toNat = j := Option.some.inj h
      exact ⟨by rw [seqIndex_neg (by omega) h1, e], by omega, h1, by omega⟩
    · rw [if_neg h1] at h; cases h
theorem atI_get {α : Type} {xs : List α} {i : Int} {v : α} (h : atI xs i = some v) : ∃ j, seqIndex? i xs.length = some j ∧ xs[j]? = some v ∧ j < xs.length ∧ -(xs.length : Int) ≤ i ∧ i < xs.length := by
  unfold atI at h
  cases e : ixN xs.length i with
  | none => rw [e] at h; cases h
  | some j =>
    rw [e] at h
    obtain ⟨h1, h2, h3, h4⟩ := ixN_seq e
    exact ⟨j, h1, h, h2, h3, h4⟩
theorem atI_nat {α : Type} {xs : List α} {j : Nat} {v : α} (h : xs[j]? = some v) : atI xs (j : Int) = some v := by
  have hj : j < xs.length := (List.getElem?_eq_some_iff.mp h).1
  have e : ixN xs.length (j : Int) = some j := by
    unfold ixN
    rw [if_pos (by omega), if_pos (by omega)]; simp
  unfold atI; rw [e]; exact h
theorem atI_last {α : Type} (xs : List α) (v : α) : atI (xs ++ [v]) (-1) = some v := by
  have hl : (xs ++ [v]).length = xs.length + 1 := by simp
  have e : ixN (xs ++ [v]).length (-1) = some xs.length := by
    unfold ixN
    rw [hl, if_neg (by decide), if_pos (by omega)]
    congr 1
    omega
  unfold atI
  rw [e]
  show (xs ++ [v])[xs.length]? = some v
  simp
def PlainIx (b : Expr) : Prop := ∀ o i, subscripted b false o i = operate [o, i] (getItem o i)
def IxR (X : Cx) (r : R2) : Prop :=
  ∀ (value slice : Expr) (pins : List (Addr × Obj)) (s : Shared) (σ : St) (H : Hp) (x y : V) (v u : Value) (Q : VK), Inv X pins σ H s → RelV x v → RelV y u → r x y H Q →
    subscripted slice false v u = operate [v, u] (getItem v u) → wpAny (model X.prog X.w) X.A (subscriptTail value slice v u) (EP X pins σ Q) X.xe s
def MtR (X : Cx) (id : String) (r : V → List V → Hp → VK → Prop) : Prop :=
  ∀ (pins : List (Addr × Obj)) (s : Shared) (σ : St) (H : Hp) (x : V) (xs : List V) (v : Value) (us : List Value) (Q : VK), Inv X pins σ H s → RelV x v → Vals xs us → r x xs H Q →
    wpAny (model X.prog X.w) X.A (call (.builtin id) (v :: us)) (EP X pins σ Q) X.xe s
section
variable {X : Cx} {a b : Expr} {ta tb : TE} {pos : Pos}
theorem IxR.or {r r' : R2} (h : IxR X r) (h' : IxR X r') : IxR X (fun x y H Q => r x y H Q ∨ r' x y H Q) := by
  intro value slice pins s σ H x y v u Q I rx ry q hs
  rcases q with q | q
  · exact h value slice pins s σ H x y v u Q I rx ry q hs
  · exact h' value slice pins s σ H x y v u Q I rx ry q hs
theorem pe_ix {r : R2} (hr : IxR X r) (ha : PE X a ta) (hb : PE X b tb) (hs : PlainIx b) : PE X (.Subscript a b pos) (tOp r ta tb) := by
  intro pins s σ H Q I h
  exact Subscript_ (binT ha hb I h fun v u s2 x y H2 I2 rx ry q => hr a b pins s2 σ H2 x y v u Q I2 rx ry q (hs _ _))
def rIxL (K : PySem.W.Frag) : R2 := fun x y H Q => ∃ p xs i v, x = .ref p ∧ y = .int i ∧ SqL K H p xs ∧ atI xs i = some v ∧ Q v H
def rIxT (K : PySem.W.Frag) : R2 := fun x y H Q => ∃ p xs i v, x = .ref p ∧ y = .int i ∧ SqT K H p xs ∧ atI xs i = some v ∧ Q v H
def rIxS : R2 := fun x y H Q => ∃ z i c, x = .str z ∧ y = .int i ∧ z.length ≤ sizeLine ∧ atI z.cps.toList i = some c ∧ Q (.str ⟨#[c]⟩) H
theorem ix_list : IxR X (rIxL X.K) := by
  intro value slice pins s σ H x y v u Q I rx ry h hs
  obtain ⟨p, xs, i, z, rfl, rfl, hq, he, q⟩ := h
  cases rx
  obtain ⟨t, rfl⟩ := ry
  obtain ⟨its, r, pl, hz⟩ := I.list hq
  obtain ⟨j, h1, h2, h3, h4, h5⟩ := atI_get he
  obtain ⟨w, ew, rw'⟩ := r.get h2
  have hl := r.length
  have hn := line63
  have fin : EP X pins σ Q w s := ⟨z, H, I, rw', q⟩
  by_cases h0 : 0 ≤ i
  · have hj : i.toNat = j := by
      rw [seqIndex_of h0 h5] at h1
      exact Option.some.inj h1
    exact item_listR pl.isList h0 (by omega) (by rw [hj]; simpa using ew) fin hs
  · have hj : (i + (its.toArray.size : Int)).toNat = j := by
      rw [seqIndex_neg (by omega) h4] at h1
      rw [List.size_toArray, ← hl]
      exact Option.some.inj h1
    exact subscriptTail_builtinR (x := w) pl.isList.typeIs slot_list_getitem.lookup
      (wpAny_getItem_list_neg (Q := fun r s' => r = w ∧ EP X pins σ Q r s') pl.isList (by omega) (by rw [List.size_toArray] <;> omega) (by omega) (by rw [hj]; simpa using ew) ⟨rfl, fin⟩) hs
theorem ix_tup : IxR X (rIxT X.K) := by
  intro value slice pins s σ H x y v u Q I rx ry h hs
  obtain ⟨p, xs, i, z, rfl, rfl, hq, he, q⟩ := h
  cases rx
  obtain ⟨t, rfl⟩ := ry
  obtain ⟨its, r, pl, hz⟩ := I.tuple hq
  obtain ⟨j, h1, h2, h3, h4, h5⟩ := atI_get he
  obtain ⟨w, ew, rw'⟩ := r.get h2
  have hl := r.length
  have hn := line63
  have fin : EP X pins σ Q w s := ⟨z, H, I, rw', q⟩
  exact subscriptTail_builtinR (x := w) pl.typeIs slot_tuple_getitem.lookup
    (getItem_tuple (j := j) (Q := fun r s' => r = w ∧ EP X pins σ Q r s') pl (by omega) (by omega) (by rw [List.size_toArray, ← hl]; exact h1) (by simpa using ew) ⟨rfl, fin⟩) hs
theorem ix_str : IxR X rIxS := by
  intro value slice pins s σ H x y v u Q I rx ry h hs
  obtain ⟨z, i, c, rfl, rfl, hz, he, q⟩ := h
  obtain ⟨t, rfl⟩ := rx
  obtain ⟨t', rfl⟩ := ry
  obtain ⟨j, h1, h2, h3, h4, h5⟩ := atI_get he
  have hl : z.cps.toList.length = z.length := by simp [Str.length]
  rw [hl] at h1 h4 h5
  have hn := line63
  exact tail_any (typeIs_str s z t) slot_str_getitem.lookup (getItem_str (c := c) (by
    have e1 : decide (i < -(2 ^ 63 : Int)) = false := decide_eq_false (by omega)
    have e2 : decide (i ≥ 2 ^ 63) = false := decide_eq_false (by omega)
    rw [e1, e2, Bool.or_false]) (by rw [h1]; simpa using h2) ⟨.str ⟨#[c]⟩, H, I.tok _, ⟨_, rfl⟩, q⟩) hs
theorem mapSeq_set (its : List Value) (n j : Nat) (u : Value) : Obj.mapSeq (·.setIfInBounds j u) { cls := .type "list", data := .seq its.toArray n } = { cls := .type "list", data := .seq (its.set j u).toArray n } := by
  simp [Obj.mapSeq]
theorem Inv.lst {pins : List (Addr × Obj)} {σ : St} {H : Hp} {s : Shared} {p : Addr} {xs : List V} (I : Inv X pins σ H s) (h : H p = some (.lst xs)) :
    ∃ (its : List Value) (n : Nat), Vals xs its ∧ s.heap.get? p = some { cls := .type "list", data := .seq its.toArray n } ∧ xs.length ≤ sizeLine := by
  obtain ⟨z, its, n, r, e⟩ := I.hok p _ h
  exact ⟨its, n, r, e, z⟩
theorem Inv.lstUpd {pins : List (Addr × Obj)} {σ : St} {H : Hp} {s : Shared} {p : Addr} {xs ys : List V} {its its' : List Value} {n n' : Nat} {f : Obj → Obj} (I : Inv X pins σ H s) (h : H p = some (.lst xs))
    (ho : s.heap.get? p = some { cls := .type "list", data := .seq its.toArray n }) (hf : f { cls := .type "list", data := .seq its.toArray n } = { cls := .type "list", data := .seq its'.toArray n' }) (r : Vals ys its') (hz : ys.length ≤ sizeLine) (t : Nat) :
    Inv X pins σ (upd H p (.lst ys)) { s with heap := s.heap.update p f, toks := t } := by
  have e : (s.heap.update p f).get? p = some { cls := .type "list", data := .seq its'.toArray n' } := by
    rw [Heap.get?_update_self f ho (by rw [hf] <;> rfl), hf]
  refine I.write (x := p) (e := p) (by rw [h]; trivial) (.inl rfl) (fun b u hb q => (Heap.get?_update_other _ _ (Ne.symm hb)).trans q) ⟨_, e⟩ ?_
  exact ⟨hz, its', n', r, e⟩
def rSetL : V → V → V → Hp → (Hp → Prop) → Prop := fun o i v H Q => ∃ p xs k j, o = .ref p ∧ i = .int k ∧ H p = some (.lst xs) ∧ ixN xs.length k = some j ∧ Q (upd H p (.lst (xs.set j v)))
theorem set_list : PSet X rSetL := by
  intro pins s σ H o i v ov iv u Q I ro ri rv h
  obtain ⟨p, xs, k, j, rfl, rfl, hp, hj, q⟩ := h
  cases ro
  obtain ⟨t, rfl⟩ := ri
  obtain ⟨its, n, r, ho, hz⟩ := I.lst hp
  obtain ⟨h1, h2, h3, h4⟩ := ixN_seq hj
  have hl := r.length
  have hn := line63
  have I' : Inv X pins σ (upd H p (.lst (xs.set j v))) { s with heap := s.heap.update p (Obj.mapSeq (·.setIfInBounds j u)) } :=
    I.lstUpd hp ho (mapSeq_set its n j u) (r.set rv j) (by rw [List.length_set]; exact hz) s.toks
  by_cases h0 : 0 ≤ k
  · have hk : k.toNat = j := by
      rw [seqIndex_of h0 h4] at h1
      exact Option.some.inj h1
    exact PySem.W.ki_setAt ho h0 (by omega) (by rw [List.size_toArray, ← hl]; exact h4) (by rw [hk]; exact ⟨_, I', q⟩)
  · have hk : (k + (its.toArray.size : Int)).toNat = j := by
      rw [seqIndex_neg (by omega) h3] at h1
      rw [List.size_toArray, ← hl]
      exact Option.some.inj h1
    exact PySem.W.ki_setBack ho (by omega) (by rw [List.size_toArray, ← hl]; exact h3) (by omega) (by rw [hk]; exact ⟨_, I', q⟩)
theorem slice_bounds (lo hi : Option Int) (n : Nat) : (sliceBounds lo hi none n).1 = ((HT.sIx n 0 lo : Nat) : Int) ∧ (sliceBounds lo hi none n).2.1 = ((HT.sIx n n hi : Nat) : Int) ∧ (sliceBounds lo hi none n).2.2 = 1 := by
  refine ⟨?_, ?_, rfl⟩
  · cases lo with
    | none => simp [sliceBounds, HT.sIx]
    | some i =>
      simp only [sliceBounds, HT.sIx, Option.getD_none, show (1 : Int) > 0 by decide, if_true]
      by_cases h : i < 0
      · simp only [h, if_true] <;> omega
      · simp only [h, if_false] <;> omega
  · cases hi with
    | none => simp [sliceBounds, HT.sIx]
    | some i =>
      simp only [sliceBounds, HT.sIx, Option.getD_none, show (1 : Int) > 0 by decide, if_true]
      by_cases h : i < 0
      · simp only [h, if_true] <;> omega
      · simp only [h, if_false] <;> omega
theorem slicePick_cut (its : List Value) (lo hi : Option Int) : slicePick its.toArray lo hi none = ((its.drop (HT.sIx its.length 0 lo)).take (HT.sIx its.length its.length hi - HT.sIx its.length 0 lo)).toArray := by
  obtain ⟨h1, h2, h3⟩ := slice_bounds lo hi its.toArray.size
  unfold slicePick
  rw [h1, h2, h3]
  simp only [sliceRange_one, pick_run, List.size_toArray] <;> rfl
def rSlL (K : PySem.W.Frag) : V → Option Int → Option Int → Hp → VK → Prop := fun x lo hi H Q => ∃ a xs, x = .ref a ∧ SqL K H a xs ∧ ∀ p, H p = none → Q (.ref p) (upd H p (.lst (cutV xs lo hi)))
theorem sl_list : SlR X (rSlL X.K) := by
  intro pins s σ H x v vl vu lo hi sl Q I rx hs pl pu h
  obtain ⟨a, xs, rfl, hx, q⟩ := h
  cases rx
  obtain ⟨its, r, ht, hz⟩ := I.list hx
  have hlen := r.length
  refine ⟨"list", _, slot_list_getitem.lookup, ht.isList.typeIs, ?_⟩
  refine wpAny_getItem_list_slice ht.isList hs pl pu .none (by simp) ?_ (by rw [List.size_toArray] <;> omega)
  rw [slicePick_cut, ← hlen]
  refine ⟨.ref s.heap.objs.size, _, I.laid (t' := s.toks) (o := .lst (cutV xs lo hi)) (fun b ob q => Heap.get?_push_of_some _ q) (Nat.le_refl _) ?_, rfl, q _ (I.hok.fresh (Nat.le_refl _))⟩
  exact ⟨Nat.le_trans (cutV_length xs lo hi) hz, _, 0, (r.drop (HT.sIx xs.length 0 lo)).take (HT.sIx xs.length xs.length hi - HT.sIx xs.length 0 lo), Heap.get?_push_size _ rfl⟩
def flatV : V → Bool
  | .non => true
  | .bl _ => true
  | .int _ => true
  | .str _ => true
  | _ => false
def eqV : V → V → Bool
  | .non, .non => true
  | .bl a, .bl b => a == b
  | .bl a, .int b => (if a then 1 else 0) == b
  | .int a, .bl b => a == (if b then 1 else 0)
  | .int a, .int b => a == b
  | .str a, .str b => a == b
  | _, _ => false
theorem eqAt_V {A : Around} {s : Shared} {y x : V} {u v : Value} (ry : RelV y u) (rx : RelV x v) (fy : flatV y = true) (fx : flatV x = true) : SeqAt.EqAt A s u v (eqV y x) := by
  cases y with
  | non =>
    cases ry
    cases x with
    | non => cases rx; exact SeqAt.EqAt.same _
    | bl b => cases rx; exact SeqAt.EqAt.none_bool b
    | int b => obtain ⟨t, rfl⟩ := rx; exact SeqAt.EqAt.none_int b t
    | str b => obtain ⟨t, rfl⟩ := rx; exact SeqAt.EqAt.none_str b t
    | _ => exact absurd (show false = true from fx) Bool.false_ne_true
  | bl a =>
    cases ry
    cases x with
    | non => cases rx; exact SeqAt.EqAt.bool_none a
    | bl b => cases rx; exact SeqAt.EqAt.bool_bool a b
    | int b => obtain ⟨t, rfl⟩ := rx; exact SeqAt.EqAt.bool_int a b t
    | str b => obtain ⟨t, rfl⟩ := rx; exact SeqAt.EqAt.bool_str a b t
    | _ => exact absurd (show false = true from fx) Bool.false_ne_true
  | int a =>
    obtain ⟨t', rfl⟩ := ry
    cases x with
    | non => cases rx; exact SeqAt.EqAt.int_none a t'
    | bl b => cases rx; exact SeqAt.EqAt.int_bool a t' b
    | int b => obtain ⟨t, rfl⟩ := rx; exact SeqAt.EqAt.int_int a t' b t
    | str b => obtain ⟨t, rfl⟩ := rx; exact SeqAt.EqAt.int_str a t' b t
    | _ => exact absurd (show false = true from fx) Bool.false_ne_true
  | str a =>
    obtain ⟨t', rfl⟩ := ry
    cases x with
    | non => cases rx; exact SeqAt.EqAt.str_none a t'
    | bl b => cases rx; exact SeqAt.EqAt.str_bool a t' b
    | int b => obtain ⟨t, rfl⟩ := rx; exact SeqAt.EqAt.str_int a t' b t
    | str b => obtain ⟨t, rfl⟩ := rx; exact SeqAt.EqAt.str_str a t' b t
    | _ => exact absurd (show false = true from fx) Bool.false_ne_true
  | _ => exact absurd (show false = true from fy) Bool.false_ne_true
def eqU (x : V) (u : Value) : Bool := match u with
  | .none => eqV .non x
  | .bool b => eqV (.bl b) x
  | .int i _ => eqV (.int i) x
  | .str z _ => eqV (.str z) x
  | _ => false
theorem eqU_of {x y : V} {u : Value} (r : RelV y u) (f : flatV y = true) : eqU x u = eqV y x := by
  cases y with
  | non => cases r; rfl
  | bl b => cases r; rfl
  | int i => obtain ⟨t, rfl⟩ := r; rfl
  | str z => obtain ⟨t, rfl⟩ := r; rfl
  | _ => exact absurd (show false = true from f) Bool.false_ne_true
theorem any_eqU {x : V} : ∀ {xs : List V} {us : List Value}, Vals xs us → xs.all flatV = true → us.any (eqU x) = xs.any fun y => eqV y x
  | _, _, .nil, _ => rfl
  | y :: xs, u :: us, .cons r t, f => by
    rw [List.all_cons, Bool.and_eq_true] at f
    rw [List.any_cons, List.any_cons, eqU_of r f.1, any_eqU t f.2]
theorem mem_eqAt {A : Around} {s : Shared} {x : V} {v : Value} (rx : RelV x v) (fx : flatV x = true) : ∀ {xs : List V} {us : List Value}, Vals xs us → xs.all flatV = true → ∀ u ∈ us, SeqAt.EqAt A s u v (eqU x u)
  | _, _, .nil, _ => fun u hu => by cases hu
  | y :: xs, u :: us, .cons r t, f => fun u' hu => by
    rw [List.all_cons, Bool.and_eq_true] at f
    rcases List.mem_cons.mp hu with rfl | hu
    · rw [eqU_of r f.1]; exact eqAt_V r rx f.1 fx
    · exact mem_eqAt rx fx t f.2 u' hu
def inV (x : V) (xs : List V) : Bool := xs.any fun y => eqV y x
def rIn (K : PySem.W.Frag) (neg : Bool) : R2 := fun x y H Q => ∃ p xs, y = .ref p ∧ (SqL K H p xs ∨ SqT K H p xs) ∧ flatV x = true ∧ xs.all flatV = true ∧ Q (.bl (if neg then !inV x xs else inV x xs)) H
theorem op_in_seq : OpR X (compareOp .In) (rIn X.K false) := by
  intro pins s σ H x y v u Q I rx ry h
  obtain ⟨p, xs, rfl, hq, fx, fs, q⟩ := h
  cases ry
  rcases hq with hq | hq
  · obtain ⟨its, r, pl, hz⟩ := I.list hq
    refine SeqAt.in_listAt (eqU x) pl.isList (fun w hw => mem_eqAt rx fx r fs w (by simpa using hw)) ⟨.bl _, H, I, rfl, ?_⟩
    rw [show its.toArray.any (eqU x) = its.any (eqU x) by simp, any_eqU r fs]
    exact q
  · obtain ⟨its, r, pl, hz⟩ := I.tuple hq
    refine SeqAt.in_tupleAt (eqU x) pl (fun w hw => mem_eqAt rx fx r fs w (by simpa using hw)) ⟨.bl _, H, I, rfl, ?_⟩
    rw [show its.toArray.any (eqU x) = its.any (eqU x) by simp, any_eqU r fs]
    exact q
theorem op_notIn_seq : OpR X (compareOp .NotIn) (rIn X.K true) := by
  intro pins s σ H x y v u Q I rx ry h
  obtain ⟨p, xs, rfl, hq, fx, fs, q⟩ := h
  cases ry
  rcases hq with hq | hq
  · obtain ⟨its, r, pl, hz⟩ := I.list hq
    refine SeqAt.notIn_listAt (eqU x) pl.isList (fun w hw => mem_eqAt rx fx r fs w (by simpa using hw)) ⟨.bl _, H, I, rfl, ?_⟩
    rw [show its.toArray.any (eqU x) = its.any (eqU x) by simp, any_eqU r fs]
    exact q
  · obtain ⟨its, r, pl, hz⟩ := I.tuple hq
    refine SeqAt.notIn_tupleAt (eqU x) pl (fun w hw => mem_eqAt rx fx r fs w (by simpa using hw)) ⟨.bl _, H, I, rfl, ?_⟩
    rw [show its.toArray.any (eqU x) = its.any (eqU x) by simp, any_eqU r fs]
    exact q
theorem call_len_seq : CallR X (.builtin "len") (fun xs H Q => ∃ p ys, xs = [.ref p] ∧ (SqL X.K H p ys ∨ SqT X.K H p ys) ∧ Q (.int ys.length) H) := by
  intro pins s σ H xs us Q I r h
  obtain ⟨p, ys, rfl, hq, q⟩ := h
  obtain ⟨u, rfl, rx⟩ := vals1 r
  cases rx
  have hn := line63
  rcases hq with hq | hq
  · obtain ⟨its, r', pl, hz⟩ := I.list hq
    have hlen := r'.length
    exact Calls.call_len_list pl.isList (by simp only [List.size_toArray] <;> omega) ⟨.int ys.length, H, I.tok _, ⟨s.toks + 1, by rw [List.size_toArray, hlen]⟩, q⟩
  · obtain ⟨its, r', pl, hz⟩ := I.tuple hq
    have hlen := r'.length
    exact len_tuple pl (by simp only [List.size_toArray] <;> omega) ⟨.int ys.length, H, I.tok _, ⟨s.toks + 1, by rw [List.size_toArray, hlen]⟩, q⟩
theorem call_list_of : CallR X (.type "list") (fun xs H Q => ∃ p ys, xs = [.ref p] ∧ (SqL X.K H p ys ∨ SqT X.K H p ys) ∧ ∀ l, H l = none → Q (.ref l) (upd H l (.lst ys))) := by
  intro pins s σ H xs us Q I r h
  obtain ⟨p, ys, rfl, hq, q⟩ := h
  obtain ⟨u, rfl, rx⟩ := vals1 r
  cases rx
  have fin : ∀ (its : List Value), Vals ys its → ys.length ≤ sizeLine → ∀ (h' : Heap) (c' : Nat), (∀ b o', s.heap.get? b = some o' → h'.get? b = some o') →
      h'.get? s.heap.objs.size = some { cls := .type "list", dict := none, data := .seq its.toArray c', slots := #[] } → EP X pins σ Q (.ref s.heap.objs.size) { s with heap := h' } := fun its r' hz h' c' kp e =>
    ⟨.ref s.heap.objs.size, _, I.laid (t' := s.toks) kp (Nat.le_refl _) (show ObjOk X.prog X.w _ h' _ (.lst ys) from ⟨hz, its, c', r', e⟩), rfl, q _ (I.hok.fresh (Nat.le_refl _))⟩
  rcases hq with hq | hq
  · obtain ⟨its, r', pl, hz⟩ := I.list hq
    have hlen := r'.length
    obtain ⟨o, ho, hc, n, hd⟩ := pl.isList
    exact call_list_seq p (.inl rfl) ho hc hd (fun h' c' kp e => fin its r' hz h' c' kp e) (by simp only [List.size_toArray] <;> omega)
  · obtain ⟨its, r', pl, hz⟩ := I.tuple hq
    have hlen := r'.length
    obtain ⟨o, ho, hc, n, hd⟩ := pl
    exact call_list_seq p (.inr rfl) ho hc hd (fun h' c' kp e => fin its r' hz h' c' kp e) (by simp only [List.size_toArray] <;> omega)
theorem call_tuple_of : CallR X (.type "tuple") (fun xs H Q => ∃ p ys, xs = [.ref p] ∧ ((SqL X.K H p ys ∧ ∀ l, H l = none → Q (.ref l) (upd H l (.tup ys))) ∨ (SqT X.K H p ys ∧ Q (.ref p) H))) := by
  intro pins s σ H xs us Q I r h
  obtain ⟨p, ys, rfl, h⟩ := h
  obtain ⟨u, rfl, rx⟩ := vals1 r
  cases rx
  rcases h with ⟨hq, q⟩ | ⟨hq, q⟩
  · obtain ⟨its, r', pl, hz⟩ := I.list hq
    have hlen := r'.length
    refine call_tuple_list pl.isList (fun h' kp => ?_) (by simp only [List.size_toArray] <;> omega)
    have I1 : Inv X pins σ H { s with heap := h' } := I.kept (t' := s.toks) kp
    have I2 : Inv X pins σ (upd H h'.objs.size (.tup ys)) { s with heap := h'.push { cls := .type "tuple", data := .seq its.toArray } } :=
      I1.laid (t' := s.toks) (fun b o e => Heap.get?_push_of_some _ e) (Nat.le_refl _) (show ObjOk X.prog X.w _ _ _ (.tup ys) from ⟨⟨hz, nod_push _ _⟩, its, r', IsTup.new _ _⟩)
    exact ⟨.ref h'.objs.size, _, I2, rfl, q _ (I1.hok.fresh (Nat.le_refl _))⟩
  · obtain ⟨its, r', pl, hz⟩ := I.tuple hq
    exact call_tuple_same pl ⟨.ref p, H, I, rfl, q⟩
def tyV (K : PySem.W.Frag) (T : String) (x : V) (H : Hp) : Prop := match x with
  | .str _ => T = "str"
  | .int _ => T = "int"
  | .ref p => (T = "list" ∧ ∃ xs, SqL K H p xs) ∨ (T = "tuple" ∧ ∃ o, K.lookup p = some o ∧ o.cls = .type "tuple" ∧ o.dict = none) ∨
      (T = "dict" ∧ ((∃ kvs, H p = some (.dK kvs)) ∨ ∃ kvs, H p = some (.dT kvs))) ∨ (T = "set" ∧ ∃ S n, H p = some (.set S n))
  | _ => False
theorem tyV_is {pins : List (Addr × Obj)} {σ : St} {H : Hp} {s : Shared} {T : String} {x : V} {v : Value} (I : Inv X pins σ H s) (r : RelV x v) (ty : tyV X.K T x H) :
    s.TypeIs v T ∧ ∀ a, v = .ref a → ∃ ob, s.heap.get? a = some ob ∧ ob.dict = none := by
  cases x with
  | str z =>
    obtain ⟨t, rfl⟩ := r
    cases (show T = "str" from ty)
    exact ⟨typeIs_str s z t, fun _ e => nomatch e⟩
  | int i =>
    obtain ⟨t, rfl⟩ := r
    cases (show T = "int" from ty)
    exact ⟨typeIs_int s i t, fun _ e => nomatch e⟩
  | ref p =>
    cases r
    rcases ty with ⟨rfl, xs, hq⟩ | ⟨rfl, o, hk, hc, hd⟩ | ⟨rfl, hk⟩ | ⟨rfl, S, n, hk⟩
    · obtain ⟨its, _, pl, _⟩ := I.list hq
      refine ⟨pl.isList.typeIs, fun a e => ?_⟩
      cases e
      obtain ⟨o, n, e, c, hd, _⟩ := pl
      exact ⟨o, e, hd⟩
    · refine ⟨⟨o, I.kIn p o hk, hc⟩, fun a e => ?_⟩
      cases e
      exact ⟨o, I.kIn _ o hk, hd⟩
    · have z : ∃ o, s.heap.get? p = some o ∧ o.ExactDict := by
        rcases hk with ⟨kvs, hk⟩ | ⟨kvs, hk⟩
        · obtain ⟨_, _, _, _, o, _, _, e, ex, _⟩ := I.hok p _ hk
          exact ⟨o, e, ex⟩
        · obtain ⟨_, _, _, _, o, _, _, e, ex, _⟩ := I.hok p _ hk
          exact ⟨o, e, ex⟩
      obtain ⟨o, e, ex⟩ := z
      refine ⟨⟨o, e, ex.1⟩, fun a e2 => ?_⟩
      cases e2
      exact ⟨o, e, ex.2.1⟩
    · obtain ⟨o, _, _, _, e, ex, _⟩ := I.hok p _ hk
      refine ⟨⟨o, e, ex.1⟩, fun a e2 => ?_⟩
      cases e2
      exact ⟨o, e, ex.2.1⟩
  | _ => exact False.elim ty
def tBM (K : PySem.W.Frag) (T : String) (r : V → List V → Hp → VK → Prop) (to : TE) (t : TA) : TE := fun σ H Q => to σ H fun x H1 => tyV K T x H1 ∧ t σ H1 fun xs H2 => r x xs H2 Q
variable {o e : Expr} {es : List Expr} {to : TE} {t : TA} {name : Str} {apos cpos : Pos} {T id : String} {r : V → List V → Hp → VK → Prop}
theorem pe_bm (pa : PlainAttrs T) (slot : Slot T name id) (hty : typeOf (.builtin id) = pure (.type "method_descriptor")) (hm : MtR X id r) (ho : PE X o to) (ha : PA X (e :: es) t)
    (hbase : attributeBase o name X.env (eval o X.env) = eval o X.env := by rfl)
    (hfew : ((backTo cpos (starEach (e :: es) X.env)).all (fun x => !x.1) && (backToKw cpos (keywordEach [] X.env)).all (fun x => x.1.isSome)
      && decide ((e :: es).length + ([] : List Keyword).length + (if ([] : List Keyword).isEmpty then 0 else 1) < 30)) = true := by rfl)
    (hline : (apos.endLine == cpos.line) = true := by rfl) (hs : starEach (e :: es) X.env = (false, eval e X.env) :: starEach es X.env := by rfl) (hplain : (backTo cpos (starEach es X.env)).any (·.1) = false := by rfl) :
    PE X (.Call (.Attribute o name apos) (e :: es) [] cpos) (tBM X.K T r to t) := by
  intro pins s σ H Q I h
  refine wpAny_Call_method_late hbase hfew hline rfl (thn (ho pins s σ H _ I h) fun v s1 ⟨x, H1, I1, r1, ty, q1⟩ => ?_)
  obtain ⟨h1, h2⟩ := tyV_is I1 r1 ty
  refine ⟨T, id, pa, slot, hty, h1, h2, ?_⟩
  have hA := ha cpos pins s1 σ H1 _ I1 q1
  rw [hs] at hA ⊢
  refine Calls.callWith_builtin (by show (false || (backTo cpos (starEach es X.env)).any (·.1)) = false; rw [hplain] <;> rfl) (Calls.evalArgs_plain ?_)
  exact thn hA fun us s2 ⟨vs, H2, I2, r2, q2⟩ => hm pins s2 σ H2 x vs v us Q I2 r1 r2 q2
/- xs.append(e), list.index on a module's tuple .. are MtR facts of 06m -/
end
end L2
namespace L2
open PySem PySem.Spec PyProof.Rows
def MtM (X : Cx) (id : String) (r : V → List V → Hp → VK → Prop) : Prop :=
  ∀ (pins : List (Addr × Obj)) (s : Shared) (σ : St) (H : Hp) (x : V) (xs : List V) (v : Value) (us : List Value) (Q : VK), Inv X pins σ H s → RelV x v → Vals xs us → r x xs H Q →
    wpAny (model X.prog X.w) X.A (call (.builtin id) (v :: us)) (EP X pins σ Q) X.xe s
theorem Vals.one : ∀ {x : V} {us : List Value}, Vals [x] us → ∃ u, us = [u] ∧ RelV x u
  | _, _, .cons r .nil => ⟨_, rfl, r⟩
theorem Vals.two : ∀ {x y : V} {us : List Value}, Vals [x, y] us → ∃ u v, us = [u, v] ∧ RelV x u ∧ RelV y v
  | _, _, _, .cons r (.cons q .nil) => ⟨_, _, rfl, r, q⟩
theorem Vals.eraseIdx : ∀ {xs : List V} {us : List Value} (i : Nat), Vals xs us → Vals (xs.eraseIdx i) (us.eraseIdx i)
  | _, _, _, .nil => .nil
  | _, _, 0, .cons _ t => t
  | _, _, i + 1, .cons r t => .cons r (Vals.eraseIdx i t)
theorem Vals.reverse {xs : List V} {us : List Value} (h : Vals xs us) : Vals xs.reverse us.reverse := by
  induction h with
  | nil => exact .nil
  | cons r t ih => rw [List.reverse_cons, List.reverse_cons]; exact Vals.append ih (.cons r .nil)
section
variable {X : Cx} {pins : List (Addr × Obj)} {σ : St} {H : Hp} {s : Shared} {l b : Addr} {xs ys zs : List V}
theorem Inv.lset {its its' : List Value} {n : Nat} {f : Array Value → Array Value} {t' : Nat} (I : Inv X pins σ H s) (hH : H l = some (.lst xs))
    (e : s.heap.get? l = some { cls := .type "list", data := .seq its.toArray n }) (hf : f its.toArray = its'.toArray) (hv : Vals ys its') (hz : ys.length ≤ sizeLine) :
    Inv X pins σ (upd H l (.lst ys)) { s with heap := s.heap.update l (Obj.mapSeq f), toks := t' } := by
  have q := PySem.IsL.update e f
  rw [hf] at q
  refine I.write (x := l) (e := l) (by rw [hH]; exact trivial) (.inl rfl) (fun b' u hb hu => (Heap.get?_update_other s.heap (Obj.mapSeq f) (Ne.symm hb)).trans hu) ⟨_, q⟩ ?_
  exact ⟨hz, its', _, hv, q⟩
theorem Inv.lnew {its : List Value} {t' : Nat} (I : Inv X pins σ H s) (hv : Vals ys its) (hz : ys.length ≤ sizeLine) :
    Inv X pins σ (upd H s.heap.objs.size (.lst ys)) { s with heap := s.heap.push { cls := .type "list", data := .seq its.toArray }, toks := t' } :=
  I.laid (fun _ _ q => Heap.get?_push_of_some _ q) (Nat.le_refl _) ⟨hz, its, 0, hv, Heap.get?_push_size _ rfl⟩
theorem Inv.fresh (I : Inv X pins σ H s) : H s.heap.objs.size = none := I.hok.fresh (Nat.le_refl _)
theorem Inv.lstM (I : Inv X pins σ H s) (hH : H l = some (.lst xs)) : xs.length ≤ sizeLine ∧ ∃ (its : List Value) (n : Nat), Vals xs its ∧ xs.length = its.length ∧ s.heap.get? l = some { cls := .type "list", data := .seq its.toArray n } := by
  obtain ⟨z, its, n, r, e⟩ := I.hok l _ hH
  exact ⟨z, its, n, r, r.length, e⟩
end
section
variable {X : Cx}
def rAppend : V → List V → Hp → VK → Prop := fun x vs H Q => ∃ l xs y, x = .ref l ∧ vs = [y] ∧ H l = some (.lst xs) ∧ xs.length < sizeLine ∧ Q .non (upd H l (.lst (xs ++ [y])))
theorem mt_append : MtM X "list.append" rAppend := by
  intro pins s σ H x vs v us Q I rx rv h
  obtain ⟨l, xs, y, rfl, rfl, hH, hz, q⟩ := h
  cases rx
  obtain ⟨u, rfl, ru⟩ := rv.one
  obtain ⟨z, its, n, r, hl, e⟩ := I.lstM hH
  refine call_meets F.slot_list_append ⟨_, e, rfl⟩ F.entry_list_append (F.args_list_append_2 _ _) (PySem.list_append l its.toArray n u (by rw [List.size_toArray]; omega)) ⟨e, ?_⟩
  refine ⟨.non, _, I.lset (its' := its ++ [u]) hH e (by simp) (r.append (.cons ru .nil)) ?_, rfl, q⟩
  rw [List.length_append, List.length_singleton]
  omega
def rCat : R2 := fun x y H Q => ∃ l b xs zs, x = .ref l ∧ y = .ref b ∧ H l = some (.lst xs) ∧ H b = some (.lst zs) ∧ xs.length + zs.length ≤ sizeLine ∧ ∀ p, H p = none → Q (.ref p) (upd H p (.lst (xs ++ zs)))
theorem op_cat : OpR X (binaryOp .Add) rCat := by
  intro pins s σ H x y v u Q I rx ry h
  obtain ⟨l, b, xs, zs, rfl, rfl, hH, hB, hz, q⟩ := h
  cases rx
  cases ry
  obtain ⟨z, its, n, r, hl, e⟩ := I.lstM hH
  obtain ⟨z2, its2, n2, r2, hl2, e2⟩ := I.lstM hB
  refine PySem.P.add_list e e2 ?_ (by rw [List.size_toArray, List.size_toArray]; omega)
  have ea : its.toArray ++ its2.toArray = (its ++ its2).toArray := by simp
  rw [ea]
  exact ⟨.ref _, _, I.lnew (t' := s.toks) (r.append r2) (by rw [List.length_append]; omega), rfl, q _ I.fresh⟩
end
section
variable {prog : Program} {w : World} {A : Around} {E : Value → Shared → Prop} {s : Shared}
set_option maxRecDepth 100000 in
end
section
variable {X : Cx}
end
end L2
end
section
namespace L2
open PySem PySem.Spec PyProof.Rows
section
variable {κ : Type} [DecidableEq κ]
def valV (kvs : List (κ × V)) (k : κ) : Option V := (kvs.find? fun kv => decide (kv.1 = k)).map (·.2)
def putK (kvs : List (κ × V)) (k : κ) (v : V) : List (κ × V) :=
  if (kvs.any fun kv => decide (kv.1 = k)) = true then kvs.map (fun kv => if kv.1 = k then (kv.1, v) else kv) else kvs ++ [(k, v)]
def dropK (kvs : List (κ × V)) (k : κ) : List (κ × V) := kvs.filter fun kv => decide (kv.1 ≠ k)
theorem valV_pos {p : κ × V} {r : List (κ × V)} {k : κ} (e : p.1 = k) : valV (p :: r) k = some p.2 := by simp [valV, List.find?_cons, e]
theorem valV_neg {p : κ × V} {r : List (κ × V)} {k : κ} (e : ¬ p.1 = k) : valV (p :: r) k = valV r k := by simp [valV, List.find?_cons, e]
theorem valV_any (k : κ) : ∀ kvs : List (κ × V), (kvs.any fun kv => decide (kv.1 = k)) = (valV kvs k).isSome
  | [] => rfl
  | p :: r => by
    rw [List.any_cons]
    by_cases e : p.1 = k
    · simp only [valV_pos e, decide_eq_true e, Bool.true_or, Option.isSome_some]
    · rw [valV_neg e, decide_eq_false e, Bool.false_or]; exact valV_any k r
theorem valV_map (k j : κ) (y : V) : ∀ kvs : List (κ × V), valV (kvs.map fun kv => if kv.1 = k then (kv.1, y) else kv) j = (valV kvs j).map fun x => if j = k then y else x
  | [] => rfl
  | p :: r => by
    have ih := valV_map k j y r
    rw [List.map_cons]
    by_cases h : p.1 = k
    · rw [if_pos h]
      by_cases e : p.1 = j
      · rw [valV_pos (p := (p.1, y)) e, valV_pos e, Option.map_some, if_pos (e.symm.trans h)]
      · rw [valV_neg (p := (p.1, y)) e, valV_neg e, ih]
    · rw [if_neg h]
      by_cases e : p.1 = j
      · rw [valV_pos (p := p) e, valV_pos e, Option.map_some, if_neg (fun z => h (e.trans z))]
      · rw [valV_neg (p := p) e, valV_neg e, ih]
theorem valV_snoc (k j : κ) (y : V) : ∀ kvs : List (κ × V), valV kvs k = none → valV (kvs ++ [(k, y)]) j = if j = k then some y else valV kvs j
  | [], _ => by
    by_cases e : k = j
    · rw [if_pos e.symm]; exact valV_pos (p := (k, y)) e
    · rw [if_neg (fun z => e z.symm)]; exact valV_neg (p := (k, y)) e
  | p :: r, hn => by
    rw [List.cons_append]
    have hk : ¬ p.1 = k := fun z => by rw [valV_pos z] at hn; cases hn
    rw [valV_neg hk] at hn
    have ih := valV_snoc k j y r hn
    by_cases e : p.1 = j
    · rw [valV_pos e, valV_pos e, if_neg (fun z => hk (e.trans z))]
    · rw [valV_neg e, valV_neg e, ih]
theorem valV_put (kvs : List (κ × V)) (k j : κ) (y : V) : valV (putK kvs k y) j = if j = k then some y else valV kvs j := by
  unfold putK
  by_cases a : (kvs.any fun kv => decide (kv.1 = k)) = true
  · rw [if_pos a, valV_map]
    rw [valV_any] at a
    by_cases e : j = k
    · obtain ⟨x, hx⟩ := Option.isSome_iff_exists.mp a
      rw [if_pos e, e, hx, Option.map_some, if_pos rfl]
    · rw [if_neg e]
      cases valV kvs j with
      | none => rfl
      | some x => rw [Option.map_some, if_neg e]
  · rw [if_neg a]
    refine valV_snoc k j y kvs ?_
    rw [valV_any] at a
    cases q : valV kvs k with
    | none => rfl
    | some x => rw [q] at a; exact (a rfl).elim
theorem length_putK (kvs : List (κ × V)) (k : κ) (v : V) : (putK kvs k v).length ≤ kvs.length + 1 := by
  unfold putK
  split
  · rw [List.length_map]; omega
  · rw [List.length_append, List.length_cons, List.length_nil]; omega
theorem putK_new {kvs : List (κ × V)} {k : κ} (v : V) (h : valV kvs k = none) : putK kvs k v = kvs ++ [(k, v)] := by
  unfold putK
  rw [valV_any, h]
  exact if_neg (by decide)
theorem RelO.isSome_eq {o : Option V} {u : Option Value} (r : RelO o u) : o.isSome = u.isSome := by
  cases o with
  | none => cases u with
    | none => rfl
    | some _ => exact (show False from r).elim
  | some _ => cases u with
    | none => exact (show False from r).elim
    | some _ => rfl
theorem KV.val {kvs : List (κ × V)} {vs : List (κ × Value)} (r : KV kvs vs) (k : κ) : RelO (valV kvs k) (valueAt vs k) := by
  unfold KV at r
  induction r with
  | nil => exact True.intro
  | @cons p q ps qs h t ih =>
    obtain ⟨h1, h2⟩ := h
    by_cases e : p.1 = k
    · have e' : q.1 = k := h1.symm.trans e
      have b : valueAt (q :: qs) k = some q.2 := by simp [valueAt, List.find?_cons, e']
      rw [valV_pos e, b]; exact h2
    · have e' : ¬ q.1 = k := fun z => e (h1.trans z)
      have b : valueAt (q :: qs) k = valueAt qs k := by simp [valueAt, List.find?_cons, e']
      rw [valV_neg e, b]; exact ih
theorem KV.any {kvs : List (κ × V)} {vs : List (κ × Value)} (r : KV kvs vs) (k : κ) : (kvs.any fun kv => decide (kv.1 = k)) = vs.any fun kv => decide (kv.1 = k) := by
  unfold KV at r
  induction r with
  | nil => rfl
  | cons h t ih => rw [List.any_cons, List.any_cons, ih, h.1]
theorem KV.repl {kvs : List (κ × V)} {vs : List (κ × Value)} (r : KV kvs vs) (k : κ) {y : V} {u : Value} (ry : RelV y u) :
    KV (kvs.map fun kv => if kv.1 = k then (kv.1, y) else kv) (vs.map fun kv => if kv.1 = k then (kv.1, u) else kv) := by
  unfold KV at r ⊢
  induction r with
  | nil => exact .nil
  | @cons p q ps qs h t ih =>
    rw [List.map_cons, List.map_cons]
    refine .cons ?_ ih
    obtain ⟨h1, h2⟩ := h
    by_cases e : p.1 = k
    · rw [if_pos e, if_pos (h1.symm.trans e)]; exact ⟨h1, ry⟩
    · rw [if_neg e, if_neg (fun z => e (h1.trans z))]; exact ⟨h1, h2⟩
theorem KV.put {kvs : List (κ × V)} {vs : List (κ × Value)} (r : KV kvs vs) (k : κ) {y : V} {u : Value} (ry : RelV y u) : KV (putK kvs k y) (stored vs k u) := by
  unfold putK stored
  rw [r.any k]
  by_cases e : (vs.any fun kv => decide (kv.1 = k)) = true
  · rw [if_pos e, if_pos e]; exact r.repl k ry
  · rw [if_neg e, if_neg e]; exact Paired.snoc r ⟨rfl, ry⟩
theorem KV.length {kvs : List (κ × V)} {vs : List (κ × Value)} (r : KV kvs vs) : kvs.length = vs.length := Paired.length r
end
theorem kV_is {P : Program} {w : World} {k : Key} {u : Value} (r : RelV (kV k) u) : (mixKind P w).is k u = true := by
  cases k with
  | inl i => obtain ⟨t, e⟩ := (show ∃ t, u = Value.int i t from r); subst e; exact mixKind_int P w i t
  | inr x => obtain ⟨t, e⟩ := (show ∃ t, u = Value.str x t from r); subst e; exact mixKind_str P w x t
theorem items_are {P : Program} {w : World} : ∀ {ks : List Key} {us : List Value}, Vals (ks.map kV) us → ItemsAre (mixKind P w) ks us
  | [], _, r => by rw [List.map_nil] at r; cases r; exact .nil
  | k :: ks, _, r => by
    rw [List.map_cons] at r
    cases r with
    | cons h t => exact .cons (kV_is h) (items_are t)
abbrev KT (H : Hp) : List (List Key × V) → List (List Key × Addr × Value) → Prop := Paired fun p q => p.1 = q.1 ∧ H q.2.1 = some (.tup (p.1.map kV)) ∧ RelV p.2 q.2.2
theorem KT.val {H : Hp} {kvs : List (List Key × V)} {xs : List (List Key × Addr × Value)} (r : KT H kvs xs) (k : List Key) : RelO (valV kvs k) ((atKey xs k).map (·.2)) := by
  induction r with
  | nil => exact True.intro
  | @cons p q ps qs h t ih =>
    obtain ⟨h1, _, h2⟩ := h
    by_cases e : p.1 = k
    · have e' : q.1 = k := h1.symm.trans e
      have b : atKey (q :: qs) k = some q.2 := by simp [atKey, List.find?_cons, e']
      rw [valV_pos e, b]; exact h2
    · have e' : ¬ q.1 = k := fun z => e (h1.trans z)
      have b : atKey (q :: qs) k = atKey qs k := by simp [atKey, List.find?_cons, e']
      rw [valV_neg e, b]; exact ih
theorem KT.repl {H : Hp} {kvs : List (List Key × V)} {xs : List (List Key × Addr × Value)} (r : KT H kvs xs) (k : List Key) {y : V} {u : Value} (ry : RelV y u) :
    KT H (kvs.map fun kv => if kv.1 = k then (kv.1, y) else kv) (xs.map (putAt k u)) := by
  induction r with
  | nil => exact .nil
  | @cons p q ps qs h t ih =>
    rw [List.map_cons, List.map_cons]
    refine .cons ?_ ih
    obtain ⟨h1, h2, h3⟩ := h
    unfold putAt
    by_cases e : p.1 = k
    · rw [if_pos e, if_pos (h1.symm.trans e)]; exact ⟨h1, h2, ry⟩
    · rw [if_neg e, if_neg (fun z => e (h1.trans z))]; exact ⟨h1, h2, h3⟩
theorem KT.put {H : Hp} {kvs : List (List Key × V)} {xs : List (List Key × Addr × Value)} (r : KT H kvs xs) (k : List Key) {b : Addr} {y : V} {u : Value} (hb : H b = some (.tup (k.map kV))) (ry : RelV y u) :
    KT H (putK kvs k y) (storedH xs k b u) := by
  have e : (kvs.any fun kv => decide (kv.1 = k)) = (atKey xs k).isSome := by
    rw [valV_any, (r.val k).isSome_eq, Option.isSome_map]
  unfold putK storedH
  rw [e]
  by_cases q : (atKey xs k).isSome = true
  · rw [if_pos q, if_pos q]; exact r.repl k ry
  · rw [if_neg q, if_neg q]; exact Paired.snoc r ⟨rfl, hb, ry⟩
theorem KT.keeps {H H' : Hp} {kvs : List (List Key × V)} {xs : List (List Key × Addr × Value)} (r : KT H kvs xs) (ht : ∀ b ys, H b = some (.tup ys) → H' b = some (.tup ys)) : KT H' kvs xs :=
  Paired.mapP r fun _ _ z => ⟨z.1, ht _ _ z.2.1, z.2.2⟩
section
variable {P : Program} {w : World} {H : Hp} {h : Heap} {a : Addr}
theorem rd_of {u : HO} (ok : HOk P w H h) (e : Rd H a u) : ObjOk P w H h a u := e.ok ok
theorem dk_rd {kvs : List (Key × V)} (ok : HOk P w H h) (e : Rd H a (.dK kvs)) : kvs.length ≤ sizeLine ∧ (a == sysModules) = false ∧ ∃ vs, KV kvs vs ∧ h.DictOf (mixKind P w) a vs :=
  show ObjOk P w H h a (.dK kvs) from rd_of ok e
theorem dk_of {kvs : List (Key × V)} (ok : HOk P w H h) (e : H a = some (.dK kvs)) : kvs.length ≤ sizeLine ∧ (a == sysModules) = false ∧ ∃ vs, KV kvs vs ∧ h.DictOf (mixKind P w) a vs := dk_rd ok (.inl e)
theorem key_of {ks : List Key} (ok : HOk P w H h) (e : H a = some (.tup (ks.map kV))) : (tupleKind (mixKind P w)).is h ks a := by
  obtain ⟨_, its, r, o, h1, h2, n, h3⟩ := (show ObjOk P w H h a (.tup (ks.map kV)) from ok a _ e)
  exact ⟨o, its.toArray, n, h1, h2, h3, by simpa using items_are r⟩
theorem dt_rd {kvs : List (List Key × V)} (ok : HOk P w H h) (e : Rd H a (.dT kvs)) : kvs.length ≤ sizeLine ∧ (a == sysModules) = false ∧
    ∃ xs, KT H kvs xs ∧ h.DictOfH (tupleKind (mixKind P w)) a xs := by
  obtain ⟨z, y, xs, r, o, es, ep, h1, h2, h3, h4, h5⟩ := (show ObjOk P w H h a (.dT kvs) from rd_of ok e)
  refine ⟨z, y, xs, r, o, es, ep, h1, h2, h3, h4, fun x hx => ?_, h5⟩
  have all : ∀ {l : List (List Key × V)} {m : List (List Key × Addr × Value)}, KT H l m → ∀ x ∈ m, (tupleKind (mixKind P w)).is h x.1 x.2.1 := by
    intro l m q
    induction q with
    | nil => intro x hx; exact nomatch hx
    | @cons p q ps qs hq t ih =>
      intro x hx
      rcases List.mem_cons.mp hx with e | hx
      · subst e
        exact key_of ok (by rw [← hq.1]; exact hq.2.1)
      · exact ih x hx
  exact all r x hx
theorem dt_of {kvs : List (List Key × V)} (ok : HOk P w H h) (e : H a = some (.dT kvs)) : kvs.length ≤ sizeLine ∧ (a == sysModules) = false ∧
    ∃ xs, KT H kvs xs ∧ h.DictOfH (tupleKind (mixKind P w)) a xs := dt_rd ok (.inl e)
end
def DGet (H : Hp) (a : Addr) (y : V) (r : Option V) : Prop :=
  (∃ kvs k, Rd H a (.dK kvs) ∧ y = kV k ∧ r = valV kvs k) ∨ ∃ kvs k b, Rd H a (.dT kvs) ∧ y = .ref b ∧ H b = some (.tup (k.map kV)) ∧ r = valV kvs k
def DPut (H : Hp) (a : Addr) (y v : V) (H' : Hp) : Prop :=
  (∃ kvs k, H a = some (.dK kvs) ∧ y = kV k ∧ kvs.length < sizeLine ∧ H' = upd H a (.dK (putK kvs k v))) ∨
  ∃ kvs k b, H a = some (.dT kvs) ∧ y = .ref b ∧ H b = some (.tup (k.map kV)) ∧ kvs.length < sizeLine ∧ H' = upd H a (.dT (putK kvs k v))
theorem DGet.k {H : Hp} {a : Addr} {kvs : List (Key × V)} {k : Key} (e : H a = some (.dK kvs)) : DGet H a (kV k) (valV kvs k) := .inl ⟨kvs, k, .inl e, rfl, rfl⟩
theorem DPut.k {H : Hp} {a : Addr} {kvs : List (Key × V)} {k : Key} {v : V} (e : H a = some (.dK kvs)) (hl : kvs.length < sizeLine) : DPut H a (kV k) v (upd H a (.dK (putK kvs k v))) := .inl ⟨kvs, k, e, rfl, hl, rfl⟩
section
variable {X : Cx} {pins : List (Addr × Obj)} {σ : St} {H : Hp} {s : Shared} {a : Addr} {y v : V} {u r : Value} {o : Option V} {A : Around} {E : Value → Shared → Prop}
theorem Inv.big (I : Inv X pins σ H s) : sysModules < s.heap.objs.size := by
  have h : mainGlobals < s.heap.objs.size := (I.mod.glob.keeps I.bk).lt
  exact Nat.lt_trans (by decide) h
theorem d_getItem {Q : Value → Shared → Prop} (hu : A.units + 1 < cLine) (I : Inv X pins σ H s) (g : DGet H a y (some v)) (ry : RelV y u) (h : ∀ w' s', Inv X pins σ H s' → RelV v w' → Q w' s') :
    wpAny (model X.prog X.w) A (getItem (.ref a) u) Q E s := by
  rcases g with ⟨kvs, k, e, ey, l⟩ | ⟨kvs, k, b, e, ey, eb, l⟩
  · subst ey
    obtain ⟨z, hd, vs, rel, dd⟩ := dk_rd I.hok e
    obtain ⟨w', hw, rw'⟩ := RelO.some_of (v := v) (o := valueAt vs k) (by rw [l]; exact rel.val k)
    exact wpAny_getItem_of (kV_is ry) dd.mapOf hw (h w' _ (I.tok _) rw')
  · subst ey
    cases (show u = Value.ref b from ry)
    obtain ⟨z, hd, xs, rel, dd⟩ := dt_rd I.hok e
    obtain ⟨w', hw, rw'⟩ := RelO.some_of (v := v) (o := (atKey xs k).map (·.2)) (by rw [l]; exact rel.val k)
    obtain ⟨p, hp, hp2⟩ := Option.map_eq_some_iff.mp hw
    refine wpAny_getItem_heap (tupleKind_room_in1 hu) (key_of I.hok eb) dd hp ?_
    rw [hp2]
    exact h w' _ (I.tok _) rw'
theorem d_in {Q : Value → Shared → Prop} (hu : A.units + 1 < cLine) (I : Inv X pins σ H s) (g : DGet H a y o) (ry : RelV y u) (h : ∀ s', Inv X pins σ H s' → Q (.bool o.isSome) s') :
    wpAny (model X.prog X.w) A (compareOp .In u (.ref a)) Q E s := by
  rcases g with ⟨kvs, k, e, ey, l⟩ | ⟨kvs, k, b, e, ey, eb, l⟩
  · subst ey
    obtain ⟨z, hd, vs, rel, dd⟩ := dk_rd I.hok e
    refine wpAny_in_of (kV_is ry) hd dd.mapOf ?_
    rw [← (rel.val k).isSome_eq, ← l]
    exact h _ (I.tok _)
  · subst ey
    cases (show u = Value.ref b from ry)
    obtain ⟨z, hd, xs, rel, dd⟩ := dt_rd I.hok e
    refine wpAny_in_heap (tupleKind_room_in1 hu) (key_of I.hok eb) hd dd ?_
    have q := (rel.val k).isSome_eq
    rw [Option.isSome_map] at q
    rw [← q, ← l]
    exact h _ (I.tok _)
theorem d_notIn {Q : Value → Shared → Prop} (hu : A.units + 1 < cLine) (I : Inv X pins σ H s) (g : DGet H a y o) (ry : RelV y u) (h : ∀ s', Inv X pins σ H s' → Q (.bool (!o.isSome)) s') :
    wpAny (model X.prog X.w) A (compareOp .NotIn u (.ref a)) Q E s := by
  rcases g with ⟨kvs, k, e, ey, l⟩ | ⟨kvs, k, b, e, ey, eb, l⟩
  · subst ey
    obtain ⟨z, hd, vs, rel, dd⟩ := dk_rd I.hok e
    refine wpAny_notIn_of (kV_is ry) hd dd.mapOf ?_
    rw [← (rel.val k).isSome_eq, ← l]
    exact h _ (I.tok _)
  · subst ey
    cases (show u = Value.ref b from ry)
    obtain ⟨z, hd, xs, rel, dd⟩ := dt_rd I.hok e
    refine wpAny_notIn_heap (tupleKind_room_in1 hu) (key_of I.hok eb) hd dd ?_
    have q := (rel.val k).isSome_eq
    rw [Option.isSome_map] at q
    rw [← q, ← l]
    exact h _ (I.tok _)
theorem d_write {h' : Heap} {t' : Nat} {ob : HO} (I : Inv X pins σ H s) (mu : Mut (H a)) (hs : Heap.SameBut a s.heap h') (he : ∃ q, h'.get? a = some q) (new : ObjOk X.prog X.w (upd H a ob) h' a ob) :
    Inv X pins σ (upd H a ob) { s with heap := h', toks := t' } :=
  I.write (x := a) (e := a) mu (.inl rfl) (fun b q hb z => (hs.2 b hb).trans z) he new
theorem dk_new {P : Program} {w : World} {H' : Hp} {h' : Heap} {kvs : List (Key × V)} {vs : List (Key × Value)} (z : kvs.length ≤ sizeLine) (hd : (a == sysModules) = false) (rel : KV kvs vs) (dd : h'.DictOf (mixKind P w) a vs) :
    ObjOk P w H' h' a (.dK kvs) := ⟨z, hd, vs, rel, dd⟩
theorem d_setItem {H' : Hp} {Q : Unit → Shared → Prop} (hu : A.units + 1 < cLine) (I : Inv X pins σ H s) (g : DPut H a y v H') (ry : RelV y u) (rv : RelV v r) (h : ∀ s', Inv X pins σ H' s' → Q () s') :
    wpAny (model X.prog X.w) A (setItem (.ref a) u r) Q E s := by
  rcases g with ⟨kvs, k, e, ey, l, eH⟩ | ⟨kvs, k, b, e, ey, eb, l, eH⟩
  · subst ey eH
    obtain ⟨z, hd, vs, rel, dd⟩ := dk_of I.hok e
    have hz : vs.length ≤ sizeLine := by rw [← rel.length]; exact z
    have hl : (putK kvs k v).length ≤ sizeLine := by have := length_putK kvs k v; omega
    refine wpAny_setItem_pairs (hsz := hz) (kV_is ry) dd fun h' dd' hs => h _ ?_
    have he : ∃ q, h'.get? a = some q := let ⟨q, _, _, hq, _⟩ := dd'; ⟨q, hq⟩
    exact d_write I (by rw [e]; exact True.intro) hs he (dk_new hl hd (rel.put k rv) dd')
  · subst ey eH
    cases (show u = Value.ref b from ry)
    obtain ⟨z, hd, xs, rel, dd⟩ := dt_of I.hok e
    have hz : xs.length ≤ sizeLine := by rw [← Paired.length rel]; exact z
    have hl : (putK kvs k v).length ≤ sizeLine := by have := length_putK kvs k v; omega
    refine wpAny_setItem_heap (hsz := hz) (tupleKind_room_in1 hu) (key_of I.hok eb) dd fun h' dd' hs => h _ ?_
    obtain ⟨q, es, ep, hq, h2, h3, h4, _, h5⟩ := dd'
    refine d_write I (by rw [e]; exact True.intro) hs ⟨q, hq⟩ ⟨hl, hd, _, (rel.put k eb rv).keeps fun c ys ec => ?_, q, es, ep, hq, h2, h3, h4, h5⟩
    rw [upd_ne (ne_of ec e (fun z => nomatch z))]
    exact ec
end
section
variable {X : Cx} {pins : List (Addr × Obj)} {σ : St} {H : Hp} {s : Shared} {a : Addr} {kvs : List (Key × V)} {k : Key} {u : Value} {A : Around} {E : Value → Shared → Prop}
end
def NoSl (i : Expr) : Prop := ∀ ov iv, subscripted i false ov iv = operate [ov, iv] (getItem ov iv)
theorem subD_of {prog : Program} {w : World} {A : Around} {E : Value → Shared → Prop} {s : Shared} {env : Env} {value slice : Expr} {pos : Pos} {T id : String} {Q : Value → Shared → Prop}
    (hl : typeLookup (.type T) "__getitem__" = pure (some (.builtin id))) (hs : NoSl slice)
    (h : wpAny (model prog w) A (eval value env) (fun o s₁ => wpAny (model prog w) A (eval slice env) (fun i s₂ => s₂.TypeIs o T ∧ wpAny (model prog w) A (getItem o i) Q E s₂) E s₁) E s) :
    wpAny (model prog w) A (eval (.Subscript value slice pos) env) Q E s := by
  refine Subscript_ (wpAny_mono h (fun o s₁ h₁ => wpAny_mono h₁ (fun i s₂ h₂ => ?_) fun _ _ x => x) fun _ _ x => x)
  obtain ⟨hT, h₂⟩ := h₂
  unfold subscriptTail
  refine wpAny_bind ?_
  rw [getitemInPython_of_ne hT.not_modules]
  refine wpAny_bind (wpAny_specialOf hT hl ?_)
  have fin : wpAny (model prog w) A (subscripted slice false o i) (fun r s₃ => wpAny (model prog w) A (letTemporaryGo value o r >>= fun _ => pure r) Q E s₃) E s₂ := by
    rw [hs o i]
    exact wpAny_operating (wpAny_mono h₂ (fun r s₃ h₃ => wpAny_bind (wpAny_letTemporaryGo (wpAny_pure h₃))) fun _ _ x => x)
  first
    | exact wpAny_pure (wpAny_bind fin)
    | exact wpAny_bind (wpAny_pure (wpAny_bind fin))
    | exact wpAny_bind fin
theorem dict_typeIs {X : Cx} {pins : List (Addr × Obj)} {σ : St} {H : Hp} {s : Shared} {a : Addr} {y : V} {o : Option V} (I : Inv X pins σ H s) (g : DGet H a y o) : s.TypeIs (.ref a) "dict" := by
  rcases g with ⟨kvs, k, e, _, _⟩ | ⟨kvs, k, b, e, _, _, _⟩
  · obtain ⟨_, _, vs, _, dd⟩ := dk_rd I.hok e
    exact dd.typeIs
  · obtain ⟨_, _, xs, _, dd⟩ := dt_rd I.hok e
    exact dd.typeIs
def tDGet (td ty : TE) : TE := fun σ H Q => td σ H fun x H1 => ty σ H1 fun y H2 => ∃ a v, x = .ref a ∧ DGet H2 a y (some v) ∧ Q v H2
def tDIn (ty td : TE) : TE := fun σ H Q => ty σ H fun y H1 => td σ H1 fun x H2 => ∃ a o, x = .ref a ∧ DGet H2 a y o ∧ Q (.bl o.isSome) H2
def tDNotIn (ty td : TE) : TE := fun σ H Q => ty σ H fun y H1 => td σ H1 fun x H2 => ∃ a o, x = .ref a ∧ DGet H2 a y o ∧ Q (.bl (!o.isSome)) H2
def sDPut (td ty tv : TE) : TS := fun D σ H => tv σ H fun v H1 => td σ H1 fun x H2 => ty σ H2 fun y H3 => ∃ a H4, x = .ref a ∧ DPut H3 a y v H4 ∧ D.nx σ H4
section
variable {X : Cx} {o i e value : Expr} {pos pos' tpos : Pos} {td ty tv : TE}
theorem pe_dget (hu : X.A.units + 1 < cLine) (ho : PE X o td) (hi : PE X i ty) (hs : NoSl i) : PE X (.Subscript o i pos) (tDGet td ty) := by
  intro pins s σ H Q I h
  refine subD_of PySem.F.slot_dict_getitem.lookup hs (thn (ho pins s σ H _ I h) fun u s1 ⟨x, H1, I1, rx, q1⟩ => thn (hi pins s1 σ H1 _ I1 q1) fun iv s2 ⟨y, H2, I2, ry, a, v, ex, g, q2⟩ => ?_)
  subst ex
  obtain rfl : u = Value.ref a := rx
  exact ⟨dict_typeIs I2 g, d_getItem hu I2 g ry fun w' s3 I3 rw' => ⟨v, H2, I3, rw', q2⟩⟩
theorem pc_din (hu : X.A.units + 1 < cLine) (hi : PE X i ty) (ho : PE X o td) : PC X .In i o (tDIn ty td) := by
  intro pins s σ H Q I h
  refine thn (hi pins s σ H _ I h) fun iv s1 ⟨y, H1, I1, ry, q1⟩ => thn (ho pins s1 σ H1 _ I1 q1) fun u s2 ⟨x, H2, I2, rx, a, ov, ex, g, q2⟩ => ?_
  subst ex
  obtain rfl : u = Value.ref a := rx
  exact d_in hu I2 g ry fun s3 I3 => ⟨.bl ov.isSome, H2, I3, rfl, q2⟩
theorem pc_dnotin (hu : X.A.units + 1 < cLine) (hi : PE X i ty) (ho : PE X o td) : PC X .NotIn i o (tDNotIn ty td) := by
  intro pins s σ H Q I h
  refine thn (hi pins s σ H _ I h) fun iv s1 ⟨y, H1, I1, ry, q1⟩ => thn (ho pins s1 σ H1 _ I1 q1) fun u s2 ⟨x, H2, I2, rx, a, ov, ex, g, q2⟩ => ?_
  subst ex
  obtain rfl : u = Value.ref a := rx
  exact d_notIn hu I2 g ry fun s3 I3 => ⟨.bl (!ov.isSome), H2, I3, rfl, q2⟩
theorem ps_dput (hu : X.A.units + 1 < cLine) (ho : PE X o td) (hi : PE X i ty) (hv : PE X value tv) (hs : swapsWith value (some (.Subscript o i pos')) pos.line X.env = pure false) :
    PS X (.Assign [.Subscript o i pos'] value pos) (sDPut td ty tv) := by
  intro pins s σ H D I h
  refine wpAny_Assign_Subscript (thn (hv pins s σ H _ I h) fun r s1 ⟨v, H1, I1, rv, q1⟩ => thn (ho pins s1 σ H1 _ I1 q1) fun u s2 ⟨x, H2, I2, rx, q2⟩ => thn (hi pins s2 σ H2 _ I2 q2) fun iv s3 ⟨y, H3, I3, ry, a, H4, ex, g, q3⟩ => ?_) hs
  subst ex
  obtain rfl : u = Value.ref a := rx
  exact d_setItem hu I3 g ry rv fun s4 I4 => ⟨σ, H4, I4, q3⟩
end
theorem dk_empty {P : Program} {w : World} {H : Hp} (h : Heap) (hb : sysModules < h.objs.size) : ObjOk P w H (h.push { cls := .type "dict", data := .dict #[] }) h.objs.size (.dK []) :=
  ⟨Nat.zero_le _, beq_eq_false_iff_ne.mpr (Ne.symm (Nat.ne_of_lt hb)), [], .nil, Heap.DictOf.new h⟩
def tDNewK : TE := fun _ H Q => ∀ p, H p = none → Q (.ref p) (upd H p (.dK []))
section
variable {X : Cx} {pos : Pos}
theorem pe_dnewK : PE X (.Dict [] [] pos) tDNewK := fun pins s σ H Q I h =>
  wpAny_Dict_empty ⟨.ref s.heap.objs.size, _, I.laid (a := s.heap.objs.size) (o := .dK []) (t' := s.toks) (fun _ _ q => Heap.get?_push_of_some _ q) (Nat.le_refl _) (dk_empty s.heap I.big), rfl, h _ (I.hok.fresh (Nat.le_refl _))⟩
end
def mergeK (kvs more : List (Key × V)) : List (Key × V) := more.foldl (fun acc kv => putK acc kv.1 kv.2) kvs
theorem length_mergeK : ∀ (more kvs : List (Key × V)), (mergeK kvs more).length ≤ kvs.length + more.length
  | [], kvs => by show kvs.length ≤ kvs.length + 0; omega
  | p :: r, kvs => by
    have h1 := length_mergeK r (putK kvs p.1 p.2)
    have h2 := length_putK kvs p.1 p.2
    show (mergeK (putK kvs p.1 p.2) r).length ≤ _
    rw [List.length_cons]; omega
structure M1 (X : Cx) (o : Expr) (m : Str) (apos : Pos) (e : Expr) (cpos : Pos) : Prop where
  base : attributeBase o m X.env (eval o X.env) = eval o X.env
  few : ((backTo cpos (starEach [e] X.env)).all (fun x => !x.1) && (backToKw cpos (keywordEach [] X.env)).all (fun x => x.1.isSome)
    && decide (([e] : List Expr).length + ([] : List Keyword).length + (if ([] : List Keyword).isEmpty then 0 else 1) < 30)) = true
  line : (apos.endLine == cpos.line) = true
  trees : backTo cpos (starEach [e] X.env) = [(false, eval e X.env)]
structure M2 (X : Cx) (o : Expr) (m : Str) (apos : Pos) (e f : Expr) (cpos : Pos) : Prop where
  base : attributeBase o m X.env (eval o X.env) = eval o X.env
  few : ((backTo cpos (starEach [e, f] X.env)).all (fun x => !x.1) && (backToKw cpos (keywordEach [] X.env)).all (fun x => x.1.isSome)
    && decide (([e, f] : List Expr).length + ([] : List Keyword).length + (if ([] : List Keyword).isEmpty then 0 else 1) < 30)) = true
  line : (apos.endLine == cpos.line) = true
  trees : backTo cpos (starEach [e, f] X.env) = [(false, eval e X.env), (false, eval f X.env)]
section
variable {X : Cx} {pins : List (Addr × Obj)} {σ : St} {H : Hp} {s : Shared} {a : Addr} {y d : V} {u r : Value} {o : Option V} {A : Around} {E : Value → Shared → Prop}
end
section
variable {X : Cx} {o e f : Expr} {apos cpos : Pos} {td ty tx : TE}
end
section
variable {X : Cx} {pins : List (Addr × Obj)} {σ : St} {H : Hp} {s : Shared} {a : Addr} {kvs : List (Key × V)} {A : Around} {E : Value → Shared → Prop}
end
section
variable {X : Cx} {pins : List (Addr × Obj)} {σ : St} {H : Hp} {s : Shared} {a : Addr} {y : V} {u : Value} {A : Around} {E : Value → Shared → Prop}
end
end L2
end
section
namespace Att
open PySem PySem.W PySem.Calls PyProof.Rows
theorem ints_of_wellAll {P : Params} {h : Heap} : ∀ (ns : List Int) (vs : List Value), WellAll P h vs (ns.map WData.int) → IntsAre vs ns := by
  intro ns
  induction ns with
  | nil =>
    intro vs w
    rw [List.map_nil] at w
    cases w
    exact .nil
  | cons n ns ih =>
    intro vs w
    rw [List.map_cons] at w
    cases w with
    | cons a b =>
      cases a
      exact .cons _ _ (ih _ b)
theorem script_of {l : OpenLaw} {n : Nat} (hn : l.most = some n) {P : Params} {h : Heap} {args : List WData} {vals : List Value}
    (hpre : l.row.toRowW.claim.pre args = true) (hwl : WellAll P h vals args) :
    ∃ a vs ns, vals = [Value.ref a] ∧ args = [WData.list (ns.map WData.int)] ∧ h.get? a = some { cls := .type "list", data := .seq vs.toArray } ∧ IntsAre vs ns ∧ ns.length ≤ n := by
  have hsh : WShape.hasAll [] args [.list .int] = true := (pre_splitW hpre).1
  have hc : l.pre.holds [] { args := args } = true := (pre_splitW hpre).2
  obtain ⟨d, r, rfl, h1, h2⟩ := hasAllW_cons hsh
  obtain rfl := hasAllW_nil h2
  obtain ⟨xs, rfl, h3⟩ := hasW_list h1
  obtain ⟨ns, rfl⟩ := items_int h3
  have hlen : ns.length ≤ n := by
    unfold OpenLaw.pre at hc
    have h4 : (WTm.not (.lt (.lit (.int (n : Int))) (.len (.arg 0)))).holds [] { args := [.list (ns.map .int)] } = true := by
      have h4 := (holds_andW hc).1
      rw [hn] at h4
      exact h4
    have h5 := condW_of h4 (w_not (w_lt w_lit (w_len_list (w_arg rfl))))
    rw [List.length_map] at h5
    refine Nat.le_of_not_lt fun q => ?_
    have q' : (n : Int) < ((ns.length : Nat) : Int) := by omega
    first
      | (rw [decide_eq_true q'] at h5; exact absurd h5 (by decide))
      | (simp at h5; omega)
  cases hwl with
  | cons w1 w2 =>
    cases w2
    cases w1 with
    | list ho hall => exact ⟨_, _, ns, rfl, rfl, ho, ints_of_wellAll ns _ hall, hlen⟩
theorem post_true (l : OpenLaw) (args : List WData) : l.row.toRowW.claim.post args (.bool true) args = true :=
  postW_of (r := l.row.toRowW) (X := (true == true))
    (show WShape.has [] (.bool true) .bool = true by first | rfl | decide | simp [WShape.has, WShape.arms, WShape.armsAll])
    (show (WTm.eq .res (.lit (.bool true))).value [] { args := args, res := some (.bool true), after := args } = some (.bool (true == true)) from w_eq_bool (w_res rfl) w_lit) rfl
theorem attach_call {l : OpenLaw} {n : Nat} {q : Program} {loose : List Str} {XP : (Str → Option Value) → Heap → Prop} {YP : World → Heap → Prop} {d : DefRec}
    (hn : l.most = some n) (hdf : d.params.defaults = [])
    (call : ∀ (w : World) (s₀ s₁ : Shared) (mg mb : Str → Option Value) (fa : Addr) (o : Obj) (pm cd doc : Value) (a : Addr) (vs : List Value) (ns : List Int),
      Ground q loose [] XP w s₀ mg mb s₁.heap → YP w s₁.heap →
      s₁.heap.get? fa = some o → o.data = .func (docDef d.name d.params d.body d.scope pm cd doc) → s₁.heap.CodeRec cd d.name → mg d.name = some (.ref fa) →
      s₁.heap.get? a = some { cls := .type "list", data := .seq vs.toArray } → IntsAre vs ns → ns.length ≤ n → s₁.gens = #[] →
      codeAny (model l.prog w) callerA (.call (.ref fa) ⟨[.ref a], []⟩) (fun r s' => r = .ok (.ret (.bool true)) ∧ OldK s₁.heap s'.heap ∧ s'.os = s₁.os ∧ AllBare s'.gens) s₁) :
    WalkO q loose XP YP l.row.toRowW d [] (fun f vs => PySem.call f vs) := by
  intro w s₀ s₁ mg mb G Y fa o pm cd doc dV kV ho hd hcd hD hmg hg args vals as hpre hlay hrd hwl hlo
  obtain rfl : dV = .none := Dflts.none hD hdf
  obtain rfl : kV = .none := Dflts.noKw hD
  obtain ⟨a, vs, ns, rfl, rfl, hobj, hints, hlen⟩ := script_of hn hpre hwl
  refine enter_call (codeAny_mono (call w s₀ s₁ mg mb fa o pm cd doc a vs ns G Y ho (fd_plain hd) hcd hmg hobj hints hlen hg) fun r s' hq => ?_)
  obtain ⟨rfl, h2, h3, h4⟩ := hq
  exact ⟨.inl ⟨.bool true, .bool true, [], rfl, fun _ => rfl, .bool true, post_true l _, fun _ => ⟨List.Pairwise.nil, fun _ hm => (nomatch hm)⟩⟩, h2, h3, h4⟩
section
variable {prog : Program} {w : World} {A : Around} {E : Value → Shared → Prop} {s : Shared} {K : Frag}
def ledger (h : Heap) (L d : Addr) : List (Addr × Obj) := (List.range h.objs.size).filterMap fun a => if a = L ∨ a = d then none else (h.get? a).map fun o => (a, o)
end
end Att
namespace L2
open PySem PySem.Spec PyProof.Rows
theorem vals_ints : ∀ {vs : List Value} {ns : List Int}, IntsAre vs ns → Vals (ns.map V.int) vs
  | _, _, .nil => .nil
  | _, _, .cons n t h => .cons ⟨t, rfl⟩ (vals_ints h)
def Only (H : Hp) : Prop := ∀ b, H b = none ∨ ∃ o xs, H b = some (.frz o (.lst xs))
theorem law_call {P : Program} {w : World} {K : PySem.W.Frag} {mg mb : Str → Option Value} {CX : CXT} {k : Nat} {fa a : Addr} {fd : FuncData} {x : Str} {sp : Sp} {s₁ : Shared} {vs : List Value} {ns : List Int}
    (KX : K.In s₁.heap) (hns : s₁.heap.Ns mainGlobals mg) (hb : s₁.heap.Ns builtinsNs mb) (hbb : ∀ x : Str, x ≠ "__name__" → mb x = bootBuiltins x) (hlim : s₁.heap.NoLimit) (hg : s₁.gens = #[])
    (ha : s₁.heap.get? a = some { cls := .type "list", data := .seq vs.toArray }) (hi : IntsAre vs ns) (hl : ns.length ≤ sizeLine) (hr : Room k callerA)
    (F : ∀ base : Heap, K.In base → base.Ns mainGlobals mg → FnOk P w K mg base CX k fa fd [x] sp) (hbind : ∀ (s : Shared) (u : Value), BindsTo s fd ⟨[u], []⟩ [(x, u)])
    (hsp : ∀ H : Hp, Only H → SqL K H a (ns.map V.int) → sp [.ref a] H (fun v _ => v = .bl true) fun _ _ _ => False)
    (hCX : ∀ H e s', CX [] H s₁ (fun _ _ _ => False) e s' → False) :
    codeAny (model P w) callerA (.call (.ref fa) ⟨[.ref a], []⟩) (fun r s' => r = .ok (.ret (.bool true)) ∧ OldK s₁.heap s'.heap ∧ s'.os = s₁.os ∧ AllBare s'.gens) s₁ := by
  have rv := vals_ints hi
  have lenV := hi.length
  have core : ∀ H : Hp, Only H → SqL K H a (ns.map V.int) → HOk P w H s₁.heap → (∀ b, H b ≠ none → b = a) → (H a ≠ none → K.lookup a = none) →
      codeAny (model P w) callerA (.call (.ref fa) ⟨[.ref a], []⟩) (fun r s' => r = .ok (.ret (.bool true)) ∧ OldK s₁.heap s'.heap ∧ s'.os = s₁.os ∧ AllBare s'.gens) s₁ := by
    intro H hO hS hok hA hK
    have base_of : ∀ {b : Addr} {o : Obj}, s₁.heap.get? b = some o → H b = none → (hidT s₁.heap H).get? b = some o := fun e n => hidT_get e n
    have noA : ∀ {b : Addr} {o : Obj} {es : Array DictEntry} {ep : Nat}, s₁.heap.get? b = some o → o.data = .dict es ep → H b = none := fun {b o es ep} e d => by
      cases q : H b with
      | none => rfl
      | some u =>
        have e' : b = a := hA b (by rw [q]; simp)
        subst e'
        rw [ha] at e; cases e
        have d' : Data.seq vs.toArray _ = Data.dict es ep := d
        cases d'
    have nsK : ∀ {b : Addr} {m : Str → Option Value}, s₁.heap.Ns b m → (hidT s₁.heap H).Ns b m := fun {b m} ⟨o, es, ep, e, d, r⟩ => ⟨o, es, ep, base_of e (noA e d), d, r⟩
    have hKb : K.In (hidT s₁.heap H) := fun b o e => base_of (KX b o e) (by
      cases q : H b with
      | none => rfl
      | some u =>
        have e' : b = a := hA b (by rw [q]; simp)
        subst e'
        rw [hK (by rw [q]; simp)] at e; cases e)
    have hM : Mod K mg (hidT s₁.heap H) := ⟨hKb, nsK hns, ⟨mb, nsK hb, hbb⟩, let ⟨mc, h1, h2⟩ := hlim; ⟨mc, nsK h1, h2⟩⟩
    have e0 : Env0 P w K mg (hidT s₁.heap H) callerA [] s₁ H := ⟨rfl, hM, fun b o e => of_hidT e, Nat.le_of_eq (hidT_size _ _), trivial, fun b hb => absurd (show b ∈ ([] : List Addr) from hb) (by simp), hok, .of_eq hg⟩
    refine codeAny_mono ((F _ hKb (nsK hns)).run callerA [] s₁ H ⟨[.ref a], []⟩ [.ref a] [.ref a] _ _ hr e0 (hbind s₁ (.ref a)) (.cons rfl .nil) (hsp H hO hS)) fun r s' h => ?_
    cases r with
    | error e => exact (hCX H e s' h).elim
    | ok fl =>
      cases fl with
      | next => exact False.elim h
      | brk => exact False.elim h
      | cont => exact False.elim h
      | ret u =>
        obtain ⟨v, H', os, bare, un, hok', r', q⟩ := h
        have q' : v = .bl true := q
        subst q'
        obtain rfl : u = Value.bool true := r'
        refine ⟨rfl, OldK.of_keep fun b o e => ?_, os, bare⟩
        cases q : H b with
        | none => exact un.keep b o e q (by intro z; exact absurd (show b ∈ ([] : List Addr) from z) (by simp)) (by simp)
        | some u =>
          rcases hO b with z | ⟨ob, xs, z⟩
          · rw [q] at z; cases z
          · have z2 := un.frzs b ob _ z
            obtain ⟨e1, _⟩ := hok b _ z
            obtain ⟨e2, _⟩ := hok' b _ z2
            rw [e] at e1; cases e1
            exact e2
  cases hk : K.lookup a with
  | some o =>
    have e := KX a o hk
    rw [ha] at e
    cases e
    refine core (fun _ => none) (fun _ => .inl rfl) (.inr ⟨_, vs.toArray, _, hk, rfl, rfl, rfl, by rw [List.size_toArray, lenV]; exact hl, by simpa using rv⟩) (fun b u z => by have z' : (none : Option HO) = some u := z; cases z') (fun b z => absurd rfl z) fun z => absurd rfl z
  | none =>
    refine core (fun b => if b = a then some (.frz { cls := .type "list", data := .seq vs.toArray } (.lst (ns.map V.int))) else none) (fun b => ?_) (.inl (.inr ⟨{ cls := .type "list", data := .seq vs.toArray }, if_pos rfl⟩)) (fun b u z => ?_) (fun b z => ?_) fun _ => hk
    · by_cases hb : b = a
      · exact .inr ⟨_, _, if_pos hb⟩
      · exact .inl (if_neg hb)
    · by_cases hb : b = a
      · have z' := (if_pos hb).symm.trans z
        cases z'
        subst hb
        exact ⟨ha, by rw [List.length_map]; exact hl, vs, _, rv, ha⟩
      · have z' := (if_neg hb).symm.trans z
        cases z'
    · by_cases hb : b = a
      · exact hb
      · exact absurd (if_neg hb) z
end L2
namespace L2
open PySem PySem.Spec PyProof.Rows
theorem walk_of {l : PySem.W.OpenLaw} {n k : Nat} {q : Program} {loose : List Str} {XP : (Str → Option Value) → Heap → Prop} {YP : World → Heap → Prop} {d : DefRec} {K : Params → PySem.W.Frag} {CX : World → CXT} {sp : World → Sp} {x : Str}
    (hn : l.most = some n) (hn2 : n ≤ sizeLine) (hdf : d.params.defaults = []) (hr : Room k callerA)
    (hY : ∀ (w : World) (h : Heap), YP w h → (K w.params).In h)
    (F : ∀ (w : World) (mg : Str → Option Value) (fa : Addr) (h : Heap), (K w.params).In h → h.Ns mainGlobals mg → mg d.name = some (.ref fa) →
      ∃ fd : FuncData, (∀ (s : Shared) (u : Value), BindsTo s fd ⟨[u], []⟩ [(x, u)]) ∧
        ∀ base : Heap, (K w.params).In base → base.Ns mainGlobals mg → FnOk l.prog w (K w.params) mg base (CX w) k fa fd [x] (sp w))
    (hsp : ∀ (w : World) (H : Hp) (a : Addr) (ns : List Int), ns.length ≤ n → Only H → SqL (K w.params) H a (ns.map V.int) → sp w [.ref a] H (fun v _ => v = .bl true) fun _ _ _ => False)
    (hCX : ∀ (w : World) (H : Hp) (s : Shared) (e : Value) (s' : Shared), CX w [] H s (fun _ _ _ => False) e s' → False) :
    PySem.W.WalkO q loose XP YP l.row.toRowW d [] (fun f vs => PySem.call f vs) := by
  refine Att.attach_call hn hdf fun w s₀ s₁ mg mb fa o pm cd doc a vs ns G Y ho hd hcd hmg hobj hints hlen hg => ?_
  have KX := hY w _ Y
  obtain ⟨fd, hb, hF⟩ := F w mg fa _ KX G.T.g hmg
  exact law_call KX G.T.g G.T.b G.T.builtins G.T.nolimit hg hobj hints (Nat.le_trans hlen hn2) hr hF hb (fun H hO hS => hsp w H a ns hlen hO hS) fun H e s' => hCX w H s₁ e s'
end L2
/- THE LAST THEOREM (shape; LID, My.* are yours):
   My.Adr: a structure of the addresses that your layer names (classes, functions); My.Txt K t: a structure (Prop) of the equations over K;
   My.txt_mk : {K} {implicit addresses ..} (e1 : nsIn K mainGlobals "law" = some (some (.ref f))) (e2 : K.lookup f = some ⟨oc, od, .func (fnOf "law" "law" params body scope dV kV doc pm an cdv ct), sl⟩) (e3 : codeIn K cdv "law" = true) .. : ∃ t, My.Txt K t
set_option maxRecDepth 100000 in
set_option maxHeartbeats 0 in
(the tactic k_is has no namespace: write k_is) -/
namespace L2
open PySem PySem.Spec PyProof.Rows
def defArgs (s : Stmt) : Arguments := match s with
  | .FunctionDef _ a _ _ _ _ _ _ _ _ => a
  | _ => { posonlyargs := [], args := [], vararg := none, kwonlyargs := [], kw_defaults := [], kwarg := none, defaults := [] }
def defBody (s : Stmt) : List Stmt := match s with
  | .FunctionDef _ _ b _ _ _ _ _ _ _ => b
  | _ => []
def defScope (s : Stmt) : Scope := match s with
  | .FunctionDef _ _ _ _ _ _ sc _ _ _ => sc
  | _ => { kind := .function, names := [], isGenerator := false, isCoroutine := false }
abbrev CX0 : CXT := fun _ _ _ _ _ _ => False
abbrev E0 : XK := fun _ _ _ => False
theorem pass0 {X : Cx} : Passes CX0 X E0 := fun _ _ _ _ _ _ _ h => h.elim
structure Fun (K : PySem.W.Frag) (x qual : Str) (st : Stmt) (f : Addr) (fd : FuncData) : Prop where
  ex : ∃ (oc : Value) (od : Option Addr) (kV doc pm : Value) (an : Option Addr) (cdv ct : Value) (osl : Array (Option Value)),
    fd = PySem.W.fnOf x qual (defArgs st) (defBody st) (defScope st) .none kV doc pm an cdv ct ∧ K.lookup f = some ⟨oc, od, .func fd, osl⟩ ∧ PySem.W.codeIn K cdv qual = true
  kp : PySem.W.keepIn K (.ref f) = true
section
variable {P : Program} {w : World} {K : PySem.W.Frag} {mg : Str → Option Value} {base : Heap}
theorem Fun.ok {x qual : Str} {st : Stmt} {f : Addr} {fd : FuncData} {N ps : List Str} {k : Nat} {sp : Sp} (F : Fun K x qual st f fd) (S : FnScope N ps (defScope st)) (len : ∀ vs H Q E, sp vs H Q E → vs.length = ps.length)
    (hbody : ∀ (cdv : Value) (A : Around) (outer : List Env) (s : Shared) (H : Hp) (vs : List V) (Q : VK) (E : XK), Room k (A.deeper (envOfC qual (defScope st) s.heap.objs.size f cdv)) → sp vs H Q E →
      ∃ t, PSs (cxOf CX0 P w K mg base N qual (defScope st) f cdv A outer s H E).nox (defBody st) t ∧ t { nx := fun _ H' => Q .non H', rt := Q } (start N vs) H) : FnOk P w K mg base CX0 (k + 1) f fd ps sp := by
  obtain ⟨oc, od, kV, doc, pm, an, cdv, ct, osl, rfl, lk, hcd⟩ := F.ex
  refine fn_of lk hcd S len fun A outer s H vs Q E hr hsp => ?_
  obtain ⟨t, h, q⟩ := hbody cdv A outer s H vs Q E hr hsp
  exact ⟨t, h.nox, q⟩
theorem Fun.binds {x qual : Str} {st : Stmt} {f : Addr} {fd : FuncData} {ps : List Str} (F : Fun K x qual st f fd)
    (h : ∀ (kV doc pm : Value) (an : Option Addr) (cdv ct : Value) (us : List Value), us.length = ps.length → bindArgs (PySem.W.fnOf x qual (defArgs st) (defBody st) (defScope st) .none kV doc pm an cdv ct) ⟨us, []⟩ = pure (ps.zip us)) : Binds K fd ps [] := by
  obtain ⟨oc, od, kV, doc, pm, an, cdv, ct, osl, rfl, lk, hcd⟩ := F.ex
  exact .all (h kV doc pm an cdv ct)
theorem fun_mk {x qual : Str} {st : Stmt} {f : Addr} {oc : Value} {od an : Option Addr} {osl : Array (Option Value)} {kV doc pm cdv ct : Value} (l : K.lookup f = some ⟨oc, od, .func (PySem.W.fnOf x qual (defArgs st) (defBody st) (defScope st) .none kV doc pm an cdv ct), osl⟩)
    (c : PySem.W.codeIn K cdv qual = true) (k : PySem.W.keepIn K (.ref f) = true) : Fun K x qual st f (PySem.W.fnOf x qual (defArgs st) (defBody st) (defScope st) .none kV doc pm an cdv ct) := ⟨⟨oc, od, kV, doc, pm, an, cdv, ct, osl, rfl, l, c⟩, k⟩
end
theorem hu_of {A : Around} {k : Nat} (hr : Room k A) : A.units + 1 < cLine := Nat.lt_of_le_of_lt (Nat.add_le_add_left (by decide : 1 ≤ 64) _) hr.units
section
variable {X : Cx}
theorem pv (i : Nat) {x : Str} {pos : Pos} (hN : X.N[i]? = some x := by rfl) (hv : Vis X.env.scope x := by first | exact Or.inl rfl | exact Or.inr (Or.inl rfl) | exact Or.inr (Or.inr rfl)) (hd : (x == ("__debug__" : Str)) = false := by decide)
    (hcd : (x == ("__classdict__" : Str)) = false := by decide) : PE X (.Name x pos) (tVar i) := pe_var hN hv hd hcd
end
theorem iteF {A B : Prop} (h : B) : if false = true then A else B := by
  rw [if_neg Bool.false_ne_true]
  exact h
theorem iteT {A B : Prop} (h : A) : if true = true then A else B := by
  rw [if_pos rfl]
  exact h
theorem ite2 {c A B : Prop} [Decidable c] (h1 : c → A) (h2 : ¬ c → B) : if c then A else B := by
  by_cases h : c
  · rw [if_pos h]
    exact h1 h
  · rw [if_neg h]
    exact h2 h
def Same (H H' : Hp) : Prop := ∀ b o, H b = some o → H' b = some o
theorem Same.refl (H : Hp) : Same H H := fun _ _ h => h
theorem Same.trans {H H1 H2 : Hp} (a : Same H H1) (b : Same H1 H2) : Same H H2 := fun c o h => b c o (a c o h)
section
variable {κ : Type} [DecidableEq κ]
end
end L2
end
section
set_option autoImplicit false
namespace L2
open PySem PySem.Spec PyProof.Rows
def clo (cells : List (Str × Addr)) : List (Str × NameKind) → List (Str × Addr) → List (Str × Addr)
  | [], acc => acc
  | (n, k) :: r, acc => if k == .free then clo cells r ((n, (cells.lookup n).getD 0) :: acc) else clo cells r acc
theorem clo_of {cells : List (Str × Addr)} : ∀ {names : List (Str × NameKind)} {acc : List (Str × Addr)} {x : Str} {c : Addr}, (∀ y ∈ names, y.2 = .free → ∃ c, cells.lookup y.1 = some c) →
    (clo cells names acc).lookup x = some c → cells.lookup x = some c ∨ acc.lookup x = some c
  | [], acc, x, c, _, h => .inr h
  | (n, k) :: r, acc, x, c, ha, h => by
    have har : ∀ y ∈ r, y.2 = .free → ∃ c, cells.lookup y.1 = some c := fun y hy => ha y (List.mem_cons_of_mem _ hy)
    unfold clo at h
    by_cases hk : k = .free
    · subst hk
      rw [if_pos (by rfl)] at h
      rcases clo_of har h with q | q
      · exact .inl q
      · obtain ⟨c', e⟩ := ha (n, .free) List.mem_cons_self rfl
        rw [List.lookup_cons] at q
        cases hx : x == n with
        | true =>
          rw [hx] at q
          have hx' : x = n := by simpa using hx
          have e' : cells.lookup n = some c' := e
          rw [e'] at q
          rw [hx', e']
          exact .inl q
        | false =>
          rw [hx] at q
          exact .inr q
    · rw [if_neg (by simpa using hk)] at h
      exact clo_of har h
theorem clo_acc {cells : List (Str × Addr)} : ∀ {names : List (Str × NameKind)} {acc : List (Str × Addr)} {x : Str}, (∃ c, acc.lookup x = some c) → ∃ c, (clo cells names acc).lookup x = some c
  | [], _, _, h => h
  | (n, k) :: r, acc, x, h => by
    unfold clo
    split
    · refine clo_acc ?_
      rw [List.lookup_cons]
      cases hx : x == n with
      | true => exact ⟨_, rfl⟩
      | false => exact h
    · exact clo_acc h
theorem clo_has {cells : List (Str × Addr)} : ∀ {names : List (Str × NameKind)} {acc : List (Str × Addr)} {x : Str}, (x, NameKind.free) ∈ names → ∃ c, (clo cells names acc).lookup x = some c
  | [], _, _, h => by simp at h
  | (n, k) :: r, acc, x, h => by
    unfold clo
    rcases List.mem_cons.mp h with e | e
    · cases e
      rw [if_pos (by rfl)]
      exact clo_acc ⟨(cells.lookup n).getD 0, by simp [List.lookup_cons]⟩
    · split
      · exact clo_has e
      · exact clo_has e
theorem closure_go {env : Env} {scope : Scope}
    (ha : ∀ y ∈ scope.names, y.2 = .free → ∃ c, env.cells.lookup y.1 = some c) : closureFor scope env = pure (clo env.cells scope.names []) := by
  have go : ∀ (names : List (Str × NameKind)) (acc : List (Str × Addr)), (∀ y ∈ names, y.2 = .free → ∃ c, env.cells.lookup y.1 = some c) →
      (forIn names acc fun (x : Str × NameKind) (cs : List (Str × Addr)) => (do
        if x.2 == .free then
          let c ← cellOf env x.1
          pure (ForInStep.yield ((x.1, c) :: cs))
        else pure (ForInStep.yield cs) : Sem (ForInStep (List (Str × Addr))))) = pure (clo env.cells names acc) := by
    intro names
    induction names with
    | nil => intro acc _; rfl
    | cons y r ih =>
      intro acc h
      obtain ⟨n, k⟩ := y
      have hr : ∀ y ∈ r, y.2 = .free → ∃ c, env.cells.lookup y.1 = some c := fun y hy => h y (List.mem_cons_of_mem _ hy)
      rw [List.forIn_cons]
      unfold clo
      by_cases hk : k = .free
      · subst hk
        obtain ⟨c, e⟩ := h (n, .free) List.mem_cons_self rfl
        have e' : env.cells.lookup n = some c := e
        have hc : cellOf env n = pure c := by
          unfold cellOf
          rw [e']
        simp only [beq_self_eq_true, if_true, hc, pure_bind, e', Option.getD_some]
        exact ih _ hr
      · have hb : (k == NameKind.free) = false := by simpa using hk
        simp only [hb, Bool.false_eq_true, if_false, pure_bind]
        exact ih _ hr
  have q := go scope.names [] ha
  unfold closureFor
  simp only [bind_pure]
  exact q
theorem relabel_lookup {scope : Scope} {env : Env} {x : Str} : ∀ {names : List (Str × NameKind)},
    (names.map fun (n, k) => if (k == NameKind.free && env.scope.kind == .function && env.kindOf n == some .cell) then (n, NameKind.cell) else (n, k)).lookup x =
      (names.lookup x).map fun k => if (k == NameKind.free && env.scope.kind == .function && env.kindOf x == some .cell) then NameKind.cell else k
  | [] => rfl
  | (n, k) :: r => by
    have ih := @relabel_lookup scope env x r
    show List.lookup x ((if (k == NameKind.free && env.scope.kind == .function && env.kindOf n == some .cell) = true then (n, NameKind.cell) else (n, k)) :: _) = _
    cases hx : x == n with
    | true =>
      have hx' : x = n := by simpa using hx
      subst hx'
      by_cases hc : (k == NameKind.free && env.scope.kind == .function && env.kindOf x == some .cell) = true
      · rw [if_pos hc]
        simp only [List.lookup_cons, hx, Option.map_some, hc, if_true]
      · rw [if_neg hc]
        simp only [List.lookup_cons, hx, Option.map_some, if_neg hc]
    | false =>
      by_cases hc : (k == NameKind.free && env.scope.kind == .function && env.kindOf n == some .cell) = true
      · rw [if_pos hc]
        simp only [List.lookup_cons, hx]
        exact ih
      · rw [if_neg hc]
        simp only [List.lookup_cons, hx]
        exact ih
theorem cells_app : ∀ (names : List (Str × NameKind)) (n : Nat) (acc : List (Str × Addr)), cellsFrom n names acc = cellsFrom n names [] ++ acc
  | [], _, _ => rfl
  | (x, k) :: r, n, acc => by
    unfold cellsFrom
    split
    · rw [cells_app r (n + 1) ((x, n) :: acc), cells_app r (n + 1) [(x, n)], List.append_assoc]
      rfl
    · exact cells_app r n acc
theorem cells_mem : ∀ {names : List (Str × NameKind)} {n : Nat} {x : Str} {c : Addr}, (x, c) ∈ cellsFrom n names [] → (x, NameKind.cell) ∈ names ∧ n ≤ c
  | [], _, _, _, h => by cases h
  | (y, k) :: r, n, x, c, h => by
    unfold cellsFrom at h
    split at h
    · rename_i hk
      rw [cells_app] at h
      rcases List.mem_append.mp h with q | q
      · obtain ⟨h1, h2⟩ := cells_mem q
        exact ⟨List.mem_cons_of_mem _ h1, by omega⟩
      · cases List.mem_singleton.mp q
        have e : k = .cell := by simpa using hk
        rw [e]
        exact ⟨List.mem_cons_self, Nat.le_refl _⟩
    · obtain ⟨h1, h2⟩ := cells_mem h
      exact ⟨List.mem_cons_of_mem _ h1, h2⟩
theorem look_app {α : Type} {x : Str} : ∀ (l m : List (Str × α)), (l ++ m).lookup x = (l.lookup x).or (m.lookup x)
  | [], m => by simp
  | (k, v) :: r, m => by
    rw [List.cons_append, List.lookup_cons, List.lookup_cons]
    cases x == k with
    | true => rfl
    | false => exact look_app r m
theorem nd_kind : ∀ {names : List (Str × NameKind)} {x : Str} {k k' : NameKind}, (names.map (·.1)).Nodup → names.lookup x = some k → (x, k') ∈ names → k' = k
  | [], _, _, _, _, h, _ => by cases h
  | (y, j) :: r, x, k, k', hn, h, hm => by
    rw [List.map_cons] at hn
    obtain ⟨n1, n2⟩ := List.nodup_cons.mp hn
    rw [List.lookup_cons] at h
    rcases List.mem_cons.mp hm with e | e
    · cases e
      rw [show (y == y) = true by simp] at h
      exact Option.some.inj h
    · cases hx : x == y with
      | true =>
        have hx' : x = y := by simpa using hx
        subst hx'
        exact absurd (List.mem_map.mpr ⟨_, e, rfl⟩) n1
      | false =>
        rw [hx] at h
        exact nd_kind n2 h e
abbrev allC (C : Addr) (cells : List (Str × Addr)) (names : List (Str × NameKind)) : List (Str × Addr) := cellsFrom (C + 1) names (clo cells names [])
theorem allC_cases {C : Addr} {cells : List (Str × Addr)} {names : List (Str × NameKind)} {x : Str} {c : Addr} (h : (allC C cells names).lookup x = some c) :
    ((x, c) ∈ cellsFrom (C + 1) names [] ∧ (x, NameKind.cell) ∈ names ∧ C + 1 ≤ c) ∨ (clo cells names []).lookup x = some c := by
  unfold allC at h
  rw [cells_app, look_app] at h
  cases q : (cellsFrom (C + 1) names []).lookup x with
  | none =>
    rw [q] at h
    exact .inr h
  | some d =>
    rw [q] at h
    cases h
    have m := PySem.mem_of_lookup q
    exact .inl ⟨m, cells_mem m⟩
theorem allC_free {C : Addr} {cells : List (Str × Addr)} {names : List (Str × NameKind)} {x : Str} (hn : (names.map (·.1)).Nodup) (h : names.lookup x = some .free) : (allC C cells names).lookup x = (clo cells names []).lookup x := by
  unfold allC
  rw [cells_app, look_app]
  cases q : (cellsFrom (C + 1) names []).lookup x with
  | none => rfl
  | some d =>
    have m := (cells_mem (PySem.mem_of_lookup q)).1
    cases nd_kind hn h m
theorem newEnv_comp {M : Model} {A : Around} {E : Value → Shared → Prop} {s : Shared} {scope : Scope} {cl : List (Str × Addr)} {env : Env} {Q : Env → Shared → Prop}
    (hQ : ∀ h', h'.Ns s.heap.objs.size (fun _ => none) → (∀ b o, s.heap.get? b = some o → h'.get? b = some o) → CellsOk h' (s.heap.objs.size + 1) (cellsFrom (s.heap.objs.size + 1) scope.names []) →
      Q { scope := scope, locals := s.heap.objs.size, globals := env.globals, cells := cellsFrom (s.heap.objs.size + 1) scope.names cl, qual := env.qual, func := none, code := env.code, frame := env.frame, builtins := env.builtins } { s with heap := h' }) :
    wpAny M A (newFunctionEnv scope env.globals cl [] env.qual none .none (some env)) Q E s := by
  simp only [newFunctionEnv, Option.isSome_some, if_true]
  refine wpAny_bind (wpAny_alloc ?_)
  refine wpAny_bind (wpAny_layCells _ (fun name kind cells => by cases hkc : kind == NameKind.cell <;> simp [hkc]) _ _ _ _ ?_)
  have ok := cellsFrom_ok scope.names (s.heap.push { cls := .type "dict", data := .dict #[] }) (s.heap.objs.size + 1) [] ⟨fun _ _ hm => (nomatch hm), List.Pairwise.nil⟩ (by rw [Heap.size_push]; exact Nat.le_refl _)
  rw [Heap.size_push] at ok
  rw [show ({ s with heap := s.heap.push { cls := .type "dict", data := .dict #[] } } : Shared).heap.objs.size = s.heap.objs.size + 1 from Heap.size_push ..]
  refine wpAny_bind ?_
  rw [List.forIn_nil]
  exact wpAny_pure (wpAny_pure (hQ _ ((Heap.Ns.new s.heap (.type "dict")).keeps (pushCells_keeps _ _)) (fun b o e => pushCells_keeps _ _ b o (Heap.get?_push_of_some _ e)) ok))
def cxComp (X : Cx) (scope : Scope) (cl : List (Str × Addr)) (N : List Str) (C : Addr) (s₃ : Shared) (H₃ : Hp) (fp : List Addr) : Cx where
  prog := X.prog
  w := X.w
  K := X.K
  mg := X.mg
  base := X.base
  A := X.A
  N := N
  s₀ := s₃
  H₀ := H₃
  env := compEnvC scope cl C X.env
  outer := X.stack
  stack := X.stack
  ex := fp
  calm := X.calm
  fn := fun x => scope.names.lookup x == some .cell
  pn := []
  xe := fun _ _ => False
structure CompScope (X : Cx) (scope : Scope) (own : List Str) (fr : List Nat) (N : List Str) : Prop where
  kind : scope.kind = .function
  nodup : (scope.names.map (·.1)).Nodup
  names : ∀ y ∈ scope.names, y.2 = .local → scope.names.lookup y.1 = some .local
  free : ∀ y ∈ scope.names, y.2 = .free → X.env.kindOf y.1 = some .cell ∨ X.env.kindOf y.1 = some .free
  len : N.length = own.length + fr.length
  isfr : ∀ (j i : Nat), fr[j]? = some i → ∃ x, N[own.length + j]? = some x ∧ X.N[i]? = some x ∧ scope.names.lookup x = some .free
  frs : ∀ (j : Nat) (x : Str), N[j]? = some x → j < own.length → own[j]? = some x
def frv (σ : St) (fr : List Nat) : St := fr.map fun i => (σ[i]?).join
def PTs (X : Cx) (ifs : List Expr) (t : TT) : Prop :=
  ∀ (pins : List (Addr × Obj)) (s : Shared) (σ : St) (H : Hp) (Q : Bool → Hp → Prop), Inv X pins σ H s → t σ H Q →
    wpAny (model X.prog X.w) X.A (forIn ifs true fun c r => if r = true then do let ok ← isTrue c X.env (eval c X.env); pure (ForInStep.yield ok) else pure (ForInStep.yield r)) (TP X pins σ Q) X.xe s
def tYes : TT := fun _ H Q => Q true H
theorem pts_nil {X : Cx} : PTs X [] tYes := fun _ _ _ H _ I h => wpAny_tests_nil ⟨H, I, h⟩
theorem pts_one {X : Cx} {c : Expr} {t : TT} (h : PT X c t) : PTs X [c] t := fun pins s σ H Q I hq => wpAny_tests_one (h pins s σ H Q I hq)
theorem compLoop_any {prog : Program} {w : World} {A : Around} {R : Result → Shared → Prop} {s : Shared} {elt target iter : Expr} {ifs : List Expr} {scope : Scope} {pos : Pos} {it acc : Value} {env : Env} (I : Nat → Shared → Prop)
    (turn : ∀ n s, I n s → wpAny (model prog w) A (pyNext it) (fun r s₁ => match r with
      | none => R (.ok .next) s₁
      | some v => wpAny (model prog w) A (letOwnedTupleGo target it v) (fun _ s₁' => wpAny (model prog w) A (assign target env v) (fun _ s₂ =>
          wpAny (model prog w) A (forIn ifs true fun c r => if r = true then do let ok ← isTrue c env (eval c env); pure (ForInStep.yield ok) else pure (ForInStep.yield r)) (fun ok s₃ =>
            if ok = true then wpAny (model prog w) A (eval elt env) (fun x s₄ =>
              wpAny (model prog w) A (call (.builtin "list.append") [acc, x]) (fun _ s₅ => ∃ m, m < n ∧ I m s₅) (fun _ _ => False) s₄) (fun _ _ => False) s₃
            else ∃ m, m < n ∧ I m s₃) (fun _ _ => False) s₂) (fun _ _ => False) s₁') (fun _ _ => False) s₁) (fun _ _ => False) s)
    (n : Nat) (h : I n s) :
    codeAny (model prog w) A (.compLoop (.ListComp elt [⟨target, iter, ifs, 0⟩] scope pos) 0 it acc env) R s := by
  refine codeAny_loop rfl I (fun n s hI => ?_) n h
  show wpAny _ A ((compTurn (.ListComp elt [⟨target, iter, ifs, 0⟩] scope pos) 0 it acc env).onRaise (fun x => do noteFrame x env; theTreesLotGoes x)) _ _ s
  refine wpAny_noted ?_
  rw [compTurn_list]
  refine wpAny_bind (wpAny_standAt (wpAny_bind (wpAny_mono (turn n s hI) (fun r s₁ h₁ => ?_) fun _ _ h' => h'.elim)))
  cases r with
  | none => exact wpAny_pure h₁
  | some v =>
    refine wpAny_bind (wpAny_mono h₁ (fun _ s₁' h₁' => ?_) fun _ _ h' => h'.elim)
    refine wpAny_bind (wpAny_mono h₁' (fun _ s₂ h₂ => wpAny_bind (wpAny_mono h₂ (fun ok s₃ h₃ => ?_) fun _ _ h' => h'.elim)) fun _ _ h' => h'.elim)
    cases ok with
    | false => exact wpAny_pure ⟨rfl, h₃⟩
    | true =>
      exact wpAny_bind (wpAny_bind (wpAny_mono h₃ (fun x s₄ h₄ => wpAny_bind (wpAny_mono h₄ (fun _ s₅ h₅ => wpAny_pure (wpAny_pure ⟨rfl, h₅⟩)) fun _ _ h' => h'.elim)) fun _ _ h' => h'.elim))
section
variable {X : Cx} {scope : Scope} {own N : List Str} {fr : List Nat} {pins : List (Addr × Obj)} {σ : St} {H2 H3 : Hp} {s2 s3 : Shared}
theorem CompScope.clo (S : CompScope X scope own fr N) (ok : X.Ok) : ∀ y ∈ scope.names, y.2 = .free → ∃ c, X.env.cells.lookup y.1 = some c := fun y hy e => ok.has y.1 (S.free y hy e)
theorem CompScope.sub (S : CompScope X scope own fr N) (ok : X.Ok) {x : Str} {c : Addr} (h : (L2.clo X.env.cells scope.names []).lookup x = some c) : X.env.cells.lookup x = some c := by
  rcases clo_of (S.clo ok) h with q | q
  · exact q
  · simp at q
theorem CompScope.look (S : CompScope X scope own fr N) (ok : X.Ok) {x : Str} (h : scope.names.lookup x = some .free) {cl : List (Str × Addr)} {C : Addr} :
    (compEnvC scope cl C X.env).kindOf x = some .cell ∨ (compEnvC scope cl C X.env).kindOf x = some .free := by
  show ((relabel scope X.env).names.lookup x) = _ ∨ ((relabel scope X.env).names.lookup x) = _
  unfold relabel
  show List.lookup x (List.map _ _) = _ ∨ List.lookup x (List.map _ _) = _
  rw [relabel_lookup (scope := scope), h]
  simp only [Option.map_some]
  split
  · exact .inl rfl
  · exact .inr rfl
theorem comp_ok (S : CompScope X scope own fr N) (I : Inv X pins σ H3 s3) {fp : List Addr} (hf : ∀ b ∈ fp, FpOk X pins H3 b) (hlt : ∀ b ∈ fp, b < s3.heap.objs.size) :
    (cxComp X scope (allC s3.heap.objs.size X.env.cells scope.names) N s3.heap.objs.size s3 H3 fp).Ok where
  mod := I.ok.mod
  kind := S.kind
  glob := I.ok.glob
  blt := I.ok.blt
  above := Nat.le_refl _
  inj := fun x y c h1 h2 => by
    have old : ∀ {z : Str}, (L2.clo X.env.cells scope.names []).lookup z = some c → c < s3.heap.objs.size := fun {z} h => by
      obtain ⟨v, q⟩ := I.cell z c (S.sub I.ok h)
      exact q.lt
    have ap := (cellsFrom_ok scope.names (s3.heap.push { cls := .type "dict", data := .dict #[] }) (s3.heap.objs.size + 1) [] ⟨fun _ _ hm => (nomatch hm), List.Pairwise.nil⟩ (by rw [Heap.size_push]; exact Nat.le_refl _)).apart
    rw [Heap.size_push] at ap
    rcases allC_cases h1 with ⟨m1, _, l1⟩ | q1
    · rcases allC_cases h2 with ⟨m2, _, _⟩ | q2
      · exact name_of_addr ap m1 m2
      · exact absurd (Nat.lt_trans l1 (old q2)) (Nat.lt_irrefl _)
    · rcases allC_cases h2 with ⟨m2, _, l2⟩ | q2
      · exact absurd (Nat.lt_trans l2 (old q1)) (Nat.lt_irrefl _)
      · exact I.ok.inj x y c (S.sub I.ok q1) (S.sub I.ok q2)
  has := fun x hx => by
    have hx : (relabel scope X.env).names.lookup x = some .cell ∨ (relabel scope X.env).names.lookup x = some .free := hx
    unfold relabel at hx
    have hx : List.lookup x (scope.names.map _) = some NameKind.cell ∨ List.lookup x (scope.names.map _) = some NameKind.free := hx
    rw [relabel_lookup (scope := scope)] at hx
    cases e : scope.names.lookup x with
    | none => rw [e] at hx; simp at hx
    | some k =>
      have hm := PySem.mem_of_lookup e
      rw [e] at hx
      simp only [Option.map_some] at hx
      have hk : k = .free ∨ k = .cell := by
        by_cases hk : k = .free
        · exact .inl hk
        · have hb : (k == NameKind.free) = false := by simpa using hk
          simp only [hb, Bool.false_and, Bool.false_eq_true, if_false] at hx
          rcases hx with z | z
          · exact .inr (Option.some.inj z)
          · exact .inl (Option.some.inj z)
      rcases hk with hk | hk
      · subst hk
        obtain ⟨c, q⟩ := clo_has (cells := X.env.cells) (acc := []) hm
        exact ⟨c, (allC_free S.nodup e).trans q⟩
      · subst hk
        exact Option.isSome_iff_exists.mp (PySem.W.cellsFrom_some scope.names _ _ (.inl e))
  cab := fun x c h q => by
    have e : scope.names.lookup x = some .cell := beq_iff_eq.mp h
    show s3.heap.objs.size ≤ c
    have q' : (allC s3.heap.objs.size X.env.cells scope.names).lookup x = some c := q
    unfold allC at q'
    rw [cells_app, look_app] at q'
    obtain ⟨d, z⟩ := Option.isSome_iff_exists.mp (PySem.W.cellsFrom_some scope.names (s3.heap.objs.size + 1) [] (.inl e))
    rw [z] at q'
    cases q'
    have := (cells_mem (PySem.mem_of_lookup z)).2
    omega
  hd := I.ok.hd
  frames := I.ok.frames
  stk := .inl rfl
  exf := fun b hb => ⟨Nat.ne_of_lt (hlt b hb), fun x c e => by
    rcases allC_cases e with ⟨_, _, l⟩ | q
    · exact Nat.ne_of_gt (Nat.lt_trans (hlt b hb) l)
    · exact (hf b hb).2.2.2.2.1 x c (S.sub I.ok q)⟩
  bs := I.bs
  bsz := Nat.le_trans I.ok.bsz I.sz
  noex := fun b o e hb => by
    rcases (hf b hb).2.2.2.1 with z | z
    · exact I.ok.noex b o e z
    · exact absurd (Nat.lt_of_lt_of_le (Nat.lt_of_lt_of_le (Heap.lt_size e) I.ok.bsz) z) (Nat.lt_irrefl _)
  exfs := fun b hb hm => by
    rcases List.mem_cons.mp (I.stkSub b hm) with z | z
    · exact (hf b hb).2.1 z
    · exact (hf b hb).2.2.1 z
  funs := I.stack
  frf := I.stkFree
theorem comp_inv (S : CompScope X scope own fr N) (I : Inv X pins σ H3 s3) {fp : List Addr} (hf : ∀ b ∈ fp, FpOk X pins H3 b) (hlt : ∀ b ∈ fp, b < s3.heap.objs.size) {h1 : Heap} {t : Nat} {m : Str → Option Value}
    (hn : h1.Ns s3.heap.objs.size m) (hk : ∀ b o, s3.heap.get? b = some o → h1.get? b = some o) (hco : CellsOk h1 (s3.heap.objs.size + 1) (cellsFrom (s3.heap.objs.size + 1) scope.names [])) :
    Inv (cxComp X scope (allC s3.heap.objs.size X.env.cells scope.names) N s3.heap.objs.size s3 H3 fp) [] (List.replicate own.length none ++ frv σ fr) H3 { s3 with heap := h1, toks := t } where
  ok := comp_ok S I hf hlt
  os := rfl
  bare := I.bare
  base := Un.kept hk
  loc := by
    refine ⟨m, hn, fun j x v e1 e2 e3 => ?_⟩
    have e1 : N[j]? = some x := e1
    by_cases hj : j < own.length
    · rw [List.getElem?_append_left (by simpa using hj), List.getElem?_replicate] at e2
      split at e2 <;> cases e2
    · rw [List.getElem?_append_right (by simpa using hj), List.length_replicate] at e2
      unfold frv at e2
      rw [List.getElem?_map] at e2
      cases ef : fr[j - own.length]? with
      | none => rw [ef] at e2; cases e2
      | some i =>
        rw [ef] at e2
        obtain ⟨x', n1, n2, n3⟩ := S.isfr _ _ ef
        rw [show own.length + (j - own.length) = j by omega, e1] at n1
        cases n1
        have e4 : (σ[i]?).join = some v := by simpa using e2
        have e5 : σ[i]? = some (some v) := by
          cases q : σ[i]? with
          | none => rw [q] at e4; cases e4
          | some z => rw [q] at e4; have e4 : z = some v := e4; rw [e4]
        have hfree := S.free _ (PySem.mem_of_lookup n3) rfl
        obtain ⟨mX, hnX, hl⟩ := I.loc
        have hv : Vis X.env.scope x := by
          rcases hfree with z | z
          · exact .inr (.inl z)
          · exact .inr (.inr z)
        obtain ⟨u, r, l⟩ := hl i x v n2 e5 hv
        refine ⟨u, r, .inr ⟨S.look I.ok n3, ?_⟩⟩
        rcases l with ⟨z, _⟩ | ⟨_, c, ec, hc⟩
        · rcases hfree with y | y
          · rw [z] at y; cases y
          · rw [z] at y; cases y
        · obtain ⟨c', e'⟩ := clo_has (cells := X.env.cells) (acc := []) (PySem.mem_of_lookup n3)
          have := S.sub I.ok e'
          rw [ec] at this
          cases this
          exact ⟨c, (allC_free S.nodup n3).trans e', hc.keeps hk⟩
  cell := fun x c e => by
    rcases allC_cases e with ⟨mm, _, _⟩ | q
    · exact ⟨none, (hco.empty x c mm).1⟩
    · obtain ⟨v, z⟩ := I.cell x c (S.sub I.ok q)
      exact ⟨v, z.keeps hk⟩
  free := I.hok.fresh (Nat.le_refl _)
  freeC := fun x c e => by
    rcases allC_cases e with ⟨_, _, l⟩ | q
    · exact I.hok.fresh (Nat.le_of_lt l)
    · exact I.freeC x c (S.sub I.ok q)
  pin := fun p hp => by
    have hp : p ∈ ([] : List (Addr × Obj)) := hp
    simp at hp
  hok := I.hok.kept hk
  len := by
    show _ = N.length
    rw [S.len, List.length_append, List.length_replicate]
    unfold frv
    rw [List.length_map]
end
def CompB (own : Nat) (fr : List Nat) (g : TG) (tc : TT) (te : TE) (σ : St) (Q : VK) (J : It) (D : Addr) (H0 : Hp) : Prop := ∃ W : Nat → Nat → List V → Hp → Prop, (∃ m, W 0 m [] H0) ∧
  ∀ i m ys H, W i m ys H → (J.stop i H ∧ Q (.ref D) H) ∨ (J.go i H ∧ ∀ x H', J.yld i H x H' → ∀ σo : St, σo.length = own → g x (σo ++ frv σ fr) H' fun σ2 H2 => (∃ σo' : St, σo'.length = own ∧ σ2 = σo' ++ frv σ fr) ∧
    tc σ2 H2 fun b H3 => if b = true then te σ2 H3 fun y H4 => ys.length < sizeLine ∧ H4 D = some (.lst ys) ∧ ∃ m', m' < m ∧ W (i + 1) m' (ys ++ [y]) (upd H4 D (.lst (ys ++ [y]))) else ∃ m', m' < m ∧ W (i + 1) m' ys H3)
def tComp (own : Nat) (fr : List Nat) (wi : TI) (g : TG) (tc : TT) (te : TE) : TE := fun σ H Q => wi σ H fun J H1 => ∀ D, H1 D = none → CompB own fr g tc te σ Q J D (upd H1 D (.lst []))
structure CompParts (X : Cx) (scope : Scope) (N : List Str) (tg elt : Expr) (ifs : List Expr) (g : TG) (tc : TT) (te : TE) : Prop where
  tg : ∀ (cl : List (Str × Addr)) (C : Addr) (s₃ : Shared) (H₃ : Hp) (fp : List Addr), PG (cxComp X scope cl N C s₃ H₃ fp) tg g
  ifs : ∀ (cl : List (Str × Addr)) (C : Addr) (s₃ : Shared) (H₃ : Hp) (fp : List Addr), PTs (cxComp X scope cl N C s₃ H₃ fp) ifs tc
  elt : ∀ (cl : List (Str × Addr)) (C : Addr) (s₃ : Shared) (H₃ : Hp) (fp : List Addr), PE (cxComp X scope cl N C s₃ H₃ fp) elt te
section
variable {X : Cx} {scope : Scope} {own N : List Str} {fr : List Nat} {tg elt iter : Expr} {ifs : List Expr} {g : TG} {tc : TT} {te : TE} {wi : TI} {pos : Pos}
theorem comp_run (hc : X.calm = true) (S : CompScope X scope own fr N) (CP : CompParts X scope N tg elt ifs g tc te) {pins : List (Addr × Obj)} {σ : St} {H2 : Hp} {s2 : Shared} (I2 : Inv X pins σ H2 s2) {it : Addr} {fp : List Addr} {tn : Nat → Heap → Prop} {J : It}
    (T : Turn X.prog X.w X.K tg J fp it tn) (st2 : tn 0 s2.heap) (f2 : ∀ b ∈ fp, FpOk X pins H2 b) {Q : VK} {E : Value → Shared → Prop} {RR : Value → Addr → Result → Shared → Prop}
    (hw : ∀ D, H2 D = none → CompB own.length fr g tc te σ Q J D (upd H2 D (.lst [])))
    (hR : ∀ D C s' H' m, Inv X pins σ H' s' → FpOk X pins H' C → s'.heap.Ns C m → Q (.ref D) H' → RR (.ref D) C (.ok .next) s') :
    wpAny (model X.prog X.w) X.A (newList []) (fun acc s₃ => wpAny (model X.prog X.w) X.A (newFunctionEnv scope X.env.globals (clo X.env.cells scope.names []) [] X.env.qual none .none (some X.env)) (fun cenv s₄ =>
      codeAny (model X.prog X.w) X.A (.compStart (.ListComp elt [⟨tg, iter, ifs, 0⟩] scope pos) 0 (.ref it) acc { cenv with scope := relabel scope X.env }) (RR acc cenv.locals) s₄) E s₃) E s2 := by
  have hD : H2 s2.heap.objs.size = none := I2.hok.fresh (Nat.le_refl _)
  have I3 : Inv X pins σ (upd H2 s2.heap.objs.size (.lst [])) { s2 with heap := s2.heap.push { cls := .type "list", data := .seq ([] : List Value).toArray } } :=
    I2.lnew (t' := s2.toks) (ys := []) (its := []) .nil (Nat.zero_le _)
  have hltf : ∀ b ∈ fp, b < s2.heap.objs.size := fun b hb => by
    obtain ⟨o, e, _⟩ := T.obj _ _ st2 b hb
    exact Heap.lt_size e
  have f3 : ∀ b ∈ fp, FpOk X pins (upd H2 s2.heap.objs.size (.lst [])) b := fun b hb => ⟨by rw [upd_ne (Nat.ne_of_lt (hltf b hb))]; exact (f2 b hb).1, (f2 b hb).2⟩
  obtain ⟨W, ⟨m0, w0⟩, turn⟩ := hw _ hD
  refine wpAny_newObj_type (newEnv_comp fun h₁ hns₁ old₁ hco₁ => ?_)
  suffices main : ∀ s3 : Shared, s3 = { s2 with heap := s2.heap.push { cls := .type "list", data := .seq ([] : List Value).toArray } } → Inv X pins σ (upd H2 s2.heap.objs.size (.lst [])) s3 → ∀ m : Str → Option Value, h₁.Ns s3.heap.objs.size m →
      (∀ b o, s3.heap.get? b = some o → h₁.get? b = some o) → CellsOk h₁ (s3.heap.objs.size + 1) (cellsFrom (s3.heap.objs.size + 1) scope.names []) → codeAny (model X.prog X.w) X.A (.compStart (.ListComp elt [⟨tg, iter, ifs, 0⟩] scope pos) 0 (.ref it) (.ref s2.heap.objs.size) (compEnvC scope (allC s3.heap.objs.size X.env.cells scope.names) s3.heap.objs.size X.env))
        (RR (.ref s2.heap.objs.size) s3.heap.objs.size) { s3 with heap := h₁, toks := s3.toks } from
    main _ rfl I3 _ hns₁ old₁ hco₁
  clear hns₁ old₁ hco₁
  intro s3 hH3 I3 m3 hns₁ old hco
  have e3 : s3.heap = s2.heap.push { cls := .type "list", data := .seq ([] : List Value).toArray } := by rw [hH3]
  have hs3 : s2.heap.objs.size < s3.heap.objs.size := by rw [e3, Heap.size_push]; exact Nat.lt_succ_self _
  have hlt3 : ∀ b ∈ fp, b < s3.heap.objs.size := fun b hb => Nat.lt_trans (hltf b hb) hs3
  have I4 := comp_inv S I3 f3 hlt3 (t := s3.toks) hns₁ old hco
  have ok' := comp_ok S I3 f3 hlt3
  have st4 : tn 0 h₁ := T.keep 0 s2.heap h₁ st2 fun b hb o e => old b o (by rw [e3]; exact Heap.get?_push_of_some _ e)
  have stat : ∀ {H' : Hp}, (∀ b ∈ fp, H' b = none) → ∀ b ∈ fp, FpOk (cxComp X scope (allC s3.heap.objs.size X.env.cells scope.names) N s3.heap.objs.size s3 (upd H2 s2.heap.objs.size (.lst [])) fp) [] H' b := fun {H'} hn b hb =>
    ⟨hn b hb, Nat.ne_of_lt (hlt3 b hb), ok'.exfs b hb, .inl hb, (ok'.exf b hb).2, fun p hp => by
      have hp : p ∈ ([] : List (Addr × Obj)) := hp
      simp at hp⟩
  have loop : ∀ s₄ : Shared, s₄ = { s3 with heap := h₁, toks := s3.toks } →
      codeAny (model X.prog X.w) X.A (.compLoop (.ListComp elt [⟨tg, iter, ifs, 0⟩] scope pos) 0 (.ref it) (.ref s2.heap.objs.size) (compEnvC scope (allC s3.heap.objs.size X.env.cells scope.names) s3.heap.objs.size X.env))
        (RR (.ref s2.heap.objs.size) s3.heap.objs.size) s₄ := by
    rintro s₄ rfl
    refine compLoop_any (fun n s' => ∃ i ys σo H', σo.length = own.length ∧ Inv (cxComp X scope (allC s3.heap.objs.size X.env.cells scope.names) N s3.heap.objs.size s3 (upd H2 s2.heap.objs.size (.lst [])) fp) [] (σo ++ frv σ fr) H' s' ∧
      tn i s'.heap ∧ (∀ b ∈ fp, H' b = none) ∧ W i n ys H') ?_ m0 ⟨0, [], List.replicate own.length none, _, List.length_replicate, I4, st4, fun b hb => (f3 b hb).1, w0⟩
    rintro n s5 ⟨i, ys, σo, H5, hσ, I5, st5, fr5, w5⟩
    rcases turn i n ys H5 w5 with ⟨stop, qn⟩ | ⟨go, step⟩
    · refine thn (T.done (cxComp X scope (allC s3.heap.objs.size X.env.cells scope.names) N s3.heap.objs.size s3 (upd H2 s2.heap.objs.size (.lst [])) fp) rfl rfl rfl hc i [] s5 (σo ++ frv σ fr) H5 _ I5 (stat fr5) st5 stop) fun r s6 ⟨hr, I6⟩ => ?_
      subst hr
      obtain ⟨m, hn6, _⟩ := I6.loc
      refine hR _ _ s6 H5 m (I3.call' (ch := fp) I6.os I6.base I6.hok I6.bare fun b hb => ⟨(f3 b hb).2.2.2.1, (f3 b hb).2.1, (f3 b hb).2.2.2.2.1, (f3 b hb).2.2.2.2.2⟩) (I3.fpOk (Nat.le_refl _) I6.free) hn6 qn
    · refine thn (T.item (cxComp X scope (allC s3.heap.objs.size X.env.cells scope.names) N s3.heap.objs.size s3 (upd H2 s2.heap.objs.size (.lst [])) fp) rfl rfl rfl hc i [] s5 (σo ++ frv σ fr) H5 _ I5 (stat fr5) st5 go) fun r s6 ⟨u, hr, h6⟩ => ?_
      subst hr
      refine thn h6 fun _ s7 ⟨x, H7, I7, r7, y7, st7, fr7⟩ => ?_
      have I7' := I7.pinned (stat fr7) (T.obj _ _ st7)
      have again : ∀ {σ8 : St} {H8 : Hp} {s8 : Shared} {zs : List V}, Inv (cxComp X scope (allC s3.heap.objs.size X.env.cells scope.names) N s3.heap.objs.size s3 (upd H2 s2.heap.objs.size (.lst [])) fp) ([] ++ pinsAt fp s7.heap) (σ8 ++ frv σ fr) H8 s8 → σ8.length = own.length →
          (∃ m', m' < n ∧ W (i + 1) m' zs H8) → ∃ m, m < n ∧ ∃ i ys σo H', σo.length = own.length ∧ Inv (cxComp X scope (allC s3.heap.objs.size X.env.cells scope.names) N s3.heap.objs.size s3 (upd H2 s2.heap.objs.size (.lst [])) fp) [] (σo ++ frv σ fr) H' s8 ∧
            tn i s8.heap ∧ (∀ b ∈ fp, H' b = none) ∧ W i m ys H' := fun {σ8 H8 s8 zs} I8 h8 ⟨m', hm, w8⟩ => by
        refine ⟨m', hm, i + 1, zs, σ8, H8, h8, I8.unpinned, T.keep _ _ _ st7 fun b hb o e => (I8.pin (b, o) (List.mem_append_right _ (List.mem_append_right _ (mem_pinsAt hb e)))).1, fun b hb => ?_, w8⟩
        obtain ⟨o, e, d⟩ := T.obj _ _ st7 b hb
        exact (I8.pin (b, o) (List.mem_append_right _ (List.mem_append_right _ (mem_pinsAt hb e)))).2.1
      refine thn (CP.tg _ _ _ _ _ _ s7 _ H7 x u _ I7' r7 (step x H7 y7 σo hσ)) fun _ s8 ⟨σ8, H8, I8, ⟨σo', hσ', eσ⟩, q8⟩ => ?_
      subst eσ
      refine thn (CP.ifs _ _ _ _ _ _ s8 _ H8 _ I8 q8) fun b s9 ⟨H9, I9, q9⟩ => ?_
      cases b with
      | false =>
        rw [if_neg Bool.false_ne_true] at q9 ⊢
        exact again I9 hσ' q9
      | true =>
        rw [if_pos rfl] at q9 ⊢
        refine thn (CP.elt _ _ _ _ _ _ s9 _ H9 _ I9 q9) fun z s10 ⟨y, H10, I10, r10, hz, hD10, q10⟩ => ?_
        exact thn (mt_append _ s10 _ H10 (.ref s2.heap.objs.size) [y] (.ref s2.heap.objs.size) [z] (fun _ H => ∃ m', m' < n ∧ W (i + 1) m' (ys ++ [y]) H) I10 rfl (.cons r10 .nil) ⟨_, ys, y, rfl, rfl, hD10, hz, q10⟩)
          fun _ s11 ⟨_, H11, I11, _, q11⟩ => again I11 hσ' q11
  exact codeAny_compStart_list (loop _ rfl) (T.self _ 0 _ _ _ st4 (loop _ rfl))
theorem pe_comp (hc : X.calm = true) (S : CompScope X scope own fr N) (CP : CompParts X scope N tg elt ifs g tc te) (hi : PI X tg iter wi) (hs : ∀ x, foldedSetIterable iter X.env x = pure x := by intro _; rfl) :
    PE X (.ListComp elt [⟨tg, iter, ifs, 0⟩] scope pos) (tComp own.length fr wi g tc te) := by
  intro pins s σ H Q I h
  rw [eval_ListComp]
  refine wpAny_comprehension_free (use := none) (g := ⟨tg, iter, ifs, 0⟩) (gs := []) rfl hs (closure_go (S.clo I.ok)) S.kind S.names (thn (hi pins s σ H _ I h) fun v s1 h1 => thn h1 fun itv s2 h2 => ?_)
  obtain ⟨it, fp, tn, J, H2, e, I2, T, st2, f2, hw⟩ := h2
  subst e
  exact comp_run (RR := fun acc C => compPost (model X.prog X.w) X.A X.xe none (EP X pins σ Q) acc C) hc S CP I2 T st2 f2 hw fun D C s' H' m I' fC hn q =>
    ⟨m, hn, fun h' hb => ⟨.ref D, H', I'.turned (t' := s'.toks) (fun b o hne e => hb.extBut b o hne e) fC.1 fC.2.1 fC.2.2.2.1 fC.2.2.2.2.1 fC.2.2.2.2.2, rfl, q⟩⟩
theorem ps_setc {i : Nat} {x : Str} {posc pos' : Pos} (hc : X.calm = true) (hN : X.N.Nodup) (hi' : X.N[i]? = some x) (hx : Loc X.env.scope x) (S : CompScope X scope own fr N) (CP : CompParts X scope N tg elt ifs g tc te) (hi : PI X tg iter wi)
    (hsw : swapsWith (.ListComp elt [⟨tg, iter, ifs, 0⟩] scope posc) (some (.Name x pos')) pos.line X.env = pure true := by rfl)
    (hf : X.fn x = true ∨ X.env.scope.names.lookup x = some .local := by first | exact .inl rfl | exact .inr rfl | assumption) (hs : ∀ x, foldedSetIterable iter X.env x = pure x := by intro _; rfl) :
    PS X (.Assign [.Name x pos'] (.ListComp elt [⟨tg, iter, ifs, 0⟩] scope posc) pos) (tAsg (tComp own.length fr wi g tc te) (gName i)) := by
  intro pins s σ H D I h
  rw [exec_Assign_Name_used _ _ _ _ hsw]
  refine wpAny_bind (wpAny_standAt (wpAny_bind ?_))
  show wpAny _ X.A (do let _ ← comprehension (.ListComp elt [⟨tg, iter, ifs, 0⟩] scope posc) scope X.env _ (newList []) false (eval iter X.env) (some (assign (.Name x pos') X.env))) _ _ s
  refine wpAny_bind (wpAny_mono (wpAny_comprehension_free (use := some (assign (.Name x pos') X.env)) (g := ⟨tg, iter, ifs, 0⟩) (gs := []) (Q := fun _ s' => SP X pins D .next s') rfl hs (closure_go (S.clo I.ok)) S.kind S.names
    (thn (hi pins s σ H _ I h) fun v s1 h1 => thn h1 fun itv s2 h2 => ?_)) (fun _ _ q => wpAny_pure (wpAny_pure q)) fun _ _ e => e)
  obtain ⟨it, fp, tn, J, H2, e, I2, T, st2, f2, hw⟩ := h2
  subst e
  refine comp_run (Q := fun x H1 => gName i x σ H1 D.nx) (RR := fun acc C => compPost (model X.prog X.w) X.A X.xe (some (assign (.Name x pos') X.env)) (fun _ s' => SP X pins D .next s') acc C) hc S CP I2 T st2 f2 hw fun Dd C s' H' m I' fC hn q => ?_
  refine wpAny_assign_Name (store_ok2 I' hN hi' hx (show RelV (.ref Dd) (.ref Dd) from rfl) (fun s'' I'' ⟨a, hsb, ha⟩ => ?_) hf)
  have hCa : C ≠ a := by
    rcases ha with z | z
    · rw [z]; exact fC.2.1
    · exact fun e => fC.2.2.2.2.1 x a z e.symm
  refine ⟨m, hn.sameBut hsb hCa, fun h' hb => ?_⟩
  exact ⟨_, H', I''.turned (t' := s''.toks) (fun b o hne e => hb.extBut b o hne e) fC.1 fC.2.1 fC.2.2.2.1 fC.2.2.2.2.1 fC.2.2.2.2.2, q⟩
end
end L2
end
section
set_option autoImplicit false
namespace L2
open PySem PySem.Spec PyProof.Rows
inductive T where
  | non | int (i : Int) | str (x : Str) | tup (ts : List T)
mutual
def Dp (H : Hp) : T → V → Prop
  | .non, v => v = V.non
  | .int i, v => v = V.int i
  | .str x, v => v = V.str x
  | .tup ts, v => ∃ a xs, v = V.ref a ∧ H a = some (.tup xs) ∧ DpL H ts xs
def DpL (H : Hp) : List T → List V → Prop
  | [], xs => xs = []
  | t :: ts, xs => ∃ x r, xs = x :: r ∧ Dp H t x ∧ DpL H ts r
end
def Tups (H H' : Hp) : Prop := ∀ a xs, H a = some (.tup xs) → H' a = some (.tup xs)
theorem Tups.trans {H H1 H2 : Hp} (a : Tups H H1) (b : Tups H1 H2) : Tups H H2 := fun c o h => b c o (a c o h)
theorem Same.tups {H H' : Hp} (h : Same H H') : Tups H H' := fun a xs e => h a _ e
mutual
theorem Dp.mono {H H' : Hp} (h : Tups H H') : ∀ {t : T} {v : V}, Dp H t v → Dp H' t v
  | .non, _, e => by rw [Dp] at e ⊢; exact e
  | .int _, _, e => by rw [Dp] at e ⊢; exact e
  | .str _, _, e => by rw [Dp] at e ⊢; exact e
  | .tup ts, v, e => by
    rw [Dp] at e ⊢
    obtain ⟨a, xs, e, ha, hl⟩ := e
    exact ⟨a, xs, e, h a xs ha, DpL.mono h hl⟩
theorem DpL.mono {H H' : Hp} (h : Tups H H') : ∀ {ts : List T} {xs : List V}, DpL H ts xs → DpL H' ts xs
  | [], _, e => by rw [DpL] at e ⊢; exact e
  | t :: ts, xs, e => by
    rw [DpL] at e ⊢
    obtain ⟨x, r, e, h1, h2⟩ := e
    exact ⟨x, r, e, Dp.mono h h1, DpL.mono h h2⟩
end
theorem DpL.nil {H : Hp} : DpL H [] [] := by rw [DpL]
theorem DpL.cons {H : Hp} {t : T} {ts : List T} {x : V} {xs : List V} (h : Dp H t x) (r : DpL H ts xs) : DpL H (t :: ts) (x :: xs) := by
  rw [DpL]
  exact ⟨x, xs, rfl, h, r⟩
theorem DpL.cases {H : Hp} {t : T} {ts : List T} {xs : List V} (h : DpL H (t :: ts) xs) : ∃ x r, xs = x :: r ∧ Dp H t x ∧ DpL H ts r := by
  rw [DpL] at h
  exact h
theorem DpL.of_nil {H : Hp} {xs : List V} (h : DpL H [] xs) : xs = [] := by
  rw [DpL] at h
  exact h
theorem Dp.int {H : Hp} (i : Int) : Dp H (.int i) (.int i) := by rw [Dp]
theorem Dp.str {H : Hp} (x : Str) : Dp H (.str x) (.str x) := by rw [Dp]
theorem Dp.of_str {H : Hp} {x : Str} {v : V} (h : Dp H (.str x) v) : v = .str x := by
  rw [Dp] at h
  exact h
theorem Dp.of_tup {H : Hp} {ts : List T} {v : V} (h : Dp H (.tup ts) v) : ∃ a xs, v = V.ref a ∧ H a = some (.tup xs) ∧ DpL H ts xs := by
  rw [Dp] at h
  exact h
theorem Dp.tup {H : Hp} {ts : List T} {a : Addr} {xs : List V} (h : H a = some (.tup xs)) (r : DpL H ts xs) : Dp H (.tup ts) (.ref a) := by
  rw [Dp]
  exact ⟨a, xs, rfl, h, r⟩
theorem DpL.length {H : Hp} : ∀ {ts : List T} {xs : List V}, DpL H ts xs → xs.length = ts.length
  | [], xs, h => by rw [h.of_nil]; rfl
  | t :: ts, xs, h => by
    obtain ⟨x, r, rfl, _, h2⟩ := h.cases
    rw [List.length_cons, List.length_cons, h2.length]
theorem DpL.get {H : Hp} : ∀ {ts : List T} {xs : List V} {i : Nat} {t : T}, DpL H ts xs → ts[i]? = some t → ∃ x, xs[i]? = some x ∧ Dp H t x
  | [], _, _, _, _, e => by simp at e
  | t :: ts, xs, 0, t', h, e => by
    obtain ⟨x, r, rfl, h1, _⟩ := h.cases
    simp at e
    subst e
    exact ⟨x, rfl, h1⟩
  | t :: ts, xs, i + 1, t', h, e => by
    obtain ⟨x, r, rfl, _, h2⟩ := h.cases
    obtain ⟨y, e1, e2⟩ := h2.get (i := i) (t := t') (by simpa using e)
    exact ⟨y, by simpa using e1, e2⟩
theorem DpL.append {H : Hp} : ∀ {ts us : List T} {xs ys : List V}, DpL H ts xs → DpL H us ys → DpL H (ts ++ us) (xs ++ ys)
  | [], _, xs, _, h, g => by rw [h.of_nil]; exact g
  | t :: ts, us, xs, ys, h, g => by
    obtain ⟨x, r, rfl, h1, h2⟩ := h.cases
    exact .cons h1 (h2.append g)
theorem DpL.strs {H : Hp} : ∀ (ns : List Str), DpL H (ns.map T.str) (ns.map V.str)
  | [] => .nil
  | n :: ns => .cons (Dp.str n) (DpL.strs ns)
theorem DpL.of_strs {H : Hp} : ∀ {ns : List Str} {xs : List V}, DpL H (ns.map T.str) xs → xs = ns.map V.str
  | [], _, h => h.of_nil
  | n :: ns, xs, h => by
    obtain ⟨x, r, rfl, h1, h2⟩ := DpL.cases (t := T.str n) (ts := ns.map T.str) h
    rw [h1.of_str, DpL.of_strs h2]
    rfl
mutual
theorem Dp.fn {H : Hp} : ∀ {t t' : T} {v : V}, Dp H t v → Dp H t' v → t = t'
  | .non, t', v, h, g => by
    rw [Dp] at h
    subst h
    cases t' <;> rw [Dp] at g
    all_goals first | rfl | (cases g; done) | (obtain ⟨_, _, e, _⟩ := g; cases e)
  | .int i, t', v, h, g => by
    rw [Dp] at h
    subst h
    cases t' <;> rw [Dp] at g
    all_goals first | (cases g; rfl) | (cases g; done) | (obtain ⟨_, _, e, _⟩ := g; cases e)
  | .str i, t', v, h, g => by
    rw [Dp] at h
    subst h
    cases t' <;> rw [Dp] at g
    all_goals first | (cases g; rfl) | (cases g; done) | (obtain ⟨_, _, e, _⟩ := g; cases e)
  | .tup ts, t', v, h, g => by
    obtain ⟨a, xs, rfl, ha, hl⟩ := h.of_tup
    cases t' with
    | tup us =>
      obtain ⟨b, ys, e, hb, gl⟩ := g.of_tup
      cases e
      rw [ha] at hb
      cases hb
      rw [DpL.fn hl gl]
    | _ => rw [Dp] at g; cases g
theorem DpL.fn {H : Hp} : ∀ {ts us : List T} {xs : List V}, DpL H ts xs → DpL H us xs → ts = us
  | [], us, xs, h, g => by
    have e := h.of_nil
    subst e
    cases us with
    | nil => rfl
    | cons u us =>
      obtain ⟨_, _, e, _⟩ := g.cases
      cases e
  | t :: ts, us, xs, h, g => by
    obtain ⟨x, r, rfl, h1, h2⟩ := h.cases
    cases us with
    | nil =>
      have e := g.of_nil
      cases e
    | cons u us =>
      obtain ⟨_, _, e, g1, g2⟩ := g.cases
      cases e
      rw [Dp.fn h1 g1, DpL.fn h2 g2]
end
def Lv : Nat → T → Prop
  | _, .non => True
  | _, .int _ => True
  | _, .str _ => True
  | 0, .tup _ => False
  | n + 1, .tup ts => ∀ t ∈ ts, Lv n t
noncomputable def dcd (p : Prop) : Bool := @decide p (Classical.propDecidable p)
theorem dcd_t {p : Prop} (h : p) : dcd p = true := @decide_eq_true p (Classical.propDecidable p) h
theorem dcd_f {p : Prop} (h : ¬ p) : dcd p = false := @decide_eq_false p (Classical.propDecidable p) h
theorem dcd_iff {p : Prop} : dcd p = true ↔ p := ⟨fun h => @of_decide_eq_true p (Classical.propDecidable p) h, dcd_t⟩
theorem dcd_eq {p q : Prop} (h : p ↔ q) : dcd p = dcd q := by rw [propext h]
theorem dcd_of {p : Prop} {b : Bool} (h : b = true ↔ p) : b = dcd p := by
  by_cases hp : p
  · rw [dcd_t hp]
    exact h.mpr hp
  · rw [dcd_f hp]
    cases b with
    | false => rfl
    | true => exact absurd (h.mp rfl) hp
section
variable {X : Cx} {pins : List (Addr × Obj)} {σ : St} {H : Hp} {s : Shared}
theorem tup_at (I : Inv X pins σ H s) {a : Addr} {xs : List V} (h : H a = some (.tup xs)) : ∃ its : List Value, Vals xs its ∧ s.heap.IsTuple a its.toArray := by
  obtain ⟨its, r, p, _⟩ := I.tuple (SqT.of h)
  exact ⟨its, r, p⟩
theorem eqAt_T (I : Inv X pins σ H s) : ∀ (n : Nat) (A : Around) (t1 t2 : T) (v1 v2 : V) (u1 u2 : Value), Lv n t1 → A.units + n < cLine → Dp H t1 v1 → Dp H t2 v2 → RelV v1 u1 → RelV v2 u2 → SeqAt.EqAt A s u1 u2 (dcd (t1 = t2)) := by
  have flat : ∀ (A : Around) (t1 t2 : T) (v1 v2 : V) (u1 u2 : Value), flatV v1 = true → flatV v2 = true → Dp H t1 v1 → Dp H t2 v2 → RelV v1 u1 → RelV v2 u2 → eqV v1 v2 = dcd (t1 = t2) → SeqAt.EqAt A s u1 u2 (dcd (t1 = t2)) :=
    fun A t1 t2 v1 v2 u1 u2 f1 f2 _ _ r1 r2 e => by
      rw [← e]
      exact eqAt_V r1 r2 f1 f2
  intro n
  induction n with
  | zero =>
    intro A t1 t2 v1 v2 u1 u2 hn hu d1 d2 r1 r2
    have hu0 : A.units < cLine := by omega
    cases t1 with
    | tup ts => exact (show False from hn).elim
    | non =>
      rw [Dp] at d1
      subst d1
      cases t2 with
      | tup us =>
        obtain ⟨b, ys, rfl, hb, _⟩ := d2.of_tup
        obtain ⟨its, r, p⟩ := tup_at I hb
        cases r1
        cases r2
        rw [dcd_f (by intro h; cases h)]
        exact SeqAt.EqAt.none_tuple p hu0
      | non => rw [Dp] at d2; subst d2; exact flat A _ _ _ _ _ _ rfl rfl (by rw [Dp]) (by rw [Dp]) r1 r2 (dcd_t rfl).symm
      | int j => rw [Dp] at d2; subst d2; exact flat A _ _ _ _ _ _ rfl rfl (by rw [Dp]) (by rw [Dp]) r1 r2 (dcd_f (by intro h; cases h)).symm
      | str j => rw [Dp] at d2; subst d2; exact flat A _ _ _ _ _ _ rfl rfl (by rw [Dp]) (by rw [Dp]) r1 r2 (dcd_f (by intro h; cases h)).symm
    | int i =>
      rw [Dp] at d1
      subst d1
      cases t2 with
      | tup us =>
        obtain ⟨b, ys, rfl, hb, _⟩ := d2.of_tup
        obtain ⟨its, r, p⟩ := tup_at I hb
        obtain ⟨t, rfl⟩ := r1
        cases r2
        rw [dcd_f (by intro h; cases h)]
        exact SeqAt.EqAt.int_tuple i t p hu0
      | non => rw [Dp] at d2; subst d2; exact flat A _ _ _ _ _ _ rfl rfl (by rw [Dp]) (by rw [Dp]) r1 r2 (dcd_f (by intro h; cases h)).symm
      | int j =>
        rw [Dp] at d2
        subst d2
        exact flat A _ _ _ _ _ _ rfl rfl (by rw [Dp]) (by rw [Dp]) r1 r2 (dcd_of (by show (i == j) = true ↔ _; rw [beq_iff_eq]; exact ⟨fun h => by rw [h], fun h => by cases h; rfl⟩))
      | str j => rw [Dp] at d2; subst d2; exact flat A _ _ _ _ _ _ rfl rfl (by rw [Dp]) (by rw [Dp]) r1 r2 (dcd_f (by intro h; cases h)).symm
    | str i =>
      rw [Dp] at d1
      subst d1
      cases t2 with
      | tup us =>
        obtain ⟨b, ys, rfl, hb, _⟩ := d2.of_tup
        obtain ⟨its, r, p⟩ := tup_at I hb
        obtain ⟨t, rfl⟩ := r1
        cases r2
        rw [dcd_f (by intro h; cases h)]
        exact SeqAt.EqAt.str_tuple i t p hu0
      | non => rw [Dp] at d2; subst d2; exact flat A _ _ _ _ _ _ rfl rfl (by rw [Dp]) (by rw [Dp]) r1 r2 (dcd_f (by intro h; cases h)).symm
      | int j => rw [Dp] at d2; subst d2; exact flat A _ _ _ _ _ _ rfl rfl (by rw [Dp]) (by rw [Dp]) r1 r2 (dcd_f (by intro h; cases h)).symm
      | str j =>
        rw [Dp] at d2
        subst d2
        exact flat A _ _ _ _ _ _ rfl rfl (by rw [Dp]) (by rw [Dp]) r1 r2 (dcd_of (by show (i == j) = true ↔ _; rw [beq_iff_eq]; exact ⟨fun h => by rw [h], fun h => by cases h; rfl⟩))
  | succ n ih =>
    intro A t1 t2 v1 v2 u1 u2 hn hu d1 d2 r1 r2
    cases t1 with
    | non => exact (ih A .non t2 v1 v2 u1 u2 (by cases n <;> trivial) (by omega) d1 d2 r1 r2)
    | int i => exact (ih A (.int i) t2 v1 v2 u1 u2 (by cases n <;> trivial) (by omega) d1 d2 r1 r2)
    | str i => exact (ih A (.str i) t2 v1 v2 u1 u2 (by cases n <;> trivial) (by omega) d1 d2 r1 r2)
    | tup ts =>
      have hn : ∀ t ∈ ts, Lv n t := hn
      have hu0 : A.units < cLine := by omega
      obtain ⟨a, xs, rfl, ha, hl⟩ := d1.of_tup
      obtain ⟨its, r, p⟩ := tup_at I ha
      cases r1
      cases t2 with
      | non =>
        rw [Dp] at d2
        subst d2
        cases r2
        rw [dcd_f (by intro h; cases h)]
        exact SeqAt.EqAt.tuple_none p hu0
      | int j =>
        rw [Dp] at d2
        subst d2
        obtain ⟨t, rfl⟩ := r2
        rw [dcd_f (by intro h; cases h)]
        exact SeqAt.EqAt.tuple_int j t p hu0
      | str j =>
        rw [Dp] at d2
        subst d2
        obtain ⟨t, rfl⟩ := r2
        rw [dcd_f (by intro h; cases h)]
        exact SeqAt.EqAt.tuple_str j t p hu0
      | tup us =>
        obtain ⟨b, ys, rfl, hb, gl⟩ := d2.of_tup
        obtain ⟨its2, q, p2⟩ := tup_at I hb
        cases r2
        by_cases hab : a = b
        · subst hab
          rw [ha] at hb
          cases hb
          rw [dcd_t (by rw [DpL.fn hl gl])]
          exact SeqAt.EqAt.same _
        · have l1 : its.toArray.size = ts.length := by rw [List.size_toArray, ← r.length, hl.length]
          have l2 : its2.toArray.size = us.length := by rw [List.size_toArray, ← q.length, gl.length]
          have key := SeqAt.RcAt.tuples (A := A) (s := s) (e := fun j => dcd (ts[j]? = us[j]?)) p p2 hu0 (fun j h1 h2 => by
            have j1 : j < ts.length := by omega
            have j2 : j < us.length := by omega
            have e1 : ts[j]? = some ts[j] := List.getElem?_eq_getElem j1
            have e2 : us[j]? = some us[j] := List.getElem?_eq_getElem j2
            obtain ⟨x1, f1, g1⟩ := hl.get e1
            obtain ⟨x2, f2, g2⟩ := gl.get e2
            obtain ⟨w1, k1, m1⟩ := r.get f1
            obtain ⟨w2, k2, m2⟩ := q.get f2
            have n1 : its.toArray[j] = w1 := by
              have : its.toArray[j]? = some w1 := by simpa using k1
              rw [Array.getElem?_eq_getElem h1] at this
              exact Option.some.inj this
            have n2 : its2.toArray[j] = w2 := by
              have : its2.toArray[j]? = some w2 := by simpa using k2
              rw [Array.getElem?_eq_getElem h2] at this
              exact Option.some.inj this
            rw [n1, n2]
            have := ih A.in1 ts[j] us[j] x1 x2 w1 w2 (hn _ (List.getElem_mem j1)) (by show A.units + 1 + n < cLine; omega) g1 g2 m1 m2
            rw [show dcd (ts[j]? = us[j]?) = dcd (ts[j] = us[j]) from dcd_eq (by rw [e1, e2]; exact ⟨fun h => Option.some.inj h, fun h => by rw [h]⟩)]
            exact this)
          have fin := SeqAt.EqAt.of_refs hab key
          have ee : ((List.range (min its.toArray.size its2.toArray.size)).all (fun j => dcd (ts[j]? = us[j]?)) && its.toArray.size == its2.toArray.size) = dcd (T.tup ts = T.tup us) := by
            refine dcd_of ?_
            rw [l1, l2, Bool.and_eq_true, List.all_eq_true, beq_iff_eq]
            constructor
            · rintro ⟨h1, h2⟩
              have : ts = us := by
                apply List.ext_getElem?
                intro j
                by_cases hj : j < ts.length
                · exact dcd_iff.mp (h1 j (List.mem_range.mpr (by omega)))
                · rw [List.getElem?_eq_none (by omega), List.getElem?_eq_none (by omega)]
              rw [this]
            · intro h
              cases h
              exact ⟨fun j _ => dcd_t rfl, rfl⟩
          rw [ee] at fin
          exact fin
noncomputable def isT (H : Hp) (t : T) (u : Value) : Bool := dcd (∃ v, RelV v u ∧ Dp H t v)
theorem isT_of {t t' : T} {v : V} {u : Value} (r : RelV v u) (d : Dp H t' v) : isT H t u = dcd (t' = t) := by
  refine dcd_eq ⟨?_, ?_⟩
  · rintro ⟨v', r', d'⟩
    rw [r'.inj r] at d'
    exact (d'.fn d).symm
  · intro h
    subst h
    exact ⟨v, r, d⟩
theorem items_T : ∀ {ts : List T} {xs : List V} {us : List Value}, DpL H ts xs → Vals xs us → ∀ u ∈ us, ∃ t ∈ ts, ∃ v, RelV v u ∧ Dp H t v
  | [], xs, us, h, r => by
    have e := h.of_nil
    subst e
    cases r
    exact fun u hu => by cases hu
  | t :: ts, xs, us, h, r => by
    obtain ⟨x, xr, rfl, h1, h2⟩ := h.cases
    cases r with
    | cons r1 r2 =>
      intro u hu
      rcases List.mem_cons.mp hu with e | e
      · rw [e]
        exact ⟨t, List.mem_cons_self, x, r1, h1⟩
      · obtain ⟨t', m, z⟩ := items_T h2 r2 u e
        exact ⟨t', List.mem_cons_of_mem _ m, z⟩
theorem any_T {t : T} : ∀ {ts : List T} {xs : List V} {us : List Value}, DpL H ts xs → Vals xs us → us.any (isT H t) = dcd (t ∈ ts)
  | [], xs, us, h, r => by
    have e := h.of_nil
    subst e
    cases r
    rw [dcd_f (by simp)]
    rfl
  | t' :: ts, xs, us, h, r => by
    obtain ⟨x, xr, rfl, h1, h2⟩ := h.cases
    cases r with
    | cons r1 r2 =>
      rw [List.any_cons, isT_of r1 h1, any_T h2 r2]
      refine dcd_of ?_
      rw [Bool.or_eq_true, dcd_iff, dcd_iff, List.mem_cons]
      exact ⟨fun h => h.imp (fun z => z.symm) id, fun h => h.imp (fun z => z.symm) id⟩
end
section
variable {X : Cx}
def rInT (neg : Bool) : R2 := fun x y H Q => ∃ p xs t ts, y = .ref p ∧ (H p = some (.lst xs) ∨ H p = some (.tup xs)) ∧ Dp H t x ∧ DpL H ts xs ∧ (∀ t ∈ ts, Lv 6 t) ∧ Q (.bl (if neg then !dcd (t ∈ ts) else dcd (t ∈ ts))) H
theorem op_notInT (hu : X.A.units + 10 < cLine) : OpR X (compareOp .NotIn) (rInT true) := by
  intro pins s σ H x y v u Q I rx ry h
  obtain ⟨p, xs, t, ts, rfl, hq, dx, dl, lv, q⟩ := h
  cases ry
  have fin : ∀ its : List Value, Vals xs its → (∀ w, w ∈ its.toArray → SeqAt.EqAt X.A.in1 s w v (isT H t w)) ∧ its.toArray.any (isT H t) = dcd (t ∈ ts) := fun its r => by
    refine ⟨fun w hw => ?_, by rw [show its.toArray.any (isT H t) = its.any (isT H t) by simp, any_T dl r]⟩
    obtain ⟨t', m, v', r', d'⟩ := items_T dl r w (by simpa using hw)
    rw [isT_of r' d']
    exact eqAt_T I 6 _ t' t v' x w v (lv t' m) (by show X.A.units + 1 + 6 < cLine; omega) d' dx r' rx
  rcases hq with hq | hq
  · obtain ⟨its, r, pl, hz⟩ := I.list (SqL.of hq)
    obtain ⟨f1, f2⟩ := fin its r
    refine SeqAt.notIn_listAt (isT H t) pl.isList f1 ⟨.bl _, H, I, rfl, ?_⟩
    rw [f2]
    exact q
  · obtain ⟨its, r, pl, hz⟩ := I.tuple (SqT.of hq)
    obtain ⟨f1, f2⟩ := fin its r
    refine SeqAt.notIn_tupleAt (isT H t) pl f1 ⟨.bl _, H, I, rfl, ?_⟩
    rw [f2]
    exact q
end
end L2
end
section
set_option autoImplicit false
namespace L2
open PySem PySem.Spec PyProof.Rows
section
variable {X : Cx}
def rSlS : V → Option Int → Option Int → Hp → VK → Prop := fun x lo hi H Q => ∃ z, x = .str z ∧ z.length ≤ sizeLine ∧ Q (.str (Txt.slice z lo hi)) H
theorem sl_str : SlR X rSlS := by
  intro pins s σ H x v vl vu lo hi sl Q I rx hs pl pu h
  obtain ⟨z, rfl, hz, q⟩ := h
  obtain ⟨t, rfl⟩ := rx
  obtain ⟨o, ho, hc, hd⟩ := hs
  have fin : ∀ (t' : Tok) (k : Nat), EP X pins σ Q (.str (Txt.slice z lo hi) t') { s with toks := k } := fun t' k => ⟨.str _, H, I.tok k, ⟨_, rfl⟩, q⟩
  refine ⟨"str", _, F.slot_str_getitem.lookup, typeIs_str _ _ _, ?_⟩
  cases pl with
  | none =>
    cases pu with
    | none => exact wpAny_getItem_str_slice (l := none) (u := none) (st := none) ⟨o, ho, hc, hd⟩ rfl (post_val_or_str ⟨Nat.le_trans (Txt.slice_le z _ _) hz, fin⟩)
    | int j uj => exact wpAny_getItem_str_slice (l := none) (u := some (j, uj)) (st := none) ⟨o, ho, hc, hd⟩ rfl (post_val_or_str ⟨Nat.le_trans (Txt.slice_le z _ _) hz, fin⟩)
  | int i ui =>
    cases pu with
    | none => exact wpAny_getItem_str_slice (l := some (i, ui)) (u := none) (st := none) ⟨o, ho, hc, hd⟩ rfl (post_val_or_str ⟨Nat.le_trans (Txt.slice_le z _ _) hz, fin⟩)
    | int j uj => exact wpAny_getItem_str_slice (l := some (i, ui)) (u := some (j, uj)) (st := none) ⟨o, ho, hc, hd⟩ rfl (post_val_or_str ⟨Nat.le_trans (Txt.slice_le z _ _) hz, fin⟩)
def tSlK (K : PySem.W.Frag) (te tk : TE) : TE := fun σ H Q => te σ H fun x H1 => tk σ H1 fun y H2 => ∃ a xs i, x = .ref a ∧ y = .int i ∧ SqL K H2 a xs ∧
  ((i = 1 ∧ ∀ p, H2 p = none → Q (.ref p) (upd H2 p (.lst xs))) ∨ (i = -1 ∧ ∀ p, H2 p = none → Q (.ref p) (upd H2 p (.lst xs.reverse))))
theorem pick_one (its : List Value) : slicePick its.toArray none none (some 1) = its.toArray := by
  have e : slicePick its.toArray none none (some 1) = slicePick its.toArray none none none := rfl
  rw [e, slicePick_cut]
  simp [HT.sIx]
theorem pe_slK {e k : Expr} {te tk : TE} {pos p2 : Pos} (he : PE X e te) (hk : PE X k tk) : PE X (.Subscript e (.Slice none none (some k) p2) pos) (tSlK X.K te tk) := by
  intro pins s σ H Q I h
  refine Subscript_ (thn (he pins s σ H _ I h) fun v s1 ⟨x, H1, I1, r1, q1⟩ => ?_)
  refine wpAny_Slice ?_
  rw [evalPart_none]
  refine wpAny_pure ?_
  refine wpAny_pure ?_
  rw [evalPart_some]
  refine thn (hk pins s1 σ H1 _ I1 q1) fun vk s3 ⟨y, H3, I3, r3, q3⟩ => ?_
  obtain ⟨a, xs, i, rfl, rfl, hq, q⟩ := q3
  cases r1
  obtain ⟨t, rfl⟩ := r3
  have I4 : Inv X pins σ H3 { s3 with heap := s3.heap.push { cls := .type "slice", data := .fields #[.none, .none, .int i t] } } := I3.kept (t' := s3.toks) fun b ob q => Heap.get?_push_of_some _ q
  obtain ⟨its, r, ht, hz⟩ := I4.list hq
  have hlen : its.toArray.size = xs.length := by rw [List.size_toArray]; exact r.length.symm
  show wpAny (model X.prog X.w) X.A (subscriptTail e (.Slice none none (some k) p2) (.ref a) (.ref s3.heap.objs.size)) (EP X pins σ Q) X.xe { s3 with heap := s3.heap.push { cls := .type "slice", data := .fields #[.none, .none, .int i t] } }
  have fin : ∀ ys : List V, ys.length ≤ sizeLine → ∀ jts : List Value, Vals ys jts → (∀ p, H3 p = none → Q (.ref p) (upd H3 p (.lst ys))) →
      EP X pins σ Q (.ref (s3.heap.push { cls := .type "slice", data := .fields #[.none, .none, .int i t] }).objs.size)
        { s3 with heap := (s3.heap.push { cls := .type "slice", data := .fields #[.none, .none, .int i t] }).push { cls := .type "list", data := .seq jts.toArray } } := fun ys hy jts rj hQ =>
    ⟨.ref _, _, I4.lnew (t' := s3.toks) rj hy, rfl, hQ _ I4.fresh⟩
  rcases q with ⟨rfl, q⟩ | ⟨rfl, q⟩
  · refine tail_any (ops := [.ref a, .ref s3.heap.objs.size]) ht.isList.typeIs slot_list_getitem.lookup (wpAny_getItem_list_slice ht.isList (Heap.IsSliceOf.new ..) .none .none (.int 1 t) (by decide) ?_ (by rw [hlen]; exact hz)) (by with_unfolding_all rfl)
    rw [pick_one]
    exact fin xs hz its r q
  · refine tail_any (ops := [.ref a, .ref s3.heap.objs.size]) ht.isList.typeIs slot_list_getitem.lookup (wpAny_getItem_list_slice ht.isList (Heap.IsSliceOf.new ..) .none .none (.int (-1) t) (by decide) ?_ (by rw [hlen]; exact hz)) (by with_unfolding_all rfl)
    rw [PySem.W.krv_pick, List.toList_toArray]
    exact fin xs.reverse (by rw [List.length_reverse]; exact hz) its.reverse r.reverse q
def rRemoveS : V → List V → Hp → VK → Prop := fun x vs H Q => ∃ (l : Addr) (ns : List Str) (n : Str), x = .ref l ∧ vs = [.str n] ∧ H l = some (.lst (ns.map V.str)) ∧ n ∈ ns ∧ Q .non (upd H l (.lst ((ns.erase n).map V.str)))
theorem first_at {α : Type} [BEq α] [LawfulBEq α] {n : α} : ∀ {ns : List α}, n ∈ ns → ∃ j, ns[j]? = some n ∧ (∀ m, m < j → ns[m]? ≠ some n) ∧ ns.erase n = ns.eraseIdx j
  | [], h => by simp at h
  | a :: r, h => by
    by_cases e : a = n
    · subst e
      exact ⟨0, rfl, fun m hm => absurd hm (Nat.not_lt_zero _), by simp⟩
    · have h' : n ∈ r := by
        rcases List.mem_cons.mp h with z | z
        · exact absurd z.symm e
        · exact z
      obtain ⟨j, h1, h2, h3⟩ := first_at h'
      refine ⟨j + 1, by simpa using h1, fun m hm => ?_, ?_⟩
      · cases m with
        | zero => simpa using e
        | succ m => simpa using h2 m (by omega)
      · rw [List.erase_cons_tail (by simpa using e), h3]
        rfl
def strU (n : Str) (u : Value) : Bool := match u with
  | .str x _ => x.cps.toList == n.cps.toList
  | _ => false
theorem vals_strs : ∀ {ns : List Str} {us : List Value}, Vals (ns.map V.str) us → ∀ (j : Nat) (n : Str), ns[j]? = some n → ∃ t, us[j]? = some (.str n t)
  | ns, us, r, j, n, e => by
    obtain ⟨u, h1, t, h2⟩ := r.get (i := j) (x := V.str n) (by rw [List.getElem?_map, e]; rfl)
    exact ⟨t, by rw [h1, h2]⟩
theorem mt_removeS : MtM X "list.remove" rRemoveS := by
  intro pins s σ H x vs v us Q I rx rv h
  obtain ⟨l, ns, n, rfl, rfl, hH, hm, q⟩ := h
  cases rx
  obtain ⟨u, rfl, tu, rfl⟩ := rv.one
  obtain ⟨z, its, c, r, hl, e⟩ := I.lstM hH
  obtain ⟨j, h1, h2, h3⟩ := first_at hm
  have hjn : j < ns.length := (List.getElem?_eq_some_iff.mp h1).1
  have hlen : its.toArray.size = ns.length := by rw [List.size_toArray, ← hl, List.length_map]
  have at_ : ∀ (m : Nat) (hm : m < its.toArray.size), ∃ k t, ns[m]? = some k ∧ its.toArray[m] = .str k t := fun m hm => by
    have hm' : m < ns.length := by omega
    obtain ⟨t, ht⟩ := vals_strs r m ns[m] (List.getElem?_eq_getElem hm')
    refine ⟨ns[m], t, List.getElem?_eq_getElem hm', ?_⟩
    have z : its.toArray[m]? = some (.str ns[m] t) := by simpa using ht
    rw [Array.getElem?_eq_getElem hm] at z
    exact Option.some.inj z
  have eqs : ∀ a b : Str, (a.cps.toList == b.cps.toList) = true ↔ a = b := fun a b => by
    rw [beq_iff_eq]
    constructor
    · intro h
      cases a
      cases b
      congr
      exact Array.toList_inj.mp h
    · intro h
      rw [h]
  refine call_meets F.slot_list_remove ⟨_, e, rfl⟩ F.entry_list_remove (F.args_list_remove_2 _ _) (MeetsSeq.list_remove l its.toArray c (.str n tu) (strU n) ?_ j (by omega) ?_ ?_ (by rw [hlen, ← List.length_map (f := V.str)]; exact z)) ⟨e, ?_⟩
  · intro y hy
    obtain ⟨m, hm, rfl⟩ := Array.mem_iff_getElem.mp hy
    obtain ⟨k, t, _, ek⟩ := at_ m hm
    rw [ek]
    exact SeqRoads2.EqGives.str k n t tu
  · obtain ⟨k, t, e1, ek⟩ := at_ j (by omega)
    rw [h1] at e1
    cases e1
    rw [ek]
    exact (eqs n n).mpr rfl
  · intro m hm hlt
    obtain ⟨k, t, e1, ek⟩ := at_ m hm
    rw [ek]
    cases hb : strU n (.str k t) with
    | false => rfl
    | true =>
      have := (eqs k n).mp hb
      rw [this] at e1
      exact absurd e1 (h2 m hlt)
  · refine ⟨.non, _, I.lset (its' := its.eraseIdx j) hH e (by simp) (ys := (ns.erase n).map V.str) ?_ ?_, rfl, q⟩
    · have ee : ((ns.eraseIdx j).map V.str) = (ns.map V.str).eraseIdx j := by
        apply List.ext_getElem?
        intro i
        simp only [List.getElem?_map, List.getElem?_eraseIdx]
        split <;> rfl
      rw [h3, ee]
      exact r.eraseIdx j
    · rw [List.length_map]
      have := List.length_erase_le (a := n) (l := ns)
      rw [List.length_map] at z
      omega
end
end L2
end
section
set_option autoImplicit false
namespace L2
open PySem PySem.Spec PyProof.Rows
open AutoSeq1 (wpAny_loadPart') in
open MeetsSeq MeetsSeq2 MeetsSeq3 SeqRoads2 SeqAt in
section
variable {prog : Program} {w : World} {A : Around} {E : Value → Shared → Prop} {s : Shared}
theorem nextT_item {it t : Addr} {i : Nat} {items : Array Value} {x : Value} {Q : Value → Shared → Prop} (hit : s.heap.IsTupleIter it t i) (ht : s.heap.IsTuple t items) (hx : items[i]? = some x)
    (hQ : ∀ h', h'.IsTupleIter it t (i + 1) → Heap.SameBut it s.heap h' → Q x { s with heap := h' }) : wpAny (model prog w) A (Builtin.SmallTypes.nextOf (.ref it)) Q E s := by
  obtain ⟨ob, e1, e2, e3⟩ := id hit
  obtain ⟨ot, g1, _, nn, g2⟩ := ht
  unfold Builtin.SmallTypes.nextOf
  refine wpAny_bind (wpAny_callSpecial?_slot (name := Str.ofString "__next__") hit.typeIs F.slot_tuple_iterator_next (wpAny_call_entry F.slot_tuple_iterator_next hit.typeIs F.entry_tuple_iterator_next ?_ (F.args_tuple_iterator_next_1 _)))
  show wpAny _ _ (field (.ref it) 0 >>= _) _ _ s; refine wpAny_bind (wpAny_field e1 e3 (x := .ref t) rfl ?_)
  show wpAny _ _ (if (Value.ref t == Value.none) = true then _ else _) _ _ s; rw [if_neg (show ¬ ((Value.ref t == Value.none) = true) from Bool.false_ne_true)]
  show wpAny _ _ (field (.ref it) 1 >>= _) _ _ s; refine wpAny_bind (wpAny_field e1 e3 (x := .int i 0) rfl ?_)
  show wpAny _ _ (seqItems? (.ref t) >>= _) _ _ s; refine wpAny_bind (wpAny_seqItems g1 g2 ?_)
  simp only [Int.toNat_natCast, hx]
  refine wpAny_bind (wpAny_setField e1 e3 (by simp) (wpAny_pure ⟨x, rfl, wpAny_pure (hQ _ ⟨_, Heap.get?_update_self _ e1 (Obj.isFreed_of_fields (Obj.data_mapFields e3 _)), (Obj.cls_mapFields ..).trans e2, ?_⟩ (Heap.SameBut.update ..))⟩))
  rw [Obj.data_mapFields e3]; simp [rawInt]
theorem nextT_end {it t : Addr} {i : Nat} {items : Array Value} {Q : Value → Shared → Prop} (hh : A.handled = none) (hit : s.heap.IsTupleIter it t i) (ht : s.heap.IsTuple t items) (hx : items[i]? = none)
    (hE : ∀ h' e, Heap.ExtBut it s.heap h' → (∃ o, h'.get? e = some o ∧ o.cls = .type "StopIteration") → E (.ref e) { s with heap := h' }) : wpAny (model prog w) A (Builtin.SmallTypes.nextOf (.ref it)) Q E s := by
  obtain ⟨ob, e1, e2, e3⟩ := id hit
  obtain ⟨ot, g1, _, nn, g2⟩ := ht
  unfold Builtin.SmallTypes.nextOf
  refine wpAny_bind (wpAny_callSpecial?_slot (name := Str.ofString "__next__") hit.typeIs F.slot_tuple_iterator_next (wpAny_call_entry F.slot_tuple_iterator_next hit.typeIs F.entry_tuple_iterator_next ?_ (F.args_tuple_iterator_next_1 _)))
  show wpAny _ _ (field (.ref it) 0 >>= _) _ _ s; refine wpAny_bind (wpAny_field e1 e3 (x := .ref t) rfl ?_)
  show wpAny _ _ (if (Value.ref t == Value.none) = true then _ else _) _ _ s; rw [if_neg (show ¬ ((Value.ref t == Value.none) = true) from Bool.false_ne_true)]
  show wpAny _ _ (field (.ref it) 1 >>= _) _ _ s; refine wpAny_bind (wpAny_field e1 e3 (x := .int i 0) rfl ?_)
  show wpAny _ _ (seqItems? (.ref t) >>= _) _ _ s; refine wpAny_bind (wpAny_seqItems g1 g2 ?_)
  simp only [Int.toNat_natCast, hx]
  refine wpAny_bind (wpAny_rule (wpAny_bind (wpAny_setField e1 e3 (by simp) ?_)))
  show wpAny _ _ (newExc (.type "StopIteration") [] >>= _) _ _ _; refine wpAny_bind ?_
  simp only [newExc, newTuple]; refine wpAny_bind (wpAny_newObj_type ?_ (by size_fits))
  refine wpAny_bind (m := firstArgMember _ _) (wpAny_of_eq (a := Value.none) (by first | rfl | (simp only [firstArgMember]; rfl)) ?_)
  refine wpAny_newObj_type ?_ (by size_fits); simp only [raiseNew]; refine wpAny_bind (wpAny_handled ?_)
  first | rw [show A.in1.handled = none from hh] | rw [hh]
  refine wpAny_bind (wpAny_pure (wpAny_throw (hE _ _ (((Heap.SameBut.update ..).extBut.push _).push _) ⟨_, Heap.get?_push_size _ rfl, rfl⟩)))
structure ZA (z TI TO i1 i2 t1 t2 : Addr) : Prop where
  a1 : TI ≠ z
  a2 : TO ≠ z
  a3 : i1 ≠ z
  a4 : i2 ≠ z
  a5 : TI ≠ TO
  a6 : TI ≠ i1
  a7 : TI ≠ i2
  a8 : TO ≠ i1
  a9 : TO ≠ i2
  b1 : i1 ≠ i2
  b2 : t1 ≠ z
  b3 : t1 ≠ TO
  b4 : t1 ≠ i1
  b5 : t1 ≠ i2
  b6 : t2 ≠ z
  b7 : t2 ≠ TO
  b8 : t2 ≠ i1
  b9 : t2 ≠ i2
end
theorem Inv.turnLaid {X : Cx} {pins : List (Addr × Obj)} {σ : St} {H : Hp} {s : Shared} {h' : Heap} {fp : List Addr} {a : Addr} {o : HO} {t' : Nat} (I : Inv X pins σ H s) (hf : ∀ b ∈ fp, FpOk X pins H b)
    (k : ∀ b u, b ∉ fp → s.heap.get? b = some u → h'.get? b = some u) (hp : s.heap.objs.size ≤ a) (new : ObjOk X.prog X.w (upd H a o) h' a o) : Inv X pins σ (upd H a o) { s with heap := h', toks := t' } := by
  have hn : H a = none := I.hok.fresh hp
  have nf : ∀ b u, H b = some u → b ∉ fp := fun b u e hb => by rw [(hf b hb).1] at e; cases e
  refine I.step (g' := s.gens) (d' := s.drawn) (ch := fp) (fun b hb => ⟨(hf b hb).2.2.2.1, (hf b hb).2.1, (hf b hb).2.2.2.2.1, (hf b hb).2.2.2.2.2⟩) (fun b u _ _ hc e _ => k b u hc e) (fun b u _ _ hc e _ => ⟨u.slots, k b u hc e⟩)
    (fun b u _ e n => by rw [upd_ne (Nat.ne_of_lt (Nat.lt_of_lt_of_le (Heap.lt_size e) hp))]; exact n) (fun b u hc e => ⟨u, k b u hc e⟩) (fun b xs e => by rw [upd_ne (ne_of_none e hn)]; exact e)
    (fun b u v e => by rw [upd_ne (ne_of_none e hn)]; exact e) (fun b ps e => ⟨#[], by rw [upd_ne (ne_of_none e hn), e]; simp⟩) (fun m hm => ?_) (fun b u e => ?_) I.bare
  · obtain ⟨ob, es, ep, ho, r⟩ := hm
    exact ⟨ob, es, ep, k _ ob (fun z => (hf _ z).2.1 rfl) ho, r⟩
  · by_cases hb : b = a
    · subst hb
      rw [upd_same] at e
      cases e
      exact new
    · rw [upd_ne hb] at e
      refine (I.hok b u e).stay (fun c v hc q => k c v ?_ q) (fun c q => by rw [upd_ne (ne_of_none q hn)]; exact q) fun c xs q => by rw [upd_ne (ne_of_none q hn)]; exact q
      rcases hc with z | z
      · rw [z]; exact nf b u e
      · exact nf c _ z
theorem Inv.turnedL {X : Cx} {pins : List (Addr × Obj)} {σ : St} {H : Hp} {s : Shared} {h' : Heap} {fp : List Addr} {t' : Nat} (I : Inv X pins σ H s) (hf : ∀ b ∈ fp, FpOk X pins H b)
    (k : ∀ b u, b ∉ fp → s.heap.get? b = some u → h'.get? b = some u) : Inv X pins σ H { s with heap := h', toks := t' } := by
  have nf : ∀ b u, H b = some u → b ∉ fp := fun b u e hb => by rw [(hf b hb).1] at e; cases e
  refine I.step (g' := s.gens) (d' := s.drawn) (ch := fp) (fun b hb => ⟨(hf b hb).2.2.2.1, (hf b hb).2.1, (hf b hb).2.2.2.2.1, (hf b hb).2.2.2.2.2⟩) (fun b u _ _ hc e _ => k b u hc e) (fun b u _ _ hc e _ => ⟨u.slots, k b u hc e⟩)
    (fun b u _ e n => n) (fun b u hc e => ⟨u, k b u hc e⟩) (fun b xs e => e) (fun b u v e => e) (fun b ps e => ⟨#[], by rw [e]; simp⟩) (fun m hm => ?_) (fun b u e => ?_) I.bare
  · obtain ⟨ob, es, ep, ho, r⟩ := hm
    exact ⟨ob, es, ep, k _ ob (fun z => (hf _ z).2.1 rfl) ho, r⟩
  · refine (I.hok b u e).stay (fun c v hc q => k c v ?_ q) (fun c q => q) fun c xs q => q
    rcases hc with z | z
    · rw [z]; exact nf b u e
    · exact nf c _ z
section
variable {X : Cx}
def tPar3 (i j k : Nat) (ta : TA) : TS := fun D σ H => ta σ H fun vs H1 => ∃ v w y, vs = [v, w, y] ∧ D.nx (((σ.set k (some y)).set j (some w)).set i (some v)) H1
theorem ps_par3 {i j k : Nat} {x y z : Str} {a b c : Expr} {ta : TA} {px py pz pt : Pos} {kt k2 pt2} {pos : Pos} (hc : X.calm = true) (hN : X.N.Nodup) (hi : X.N[i]? = some x) (hj : X.N[j]? = some y) (hk : X.N[k]? = some z) (_ : i ≠ j) (_ : i ≠ k) (_ : j ≠ k)
    (hx : X.env.scope.names.lookup x = some .local) (hy : X.env.scope.names.lookup y = some .local) (hz : X.env.scope.names.lookup z = some .local) (ha : PA X [a, b, c] ta)
    (hw : swappedStores [.Tuple [.Name x px, .Name y py, .Name z pz] kt pt] (.Tuple [a, b, c] k2 pt2) X.env = pure (some [x, y, z]))
    (hs : swapsWithSole [.Tuple [.Name x px, .Name y py, .Name z pz] kt pt] (.Tuple [a, b, c] k2 pt2) pos.line X.env = pure false := by rfl) :
    PS X (.Assign [.Tuple [.Name x px, .Name y py, .Name z pz] kt pt] (.Tuple [a, b, c] k2 pt2) pos) (tPar3 i j k ta) := by
  intro pins s σ H D I h
  rw [exec_Assign_arm]; refine wpAny_bind (wpAny_standAt ?_)
  rw [hs]; refine wpAny_bind (wpAny_pure ?_)
  rw [if_neg (by decide)]; refine wpAny_bind (Tuple_ (thn (ha _ pins s σ H _ I h) fun us s1 ⟨vs, H1, I1, r1, v, w, y', e1, q1⟩ => ?_))
  subst e1
  obtain ⟨u1, u2, u3, rfl, m1, m2, m3⟩ : ∃ u1 u2 u3, us = [u1, u2, u3] ∧ RelV v u1 ∧ RelV w u2 ∧ RelV y' u3 := by
    cases r1 with
    | cons p q =>
      cases q with
      | cons p' q' =>
        cases q' with
        | cons p'' q'' => cases q''; exact ⟨_, _, _, rfl, p, p', p''⟩
  refine wpAny_newObj_type ?_ (by show 3 ≤ sizeLine; decide)
  have I2 : Inv X pins σ H1 { s1 with heap := s1.heap.push { cls := .type "tuple", data := .seq [u1, u2, u3].toArray } } := I1.kept (t' := s1.toks) fun b o e => Heap.get?_push_of_some _ e
  rw [hw]; refine wpAny_bind (wpAny_pure ?_)
  show wpAny (model X.prog X.w) X.A (do rule "assign.swapped-stores"; let items ← unpackItems (.ref s1.heap.objs.size) 3 none; assignInOrder [fun v => bindName X.env z v, fun v => bindName X.env y v, fun v => bindName X.env x v] items.reverse; pure Flow.next) _ _ _
  refine wpAny_bind (wpAny_rule (wpAny_bind (unpackItems_tuple (items := #[u1, u2, u3]) (I.ok.hd hc) (IsTup.new s1.heap _) fun h' hx' => ?_)))
  have I3 := I2.kept (h' := h') (t' := s1.toks) fun b o e => hx' b o (Nat.ne_of_lt (Heap.lt_size e)) e
  show wpAny _ _ (assignInOrder [fun v => bindName X.env z v, fun v => bindName X.env y v, fun v => bindName X.env x v] [u3, u2, u1] >>= fun _ => pure Flow.next) _ _ _
  refine wpAny_bind (assignInOrder_cons (wpAny_bindName (store_ok I3 hN hk (.inl hz) m3 (fun s2 I4 => ?_) (.inr hz))))
  refine assignInOrder_cons (wpAny_bindName (store_ok I4 hN hj (.inl hy) m2 (fun s3 I5 => ?_) (.inr hy)))
  exact assignInOrder_cons (wpAny_bindName (store_ok I5 hN hi (.inl hx) m1 (fun s4 I6 => assignInOrder_nil (wpAny_pure ⟨_, H1, I6, q1⟩)) (.inr hx)))
theorem call_all (hc : X.calm = true) : CallR X (.builtin "all") (fun xs H Q => ∃ (p : Addr) (bs : List Bool), xs = [.ref p] ∧ SqL X.K H p (bs.map V.bl) ∧ Q (.bl (bs.all id)) H) := by
  intro pins s σ H xs us Q I r h
  obtain ⟨p, bs, rfl, hq, q⟩ := h
  obtain ⟨u, rfl, ru⟩ := vals1 r
  cases ru
  obtain ⟨its, rv, pl, hz⟩ := I.list hq
  have hl := rv.length
  rw [List.length_map] at hl
  refine call_all_walk (wpAny_pyIter_list pl.isList ?_)
  have plt : p < s.heap.objs.size := by obtain ⟨o, e, _⟩ := pl.isList; exact Heap.lt_size e
  refine ⟨s.heap.objs.size, _, _, _, _, _, fun i => bs.getD i true, rfl, Walks.list (A := X.A.in1) (I.ok.hd hc) s.heap.objs.size p (Nat.ne_of_lt plt) its.toArray, ⟨⟨_, Heap.get?_push_size _ rfl, rfl, rfl⟩, pl.isList.push _⟩, fun i v s' Q' E' hv hQ => ?_, fun h' tk kk => ?_⟩
  · have hi : i < bs.length := by
      have := (Array.getElem?_eq_some_iff.mp hv).1
      rw [List.size_toArray] at this
      omega
    obtain ⟨u, hu, ru⟩ := rv.get (i := i) (x := V.bl bs[i]) (by simp [hi])
    have hv' : its[i]? = some v := by simpa using hv
    rw [hv'] at hu
    cases hu
    cases ru
    refine wpAny_truthy_bool ?_
    simpa [hi] using hQ
  · have ee : ((List.range its.toArray.size).all fun i => bs.getD i true) = bs.all id := by
      rw [List.size_toArray, ← hl]
      apply Bool.eq_iff_iff.mpr
      rw [List.all_eq_true, List.all_eq_true]
      constructor
      · intro h b hb
        obtain ⟨i, hi, rfl⟩ := List.getElem_of_mem hb
        have := h i (List.mem_range.mpr hi)
        simpa [hi] using this
      · intro h i hi
        have hi' := List.mem_range.mp hi
        have := h bs[i] (List.getElem_mem hi')
        simpa [hi'] using this
    rw [ee]
    have I1 : Inv X pins σ H { s with heap := s.heap.push { cls := .type "list_iterator", data := .fields #[.ref p, .int 0 0] } } := I.kept (t' := s.toks) fun b o e => Heap.get?_push_of_some _ e
    refine ⟨.bl _, H, I1.turned (t' := tk) (it := s.heap.objs.size) (fun b o hb e => kk b o (by simpa using hb) e) (I.hok.fresh (Nat.le_refl _)) (Nat.ne_of_gt I.lt) (.inr I.sz) ?_ ?_, rfl, q⟩
    · exact (I.fpOk (Nat.le_refl _) (I.hok.fresh (Nat.le_refl _))).2.2.2.2.1
    · exact (I.fpOk (Nat.le_refl _) (I.hok.fresh (Nat.le_refl _))).2.2.2.2.2
def Its (x : Str) : It := ⟨fun i _ => i < x.cps.size, fun i H v H' => H' = H ∧ ∃ c, x.cps[i]? = some c ∧ v = .str ⟨#[c]⟩, fun i _ => x.cps.size ≤ i⟩
theorem turn_str {P : Program} {w : World} {K : PySem.W.Frag} {tg : Expr} (x : Str) (t : Tok) (it : Addr) : Turn P w K tg (Its x) [it] it (fun i h => h.IsStrIter it "str_ascii_iterator" x t i) where
  mem := by simp
  obj := fun i h st b hb => by
    have e : b = it := by simpa using hb
    subst e
    obtain ⟨o, e, c, d⟩ := st
    exact ⟨o, e, fun v z => by rw [d] at z; cases z⟩
  keep := fun i h h' st k => by
    obtain ⟨o, e, r⟩ := st
    exact ⟨o, k it (by simp) o e, r⟩
  item := by
    intro X hP hw hK hc i pins s σ H E I hf st hg
    subst hP hw hK
    have hg : i < x.cps.size := hg
    obtain ⟨f0, f1, f2, f3, f4, f5⟩ := hf it (by simp)
    refine wpAny_pyNext_ascii_item st (c := x.cps[i]) (by simp [hg]) fun h' st' sb => ?_
    have I1 : Inv X pins σ H { s with heap := h', toks := s.toks + 1 } := I.turned (fun b o hb e => (sb.2 b hb).trans e) f0 f1 f3 f4 f5
    obtain ⟨o, e, c, d⟩ := id st'
    exact ⟨_, rfl, go_of (s := { s with heap := h', toks := s.toks + 1 }) e c d (by decide) ⟨.str ⟨#[x.cps[i]]⟩, H, I1, ⟨_, rfl⟩, ⟨rfl, _, by simp [hg], rfl⟩, st', fun b hb => (hf b hb).1⟩⟩
  done := by
    intro X hP hw hK hc i pins s σ H E I hf st hg
    subst hP hw hK
    have hg : x.cps.size ≤ i := hg
    obtain ⟨f0, f1, f2, f3, f4, f5⟩ := hf it (by simp)
    exact wpAny_pyNext_ascii_end (I.ok.hd hc) st (by simp [hg]) fun h' eb => ⟨rfl, I.turned (t' := s.toks) (fun b o hb e => eb b o hb e) f0 f1 f3 f4 f5⟩
  self := fun _ _ _ _ _ st h => wpAny_pyIter_striter_ascii st h
def iStr (te : TE) : TI := fun σ H R => te σ H fun v H1 => ∃ x, v = .str x ∧ x.cps.all (· < 128) = true ∧ R (Its x) H1
theorem pi_str {tg e : Expr} {te : TE} (he : PE X e te) : PI X tg e (iStr te) := by
  intro pins s σ H R I h
  refine thn (he pins s σ H _ I h) fun v s1 ⟨y, H1, I1, r1, x, e, hx, q⟩ => ?_
  subst e
  obtain ⟨t, rfl⟩ := r1
  refine wpAny_pyIter_ascii hx ?_
  refine ⟨s1.heap.objs.size, [s1.heap.objs.size], _, _, H1, rfl, I1.kept (t' := s1.toks) fun b o e => Heap.get?_push_of_some _ e, turn_str x t _, ⟨_, Heap.get?_push_size _ rfl, rfl, rfl⟩, fun b hb => ?_, q⟩
  have e : b = s1.heap.objs.size := by simpa using hb
  subst e
  exact I1.fpOk (Nat.le_refl _) (I1.hok.fresh (Nat.le_refl _))
theorem call_isinst : CallR X (.builtin "isinstance") (fun xs H Q => ∃ x n t b, xs = [x, .ty n] ∧ TyOf X.K H x t ∧ PySem.W.kitOne X.K t (.type n) = some b ∧ Q (.bl b) H) := by
  intro pins s σ H xs us Q I r h
  obtain ⟨x, n, t, b, rfl, ty, e, q⟩ := h
  obtain ⟨u, w', rfl, ru, rw'⟩ := vals2 r
  cases rw'
  exact isinst_ok I ru ty e fun tk => ⟨.bl b, H, I.tok _, rfl, q⟩
theorem kit_same (K : PySem.W.Frag) (n : String) : PySem.W.kitOne K (.type n) (.type n) = some true := by
  unfold PySem.W.kitOne
  rw [if_pos (by simp)]
end
end L2
end
section
set_option autoImplicit false
namespace L2
open PySem PySem.Spec PyProof.Rows
structure Flies (P : Program) (w : World) (outer : List Env) (H : Hp) (s : Shared) (e : Addr) (cls : Value) (H' : Hp) (B : Heap) (a0 : Value) (s' : Shared) : Prop where
  os : s'.os = s.os
  bare : AllBare s'.gens
  un : Un (frs outer) [] H H' s.heap s'.heap
  hok : HOk P w H' s'.heap
  fl : Heap.FlyingW B outer e cls a0 s'.heap
  covH : ∀ b, H' b ≠ none → ∃ o, B.get? b = some o
  covS : ∀ b o, s.heap.get? b = some o → b ∉ frs outer → ∃ o, B.get? b = some o
section
variable {P : Program} {w : World} {outer : List Env} {H H' : Hp} {s s' : Shared} {e : Addr} {cls a0 : Value} {B h2 : Heap}
end
section
variable {X : Cx} {pins : List (Addr × Obj)} {σ : St} {H H' : Hp} {s s' : Shared} {e : Addr} {cls a0 : Value} {B h2 : Heap}
end
section
variable {P : Program} {w : World} {K : PySem.W.Frag} {mg : Str → Option Value} {base : Heap} {N : List Str} {qual : Str} {scope : Scope} {f : Addr} {cd : Value} {A : Around} {outer : List Env} {s : Shared} {H : Hp} {E : XK}
end
end L2
end
section
set_option autoImplicit false
namespace L2
open PySem PySem.Spec PyProof.Rows
def ExAt (ea C : Addr) (h : Heap) : Prop := ∃ ob, h.get? ea = some ob ∧ ob.cls = .ref C
structure XIn (K : PySem.W.Frag) (C : Addr) : Prop where
  ga : PySem.W.findIn K (.ref C) "__getattribute__" = some (some (.builtin "BaseException.__getattribute__"))
  hk : PySem.W.findIn K (.ref C) "__getattr__" = some none
  ca : PySem.W.findIn K (.ref C) "__class__" = some (some (.builtin "object.__class__"))
  gt : PySem.W.specialIn K (.builtin "object.__class__") "__get__" = some (some (.builtin "getset_descriptor.__get__"))
  tk : PySem.W.takesIn K (.builtin "object.__class__") = some true
  ob : PySem.W.mroIn K C (.type "object") = some true
  be : PySem.W.mroIn K C (.type "BaseException") = some true
  cl : (PySem.W.clsIn K C).isSome = true
section
open Builtin Builtin.ObjectAttr Builtin.Getset_descriptor PySem.W
variable {prog : Program} {w : World} {K : PySem.W.Frag} {ea C : Addr}
end
end L2
end
section
set_option autoImplicit false
namespace L2
open PySem PySem.Spec PyProof.Rows
def ExcO (ea C : Addr) : HO := .ext (ExAt ea C)
section
variable {X : Cx}
end
structure XCls (K : PySem.W.Frag) (mg : Str → Option Value) (x : Str) (C : Addr) : Prop where
  m : mg x = some (.ref C)
  ex : PySem.W.excIn K C [.type "ValueError", .type "Exception", .type "BaseException", .type "object"] "ValueError.__new__" = true
  i : XIn K C
end L2
end
section
set_option autoImplicit false
namespace L2
open PySem PySem.Spec PyProof.Rows
structure Fnd (K : PySem.W.Frag) (mg : Str → Option Value) (x : Str) (st : Stmt) (ps : List Str) (f : Addr) (fd : FuncData) : Prop where
  fn : Fun K x x st f fd
  b : Binds K fd ps []
  m : mg x = some (.ref f)
theorem pe_callF {X : Cx} {x : Str} {st : Stmt} {ps : List Str} {f : Addr} {fd : FuncData} {k : Nat} {sp : Sp} {e : Expr} {es : List Expr} {t : TA} {p pos : Pos} (D : Fnd X.K X.mg x st ps f fd) (G : FnOk X.prog X.w X.K X.mg X.base CX0 k f fd ps sp) (hr : Room k X.A) (hg : Gl X x) (ha : PA X (e :: es) t)
    (hdb : (x == ("__debug__" : Str)) = false := by decide) (he : starEach (e :: es) X.env = (false, eval e X.env) :: starEach es X.env := by rfl) (hpl : (backTo pos (starEach es X.env)).any (·.1) = false := by rfl) : PE X (.Call (.Name x p) (e :: es) [] pos) (tCall sp [] E0 t) :=
  pe_call G hr hg D.m D.fn.kp D.b .nil pass0 ha hdb he hpl
theorem bt_len : bootBuiltins "len" = some (.builtin "len") := by decide +kernel
theorem bt_isinstance : bootBuiltins "isinstance" = some (.builtin "isinstance") := by decide +kernel
theorem bt_int : bootBuiltins "int" = some (.type "int") := by decide +kernel
theorem bt_bool : bootBuiltins "bool" = some (.type "bool") := by decide +kernel
theorem bt_str : bootBuiltins "str" = some (.type "str") := by decide +kernel
theorem bt_tuple : bootBuiltins "tuple" = some (.type "tuple") := by decide +kernel
theorem bt_list : bootBuiltins "list" = some (.type "list") := by decide +kernel
theorem bt_abs : bootBuiltins "abs" = some (.builtin "abs") := by decide +kernel
theorem bt_all : bootBuiltins "all" = some (.builtin "all") := by decide +kernel
theorem bt_any : bootBuiltins "any" = some (.builtin "any") := by decide +kernel
theorem bt_max : bootBuiltins "max" = some (.builtin "max") := by decide +kernel
theorem bt_min : bootBuiltins "min" = some (.builtin "min") := by decide +kernel
def tJoin (t u : TS) : TS := fun D σ H => ∃ M : St → Hp → Prop, t { D with nx := M } σ H ∧ ∀ σ' H', M σ' H' → u D σ' H'
theorem pss_join {X : Cx} {st : Stmt} {rest : List Stmt} {t u : TS} (h1 : PS X st t) (h2 : PSs X rest u) : PSs X (st :: rest) (tJoin t u) := by
  intro pins s σ H D I h
  obtain ⟨M, h, hM⟩ := h
  refine wpAny_execs_cons (thn (h1 pins s σ H _ I h) fun f s1 q => ?_)
  cases f with
  | next =>
    obtain ⟨σ1, H1, I1, m1⟩ := q
    exact h2 pins s1 σ1 H1 D I1 (hM σ1 H1 m1)
  | brk => exact q
  | cont => exact q
  | ret u => exact q
def Off (p : Addr) (H H' : Hp) : Prop := ∀ b o, b ≠ p → H b = some o → H' b = some o
theorem Off.trans {p : Addr} {H H1 H2 : Hp} (a : Off p H H1) (b : Off p H1 H2) : Off p H H2 := fun c o n e => b c o n (a c o n e)
theorem Off.upd {p : Addr} {H : Hp} {o : HO} : Off p H (upd H p o) := fun c u n e => by rw [upd_ne n]; exact e
theorem Off.new {p q : Addr} {H : Hp} {o : HO} (h : H q = none) : Off p H (L2.upd H q o) := fun c u _ e => by rw [upd_ne (ne_of_none e h)]; exact e
theorem Same.off {p : Addr} {H H' : Hp} (h : Same H H') : Off p H H' := fun c u _ e => h c u e
theorem Same.new {q : Addr} {H : Hp} {o : HO} (h : H q = none) : Same H (upd H q o) := fun c u e => by rw [upd_ne (ne_of_none e h)]; exact e
theorem atI_in {α : Type} {xs : List α} {i : Int} (h0 : 0 ≤ i) (h1 : i < xs.length) : ∃ v, atI xs i = some v ∧ v ∈ xs ∧ xs[i.toNat]? = some v := by
  have h : i.toNat < xs.length := by omega
  refine ⟨xs[i.toNat], ?_, List.getElem_mem h, List.getElem?_eq_getElem h⟩
  have := atI_nat (xs := xs) (j := i.toNat) (v := xs[i.toNat]) (List.getElem?_eq_getElem h)
  rw [Int.toNat_of_nonneg h0] at this
  exact this
theorem atI_strs {ns : List Str} {i : Int} (h0 : 0 ≤ i) (h1 : i < ns.length) : ∃ x, atI (ns.map V.str) i = some (.str x) ∧ x ∈ ns ∧ ns[i.toNat]? = some x := by
  obtain ⟨v, e, m, g⟩ := atI_in (xs := ns.map V.str) h0 (by rw [List.length_map]; exact h1)
  rw [List.getElem?_map] at g
  cases q : ns[i.toNat]? with
  | none => rw [q] at g; cases g
  | some x =>
    rw [q] at g
    cases g
    exact ⟨x, e, List.mem_of_getElem? q, rfl⟩
theorem strs_ne {as : List Str} {a b c : Int} : ¬ HO.lst [.int a, .int b, .int c] = HO.lst (as.map V.str) := by
  intro h
  cases as with
  | nil => cases h
  | cons x r =>
    injection h with h
    injection h with h
    cases h
theorem inV_strs {x : Str} {ns : List Str} : inV (.str x) (ns.map V.str) = decide (x ∈ ns) := by
  unfold inV
  rw [List.any_map]
  apply Bool.eq_iff_iff.mpr
  rw [List.any_eq_true, decide_eq_true_iff]
  constructor
  · rintro ⟨y, hy, e⟩
    have : (y == x) = true := e
    rw [beq_iff_eq] at this
    rw [← this]
    exact hy
  · intro h
    exact ⟨x, h, by show (x == x) = true; simp⟩
theorem flat_strs (ns : List Str) : (ns.map V.str).all flatV = true := by
  rw [List.all_map, List.all_eq_true]
  exact fun _ _ => rfl
def strsOf : List Expr → Option (List Str)
  | [] => some []
  | .Constant (.str x) _ _ :: r => (strsOf r).map (x :: ·)
  | _ => none
theorem pa_strs {X : Cx} : ∀ {es : List Expr} (ns : List Str), strsOf es = some ns → PA X es (fun _ H Q => Q (ns.map V.str) H)
  | [], ns, h => by
    have e : ns = [] := by
      unfold strsOf at h
      exact (Option.some.inj h).symm
    subst e
    exact pa_nil
  | e :: es, ns, h => by
    cases e with
    | Constant c j pos =>
      cases c with
      | str x =>
        unfold strsOf at h
        cases q : strsOf es with
        | none => rw [q] at h; cases h
        | some ms =>
          rw [q] at h
          have e : ns = x :: ms := (Option.some.inj h).symm
          subst e
          exact pa_cons pe_str (pa_strs ms q)
      | _ => unfold strsOf at h; cases h
    | _ => unfold strsOf at h; cases h
theorem op_in_K {X : Cx} {K : PySem.W.Frag} (h : X.K = K) : OpR X (compareOp .In) (rIn K false) := by subst h; exact op_in_seq
theorem op_notIn_K {X : Cx} {K : PySem.W.Frag} (h : X.K = K) : OpR X (compareOp .NotIn) (rIn K true) := by subst h; exact op_notIn_seq
theorem ix_list_K {X : Cx} {K : PySem.W.Frag} (h : X.K = K) : IxR X (rIxL K) := by subst h; exact ix_list
theorem ix_tup_K {X : Cx} {K : PySem.W.Frag} (h : X.K = K) : IxR X (rIxT K) := by subst h; exact ix_tup
theorem sl_list_K {X : Cx} {K : PySem.W.Frag} (h : X.K = K) : SlR X (rSlL K) := by subst h; exact sl_list
theorem pg_tup_K {X : Cx} {K : PySem.W.Frag} {es : List Expr} {k : Nat} {t : TGs} {n : Nat} {pos : Pos} (hk : X.K = K) (hc : X.calm = true) (h : PGs X es t) (hn : (assignEach es X.env).length = n := by rfl) (hst : (assignEach es X.env).findIdx? (·.1) = none := by rfl) :
    PG X (.Tuple es k pos) (gTup K n t) := by subst hk; exact pg_tup hc h hn hst
def okF (scope : Scope) (N0 N own : List Str) (fr : List Nat) (j : Nat) : Bool := match fr[j]? with
  | none => false
  | some i => match N[own.length + j]?, N0[i]? with
    | some x, some y => (x == y) && (scope.names.lookup x == some .free)
    | _, _ => false
def CSc (scX : Scope) (N0 : List Str) (scope : Scope) (own : List Str) (fr : List Nat) (N : List Str) : Prop :=
  scope.kind = .function ∧ (scope.names.map (·.1)).Nodup ∧ (∀ y ∈ scope.names, y.2 = .local → scope.names.lookup y.1 = some .local) ∧ (∀ y ∈ scope.names, y.2 = .free → scX.names.lookup y.1 = some .cell ∨ scX.names.lookup y.1 = some .free) ∧
    N.length = own.length + fr.length ∧ (∀ j ∈ List.range fr.length, okF scope N0 N own fr j = true) ∧ N.take own.length = own
instance (scX : Scope) (N0 : List Str) (scope : Scope) (own : List Str) (fr : List Nat) (N : List Str) : Decidable (CSc scX N0 scope own fr N) := by
  unfold CSc
  infer_instance
theorem CompScope.of {X : Cx} {scope : Scope} (own : List Str) (fr : List Nat) (N : List Str) (scX : Scope) (N0 : List Str) (hsc : X.env.scope = scX) (hN : X.N = N0) (h : CSc scX N0 scope own fr N) : CompScope X scope own fr N where
  kind := h.1
  nodup := h.2.1
  names := h.2.2.1
  free := fun y hy e => by
    show X.env.scope.names.lookup y.1 = _ ∨ X.env.scope.names.lookup y.1 = _
    rw [hsc]
    exact h.2.2.2.1 y hy e
  len := h.2.2.2.2.1
  isfr := fun j i e => by
    have hj : j < fr.length := (List.getElem?_eq_some_iff.mp e).1
    have q := h.2.2.2.2.2.1 j (List.mem_range.mpr hj)
    unfold okF at q
    rw [e] at q
    simp only at q
    cases e1 : N[own.length + j]? with
    | none => rw [e1] at q; simp at q
    | some x =>
      cases e2 : N0[i]? with
      | none => rw [e1, e2] at q; simp at q
      | some y =>
        rw [e1, e2] at q
        simp only [Bool.and_eq_true, beq_iff_eq] at q
        exact ⟨x, rfl, by rw [hN, e2, q.1], q.2⟩
  frs := fun j x e hj => by
    rw [← h.2.2.2.2.2.2, List.getElem?_take_of_lt hj]
    exact e
theorem lookup_relabel_cell {env : Env} {scope : Scope} {x : Str} (h : scope.names.lookup x = some .cell) : (relabel scope env).names.lookup x = some .cell := by
  unfold relabel
  show List.lookup x (List.map _ _) = _
  rw [relabel_lookup (scope := scope), h]
  rfl
theorem CompScope.of2 {X : Cx} {scope sc0 : Scope} {e0 : Env} (own : List Str) (fr : List Nat) (N : List Str) (N0 : List Str) (hsc : X.env.scope = relabel sc0 e0) (hN : X.N = N0) (h : CSc sc0 N0 scope own fr N) : CompScope X scope own fr N where
  kind := h.1
  nodup := h.2.1
  names := h.2.2.1
  free := fun y hy e => by
    show X.env.scope.names.lookup y.1 = _ ∨ X.env.scope.names.lookup y.1 = _
    rw [hsc]
    rcases h.2.2.2.1 y hy e with z | z
    · exact .inl (lookup_relabel_cell z)
    · unfold relabel
      show List.lookup y.1 (List.map _ _) = _ ∨ List.lookup y.1 (List.map _ _) = _
      rw [relabel_lookup (scope := sc0), z]
      simp only [Option.map_some]
      split
      · exact .inl rfl
      · exact .inr rfl
  len := h.2.2.2.2.1
  isfr := fun j i e => by
    have hj : j < fr.length := (List.getElem?_eq_some_iff.mp e).1
    have q := h.2.2.2.2.2.1 j (List.mem_range.mpr hj)
    unfold okF at q
    rw [e] at q
    simp only at q
    cases e1 : N[own.length + j]? with
    | none => rw [e1] at q; simp at q
    | some x =>
      cases e2 : N0[i]? with
      | none => rw [e1, e2] at q; simp at q
      | some y =>
        rw [e1, e2] at q
        simp only [Bool.and_eq_true, beq_iff_eq] at q
        exact ⟨x, rfl, by rw [hN, e2, q.1], q.2⟩
  frs := fun j x e hj => by
    rw [← h.2.2.2.2.2.2, List.getElem?_take_of_lt hj]
    exact e
end L2
end
section
set_option autoImplicit false
namespace L2
open PySem PySem.Spec PyProof.Rows
section
variable {X : Cx} {pins : List (Addr × Obj)} {σ : St} {H : Hp} {s : Shared}
abbrev Cx.suite (X : Cx) (ea : Addr) : Cx := { X with A := X.A.mark (some (.ref ea)), calm := false, xe := fun _ _ => False }
end
def XP (X : Cx) (pins : List (Addr × Obj)) (σ : St) (E : XK) (e : Value) (s' : Shared) : Prop := ∃ ea C H s H' B a0, e = .ref ea ∧ Inv X pins σ H s ∧ Flies X.prog X.w X.stack H s ea (.ref C) H' B a0 s' ∧ E (.ref C) none H'
end L2
end
section
set_option autoImplicit false
namespace L2
open PySem PySem.Spec PyProof.Rows
structure RoomS (k : Nat) (A : Around) : Prop where
  dp : A.depth + 3 * k + 5 < recursionLimit
  un : A.units + 16 * k + 200 < cLine
structure FnOkS (P : Program) (w : World) (K : PySem.W.Frag) (mg : Str → Option Value) (base : Heap) (k : Nat) (f : Addr) (fd : FuncData) (ps : List Str) (sp : Sp) : Prop where
  len : ∀ vs H Q E, sp vs H Q E → vs.length = ps.length
  run : ∀ (A : Around) (outer : List Env) (s : Shared) (H : Hp) (args : Args) (us : List Value) (vs : List V) (Q : VK), RoomS k A → Env0 P w K mg base A outer s H → BindsTo s fd args (ps.zip us) → Vals vs us → sp vs H Q E0 →
    codeAny (model P w) A (.call (.ref f) args) (CR CX0 outer P w H s Q E0) s
end L2
end
section
set_option autoImplicit false
namespace L2
open PySem PySem.Spec PyProof.Rows
def CDivL (_ j : Int) : Prop := 0 < j ∧ j < 1606938044258990275541962092341162602522202993782792835301376
theorem op_fdivL {X : Cx} : OpR X (binaryOp .FloorDiv) (rI CDivL fun i j => .int (i / j)) := opI fun i j _ _ _ _ _ hc q => by
  have h1 : (0 : Int) < j := hc.1
  have h2 : j < 1606938044258990275541962092341162602522202993782792835301376 := hc.2
  refine floordiv_int (by omega) (by rw [Int.fdiv_eq_ediv_of_nonneg i (by omega)]; exact q) (.inl (PyProof.noPylong_of_log2 ?_))
  have h3 : j.natAbs ≠ 0 := by omega
  have h4 : j.natAbs < 2 ^ 200 := by
    have e : (2 : Nat) ^ 200 = 1606938044258990275541962092341162602522202993782792835301376 := by decide +kernel
    rw [e]
    omega
  exact Nat.lt_trans ((Nat.log2_lt h3).mpr h4) (by decide)
def rCatT0 : R2 := fun x y H Q => ∃ (a b : Addr) (ys : List V), x = .ref a ∧ y = .ref b ∧ H a = some (.tup []) ∧ H b = some (.tup ys) ∧ Q (.ref b) H
theorem op_catT0 {X : Cx} : OpR X (binaryOp .Add) rCatT0 := by
  intro pins s σ H x y v u Q I rx ry h
  obtain ⟨a, b, ys, rfl, rfl, ha, hb, q⟩ := h
  cases rx
  cases ry
  obtain ⟨its, r, p⟩ := tup_at I ha
  obtain ⟨its2, r2, p2⟩ := tup_at I hb
  have e0 : its = [] := r.nil_iff.mpr rfl
  subst e0
  obtain ⟨⟨cls, dd, data, sl⟩, ho, hc, n, hd⟩ := id p
  obtain ⟨⟨cls2, dd2, data2, sl2⟩, ho2, hc2, n2, hd2⟩ := id p2
  simp only at hc hd hc2 hd2
  subst hc hd hc2 hd2
  exact concat_meets ⟨_, ho, rfl⟩ ⟨_, ho2, rfl⟩ noFill_tuple_add seq_tuple_add PySem.F.slot_tuple_add PySem.F.entry_tuple_add (PySem.F.args_tuple_add_2 _ _) (tuple_addW0 a b [].toArray its2.toArray n n2 dd dd2 sl sl2 rfl) ⟨ho, ho2, ⟨.ref b, H, I, rfl, q⟩⟩
theorem op_catTA {X : Cx} : OpR X (binaryOp .Add) (fun x y H Q => rCatT X.K x y H Q ∨ rCatT0 x y H Q) := op_catT.or op_catT0
end L2
end
section
set_option autoImplicit false
namespace L2
open PySem PySem.Spec PyProof.Rows
section
variable {X : Cx} {pins : List (Addr × Obj)} {σ : St} {H : Hp} {s : Shared} {d : Addr} {u u' : HO}
end
theorem relV_key {P : Program} {w : World} {k : Key} {v : Value} (h : (mixKind P w).is k v = true) : RelV (kV k) v := by
  rw [mixKind_is] at h
  rcases keyIs_shape h with ⟨i, t, rfl, rfl⟩ | ⟨x, t, rfl, rfl⟩
  · exact ⟨t, rfl⟩
  · exact ⟨t, rfl⟩
theorem paired_get {α β : Type} {F : α → β → Prop} : ∀ {l₁ : List α} {l₂ : List β}, Paired F l₁ l₂ → ∀ (i : Nat) (h1 : i < l₁.length) (h2 : i < l₂.length), F l₁[i] l₂[i]
  | _, _, .nil, i, h1, _ => by simp at h1
  | _, _, .cons r t, 0, _, _ => r
  | _, _, .cons r t, i + 1, h1, h2 => paired_get t i (by simpa using h1) (by simpa using h2)
section
variable {X : Cx}
theorem call_any (hc : X.calm = true) : CallR X (.builtin "any") (fun xs H Q => ∃ (p : Addr) (bs : List Bool), xs = [.ref p] ∧ SqL X.K H p (bs.map V.bl) ∧ Q (.bl (bs.any id)) H) := by
  intro pins s σ H xs us Q I r h
  obtain ⟨p, bs, rfl, hq, q⟩ := h
  obtain ⟨u, rfl, ru⟩ := vals1 r
  cases ru
  obtain ⟨its, rv, pl, hz⟩ := I.list hq
  have hl := rv.length
  rw [List.length_map] at hl
  refine call_any_walk (wpAny_pyIter_list pl.isList ?_)
  have plt : p < s.heap.objs.size := by obtain ⟨o, e, _⟩ := pl.isList; exact Heap.lt_size e
  refine ⟨s.heap.objs.size, _, _, _, _, _, fun i => bs.getD i false, rfl, Walks.list (A := X.A.in1) (I.ok.hd hc) s.heap.objs.size p (Nat.ne_of_lt plt) its.toArray, ⟨⟨_, Heap.get?_push_size _ rfl, rfl, rfl⟩, pl.isList.push _⟩, fun i v s' Q' E' hv hQ => ?_, fun h' tk kk => ?_⟩
  · have hi : i < bs.length := by
      have := (Array.getElem?_eq_some_iff.mp hv).1
      rw [List.size_toArray] at this
      omega
    obtain ⟨u, hu, ru⟩ := rv.get (i := i) (x := V.bl bs[i]) (by simp [hi])
    have hv' : its[i]? = some v := by simpa using hv
    rw [hv'] at hu
    cases hu
    cases ru
    refine wpAny_truthy_bool ?_
    simpa [hi] using hQ
  · have ee : ((List.range its.toArray.size).any fun i => bs.getD i false) = bs.any id := by
      rw [List.size_toArray, ← hl]
      apply Bool.eq_iff_iff.mpr
      rw [List.any_eq_true, List.any_eq_true]
      constructor
      · rintro ⟨i, hi, h⟩
        have hi' := List.mem_range.mp hi
        exact ⟨bs[i], List.getElem_mem hi', by simpa [hi'] using h⟩
      · rintro ⟨b, hb, h⟩
        obtain ⟨i, hi, rfl⟩ := List.getElem_of_mem hb
        exact ⟨i, List.mem_range.mpr hi, by simpa [hi] using h⟩
    rw [ee]
    have I1 : Inv X pins σ H { s with heap := s.heap.push { cls := .type "list_iterator", data := .fields #[.ref p, .int 0 0] } } := I.kept (t' := s.toks) fun b o e => Heap.get?_push_of_some _ e
    refine ⟨.bl _, H, I1.turned (t' := tk) (it := s.heap.objs.size) (fun b o hb e => kk b o (by simpa using hb) e) (I.hok.fresh (Nat.le_refl _)) (Nat.ne_of_gt I.lt) (.inr I.sz) ?_ ?_, rfl, q⟩
    · exact (I.fpOk (Nat.le_refl _) (I.hok.fresh (Nat.le_refl _))).2.2.2.2.1
    · exact (I.fpOk (Nat.le_refl _) (I.hok.fresh (Nat.le_refl _))).2.2.2.2.2
end
end L2
end
section
set_option autoImplicit false
namespace L2
open PySem PySem.Spec PyProof.Rows
def Ite (K : PySem.W.Frag) (a : Addr) : It :=
  ⟨fun i H => ∃ xs x, SqL K H a xs ∧ xs[i]? = some x, fun i H v H' => ∃ p, H p = none ∧ v = .ref p ∧ ∀ xs x, SqL K H a xs → xs[i]? = some x → H' = upd H p (.tup [.int i, x]), fun i H => ∃ xs, SqL K H a xs ∧ xs.length ≤ i⟩
theorem turn_enum {P : Program} {w : World} {K : PySem.W.Frag} {elts : List Expr} {x1 : Nat} {tpos : Pos} {e it l : Addr} (hne : e ≠ it) : Turn P w K (.Tuple elts x1 tpos) (Ite K l) [e, it] e
    (fun i h => (∃ old, IsEnum h e it i old) ∧ h.IsListIter it l i) where
  mem := by simp
  obj := fun i h st b hb => by
    obtain ⟨⟨old, he⟩, o, ei, c, d⟩ := st
    simp only [List.mem_cons, List.not_mem_nil, or_false] at hb
    rcases hb with rfl | rfl
    · exact ⟨_, he, fun v q => nomatch q⟩
    · exact ⟨o, ei, fun v z => by rw [d] at z; cases z⟩
  keep := fun i h h' st k => by
    obtain ⟨⟨old, he⟩, o, ei, r⟩ := st
    exact ⟨⟨old, k e (by simp) _ he⟩, o, k it (by simp) _ ei, r⟩
  item := by
    intro X hP hw hK hc i pins s σ H E I hf st hg
    subst hP hw hK
    obtain ⟨xs, x, hq, hx⟩ := hg
    obtain ⟨its, rv, p, hz⟩ := I.list hq
    obtain ⟨u, hu, ru⟩ := rv.get hx
    obtain ⟨⟨old, he⟩, hit⟩ := st
    refine wpAny_pyNext_enum_item he hit p.isList (x := u) (by simpa using hu) hne fun h' a1 a2 a3 a4 a5 => ?_
    refine ⟨_, rfl, wpAny_letOwnedTupleGo_enum a1 fun h2' a1' q' => ?_⟩
    have hn : H s.heap.objs.size = none := I.hok.fresh (Nat.le_refl _)
    have elt : e < s.heap.objs.size := Heap.lt_size he
    have ilt : it < s.heap.objs.size := by obtain ⟨_, e, _⟩ := hit; exact Heap.lt_size e
    have kk : ∀ b ob, b ∉ [e, it] → s.heap.get? b = some ob → h2'.get? b = some ob := fun b ob hb ee => by
      simp only [List.mem_cons, List.not_mem_nil, or_false, not_or] at hb
      exact q'.extBut _ _ hb.1 (a5 b ob hb.1 hb.2 ee)
    have I1 : Inv X pins σ (upd H s.heap.objs.size (.tup [.int i, x])) { s with heap := h2', toks := s.toks + 1 } := I.turnLaid (t' := s.toks + 1) hf kk (Nat.le_refl _)
      ⟨⟨by show 2 ≤ sizeLine; decide, fun o ee => by rw [q'.extBut _ _ (Nat.ne_of_gt elt) a3] at ee; cases ee; rfl⟩, [.int i s.toks, u], .cons ⟨_, rfl⟩ (.cons ru .nil), ⟨_, q'.extBut _ _ (Nat.ne_of_gt elt) a3, rfl, _, rfl⟩⟩
    refine ⟨.ref s.heap.objs.size, _, I1, rfl, ⟨_, hn, rfl, fun xs' x' k1 k3 => ?_⟩, ⟨⟨_, by simpa using a1'⟩, a2.extBut q'.extBut hne.symm⟩, fun b hb => ?_⟩
    · rw [I.list_inj k1 hq, hx] at k3
      cases k3
      rfl
    · have hb' := hb
      simp only [List.mem_cons, List.not_mem_nil, or_false] at hb'
      have hlt : b < s.heap.objs.size := by
        rcases hb' with rfl | rfl
        · exact elt
        · exact ilt
      rw [upd_ne (Nat.ne_of_lt hlt)]
      exact (hf b hb).1
  done := by
    intro X hP hw hK hc i pins s σ H E I hf st hg
    subst hP hw hK
    obtain ⟨xs, hq, hx⟩ := hg
    obtain ⟨its, rv, p, hz⟩ := I.list hq
    obtain ⟨⟨old, he⟩, hit⟩ := st
    have hl := rv.length
    refine wpAny_pyNext_enum_end (I.ok.hd hc) he hit p.isList (by simp; omega) fun h' eb => ⟨rfl, I.turnedL (t' := s.toks) hf fun b u hb q => ?_⟩
    simp only [List.mem_cons, List.not_mem_nil, or_false, not_or] at hb
    exact eb b u hb.2 q
  self := fun _ _ _ _ _ st h => by
    obtain ⟨⟨old, he⟩, _⟩ := st
    exact wpAny_pyIter_enum he h
section
variable {X : Cx}
def iEnum (K : PySem.W.Frag) (ta : TA) : TI := fun σ H R => ta σ H fun vs H1 => ∃ a xs, vs = [.ref a] ∧ SqL K H1 a xs ∧ R (Ite K a) H1
theorem pi_enumerate {elts : List Expr} {x1 : Nat} {tpos : Pos} {a : Expr} {ta : TA} {p pos : Pos} (hg : Gl X "enumerate") (hm : X.mg "enumerate" = none) (ha : PA X [a] ta)
    (he : starEach [a] X.env = (false, eval a X.env) :: starEach [] X.env := by rfl) (hpl : (backTo pos (starEach [] X.env)).any (·.1) = false := by rfl) : PI X (.Tuple elts x1 tpos) (.Call (.Name "enumerate" p) [a] [] pos) (iEnum X.K ta) := by
  intro pins s σ H R I h
  have boot_enum : bootBuiltins "enumerate" = some (.type "enumerate") := by decide +kernel
  refine wpAny_Call_Name_kw (ld_blt I hg hm boot_enum ?_)
  refine PyProof.Rows.callWith_type1 (thn (ha pos pins s σ H _ I h) fun us s1 ⟨vs, H1, I1, r1, t1, xs, e, q1, q⟩ => ?_) he hpl
  subst e
  obtain ⟨u, rfl, ru⟩ := vals1 r1
  cases ru
  obtain ⟨its, rv, p1, hz1⟩ := I1.list q1
  refine call_enumerate_list p1.isList fun h' hE hI hsz hk => ?_
  refine wpAny_pyIter_enum hE ?_
  have I2 : Inv X pins σ H1 { s1 with heap := h' } := I1.kept (t' := s1.toks) hk
  have hne : s1.heap.objs.size + 1 ≠ s1.heap.objs.size := by change @Ne Nat _ _; omega
  refine ⟨s1.heap.objs.size + 1, [s1.heap.objs.size + 1, s1.heap.objs.size], _, Ite X.K t1, H1, rfl, I2, turn_enum hne, ⟨⟨_, hE⟩, hI⟩, fun b hb => ?_, q⟩
  have hle : s1.heap.objs.size ≤ b := by
    simp only [List.mem_cons, List.not_mem_nil, or_false] at hb
    rcases hb with h | h <;> rw [h] <;> first | exact Nat.le_refl _ | exact Nat.le_add_right _ _
  exact I1.fpOk hle (I1.hok.fresh hle)
end
end L2
end
section
set_option autoImplicit false
namespace L2
open PySem PySem.Spec PyProof.Rows
theorem entry_dul : entryFor table "dict.update.loop" = some Builtin.«dict.update.loop» := entryFor_of_fast (by kernel_rfl)
theorem plain_dul : plainId "dict.update.loop" = true := by decide +kernel
theorem tup_no_keys : typeLookup (.type "tuple") "keys" = pure none := by rw [typeLookup_type, builtinLookup_eq_fast]; kernel_rfl
section
variable {prog : Program} {w : World} {A : Around} {E : Value → Shared → Prop} {s : Shared}
theorem keys_miss {a : Addr} {o : Obj} {xs : Array Value} {k : Nat} {Q : Option Value → Shared → Prop} (hx : s.heap.get? a = some o) (hc : o.cls = .type "tuple") (hdat : o.data = .seq xs k) (hd : o.dict = none) (hA : A.handled = none)
    (h : ∀ h' tk, (∀ b o, s.heap.get? b = some o → h'.get? b = some o) → Q none { s with heap := h', toks := tk }) : wpAny (model prog w) A (getAttr? (.ref a) "keys") Q E s := by
  obtain ⟨c, dct, dat, sl⟩ := o
  simp only at hc hdat hd
  subst hc hdat hd
  obtain ⟨hp, g, d, tk, os⟩ := s
  have hT : ∀ tk', (⟨hp, g, d, tk', os⟩ : Shared).TypeIs (.ref a) "tuple" := fun _ => ⟨_, hx, rfl⟩
  have f1 := sub_AttributeError
  have f3 := F.slot_tuple_getattribute.lookup
  have f4 := F.slot_tuple_getattribute.bind (.ref a)
  have f5 := am_tuple_getattr_none
  have hm := tup_no_keys
  unfold getAttr? getAttrBy? getAttrBy
  repeat (any_goals (first | assumption | exact hT _ | ((with_reducible show wpAny _ _ (call (Value.builtin "tuple.__getattribute__") _ _) _ _ _); refine call_meets F.slot_tuple_getattribute (hT _) am_entry_tuple_getattribute (F.args_tuple_getattribute_2 _ _) (meets_getattribute_miss_tuple a xs k sl "keys" _ hm (by decide +kernel)) ⟨hx, hA, fun h' tk' e hx' => ?_⟩) | wp_step))
  have kk := hx'.keeps
  obtain ⟨t', u', he⟩ := hx'.there
  show wpAny _ _ (getattributeRaised _ _ _ _ _ _ _) _ _ _
  unfold getattributeRaised
  repeat (any_goals (first | assumption | wp_step))
  all_goals exact h _ _ kk
end
end L2
end
section
set_option autoImplicit false
namespace L2
open PySem PySem.Spec PyProof.Rows
section
variable {X : Cx} {pins : List (Addr × Obj)} {σ : St} {A : Around}
def PairsAt (H : Hp) (xs : List V) (kvs : List (Key × V)) : Prop := xs.length = kvs.length ∧ ∀ (i : Nat) (kv : Key × V), kvs[i]? = some kv → ∃ p, xs[i]? = some (.ref p) ∧ H p = some (.tup [kV kv.1, kv.2])
theorem d_set {H : Hp} {s : Shared} {d : Addr} {kvs : List (Key × V)} {k : Key} {v : V} {u r : Value} {E : Value → Shared → Prop} {Q : Unit → Shared → Prop} (I : Inv X pins σ H s) (e : H d = some (.dK kvs)) (l : kvs.length < sizeLine) (ry : RelV (kV k) u) (rv : RelV v r)
    (h : ∀ h', Heap.SameBut d s.heap h' → Inv X pins σ (upd H d (.dK (putK kvs k v))) { s with heap := h', toks := s.toks + 1 } → Q () { s with heap := h', toks := s.toks + 1 }) : wpAny (model X.prog X.w) A (dictSet d u r) Q E s := by
  obtain ⟨z, hd, vs, rel, dd⟩ := dk_of I.hok e
  have hz : vs.length ≤ sizeLine := by rw [← rel.length]; exact z
  have hl : (putK kvs k v).length ≤ sizeLine := by have := length_putK kvs k v; omega
  refine wpAny_dictSet_pairs (hsz := hz) (kV_is ry) dd fun h' dd' hs => h _ hs ?_
  have he : ∃ q, h'.get? d = some q := let ⟨q, _, _, hq, _⟩ := dd'; ⟨q, hq⟩
  exact d_write (t' := s.toks + 1) I (by rw [e]; exact True.intro) hs he (dk_new hl hd (rel.put k rv) dd')
theorem mergeK_snoc (kvs : List (Key × V)) (kv : Key × V) : mergeK [] (kvs ++ [kv]) = putK (mergeK [] kvs) kv.1 kv.2 := by
  unfold mergeK
  rw [List.foldl_append]
  rfl
theorem dul_run {H : Hp} {a d it : Addr} {xs : List V} {kvs : List (Key × V)} {R : Result → Shared → Prop} (hh : A.handled = none) (ha : H a = some (.tup xs)) (hp : PairsAt H xs kvs) (hn : kvs.length ≤ 1000) (hd : H d = none) (hid : it ≠ d) (hia : it ≠ a)
    (hR : ∀ s', Inv X pins σ (upd H d (.dK (mergeK [] kvs))) s' → R (.ok (.ret .none)) s') :
    ∀ (k i : Nat) (s : Shared), kvs.length - i = k → i ≤ kvs.length → Inv X pins σ (upd H d (.dK (mergeK [] (kvs.take i)))) s → s.heap.IsTupleIter it a i → (∀ H' : Hp, H' it = none → FpOk X pins H' it) → H it = none →
      codeAny (model X.prog X.w) A (.builtin "dict.update.loop" ⟨[.ref d, .ref it, rawInt i, .none], []⟩) R s := by
  intro k
  have had : a ≠ d := ne_of_none ha hd
  have hz : sizeLine = 16777216 := sizeLine_eq
  induction k with
  | zero =>
    intro i s hk hi I hit hf hi0
    have hin : i = kvs.length := by omega
    have ha' : (upd H d (.dK (mergeK [] (kvs.take i)))) a = some (.tup xs) := by rw [upd_ne had]; exact ha
    obtain ⟨its, rv, p, _⟩ := I.tuple (SqT.of ha')
    have hit0 : (upd H d (.dK (mergeK [] (kvs.take i)))) it = none := by rw [upd_ne hid]; exact hi0
    obtain ⟨f0, f1, f2, f3, f4, f5⟩ := hf _ hit0
    refine codeAny_builtin entry_dul ?_
    rw [Around.under_plainId plain_dul _]
    show wpAny _ A.in1 (pyNext (.ref it) >>= _) _ _ s
    refine wpAny_bind (wpAny_pyNext_tuple_end hh hit (show s.heap.IsTuple a its.toArray from p) (by have := rv.length; have := hp.1; simp; omega) fun h' eb => ?_)
    refine wpAny_bind (wpAny_pure (wpAny_pure ?_))
    have I1 := I.turned (t' := s.toks) (fun b o hb e => eb b o hb e) f0 f1 f3 f4 f5
    rw [hin, List.take_of_length_le (Nat.le_refl _)] at I1
    exact hR _ I1
  | succ k ih =>
    intro i s hk hi I hit hf hi0
    have hlt : i < kvs.length := by omega
    have ha' : (upd H d (.dK (mergeK [] (kvs.take i)))) a = some (.tup xs) := by rw [upd_ne had]; exact ha
    obtain ⟨its, rv, p, _⟩ := I.tuple (SqT.of ha')
    have hit0 : (upd H d (.dK (mergeK [] (kvs.take i)))) it = none := by rw [upd_ne hid]; exact hi0
    obtain ⟨f0, f1, f2, f3, f4, f5⟩ := hf _ hit0
    obtain ⟨pr, ex, hpr⟩ := hp.2 i kvs[i] (List.getElem?_eq_getElem hlt)
    obtain ⟨u, hu, ru⟩ := rv.get ex
    cases ru
    refine codeAny_builtin entry_dul ?_
    rw [Around.under_plainId plain_dul _]
    show wpAny _ A.in1 (pyNext (.ref it) >>= _) _ _ s
    refine wpAny_bind (wpAny_pyNext_tuple_item hit (show s.heap.IsTuple a its.toArray from p) (x := .ref pr) (by simpa using hu) fun h' hit' sb => ?_)
    have I1 := I.turned (t' := s.toks) (fun b o hb e => sb.extBut b o hb e) f0 f1 f3 f4 f5
    have hpd : pr ≠ d := ne_of_none hpr hd
    obtain ⟨jts, rj, ⟨oj, gj, cj, nj, dj⟩, _⟩ := I1.tuple (SqT.of (show (upd H d (.dK (mergeK [] (kvs.take i)))) pr = some (.tup [kV kvs[i].1, kvs[i].2]) by rw [upd_ne hpd]; exact hpr))
    obtain ⟨v1, v2, rfl, r1, r2⟩ := rj.two
    have hT : ({ s with heap := h' } : Shared).TypeIs (.ref pr) "tuple" := ⟨oj, gj, cj⟩
    refine wpAny_bind (wpAny_holding ?_)
    refine wpAny_bind (wpAny_tryCatch ?_)
    unfold Builtin.Dict.pairItems
    refine wpAny_bind (wpAny_typeOf hT ?_)
    rw [if_pos (by decide)]
    refine wpAny_bind (wpAny_seqItems gj dj (wpAny_pure ?_))
    show wpAny _ _ (holding [v1, v2] (dictSet d v1 v2)) _ _ _
    refine wpAny_holding (d_set I1 upd_same ?_ r1 r2 fun h2 sb2 I2 => ?_)
    · have := length_mergeK (kvs.take i) []
      rw [List.length_take, List.length_nil] at this
      omega
    rw [upd_upd] at I2
    have et : kvs.take (i + 1) = kvs.take i ++ [kvs[i]] := by
      rw [List.take_succ, List.getElem?_eq_getElem hlt]
      rfl
    rw [← mergeK_snoc, ← et] at I2
    refine wpAny_pure ⟨plainId_quiet plain_dul _, ?_⟩
    exact ih (i + 1) _ (by omega) hlt I2 (hit'.extBut sb2.extBut hid) hf hi0
end
end L2
end
section
set_option autoImplicit false
namespace L2
open PySem PySem.Spec PyProof.Rows
section
variable {X : Cx}
theorem call_dictP (hc : X.calm = true) : CallR X (.type "dict") (fun xs H Q => ∃ a ps kvs, xs = [.ref a] ∧ H a = some (.tup ps) ∧ PairsAt H ps kvs ∧ kvs.length ≤ 1000 ∧ ∀ d, H d = none → Q (.ref d) (upd H d (.dK (mergeK [] kvs)))) := by
  intro pins s σ H xs us Q I r h
  obtain ⟨a, ps, kvs, rfl, ha, hp, hn, q⟩ := h
  obtain ⟨u, rfl, ru⟩ := vals1 r
  cases ru
  have hh : X.A.handled = none := I.ok.hd hc
  refine callType_codes (Q₁ := fun obj s₁ => obj = .ref s.heap.objs.size ∧ s₁ = { s with heap := s.heap.push { cls := .type "dict", data := .dict #[] } }) F.kt_called_dict (F.kt_typeCall_dict_1 _) F.entry_dict_init (kt_code_dict_new _ ⟨rfl, rfl⟩) ?_
  rintro obj s₁ ⟨rfl, rfl⟩
  have hd : H s.heap.objs.size = none := I.hok.fresh (Nat.le_refl _)
  have I1 : Inv X pins σ (upd H s.heap.objs.size (.dK [])) { s with heap := s.heap.push { cls := .type "dict", data := .dict #[] } } :=
    I.laid (t' := s.toks) (fun b o e => Heap.get?_push_of_some _ e) (Nat.le_refl _) (dk_empty s.heap (Nat.lt_of_lt_of_le I.big (Nat.le_refl _)))
  have had : a ≠ s.heap.objs.size := ne_of_none ha hd
  have ha1 : (upd H s.heap.objs.size (.dK [])) a = some (.tup ps) := by rw [upd_ne had]; exact ha
  obtain ⟨⟨_, nd⟩, its, rv, o, go, co, n, dto⟩ := I1.hok a _ ha1
  have hnew : (s.heap.push { cls := .type "dict", data := .dict #[] }).DictOf (mixKind X.prog X.w) s.heap.objs.size [] := Heap.DictOf.new s.heap
  refine ⟨hnew.typeIs, F.args_dict_init_2 _ _, ?_⟩
  unfold Builtin.«dict.__init__»
  refine wpAny_bind ?_
  unfold Builtin.Dict.selfAndRest
  refine wpAny_bind (wpAny_notOrdered_dict hnew.typeIs ?_)
  show wpAny _ _ (pure (s.heap.objs.size, [Value.ref a])) _ _ _
  refine wpAny_pure ?_
  show wpAny _ _ (Builtin.Dict.updateFrom "dict.__init__" s.heap.objs.size (.ref a) [] .none) _ _ _
  unfold Builtin.Dict.updateFrom
  have hT : ({ s with heap := s.heap.push { cls := .type "dict", data := .dict #[] } } : Shared).TypeIs (.ref a) "tuple" := ⟨o, go, co⟩
  refine wpAny_bind (wpAny_typeOf hT ?_)
  rw [if_pos (by decide)]
  refine wpAny_bind (keys_miss go co dto (nd o go) hh fun h2 tk2 k2 => ?_)
  rw [if_pos (by rfl)]
  have I2 := I1.kept (t' := tk2) k2
  refine wpAny_bind (wpAny_rule ?_)
  refine wpAny_bind (wpAny_pyIter_tuple (show Heap.IsTuple h2 a its.toArray from ⟨o, k2 a o go, co, n, dto⟩) ?_)
  have I3 := I2.kept (t' := tk2) (h' := h2.push { cls := .type "tuple_iterator", data := .fields #[.ref a, .int 0 0] }) fun b o e => Heap.get?_push_of_some _ e
  have hle : s.heap.objs.size < h2.objs.size := by
    obtain ⟨o', e'⟩ : ∃ o', (s.heap.push { cls := .type "dict", data := .dict #[] }).get? s.heap.objs.size = some o' := ⟨_, Heap.get?_push_size _ rfl⟩
    exact Heap.lt_size (k2 _ _ e')
  have hif : (upd H s.heap.objs.size (.dK [])) h2.objs.size = none := I2.hok.fresh (Nat.le_refl _)
  refine wpAny_pure ⟨plainId_quiet plain_dul _, ?_⟩
  have al : a < h2.objs.size := Heap.lt_size (k2 a o go)
  have hi0 : H h2.objs.size = none := by rw [upd_ne (Nat.ne_of_gt hle)] at hif; exact hif
  refine dul_run (A := X.A.in1) (H := H) (a := a) (d := s.heap.objs.size) (it := h2.objs.size) (xs := ps) (kvs := kvs) hh ha hp hn hd (Nat.ne_of_gt hle) (Nat.ne_of_gt al) (fun s' I' => ?_) kvs.length 0 _ (by simp) (Nat.zero_le _) I3 ⟨_, Heap.get?_push_size _ rfl, rfl, rfl⟩ (fun H' hH' => ?_) hi0
  · exact ⟨rfl, ⟨.ref s.heap.objs.size, _, I', rfl, q _ hd⟩⟩
  · obtain ⟨g1, g2⟩ := I2.fpOk (Nat.le_refl _) hif
    exact ⟨hH', g2⟩
end
end L2
end
section
set_option autoImplicit false
namespace L2
open PySem PySem.Spec PyProof.Rows
section
variable {X : Cx}
theorem call_listD (hc : X.calm = true) : CallR X (.type "list") (fun xs H Q => ∃ d kvs, xs = [.ref d] ∧ Rd H d (.dK kvs) ∧ ∀ l, H l = none → Q (.ref l) (upd H l (.lst (kvs.map fun kv => kV kv.1)))) := by
  intro pins s σ H xs us Q I r h
  obtain ⟨d, kvs, rfl, hd, q⟩ := h
  obtain ⟨u, rfl, ru⟩ := vals1 r
  cases ru
  have hh : X.A.handled = none := I.ok.hd hc
  obtain ⟨hz, hs, vs, rv, od, es, ep, ho, r1, r2, r3⟩ := (show ObjOk X.prog X.w H s.heap d (.dK kvs) from hd.ok I.hok)
  have hl : vs.length = kvs.length := (Paired.length rv).symm
  refine PySem.W.kdl_call (PySem.W.kdl_dict (knd := mixKind X.prog X.w) (kvs := vs) (ep := ep) hs) hh ⟨_, _, ho, r1, r2, r3⟩ (by omega) fun h' tk acc c kp e it => ?_
  obtain ⟨i1, i2⟩ := it
  refine ⟨.ref s.heap.objs.size, _, I.laid (o := .lst (kvs.map fun kv => kV kv.1)) kp (Nat.le_refl _) ⟨by rw [List.length_map]; exact hz, acc.toList, c, ?_, by simpa using e⟩, rfl, q _ (I.hok.fresh (Nat.le_refl _))⟩
  have key : ∀ (ks : List (Key × V)) (ws : List (Key × Value)) (us : List Value), KV ks ws → us.length = ws.length → (∀ (j : Nat) (v : Value), us[j]? = some v → ∃ k x, ws[j]? = some (k, x) ∧ (mixKind X.prog X.w).is k v = true) → Vals (ks.map fun kv => kV kv.1) us := by
    intro ks ws us rr
    induction rr generalizing us with
    | nil =>
      intro hl _
      cases us with
      | nil => exact .nil
      | cons _ _ => cases hl
    | @cons p w' ks ws r t ih =>
      intro hl hi
      cases us with
      | nil => cases hl
      | cons u us =>
        obtain ⟨k, x, e1, e2⟩ := hi 0 u rfl
        cases e1
        refine .cons (by show RelV (kV p.1) u; rw [r.1]; exact relV_key e2) (ih us (by simpa using hl) fun j v e => ?_)
        exact hi (j + 1) v e
  exact key kvs vs acc.toList rv (by rw [Array.length_toList]; exact i1) fun j v e => i2 j v (by simpa using e)
end
end L2
end
section
set_option autoImplicit false
namespace L2
open PySem PySem.Spec PyProof.Rows PySem.W
def KOk {α : Type} (n : Nat) (P : α → Prop) : KasT α → Prop
  | .ret a => P a
  | .ask i j k => i < n ∧ j < n ∧ ∀ b, KOk n P (k b)
theorem KOk.bind {α β : Type} {n : Nat} {P : α → Prop} {Q : β → Prop} {f : α → KasT β} (hf : ∀ a, P a → KOk n Q (f a)) : ∀ {t : KasT α}, KOk n P t → KOk n Q (t.bind f)
  | .ret a, h => hf a h
  | .ask i j k, h => ⟨h.1, h.2.1, fun b => KOk.bind hf (h.2.2 b)⟩
def Pm (n : Nat) (p : Array Nat) : Prop := p.Perm (List.range n).toArray
theorem Pm.lt {n : Nat} {p : Array Nat} (h : Pm n p) (h0 : 0 < n) (i : Nat) : p.getD i 0 < n := by
  by_cases hi : i < p.size
  · have e : p.getD i 0 = p[i] := by simp [Array.getD, hi]
    rw [e]
    have m : p[i] ∈ (List.range n).toArray := h.mem_iff.mp (Array.getElem_mem hi)
    simpa using m
  · have e : p.getD i 0 = 0 := by simp [Array.getD, hi]
    rw [e]
    exact h0
theorem Pm.rev {n : Nat} {p : Array Nat} (h : Pm n p) (i j : Nat) : Pm n (kas_rev p i j) := Array.Perm.trans (mirror_perm p i j _) h
theorem Pm.bub {n : Nat} {p : Array Nat} (h : Pm n p) (k d : Nat) : Pm n (bubble p k d) := Array.Perm.trans (bubble_perm p k d) h
section
variable {n : Nat} (h0 : 0 < n)
include h0
theorem ok_asc {p : Array Nat} (h : Pm n p) : ∀ (f m : Nat), KOk n (fun _ => True) (kas_asc p f m)
  | 0, m => trivial
  | f + 1, m => ⟨h.lt h0 _, h.lt h0 _, fun b => by
      cases b with
      | true => exact trivial
      | false => exact ok_asc h f (m + 1)⟩
theorem ok_desc : ∀ (f : Nat) {p : Array Nat} (m q : Nat), Pm n p → KOk n (fun r => Pm n r.1) (kas_desc f p m q)
  | 0, p, m, q, h => h
  | f + 1, p, m, q, h => ⟨h.lt h0 _, h.lt h0 _, fun b => by
      cases b with
      | true =>
        show KOk n _ (if true = true then _ else _)
        rw [if_pos rfl]
        split
        · exact ok_desc f _ _ (h.rev _ _)
        · exact ok_desc f _ _ h
      | false =>
        refine ⟨h.lt h0 _, h.lt h0 _, fun d => ?_⟩
        cases d with
        | true => exact h
        | false => exact ok_desc f _ _ h⟩
theorem ok_tail3 (m nrem : Nat) {p : Array Nat} (h : Pm n p) : KOk n (fun r => Pm n r.2) (kas_tail3 m nrem p) := by
  unfold kas_tail3
  refine KOk.bind (P := fun _ => True) (fun a _ => ?_) (ok_asc h0 (h.rev 0 m) _ _)
  exact h.rev 0 m
theorem ok_descPart (m nrem : Nat) {p : Array Nat} (h : Pm n p) : KOk n (fun r => Pm n r.2) (kas_descPart m nrem p) := by
  refine KOk.bind (fun r hr => ?_) (ok_desc h0 _ _ _ h)
  split
  · exact ok_tail3 h0 _ _ (hr.rev _ _)
  · exact ok_tail3 h0 _ _ hr
theorem ok_count (nrem : Nat) {p : Array Nat} (h : Pm n p) : KOk n (fun r => Pm n r.2) (kas_count nrem p) := by
  refine KOk.bind (fun r _ => ?_) (ok_asc h0 h _ _)
  split
  · exact h
  · split
    · refine ⟨h.lt h0 _, h.lt h0 _, fun b => ?_⟩
      cases b with
      | true => exact h
      | false => exact ok_descPart h0 _ _ (h.rev _ _)
    · exact ok_descPart h0 _ _ h
theorem ok_place {p : Array Nat} (h : Pm n p) (k : Nat) : ∀ (f l r : Nat), KOk n (fun _ => True) (kas_place p k f l r)
  | 0, l, r => trivial
  | f + 1, l, r => by
    unfold kas_place
    split
    · exact trivial
    · refine ⟨h.lt h0 _, h.lt h0 _, fun b => ?_⟩
      cases b with
      | true => exact ok_place h k f _ _
      | false => exact ok_place h k f _ _
theorem ok_bin : ∀ (f : Nat) {p : Array Nat} (k : Nat), Pm n p → KOk n (Pm n) (kas_bin f p k)
  | 0, p, k, h => h
  | f + 1, p, k, h => KOk.bind (fun l _ => ok_bin f (k + 1) (h.bub _ _)) (ok_place h0 h k _ _ _)
theorem ok_sort : KOk n (Pm n) (kas_sort n) := by
  refine KOk.bind (fun r hr => ?_) (ok_count h0 n (Array.Perm.refl _))
  split
  · exact ok_bin h0 _ _ hr
  · exact hr
end
theorem Pm.out {vs : List Value} {p : Array Nat} (h : Pm vs.length p) : (p.toList.map fun i => vs.getD i Value.none).Perm vs := by
  have h1 : p.toList.Perm (List.range vs.length) := by simpa using h.toList
  have h2 := h1.map fun i => vs.getD i Value.none
  have h3 : (List.range vs.length).map (fun i => vs.getD i Value.none) = vs := by
    apply List.ext_getElem (by simp)
    intro i a b
    simp [b]
  rw [h3] at h2
  exact h2
section
variable {prog : Program} {w : World} {A : Around} {E : Value → Shared → Prop} {s : Shared}
structure Cmps (prog : Program) (w : World) (A : Around) (κ : SortKind) (vs : List Value) (h : Heap) : Prop where
  kind : ∀ (s' : Shared) (Q : SortKind → Shared → Prop) (E : Value → Shared → Prop), (∀ b o, h.get? b = some o → s'.heap.get? b = some o) → Q κ s' → wpAny (model prog w) A (keyKind' vs.toArray) Q E s'
  lt : ∀ x ∈ vs, ∀ y ∈ vs, ∀ (s' : Shared) (C : Bool → Shared → Prop), (∀ b o, h.get? b = some o → s'.heap.get? b = some o) → (∀ b, C b s') → wpAny (model prog w) A (keyLt' κ x y) C (fun _ _ => False) s'
end
section
variable {X : Cx}
end
end L2
end
section
set_option autoImplicit false
namespace L2
open PySem PySem.Spec PyProof.Rows
theorem bt_sorted : bootBuiltins "sorted" = some (.builtin "sorted") := by decide +kernel
theorem bt_dict : bootBuiltins "dict" = some (.type "dict") := by decide +kernel
section
variable {X : Cx} {K : PySem.W.Frag}
theorem pi_list_K {tg l : Expr} {tl : TE} (h : X.K = K) (hl : PE X l tl) : PI X tg l (iList K tl) := by subst h; exact pi_list hl
theorem pi_tup_K {tg l : Expr} {tl : TE} (h : X.K = K) (hl : PE X l tl) : PI X tg l (iTup K tl) := by subst h; exact pi_tup hl
theorem call_any_K (h : X.K = K) (hc : X.calm = true) : CallR X (.builtin "any") (fun xs H Q => ∃ (p : Addr) (bs : List Bool), xs = [.ref p] ∧ SqL K H p (bs.map V.bl) ∧ Q (.bl (bs.any id)) H) := by subst h; exact call_any hc
end
end L2
end
section
set_option autoImplicit false
namespace L2
open PySem PyProof.Rows
theorem comp_by {J : It} {n own : Nat} {fr : List Nat} {g : TG} {tc : TT} {te : TE} {σ : St} {Q : VK} {D : Addr} {H0 : Hp} (Pv : Nat → List V → Hp → Prop) (h0 : Pv 0 [] H0) (stop : ∀ ys H, Pv n ys H → J.stop n H ∧ Q (.ref D) H)
    (go : ∀ i ys H, i < n → Pv i ys H → J.go i H ∧ ∀ x H', J.yld i H x H' → ∀ σo : St, σo.length = own → g x (σo ++ frv σ fr) H' fun σ2 H2 => (∃ σo' : St, σo'.length = own ∧ σ2 = σo' ++ frv σ fr) ∧
      tc σ2 H2 fun b H3 => if b = true then te σ2 H3 fun y H4 => ys.length < sizeLine ∧ H4 D = some (.lst ys) ∧ ∃ m', m' < n - i ∧ (m' = n - (i + 1) ∧ i + 1 ≤ n ∧ Pv (i + 1) (ys ++ [y]) (upd H4 D (.lst (ys ++ [y])))) else ∃ m', m' < n - i ∧ (m' = n - (i + 1) ∧ i + 1 ≤ n ∧ Pv (i + 1) ys H3)) :
    CompB own fr g tc te σ Q J D H0 := by
  refine ⟨fun i m ys H => m = n - i ∧ i ≤ n ∧ Pv i ys H, ⟨n, by simp, Nat.zero_le _, h0⟩, ?_⟩
  rintro i m ys H ⟨rfl, hi, p⟩
  by_cases hlt : i < n
  · exact .inr (go i ys H hlt p)
  · have e : i = n := by omega
    subst e
    exact .inl (stop ys H p)
theorem less_by {n i : Nat} (h : i < n) {P : Prop} (p : P) : ∃ m', m' < n - i ∧ (m' = n - (i + 1) ∧ i + 1 ≤ n ∧ P) := ⟨n - (i + 1), by omega, rfl, h, p⟩
theorem own1 {σo : St} (h : σo.length = 1) : ∃ o, σo = [o] := by
  cases σo with
  | nil => cases h
  | cons o r =>
    cases r with
    | nil => exact ⟨o, rfl⟩
    | cons _ _ => cases h
theorem own2 {σo : St} (h : σo.length = 2) : ∃ o o', σo = [o, o'] := by
  cases σo with
  | nil => cases h
  | cons o r =>
    cases r with
    | nil => cases h
    | cons o' r =>
      cases r with
      | nil => exact ⟨o, o', rfl⟩
      | cons _ _ => cases h
theorem nodup_map {α β : Type} {f : α → β} : ∀ {l : List α}, (∀ a ∈ l, ∀ b ∈ l, f a = f b → a = b) → l.Nodup → (l.map f).Nodup
  | [], _, _ => List.nodup_nil
  | a :: r, hi, hn => by
    obtain ⟨h1, h2⟩ := List.nodup_cons.mp hn
    rw [List.map_cons]
    refine List.nodup_cons.mpr ⟨fun m => ?_, nodup_map (fun x hx y hy => hi x (List.mem_cons_of_mem _ hx) y (List.mem_cons_of_mem _ hy)) h2⟩
    obtain ⟨b, hb, e⟩ := List.mem_map.mp m
    exact h1 (hi b (List.mem_cons_of_mem _ hb) a List.mem_cons_self e ▸ hb)
theorem nodup_le {α : Type} [DecidableEq α] : ∀ {l m : List α}, l.Nodup → (∀ x ∈ l, x ∈ m) → l.length ≤ m.length
  | [], _, _, _ => Nat.zero_le _
  | a :: r, m, hn, hs => by
    obtain ⟨h1, h2⟩ := List.nodup_cons.mp hn
    have hm : a ∈ m := hs a List.mem_cons_self
    have := nodup_le (l := r) (m := m.erase a) h2 fun x hx => by
      have ne : x ≠ a := fun e => h1 (e ▸ hx)
      exact (List.mem_erase_of_ne ne).mpr (hs x (List.mem_cons_of_mem _ hx))
    have e := List.length_erase_of_mem hm
    have p : 0 < m.length := List.length_pos_of_mem hm
    rw [List.length_cons]
    omega
theorem hu10 {A : Around} {k : Nat} (hr : Room k A) : A.units + 10 < cLine := by
  have := hr.units
  omega
def Pu (H : Hp) (p : Addr) : Prop := ∃ a b c : Int, H p = some (.lst [.int a, .int b, .int c])
theorem Pu.ne {H : Hp} {p u : Addr} {us : List Str} (h : Pu H p) (g : H u = some (.lst (us.map V.str))) : u ≠ p := by
  obtain ⟨a, b, c, e⟩ := h
  exact (ne_of e g strs_ne).symm
theorem Pu.upd {H : Hp} {p : Addr} {a b c : Int} : Pu (upd H p (.lst [.int a, .int b, .int c])) p := ⟨a, b, c, upd_same⟩
theorem Pu.same {H H' : Hp} {p : Addr} (h : Pu H p) (s : Same H H') : Pu H' p := by
  obtain ⟨a, b, c, e⟩ := h
  exact ⟨a, b, c, s p _ e⟩
theorem Pu.neN {H : Hp} {p q : Addr} (h : Pu H p) (g : H q = none) : p ≠ q := by
  obtain ⟨a, b, c, e⟩ := h
  exact ne_of_none e g
theorem Pu.upd_ne {H : Hp} {p q : Addr} {o : HO} (h : Pu H p) (g : p ≠ q) : Pu (L2.upd H q o) p := by
  obtain ⟨a, b, c, e⟩ := h
  exact ⟨a, b, c, by rw [L2.upd_ne g]; exact e⟩
theorem itePos {c A B : Prop} [Decidable c] (h : c) (a : A) : if c then A else B := by
  rw [if_pos h]
  exact a
theorem iteNeg {c A B : Prop} [Decidable c] (h : ¬ c) (b : B) : if c then A else B := by
  rw [if_neg h]
  exact b
def abc : Str := "abcdefghijklmnopqrstuvwxyz"
def letters : List Str := abc.cps.toList.map fun c => ⟨#[c]⟩
theorem letters_len : letters.length = 26 := by decide +kernel
theorem abc_len : abc.cps.size = 26 := by decide +kernel
theorem letters_one : ∀ x ∈ letters, x.length = 1 := by
  intro x hx
  obtain ⟨c, _, rfl⟩ := List.mem_map.mp hx
  rfl
theorem letters_nodup : letters.Nodup := by decide +kernel
theorem str_app_inj {a b z : Str} (ha : a.length = 1) (hb : b.length = 1) (h : a ++ z = b ++ z) : a = b := by
  obtain ⟨⟨a⟩⟩ := a
  obtain ⟨⟨b⟩⟩ := b
  have h' : (a ++ z.cps.toList) = (b ++ z.cps.toList) := by
    have e : ∀ y : List Nat, ((⟨⟨y⟩⟩ : Str) ++ z).cps.toList = y ++ z.cps.toList := fun y => by
      show ((⟨y⟩ : Array Nat) ++ z.cps).toList = _
      rw [Array.toList_append]
    rw [← e, ← e, h]
  have := List.append_cancel_right h'
  rw [this]
theorem str_len_app (a b : Str) : (a ++ b).length = a.length + b.length := by
  show (a.cps ++ b.cps).size = _
  rw [Array.size_append]
  rfl
theorem some_letter {us : List Str} (h : us.length ≤ 25) (z : Str) : ∃ c ∈ letters, ¬ (c ++ z) ∈ us := by
  apply Classical.byContradiction
  intro hn
  have all : ∀ c ∈ letters, (c ++ z) ∈ us := fun c hc => Classical.byContradiction fun hx => hn ⟨c, hc, hx⟩
  have nd : (letters.map (· ++ z)).Nodup := by
    exact nodup_map (fun a ha b hb e => str_app_inj (letters_one a ha) (letters_one b hb) e) letters_nodup
  have := nodup_le nd fun x hx => by
    obtain ⟨c, hc, rfl⟩ := List.mem_map.mp hx
    exact all c hc
  rw [List.length_map, letters_len] at this
  omega
theorem slice_len (z : Str) (lo hi : Option Int) : (Txt.slice z lo hi).length ≤ z.length := Txt.slice_le z lo hi
theorem for_enum {K : PySem.W.Frag} {a : Addr} {xs : List V} {g : TG} {tb : TS} {D : Ends} {σ : St} {H : Hp} (Pv : Nat → St → Hp → Prop) (h0 : Pv 0 σ H) (hl : ∀ i σ H, i ≤ xs.length → Pv i σ H → SqL K H a xs)
    (hs : ∀ i x σ H p, xs[i]? = some x → Pv i σ H → H p = none → g (.ref p) σ (upd H p (.tup [.int i, x])) fun σ2 H2 => tb { D with nx := Pv (i + 1), ct := Pv (i + 1), bk := D.nx } σ2 H2) (hd : ∀ σ H, Pv xs.length σ H → D.nx σ H) :
    ∃ W : Nat → Nat → St → Hp → Prop, (∃ m, W 0 m σ H) ∧ ∀ i m σ H, W i m σ H →
      ((Ite K a).stop i H ∧ D.nx σ H) ∨ ((Ite K a).go i H ∧ ∃ N : St → Hp → Prop, (∀ σ' H', N σ' H' → ∃ m', m' < m ∧ W (i + 1) m' σ' H') ∧ ∀ x H', (Ite K a).yld i H x H' → g x σ H' fun σ2 H2 => tb { D with nx := N, ct := N, bk := D.nx } σ2 H2) := by
  refine ⟨fun i m σ H => m = xs.length - i ∧ i ≤ xs.length ∧ Pv i σ H, ⟨xs.length, by simp, Nat.zero_le _, h0⟩, ?_⟩
  rintro i m σ H ⟨rfl, hi, p⟩
  have q := hl i σ H hi p
  by_cases hlt : i < xs.length
  · refine .inr ⟨⟨xs, xs[i], q, by simp [hlt]⟩, Pv (i + 1), fun σ' H' p' => ⟨xs.length - (i + 1), by omega, rfl, hlt, p'⟩, fun x H' y => ?_⟩
    obtain ⟨r, hr, rfl, y⟩ := y
    have e := y xs xs[i] q (by simp [hlt])
    subst e
    exact hs i xs[i] σ _ r (by simp [hlt]) p hr
  · have e : i = xs.length := by omega
    subst e
    exact .inl ⟨⟨xs, q, Nat.le_refl _⟩, hd σ H p⟩
end L2
end
section
set_option autoImplicit false
namespace L2
open PySem PySem.Spec PyProof.Rows
section
variable {X : Cx} {K : PySem.W.Frag}
def rNeE (K : PySem.W.Frag) : R2 := fun x y H Q => ∃ (a b : Addr) (xs : List V), x = .ref a ∧ y = .ref b ∧ SqL K H a xs ∧ SqL K H b [] ∧ Q (.bl (!xs.isEmpty)) H
def rEqE (K : PySem.W.Frag) : R2 := fun x y H Q => ∃ (a b : Addr) (xs : List V), x = .ref a ∧ y = .ref b ∧ SqL K H a xs ∧ SqL K H b [] ∧ Q (.bl xs.isEmpty) H
theorem op_neE (hK : X.K = K) (hu : X.A.units < cLine) : OpR X (compareOp .NotEq) (rNeE K) := by
  subst hK
  intro pins s σ H x y v u Q I rx ry h
  obtain ⟨a, b, xs, rfl, rfl, ha, hb, q⟩ := h
  cases rx
  cases ry
  obtain ⟨its, r, p, _⟩ := I.list ha
  obtain ⟨its2, r2, p2, _⟩ := I.list hb
  have e2 : its2 = [] := r2.nil_iff.mpr rfl
  subst e2
  cases xs with
  | nil =>
    have e1 : its = [] := r.nil_iff.mpr rfl
    subst e1
    exact SeqAt.RcNeAt.lists (A := X.A) (s := s) (e := fun _ => true) p.isList p2.isList rfl hu (fun j h1 _ => by simp at h1) X.prog X.w X.xe _ ⟨.bl false, H, I, rfl, q⟩
  | cons x0 xr =>
    have hl := r.length
    refine SeqAt.RcNeAt.lists_lengths (A := X.A) (s := s) p.isList p2.isList ?_ hu X.prog X.w X.xe _ ⟨.bl true, H, I, rfl, q⟩
    rw [List.length_cons] at hl
    have : its.length ≠ 0 := by omega
    simpa using this
theorem op_eqE (hK : X.K = K) (hu : X.A.units < cLine) : OpR X (compareOp .Eq) (rEqE K) := by
  subst hK
  intro pins s σ H x y v u Q I rx ry h
  obtain ⟨a, b, xs, rfl, rfl, ha, hb, q⟩ := h
  cases rx
  cases ry
  obtain ⟨its, r, p, _⟩ := I.list ha
  obtain ⟨its2, r2, p2, _⟩ := I.list hb
  have e2 : its2 = [] := r2.nil_iff.mpr rfl
  subst e2
  cases xs with
  | nil =>
    have e1 : its = [] := r.nil_iff.mpr rfl
    subst e1
    exact SeqAt.RcAt.lists (A := X.A) (s := s) (e := fun _ => true) p.isList p2.isList rfl hu (fun j h1 _ => by simp at h1) X.prog X.w X.xe _ ⟨.bl true, H, I, rfl, q⟩
  | cons x0 xr =>
    have hl := r.length
    refine SeqAt.RcAt.lists_lengths (A := X.A) (s := s) p.isList p2.isList ?_ hu X.prog X.w X.xe _ ⟨.bl false, H, I, rfl, q⟩
    rw [List.length_cons] at hl
    have : its.length ≠ 0 := by omega
    simpa using this
def iSeq (K : PySem.W.Frag) (tl : TE) : TI := fun σ H R => tl σ H fun x H1 => ∃ a, x = .ref a ∧ ((∃ xs, SqT K H1 a xs ∧ R (Itt K a) H1) ∨ ∃ xs, SqL K H1 a xs ∧ R (Itl K a) H1)
theorem pi_seq {tg l : Expr} {tl : TE} (hl : PE X l tl) (hK : X.K = K) : PI X tg l (iSeq K tl) := by
  subst hK
  intro pins s σ H R I h
  refine thn (hl pins s σ H _ I h) fun v s1 ⟨x, H1, I1, r1, a, e, q1⟩ => ?_
  subst e
  cases r1
  rcases q1 with ⟨xs, hq, q⟩ | ⟨xs, hq, q⟩
  · obtain ⟨its, rv, p, hz⟩ := I1.tuple hq
    refine wpAny_pyIter_tuple (show s1.heap.IsTuple a its.toArray from p) ?_
    refine ⟨s1.heap.objs.size, [s1.heap.objs.size], _, _, H1, rfl, I1.kept (t' := s1.toks) fun b o e => Heap.get?_push_of_some _ e, turn_tuple a _, ⟨_, Heap.get?_push_size _ rfl, rfl, rfl⟩, fun b hb => ?_, q⟩
    have e : b = s1.heap.objs.size := by simpa using hb
    subst e
    exact I1.fpOk (Nat.le_refl _) (I1.hok.fresh (Nat.le_refl _))
  · obtain ⟨its, rv, p, hz⟩ := I1.list hq
    refine wpAny_pyIter_list p.isList ?_
    refine ⟨s1.heap.objs.size, [s1.heap.objs.size], _, _, H1, rfl, I1.kept (t' := s1.toks) fun b o e => Heap.get?_push_of_some _ e, turn_list a _, ⟨_, Heap.get?_push_size _ rfl, rfl, rfl⟩, fun b hb => ?_, q⟩
    have e : b = s1.heap.objs.size := by simpa using hb
    subst e
    exact I1.fpOk (Nat.le_refl _) (I1.hok.fresh (Nat.le_refl _))
theorem call_len_seqK (hK : X.K = K) : CallR X (.builtin "len") (fun xs H Q => ∃ p ys, xs = [.ref p] ∧ (SqL K H p ys ∨ SqT K H p ys) ∧ Q (.int ys.length) H) := by subst hK; exact call_len_seq
theorem call_list_ofK (hK : X.K = K) : CallR X (.type "list") (fun xs H Q => ∃ p ys, xs = [.ref p] ∧ (SqL K H p ys ∨ SqT K H p ys) ∧ ∀ l, H l = none → Q (.ref l) (upd H l (.lst ys))) := by subst hK; exact call_list_of
end
end L2
end
section
set_option autoImplicit false
namespace K23
open PySem L2
def top (i : Nat) : Stmt := PySem.Challenge.pw_warmrows_k23_tables_that_programs_begin.main.body.getD i (.Pass ⟨0, 0, 0, 0⟩)
structure Adr where
  elders_first : Addr × FuncData
  tell_orders : Addr × FuncData
  quarrel_among : Addr × FuncData
  rows_by : Addr × FuncData
  merge_rows : Addr × FuncData
  first_free : Addr × FuncData
  ring_among : Addr × FuncData
  hold_of : Addr × FuncData
  family_of : Addr × FuncData
  table_of : Addr × FuncData
  own_deeds : Addr × FuncData
  _law_cell : Addr × FuncData
  _law_purse : Addr × FuncData
  _law_take : Addr × FuncData
  _law_word : Addr × FuncData
  _law_words : Addr × FuncData
  _law_merge : Addr × FuncData
  _law_some : Addr × FuncData
  _law_kinds : Addr × FuncData
  _law_program_of : Addr × FuncData
  _law_rising : Addr × FuncData
  _law_due : Addr × FuncData
  _law_same : Addr × FuncData
  law : Addr × FuncData
structure Defs (K : PySem.W.Frag) (mg : Str → Option Value) (t : Adr) : Prop where
  elders_first : Fnd K mg "elders_first" (top 1) ["family"] t.elders_first.1 t.elders_first.2
  tell_orders : Fnd K mg "tell_orders" (top 3) ["family"] t.tell_orders.1 t.tell_orders.2
  quarrel_among : Fnd K mg "quarrel_among" (top 4) ["kinds", "told"] t.quarrel_among.1 t.quarrel_among.2
  rows_by : Fnd K mg "rows_by" (top 5) ["elders", "told"] t.rows_by.1 t.rows_by.2
  merge_rows : Fnd K mg "merge_rows" (top 6) ["kind", "rows"] t.merge_rows.1 t.merge_rows.2
  first_free : Fnd K mg "first_free" (top 7) ["left"] t.first_free.1 t.first_free.2
  ring_among : Fnd K mg "ring_among" (top 8) ["left"] t.ring_among.1 t.ring_among.2
  hold_of : Fnd K mg "hold_of" (top 9) ["name", "left"] t.hold_of.1 t.hold_of.2
  family_of : Fnd K mg "family_of" (top 11) ["table"] t.family_of.1 t.family_of.2
  table_of : Fnd K mg "table_of" (top 13) ["program"] t.table_of.1 t.table_of.2
  own_deeds : Fnd K mg "own_deeds" (top 14) ["deeds", "kind"] t.own_deeds.1 t.own_deeds.2
  _law_cell : Fnd K mg "_law_cell" (top 16) ["_law_script", "_law_k"] t._law_cell.1 t._law_cell.2
  _law_purse : Fnd K mg "_law_purse" (top 17) ["_law_cell_here"] t._law_purse.1 t._law_purse.2
  _law_take : Fnd K mg "_law_take" (top 18) ["_law_purse_here", "_law_many"] t._law_take.1 t._law_take.2
  _law_word : Fnd K mg "_law_word" (top 19) ["_law_purse_here", "_law_used"] t._law_word.1 t._law_word.2
  _law_words : Fnd K mg "_law_words" (top 20) ["_law_purse_here", "_law_many", "_law_used"] t._law_words.1 t._law_words.2
  _law_merge : Fnd K mg "_law_merge" (top 21) ["_law_kind", "_law_rows"] t._law_merge.1 t._law_merge.2
  _law_some : Fnd K mg "_law_some" (top 22) ["_law_purse_here", "_law_menu", "_law_most"] t._law_some.1 t._law_some.2
  _law_kinds : Fnd K mg "_law_kinds" (top 23) ["_law_purse_here", "_law_many", "_law_used", "_law_fields"] t._law_kinds.1 t._law_kinds.2
  _law_program_of : Fnd K mg "_law_program_of" (top 24) ["_law_purse_here"] t._law_program_of.1 t._law_program_of.2
  _law_rising : Fnd K mg "_law_rising" (top 25) ["_law_names"] t._law_rising.1 t._law_rising.2
  _law_due : Fnd K mg "_law_due" (top 26) ["_law_program"] t._law_due.1 t._law_due.2
  _law_same : Fnd K mg "_law_same" (top 27) ["_law_told", "_law_due_here"] t._law_same.1 t._law_same.2
  law : Fnd K mg "law" (top 28) ["_law_script"] t.law.1 t.law.2
  b_abs : mg "abs" = none
  b_all : mg "all" = none
  b_any : mg "any" = none
  b_bool : mg "bool" = none
  b_dict : mg "dict" = none
  b_enumerate : mg "enumerate" = none
  b_int : mg "int" = none
  b_isinstance : mg "isinstance" = none
  b_len : mg "len" = none
  b_list : mg "list" = none
  b_max : mg "max" = none
  b_min : mg "min" = none
  b_range : mg "range" = none
  b_sorted : mg "sorted" = none
  b_str : mg "str" = none
  b_tuple : mg "tuple" = none
theorem sc_elders_first : FnScope ["family", "placed", "waiting", "ready", "kind"] ["family"] (defScope (top 1)) := ⟨rfl, rfl, rfl, by decide +kernel, rfl, by decide +kernel, by decide +kernel⟩
theorem sc_tell_orders : FnScope ["family", "elders_of", "told", "kind", "quarrel"] ["family"] (defScope (top 3)) := ⟨rfl, rfl, rfl, by decide +kernel, rfl, by decide +kernel, by decide +kernel⟩
theorem sc_quarrel_among : FnScope ["kinds", "told", "kind"] ["kinds", "told"] (defScope (top 4)) := ⟨rfl, rfl, rfl, by decide +kernel, rfl, by decide +kernel, by decide +kernel⟩
theorem sc_rows_by : FnScope ["elders", "told"] ["elders", "told"] (defScope (top 5)) := ⟨rfl, rfl, rfl, by decide +kernel, rfl, by decide +kernel, by decide +kernel⟩
theorem sc_merge_rows : FnScope ["kind", "rows", "order", "left", "first"] ["kind", "rows"] (defScope (top 6)) := ⟨rfl, rfl, rfl, by decide +kernel, rfl, by decide +kernel, by decide +kernel⟩
theorem sc_first_free : FnScope ["left", "held", "row", "name"] ["left"] (defScope (top 7)) := ⟨rfl, rfl, rfl, by decide +kernel, rfl, by decide +kernel, by decide +kernel⟩
theorem sc_ring_among : FnScope ["left", "name", "holds", "ring"] ["left"] (defScope (top 8)) := ⟨rfl, rfl, rfl, by decide +kernel, rfl, by decide +kernel, by decide +kernel⟩
theorem sc_hold_of : FnScope ["name", "left", "number"] ["name", "left"] (defScope (top 9)) := ⟨rfl, rfl, rfl, by decide +kernel, rfl, by decide +kernel, by decide +kernel⟩
theorem sc_family_of : FnScope ["table"] ["table"] (defScope (top 11)) := ⟨rfl, rfl, rfl, by decide +kernel, rfl, by decide +kernel, by decide +kernel⟩
theorem sc_table_of : FnScope ["program", "kinds", "deeds", "run", "told", "rows", "kind", "elders", "fields"] ["program"] (defScope (top 13)) := ⟨rfl, rfl, rfl, by decide +kernel, rfl, by decide +kernel, by decide +kernel⟩
theorem sc_own_deeds : FnScope ["deeds", "kind"] ["deeds", "kind"] (defScope (top 14)) := ⟨rfl, rfl, rfl, by decide +kernel, rfl, by decide +kernel, by decide +kernel⟩
theorem sc__law_cell : FnScope ["_law_script", "_law_k", "_law_state", "_law_cell_here"] ["_law_script", "_law_k"] (defScope (top 16)) := ⟨rfl, rfl, rfl, by decide +kernel, rfl, by decide +kernel, by decide +kernel⟩
theorem sc__law_purse : FnScope ["_law_cell_here", "_law_digits"] ["_law_cell_here"] (defScope (top 17)) := ⟨rfl, rfl, rfl, by decide +kernel, rfl, by decide +kernel, by decide +kernel⟩
theorem sc__law_take : FnScope ["_law_purse_here", "_law_many", "_law_state", "_law_taken"] ["_law_purse_here", "_law_many"] (defScope (top 18)) := ⟨rfl, rfl, rfl, by decide +kernel, rfl, by decide +kernel, by decide +kernel⟩
theorem sc__law_word : FnScope ["_law_purse_here", "_law_used", "_law_menu", "_law_word_here", "_law_k", "_law_first"] ["_law_purse_here", "_law_used"] (defScope (top 19)) := ⟨rfl, rfl, rfl, by decide +kernel, rfl, by decide +kernel, by decide +kernel⟩
theorem sc__law_words : FnScope ["_law_purse_here", "_law_many", "_law_used", "_law_words_here", "_law_k"] ["_law_purse_here", "_law_many", "_law_used"] (defScope (top 20)) := ⟨rfl, rfl, rfl, by decide +kernel, rfl, by decide +kernel, by decide +kernel⟩
theorem sc__law_merge : FnScope ["_law_kind", "_law_rows", "_law_order", "_law_good"] ["_law_kind", "_law_rows"] (defScope (top 21)) := ⟨rfl, rfl, rfl, by decide +kernel, rfl, by decide +kernel, by decide +kernel⟩
theorem sc__law_some : FnScope ["_law_purse_here", "_law_menu", "_law_most", "_law_some_here", "_law_k", "_law_one"] ["_law_purse_here", "_law_menu", "_law_most"] (defScope (top 22)) := ⟨rfl, rfl, rfl, by decide +kernel, rfl, by decide +kernel, by decide +kernel⟩
theorem sc__law_kinds : FnScope ["_law_purse_here", "_law_many", "_law_used", "_law_fields", "_law_names", "_law_kinds_here", "_law_orders", "_law_k", "_law_kind", "_law_elders", "_law_order"] ["_law_purse_here", "_law_many", "_law_used", "_law_fields"] (defScope (top 23)) := ⟨rfl, rfl, rfl, by decide +kernel, rfl, by decide +kernel, by decide +kernel⟩
theorem sc__law_program_of : FnScope ["_law_purse_here", "_law_fields", "_law_kinds_here", "_law_turn", "_law_names", "_law_words_here", "_law_deeds", "_law_keys", "_law_only", "_law_k", "_law_owner", "_law_key", "_law_block"] ["_law_purse_here"] (defScope (top 24)) := ⟨rfl, rfl, rfl, by decide +kernel, rfl, by decide +kernel, by decide +kernel⟩
theorem sc__law_rising : FnScope ["_law_names", "_law_left", "_law_rising_here", "_law_least"] ["_law_names"] (defScope (top 25)) := ⟨rfl, rfl, rfl, by decide +kernel, rfl, by decide +kernel, by decide +kernel⟩
theorem sc__law_due : FnScope ["_law_program", "_law_orders", "_law_table", "_law_kind", "_law_elders", "_law_fields", "_law_bodies", "_law_k", "_law_deeds"] ["_law_program"] (defScope (top 26)) := ⟨rfl, rfl, rfl, by decide +kernel, rfl, by decide +kernel, by decide +kernel⟩
theorem sc__law_same : FnScope ["_law_told", "_law_due_here"] ["_law_told", "_law_due_here"] (defScope (top 27)) := ⟨rfl, rfl, rfl, by decide +kernel, rfl, by decide +kernel, by decide +kernel⟩
theorem sc_law : FnScope ["_law_script", "_law_k", "_law_program"] ["_law_script"] (defScope (top 28)) := ⟨rfl, rfl, rfl, by decide +kernel, rfl, by decide +kernel, by decide +kernel⟩
end K23
end
section
set_option autoImplicit false
namespace L2
open PySem PyProof.Rows
def heldIn (rows : List (List Str)) (x : Str) : Bool := rows.any fun o => decide (x ∈ o.drop 1)
def freeOf (rows : List (List Str)) : List Str → List Str
  | [] => []
  | x :: _ => if heldIn rows x = true then [] else [x]
def frees (rows : List (List Str)) : List Str := rows.flatMap (freeOf rows)
def outOf (x : Str) (r : List Str) : List Str := r.filter fun y => decide (y ≠ x)
def full (rows : List (List Str)) : List (List Str) := rows.filter fun r => !r.isEmpty
inductive Mg : List (List Str) → Option (List Str) → Prop where
  | nil : Mg [] (some [])
  | stuck {rows : List (List Str)} : rows ≠ [] → frees rows = [] → Mg rows none
  | step {rows : List (List Str)} {x : Str} {more : List Str} {r : Option (List Str)} : frees rows = x :: more → Mg (full (rows.map (outOf x))) r → Mg rows (r.map (x :: ·))
theorem Mg.det {rows : List (List Str)} {r : Option (List Str)} (h : Mg rows r) : ∀ {r' : Option (List Str)}, Mg rows r' → r = r' := by
  induction h with
  | nil =>
    intro r' h'
    cases h' with
    | nil => rfl
    | stuck h _ => exact absurd rfl h
    | step h _ => cases h
  | stuck h1 h2 =>
    intro r' h'
    cases h' with
    | nil => exact absurd rfl h1
    | stuck _ _ => rfl
    | step h _ => rw [h2] at h; cases h
  | step h1 _ ih =>
    intro r' h'
    cases h' with
    | nil => cases h1
    | stuck _ h => rw [h1] at h; cases h
    | step h hr =>
      rw [h1] at h
      cases h
      rw [ih hr]
def tot (rows : List (List Str)) : Nat := (rows.map List.length).sum
theorem tot_cons (r : List Str) (rows : List (List Str)) : tot (r :: rows) = r.length + tot rows := by
  unfold tot
  rw [List.map_cons, List.sum_cons]
theorem tot_full : ∀ (rows : List (List Str)), tot (full rows) = tot rows
  | [] => rfl
  | r :: rows => by
    unfold full
    rw [List.filter_cons]
    have ih := tot_full rows
    unfold full at ih
    cases r with
    | nil =>
      rw [tot_cons, ← ih]
      simp
    | cons y r => simp only [List.isEmpty_cons, Bool.not_false, if_true]; rw [tot_cons, tot_cons, ih]
theorem out_le (x : Str) (r : List Str) : (outOf x r).length ≤ r.length := List.length_filter_le _ _
theorem tot_out_le (x : Str) : ∀ (rows : List (List Str)), tot (rows.map (outOf x)) ≤ tot rows
  | [] => Nat.le_refl _
  | r :: rows => by
    rw [List.map_cons, tot_cons, tot_cons]
    have := tot_out_le x rows
    have := out_le x r
    omega
theorem tot_out_lt {x : Str} : ∀ {rows : List (List Str)}, (∃ r ∈ rows, x ∈ r) → tot (rows.map (outOf x)) < tot rows
  | [], ⟨_, h, _⟩ => nomatch h
  | r :: rows, ⟨q, hq, hx⟩ => by
    rw [List.map_cons, tot_cons, tot_cons]
    have h1 := tot_out_le x rows
    have h2 := out_le x r
    rcases List.mem_cons.mp hq with rfl | h
    · have : (outOf x q).length < q.length := by
        unfold outOf
        refine Nat.lt_of_le_of_ne (List.length_filter_le _ _) fun e => ?_
        have := List.length_filter_eq_length_iff.mp e x hx
        simp at this
      omega
    · have := tot_out_lt ⟨q, h, hx⟩
      omega
theorem frees_mem {rows : List (List Str)} {x : Str} (h : x ∈ frees rows) : ∃ r ∈ rows, r.head? = some x := by
  obtain ⟨r, hr, hx⟩ := List.mem_flatMap.mp h
  refine ⟨r, hr, ?_⟩
  cases r with
  | nil => cases hx
  | cons y r =>
    have hx : x ∈ (if heldIn rows y = true then [] else [y]) := hx
    by_cases hh : heldIn rows y = true
    · rw [if_pos hh] at hx
      cases hx
    · rw [if_neg hh] at hx
      rw [List.mem_singleton.mp hx]
      rfl
theorem tot_le_mem {rows : List (List Str)} {r : List Str} (h : r ∈ rows) : r.length ≤ tot rows := by
  induction rows with
  | nil => cases h
  | cons q rows ih =>
    rw [tot_cons]
    rcases List.mem_cons.mp h with rfl | h
    · omega
    · have := ih h
      omega
theorem full_len_le : ∀ (rows : List (List Str)), (full rows).length ≤ tot rows
  | [] => Nat.le_refl _
  | r :: rows => by
    have ih := full_len_le rows
    unfold full at ih ⊢
    rw [List.filter_cons, tot_cons]
    cases r with
    | nil => simpa using ih
    | cons y r => simp only [List.isEmpty_cons, Bool.not_false, if_true, List.length_cons]; omega
def RowsT (H : Hp) (vs : List V) (rows : List (List Str)) : Prop := Paired (fun (v : V) (r : List Str) => ∃ a, v = .ref a ∧ H a = some (.tup (r.map V.str))) vs rows
def RowsL (H : Hp) (vs : List V) (rows : List (List Str)) : Prop := Paired (fun (v : V) (r : List Str) => ∃ a, v = .ref a ∧ H a = some (.lst (r.map V.str))) vs rows
theorem RowsT.mono {H H' : Hp} {vs : List V} {rows : List (List Str)} (h : RowsT H vs rows) (s : Tups H H') : RowsT H' vs rows := Paired.mapP h fun v r ⟨a, e, q⟩ => ⟨a, e, s a _ q⟩
def RowsX (H : Hp) (D : Addr) (vs : List V) (rows : List (List Str)) : Prop := Paired (fun (v : V) (r : List Str) => ∃ a, v = .ref a ∧ a ≠ D ∧ H a = some (.lst (r.map V.str))) vs rows
theorem RowsX.l {H : Hp} {D : Addr} {vs : List V} {rows : List (List Str)} (h : RowsX H D vs rows) : RowsL H vs rows := Paired.mapP h fun v r ⟨a, e, _, q⟩ => ⟨a, e, q⟩
theorem RowsX.mono {H H' : Hp} {D : Addr} {vs : List V} {rows : List (List Str)} (h : RowsX H D vs rows) (s : Same H H') : RowsX H' D vs rows := Paired.mapP h fun v r ⟨a, e, n, q⟩ => ⟨a, e, n, s a _ q⟩
def RowsY (H : Hp) (D E : Addr) (vs : List V) (rows : List (List Str)) : Prop := Paired (fun (v : V) (r : List Str) => ∃ a, v = .ref a ∧ a ≠ D ∧ a ≠ E ∧ H a = some (.lst (r.map V.str))) vs rows
theorem RowsY.x {H : Hp} {D E : Addr} {vs : List V} {rows : List (List Str)} (h : RowsY H D E vs rows) : RowsX H E vs rows := Paired.mapP h fun v r ⟨a, e, _, n, q⟩ => ⟨a, e, n, q⟩
theorem RowsY.grow {H H' : Hp} {D E : Addr} {o : HO} {vs : List V} {rows : List (List Str)} (h : RowsY H D E vs rows) (s : Same H H') : RowsY (upd H' D o) D E vs rows := Paired.mapP h fun v r ⟨a, e, n, n', q⟩ => ⟨a, e, n, n', by rw [upd_ne n]; exact s a _ q⟩
theorem RowsY.mono {H H' : Hp} {D E : Addr} {vs : List V} {rows : List (List Str)} (h : RowsY H D E vs rows) (s : Same H H') : RowsY H' D E vs rows := Paired.mapP h fun v r ⟨a, e, n, n', q⟩ => ⟨a, e, n, n', s a _ q⟩
theorem RowsX.get {H : Hp} {D : Addr} {vs : List V} {rows : List (List Str)} (h : RowsX H D vs rows) {i : Nat} (hi : i < vs.length) : ∃ (a : Addr) (hr : i < rows.length), vs[i]? = some (.ref a) ∧ a ≠ D ∧ H a = some (.lst (rows[i].map V.str)) := by
  have hr : i < rows.length := by rw [← Paired.length h]; exact hi
  obtain ⟨a, e, n, q⟩ := paired_get h i hi hr
  exact ⟨a, hr, by rw [List.getElem?_eq_getElem hi, e], n, q⟩
theorem at0 (y : Str) (r : List Str) : atI ((y :: r).map V.str) 0 = some (.str y) := atI_nat (j := 0) rfl
theorem free_len (R : List (List Str)) : ∀ (rows : List (List Str)), (rows.flatMap (freeOf R)).length ≤ rows.length
  | [] => Nat.le_refl _
  | r :: rows => by
    rw [List.flatMap_cons, List.length_append, List.length_cons]
    have := free_len R rows
    have : (freeOf R r).length ≤ 1 := by
      cases r with
      | nil => exact Nat.zero_le _
      | cons y r =>
        show (if heldIn R y = true then [] else [y]).length ≤ 1
        split <;> simp
    omega
theorem pairedSnoc {α β : Type} {F : α → β → Prop} {as : List α} {bs : List β} {a : α} {b : β} (h : Paired F as bs) (hy : F a b) : Paired F (as ++ [a]) (bs ++ [b]) := by
  induction h with
  | nil => exact .cons hy .nil
  | cons a _ ih => exact .cons a ih
theorem RowsT.get {H : Hp} {vs : List V} {rows : List (List Str)} (h : RowsT H vs rows) {i : Nat} (hi : i < vs.length) : ∃ (a : Addr) (hr : i < rows.length), vs[i]? = some (.ref a) ∧ H a = some (.tup (rows[i].map V.str)) := by
  have hr : i < rows.length := by rw [← Paired.length h]; exact hi
  obtain ⟨a, e, q⟩ := paired_get h i hi hr
  exact ⟨a, hr, by rw [List.getElem?_eq_getElem hi, e], q⟩
theorem take_snoc {α : Type} {l : List α} {i : Nat} (h : i < l.length) : l.take (i + 1) = l.take i ++ [l[i]] := by
  rw [List.take_succ, List.getElem?_eq_getElem h]
  rfl
theorem full_snoc (rows : List (List Str)) (r : List Str) : full (rows ++ [r]) = full rows ++ (if r.isEmpty = true then [] else [r]) := by
  unfold full
  rw [List.filter_append]
  congr 1
  cases r <;> rfl
theorem yes_by {σ : L2.St} {H : Hp} {A B : Hp → Prop} (h : A H) : tYes σ H (fun b H3 => if b = true then A H3 else B H3) := by
  show (if true = true then A H else B H)
  rw [if_pos rfl]
  exact h
def ResM (H : Hp) (x : Str) (r : Option (List Str)) (v : V) : Prop := match r with
  | none => v = .non
  | some os => ∃ q, v = .ref q ∧ H q = some (.tup ((x :: os).map V.str))
theorem cut1 (r : List Str) : cutV (r.map V.str) (some 1) none = (r.drop 1).map V.str := by
  unfold cutV
  rw [List.length_map]
  have e1 : HT.sIx r.length 0 (some 1) = min 1 r.length := HT.sIx_nat r.length 0 1
  have e2 : HT.sIx r.length r.length none = r.length := rfl
  rw [e1, e2, ← List.map_drop, ← List.map_take]
  congr 1
  cases r with
  | nil => rfl
  | cons y r =>
    have : min 1 (y :: r).length = 1 := by simp
    rw [this]
    exact List.take_of_length_le (by simp)
end L2
end
section
set_option autoImplicit false
namespace K23
open PySem PyProof.Rows L2
section
variable {P : Program} {w : World} {K : PySem.W.Frag} {mg : Str → Option Value} {base : Heap} {t : Adr}
def spMerge : Sp := fun vs H Q _ => ∃ (x : Str) (rl : Addr) (us : List V) (rows : List (List Str)), vs = [.str x, .ref rl] ∧ H rl = some (.lst us) ∧ RowsT H us rows ∧ tot rows ≤ 1000 ∧ rows.length ≤ 1000 ∧
  ∀ (v : V) (r : Option (List Str)) H', Mg (full rows) r → ResM H' x r v → Same H H' → Q v H'
theorem ok_merge (D : Defs K mg t) : FnOk P w K mg base CX0 1 t._law_merge.1 t._law_merge.2 ["_law_kind", "_law_rows"] spMerge := by
  have hz : sizeLine = 16777216 := sizeLine_eq
  refine D._law_merge.fn.ok sc__law_merge (fun vs H Q E h => ?_) (fun cdv A outer s H vs Q E hr h => ?_)
  · obtain ⟨x, rl, us, rows, rfl, _⟩ := h
    rfl
  · obtain ⟨x, rl, us, rows, rfl, hrl, rt, htot, hlen, k⟩ := h
    have hul : us.length = rows.length := Paired.length rt
    refine ⟨_, (pss_cons (ps_set (i := 2) sc__law_merge.nd rfl (Or.inl rfl) (pe_lst (pa_cons (pv 0) pa_nil)))
      (pss_cons (ps_set (i := 1) sc__law_merge.nd rfl (Or.inr rfl) (pe_comp rfl (CompScope.of ["_law_row"] [] ["_law_row"] (defScope (top 21)) ["_law_kind", "_law_rows", "_law_order", "_law_good"] rfl rfl (by decide +kernel)) ⟨fun _ _ _ _ _ => (pg_name (i := 0) (show List.Nodup [("_law_row" : Str)] by decide +kernel) rfl (Or.inl (lookup_relabel_local rfl)) (.inr (lookup_relabel_local rfl))), fun _ _ _ _ _ => (pts_one (pt_cmpR op_gt (pe_callB (call_len_seqK (K := K) rfl) (by rfl) D.b_len bt_len (pa_cons (pv 0) pa_nil)) pe_int (nomark _))), fun _ _ _ _ _ => (pe_callTy (call_list_ofK (K := K) rfl) (by rfl) D.b_list bt_list (pa_cons (pv 0) pa_nil))⟩ (pi_list (pv 1))))
      (pss_cons (ps_while PassesOwn.never (pt_cmpR (op_neE rfl hr.units0) (pv 1) (pe_lst pa_nil) (nomark _))
      (pss_cons (ps_set (i := 3) sc__law_merge.nd rfl (Or.inr rfl) (pe_comp rfl (CompScope.of ["_law_row"] [1] ["_law_row", "_law_rows"] (defScope (top 21)) ["_law_kind", "_law_rows", "_law_order", "_law_good"] rfl rfl (by decide +kernel)) ⟨fun _ _ _ _ _ => (pg_name (i := 0) (show List.Nodup [("_law_row" : Str), ("_law_rows" : Str)] by decide +kernel) rfl (Or.inr (lookup_relabel_cell rfl)) (.inl rfl)), fun _ _ _ _ _ => (pts_one (pt_not (pt_val (pe_callB (call_any_K (K := K) rfl rfl) (by rfl) D.b_any bt_any (pa_cons (pe_comp rfl (CompScope.of2 ["_law_other"] [0] ["_law_other", "_law_row"] ["_law_row", "_law_rows"] rfl rfl (by decide +kernel)) ⟨fun _ _ _ _ _ => (pg_name (i := 0) (show List.Nodup [("_law_other" : Str), ("_law_row" : Str)] by decide +kernel) rfl (Or.inl (lookup_relabel_local rfl)) (.inr (lookup_relabel_local rfl))), fun _ _ _ _ _ => pts_nil, fun _ _ _ _ _ => (pe_cmpR (op_in_K (K := K) rfl) (pe_ix (ix_list_K (K := K) rfl) (pv 1) pe_int (fun _ _ => rfl)) (pe_slice (sl_list_K (K := K) rfl) (pv 0) (po_some pe_int) po_none) (by with_unfolding_all rfl))⟩ (pi_list_K (K := K) rfl (pv 1))) pa_nil))))), fun _ _ _ _ _ => (pe_ix (ix_list_K (K := K) rfl) (pv 0) pe_int (fun _ _ => rfl))⟩ (pi_list (pv 1))))
      (pss_cons (ps_if (pt_cmpR (op_eqE rfl hr.units0) (pv 3) (pe_lst pa_nil) (nomark _))
      (pss_one (ps_ret pe_non))
      pss_nil)
      (pss_cons (ps_expr (pe_bm PySem.F.plainAttrs_list PySem.F.slot_list_append PySem.F.type_list_append mt_append (pv 2) (pa_cons (pe_ix ix_list (pv 3) pe_int (fun _ _ => rfl)) pa_nil)))
      (pss_cons (ps_set (i := 1) sc__law_merge.nd rfl (Or.inr rfl) (pe_comp rfl (CompScope.of ["_law_row"] [3] ["_law_row", "_law_good"] (defScope (top 21)) ["_law_kind", "_law_rows", "_law_order", "_law_good"] rfl rfl (by decide +kernel)) ⟨fun _ _ _ _ _ => (pg_name (i := 0) (show List.Nodup [("_law_row" : Str), ("_law_good" : Str)] by decide +kernel) rfl (Or.inl (lookup_relabel_local rfl)) (.inr (lookup_relabel_local rfl))), fun _ _ _ _ _ => pts_nil, fun _ _ _ _ _ => (pe_comp rfl (CompScope.of2 ["_law_one"] [1] ["_law_one", "_law_good"] ["_law_row", "_law_good"] rfl rfl (by decide +kernel)) ⟨fun _ _ _ _ _ => (pg_name (i := 0) (show List.Nodup [("_law_one" : Str), ("_law_good" : Str)] by decide +kernel) rfl (Or.inl (lookup_relabel_local rfl)) (.inr (lookup_relabel_local rfl))), fun _ _ _ _ _ => (pts_one (pt_cmpR op_ne (pv 0) (pe_ix (ix_list_K (K := K) rfl) (pv 1) pe_int (fun _ _ => rfl)) (nomark _))), fun _ _ _ _ _ => (pv 0)⟩ (pi_list_K (K := K) rfl (pv 0)))⟩ (pi_list (pv 1))))
      (pss_one (ps_set (i := 1) sc__law_merge.nd rfl (Or.inr rfl) (pe_comp rfl (CompScope.of ["_law_row"] [] ["_law_row"] (defScope (top 21)) ["_law_kind", "_law_rows", "_law_order", "_law_good"] rfl rfl (by decide +kernel)) ⟨fun _ _ _ _ _ => (pg_name (i := 0) (show List.Nodup [("_law_row" : Str)] by decide +kernel) rfl (Or.inl (lookup_relabel_local rfl)) (.inr (lookup_relabel_local rfl))), fun _ _ _ _ _ => (pts_one (pt_cmpR (op_neE (K := K) rfl hr.units0) (pv 0) (pe_lst pa_nil) (nomark _))), fun _ _ _ _ _ => (pv 0)⟩ (pi_list (pv 1))))))))))
      (pss_one (ps_ret (pe_callTy call_tuple_of (by rfl) D.b_tuple bt_tuple (pa_cons (pv 2) pa_nil))))))), ?_⟩
    refine ⟨_, rfl, by show 1 ≤ sizeLine; decide, fun ol hol => ?_⟩
    have s0 : Same H (upd H ol (.lst [.str x])) := Same.new hol
    refine ⟨_, rfl, rl, rfl, ⟨_, SqL.of (s0 rl _ hrl)⟩, fun D1 hD1 => ?_⟩
    have olD1 : ol ≠ D1 := ne_of_none upd_same hD1
    have hD1H : H D1 = none := by rw [upd_ne olD1.symm] at hD1; exact hD1
    refine comp_by (n := us.length) (fun i ys H2 => H2 D1 = some (.lst ys) ∧ RowsY H2 D1 ol ys (full (rows.take i)) ∧ H2 ol = some (.lst [.str x]) ∧ Same H H2)
      ⟨upd_same, .nil, by rw [upd_ne olD1, upd_same], s0.trans (Same.new hD1)⟩ ?_ ?_
    · rintro ys H2 ⟨hD2, rl2, hol2, sm2⟩
      rw [List.take_of_length_le (by omega)] at rl2
      refine ⟨⟨_, SqL.of (sm2 rl _ hrl), Nat.le_refl _⟩, ?_⟩
      refine ⟨fun m σ H3 => ∃ (zs : List V) (rows3 : List (List Str)) (os : List Str) (r3 : Addr) (v3 : Option V), σ = [some (.str x), some (.ref r3), some (.ref ol), v3] ∧ H3 r3 = some (.lst zs) ∧ RowsX H3 ol zs rows3 ∧ r3 ≠ ol ∧ full rows3 = rows3 ∧ H3 ol = some (.lst ((x :: os).map V.str)) ∧ m = tot rows3 ∧ os.length + tot rows3 ≤ 1000 ∧
        (∀ r, Mg rows3 r → Mg (full rows) (r.map (os ++ ·))) ∧ Same H H3, ⟨_, ys, full rows, [], D1, _, rfl, hD2, rl2.x, olD1.symm, ?_, hol2, rfl, by rw [tot_full]; show 0 + _ ≤ _; omega, fun r h => ?_, sm2⟩, ?_⟩
      · unfold full
        rw [List.filter_filter]
        simp
      · have : r.map (([] : List Str) ++ ·) = r := by cases r <;> rfl
        rw [this]
        exact h
      rintro m σ H3 ⟨zs, rows3, os, r3, v3, rfl, hr3, rl3, r3o, hf3, hol3, rfl, hb3, mg3, sm3⟩
      have hzl : zs.length = rows3.length := Paired.length rl3
      have hrl3 : rows3.length ≤ tot rows3 := by have := full_len_le rows3; rwa [hf3] at this
      refine ⟨_, rfl, Nat.zero_le _, fun e0 he0 => ⟨r3, e0, zs, rfl, rfl, SqL.of (by rw [upd_ne (ne_of_none hr3 he0)]; exact hr3), SqL.of upd_same, _, rfl, ?_⟩⟩
      have s4 : Same H3 (upd H3 e0 (.lst [])) := Same.new he0
      cases hzs : zs with
      | nil =>
        subst hzs
        have e3 : rows3 = [] := by
          cases rows3 with
          | nil => rfl
          | cons _ _ => rw [List.length_nil, List.length_cons] at hzl; omega
        subst e3
        refine iteF ⟨_, rfl, ol, _, rfl, .inl ⟨SqL.of (s4 ol _ hol3), fun q hq => ?_⟩⟩
        refine k (.ref q) (some os) _ ?_ ⟨q, rfl, upd_same⟩ ((sm3.trans s4).trans (Same.new hq))
        have := mg3 _ .nil
        simpa using this
      | cons z0 zr =>
        have hne : rows3 ≠ [] := fun e => by rw [e, hzs] at hzl; simp at hzl
        rw [← hzs]
        have hb : (!zs.isEmpty) = true := by rw [hzs]; rfl
        rw [hb]
        clear hzs hb z0 zr
        refine iteT ⟨fun σ' H' => ∃ m', m' < tot rows3 ∧ ∃ (zs : List V) (rows3 : List (List Str)) (os : List Str) (r3 : Addr) (v3 : Option V), σ' = [some (.str x), some (.ref r3), some (.ref ol), v3] ∧ H' r3 = some (.lst zs) ∧ RowsX H' ol zs rows3 ∧ r3 ≠ ol ∧ full rows3 = rows3 ∧ H' ol = some (.lst ((x :: os).map V.str)) ∧ m' = tot rows3 ∧ os.length + tot rows3 ≤ 1000 ∧
          (∀ r, Mg rows3 r → Mg (full rows) (r.map (os ++ ·))) ∧ Same H H', fun σ' H' h => h, ?_⟩
        have hnz : ∀ r ∈ rows3, ∃ y r', r = y :: r' := fun r hr => by
          rw [← hf3] at hr
          have := (List.mem_filter.mp hr).2
          cases r with
          | nil => cases this
          | cons y r' => exact ⟨y, r', rfl⟩
        generalize upd H3 e0 (.lst []) = H4 at s4
        have rl4 := rl3.mono s4
        have hr4 := s4 r3 _ hr3
        refine ⟨_, rfl, r3, rfl, ⟨_, SqL.of hr4⟩, fun D2 hD2 => ?_⟩
        refine comp_by (n := zs.length) (fun i ys H5 => ys = ((rows3.take i).flatMap (freeOf rows3)).map V.str ∧ H5 D2 = some (.lst ys) ∧ Same H4 H5) ⟨rfl, upd_same, Same.new hD2⟩ ?_ ?_
        · rintro ys' H5 ⟨rfl, hD5, sm5⟩
          rw [List.take_of_length_le (by omega)] at hD5
          refine ⟨⟨_, SqL.of (sm5 r3 _ hr4), Nat.le_refl _⟩, ?_⟩
          have hD5 : H5 D2 = some (.lst ((frees rows3).map V.str)) := hD5
          refine ⟨_, rfl, Nat.zero_le _, fun e1 he1 => ⟨D2, e1, _, rfl, rfl, SqL.of (by rw [upd_ne (ne_of_none hD5 he1)]; exact hD5), SqL.of upd_same, _, rfl, ?_⟩⟩
          have s6 : Same H5 (upd H5 e1 (.lst [])) := Same.new he1
          generalize upd H5 e1 (.lst []) = H6 at s6
          have sm6 : Same H4 H6 := sm5.trans s6
          have hD6 := s6 D2 _ hD5
          cases hfr : frees rows3 with
          | nil =>
            refine iteT ?_
            have := mg3 none (.stuck hne hfr)
            exact k .non none H6 this rfl ((sm3.trans s4).trans sm6)
          | cons x1 more =>
            rw [hfr] at hD6
            refine iteF ?_
            have hx1 : x1 ∈ frees rows3 := by rw [hfr]; exact List.mem_cons_self
            obtain ⟨r1, hr1, hh1⟩ := frees_mem hx1
            have hx1r : x1 ∈ r1 := by
              cases r1 with
              | nil => cases hh1
              | cons y r' =>
                cases hh1
                exact List.mem_cons_self
            have hol6 := sm6 ol _ (s4 ol _ hol3)
            have hr6 := sm6 r3 _ hr4
            refine ⟨_, rfl, .inl ⟨rfl, _, SqL.of hol6⟩, _, rfl, D2, _, _, _, rfl, rfl, SqL.of hD6, at0 x1 more, ol, _, .str x1, rfl, rfl, hol6, by rw [List.length_map, List.length_cons]; omega, ?_⟩
            have eol : (x :: os).map V.str ++ [V.str x1] = (x :: (os ++ [x1])).map V.str := by rw [List.map_cons, List.map_cons, List.map_append]; rfl
            rw [eol]
            have oD : ol ≠ D2 := fun e => by
              have h1 := hD2
              rw [← e, s4 ol _ hol3] at h1
              cases h1
            have kp7 : ∀ b u, b ≠ ol → H6 b = some u → (upd H6 ol (.lst ((x :: (os ++ [x1])).map V.str))) b = some u := fun b u hb e => by rw [upd_ne hb]; exact e
            have sm7 : Same H (upd H6 ol (.lst ((x :: (os ++ [x1])).map V.str))) := fun b u e => kp7 b u (ne_of_none e hol) (sm6 b u (s4 b u (sm3 b u e)))
            have rl7 : ∀ i (hi : i < zs.length), ∃ (a : Addr) (hr : i < rows3.length), zs[i]? = some (.ref a) ∧ (upd H6 ol (.lst ((x :: (os ++ [x1])).map V.str))) a = some (.lst (rows3[i].map V.str)) := fun i hi => by
              obtain ⟨a, hr', e, n, q⟩ := (rl4.mono sm6).get hi
              exact ⟨a, hr', e, kp7 a _ n q⟩
            have hol7 : (upd H6 ol (.lst ((x :: (os ++ [x1])).map V.str))) ol = some (.lst ((x :: (os ++ [x1])).map V.str)) := upd_same
            have hr7 := kp7 r3 _ r3o hr6
            have hD7 := kp7 D2 _ oD.symm hD6
            generalize upd H6 ol (.lst ((x :: (os ++ [x1])).map V.str)) = H7 at kp7 sm7 rl7 hol7 hr7 hD7
            have hlt := tot_out_lt (x := x1) ⟨r1, hr1, hx1r⟩
            refine ⟨_, rfl, r3, rfl, ⟨_, SqL.of hr7⟩, fun D4 hD4 => ?_⟩
            refine comp_by (n := zs.length) (fun i ys H8 => H8 D4 = some (.lst ys) ∧ RowsY H8 D4 ol ys ((rows3.take i).map (outOf x1)) ∧ Same H7 H8) ⟨upd_same, .nil, Same.new hD4⟩ ?_ ?_
            · rintro ys8 H8 ⟨hD8, ry8, sm8⟩
              rw [List.take_of_length_le (by omega)] at ry8
              refine ⟨⟨_, SqL.of (sm8 r3 _ hr7), Nat.le_refl _⟩, ?_⟩
              have hy8 : ys8.length = rows3.length := by rw [Paired.length ry8, List.length_map]
              refine ⟨_, rfl, D4, rfl, ⟨_, SqL.of hD8⟩, fun D6 hD6' => ?_⟩
              have rx8 := ry8.x
              refine comp_by (n := ys8.length) (fun i ys H9 => H9 D6 = some (.lst ys) ∧ RowsY H9 D6 ol ys (full ((rows3.map (outOf x1)).take i)) ∧ Same H8 H9) ⟨upd_same, .nil, Same.new hD6'⟩ ?_ ?_
              · rintro ys9 H9 ⟨hD9, ry9, sm9⟩
                rw [List.take_of_length_le (by rw [List.length_map]; omega)] at ry9
                refine ⟨⟨_, SqL.of (sm9 D4 _ hD8), Nat.le_refl _⟩, ?_⟩
                have sm89 := sm8.trans sm9
                refine ⟨tot (full (rows3.map (outOf x1))), by rw [tot_full]; exact hlt, ys9, full (rows3.map (outOf x1)), os ++ [x1], D6, _, rfl, hD9, ry9.x, ?_, ?_, sm89 ol _ hol7, rfl, ?_, fun r h => ?_, sm7.trans sm89⟩
                · intro e
                  rw [e] at hD9
                  rw [sm89 ol _ hol7] at hD9
                  injection hD9 with hD9
                  injection hD9 with hD9
                  cases ys9 with
                  | nil => cases hD9
                  | cons y9 _ =>
                    obtain ⟨a9, _, e9, _⟩ := ry9.x.get (i := 0) (by simp)
                    injection hD9 with h9 _
                    rw [← h9] at e9
                    cases e9
                · unfold full
                  rw [List.filter_filter]
                  simp
                · rw [tot_full, List.length_append, List.length_singleton]
                  omega
                · have h1 := mg3 _ (.step hfr h)
                  rw [Option.map_map] at h1
                  have : ((fun x => os ++ x) ∘ fun x => x1 :: x) = fun x => os ++ [x1] ++ x := by
                    funext z
                    simp
                  rw [this] at h1
                  exact h1
              · rintro i ys9 H9 hi ⟨hD9, ry9, sm9⟩
                obtain ⟨a, hir, ea, _, ha⟩ := (rx8.mono sm9).get hi
                refine ⟨⟨_, _, SqL.of (sm9 D4 _ hD8), ea⟩, ?_⟩
                rintro yv H10 ⟨rfl, yy⟩ σo ho
                obtain ⟨oo, rfl⟩ := own1 ho
                have ey := yy _ (SqL.of (sm9 D4 _ hD8))
                rw [ea] at ey
                cases ey
                have hys : ys9.length ≤ 1000 := by
                  rw [Paired.length ry9]
                  refine Nat.le_trans (List.length_filter_le _ _) ?_
                  rw [List.length_take, List.length_map]
                  omega
                refine ⟨⟨[_], rfl, rfl⟩, _, rfl, Nat.zero_le _, fun e2 he2 => ⟨a, e2, _, rfl, rfl, SqL.of (by rw [upd_ne (ne_of_none ha he2)]; exact ha), SqL.of upd_same, _, rfl, ?_⟩⟩
                have s10 : Same H10 (upd H10 e2 (.lst [])) := Same.new he2
                have hb : (!(((rows3.map (outOf x1))[i]).map V.str).isEmpty) = !((rows3.map (outOf x1))[i]).isEmpty := by
                  cases (rows3.map (outOf x1))[i] <;> rfl
                rw [hb]
                cases he : ((rows3.map (outOf x1))[i]).isEmpty with
                | true =>
                  refine iteF (less_by hi ⟨s10 D6 _ hD9, ?_, sm9.trans s10⟩)
                  rw [take_snoc hir, full_snoc, if_pos he, List.append_nil]
                  exact ry9.mono s10
                | false =>
                  have aD6 : a ≠ D6 := fun e => by
                    have := hD6'
                    obtain ⟨a', _, ea', _, ha'⟩ := rx8.get hi
                    rw [ea] at ea'
                    cases ea'
                    rw [← e, ha'] at this
                    cases this
                  have ao : a ≠ ol := by
                    obtain ⟨a', _, ea', n', _⟩ := rx8.get hi
                    rw [ea] at ea'
                    cases ea'
                    exact n'
                  refine iteT ⟨_, rfl, by omega, s10 D6 _ hD9, less_by hi ⟨upd_same, ?_, fun b u e => ?_⟩⟩
                  · rw [take_snoc hir, full_snoc, if_neg (by rw [he]; exact Bool.false_ne_true)]
                    exact pairedSnoc (ry9.grow s10) ⟨a, rfl, aD6, ao, by rw [upd_ne aD6]; exact s10 a _ ha⟩
                  · rw [upd_ne (ne_of_none e hD6')]
                    exact s10 b _ (sm9 b _ e)
            · rintro i ys8 H8 hi ⟨hD8, ry8, sm8⟩
              obtain ⟨a, hir, ea, ha⟩ := rl7 i hi
              have ha8 := sm8 a _ ha
              refine ⟨⟨_, _, SqL.of (sm8 r3 _ hr7), ea⟩, ?_⟩
              rintro yv H9 ⟨rfl, yy⟩ σo ho
              obtain ⟨oo, rfl⟩ := own1 ho
              have ey := yy _ (SqL.of (sm8 r3 _ hr7))
              rw [ea] at ey
              cases ey
              have hys : ys8.length ≤ 1000 := by
                rw [Paired.length ry8, List.length_map, List.length_take]
                omega
              refine ⟨⟨[_], rfl, rfl⟩, yes_by ⟨_, rfl, a, rfl, ⟨_, SqL.of ha8⟩, fun D5 hD5' => ?_⟩⟩
              have s9 : ∀ o, Same H9 (upd H9 D5 o) := fun o => Same.new hD5'
              have D54 : D5 ≠ D4 := fun e => by rw [e, hD8] at hD5'; cases hD5'
              have D5o : D5 ≠ ol := fun e => by rw [e, sm8 ol _ hol7] at hD5'; cases hD5'
              have hrl1 : (rows3[i]).length ≤ 1000 := by
                have := tot_le_mem (List.getElem_mem hir)
                omega
              refine comp_by (n := ((rows3[i]).map V.str).length) (fun j ys5 H10 => ys5 = (outOf x1 ((rows3[i]).take j)).map V.str ∧ H10 = upd H9 D5 (.lst ys5)) ⟨rfl, rfl⟩ ?_ ?_
              · rintro ys5 H10 ⟨rfl, rfl⟩
                rw [List.take_of_length_le (by rw [List.length_map]; exact Nat.le_refl _)]
                refine ⟨⟨_, SqL.of (s9 _ a _ ha8), Nat.le_refl _⟩, by omega, s9 _ D4 _ hD8, less_by hi ⟨upd_same, ?_, fun b u e => ?_⟩⟩
                · rw [take_snoc hir, List.map_append]
                  exact pairedSnoc (ry8.grow (s9 _)) ⟨D5, rfl, D54, D5o, by rw [upd_ne D54, upd_same]⟩
                · rw [upd_ne (ne_of_none e hD4)]
                  exact s9 _ b _ (sm8 b _ e)
              · rintro j ys5 H10 hj ⟨rfl, rfl⟩
                have hj' : j < (rows3[i]).length := by rw [List.length_map] at hj; exact hj
                have ej : ((rows3[i]).map V.str)[j]? = some (.str (rows3[i])[j]) := by rw [List.getElem?_map, List.getElem?_eq_getElem hj']; rfl
                refine ⟨⟨_, _, SqL.of (s9 _ a _ ha8), ej⟩, ?_⟩
                rintro y5 H11 ⟨rfl, yy⟩ σo5 ho5
                obtain ⟨o5, rfl⟩ := own1 ho5
                have ey := yy _ (SqL.of (s9 _ a _ ha8))
                rw [ej] at ey
                cases ey
                have eout : outOf x1 ((rows3[i]).take (j + 1)) = outOf x1 ((rows3[i]).take j) ++ (if decide ((rows3[i])[j] ≠ x1) = true then [(rows3[i])[j]] else []) := by
                  unfold outOf
                  rw [take_snoc hj', List.filter_append]
                  congr 1
                  rw [List.filter_cons]
                  rfl
                have hl5 : ((outOf x1 ((rows3[i]).take j)).map V.str).length ≤ 1000 := by
                  rw [List.length_map]
                  have h1 := out_le x1 ((rows3[i]).take j)
                  rw [List.length_take] at h1
                  omega
                refine ⟨⟨[_], rfl, rfl⟩, _, rfl, _, rfl, D2, _, _, _, rfl, rfl, SqL.of (s9 _ D2 _ (sm8 D2 _ hD7)), at0 x1 more, rfl, _, rfl, ite2 (fun hb => ?_) (fun hb => ?_)⟩
                · have hb : (rows3[i])[j] ≠ x1 := by
                    intro e
                    rw [e] at hb
                    simp at hb
                  refine ⟨_, rfl, by omega, upd_same, less_by hj ⟨?_, by rw [upd_upd]⟩⟩
                  rw [eout, if_pos (decide_eq_true hb), List.map_append]
                  rfl
                · have hb : (rows3[i])[j] = x1 := Classical.byContradiction fun e => hb (by
                    show (!decide (V.str (rows3[i])[j] = V.str x1)) = true
                    rw [decide_eq_false (by intro z; injection z with z; exact e z)]
                    rfl)
                  refine less_by hj ⟨?_, rfl⟩
                  rw [eout, if_neg (by simpa using hb), List.append_nil]
        · rintro i ys' H5 hi ⟨rfl, hD5, sm5⟩
          obtain ⟨a, hir, ea, _, ha⟩ := (rl4.mono sm5).get hi
          obtain ⟨y0, r0, er0⟩ := hnz rows3[i] (List.getElem_mem hir)
          rw [er0] at ha
          refine ⟨⟨_, _, SqL.of (sm5 r3 _ hr4), ea⟩, ?_⟩
          rintro yv H6 ⟨rfl, yy⟩ σo ho
          obtain ⟨oo, rfl⟩ := own1 ho
          have ey := yy _ (SqL.of (sm5 r3 _ hr4))
          rw [ea] at ey
          cases ey
          refine ⟨⟨[_], rfl, rfl⟩, _, rfl, r3, rfl, ⟨_, SqL.of (sm5 r3 _ hr4)⟩, fun D3 hD3 => ?_⟩
          refine comp_by (n := zs.length) (fun i3 bs H7 => bs = ((rows3.take i3).map fun o => decide (y0 ∈ o.drop 1)).map V.bl ∧ H7 D3 = some (.lst bs) ∧ Same H6 H7) ⟨rfl, upd_same, Same.new hD3⟩ ?_ ?_
          · rintro bs H7 ⟨rfl, hD7, sm7⟩
            rw [List.take_of_length_le (by omega)] at hD7
            refine ⟨⟨_, SqL.of (sm7 r3 _ (sm5 r3 _ hr4)), Nat.le_refl _⟩, D3, _, rfl, SqL.of hD7, _, rfl, ?_⟩
            have eany : (rows3.map fun o => decide (y0 ∈ o.drop 1)).any id = heldIn rows3 y0 := by
              unfold heldIn
              rw [List.any_map]
              rfl
            rw [eany]
            have efr : ((rows3.take (i + 1)).flatMap (freeOf rows3)) = ((rows3.take i).flatMap (freeOf rows3)) ++ (if heldIn rows3 y0 = true then [] else [y0]) := by
              rw [take_snoc hir, List.flatMap_append, List.flatMap_singleton, er0]
              rfl
            have hlen : (((rows3.take i).flatMap (freeOf rows3)).map V.str).length ≤ 1000 := by
              rw [List.length_map]
              have h1 := free_len rows3 (rows3.take i)
              rw [List.length_take] at h1
              omega
            cases hh : heldIn rows3 y0 with
            | true =>
              refine iteF (less_by hi ⟨?_, sm7 D2 _ hD5, sm5.trans sm7⟩)
              rw [efr, hh, if_pos rfl, List.append_nil]
            | false =>
              refine iteT ⟨_, rfl, a, _, _, _, rfl, rfl, SqL.of (sm7 a _ ha), at0 y0 r0, by omega, sm7 D2 _ hD5, less_by hi ⟨?_, upd_same, fun b u e => ?_⟩⟩
              · rw [efr, hh, if_neg Bool.false_ne_true, List.map_append]
                rfl
              · rw [upd_ne (ne_of_none e hD2)]
                exact sm7 b _ (sm5 b _ e)
          · rintro i3 bs H7 hi3 ⟨rfl, hD7, sm7⟩
            obtain ⟨a3, hir3, ea3, _, ha3⟩ := ((rl4.mono sm5).mono sm7).get hi3
            refine ⟨⟨_, _, SqL.of (sm7 r3 _ (sm5 r3 _ hr4)), ea3⟩, ?_⟩
            rintro y3 H8 ⟨rfl, yy⟩ σo3 ho3
            obtain ⟨o3, rfl⟩ := own1 ho3
            have ey := yy _ (SqL.of (sm7 r3 _ (sm5 r3 _ hr4)))
            rw [ea3] at ey
            cases ey
            refine ⟨⟨[_], rfl, rfl⟩, yes_by ⟨_, rfl, a, _, _, _, rfl, rfl, SqL.of (sm7 a _ ha), at0 y0 r0, _, rfl, _, rfl, a3, _, rfl, SqL.of ha3, fun q hq => ⟨q, _, rfl, .inl (SqL.of upd_same), rfl, by rw [cut1]; exact flat_strs _, by rw [List.length_map, List.length_map, List.length_take]; omega, by rw [upd_ne (ne_of_none hD7 hq)]; exact hD7, less_by hi3 ⟨?_, upd_same, fun b u e => ?_⟩⟩⟩⟩
            · show _ ++ [V.bl (inV (.str y0) (cutV ((rows3[i3]).map V.str) (some 1) none))] = _
              rw [cut1, inV_strs, take_snoc hir3, List.map_append, List.map_append]
              rfl
            · rw [upd_ne (ne_of_none e hD3), upd_ne (ne_of_none (sm7 b _ e) hq)]
              exact sm7 b _ e
    · rintro i ys H2 hi ⟨hD2, rl2, hol2, sm2⟩
      obtain ⟨a, hir, ea, ha⟩ := (rt.mono (Same.tups sm2)).get hi
      refine ⟨⟨_, _, SqL.of (sm2 rl _ hrl), ea⟩, ?_⟩
      rintro y H3 ⟨rfl, yy⟩ σo ho
      obtain ⟨o, rfl⟩ := own1 ho
      have ey := yy _ (SqL.of (sm2 rl _ hrl))
      rw [ea] at ey
      cases ey
      have hys : ys.length ≤ 1000 := by
        rw [Paired.length rl2]
        have := full_len_le (rows.take i)
        refine Nat.le_trans (List.length_filter_le _ _) ?_
        rw [List.length_take]
        omega
      refine ⟨⟨[_], rfl, rfl⟩, _, rfl, a, _, rfl, .inr (SqT.of ha), _, _, rfl, rfl, _, rfl, ite2 (fun hb => ?_) (fun hb => ?_)⟩
      · refine ⟨_, rfl, a, _, rfl, .inr (SqT.of ha), fun l hl => ?_⟩
        have sl : ∀ o, Same H3 (upd H3 l o) := fun o => Same.new hl
        have lD : l ≠ D1 := fun e => by rw [e, hD2] at hl; cases hl
        have lo : l ≠ ol := fun e => by rw [e, hol2] at hl; cases hl
        refine ⟨by omega, sl _ D1 _ hD2, less_by hi ⟨upd_same, ?_, ?_, ?_⟩⟩
        · have hne : ¬ (rows[i]).isEmpty = true := fun e => by
            have hb : decide ((0 : Int) < (((rows[i]).map V.str).length : Int)) = true := hb
            have := of_decide_eq_true hb
            rw [List.isEmpty_iff.mp e] at this
            simp at this
          rw [take_snoc hir, full_snoc, if_neg hne]
          exact pairedSnoc (rl2.grow (sl _)) ⟨l, rfl, lD, lo, by rw [upd_ne lD, upd_same]⟩
        · rw [upd_ne olD1]
          exact sl _ ol _ hol2
        · intro b o' e
          rw [upd_ne (ne_of_none e hD1H)]
          exact sl _ b _ (sm2 b _ e)
      · have he : (rows[i]).isEmpty = true := by
          have hb : ¬ decide ((0 : Int) < (((rows[i]).map V.str).length : Int)) = true := hb
          rw [decide_eq_true_iff, List.length_map] at hb
          exact List.isEmpty_iff_length_eq_zero.mpr (by omega)
        refine less_by hi ⟨hD2, ?_, hol2, sm2⟩
        rw [take_snoc hir, full_snoc, if_pos he, List.append_nil]
        exact rl2
end
end K23
end
section
set_option autoImplicit false
namespace K23
open PySem PyProof.Rows L2
section
variable {P : Program} {w : World} {K : PySem.W.Frag} {mg : Str → Option Value} {base : Heap} {t : Adr}
def spTake : Sp := fun vs H Q _ => ∃ (p : Addr) (n : Int), vs = [.ref p, .int n] ∧ Pu H p ∧ 0 < n ∧ n < 1606938044258990275541962092341162602522202993782792835301376 ∧ ∀ (r a b c : Int), 0 ≤ r → r < n → Q (.int r) (upd H p (.lst [.int a, .int b, .int c]))
theorem ok_take (D : Defs K mg t) : FnOk P w K mg base CX0 1 t._law_take.1 t._law_take.2 ["_law_purse_here", "_law_many"] spTake := by
  refine D._law_take.fn.ok sc__law_take (fun vs H Q E h => ?_) (fun cdv A outer s H vs Q E hr h => ?_)
  · obtain ⟨p, n, rfl, _⟩ := h
    rfl
  · obtain ⟨p, n, rfl, ⟨a, b, c, hp⟩, h0, h1, k⟩ := h
    refine ⟨_, (pss_cons (ps_asg (pe_op op_add (pe_ix ix_list (pv 0) pe_int (fun _ _ => rfl)) pe_int) (pg_sub (pv 0) pe_int set_list))
      (pss_cons (ps_set (i := 2) sc__law_take.nd rfl (Or.inl rfl) (pe_ix ix_list (pv 0) pe_int (fun _ _ => rfl)))
      (pss_cons (ps_asg (pe_op op_mod (pe_op op_add (pe_op op_mul (pv 2) (pe_op op_add (pe_op op_mod (pv 2) pe_int) pe_int)) (pe_op op_mul pe_int (pe_ix ix_list (pv 0) pe_int (fun _ _ => rfl)))) pe_int) (pg_sub (pv 0) pe_int set_list))
      (pss_cons (ps_if (pt_cmpR op_gt (pe_ix ix_list (pv 0) pe_int (fun _ _ => rfl)) pe_int (nomark _))
      (pss_cons (ps_set (i := 3) sc__law_take.nd rfl (Or.inl rfl) (pe_op op_mod (pe_ix ix_list (pv 0) pe_int (fun _ _ => rfl)) (pv 1)))
      (pss_cons (ps_asg (pe_op op_fdivL (pe_ix ix_list (pv 0) pe_int (fun _ _ => rfl)) (pv 1)) (pg_sub (pv 0) pe_int set_list))
      (pss_one (ps_ret (pv 3)))))
      pss_nil)
      (pss_one (ps_ret (pe_op op_mod (pe_op op_fdiv (pe_ix ix_list (pv 0) pe_int (fun _ _ => rfl)) pe_int) (pv 1)))))))), ?_⟩
    refine ⟨_, rfl, p, _, _, _, rfl, rfl, SqL.of hp, rfl, _, _, rfl, rfl, _, rfl, p, _, _, 2, rfl, rfl, hp, rfl, ?_⟩
    refine ⟨_, rfl, p, _, _, _, rfl, rfl, SqL.of upd_same, rfl, ?_⟩
    refine ⟨_, rfl, _, rfl, _, _, rfl, rfl, (by show (0 : Int) < 46337; decide), _, _, rfl, rfl, _, _, rfl, rfl, .inr ⟨?_, ?_⟩, _, rfl, p, _, _, _, rfl, rfl, SqL.of upd_same, rfl, _, _, rfl, rfl, .inl ⟨by decide, by decide⟩, _, _, rfl, rfl, _, _, rfl, rfl,
      (by show (0 : Int) < 2147483587; decide), _, rfl, p, _, _, 0, rfl, rfl, upd_same, rfl, ?_⟩
    · have := Int.emod_nonneg a (show (46337 : Int) ≠ 0 by decide)
      omega
    · have := Int.emod_lt_of_pos a (show (0 : Int) < 46337 by decide)
      omega
    rw [upd_upd]
    refine ⟨_, rfl, p, _, _, _, rfl, rfl, SqL.of upd_same, rfl, _, _, rfl, rfl, _, rfl, ite2 (fun hb => ?_) (fun hb => ?_)⟩
    · refine ⟨_, rfl, p, _, _, _, rfl, rfl, SqL.of upd_same, rfl, _, rfl, _, _, rfl, rfl, h0, _, rfl, p, _, _, _, rfl, rfl, SqL.of upd_same, rfl, _, rfl, _, _, rfl, rfl, ⟨h0, h1⟩, _, rfl, p, _, _, 1, rfl, rfl, upd_same, rfl, _, rfl, ?_⟩
      rw [upd_upd]
      exact k _ _ _ _ (Int.emod_nonneg _ (by omega)) (Int.emod_lt_of_pos _ h0)
    · refine ⟨_, rfl, p, _, _, _, rfl, rfl, SqL.of upd_same, rfl, _, _, rfl, rfl, ⟨by decide, by decide⟩, _, rfl, _, _, rfl, rfl, h0, ?_⟩
      exact k _ _ _ _ (Int.emod_nonneg _ (by omega)) (Int.emod_lt_of_pos _ h0)
def spPurse : Sp := fun vs H Q _ => ∃ (n : Int), vs = [.int n] ∧ ∀ (p : Addr) (a b c : Int), H p = none → Q (.ref p) (upd H p (.lst [.int a, .int b, .int c]))
theorem ok_purse (D : Defs K mg t) : FnOk P w K mg base CX0 1 t._law_purse.1 t._law_purse.2 ["_law_cell_here"] spPurse := by
  refine D._law_purse.fn.ok sc__law_purse (fun vs H Q E h => ?_) (fun cdv A outer s H vs Q E hr h => ?_)
  · obtain ⟨n, rfl, _⟩ := h
    rfl
  · obtain ⟨n, rfl, k⟩ := h
    refine ⟨_, (pss_cons (ps_set (i := 1) sc__law_purse.nd rfl (Or.inl rfl) pe_int)
      (pss_join (ps_if (PW.pt (pw_or (pt_cmpR op_lt (pv 0) pe_int (nomark _)) (pw_or1 (pt_cmpR op_ge (pv 0) (pe_op op_pow pe_int pe_int) (nomark _)))))
      (pss_one (ps_set (i := 1) sc__law_purse.nd rfl (Or.inl rfl) (pe_callB call_abs (by rfl) D.b_abs bt_abs (pa_cons (pv 0) pa_nil))))
      pss_nil)
      (pss_one (ps_ret (pe_lst (pa_cons (pe_op op_mod (pv 0) pe_int) (pa_cons (pv 1) (pa_cons pe_int pa_nil)))))))), ?_⟩
    refine ⟨fun σ' H' => ∃ d : Int, σ' = [some (.int n), some (.int d)] ∧ H' = H, ?_, ?_⟩
    · refine ⟨_, rfl, _, _, rfl, rfl, _, rfl, ite2 (fun hb => ?_) (fun hb => ?_)⟩
      · exact iteT ⟨_, rfl, _, rfl, _, rfl, rfl⟩
      · refine ⟨_, rfl, _, _, rfl, rfl, ⟨by decide, by decide, by decide⟩, _, _, rfl, rfl, _, rfl, ite2 (fun hc => ?_) (fun hc => ?_)⟩
        · exact ⟨_, rfl, _, rfl, _, rfl, rfl⟩
        · exact ⟨_, rfl, rfl⟩
    · rintro σ' H' ⟨d, rfl, rfl⟩
      exact ⟨_, rfl, _, _, rfl, rfl, (by show (0 : Int) < 2147483587; decide), _, rfl, (by show 3 ≤ sizeLine; decide), fun p hp => k p _ _ _ hp⟩
def spCell (K : PySem.W.Frag) : Sp := fun vs H Q _ => ∃ (a : Addr) (ns : List Int) (k : Int), vs = [.ref a, .int k] ∧ SqL K H a (ns.map V.int) ∧ ns.length ≤ 63 ∧ 0 ≤ k ∧ k ≤ 1000 ∧ ∀ (n : Int) H', Same H H' → Q (.int n) H'
theorem ok_cell (D : Defs K mg t) : FnOk P w K mg base CX0 1 t._law_cell.1 t._law_cell.2 ["_law_script", "_law_k"] (spCell K) := by
  refine D._law_cell.fn.ok sc__law_cell (fun vs H Q E h => ?_) (fun cdv A outer s H vs Q E hr h => ?_)
  · obtain ⟨a, ns, k, rfl, _⟩ := h
    rfl
  · obtain ⟨a, ns, k, rfl, hS, hl, h0, h1, q⟩ := h
    refine ⟨_, (pss_cons (ps_if (pt_cmpR op_lt (pv 1) (pe_callB call_len_seq (by rfl) D.b_len bt_len (pa_cons (pv 0) pa_nil)) (nomark _))
      (pss_one (ps_ret (pe_ix ix_list (pv 0) (pv 1) (fun _ _ => rfl))))
      pss_nil)
      (pss_cons (ps_set (i := 2) sc__law_cell.nd rfl (Or.inl rfl) (pe_op op_mul (pe_op op_mul pe_int (pe_op op_add (pv 1) pe_int)) (pe_op op_add (pv 1) pe_int)))
      (pss_cons (ps_for PassesOwn.never rfl (pi_list (pe_slice sl_list (pv 0) po_none (po_some pe_int))) (pg_name (i := 3) sc__law_cell.nd rfl (Or.inl rfl))
      (pss_one (ps_set (i := 2) sc__law_cell.nd rfl (Or.inl rfl) (pe_op op_mod (pe_op op_add (pe_op op_mul (pv 2) pe_int) (pv 3)) pe_int))))
      (pss_one (ps_ret (pv 2)))))), ?_⟩
    refine ⟨_, rfl, _, rfl, a, _, rfl, .inl hS, _, _, rfl, rfl, _, rfl, ite2 (fun hb => ?_) (fun hb => ?_)⟩
    · have hk : k < (ns.map V.int).length := of_decide_eq_true hb
      obtain ⟨v, e, m, _⟩ := atI_in h0 hk
      obtain ⟨z, _, rfl⟩ := List.mem_map.mp m
      exact ⟨_, rfl, _, rfl, a, _, _, _, rfl, rfl, hS, e, q z H (Same.refl H)⟩
    · refine ⟨_, rfl, _, _, rfl, rfl, _, _, rfl, rfl, .inl ⟨by decide, by decide⟩, _, rfl, _, _, rfl, rfl, _, _, rfl, rfl, .inr ⟨by omega, by omega⟩, ?_⟩
      refine ⟨_, rfl, _, rfl, a, _, rfl, hS, fun p hp => ⟨p, rfl, ⟨_, SqL.of upd_same⟩, for_list (K := K) (a := p) (xs := cutV (ns.map V.int) none (some 4)) (fun i σ H2 => ∃ (st : Int) (v : Option V), σ = [some (.ref a), some (.int k), some (.int st), v] ∧ H2 = upd H p (.lst (cutV (ns.map V.int) none (some 4))))
        ⟨_, _, rfl, rfl⟩ (fun i σ H2 _ ⟨_, _, _, e⟩ => by rw [e]; exact SqL.of upd_same) ?_ ?_⟩⟩
      · rintro i x σ H2 hi ⟨st, v, rfl, rfl⟩
        have m : x ∈ ns.map V.int := List.mem_of_mem_drop (List.mem_of_mem_take (List.mem_of_getElem? hi))
        obtain ⟨z, _, rfl⟩ := List.mem_map.mp m
        exact ⟨_, rfl, _, _, rfl, rfl, .inr ⟨by decide, by decide⟩, _, rfl, _, _, rfl, rfl, _, _, rfl, rfl, (by show (0 : Int) < 2147483587; decide), _, _, rfl, rfl⟩
      · rintro σ H2 ⟨st, v, rfl, rfl⟩
        exact ⟨_, rfl, q st _ (Same.new hp)⟩
end
end K23
end
section
set_option autoImplicit false
namespace K23
open PySem PyProof.Rows L2
section
variable {P : Program} {w : World} {K : PySem.W.Frag} {mg : Str → Option Value} {base : Heap} {t : Adr}
def spWord : Sp := fun vs H Q _ => ∃ (p u : Addr) (us : List Str), vs = [.ref p, .ref u] ∧ Pu H p ∧ H u = some (.lst (us.map V.str)) ∧ us.length ≤ 25 ∧ ∀ (x : Str) H', x.length ≤ 100 → ¬ x ∈ us → Off p H H' → Pu H' p → Q (.str x) H'
def menu : List Str := ["mark", "go", "keep", "tell", "round", "put", "drop", "none", "me", "ask", "thing", "end"]
theorem menu_len : ∀ x ∈ menu, x.length ≤ 6 := by decide +kernel
theorem ok_word (D : Defs K mg t) : FnOk P w K mg base CX0 2 t._law_word.1 t._law_word.2 ["_law_purse_here", "_law_used"] spWord := by
  have G__law_take : FnOk P w K mg base CX0 1 t._law_take.1 t._law_take.2 _ spTake := ok_take D
  have hz : sizeLine = 16777216 := sizeLine_eq
  refine D._law_word.fn.ok sc__law_word (fun vs H Q E h => ?_) (fun cdv A outer s H vs Q E hr h => ?_)
  · obtain ⟨p, u, us, rfl, _⟩ := h
    rfl
  · obtain ⟨p, u, us, rfl, hp, hu, hl, k⟩ := h
    have up : u ≠ p := hp.ne hu
    refine ⟨_, (@pss_cons _ _ _ _ _ (@ps_set _ _ 2 _ _ _ _ sc__law_word.nd rfl (Or.inl rfl) (@pe_lst _ _ _ _ (@pa_strs _ _ ["mark", "go", "keep", "tell", "round", "put", "drop", "none", "me", "ask", "thing", "end"] (by rfl))) (by rfl) (by first | exact .inl rfl | exact .inr rfl))
      (pss_cons (ps_set (i := 3) sc__law_word.nd rfl (Or.inr rfl) (pe_ix ix_list (pv 2) (pe_callF D._law_take G__law_take (hr.mono (by omega)) (by rfl) (pa_cons (pv 0) (pa_cons pe_int pa_nil))) (fun _ _ => rfl)))
      (pss_join (ps_if (pt_cmpR op_gt (pe_callF D._law_take G__law_take (hr.mono (by omega)) (by rfl) (pa_cons (pv 0) (pa_cons pe_int pa_nil))) pe_int (nomark _))
      (pss_cons (ps_set (i := 3) sc__law_word.nd rfl (Or.inr rfl) pe_str)
      (pss_one (ps_for PassesOwn.never rfl (pi_range1 rfl D.b_range (pa_cons (pe_op op_add pe_int (pe_callF D._law_take G__law_take (hr.mono (by omega)) (by rfl) (pa_cons (pv 0) (pa_cons pe_int pa_nil)))) pa_nil)) (pg_name (i := 4) sc__law_word.nd rfl (Or.inl rfl))
      (pss_one (ps_set (i := 3) sc__law_word.nd rfl (Or.inr rfl) (pe_op op_add_str (pv 3) (pe_ix ix_str pe_str (pe_callF D._law_take G__law_take (hr.mono (by omega)) (by rfl) (pa_cons (pv 0) (pa_cons pe_int pa_nil))) (fun _ _ => rfl))))))))
      pss_nil)
      (pss_cons (ps_if (pt_cmpR op_notIn_seq (pv 3) (pv 1) (by with_unfolding_all rfl))
      (pss_one (ps_ret (pv 3)))
      pss_nil)
      (pss_cons (ps_setc (i := 5) rfl sc__law_word.nd rfl (Or.inl rfl) (CompScope.of ["_law_a"] [1, 3] ["_law_a", "_law_used", "_law_word_here"] (defScope (top 19)) ["_law_purse_here", "_law_used", "_law_menu", "_law_word_here", "_law_k", "_law_first"] rfl rfl (by decide +kernel)) ⟨fun _ _ _ _ _ => (pg_name (i := 0) (show List.Nodup [("_law_a" : Str), ("_law_used" : Str), ("_law_word_here" : Str)] by decide +kernel) rfl (Or.inl (lookup_relabel_local rfl)) (.inr (lookup_relabel_local rfl))), fun _ _ _ _ _ => (pts_one (pt_cmpR (op_notIn_K (K := K) rfl) (pe_op op_add_str (pv 0) (pe_slice sl_str (pv 2) po_none (po_some pe_int))) (pv 1) (by with_unfolding_all rfl))), fun _ _ _ _ _ => (pv 0)⟩ (pi_str pe_str))
      (pss_one (ps_ret (pe_op op_add_str (pe_ix ix_list (pv 5) pe_int (fun _ _ => rfl)) (pe_slice sl_str (pv 3) po_none (po_some pe_int)))))))))), ?_⟩
    refine ⟨by show 12 ≤ sizeLine; decide, fun q hq => ?_⟩
    have pq : p ≠ q := by
      obtain ⟨a, b, c, e⟩ := hp
      exact ne_of_none e hq
    have o1 : Off p H (upd H q (.lst (menu.map V.str))) := Off.new hq
    have hp1 : Pu (upd H q (.lst (menu.map V.str))) p := by
      obtain ⟨a, b, c, e⟩ := hp
      exact ⟨a, b, c, by rw [upd_ne pq]; exact e⟩
    refine ⟨_, rfl, _, rfl, p, 12, rfl, hp1, by decide, by decide, fun r a b c h0 h1 => ?_⟩
    obtain ⟨x0, e0, m0, _⟩ := atI_strs (ns := menu) h0 h1
    refine ⟨q, menu.map V.str, _, _, rfl, rfl, SqL.of (by rw [upd_ne pq.symm, upd_same]; rfl), e0, ?_⟩
    refine ⟨fun σ' H' => ∃ (x : Str) (v : Option V), σ' = [some (.ref p), some (.ref u), some (.ref q), some (.str x), v, none] ∧ x.length ≤ 6 ∧ Off p H H' ∧ Pu H' p, ?_, ?_⟩
    · refine ⟨_, rfl, p, 5, rfl, Pu.upd, by decide, by decide, fun r a b c h0 h1 => ⟨_, _, rfl, rfl, _, rfl, ite2 (fun hb => ?_) (fun hb => ?_)⟩⟩
      · refine ⟨_, rfl, p, 6, rfl, Pu.upd, by decide, by decide, fun r2 a2 b2 c2 g0 g1 => ⟨_, _, rfl, rfl, _, rfl, by omega, by omega, ?_⟩⟩
        refine for_range (lo := 0) (n := (1 + r2).toNat) (fun i σ H2 => ∃ (x : Str) (v : Option V), σ = [some (.ref p), some (.ref u), some (.ref q), some (.str x), v, none] ∧ x.length ≤ i ∧ Off p H H2 ∧ Pu H2 p)
          ⟨_, _, rfl, by decide, ((o1.trans Off.upd).trans Off.upd).trans Off.upd, Pu.upd⟩ ?_ ?_
        · rintro i σ H2 hi ⟨x, v, rfl, hx, o2, p2⟩
          refine ⟨_, rfl, _, rfl, p, 26, rfl, p2, by decide, by decide, fun r3 a3 b3 c3 f0 f1 => ?_⟩
          obtain ⟨cc, ec, _, _⟩ := atI_in (xs := abc.cps.toList) f0 (by rw [Array.length_toList, abc_len]; exact f1)
          refine ⟨abc, _, cc, rfl, rfl, by decide +kernel, ec, _, _, rfl, rfl, ?_, _, _, rfl, ?_, o2.trans Off.upd, Pu.upd⟩
          · show x.length + 1 ≤ sizeLine
            omega
          · rw [str_len_app]
            show x.length + 1 ≤ i + 1
            omega
        · rintro σ H2 ⟨x, v, rfl, hx, o2, p2⟩
          exact ⟨x, v, rfl, by omega, o2, p2⟩
      · exact ⟨x0, none, rfl, menu_len x0 m0, (o1.trans Off.upd).trans Off.upd, Pu.upd⟩
    · rintro σ' H' ⟨x, v, rfl, hx, oh, ph⟩
      have hu' : H' u = some (.lst (us.map V.str)) := oh u _ up hu
      refine ⟨_, rfl, _, rfl, u, _, rfl, .inl (SqL.of hu'), rfl, flat_strs us, _, rfl, ite2 (fun hb => ?_) (fun hb => ?_)⟩
      · refine ⟨_, rfl, k x H' (by omega) ?_ oh ph⟩
        intro hm
        have hb : (!inV (.str x) (us.map V.str)) = true := hb
        rw [inV_strs, decide_eq_true hm] at hb
        cases hb
      · have s5 : (Txt.slice x none (some 5)).length ≤ 6 := Nat.le_trans (slice_len x _ _) hx
        refine ⟨_, rfl, by decide +kernel, fun Dd hD => ?_⟩
        have uD : u ≠ Dd := ne_of_none hu' hD
        have pD : p ≠ Dd := by
          obtain ⟨a, b, c, e⟩ := ph
          exact ne_of_none e hD
        refine comp_by (n := 26) (fun i ys H2 => ys = ((letters.take i).filter fun c => decide (¬ (c ++ Txt.slice x none (some 5)) ∈ us)).map V.str ∧ H2 = upd H' Dd (.lst ys)) ⟨rfl, rfl⟩ ?_ ?_
        · rintro ys H2 ⟨rfl, rfl⟩
          refine ⟨by show abc.cps.size ≤ 26; rw [abc_len]; exact Nat.le_refl _, ?_⟩
          rw [show letters.take 26 = letters from List.take_of_length_le (by rw [letters_len]; exact Nat.le_refl _)]
          obtain ⟨c, hc, hn⟩ := some_letter hl (Txt.slice x none (some 5))
          have hmem : c ∈ letters.filter fun c => decide (¬ (c ++ Txt.slice x none (some 5)) ∈ us) := List.mem_filter.mpr ⟨hc, decide_eq_true hn⟩
          obtain ⟨d, rest, ed⟩ := List.exists_cons_of_ne_nil (List.ne_nil_of_mem hmem)
          have hd : d ∈ letters.filter fun c => decide (¬ (c ++ Txt.slice x none (some 5)) ∈ us) := by rw [ed]; exact List.mem_cons_self
          obtain ⟨hd1, hd2⟩ := List.mem_filter.mp hd
          refine ⟨_, rfl, Dd, _, _, .str d, rfl, rfl, SqL.of upd_same, by rw [ed]; exact atI_nat (j := 0) rfl, _, rfl, _, rfl, x, rfl, by omega, _, _, rfl, rfl, ?_, ?_⟩
          · rw [letters_one d hd1]
            omega
          · refine k _ _ ?_ (of_decide_eq_true hd2) (oh.trans (Off.new hD)) ?_
            · rw [str_len_app, letters_one d hd1]
              omega
            · obtain ⟨a, b, c, e⟩ := ph
              exact ⟨a, b, c, by rw [upd_ne pD]; exact e⟩
        · rintro i ys H2 hi ⟨rfl, rfl⟩
          refine ⟨by show i < abc.cps.size; rw [abc_len]; exact hi, ?_⟩
          rintro y H3 ⟨rfl, c, ec, rfl⟩ σo ho
          obtain ⟨o, rfl⟩ := own1 ho
          have el : letters[i]? = some ⟨#[c]⟩ := by
            have ec' : abc.cps[i]? = some c := ec
            unfold letters
            rw [List.getElem?_map, Array.getElem?_toList, ec']
            rfl
          have et : letters.take (i + 1) = letters.take i ++ [⟨#[c]⟩] := by
            rw [List.take_succ, el]
            rfl
          have hlen : (((letters.take i).filter fun c => decide (¬ (c ++ Txt.slice x none (some 5)) ∈ us)).map V.str).length ≤ 26 := by
            rw [List.length_map]
            refine Nat.le_trans (List.length_filter_le _ _) ?_
            rw [List.length_take]
            omega
          refine ⟨⟨[_], rfl, rfl⟩, _, rfl, _, rfl, _, rfl, x, rfl, by omega, _, _, rfl, rfl, (by show 1 + _ ≤ sizeLine; omega), _, rfl, u, _, rfl, .inl (SqL.of (by rw [upd_ne uD]; exact hu')), rfl, flat_strs us, _, rfl, ite2 (fun hb => ?_) (fun hb => ?_)⟩
          · have hb : (!inV (.str (⟨#[c]⟩ ++ Txt.slice x none (some 5))) (us.map V.str)) = true := hb
            rw [inV_strs] at hb
            have hn : ¬ ((⟨#[c]⟩ : Str) ++ Txt.slice x none (some 5)) ∈ us := by simpa using hb
            refine ⟨_, rfl, by omega, upd_same, less_by hi ⟨?_, by rw [upd_upd]⟩⟩
            rw [et, List.filter_append, List.map_append]
            congr 1
            rw [List.filter_cons, if_pos (decide_eq_true hn)]
            rfl
          · have hb : ¬ (!inV (.str (⟨#[c]⟩ ++ Txt.slice x none (some 5))) (us.map V.str)) = true := hb
            rw [inV_strs] at hb
            have hn : ((⟨#[c]⟩ : Str) ++ Txt.slice x none (some 5)) ∈ us := by simpa using hb
            refine less_by hi ⟨?_, rfl⟩
            rw [et, List.filter_append]
            rw [show List.filter (fun c => decide (¬ (c ++ Txt.slice x none (some 5)) ∈ us)) [(⟨#[c]⟩ : Str)] = [] by rw [List.filter_cons, if_neg (by simpa using hn)]; rfl, List.append_nil]
end
end K23
end
section
set_option autoImplicit false
namespace K23
open PySem PyProof.Rows L2
section
variable {P : Program} {w : World} {K : PySem.W.Frag} {mg : Str → Option Value} {base : Heap} {t : Adr}
theorem nd_snoc {α : Type} {l : List α} {x : α} (h : l.Nodup) (hx : ¬ x ∈ l) : (l ++ [x]).Nodup := by
  rw [List.nodup_append]
  refine ⟨h, by simp, fun a ha b hb e => ?_⟩
  have : b = x := by simpa using hb
  rw [e, this] at ha
  exact hx ha
def spWords : Sp := fun vs H Q _ => ∃ (p u : Addr) (n : Int), vs = [.ref p, .int n, .ref u] ∧ Pu H p ∧ H u = some (.lst []) ∧ 0 ≤ n ∧ n ≤ 25 ∧ ∀ (l : Addr) (ws : List Str) H', H l = none → ws.length = n.toNat → ws.Nodup → H' l = some (.lst (ws.map V.str)) → Off p H H' → Pu H' p → Q (.ref l) H'
theorem ok_words (D : Defs K mg t) : FnOk P w K mg base CX0 3 t._law_words.1 t._law_words.2 ["_law_purse_here", "_law_many", "_law_used"] spWords := by
  have G__law_word : FnOk P w K mg base CX0 2 t._law_word.1 t._law_word.2 _ spWord := ok_word D
  have hz : sizeLine = 16777216 := sizeLine_eq
  refine D._law_words.fn.ok sc__law_words (fun vs H Q E h => ?_) (fun cdv A outer s H vs Q E hr h => ?_)
  · obtain ⟨p, u, n, rfl, _⟩ := h
    rfl
  · obtain ⟨p, u, n, rfl, hp, hu, h0, h1, k⟩ := h
    refine ⟨_, (pss_cons (ps_set (i := 3) sc__law_words.nd rfl (Or.inl rfl) (pe_lst pa_nil))
      (pss_cons (ps_for PassesOwn.never rfl (pi_range1 rfl D.b_range (pa_cons (pv 1) pa_nil)) (pg_name (i := 4) sc__law_words.nd rfl (Or.inl rfl))
      (pss_one (ps_expr (pe_bm PySem.F.plainAttrs_list PySem.F.slot_list_append PySem.F.type_list_append mt_append (pv 3) (pa_cons (pe_callF D._law_word G__law_word (hr.mono (by omega)) (by rfl) (pa_cons (pv 0) (pa_cons (pe_op op_cat (pv 2) (pv 3)) pa_nil))) pa_nil)))))
      (pss_one (ps_ret (pv 3))))), ?_⟩
    refine ⟨Nat.zero_le _, fun l hl => ?_⟩
    have ul : u ≠ l := ne_of_none hu hl
    have pl : p ≠ l := by
      obtain ⟨a, b, c, e⟩ := hp
      exact ne_of_none e hl
    have up : u ≠ p := by
      obtain ⟨a, b, c, e⟩ := hp
      exact (ne_of e hu (by intro z; cases z)).symm
    refine ⟨_, rfl, n, rfl, by omega, by omega, for_range (lo := 0) (n := n.toNat) (fun i σ H2 => ∃ (ws : List Str) (v : Option V), σ = [some (.ref p), some (.int n), some (.ref u), some (.ref l), v] ∧ ws.length = i ∧ ws.Nodup ∧ H2 l = some (.lst (ws.map V.str)) ∧ Off p H H2 ∧ Pu H2 p)
      ⟨[], _, rfl, rfl, List.nodup_nil, upd_same, Off.new hl, ?_⟩ ?_ ?_⟩
    · obtain ⟨a, b, c, e⟩ := hp
      exact ⟨a, b, c, by rw [upd_ne pl]; exact e⟩
    · rintro i σ H2 hi ⟨ws, v, rfl, hw, nd, hl2, o2, p2⟩
      have hu2 : H2 u = some (.lst []) := o2 u _ up hu
      refine ⟨_, rfl, .inl ⟨rfl, _, SqL.of hl2⟩, _, rfl, _, rfl, _, rfl, u, l, [], ws.map V.str, rfl, rfl, hu2, hl2, by rw [List.length_map]; show 0 + ws.length ≤ sizeLine; omega, fun q hq => ?_⟩
      have pq : p ≠ q := by
        obtain ⟨a, b, c, e⟩ := p2
        exact ne_of_none e hq
      have lq : l ≠ q := ne_of_none hl2 hq
      have p3 : Pu (upd H2 q (.lst ([] ++ ws.map V.str))) p := by
        obtain ⟨a, b, c, e⟩ := p2
        exact ⟨a, b, c, by rw [upd_ne pq]; exact e⟩
      refine ⟨p, q, ws, rfl, p3, upd_same, by omega, fun x H3 hx hn o3 p3 => ?_⟩
      have hl3 : H3 l = some (.lst (ws.map V.str)) := o3 l _ pl.symm (by rw [upd_ne lq]; exact hl2)
      refine ⟨l, ws.map V.str, .str x, rfl, rfl, hl3, by rw [List.length_map]; omega, ws ++ [x], _, rfl, by rw [List.length_append, hw]; rfl, nd_snoc nd hn, by rw [upd_same, List.map_append]; rfl, ?_, ?_⟩
      · intro b o hb e
        have bl : b ≠ l := ne_of_none e hl
        rw [upd_ne bl]
        exact o3 b o hb ((Off.new hq : Off p H2 _) b o hb (o2 b o hb e))
      · obtain ⟨a, b, c, e⟩ := p3
        exact ⟨a, b, c, by rw [upd_ne pl]; exact e⟩
    · rintro σ H2 ⟨ws, v, rfl, hw, nd, hl2, o2, p2⟩
      exact ⟨_, rfl, k l ws H2 hl hw nd hl2 o2 p2⟩
end
end K23
end
section
set_option autoImplicit false
namespace K23
open PySem PyProof.Rows L2
section
variable {P : Program} {w : World} {K : PySem.W.Frag} {mg : Str → Option Value} {base : Heap} {t : Adr}
def spSome : Sp := fun vs H Q _ => ∃ (p m : Addr) (ns : List Str) (n : Nat), vs = [.ref p, .ref m, .int n] ∧ Pu H p ∧ H m = some (.lst (ns.map V.str)) ∧ n ≤ 100 ∧ ns.length ≤ 100 ∧
  ∀ (q : Addr) (es : List Str) H', H' q = some (.tup (es.map V.str)) → (∀ x ∈ es, x ∈ ns) → es.Nodup → es.length ≤ n → Off p H H' → Pu H' p → Q (.ref q) H'
theorem ok_some (D : Defs K mg t) : FnOk P w K mg base CX0 2 t._law_some.1 t._law_some.2 ["_law_purse_here", "_law_menu", "_law_most"] spSome := by
  have G__law_take : FnOk P w K mg base CX0 1 t._law_take.1 t._law_take.2 _ spTake := ok_take D
  have hz : sizeLine = 16777216 := sizeLine_eq
  refine D._law_some.fn.ok sc__law_some (fun vs H Q E h => ?_) (fun cdv A outer s H vs Q E hr h => ?_)
  · obtain ⟨p, m, ns, n, rfl, _⟩ := h
    rfl
  · obtain ⟨p, m, ns, n, rfl, hp, hm, hn, hl, k⟩ := h
    have mp : m ≠ p := hp.ne hm
    refine ⟨_, (pss_cons (ps_set (i := 3) sc__law_some.nd rfl (Or.inl rfl) (pe_lst pa_nil))
      (pss_cons (ps_if (pt_cmpR op_eq (pe_callB call_len_seq (by rfl) D.b_len bt_len (pa_cons (pv 1) pa_nil)) pe_int (nomark _))
      (pss_one (ps_ret (pe_tup pa_nil)))
      pss_nil)
      (pss_cons (ps_for PassesOwn.never rfl (pi_range1 rfl D.b_range (pa_cons (pe_callF D._law_take G__law_take (hr.mono (by omega)) (by rfl) (pa_cons (pv 0) (pa_cons (pe_op op_add (pv 2) pe_int) pa_nil))) pa_nil)) (pg_name (i := 4) sc__law_some.nd rfl (Or.inl rfl))
      (pss_cons (ps_set (i := 5) sc__law_some.nd rfl (Or.inl rfl) (pe_ix ix_list (pv 1) (pe_callF D._law_take G__law_take (hr.mono (by omega)) (by rfl) (pa_cons (pv 0) (pa_cons (pe_callB call_len_seq (by rfl) D.b_len bt_len (pa_cons (pv 1) pa_nil)) pa_nil))) (fun _ _ => rfl)))
      (pss_one (ps_if (pt_cmpR op_notIn_seq (pv 5) (pv 3) (by with_unfolding_all rfl))
      (pss_one (ps_expr (pe_bm PySem.F.plainAttrs_list PySem.F.slot_list_append PySem.F.type_list_append mt_append (pv 3) (pa_cons (pv 5) pa_nil))))
      pss_nil))))
      (pss_one (ps_ret (pe_callTy call_tuple_of (by rfl) D.b_tuple bt_tuple (pa_cons (pv 3) pa_nil))))))), ?_⟩
    refine ⟨Nat.zero_le _, fun l hll => ?_⟩
    have pl : p ≠ l := hp.neN hll
    have ml : m ≠ l := ne_of_none hm hll
    refine ⟨_, rfl, m, _, rfl, .inl (SqL.of (by rw [upd_ne ml]; exact hm)), rfl, _, rfl, ite2 (fun hb => ?_) (fun hb => ?_)⟩
    · exact ⟨Nat.zero_le _, fun q hq => k q [] _ upd_same (by simp) List.nodup_nil (Nat.zero_le _) ((Off.new hll).trans (Off.new hq)) ((hp.upd_ne pl).upd_ne ((hp.upd_ne pl).neN hq))⟩
    · have hpos : 0 < ns.length := by
        have hb : ¬ decide (V.int ((ns.map V.str).length : Int) = V.int 0) = true := hb
        rcases Nat.eq_zero_or_pos ns.length with h | h
        · exfalso
          apply hb
          rw [List.length_map, h]
          exact decide_eq_true rfl
        · exact h
      refine ⟨_, rfl, _, rfl, _, _, rfl, rfl, p, _, rfl, hp.upd_ne pl, by omega, by omega, fun r a1 b1 c1 l1 u1 => ⟨r, rfl, by omega, by omega, ?_⟩⟩
      refine for_range (lo := 0) (n := r.toNat) (fun i σ H2 => ∃ (es : List Str) (v4 v5 : Option V), σ = [some (.ref p), some (.ref m), some (.int n), some (.ref l), v4, v5] ∧ es.length ≤ i ∧ es.Nodup ∧ (∀ x ∈ es, x ∈ ns) ∧ H2 l = some (.lst (es.map V.str)) ∧ Off p H H2 ∧ Pu H2 p)
        ⟨[], _, _, rfl, Nat.le_refl _, List.nodup_nil, by simp, by rw [upd_ne pl.symm, upd_same]; rfl, (Off.new hll).trans Off.upd, Pu.upd⟩ ?_ ?_
      · rintro i σ H2 hi ⟨es, v4, v5, rfl, he, nd, sub, hl2, o2, p2⟩
        have hm2 : H2 m = some (.lst (ns.map V.str)) := o2 m _ mp hm
        refine ⟨_, rfl, _, rfl, _, rfl, m, _, rfl, .inl (SqL.of hm2), p, _, rfl, p2, by rw [List.length_map]; omega, by rw [List.length_map]; omega, fun r2 a2 b2 c2 l2 u2 => ?_⟩
        rw [List.length_map] at u2
        obtain ⟨x, ex, mx, _⟩ := atI_strs (ns := ns) l2 u2
        refine ⟨m, _, _, _, rfl, rfl, SqL.of (by rw [upd_ne mp]; exact hm2), ex, ?_⟩
        have lp : l ≠ p := pl.symm
        refine ⟨_, rfl, _, rfl, l, _, rfl, .inl (SqL.of (by rw [upd_ne lp]; exact hl2)), rfl, flat_strs es, _, rfl, ite2 (fun hc => ?_) (fun hc => ?_)⟩
        · have hc : (!inV (.str x) (es.map V.str)) = true := hc
          rw [inV_strs] at hc
          have hx : ¬ x ∈ es := by simpa using hc
          refine ⟨_, rfl, .inl ⟨rfl, _, SqL.of (by rw [upd_ne lp]; exact hl2)⟩, _, rfl, l, es.map V.str, .str x, rfl, rfl, by rw [upd_ne lp]; exact hl2, by rw [List.length_map]; omega, es ++ [x], _, _, rfl, by rw [List.length_append]; exact Nat.succ_le_succ he, nd_snoc nd hx, ?_, by rw [upd_same, List.map_append]; rfl, ?_, Pu.upd.upd_ne pl⟩
          · intro z hz
            rcases List.mem_append.mp hz with h | h
            · exact sub z h
            · rw [List.mem_singleton.mp h]
              exact mx
          · intro b o hb e
            rw [upd_ne (ne_of_none e hll), upd_ne hb]
            exact o2 b o hb e
        · exact ⟨es, _, _, rfl, Nat.le_succ_of_le he, nd, sub, by rw [upd_ne lp]; exact hl2, o2.trans Off.upd, Pu.upd⟩
      · rintro σ H2 ⟨es, v4, v5, rfl, he, nd, sub, hl2, o2, p2⟩
        refine ⟨_, rfl, l, _, rfl, .inl ⟨SqL.of hl2, fun q hq => ?_⟩⟩
        exact k q es _ upd_same sub nd (by omega) (o2.trans (Off.new hq)) (p2.upd_ne (p2.neN hq))
end
end K23
end
section
set_option autoImplicit false
namespace K23
open PySem PyProof.Rows L2
abbrev Fam := List (Str × List Str)
def rowT (r : Str × List Str) : T := .tup [.str r.1, .tup (r.2.map T.str)]
def famT (f : Fam) : T := .tup (f.map rowT)
abbrev nms (f : Fam) : List Str := f.map (·.1)
structure GoodF (f : Fam) : Prop where
  nd : (nms f).Nodup
  sub : ∀ r ∈ f, ∀ e ∈ r.2, e ∈ nms f
  len : f.length ≤ 7
  el : ∀ r ∈ f, r.2.length ≤ 7
  topo : ∃ top : List Str, top.Nodup ∧ (∀ x, x ∈ top ↔ x ∈ nms f) ∧ ∀ r ∈ f, ∃ j, top[j]? = some r.1 ∧ ∀ e ∈ r.2, e ∈ top.take j
theorem Dp.row {H : Hp} {q e : Addr} {x : Str} {es : List Str} (hq : H q = some (.tup [.str x, .ref e])) (he : H e = some (.tup (es.map V.str))) : Dp H (rowT (x, es)) (.ref q) :=
  L2.Dp.tup hq (.cons (L2.Dp.str x) (.cons (L2.Dp.tup he (DpL.strs es)) .nil))
theorem Dp.of_row {H : Hp} {r : Str × List Str} {v : V} (d : Dp H (rowT r) v) : ∃ q e, v = .ref q ∧ H q = some (.tup [.str r.1, .ref e]) ∧ H e = some (.tup (r.2.map V.str)) := by
  obtain ⟨q, xs, rfl, hq, dl⟩ := L2.Dp.of_tup d
  obtain ⟨x1, r1, rfl, d1, dl⟩ := dl.cases
  obtain ⟨x2, r2, rfl, d2, dl3⟩ := dl.cases
  have e1 := L2.Dp.of_str d1
  have e3 := dl3.of_nil
  obtain ⟨e, ys, rfl, he, dl2⟩ := L2.Dp.of_tup d2
  subst e1 e3
  rw [DpL.of_strs dl2] at he
  exact ⟨q, e, rfl, hq, he⟩
end K23
end
section
set_option autoImplicit false
namespace K23
open PySem L2
noncomputable def mergeR (rows : List (List Str)) : Option (List Str) := open Classical in if h : ∃ r, Mg rows r then Classical.choose h else none
theorem mergeR_eq {rows : List (List Str)} {r : Option (List Str)} (h : Mg rows r) : mergeR rows = r := by
  unfold mergeR
  rw [dif_pos ⟨r, h⟩]
  exact Mg.det (Classical.choose_spec (⟨r, h⟩ : ∃ r, Mg rows r)) h
def elds (f : Fam) (x : Str) : List Str := ((f.find? fun r => decide (r.1 = x)).map (·.2)).getD []
theorem elds_of : ∀ {f : Fam}, (nms f).Nodup → ∀ r ∈ f, elds f r.1 = r.2
  | [], _, _, h => nomatch h
  | r0 :: f, nd, r, hr => by
    have nd' : (r0.1 :: nms f).Nodup := nd
    obtain ⟨n1, n2⟩ := List.nodup_cons.mp nd'
    unfold elds
    rw [List.find?_cons]
    rcases List.mem_cons.mp hr with rfl | h
    · rw [decide_eq_true rfl]
      rfl
    · have ne : ¬ r0.1 = r.1 := fun e => n1 (e ▸ List.mem_map.mpr ⟨r, h, rfl⟩)
      rw [decide_eq_false ne]
      exact elds_of n2 r h
def rowsBy (g : Str → Option (List Str)) (es : List Str) : List (List Str) := es.map (fun e => (g e).getD []) ++ [es]
noncomputable def ordN (f : Fam) : Nat → Str → Option (List Str)
  | 0, _ => none
  | n + 1, x => if (elds f x).all (fun e => (ordN f n e).isSome) = true then (mergeR (full (rowsBy (ordN f n) (elds f x)))).map (x :: ·) else none
variable {f : Fam}
theorem ix_uniq {l : List Str} (h : l.Nodup) {i j : Nat} {x : Str} (a : l[i]? = some x) (b : l[j]? = some x) : i = j := by
  obtain ⟨h1, e1⟩ := List.getElem?_eq_some_iff.mp a
  obtain ⟨h2, e2⟩ := List.getElem?_eq_some_iff.mp b
  exact (List.getElem_inj h).mp (e1.trans e2.symm)
theorem mem_take_ix {l : List Str} {j : Nat} {x : Str} (h : x ∈ l.take j) : ∃ i, i < j ∧ l[i]? = some x := by
  obtain ⟨i, hi, e⟩ := List.getElem_of_mem h
  rw [List.length_take] at hi
  refine ⟨i, by omega, ?_⟩
  rw [← e, List.getElem_take]
  exact List.getElem?_eq_getElem (by omega)
theorem ord_stab (G : GoodF f) {top : List Str} (t0 : top.Nodup) (t1 : ∀ x, x ∈ top ↔ x ∈ nms f) (t2 : ∀ r ∈ f, ∃ j, top[j]? = some r.1 ∧ ∀ e ∈ r.2, e ∈ top.take j) :
    ∀ (j : Nat) (x : Str), top[j]? = some x → ∀ n m, j < n → j < m → ordN f n x = ordN f m x := by
  intro j
  induction j using Nat.strongRecOn with
  | ind j ih =>
    intro x hx n m hn hm
    obtain ⟨n, rfl⟩ : ∃ n', n = n' + 1 := ⟨n - 1, by omega⟩
    obtain ⟨m, rfl⟩ : ∃ m', m = m' + 1 := ⟨m - 1, by omega⟩
    have hxn : x ∈ nms f := (t1 x).mp (List.mem_of_getElem? hx)
    obtain ⟨r, hr, rfl⟩ := List.mem_map.mp hxn
    have ee := elds_of G.nd r hr
    obtain ⟨j', h1, h2⟩ := t2 r hr
    have ej := ix_uniq t0 hx h1
    subst ej
    have same : ∀ e ∈ r.2, ordN f n e = ordN f m e := fun e he => by
      obtain ⟨i, hi, ei⟩ := mem_take_ix (h2 e he)
      exact ih i hi e ei n m (by omega) (by omega)
    unfold ordN
    rw [ee]
    have c1 : r.2.all (fun e => (ordN f n e).isSome) = r.2.all (fun e => (ordN f m e).isSome) := by
      apply Bool.eq_iff_iff.mpr
      rw [List.all_eq_true, List.all_eq_true]
      exact ⟨fun h e he => by rw [← same e he]; exact h e he, fun h e he => by rw [same e he]; exact h e he⟩
    have c2 : rowsBy (ordN f n) r.2 = rowsBy (ordN f m) r.2 := by
      unfold rowsBy
      congr 1
      exact List.map_congr_left fun e he => by rw [same e he]
    rw [c1, c2]
noncomputable def ordF (f : Fam) : Str → Option (List Str) := ordN f 8
theorem ord_eq (G : GoodF f) {r : Str × List Str} (hr : r ∈ f) : ordF f r.1 = if r.2.all (fun e => (ordF f e).isSome) = true then (mergeR (full (rowsBy (ordF f) r.2))).map (r.1 :: ·) else none := by
  obtain ⟨top, t0, t1, t2⟩ := G.topo
  have tl : top.length ≤ 7 := by
    have h1 := nodup_le t0 (m := nms f) fun x hx => (t1 x).mp hx
    have h2 : (nms f).length = f.length := List.length_map _
    have := G.len
    omega
  have same : ∀ e ∈ r.2, ordN f 7 e = ordF f e := fun e he => by
    obtain ⟨j, h1, h2⟩ := t2 r hr
    obtain ⟨i, hi, ei⟩ := mem_take_ix (h2 e he)
    have hil := (List.getElem?_eq_some_iff.mp ei).1
    exact ord_stab G t0 t1 t2 i e ei 7 8 (by omega) (by omega)
  show ordN f 8 r.1 = _
  unfold ordN
  rw [elds_of G.nd r hr]
  have c1 : r.2.all (fun e => (ordN f 7 e).isSome) = r.2.all (fun e => (ordF f e).isSome) := by
    apply Bool.eq_iff_iff.mpr
    rw [List.all_eq_true, List.all_eq_true]
    exact ⟨fun h e he => by rw [← same e he]; exact h e he, fun h e he => by rw [same e he]; exact h e he⟩
  have c2 : rowsBy (ordN f 7) r.2 = rowsBy (ordF f) r.2 := by
    unfold rowsBy
    congr 1
    exact List.map_congr_left fun e he => by rw [same e he]
  rw [c1, c2]
end K23
end
section
set_option autoImplicit false
namespace L2
open PySem PySem.Spec PyProof.Rows
section
variable {X : Cx} {K : PySem.W.Frag}
def SeqAt' (H : Hp) (v : V) (ys : List V) : Prop := ∃ p, v = .ref p ∧ (H p = some (.lst ys) ∨ H p = some (.tup ys))
theorem any_run {pins : List (Addr × Obj)} {σ : St} {H : Hp} {A : Around} {R : Result → Shared → Prop} {it : Addr} {xs : List V} {bs : List Bool} (tn : Nat → Heap → Prop) (hb : bs.length = xs.length)
    (item : ∀ (i : Nat) (hi : i < xs.length) (s : Shared) (Q : Option Value → Shared → Prop) (E : Value → Shared → Prop), Inv X pins σ H s → tn i s.heap → (∀ u h', RelV xs[i] u → Inv X pins σ H { s with heap := h' } → tn (i + 1) h' → Q (some u) { s with heap := h' }) → wpAny (model X.prog X.w) A.in1 (pyNext (.ref it)) Q E s)
    (done : ∀ (s : Shared) (Q : Option Value → Shared → Prop) (E : Value → Shared → Prop), Inv X pins σ H s → tn xs.length s.heap → (∀ h', Inv X pins σ H { s with heap := h' } → Q none { s with heap := h' }) → wpAny (model X.prog X.w) A.in1 (pyNext (.ref it)) Q E s)
    (tru : ∀ (i : Nat) (hi : i < xs.length) (hj : i < bs.length), ∃ ys, SeqAt' H xs[i] ys ∧ bs[i] = !ys.isEmpty)
    (hR : ∀ s', Inv X pins σ H s' → R (.ok (.ret (.bool (bs.any id)))) s') :
    ∀ (k i : Nat) (s : Shared), xs.length - i = k → i ≤ xs.length → (∀ (j : Nat) (hj : j < bs.length), j < i → bs[j] = false) → Inv X pins σ H s → tn i s.heap → codeAny (model X.prog X.w) A (.builtin "any.loop" ⟨[.ref it], []⟩) R s := by
  intro k
  induction k with
  | zero =>
    intro i s hk hi hf I ht
    have hin : i = xs.length := by omega
    subst hin
    refine codeAny_builtin F.entry_any_loop ?_
    rw [Around.under_plainId F.plain_any_loop _]
    show wpAny _ A.in1 (pyNext (.ref it) >>= _) _ _ s
    refine wpAny_bind (done s _ _ I ht fun h' I' => ?_)
    refine wpAny_bind (wpAny_rule (wpAny_pure ?_))
    have e : bs.any id = false := by
      apply Bool.eq_false_iff.mpr
      intro h
      obtain ⟨b, hb', hb1⟩ := List.any_eq_true.mp h
      obtain ⟨j, hj, rfl⟩ := List.getElem_of_mem hb'
      rw [hf j hj (by omega)] at hb1
      cases hb1
    have := hR _ I'
    rw [e] at this
    exact this
  | succ k ih =>
    intro i s hk hi hf I ht
    have hlt : i < xs.length := by omega
    have hlb : i < bs.length := by omega
    refine codeAny_builtin F.entry_any_loop ?_
    rw [Around.under_plainId F.plain_any_loop _]
    show wpAny _ A.in1 (pyNext (.ref it) >>= _) _ _ s
    refine wpAny_bind (item i hlt s _ _ I ht fun u h' ru I' ht' => ?_)
    obtain ⟨ys, ⟨p, ep, hp⟩, eb⟩ := tru i hlt hlb
    rw [ep] at ru
    cases ru
    have hs : sizeLine = 16777216 := sizeLine_eq
    have hl63 := line63
    have step : ∀ (s2 : Shared), Inv X pins σ H s2 → s2.heap = h' → wpAny (model X.prog X.w) A.in1 (do
        letGo [Value.ref p]
        if bs[i] = true then do rule "any.true-item"; ret (.bool true) else again (.builtin "any.loop" ⟨[.ref it], []⟩)) (fun fin s' => (match fin with | .done f => R (.ok f) s' | .again c => Code.quiet c ∧ codeAny (model X.prog X.w) A c R s')) (fun e s' => R (.error e) s') s2 := fun s2 I2 e2 => by
      refine wpAny_bind (wpAny_letGo ?_)
      cases hbi : bs[i] with
      | true =>
        simp only [if_true]
        refine wpAny_bind (wpAny_rule (wpAny_pure ?_))
        have e : bs.any id = true := List.any_eq_true.mpr ⟨bs[i], List.getElem_mem hlb, hbi⟩
        have := hR _ I2
        rw [e] at this
        exact this
      | false =>
        simp only [Bool.false_eq_true, if_false]
        refine wpAny_pure ⟨plainId_quiet F.plain_any_loop _, ih (i + 1) _ (by omega) hlt (fun j hj hji => ?_) I2 (by rw [e2]; exact ht')⟩
        by_cases hji' : j = i
        · subst hji'
          exact hbi
        · exact hf j hj (by omega)
    rcases hp with hp | hp
    · obtain ⟨its, r, pl, hz⟩ := I'.list (SqL.of hp)
      have hlen := r.length
      refine wpAny_bind (wpAny_holding (wpAny_truthy_list pl.isList (by simp only [List.size_toArray]; omega) ?_))
      rw [isEmpty_of r, ← eb]
      exact step _ (I'.tok _) rfl
    · obtain ⟨its, r, pl, hz⟩ := I'.tuple (SqT.of hp)
      have hlen := r.length
      refine wpAny_bind (wpAny_holding (truthy_tuple pl (by simp only [List.size_toArray]; omega) ?_))
      rw [isEmpty_of r, ← eb]
      exact step _ (I'.tok _) rfl
end
end L2
end
section
set_option autoImplicit false
namespace L2
open PySem PySem.Spec PyProof.Rows
section
variable {X : Cx} {K : PySem.W.Frag}
theorem call_anyS (hc : X.calm = true) : CallR X (.builtin "any") (fun vs H Q => ∃ (p : Addr) (xs : List V) (bs : List Bool), vs = [.ref p] ∧ (H p = some (.lst xs) ∨ H p = some (.tup xs)) ∧ bs.length = xs.length ∧
    (∀ (i : Nat) (hi : i < xs.length) (hj : i < bs.length), ∃ ys, SeqAt' H xs[i] ys ∧ bs[i] = !ys.isEmpty) ∧ Q (.bl (bs.any id)) H) := by
  intro pins s σ H xs us Q I r h
  obtain ⟨p, xs, bs, rfl, hp, hb, tru, q⟩ := h
  obtain ⟨u, rfl, ru⟩ := vals1 r
  cases ru
  have hh : X.A.handled = none := I.ok.hd hc
  refine call_function_tree F.kind_any F.plain_any F.entry_any (F.args_any1 _) ?_
  unfold Builtin.«any»
  refine wpAny_bind (m := oneArg "any" _) (wpAny_pure ?_)
  rcases hp with hp | hp
  · obtain ⟨its, rv, pl, hz⟩ := I.list (SqL.of hp)
    have hl := rv.length
    refine wpAny_bind (wpAny_pyIter_list pl.isList ?_)
    have I1 := I.kept (t' := s.toks) (h' := s.heap.push { cls := .type "list_iterator", data := .fields #[.ref p, .int 0 0] }) fun b o e => Heap.get?_push_of_some _ e
    have fp := I.fpOk (Nat.le_refl _) (I.hok.fresh (Nat.le_refl s.heap.objs.size))
    obtain ⟨f0, f1, f2, f3, f4, f5⟩ := fp
    refine wpAny_pure ⟨plainId_quiet F.plain_any_loop _, any_run (X := X) (pins := pins) (σ := σ) (H := H) (A := X.A) (it := s.heap.objs.size) (xs := xs) (bs := bs) (fun i h => h.IsListIter s.heap.objs.size p i) hb ?_ ?_ tru (fun s' I' => ?_) xs.length 0 _ (by simp) (Nat.zero_le _) (by intro j hj h; omega) I1 ⟨_, Heap.get?_push_size _ rfl, rfl, rfl⟩⟩
    · intro i hi s2 Q2 E2 I2 t2 k
      obtain ⟨its2, rv2, pl2, _⟩ := I2.list (SqL.of hp)
      obtain ⟨u, hu, ru⟩ := rv2.get (i := i) (x := xs[i]) (List.getElem?_eq_getElem hi)
      exact wpAny_pyNext_list_item t2 pl2.isList (x := u) (by simpa using hu) fun h' st' sb => k u h' ru (I2.turned (t' := s2.toks) (fun b o hb e => (sb.2 b hb).trans e) f0 f1 f3 f4 f5) st'
    · intro s2 Q2 E2 I2 t2 k
      obtain ⟨its2, rv2, pl2, _⟩ := I2.list (SqL.of hp)
      have hl2 := rv2.length
      exact wpAny_pyNext_list_end hh t2 pl2.isList (by simp; omega) fun h' eb => k h' (I2.turned (t' := s2.toks) (fun b o hb e => eb b o hb e) f0 f1 f3 f4 f5)
    · exact ⟨.bl _, H, I', rfl, q⟩
  · obtain ⟨its, rv, pl, hz⟩ := I.tuple (SqT.of hp)
    have hl := rv.length
    refine wpAny_bind (wpAny_pyIter_tuple (show s.heap.IsTuple p its.toArray from pl) ?_)
    have I1 := I.kept (t' := s.toks) (h' := s.heap.push { cls := .type "tuple_iterator", data := .fields #[.ref p, .int 0 0] }) fun b o e => Heap.get?_push_of_some _ e
    have fp := I.fpOk (Nat.le_refl _) (I.hok.fresh (Nat.le_refl s.heap.objs.size))
    obtain ⟨f0, f1, f2, f3, f4, f5⟩ := fp
    refine wpAny_pure ⟨plainId_quiet F.plain_any_loop _, any_run (X := X) (pins := pins) (σ := σ) (H := H) (A := X.A) (it := s.heap.objs.size) (xs := xs) (bs := bs) (fun i h => h.IsTupleIter s.heap.objs.size p i) hb ?_ ?_ tru (fun s' I' => ?_) xs.length 0 _ (by simp) (Nat.zero_le _) (by intro j hj h; omega) I1 ⟨_, Heap.get?_push_size _ rfl, rfl, rfl⟩⟩
    · intro i hi s2 Q2 E2 I2 t2 k
      obtain ⟨its2, rv2, pl2, _⟩ := I2.tuple (SqT.of hp)
      obtain ⟨u, hu, ru⟩ := rv2.get (i := i) (x := xs[i]) (List.getElem?_eq_getElem hi)
      exact wpAny_pyNext_tuple_item t2 (show s2.heap.IsTuple p its2.toArray from pl2) (x := u) (by simpa using hu) fun h' st' sb => k u h' ru (I2.turned (t' := s2.toks) (fun b o hb e => sb.extBut b o hb e) f0 f1 f3 f4 f5) st'
    · intro s2 Q2 E2 I2 t2 k
      obtain ⟨its2, rv2, pl2, _⟩ := I2.tuple (SqT.of hp)
      have hl2 := rv2.length
      exact wpAny_pyNext_tuple_end hh t2 (show s2.heap.IsTuple p its2.toArray from pl2) (by simp; omega) fun h' eb => k h' (I2.turned (t' := s2.toks) (fun b o hb e => eb b o hb e) f0 f1 f3 f4 f5)
    · exact ⟨.bl _, H, I', rfl, q⟩
theorem pt_truth_K {a : Expr} {ta : TE} (hK : X.K = K) (ha : PE X a ta) (he : ∀ whole, isTrue a X.env whole = (do let v ← whole; standAt a.pos; holding [v] (truthy v))) :
    PT X a (fun σ H Q => ta σ H fun x H' => ∃ k, TruV K x H' k ∧ Q k H') := by subst hK; exact pt_truth ha he
theorem sl_seqK (hK : X.K = K) : SlR X (fun x lo hi H Q => rSlT K x lo hi H Q ∨ rSlL K x lo hi H Q) := by subst hK; exact sl_tup.or sl_list
theorem ix_seqK (hK : X.K = K) : IxR X (fun x y H Q => rIxT K x y H Q ∨ rIxL K x y H Q) := by subst hK; exact ix_tup.or ix_list
end
end L2
end
section
set_option autoImplicit false
namespace L2
open PySem PySem.Spec PyProof.Rows PySem.W
section
variable {prog : Program} {w : World} {A : Around} {E : Value → Shared → Prop} {s : Shared} {T : String} {r d : Addr} {n : Nat} {P : Nat → Value → Prop} {OK : Heap → Prop}
theorem collect_src {Q : List Value → Shared → Prop} (K : KdlSrc prog w T r d n P OK) (hh : A.handled = none) (hok : OK s.heap) (hn : n ≤ sizeLine)
    (hQ : ∀ (h' : Heap) (tk : Nat) (acc : Array Value), (∀ b o, s.heap.get? b = some o → h'.get? b = some o) → ItemsOf P acc n → Q acc.toList { s with heap := h', toks := tk }) : wpAny (model prog w) A (collect (.ref r)) Q E s := by
  obtain ⟨l1, l2⟩ := K.there _ hok
  unfold collect
  refine wpAny_bind (wpAny_runValue (codeAny_builtin F.entry_proto_collect ?_))
  rw [Around.under_plainId F.plain_proto_collect _]
  show wpAny _ A.in1 (newList [] >>= fun l => again (.builtin "list.__iadd__" ⟨[l, .ref r], []⟩)) _ _ s
  refine wpAny_bind (wpAny_newObj_type ?_)
  refine wpAny_pure ⟨plainId_quiet F.plain_list_iadd _, codeAny_builtin F.entry_list_iadd ?_⟩
  rw [Around.under_plainId F.plain_list_iadd _]
  show wpAny _ A.in1 (Builtin.List.listExtendWith (.ref s.heap.objs.size) (.ref r) (.ref s.heap.objs.size)) _ _ _
  have fin' : ∀ s' : Shared, (∃ (h' : Heap) (tk : Nat) (acc : Array Value) (c : Nat), s' = { s with heap := h', toks := tk } ∧ (∀ b o, s.heap.get? b = some o → h'.get? b = some o) ∧ h'.get? s.heap.objs.size = some { cls := .type "list", dict := none, data := .seq acc c, slots := #[] } ∧ ItemsOf P acc n) →
      wpAny (model prog w) A (do
        let o ← load s.heap.objs.size
        match o.data with
        | .seq xs _ => pure xs.toList
        | _ => unsupported "internal:collect") Q E s' := by
    rintro s' ⟨h', tk, acc, c, rfl, kp, hS, hacc⟩
    exact wpAny_bind (wpAny_load hS (wpAny_pure (hQ h' tk acc kp hacc)))
  refine wpAny_mono (kdl_extend (s := { s with heap := s.heap.push { cls := .type "list", data := .seq ([] : List Value).toArray } }) (A := A)
    (R := fun r' s' => r' = .ok (.ret (.ref s.heap.objs.size)) ∧ ∃ (h' : Heap) (tk : Nat) (acc : Array Value) (c : Nat), s' = { s with heap := h', toks := tk } ∧ (∀ b o, s.heap.get? b = some o → h'.get? b = some o) ∧ h'.get? s.heap.objs.size = some { cls := .type "list", dict := none, data := .seq acc c, slots := #[] } ∧ ItemsOf P acc n)
    K hh (K.keep _ _ hok fun b _ o e => Heap.get?_push_of_some _ e) s.heap.objs.size (Nat.ne_of_gt l1) (Nat.ne_of_gt l2) _ 0 (Heap.get?_push_size _ rfl)
    (fun h' tk acc c kp hS hacc => ⟨rfl, h', tk, acc, c, rfl, fun b o e => kp b o (Nat.ne_of_lt (Heap.lt_size e)) (Heap.get?_push_of_some _ e), hS, hacc⟩) hn) (fun fin s' h => ?_) (fun e s' h => ?_)
  · cases fin with
    | done f =>
      obtain ⟨e, h⟩ := h
      cases e
      exact fin' s' h
    | again c' => exact ⟨h.1, codeAny_mono h.2 fun r s'' hr => by obtain ⟨rfl, hr⟩ := hr; exact fin' s'' hr⟩
  · exact absurd h.1 (by simp)
theorem call_tuple_src {Q : Value → Shared → Prop} (K : KdlSrc prog w "dict" r d n P OK) (hh : A.handled = none) (hok : OK s.heap) (hn : n ≤ sizeLine)
    (hQ : ∀ (h' : Heap) (tk : Nat) (acc : Array Value), (∀ b o, s.heap.get? b = some o → h'.get? b = some o) → ItemsOf P acc n → Q (.ref h'.objs.size) { s with heap := h'.push { cls := .type "tuple", data := .seq acc }, toks := tk }) :
    wpAny (model prog w) A (call (.type "tuple") [.ref r]) Q E s := by
  refine callType_codes (Q₁ := fun obj s₁ => s₁.TypeIs obj "tuple" ∧ Q obj s₁) F.called_tuple (F.typeCall_tuple_1 _) F.entry_object_init (codeAny_call_builtin (by decide +kernel) F.entry_tuple_new (wpAny_of_eq (F.newCall_tuple_1 _) ?_)) fun obj s₁ h₁ => ?_
  · have hT : ∀ tk', ({ s with toks := tk' } : Shared).TypeIs (.ref r) "dict" := fun tk' => K.type _ hok
    obtain ⟨hp, g, dd, tk, os⟩ := s
    have hsub := sub_tuple_self
    have hinit := init_tuple_lookup
    have hmh := madeHere_tuple
    have hT0 : Shared.TypeIs ⟨hp, g, dd, tk, os⟩ (.ref r) "dict" := hT tk
    wp_walk using wpAny_typeOf hT0, collect_src (A := A.in1.in1) K hh hok hn
    intro h' tk' acc kp hacc
    show wpAny _ _ (Builtin.Tuple.tupleExact acc.toList.toArray >>= fun v => ret v) _ _ _
    unfold Builtin.Tuple.tupleExact
    refine wpAny_bind (wpAny_newObj_type ?_ (by show acc.toList.toArray.size ≤ sizeLine; simp; rw [hacc.1]; exact hn))
    have e : acc.toList.toArray = acc := by simp
    rw [e]
    refine wpAny_pure ⟨⟨_, Heap.get?_push_size _ rfl, rfl⟩, hQ h' tk' acc kp hacc⟩
  · exact ⟨h₁.1, F.args_object_init_2 _ _, object_init_meets F.called_tuple.init.lookup F.called_tuple.made (by decide) prog w A.in1 _ s₁ ⟨h₁.1, rfl, h₁.2⟩⟩
end
end L2
end
section
set_option autoImplicit false
namespace L2
open PySem PySem.Spec PyProof.Rows
section
variable {X : Cx}
theorem vals_keys {X : Cx} : ∀ (ks : List (Key × V)) (ws : List (Key × Value)) (us : List Value), KV ks ws → us.length = ws.length → (∀ (j : Nat) (v : Value), us[j]? = some v → ∃ k x, ws[j]? = some (k, x) ∧ (mixKind X.prog X.w).is k v = true) → Vals (ks.map fun kv => kV kv.1) us := by
  intro ks ws us rr
  induction rr generalizing us with
  | nil =>
    intro hl _
    cases us with
    | nil => exact .nil
    | cons _ _ => cases hl
  | @cons p w' ks ws r t ih =>
    intro hl hi
    cases us with
    | nil => cases hl
    | cons u us =>
      obtain ⟨k, x, e1, e2⟩ := hi 0 u rfl
      cases e1
      exact .cons (by show RelV (kV p.1) u; rw [r.1]; exact relV_key e2) (ih us (by simpa using hl) fun j v e => hi (j + 1) v e)
theorem call_tupleD (hc : X.calm = true) : CallR X (.type "tuple") (fun xs H Q => ∃ d kvs, xs = [.ref d] ∧ Rd H d (.dK kvs) ∧ ∀ l, H l = none → Q (.ref l) (upd H l (.tup (kvs.map fun kv => kV kv.1)))) := by
  intro pins s σ H xs us Q I r h
  obtain ⟨d, kvs, rfl, hd, q⟩ := h
  obtain ⟨u, rfl, ru⟩ := vals1 r
  cases ru
  have hh : X.A.handled = none := I.ok.hd hc
  obtain ⟨hz, hs, vs, rv, od, es, ep, ho, r1, r2, r3⟩ := (show ObjOk X.prog X.w H s.heap d (.dK kvs) from hd.ok I.hok)
  have hl : vs.length = kvs.length := (Paired.length rv).symm
  refine call_tuple_src (PySem.W.kdl_dict (knd := mixKind X.prog X.w) (kvs := vs) (ep := ep) hs) hh ⟨_, _, ho, r1, r2, r3⟩ (by omega) fun h' tk acc kp it => ?_
  obtain ⟨i1, i2⟩ := it
  have rk := vals_keys (X := X) kvs vs acc.toList rv (by rw [Array.length_toList]; exact i1) fun j v e => i2 j v (by simpa using e)
  have I1 : Inv X pins σ H { s with heap := h', toks := tk } := I.kept (t' := tk) kp
  have I2 : Inv X pins σ (upd H h'.objs.size (.tup (kvs.map fun kv => kV kv.1))) { s with heap := h'.push { cls := .type "tuple", data := .seq acc }, toks := tk } :=
    I1.laid (t' := tk) (fun b o e => Heap.get?_push_of_some _ e) (Nat.le_refl _) (show ObjOk X.prog X.w _ _ _ (.tup (kvs.map fun kv => kV kv.1)) from ⟨⟨by rw [List.length_map]; exact hz, nod_push _ _⟩, acc.toList, rk, by rw [Array.toArray_toList]; exact IsTup.new _ _⟩)
  exact ⟨.ref h'.objs.size, _, I2, rfl, q _ (I1.hok.fresh (Nat.le_refl _))⟩
end
section
variable {prog : Program} {w : World} {A : Around} {E : Value → Shared → Prop} {s : Shared}
theorem enumT_new (l : Addr) (items : Array Value) (n : Nat) (dct : Option Addr) (sl : Array (Option Value)) :
    Meets (Builtin.«enumerate.__new__» ⟨[.type "enumerate", .ref l], []⟩) (fun _ R s => s.heap.get? l = some { cls := .type "tuple", dict := dct, data := .seq items n, slots := sl } ∧
      R (.ok (.ret (.ref (s.heap.push { cls := .type "tuple_iterator", data := .fields #[.ref l, .int 0 0] }).objs.size)))
        { s with heap := (s.heap.push { cls := .type "tuple_iterator", data := .fields #[.ref l, .int 0 0] }).push { cls := .type "enumerate", data := .fields #[.none, .bool false, .ref s.heap.objs.size, rawInt 0, .none, .none] } }) :=
  .of_wp fun prog w A R s h => by
    obtain ⟨hp, g, d, tk, os⟩ := s
    obtain ⟨hl, h⟩ := h
    have hsub := sub_enumerate
    have hL : Heap.IsTuple (Shared.heap ⟨hp, g, d, tk, os⟩) l items := ⟨_, hl, rfl, n, rfl⟩
    wp_walk using AutoSeq1.wpAny_loadPart' hl
    refine wpAny_stack_any fun st => wpAny_pure ?_
    split
    · rename_i c _ _ _ _ _
      cases (c == Value.type "enumerate")
      · wp_walk using AutoSeq1.wpAny_loadPart' hl, wpAny_pyIter_tuple hL
        exact ⟨_, rfl, h⟩
      · wp_walk using AutoSeq1.wpAny_loadPart' hl, wpAny_pyIter_tuple hL
        exact ⟨_, rfl, h⟩
    · wp_walk using AutoSeq1.wpAny_loadPart' hl, wpAny_pyIter_tuple hL
      exact ⟨_, rfl, h⟩
theorem call_enumT {l : Addr} {items : Array Value} {Q : Value → Shared → Prop} (hL : s.heap.IsTuple l items)
    (h : ∀ h', IsEnum h' (s.heap.objs.size + 1) s.heap.objs.size 0 .none → h'.IsTupleIter s.heap.objs.size l 0 → (∀ b o, s.heap.get? b = some o → h'.get? b = some o) → Q (.ref (s.heap.objs.size + 1)) { s with heap := h' }) :
    wpAny (model prog w) A (call (.type "enumerate") [.ref l]) Q E s := by
  obtain ⟨⟨c, dct, dt, sl⟩, hl, hc, n, hd⟩ := hL
  have hc : c = .type "tuple" := hc
  have hd : dt = .seq items n := hd
  subst hc hd
  refine callType_new F.called_enumerate (by decide) (F.typeCall_enumerate_1 _) (F.newCall_enumerate_1 _) (fun obj => F.args_object_init_2 obj _) F.entry_enumerate_new (enumT_new l items n dct sl) ⟨hl, ?_⟩
  have hz : (s.heap.push { cls := .type "tuple_iterator", data := .fields #[.ref l, .int 0 0] }).objs.size = s.heap.objs.size + 1 := Heap.size_push ..
  show _ ∧ _
  rw [hz]
  have he : IsEnum ((s.heap.push { cls := .type "tuple_iterator", data := .fields #[.ref l, .int 0 0] }).push { cls := .type "enumerate", data := .fields #[.none, .bool false, .ref s.heap.objs.size, rawInt 0, .none, .none] }) (s.heap.objs.size + 1) s.heap.objs.size 0 .none := by
    rw [← hz]
    exact Heap.get?_push_size _ rfl
  exact ⟨⟨_, he, rfl⟩, h _ he ⟨_, Heap.get?_push_of_some _ (Heap.get?_push_size _ rfl), rfl, rfl⟩ fun b o e => Heap.get?_push_of_some _ (Heap.get?_push_of_some _ e)⟩
end
end L2
end
section
set_option autoImplicit false
namespace L2
open PySem PySem.Spec PyProof.Rows
section
variable {prog : Program} {w : World} {A : Around} {E : Value → Shared → Prop} {s : Shared}
theorem enumT_item {e it l : Addr} {i : Nat} {c : Int} {items : Array Value} {x old : Value} {Q : Value → Shared → Prop} (he : IsEnum s.heap e it c old) (hit : s.heap.IsTupleIter it l i) (hl : s.heap.IsTuple l items) (hx : items[i]? = some x) (hne : e ≠ it)
    (hQ : ∀ h', IsEnumOut h' e it (c + 1) x s.heap.objs.size → h'.IsTupleIter it l (i + 1) → h'.get? s.heap.objs.size = some { cls := .type "tuple", data := .seq #[.int c s.toks, x] } →
      (∀ b o, b ≠ e → b ≠ it → s.heap.get? b = some o → h'.get? b = some o) → Q (.ref s.heap.objs.size) { s with heap := h', toks := s.toks + 1 }) :
    wpAny (model prog w) A (Builtin.«enumerate.__next__» ⟨[.ref e], []⟩) (fun fin s' => ∃ v, fin = .done (.ret v) ∧ Q v s') E s := by
  obtain ⟨hp, g, d, tk, os⟩ := s
  have elt : e < hp.objs.size := Heap.lt_size he
  show wpAny _ _ (field (.ref e) 2 >>= _) _ _ _
  refine wpAny_bind (wpAny_field he rfl (x := .ref it) rfl ?_)
  refine wpAny_bind (nextT_item hit hl hx fun h1 t1 b1 => ?_)
  have e1 : IsEnum h1 e it c old := (b1.2 e hne).trans he
  show wpAny _ _ (field (.ref e) 3 >>= _) _ _ ⟨h1, g, d, tk, os⟩
  refine wpAny_bind (wpAny_field e1 rfl (x := rawInt c) rfl ?_)
  show wpAny _ _ (field (.ref e) 4 >>= _) _ _ ⟨h1, g, d, tk, os⟩
  refine wpAny_bind (wpAny_field e1 rfl (x := .none) rfl ?_)
  show wpAny _ _ (mkInt c >>= _) _ _ ⟨h1, g, d, tk, os⟩
  refine wpAny_bind (wpAny_mkInt ?_)
  show wpAny _ _ (setField (.ref e) 3 (rawInt (c + 1)) >>= _) _ _ ⟨h1, g, d, tk + 1, os⟩
  refine wpAny_bind (wpAny_setField_rec e1 (by simp) fun h2 e2 b2 => ?_)
  replace e2 : IsEnum h2 e it (c + 1) old := e2
  show wpAny _ _ (setField (.ref e) 4 .none >>= _) _ _ ⟨h2, g, d, tk + 1, os⟩
  refine wpAny_bind (wpAny_setField_rec e2 (by simp) fun h3 e3 b3 => ?_)
  replace e3 : IsEnum h3 e it (c + 1) old := e3
  show wpAny _ _ (newTuple [.int c tk, x] >>= _) _ _ ⟨h3, g, d, tk + 1, os⟩
  refine wpAny_bind (wpAny_newTuple ?_)
  have hsz : h3.objs.size = hp.objs.size := b3.1.trans (b2.1.trans b1.1)
  have e4 : IsEnum (h3.push { cls := .type "tuple", data := .seq #[.int c tk, x] }) e it (c + 1) old := Heap.get?_push_of_some _ e3
  have g4 : (h3.push { cls := .type "tuple", data := .seq #[.int c tk, x] }).get? hp.objs.size = some { cls := .type "tuple", data := .seq #[.int c tk, x] } := by
    rw [← hsz]
    exact Heap.get?_push_size _ rfl
  have k4 : ∀ b o, b ≠ e → b ≠ it → hp.get? b = some o → (h3.push { cls := .type "tuple", data := .seq #[.int c tk, x] }).get? b = some o := fun b o c1 c2 z =>
    Heap.get?_push_of_some _ (b3.extBut b o c1 (b2.extBut b o c1 (b1.extBut b o c2 z)))
  have t4 : (h3.push { cls := .type "tuple", data := .seq #[.int c tk, x] }).IsTupleIter it l (i + 1) := by
    obtain ⟨o, ho, r⟩ := (t1.extBut b2.extBut (Ne.symm hne)).extBut b3.extBut (Ne.symm hne)
    exact ⟨o, Heap.get?_push_of_some _ ho, r⟩
  have gt : hp.objs.size ≠ e := Nat.ne_of_gt elt
  show wpAny _ _ (Builtin.SmallTypes.ownedTupleIsFree (.ref e) >>= _) _ _ ⟨h3.push { cls := .type "tuple", data := .seq #[.int c tk, x] }, g, d, tk + 1, os⟩
  rw [hsz]
  generalize h3.push { cls := .type "tuple", data := .seq #[.int c tk, x] } = h4 at e4 g4 k4 t4
  refine wpAny_bind ?_
  unfold Builtin.SmallTypes.ownedTupleIsFree
  refine wpAny_bind (wpAny_field e4 rfl (x := .none) rfl (wpAny_pure ?_))
  simp only [if_true]
  refine wpAny_bind (wpAny_rule ?_)
  refine wpAny_bind (wpAny_field e4 rfl (x := old) rfl ?_)
  refine wpAny_bind (wpAny_setField_rec e4 (by simp) fun h5 e5 b5 => ?_)
  replace e5 : IsEnum h5 e it (c + 1) x := e5
  show wpAny _ _ (Builtin.SmallTypes.ownedTupleHandOut (.ref e) (.ref hp.objs.size) >>= _) _ _ ⟨h5, g, d, tk + 1, os⟩
  refine wpAny_bind ?_
  unfold Builtin.SmallTypes.ownedTupleHandOut
  refine wpAny_bind (wpAny_setField_rec e5 (by simp) fun h6 e6 b6 => ?_)
  replace e6 : IsEnumOut h6 e it (c + 1) x hp.objs.size := e6
  refine wpAny_setField_rec e6 (by simp) fun h7 e7 b7 => ?_
  replace e7 : IsEnumOut h7 e it (c + 1) x hp.objs.size := e7
  refine wpAny_bind (wpAny_letGo (wpAny_pure ⟨_, rfl, hQ h7 e7 ?_ ?_ ?_⟩))
  · exact ((t4.extBut b5.extBut (Ne.symm hne)).extBut b6.extBut (Ne.symm hne)).extBut b7.extBut (Ne.symm hne)
  · exact b7.extBut _ _ gt (b6.extBut _ _ gt (b5.extBut _ _ gt g4))
  · exact fun b o c1 c2 z => b7.extBut b o c1 (b6.extBut b o c1 (b5.extBut b o c1 (k4 b o c1 c2 z)))
theorem nextE_item {e it l : Addr} {i : Nat} {c : Int} {items : Array Value} {x old : Value} {Q : Option Value → Shared → Prop} (he : IsEnum s.heap e it c old) (hit : s.heap.IsTupleIter it l i) (hl : s.heap.IsTuple l items) (hx : items[i]? = some x) (hne : e ≠ it)
    (hQ : ∀ h', IsEnumOut h' e it (c + 1) x s.heap.objs.size → h'.IsTupleIter it l (i + 1) → h'.get? s.heap.objs.size = some { cls := .type "tuple", data := .seq #[.int c s.toks, x] } →
      (∀ b o, b ≠ e → b ≠ it → s.heap.get? b = some o → h'.get? b = some o) → Q (some (.ref s.heap.objs.size)) { s with heap := h', toks := s.toks + 1 }) :
    wpAny (model prog w) A (pyNext (.ref e)) Q E s := by
  have hT : s.TypeIs (.ref e) "enumerate" := ⟨_, he, rfl⟩
  unfold pyNext
  exact wpAny_bind (wpAny_attempt (wpAny_callSpecial?_slot (name := Str.ofString "__next__") hT F.slot_enumerate_next (wpAny_call_entry F.slot_enumerate_next hT F.entry_enumerate_next (enumT_item he hit hl hx hne fun h' a b c k => wpAny_pure (hQ h' a b c k)) (F.args_enumerate_next_1 _))))
theorem nextE_end {e it l : Addr} {i : Nat} {c : Int} {items : Array Value} {old : Value} {Q : Option Value → Shared → Prop} (hh : A.handled = none) (he : IsEnum s.heap e it c old) (hit : s.heap.IsTupleIter it l i) (hl : s.heap.IsTuple l items) (hx : items[i]? = none)
    (hQ : ∀ h', Heap.ExtBut it s.heap h' → Q none { s with heap := h' }) : wpAny (model prog w) A (pyNext (.ref e)) Q E s := by
  have hT : s.TypeIs (.ref e) "enumerate" := ⟨_, he, rfl⟩
  unfold pyNext
  refine wpAny_bind (wpAny_attempt (wpAny_callSpecial?_slot (name := Str.ofString "__next__") hT F.slot_enumerate_next (wpAny_call_entry F.slot_enumerate_next hT F.entry_enumerate_next ?_ (F.args_enumerate_next_1 _))))
  show wpAny _ _ (field (.ref e) 2 >>= _) _ _ _
  refine wpAny_bind (wpAny_field he rfl (x := .ref it) rfl ?_)
  refine wpAny_bind (nextT_end hh hit hl hx fun h' x' k' hx' => ?_)
  obtain ⟨o, ho, hc⟩ := hx'
  exact wpAny_bind (wpAny_isInstance (T := "StopIteration") (b := true) ⟨o, ho, hc⟩ isSubtype_stop (wpAny_pure (hQ _ k')))
end
end L2
end
section
set_option autoImplicit false
namespace L2
open PySem PySem.Spec PyProof.Rows
def IteT (K : PySem.W.Frag) (a : Addr) : It :=
  ⟨fun i H => ∃ xs x, SqT K H a xs ∧ xs[i]? = some x, fun i H v H' => ∃ p, H p = none ∧ v = .ref p ∧ ∀ xs x, SqT K H a xs → xs[i]? = some x → H' = upd H p (.tup [.int i, x]), fun i H => ∃ xs, SqT K H a xs ∧ xs.length ≤ i⟩
theorem turn_enumT {P : Program} {w : World} {K : PySem.W.Frag} {elts : List Expr} {x1 : Nat} {tpos : Pos} {e it l : Addr} (hne : e ≠ it) : Turn P w K (.Tuple elts x1 tpos) (IteT K l) [e, it] e
    (fun i h => (∃ old, IsEnum h e it i old) ∧ h.IsTupleIter it l i) where
  mem := by simp
  obj := fun i h st b hb => by
    obtain ⟨⟨old, he⟩, o, ei, c, d⟩ := st
    simp only [List.mem_cons, List.not_mem_nil, or_false] at hb
    rcases hb with rfl | rfl
    · exact ⟨_, he, fun v q => nomatch q⟩
    · exact ⟨o, ei, fun v z => by rw [d] at z; cases z⟩
  keep := fun i h h' st k => by
    obtain ⟨⟨old, he⟩, o, ei, r⟩ := st
    exact ⟨⟨old, k e (by simp) _ he⟩, o, k it (by simp) _ ei, r⟩
  item := by
    intro X hP hw hK hc i pins s σ H E I hf st hg
    subst hP hw hK
    obtain ⟨xs, x, hq, hx⟩ := hg
    obtain ⟨its, rv, p, hz⟩ := I.tuple hq
    obtain ⟨u, hu, ru⟩ := rv.get hx
    obtain ⟨⟨old, he⟩, hit⟩ := st
    refine nextE_item he hit (show s.heap.IsTuple l its.toArray from p) (x := u) (by simpa using hu) hne fun h' a1 a2 a3 a5 => ?_
    refine ⟨_, rfl, wpAny_letOwnedTupleGo_enum a1 fun h2' a1' q' => ?_⟩
    have hn : H s.heap.objs.size = none := I.hok.fresh (Nat.le_refl _)
    have elt : e < s.heap.objs.size := Heap.lt_size he
    have ilt : it < s.heap.objs.size := by obtain ⟨_, e, _⟩ := hit; exact Heap.lt_size e
    have kk : ∀ b ob, b ∉ [e, it] → s.heap.get? b = some ob → h2'.get? b = some ob := fun b ob hb ee => by
      simp only [List.mem_cons, List.not_mem_nil, or_false, not_or] at hb
      exact q'.extBut _ _ hb.1 (a5 b ob hb.1 hb.2 ee)
    have I1 : Inv X pins σ (upd H s.heap.objs.size (.tup [.int i, x])) { s with heap := h2', toks := s.toks + 1 } := I.turnLaid (t' := s.toks + 1) hf kk (Nat.le_refl _)
      ⟨⟨by show 2 ≤ sizeLine; decide, fun o ee => by rw [q'.extBut _ _ (Nat.ne_of_gt elt) a3] at ee; cases ee; rfl⟩, [.int i s.toks, u], .cons ⟨_, rfl⟩ (.cons ru .nil), ⟨_, q'.extBut _ _ (Nat.ne_of_gt elt) a3, rfl, _, rfl⟩⟩
    refine ⟨.ref s.heap.objs.size, _, I1, rfl, ⟨_, hn, rfl, fun xs' x' k1 k3 => ?_⟩, ⟨⟨_, by simpa using a1'⟩, a2.extBut q'.extBut hne.symm⟩, fun b hb => ?_⟩
    · rw [I.tuple_inj k1 hq, hx] at k3
      cases k3
      rfl
    · have hb' := hb
      simp only [List.mem_cons, List.not_mem_nil, or_false] at hb'
      have hlt : b < s.heap.objs.size := by
        rcases hb' with rfl | rfl
        · exact elt
        · exact ilt
      rw [upd_ne (Nat.ne_of_lt hlt)]
      exact (hf b hb).1
  done := by
    intro X hP hw hK hc i pins s σ H E I hf st hg
    subst hP hw hK
    obtain ⟨xs, hq, hx⟩ := hg
    obtain ⟨its, rv, p, hz⟩ := I.tuple hq
    obtain ⟨⟨old, he⟩, hit⟩ := st
    have hl := rv.length
    refine nextE_end (I.ok.hd hc) he hit (show s.heap.IsTuple l its.toArray from p) (by simp; omega) fun h' eb => ⟨rfl, I.turnedL (t' := s.toks) hf fun b u hb q => ?_⟩
    simp only [List.mem_cons, List.not_mem_nil, or_false, not_or] at hb
    exact eb b u hb.2 q
  self := fun _ _ _ _ _ st h => by
    obtain ⟨⟨old, he⟩, _⟩ := st
    exact wpAny_pyIter_enum he h
section
variable {X : Cx} {K : PySem.W.Frag}
def iEnumS (K : PySem.W.Frag) (ta : TA) : TI := fun σ H R => ta σ H fun vs H1 => ∃ a, vs = [.ref a] ∧ ((∃ xs, SqL K H1 a xs ∧ R (Ite K a) H1) ∨ ∃ xs, SqT K H1 a xs ∧ R (IteT K a) H1)
theorem pi_enumS {elts : List Expr} {x1 : Nat} {tpos : Pos} {a : Expr} {ta : TA} {p pos : Pos} (hK : X.K = K) (hg : Gl X "enumerate") (hm : X.mg "enumerate" = none) (ha : PA X [a] ta)
    (he : starEach [a] X.env = (false, eval a X.env) :: starEach [] X.env := by rfl) (hpl : (backTo pos (starEach [] X.env)).any (·.1) = false := by rfl) : PI X (.Tuple elts x1 tpos) (.Call (.Name "enumerate" p) [a] [] pos) (iEnumS K ta) := by
  subst hK
  intro pins s σ H R I h
  have boot_enum : bootBuiltins "enumerate" = some (.type "enumerate") := by decide +kernel
  refine wpAny_Call_Name_kw (ld_blt I hg hm boot_enum ?_)
  refine PyProof.Rows.callWith_type1 (thn (ha pos pins s σ H _ I h) fun us s1 ⟨vs, H1, I1, r1, t1, e, q1⟩ => ?_) he hpl
  subst e
  obtain ⟨u, rfl, ru⟩ := vals1 r1
  cases ru
  have hne : s1.heap.objs.size + 1 ≠ s1.heap.objs.size := by change @Ne Nat _ _; omega
  have fp : ∀ b ∈ [s1.heap.objs.size + 1, s1.heap.objs.size], FpOk X pins H1 b := fun b hb => by
    have hle : s1.heap.objs.size ≤ b := by
      simp only [List.mem_cons, List.not_mem_nil, or_false] at hb
      rcases hb with h | h <;> rw [h] <;> first | exact Nat.le_refl _ | exact Nat.le_add_right _ _
    exact I1.fpOk hle (I1.hok.fresh hle)
  rcases q1 with ⟨xs, q1, q⟩ | ⟨xs, q1, q⟩
  · obtain ⟨its, rv, p1, hz1⟩ := I1.list q1
    refine call_enumerate_list p1.isList fun h' hE hI hsz hk => ?_
    refine wpAny_pyIter_enum hE ?_
    exact ⟨s1.heap.objs.size + 1, [s1.heap.objs.size + 1, s1.heap.objs.size], _, Ite X.K t1, H1, rfl, I1.kept (t' := s1.toks) hk, turn_enum hne, ⟨⟨_, hE⟩, hI⟩, fp, q⟩
  · obtain ⟨its, rv, p1, hz1⟩ := I1.tuple q1
    refine call_enumT (show s1.heap.IsTuple t1 its.toArray from p1) fun h' hE hI hk => ?_
    refine wpAny_pyIter_enum hE ?_
    exact ⟨s1.heap.objs.size + 1, [s1.heap.objs.size + 1, s1.heap.objs.size], _, IteT X.K t1, H1, rfl, I1.kept (t' := s1.toks) hk, turn_enumT hne, ⟨⟨_, hE⟩, hI⟩, fp, q⟩
end
end L2
end
section
set_option autoImplicit false
namespace L2
open PySem PyProof.Rows
abbrev ForB (g : TG) (tb : TS) (D : Ends) (σ : L2.St) (J : It) (H1 : Hp) : Prop := ∃ W : Nat → Nat → L2.St → Hp → Prop, (∃ m, W 0 m σ H1) ∧ ∀ i m σ H, W i m σ H →
  (J.stop i H ∧ D.nx σ H) ∨ (J.go i H ∧ ∃ N : L2.St → Hp → Prop, (∀ σ' H', N σ' H' → ∃ m', m' < m ∧ W (i + 1) m' σ' H') ∧ ∀ x H', J.yld i H x H' → g x σ H' fun σ2 H2 => tb { D with nx := N, ct := N, bk := D.nx } σ2 H2)
theorem SeqAt'.same {H H' : Hp} {v : V} {ys : List V} (h : SeqAt' H v ys) (s : Same H H') : SeqAt' H' v ys := by
  obtain ⟨p, e, h⟩ := h
  exact ⟨p, e, h.elim (fun z => .inl (s p _ z)) fun z => .inr (s p _ z)⟩
theorem for_seq {K : PySem.W.Frag} {a : Addr} {xs : List V} {g : TG} {tb : TS} {D : Ends} {σ : L2.St} {H : Hp} (hq : SeqAt' H (.ref a) xs) (Pv : Nat → L2.St → Hp → Prop) (h0 : Pv 0 σ H)
    (keep : ∀ i σ H', i ≤ xs.length → Pv i σ H' → ∀ o, H a = some o → H' a = some o)
    (hs : ∀ i x σ H, xs[i]? = some x → Pv i σ H → g x σ H fun σ2 H2 => tb { D with nx := Pv (i + 1), ct := Pv (i + 1), bk := D.nx } σ2 H2) (hd : ∀ σ H, Pv xs.length σ H → D.nx σ H) :
    (∃ xs, SqT K H a xs ∧ ForB g tb D σ (Itt K a) H) ∨ ∃ xs, SqL K H a xs ∧ ForB g tb D σ (Itl K a) H := by
  obtain ⟨p, e, h⟩ := hq
  cases e
  rcases h with h | h
  · exact .inr ⟨xs, SqL.of h, for_list (K := K) (a := a) (xs := xs) Pv h0 (fun i σ H' hi p => SqL.of (keep i σ H' hi p _ h)) hs hd⟩
  · exact .inl ⟨xs, SqT.of h, for_tup (K := K) (a := a) (xs := xs) Pv h0 (fun i σ H' hi p => SqT.of (keep i σ H' hi p _ h)) hs hd⟩
theorem comp_seq {K : PySem.W.Frag} {a : Addr} {xs : List V} {own : Nat} {fr : List Nat} {g : TG} {tc : TT} {te : TE} {σ : L2.St} {Q : VK} {H : Hp} (hq : SeqAt' H (.ref a) xs) (Pv : Addr → Nat → List V → Hp → Prop)
    (h0 : ∀ D, H D = none → Pv D 0 [] (upd H D (.lst []))) (keep : ∀ D i ys H', H D = none → Pv D i ys H' → ∀ o, H a = some o → H' a = some o) (stop : ∀ D ys H', H D = none → Pv D xs.length ys H' → Q (.ref D) H')
    (go : ∀ D i x ys H', H D = none → i < xs.length → xs[i]? = some x → Pv D i ys H' → ∀ σo : L2.St, σo.length = own → g x (σo ++ frv σ fr) H' fun σ2 H2 => (∃ σo' : L2.St, σo'.length = own ∧ σ2 = σo' ++ frv σ fr) ∧
      tc σ2 H2 fun b H3 => if b = true then te σ2 H3 fun y H4 => ys.length < sizeLine ∧ H4 D = some (.lst ys) ∧ ∃ m', m' < xs.length - i ∧ (m' = xs.length - (i + 1) ∧ i + 1 ≤ xs.length ∧ Pv D (i + 1) (ys ++ [y]) (upd H4 D (.lst (ys ++ [y])))) else ∃ m', m' < xs.length - i ∧ (m' = xs.length - (i + 1) ∧ i + 1 ≤ xs.length ∧ Pv D (i + 1) ys H3)) :
    (∃ xs, SqT K H a xs ∧ ∀ D, H D = none → CompB own fr g tc te σ Q (Itt K a) D (upd H D (.lst []))) ∨ ∃ xs, SqL K H a xs ∧ ∀ D, H D = none → CompB own fr g tc te σ Q (Itl K a) D (upd H D (.lst [])) := by
  obtain ⟨p, e, h⟩ := hq
  cases e
  rcases h with h | h
  · refine .inr ⟨xs, SqL.of h, fun D hD => comp_by (n := xs.length) (Pv D) (h0 D hD) (fun ys H' p => ⟨⟨xs, SqL.of (keep D _ ys H' hD p _ h), Nat.le_refl _⟩, stop D ys H' hD p⟩) fun i ys H' hi p => ?_⟩
    have ex : xs[i]? = some xs[i] := List.getElem?_eq_getElem hi
    have hl := SqL.of (K := K) (keep D i ys H' hD p _ h)
    refine ⟨⟨xs, xs[i], hl, ex⟩, ?_⟩
    rintro x H2 ⟨rfl, yy⟩ σo ho
    exact go D i x ys H2 hD hi (yy xs hl) p σo ho
  · refine .inl ⟨xs, SqT.of h, fun D hD => comp_by (n := xs.length) (Pv D) (h0 D hD) (fun ys H' p => ⟨⟨xs, SqT.of (keep D _ ys H' hD p _ h), Nat.le_refl _⟩, stop D ys H' hD p⟩) fun i ys H' hi p => ?_⟩
    have ex : xs[i]? = some xs[i] := List.getElem?_eq_getElem hi
    have hl := SqT.of (K := K) (keep D i ys H' hD p _ h)
    refine ⟨⟨xs, xs[i], hl, ex⟩, ?_⟩
    rintro x H2 ⟨rfl, yy⟩ σo ho
    exact go D i x ys H2 hD hi (yy xs hl) p σo ho
theorem comp_enumS {K : PySem.W.Frag} {a : Addr} {xs : List V} {own : Nat} {fr : List Nat} {g : TG} {tc : TT} {te : TE} {σ : L2.St} {Q : VK} {H : Hp} (hq : SeqAt' H (.ref a) xs) (Pv : Addr → Nat → List V → Hp → Prop)
    (h0 : ∀ D, H D = none → Pv D 0 [] (upd H D (.lst []))) (keep : ∀ D i ys H', H D = none → Pv D i ys H' → ∀ o, H a = some o → H' a = some o) (stop : ∀ D ys H', H D = none → Pv D xs.length ys H' → Q (.ref D) H')
    (go : ∀ D i x ys H' p, H D = none → i < xs.length → xs[i]? = some x → Pv D i ys H' → H' p = none → ∀ σo : L2.St, σo.length = own → g (.ref p) (σo ++ frv σ fr) (upd H' p (.tup [.int i, x])) fun σ2 H2 => (∃ σo' : L2.St, σo'.length = own ∧ σ2 = σo' ++ frv σ fr) ∧
      tc σ2 H2 fun b H3 => if b = true then te σ2 H3 fun y H4 => ys.length < sizeLine ∧ H4 D = some (.lst ys) ∧ ∃ m', m' < xs.length - i ∧ (m' = xs.length - (i + 1) ∧ i + 1 ≤ xs.length ∧ Pv D (i + 1) (ys ++ [y]) (upd H4 D (.lst (ys ++ [y])))) else ∃ m', m' < xs.length - i ∧ (m' = xs.length - (i + 1) ∧ i + 1 ≤ xs.length ∧ Pv D (i + 1) ys H3)) :
    (∃ xs, SqL K H a xs ∧ ∀ D, H D = none → CompB own fr g tc te σ Q (Ite K a) D (upd H D (.lst []))) ∨ ∃ xs, SqT K H a xs ∧ ∀ D, H D = none → CompB own fr g tc te σ Q (IteT K a) D (upd H D (.lst [])) := by
  obtain ⟨p, e, h⟩ := hq
  cases e
  rcases h with h | h
  · refine .inl ⟨xs, SqL.of h, fun D hD => comp_by (n := xs.length) (Pv D) (h0 D hD) (fun ys H' p => ⟨⟨xs, SqL.of (keep D _ ys H' hD p _ h), Nat.le_refl _⟩, stop D ys H' hD p⟩) fun i ys H' hi p => ?_⟩
    have ex : xs[i]? = some xs[i] := List.getElem?_eq_getElem hi
    have hl := SqL.of (K := K) (keep D i ys H' hD p _ h)
    refine ⟨⟨xs, xs[i], hl, ex⟩, ?_⟩
    rintro x H2 ⟨q, hq, rfl, yy⟩ σo ho
    have e2 := yy xs xs[i] hl ex
    subst e2
    exact go D i xs[i] ys H' q hD hi ex p hq σo ho
  · refine .inr ⟨xs, SqT.of h, fun D hD => comp_by (n := xs.length) (Pv D) (h0 D hD) (fun ys H' p => ⟨⟨xs, SqT.of (keep D _ ys H' hD p _ h), Nat.le_refl _⟩, stop D ys H' hD p⟩) fun i ys H' hi p => ?_⟩
    have ex : xs[i]? = some xs[i] := List.getElem?_eq_getElem hi
    have hl := SqT.of (K := K) (keep D i ys H' hD p _ h)
    refine ⟨⟨xs, xs[i], hl, ex⟩, ?_⟩
    rintro x H2 ⟨q, hq, rfl, yy⟩ σo ho
    have e2 := yy xs xs[i] hl ex
    subst e2
    exact go D i xs[i] ys H' q hD hi ex p hq σo ho
def RowsS (H : Hp) (vs : List V) (rows : List (List Str)) : Prop := Paired (fun (v : V) (r : List Str) => SeqAt' H v (r.map V.str)) vs rows
end L2
end
section
set_option autoImplicit false
namespace K23
open PySem PyProof.Rows L2
theorem valV_key {κ : Type} [DecidableEq κ] : ∀ {kvs : List (κ × V)} {k : κ}, (valV kvs k).isSome = true ↔ k ∈ kvs.map (·.1)
  | [], k => by simp [valV]
  | p :: kvs, k => by
    by_cases e : p.1 = k
    · rw [valV_pos e]
      simp [e]
    · rw [valV_neg e, valV_key]
      have : ¬ k = p.1 := fun z => e z.symm
      simp [this]
def setD (rs : List Str) : List (Key × V) := rs.map fun y => (.inr y, .bl true)
theorem setD_has (rs : List Str) (x : Str) : (valV (setD rs) (.inr x)).isSome = true ↔ x ∈ rs := by
  rw [valV_key]
  unfold setD
  rw [List.map_map, List.mem_map]
  constructor
  · rintro ⟨y, hy, e⟩
    have e : (Sum.inr y : Key) = Sum.inr x := e
    injection e with e
    exact e ▸ hy
  · exact fun h => ⟨x, h, rfl⟩
theorem setD_put {rs : List Str} {x : Str} (h : ¬ x ∈ rs) : putK (setD rs) (.inr x) (.bl true) = setD (rs ++ [x]) := by
  have hn : valV (setD rs) (.inr x) = none := by
    cases q : valV (setD rs) (.inr x) with
    | none => rfl
    | some y => exact absurd ((setD_has rs x).mp (by rw [q]; rfl)) h
  rw [putK_new _ hn]
  unfold setD
  rw [List.map_append]
  rfl
theorem setD_old {rs : List Str} {x : Str} (h : x ∈ rs) : putK (setD rs) (.inr x) (.bl true) = setD rs := by
  unfold putK
  rw [if_pos (by rw [valV_any]; exact (setD_has rs x).mpr h)]
  unfold setD
  rw [List.map_map]
  apply List.map_congr_left
  intro y _
  show (if (Sum.inr y : Key) = Sum.inr x then (Sum.inr y, V.bl true) else (Sum.inr y, V.bl true)) = _
  split <;> rfl
theorem setD_any (rs : List Str) (x : Str) : ∃ rs', putK (setD rs) (.inr x) (.bl true) = setD rs' ∧ (∀ y, y ∈ rs' ↔ y ∈ rs ∨ y = x) ∧ rs'.length ≤ rs.length + 1 := by
  by_cases h : x ∈ rs
  · exact ⟨rs, setD_old h, fun y => ⟨.inl, fun z => z.elim id fun e => e ▸ h⟩, Nat.le_succ _⟩
  · refine ⟨rs ++ [x], setD_put h, fun y => ?_, by rw [List.length_append]; exact Nat.le_refl _⟩
    rw [List.mem_append, List.mem_singleton]
section
variable {P : Program} {w : World} {K : PySem.W.Frag} {mg : Str → Option Value} {base : Heap} {t : Adr}
def RowA (H : Hp) (v : V) (r : List Str) : Prop := ∃ a, v = .ref a ∧ (H a = some (.lst (r.map V.str)) ∨ (H a = some (.tup (r.map V.str)) ∧ r ≠ []))
def RowsN (H : Hp) (vs : List V) (rows : List (List Str)) : Prop := Paired (RowA H) vs rows
theorem RowsN.mono {H H' : Hp} {vs : List V} {rows : List (List Str)} (h : RowsN H vs rows) (s : Same H H') : RowsN H' vs rows := Paired.mapP h fun v r ⟨a, e, q⟩ => ⟨a, e, q.elim (fun z => .inl (s a _ z)) fun z => .inr ⟨s a _ z.1, z.2⟩⟩
theorem RowsN.get {H : Hp} {vs : List V} {rows : List (List Str)} (h : RowsN H vs rows) {i : Nat} {v : V} (e : vs[i]? = some v) : ∃ (hr : i < rows.length), RowA H v rows[i] := by
  have hi := (List.getElem?_eq_some_iff.mp e).1
  have hr : i < rows.length := by rw [← Paired.length h]; exact hi
  have q := paired_get h i hi hr
  rw [List.getElem?_eq_getElem hi] at e
  cases e
  exact ⟨hr, q⟩
theorem RowA.cut {K : PySem.W.Frag} {H : Hp} {v : V} {r : List Str} (h : RowA H v r) {Q : VK} (q : ∀ (p : Addr) H', SeqAt' H' (.ref p) ((r.drop 1).map V.str) → Same H H' → Q (.ref p) H') : rSlT K v (some 1) none H Q ∨ rSlL K v (some 1) none H Q := by
  obtain ⟨a, rfl, h⟩ := h
  rcases h with h | ⟨h, hne⟩
  · refine .inr ⟨a, _, rfl, SqL.of h, fun p hp => q p _ ⟨p, rfl, .inl (by rw [upd_same, cut1])⟩ (Same.new hp)⟩
  · refine .inl ⟨a, _, rfl, SqT.of h, fun z => ?_, fun p hp => q p _ ⟨p, rfl, .inr (by rw [upd_same, cut1])⟩ (Same.new hp)⟩
    have e1 : HT.sIx (r.map V.str).length 0 (some 1) = min 1 (r.map V.str).length := HT.sIx_nat _ 0 1
    rw [e1, List.length_map] at z
    cases r with
    | nil => exact hne rfl
    | cons y r => simp at z
theorem RowA.at0 {K : PySem.W.Frag} {H : Hp} {v : V} {y : Str} {r : List Str} (h : RowA H v (y :: r)) {Q : VK} (q : Q (.str y) H) : rIxT K v (.int 0) H Q ∨ rIxL K v (.int 0) H Q := by
  obtain ⟨a, rfl, h⟩ := h
  rcases h with h | ⟨h, _⟩
  · exact .inr ⟨a, _, 0, _, rfl, rfl, SqL.of h, L2.at0 y r, q⟩
  · exact .inl ⟨a, _, 0, _, rfl, rfl, SqT.of h, L2.at0 y r, q⟩
theorem RowA.tru {K : PySem.W.Frag} {H : Hp} {v : V} {r : List Str} (h : RowA H v r) : TruV K v H (!r.isEmpty) := by
  obtain ⟨a, rfl, h⟩ := h
  have e : (!(r.map V.str).isEmpty) = !r.isEmpty := by cases r <;> rfl
  rcases h with h | ⟨h, _⟩
  · exact .inl ⟨_, SqL.of h, e.symm⟩
  · exact .inr (.inl ⟨_, SqT.of h, e.symm⟩)
theorem tot_take (rows : List (List Str)) (k : Nat) : tot (rows.take k) ≤ tot rows := by
  have e : tot rows = tot (rows.take k) + tot (rows.drop k) := by
    unfold tot
    rw [← List.sum_append, ← List.map_append, List.take_append_drop]
  omega
def headV (l : List Str) : V := match l with
  | [] => .non
  | x :: _ => .str x
def spFirst : Sp := fun vs H Q _ => ∃ (l : Addr) (us : List V) (rows : List (List Str)), vs = [.ref l] ∧ SeqAt' H (.ref l) us ∧ RowsN H us rows ∧ tot rows ≤ 2000 ∧ rows.length ≤ 1000 ∧ ∀ H', Same H H' → Q (headV (frees rows)) H'
theorem ok_first (D : Defs K mg t) : FnOk P w K mg base CX0 1 t.first_free.1 t.first_free.2 ["left"] spFirst := by
  have hz : sizeLine = 16777216 := sizeLine_eq
  refine D.first_free.fn.ok sc_first_free (fun vs H Q E h => ?_) (fun cdv A outer s H vs Q E hr h => ?_)
  · obtain ⟨l, us, rows, rfl, _⟩ := h
    rfl
  · obtain ⟨l, us, rows, rfl, hl, hrows, htot, hlen, k⟩ := h
    have hul : us.length = rows.length := Paired.length hrows
    refine ⟨_, (pss_cons (ps_set (i := 1) sc_first_free.nd rfl (Or.inl rfl) pe_dnewK)
      (pss_cons (ps_for PassesOwn.never rfl (pi_seq (K := K) (pv 0) rfl) (pg_name (i := 2) sc_first_free.nd rfl (Or.inl rfl))
      (pss_one (ps_for PassesOwn.never rfl (pi_seq (K := K) (pe_slice (sl_seqK (K := K) rfl) (pv 2) (po_some pe_int) po_none) rfl) (pg_name (i := 3) sc_first_free.nd rfl (Or.inl rfl))
      (pss_one (ps_dput (hu_of hr) (pv 1) (pv 3) pe_bl rfl)))))
      (pss_cons (ps_for PassesOwn.never rfl (pi_seq (K := K) (pv 0) rfl) (pg_name (i := 2) sc_first_free.nd rfl (Or.inl rfl))
      (pss_one (ps_if (PW.pt (pw_and (pt_truth (pv 2) (by intro _; rfl)) (pw_and1 (pt_cmp (pc_dnotin (hu_of hr) (pe_ix (ix_seqK (K := K) rfl) (pv 2) pe_int (fun _ _ => rfl)) (pv 1))))))
      (pss_one (ps_ret (pe_ix (ix_seqK (K := K) rfl) (pv 2) pe_int (fun _ _ => rfl))))
      pss_nil)))
      (pss_one (ps_ret pe_non))))), ?_⟩
    intro hd hhd
    have s0 : ∀ o, Same H (upd H hd o) := fun o => Same.new hhd
    have kl : ∀ {H2 : Hp}, Same H H2 → ∀ o, (upd H hd (.dK [])) l = some o → H2 l = some o := fun {H2} s o e => by
      obtain ⟨p, ep, h⟩ := hl
      cases ep
      have hlh : l ≠ hd := by
        rcases h with h | h
        · exact ne_of_none h hhd
        · exact ne_of_none h hhd
      rw [upd_ne hlh] at e
      exact s l o e
    refine ⟨_, rfl, l, rfl, for_seq (K := K) (hl.same (s0 _)) (fun i σ H2 => ∃ (rs : List Str) (v2 v3 : Option V), σ = [some (.ref l), some (.ref hd), v2, v3] ∧ H2 hd = some (.dK (setD rs)) ∧ (∀ y, y ∈ rs ↔ ∃ o ∈ rows.take i, y ∈ o.drop 1) ∧ rs.length ≤ tot (rows.take i) ∧ Same H H2)
      ⟨[], _, _, rfl, upd_same, by simp, Nat.zero_le _, s0 _⟩ (fun i σ H2 _ ⟨_, _, _, _, _, _, _, s⟩ => kl s) ?_ ?_⟩
    · rintro i x σ H2 hi ⟨rs, v2, v3, rfl, hh2, mem, rl, sm⟩
      obtain ⟨hir, ha⟩ := (hrows.mono sm).get hi
      have hri : (rows[i]).length + tot (rows.take i) = tot (rows.take (i + 1)) := by
        rw [take_snoc hir]
        unfold tot
        rw [List.map_append, List.sum_append]
        simp
        omega
      have htl : tot (rows.take (i + 1)) ≤ tot rows := by
        exact tot_take rows (i + 1)
      refine ⟨_, rfl, _, rfl, ha.cut fun p H3 hp s3 => ⟨p, rfl, ?_⟩⟩
      have sm3 : Same H H3 := sm.trans s3
      refine for_seq (K := K) hp (fun j σ H4 => ∃ (rs' : List Str) (v3 : Option V), σ = [some (.ref l), some (.ref hd), some x, v3] ∧ H4 hd = some (.dK (setD rs')) ∧ (∀ y, y ∈ rs' ↔ y ∈ rs ∨ y ∈ ((rows[i]).drop 1).take j) ∧ rs'.length ≤ rs.length + j ∧ ∀ b u, b ≠ hd → H3 b = some u → H4 b = some u)
        ⟨rs, _, rfl, s3 hd _ hh2, by simp, Nat.le_refl _, fun b u _ e => e⟩ ?_ ?_ ?_
      · rintro j σ H4 _ ⟨rs', v3, rfl, hh4, _, _, kp⟩ o e
        refine kp p o (fun z => ?_) e
        rw [z] at hp
        obtain ⟨q, eq, h⟩ := hp
        cases eq
        rw [s3 hd _ hh2] at h
        rcases h with h | h <;> cases h
      · rintro j y σ H4 hj ⟨rs', v3, rfl, hh4, mem', rl', kp⟩
        have hjl : j < ((rows[i]).drop 1).length := by
          have := (List.getElem?_eq_some_iff.mp hj).1
          rwa [List.length_map] at this
        have ey : y = .str ((rows[i]).drop 1)[j] := by
          rw [List.getElem?_map, List.getElem?_eq_getElem hjl] at hj
          exact (Option.some.inj hj).symm
        subst ey
        obtain ⟨rs2, e2, m2, l2⟩ := setD_any rs' ((rows[i]).drop 1)[j]
        have hjl' := hjl
        rw [List.length_drop] at hjl'
        refine ⟨_, rfl, _, rfl, hd, _, rfl, DPut.k (k := .inr ((rows[i]).drop 1)[j]) hh4 (by unfold setD; rw [List.length_map]; omega), rs2, _, rfl, by rw [upd_same, e2], fun z => ?_, by omega, fun b u hb e => by rw [upd_ne hb]; exact kp b u hb e⟩
        rw [m2, mem', take_snoc hjl, List.mem_append, List.mem_singleton]
        constructor
        · rintro ((h | h) | h)
          · exact .inl h
          · exact .inr (.inl h)
          · exact .inr (.inr h)
        · rintro (h | h | h)
          · exact .inl (.inl h)
          · exact .inl (.inr h)
          · exact .inr h
      · rintro σ H4 ⟨rs', v3, rfl, hh4, mem', rl', kp⟩
        rw [List.length_map, List.length_drop] at rl'
        refine ⟨rs', _, _, rfl, hh4, fun y => ?_, by omega, fun b u e => kp b u (ne_of_none e hhd) (sm3 b u e)⟩
        have et : ((rows[i]).drop 1).take (((rows[i]).drop 1).map V.str).length = (rows[i]).drop 1 := List.take_of_length_le (by rw [List.length_map]; exact Nat.le_refl _)
        rw [mem', et, mem, take_snoc hir]
        constructor
        · rintro (⟨o, h1, h2⟩ | h)
          · exact ⟨o, List.mem_append_left _ h1, h2⟩
          · exact ⟨rows[i], List.mem_append_right _ List.mem_cons_self, h⟩
        · rintro ⟨o, h1, h2⟩
          rcases List.mem_append.mp h1 with h | h
          · exact .inl ⟨o, h, h2⟩
          · rw [List.mem_singleton.mp h] at h2
            exact .inr h2
    · rintro σ H2 ⟨rs, v2, v3, rfl, hh2, mem, rl, sm⟩
      rw [List.take_of_length_le (by omega)] at mem
      have held : ∀ y, (valV (setD rs) (.inr y)).isSome = heldIn rows y := fun y => by
        apply Bool.eq_iff_iff.mpr
        rw [setD_has, mem]
        unfold heldIn
        rw [List.any_eq_true]
        exact ⟨fun ⟨o, h1, h2⟩ => ⟨o, h1, decide_eq_true h2⟩, fun ⟨o, h1, h2⟩ => ⟨o, h1, of_decide_eq_true h2⟩⟩
      refine ⟨_, rfl, l, rfl, for_seq (K := K) (hl.same sm) (fun i σ H3 => ∃ (v2 v3 : Option V), σ = [some (.ref l), some (.ref hd), v2, v3] ∧ (rows.take i).flatMap (freeOf rows) = [] ∧ H3 = H2)
        ⟨_, _, rfl, rfl, rfl⟩ (fun i σ H3 _ ⟨_, _, _, _, e⟩ o h => by rw [e]; exact h) ?_ ?_⟩
      · rintro i x σ H3 hi ⟨v2', v3', rfl, hnone, rfl⟩
        obtain ⟨hir, ha⟩ := (hrows.mono sm).get hi
        have hfl : frees rows = (rows.take i).flatMap (freeOf rows) ++ (freeOf rows rows[i] ++ (rows.drop (i + 1)).flatMap (freeOf rows)) := by
          unfold frees
          have e : rows = rows.take i ++ (rows[i] :: rows.drop (i + 1)) := by
            rw [List.getElem_cons_drop, List.take_append_drop]
          conv => lhs; rw [e]
          rw [List.flatMap_append, List.flatMap_cons]
          rw [← e]
        refine ⟨_, rfl, _, ha.tru, ?_⟩
        cases hre : rows[i] with
        | nil =>
          refine iteF (iteF ⟨_, _, rfl, ?_, rfl⟩)
          rw [take_snoc hir, List.flatMap_append, hnone, hre]
          rfl
        | cons y r =>
          rw [hre] at ha hfl
          refine iteT ⟨_, rfl, ha.at0 ⟨_, rfl, hd, _, rfl, DGet.k (k := .inr y) hh2, _, rfl, ?_⟩⟩
          rw [held y]
          have ef : freeOf rows (y :: r) = if heldIn rows y = true then [] else [y] := rfl
          cases hh : heldIn rows y with
          | true =>
            refine iteF ⟨_, _, rfl, ?_, rfl⟩
            rw [take_snoc hir, List.flatMap_append, hnone, hre, List.flatMap_singleton, ef, hh, if_pos rfl]
            rfl
          | false =>
            refine iteT ⟨_, rfl, ha.at0 ?_⟩
            have := k H3 sm
            rw [hfl, hnone, ef, hh, if_neg Bool.false_ne_true] at this
            exact this
      · rintro σ H3 ⟨v2', v3', rfl, hnone, rfl⟩
        rw [List.take_of_length_le (by omega)] at hnone
        have hnone : frees rows = [] := hnone
        have := k H3 sm
        rw [hnone] at this
        exact this
end
end K23
end
section
set_option autoImplicit false
namespace K23
open PySem PyProof.Rows L2
def behindAt (rows : List (List Str)) (y : Str) : List Nat := (List.range rows.length).filter fun i => decide (y ∈ (rows.getD i []).drop 1)
section
variable {P : Program} {w : World} {K : PySem.W.Frag} {mg : Str → Option Value} {base : Heap} {t : Adr}
def spHold : Sp := fun vs H Q _ => ∃ (y : Str) (l : Addr) (us : List V) (rows : List (List Str)), vs = [.str y, .ref l] ∧ SeqAt' H (.ref l) us ∧ RowsN H us rows ∧ rows.length ≤ 1000 ∧ heldIn rows y = true ∧
  ∀ (q : Addr) (x : Str) (n : Nat) (r : List Str) H', rows[n]? = some (x :: r) → y ∈ r → (∀ m o, m < n → rows[m]? = some o → ¬ y ∈ o.drop 1) → H' q = some (.tup [.str x, .str y, .int n]) → Same H H' → Q (.ref q) H'
theorem ok_hold (D : Defs K mg t) : FnOk P w K mg base CX0 1 t.hold_of.1 t.hold_of.2 ["name", "left"] spHold := by
  have hz : sizeLine = 16777216 := sizeLine_eq
  refine D.hold_of.fn.ok sc_hold_of (fun vs H Q E h => ?_) (fun cdv A outer s H vs Q E hr h => ?_)
  · obtain ⟨y, l, us, rows, rfl, _⟩ := h
    rfl
  · obtain ⟨y, l, us, rows, rfl, hl, hrows, hlen, held, k⟩ := h
    have hul : us.length = rows.length := Paired.length hrows
    refine ⟨_, (pss_cons (ps_set (i := 2) sc_hold_of.nd rfl (Or.inl rfl) (pe_ix ix_list (pe_comp rfl (CompScope.of ["at", "row"] [0] ["at", "row", "name"] (defScope (top 9)) ["name", "left", "number"] rfl rfl (by decide +kernel)) ⟨fun _ _ _ _ _ => (pg_tup_K (K := K) (n := 2) rfl rfl (pgs_cons (pg_name (i := 0) (show List.Nodup [("at" : Str), ("row" : Str), ("name" : Str)] by decide +kernel) rfl (Or.inl (lookup_relabel_local rfl)) (.inr (lookup_relabel_local rfl))) (pgs_cons (pg_name (i := 1) (show List.Nodup [("at" : Str), ("row" : Str), ("name" : Str)] by decide +kernel) rfl (Or.inl (lookup_relabel_local rfl)) (.inr (lookup_relabel_local rfl))) pgs_nil))), fun _ _ _ _ _ => (pts_one (pt_cmpR (op_in_K (K := K) rfl) (pv 2) (pe_slice (sl_seqK (K := K) rfl) (pv 1) (po_some pe_int) po_none) (by with_unfolding_all rfl))), fun _ _ _ _ _ => (pv 0)⟩ (pi_enumS (K := K) rfl rfl D.b_enumerate (pa_cons (pv 1) pa_nil))) pe_int (fun _ _ => rfl)))
      (pss_one (ps_ret (pe_tup (pa_cons (pe_ix (ix_seqK (K := K) rfl) (pe_ix (ix_seqK (K := K) rfl) (pv 1) (pv 2) (fun _ _ => rfl)) pe_int (fun _ _ => rfl)) (pa_cons (pv 0) (pa_cons (pv 2) pa_nil))))))), ?_⟩
    refine ⟨_, rfl, l, rfl, comp_enumS (K := K) hl (fun D i ys H2 => ys = ((List.range i).filter fun j => decide (y ∈ (rows.getD j []).drop 1)).map (fun j => V.int (j : Nat)) ∧ H2 D = some (.lst ys) ∧ Same H H2)
      (fun D hD => ⟨rfl, upd_same, Same.new hD⟩) (fun D i ys H2 hD ⟨_, _, sm⟩ o e => sm l o e) ?_ ?_⟩
    · rintro D' ys H2 hD ⟨rfl, hD2, sm⟩
      rw [hul] at hD2
      have hne : behindAt rows y ≠ [] := by
        obtain ⟨o, ho, hy⟩ := List.any_eq_true.mp held
        obtain ⟨i, hi, rfl⟩ := List.getElem_of_mem ho
        refine List.ne_nil_of_mem (a := i) (List.mem_filter.mpr ⟨List.mem_range.mpr hi, ?_⟩)
        simp [hi]
        simpa using hy
      obtain ⟨n, more, en⟩ := List.exists_cons_of_ne_nil hne
      have hn : n ∈ behindAt rows y := by rw [en]; exact List.mem_cons_self
      obtain ⟨hn1, hn2⟩ := List.mem_filter.mp hn
      have hnl := List.mem_range.mp hn1
      have hn2 := of_decide_eq_true hn2
      have egd : rows.getD n [] = rows[n] := by simp [hnl]
      rw [egd] at hn2
      have hD2 : H2 D' = some (.lst ((behindAt rows y).map fun j => V.int (j : Nat))) := hD2
      rw [en] at hD2
      refine ⟨D', _, _, .int n, rfl, rfl, SqL.of hD2, atI_nat (j := 0) rfl, ?_⟩
      have eun : us[n]? = some us[n] := List.getElem?_eq_getElem (by omega)
      obtain ⟨hnr, ha⟩ := (hrows.mono sm).get eun
      cases hrn : rows[n] with
      | nil => rw [hrn] at hn2; cases hn2
      | cons x r =>
        rw [hrn] at ha hn2
        have min : ∀ m o, m < n → rows[m]? = some o → ¬ y ∈ o.drop 1 := fun m o hm em hy => by
          have hml := (List.getElem?_eq_some_iff.mp em).1
          have hmem : m ∈ behindAt rows y := List.mem_filter.mpr ⟨List.mem_range.mpr hml, decide_eq_true (by rw [List.getD_eq_getElem?_getD, em]; exact hy)⟩
          have srt : (behindAt rows y).Pairwise (· < ·) := List.Pairwise.sublist (List.filter_sublist) List.pairwise_lt_range
          rw [en] at srt hmem
          rcases List.mem_cons.mp hmem with h | h
          · omega
          · have := (List.pairwise_cons.mp srt).1 m h
            omega
        have last : ∀ (q : Addr), H2 q = none → Q (.ref q) (upd H2 q (.tup [.str x, .str y, .int n])) := fun q hq => k q x n r _ (by rw [List.getElem?_eq_getElem hnl, hrn]) hn2 min upd_same (sm.trans (Same.new hq))
        refine ⟨_, rfl, _, rfl, ?_⟩
        obtain ⟨p', e', h'⟩ := hl.same sm
        cases e'
        rcases h' with h' | h'
        · exact .inr ⟨l, us, _, _, rfl, rfl, SqL.of h', atI_nat eun, ha.at0 ⟨_, rfl, _, rfl, by show 3 ≤ sizeLine; decide, last⟩⟩
        · exact .inl ⟨l, us, _, _, rfl, rfl, SqT.of h', atI_nat eun, ha.at0 ⟨_, rfl, _, rfl, by show 3 ≤ sizeLine; decide, last⟩⟩
    · rintro D' i x ys H2 p hD hi ex ⟨rfl, hD2, sm⟩ hp σo ho
      obtain ⟨oo, oo', rfl⟩ := own2 ho
      have s3 : Same H2 (upd H2 p (.tup [.int i, x])) := Same.new hp
      obtain ⟨hir, ha⟩ := (hrows.mono (sm.trans s3)).get ex
      have egd : rows.getD i [] = rows[i] := by simp [hir]
      have ers : (List.range (i + 1)).filter (fun j => decide (y ∈ (rows.getD j []).drop 1)) = (List.range i).filter (fun j => decide (y ∈ (rows.getD j []).drop 1)) ++ (if decide (y ∈ (rows[i]).drop 1) = true then [i] else []) := by
        rw [List.range_succ, List.filter_append, List.filter_cons, egd]
        rfl
      have hyl : (((List.range i).filter fun j => decide (y ∈ (rows.getD j []).drop 1)).map (fun j => V.int (j : Nat))).length ≤ 1000 := by
        rw [List.length_map]
        refine Nat.le_trans (List.length_filter_le _ _) ?_
        rw [List.length_range]
        omega
      refine ⟨p, _, rfl, SqT.of upd_same, rfl, _, _, rfl, _, _, rfl, rfl, ⟨[_, _], rfl, rfl⟩, _, rfl, _, rfl, _, rfl, ha.cut fun q H4 hq s4 => ?_⟩
      have hq' : SqL K H4 q (((rows[i]).drop 1).map V.str) ∨ SqT K H4 q (((rows[i]).drop 1).map V.str) := by
        obtain ⟨q', e, h⟩ := hq
        cases e
        exact h.elim (fun z => .inl (SqL.of z)) fun z => .inr (SqT.of z)
      refine ⟨q, _, rfl, hq', rfl, flat_strs _, _, rfl, ite2 (fun hb => ?_) (fun hb => ?_)⟩
      · have hb : inV (.str y) (((rows[i]).drop 1).map V.str) = true := hb
        rw [inV_strs] at hb
        refine ⟨_, rfl, by omega, s4 D' _ (s3 D' _ hD2), less_by hi ⟨?_, upd_same, fun b u e => ?_⟩⟩
        · rw [ers, if_pos hb, List.map_append]
          rfl
        · rw [upd_ne (ne_of_none e hD)]
          exact s4 b _ (s3 b _ (sm b _ e))
      · have hb : ¬ inV (.str y) (((rows[i]).drop 1).map V.str) = true := hb
        rw [inV_strs] at hb
        refine less_by hi ⟨?_, s4 D' _ (s3 D' _ hD2), (sm.trans s3).trans s4⟩
        rw [ers, if_neg hb, List.append_nil]
end
end K23
end
section
set_option autoImplicit false
namespace K23
open PySem PyProof.Rows L2
def cloK (ns : List Str) (ad : Str → Addr) : List (Key × V) := ns.map fun x => (.inr x, .ref (ad x))
theorem cloK_val {ns : List Str} {ad : Str → Addr} {x : Str} (h : x ∈ ns) : valV (cloK ns ad) (.inr x) = some (.ref (ad x)) := by
  induction ns with
  | nil => cases h
  | cons y ns ih =>
    by_cases e : y = x
    · subst e
      exact valV_pos (p := ((.inr y : Key), V.ref (ad y))) rfl
    · show valV ((.inr y, V.ref (ad y)) :: cloK ns ad) (.inr x) = _
      rw [valV_neg (p := ((.inr y : Key), V.ref (ad y))) (by intro z; injection z with z; exact e z)]
      rcases List.mem_cons.mp h with z | z
      · exact absurd z.symm e
      · exact ih z
def setF {α : Type} (g : Str → α) (x : Str) (v : α) : Str → α := fun y => if y = x then v else g y
theorem setF_same {α : Type} {g : Str → α} {x : Str} {v : α} : setF g x v x = v := if_pos rfl
theorem setF_ne {α : Type} {g : Str → α} {x y : Str} {v : α} (h : y ≠ x) : setF g x v y = g y := if_neg h
theorem cloK_snoc {ns : List Str} {ad : Str → Addr} {x : Str} {l : Addr} (h : ¬ x ∈ ns) : putK (cloK ns ad) (.inr x) (.ref l) = cloK (ns ++ [x]) (setF ad x l) := by
  have hn : valV (cloK ns ad) (.inr x) = none := by
    cases q : valV (cloK ns ad) (.inr x) with
    | none => rfl
    | some y =>
      exfalso
      have h1 : (valV (cloK ns ad) (.inr x)).isSome = true := by rw [q]; rfl
      rw [valV_key] at h1
      unfold cloK at h1
      rw [List.map_map, List.mem_map] at h1
      obtain ⟨z, hz, e⟩ := h1
      have e : (Sum.inr z : Key) = Sum.inr x := e
      injection e with e
      exact h (e ▸ hz)
  rw [putK_new _ hn]
  unfold cloK
  rw [List.map_append]
  congr 1
  · apply List.map_congr_left
    intro y hy
    have ne : y ≠ x := fun e => by rw [e] at hy; exact h hy
    rw [setF_ne ne]
  · show _ = [(Sum.inr x, V.ref (setF ad x l x))]
    rw [setF_same]
theorem cloK_has (ns : List Str) (ad : Str → Addr) (x : Str) : (valV (cloK ns ad) (.inr x)).isSome = true ↔ x ∈ ns := by
  rw [valV_key]
  unfold cloK
  rw [List.map_map, List.mem_map]
  constructor
  · rintro ⟨y, hy, e⟩
    have e : (Sum.inr y : Key) = Sum.inr x := e
    injection e with e
    exact e ▸ hy
  · exact fun h => ⟨x, h, rfl⟩
def fronts (rows : List (List Str)) : List Str := rows.filterMap List.head?
theorem fronts_mem {rows : List (List Str)} {x : Str} {r : List Str} (h : (x :: r) ∈ rows) : x ∈ fronts rows := List.mem_filterMap.mpr ⟨_, h, rfl⟩
theorem fronts_of {rows : List (List Str)} {x : Str} (h : x ∈ fronts rows) : ∃ r, (x :: r) ∈ rows := by
  obtain ⟨o, ho, e⟩ := List.mem_filterMap.mp h
  cases o with
  | nil => cases e
  | cons y r =>
    cases e
    exact ⟨r, ho⟩
theorem fronts_held {rows : List (List Str)} (h : frees rows = []) {x : Str} (hx : x ∈ fronts rows) : heldIn rows x = true := by
  obtain ⟨r, hr⟩ := fronts_of hx
  cases q : heldIn rows x with
  | true => rfl
  | false =>
    have : x ∈ frees rows := List.mem_flatMap.mpr ⟨_, hr, by show x ∈ (if heldIn rows x = true then [] else [x]); rw [q, if_neg Bool.false_ne_true]; exact List.mem_cons_self⟩
    rw [h] at this
    cases this
structure Chain (H : Hp) (rows : List (List Str)) (c : List Str) (nx : Str → Str) (ad : Str → Addr) (name : Str) : Prop where
  nd : c.Nodup
  fr : ∀ z ∈ c, z ∈ fronts rows
  nf : name ∈ fronts rows
  st : ∀ (i : Nat) z, c[i]? = some z → c[i + 1]? = some (nx z) ∨ (i + 1 = c.length ∧ nx z = name)
  at' : ∀ z ∈ c, ∃ n : Nat, H (ad z) = some (.tup [.str (nx z), .str z, .int n])
section
variable {P : Program} {w : World} {K : PySem.W.Frag} {mg : Str → Option Value} {base : Heap} {t : Adr}
def spRing : Sp := fun vs H Q _ => ∃ (l : Addr) (us : List V) (rows : List (List Str)), vs = [.ref l] ∧ SeqAt' H (.ref l) us ∧ RowsN H us rows ∧ rows.length ≤ 1000 ∧ frees rows = [] ∧ fronts rows ≠ [] ∧
  ∀ (q : Addr) (ts : List V) H', H' q = some (.tup ts) → Same H H' → Q (.ref q) H'
theorem ok_ring (D : Defs K mg t) : FnOk P w K mg base CX0 2 t.ring_among.1 t.ring_among.2 ["left"] spRing := by
  have G_hold_of : FnOk P w K mg base CX0 1 t.hold_of.1 t.hold_of.2 _ spHold := ok_hold D
  have hz : sizeLine = 16777216 := sizeLine_eq
  refine D.ring_among.fn.ok sc_ring_among (fun vs H Q E h => ?_) (fun cdv A outer s H vs Q E hr h => ?_)
  · obtain ⟨l, us, rows, rfl, _⟩ := h
    rfl
  · obtain ⟨l, us, rows, rfl, hl, hrows, hlen, hfree, hfr, k⟩ := h
    have hul : us.length = rows.length := Paired.length hrows
    refine ⟨_, (pss_cons (ps_set (i := 1) sc_ring_among.nd rfl (Or.inl rfl) (pe_ix ix_list (pe_comp rfl (CompScope.of ["row"] [] ["row"] (defScope (top 8)) ["left", "name", "holds", "ring"] rfl rfl (by decide +kernel)) ⟨fun _ _ _ _ _ => (pg_name (i := 0) (show List.Nodup [("row" : Str)] by decide +kernel) rfl (Or.inl (lookup_relabel_local rfl)) (.inr (lookup_relabel_local rfl))), fun _ _ _ _ _ => (pts_one (pt_truth_K (K := K) rfl (pv 0) (by intro _; rfl))), fun _ _ _ _ _ => (pe_ix (ix_seqK (K := K) rfl) (pv 0) pe_int (fun _ _ => rfl))⟩ (pi_seq (K := K) (pv 0) rfl)) pe_int (fun _ _ => rfl)))
      (pss_cons (ps_set (i := 2) sc_ring_among.nd rfl (Or.inl rfl) pe_dnewK)
      (pss_cons (ps_while PassesOwn.never (pt_cmp (pc_dnotin (hu_of hr) (pv 1) (pv 2)))
      (pss_cons (ps_dput (hu_of hr) (pv 2) (pv 1) (pe_callF D.hold_of G_hold_of (hr.mono (by omega)) (by rfl) (pa_cons (pv 1) (pa_cons (pv 0) pa_nil))) rfl)
      (pss_one (ps_set (i := 1) sc_ring_among.nd rfl (Or.inl rfl) (pe_ix ix_tup (pe_dget (hu_of hr) (pv 2) (pv 1) (fun _ _ => rfl)) pe_int (fun _ _ => rfl))))))
      (pss_cons (ps_set (i := 3) sc_ring_among.nd rfl (Or.inl rfl) (pe_lst (pa_cons (pe_dget (hu_of hr) (pv 2) (pv 1) (fun _ _ => rfl)) pa_nil)))
      (pss_cons (ps_while PassesOwn.never (pt_cmpR op_ne (pe_ix ix_tup (pe_ix ix_list (pv 3) (pe_un un_neg pe_int) (fun _ _ => rfl)) pe_int (fun _ _ => rfl)) (pv 1) (nomark _))
      (pss_one (ps_expr (pe_bm PySem.F.plainAttrs_list PySem.F.slot_list_append PySem.F.type_list_append mt_append (pv 3) (pa_cons (pe_dget (hu_of hr) (pv 2) (pe_ix ix_tup (pe_ix ix_list (pv 3) (pe_un un_neg pe_int) (fun _ _ => rfl)) pe_int (fun _ _ => rfl)) (fun _ _ => rfl)) pa_nil)))))
      (pss_one (ps_ret (pe_callTy call_tuple_of (by rfl) D.b_tuple bt_tuple (pa_cons (pe_slK (pv 3) (pe_un un_neg pe_int)) pa_nil))))))))), ?_⟩
    refine ⟨_, rfl, l, rfl, comp_seq (K := K) hl (fun D i ys H2 => ys = (fronts (rows.take i)).map V.str ∧ H2 = upd H D (.lst ys))
      (fun D hD => ⟨rfl, rfl⟩) (fun D i ys H2 hD ⟨_, e2⟩ o e => by rw [e2, upd_ne (ne_of_none e hD)]; exact e) ?_ ?_⟩
    · rintro D1 ys H2 hD1 ⟨rfl, rfl⟩
      rw [List.take_of_length_le (by omega)]
      obtain ⟨x0, more, ef⟩ := List.exists_cons_of_ne_nil hfr
      refine ⟨D1, _, _, .str x0, rfl, rfl, SqL.of upd_same, by rw [ef]; exact L2.at0 x0 more, ?_⟩
      intro hd hhd
      have s1 : ∀ o, Same H (upd H D1 o) := fun o => Same.new hD1
      have s2 := (s1 (.lst ((fronts rows).map V.str))).trans (Same.new (o := .dK []) hhd)
      have hhdH : H hd = none := by
        cases q : H hd with
        | none => rfl
        | some o =>
          rw [s1 _ hd o q] at hhd
          cases hhd
      have hh3 : (upd (upd H D1 (.lst ((fronts rows).map V.str))) hd (.dK [])) hd = some (.dK []) := upd_same
      generalize upd (upd H D1 (.lst ((fronts rows).map V.str))) hd (.dK []) = H3 at s2 hh3
      have hx0 : x0 ∈ fronts rows := by rw [ef]; exact List.mem_cons_self
      have fl1 : (fronts rows).length ≤ 1000 := Nat.le_trans (List.length_filterMap_le _ _) hlen
      refine ⟨fun m σ H4 => ∃ (c : List Str) (nx : Str → Str) (ad : Str → Addr) (name : Str) (v3 : Option V), σ = [some (.ref l), some (.str name), some (.ref hd), v3] ∧ Chain H4 rows c nx ad name ∧ H4 hd = some (.dK (cloK c ad)) ∧ m + c.length = (fronts rows).length ∧ Same H H4, ?_, ?_⟩
      · refine ⟨(fronts rows).length, [], fun z => z, fun _ => 0, x0, _, rfl, ⟨List.nodup_nil, by simp, hx0, by intro i z h; simp at h, by simp⟩, hh3, rfl, s2⟩
      · rintro m σ H4 ⟨c, nx, ad, name, v3, rfl, ch, hh4, hm, sm4⟩
        refine ⟨_, rfl, _, rfl, hd, _, rfl, DGet.k (k := .inr name) hh4, _, rfl, ?_⟩
        cases hin : (valV (cloK c ad) (.inr name)).isSome with
        | false =>
          have hnc : ¬ name ∈ c := fun h => by rw [(cloK_has c ad name).mpr h] at hin; cases hin
          have hcl : c.length < (fronts rows).length := by
            have := nodup_le (nd_snoc ch.nd hnc) (m := fronts rows) fun z hz' => by
              rcases List.mem_append.mp hz' with h | h
              · exact ch.fr z h
              · rw [List.mem_singleton.mp h]
                exact ch.nf
            rw [List.length_append, List.length_singleton] at this
            omega
          refine iteT ⟨fun σ' H' => ∃ m', m' < m ∧ ∃ (c : List Str) (nx : Str → Str) (ad : Str → Addr) (name : Str) (v3 : Option V), σ' = [some (.ref l), some (.str name), some (.ref hd), v3] ∧ Chain H' rows c nx ad name ∧ H' hd = some (.dK (cloK c ad)) ∧ m' + c.length = (fronts rows).length ∧ Same H H', fun σ' H' h => h, ?_⟩
          refine ⟨_, rfl, _, rfl, name, l, us, rows, rfl, hl.same sm4, hrows.mono sm4, hlen, fronts_held hfree ch.nf, fun q x n r H5 er hy _ hq s5 => ?_⟩
          have hh5 := s5 hd _ hh4
          refine ⟨_, rfl, _, rfl, hd, _, rfl, DPut.k (k := .inr name) hh5 (by unfold cloK; rw [List.length_map]; omega), ?_⟩
          rw [cloK_snoc hnc]
          have qh : q ≠ hd := ne_of hq hh5 (fun z => nomatch z)
          have kp6 : ∀ b u, b ≠ hd → H5 b = some u → (upd H5 hd (.dK (cloK (c ++ [name]) (setF ad name q)))) b = some u := fun b u hb e => by rw [upd_ne hb]; exact e
          have hmem : name ∈ c ++ [name] := List.mem_append_right _ List.mem_cons_self
          refine ⟨_, rfl, _, rfl, hd, .ref q, rfl, .inl ⟨_, .inr name, .inl upd_same, rfl, by rw [cloK_val hmem, setF_same]⟩, q, _, _, _, rfl, rfl, SqT.of (kp6 q _ qh hq), rfl, ?_⟩
          refine ⟨m - 1, by omega, c ++ [name], setF nx name x, setF ad name q, x, _, rfl, ⟨nd_snoc ch.nd hnc, ?_, fronts_mem (List.mem_of_getElem? er), ?_, ?_⟩, upd_same, by rw [List.length_append, List.length_singleton]; omega, fun b u e => kp6 b u (ne_of_none e hhdH) (s5 b u (sm4 b u e))⟩
          · intro z hz'
            rcases List.mem_append.mp hz' with h | h
            · exact ch.fr z h
            · rw [List.mem_singleton.mp h]
              exact ch.nf
          · intro i z ez
            by_cases hic : i < c.length
            · rw [List.getElem?_append_left hic] at ez
              have zn : z ≠ name := fun e => hnc (e ▸ List.mem_of_getElem? ez)
              rw [setF_ne zn]
              left
              rcases ch.st i z ez with h | ⟨h1, h2⟩
              · have := (List.getElem?_eq_some_iff.mp h).1
                rw [List.getElem?_append_left this]
                exact h
              · rw [h2, h1, List.getElem?_append_right (Nat.le_refl _), Nat.sub_self]
                rfl
            · have hi2 := (List.getElem?_eq_some_iff.mp ez).1
              rw [List.length_append, List.length_singleton] at hi2
              have ei : i = c.length := by omega
              subst ei
              rw [List.getElem?_append_right (Nat.le_refl _), Nat.sub_self] at ez
              have ez : z = name := by simpa using ez.symm
              subst ez
              right
              exact ⟨by rw [List.length_append]; rfl, setF_same⟩
          · intro z hz'
            by_cases zn : z = name
            · subst zn
              exact ⟨n, by rw [setF_same, setF_same]; exact kp6 q _ qh hq⟩
            · rw [setF_ne zn, setF_ne zn]
              rcases List.mem_append.mp hz' with h | h
              · obtain ⟨n', hn'⟩ := ch.at' z h
                have h5 := s5 _ _ hn'
                exact ⟨n', kp6 _ _ (ne_of h5 hh5 (fun z => nomatch z)) h5⟩
              · exact absurd (List.mem_singleton.mp h) zn
        | true =>
          have hnc : name ∈ c := (cloK_has c ad name).mp hin
          refine iteF ?_
          have getd : ∀ {H5 : Hp} {z : Str}, z ∈ c → H5 hd = some (.dK (cloK c ad)) → DGet H5 hd (.str z) (some (.ref (ad z))) := fun {H5 z} hz' h => .inl ⟨_, .inr z, .inl h, rfl, (cloK_val hz').symm⟩
          refine ⟨_, rfl, _, rfl, hd, .ref (ad name), rfl, getd hnc hh4, by show 1 ≤ sizeLine; decide, fun rg hrg => ?_⟩
          have s5 : ∀ o, Same H4 (upd H4 rg o) := fun o => Same.new hrg
          obtain ⟨j0, hj0, ej0⟩ := List.getElem_of_mem hnc
          have cl1 : c.length ≤ 1000 := by omega
          refine ⟨fun m σ H5 => ∃ (zs : List Str) (i : Nat) (z : Str), σ = [some (.ref l), some (.str name), some (.ref hd), some (.ref rg)] ∧ H5 rg = some (.lst ((zs ++ [z]).map fun z => V.ref (ad z))) ∧ zs.length ≤ i ∧ c[i]? = some z ∧ m + i = c.length ∧ (∀ b u, b ≠ rg → H4 b = some u → H5 b = some u), ?_, ?_⟩
          · exact ⟨c.length - j0, [], j0, name, rfl, upd_same, Nat.zero_le _, by rw [List.getElem?_eq_getElem hj0, ej0], by omega, fun b u hb e => by rw [upd_ne hb]; exact e⟩
          · rintro m2 σ H5 ⟨zs, i, z, rfl, hrg5, hzi, ez, hm2, kp5⟩
            have hzc : z ∈ c := List.mem_of_getElem? ez
            have hil := (List.getElem?_eq_some_iff.mp ez).1
            obtain ⟨n, hn⟩ := ch.at' z hzc
            have az : ad z ≠ rg := ne_of_none hn hrg
            have hn5 := kp5 _ _ az hn
            have hhr : hd ≠ rg := ne_of_none hh4 hrg
            have hh5 := kp5 hd _ hhr hh4
            have elast : atI ((zs ++ [z]).map fun z => V.ref (ad z)) (-1) = some (.ref (ad z)) := by
              rw [List.map_append]
              exact atI_last _ _
            refine ⟨_, rfl, _, rfl, rg, _, _, _, rfl, rfl, SqL.of hrg5, elast, ad z, _, _, _, rfl, rfl, SqT.of hn5, rfl, _, rfl, rfl, _, rfl, ite2 (fun hb => ?_) (fun hb => ?_)⟩
            · have hne : nx z ≠ name := fun e => by
                rw [e] at hb
                simp at hb
              have ez2 : c[i + 1]? = some (nx z) := by
                rcases ch.st i z ez with h | ⟨_, h⟩
                · exact h
                · exact absurd h hne
              have hi1 := (List.getElem?_eq_some_iff.mp ez2).1
              refine ⟨fun σ' H' => ∃ m', m' < m2 ∧ ∃ (zs : List Str) (i : Nat) (z : Str), σ' = [some (.ref l), some (.str name), some (.ref hd), some (.ref rg)] ∧ H' rg = some (.lst ((zs ++ [z]).map fun z => V.ref (ad z))) ∧ zs.length ≤ i ∧ c[i]? = some z ∧ m' + i = c.length ∧ (∀ b u, b ≠ rg → H4 b = some u → H' b = some u), fun σ' H' h => h, ?_⟩
              refine ⟨_, rfl, .inl ⟨rfl, _, SqL.of hrg5⟩, _, rfl, _, rfl, _, rfl, rg, _, _, _, rfl, rfl, SqL.of hrg5, elast, ad z, _, _, _, rfl, rfl, SqT.of hn5, rfl, hd, .ref (ad (nx z)), rfl, getd (List.mem_of_getElem? ez2) hh5, rg, _, .ref (ad (nx z)), rfl, rfl, hrg5, by rw [List.length_map, List.length_append, List.length_singleton]; omega, ?_⟩
              refine ⟨m2 - 1, by omega, zs ++ [z], i + 1, nx z, rfl, ?_, by rw [List.length_append, List.length_singleton]; omega, ez2, by omega, fun b u hb' e => by rw [upd_ne hb']; exact kp5 b u hb' e⟩
              rw [upd_same, List.map_append (l₁ := zs ++ [z])]
              rfl
            · refine ⟨_, rfl, _, rfl, rg, _, _, rfl, rfl, SqL.of hrg5, .inr ⟨rfl, fun q6 hq6 => ⟨q6, _, rfl, .inl ⟨SqL.of upd_same, fun q8 hq8 => ?_⟩⟩⟩⟩
              refine k q8 _ _ upd_same fun b u e => ?_
              have e4 := sm4 b u e
              have e5 := kp5 b u (ne_of_none e4 hrg) e4
              have e6 : (upd H5 q6 (.lst ((zs ++ [z]).map fun z => V.ref (ad z)).reverse)) b = some u := by rw [upd_ne (ne_of_none e5 hq6)]; exact e5
              rw [upd_ne (ne_of_none e6 hq8)]
              exact e6
    · rintro D1 i x ys H2 hD hi ex ⟨rfl, rfl⟩ σo ho
      obtain ⟨oo, rfl⟩ := own1 ho
      have s1 : ∀ o, Same H (upd H D1 o) := fun o => Same.new hD
      obtain ⟨hir, ha⟩ := (hrows.mono (s1 _)).get ex
      have hyl : ((fronts (rows.take i)).map V.str).length ≤ 1000 := by
        rw [List.length_map]
        refine Nat.le_trans (List.length_filterMap_le _ _) ?_
        rw [List.length_take]
        omega
      refine ⟨⟨[_], rfl, rfl⟩, _, rfl, _, ha.tru, ?_⟩
      have efr : fronts (rows.take (i + 1)) = fronts (rows.take i) ++ (rows[i]).head?.toList := by
        unfold fronts
        rw [take_snoc hir, List.filterMap_append]
        congr 1
      cases hre : rows[i] with
      | nil =>
        refine iteF (less_by hi ⟨?_, rfl⟩)
        rw [efr, hre]
        simp
      | cons y r =>
        rw [hre] at ha
        refine iteT ⟨_, rfl, ha.at0 ⟨by omega, upd_same, less_by hi ⟨?_, by rw [upd_upd]⟩⟩⟩
        rw [efr, hre, List.map_append]
        rfl
end
end K23
end
section
set_option autoImplicit false
namespace K23
open PySem PyProof.Rows L2
theorem held_full (rows : List (List Str)) (x : Str) : heldIn (full rows) x = heldIn rows x := by
  unfold heldIn full
  apply Bool.eq_iff_iff.mpr
  rw [List.any_eq_true, List.any_eq_true]
  constructor
  · rintro ⟨o, h1, h2⟩
    exact ⟨o, (List.mem_filter.mp h1).1, h2⟩
  · rintro ⟨o, h1, h2⟩
    refine ⟨o, List.mem_filter.mpr ⟨h1, ?_⟩, h2⟩
    cases o with
    | nil => have := of_decide_eq_true h2; cases this
    | cons _ _ => rfl
theorem frees_full (rows : List (List Str)) : frees (full rows) = frees rows := by
  have key : ∀ (R S : List (List Str)), (∀ x, heldIn S x = heldIn R x) → ∀ rs : List (List Str), (full rs).flatMap (freeOf S) = rs.flatMap (freeOf R) := by
    intro R S h rs
    induction rs with
    | nil => rfl
    | cons r rs ih =>
      unfold full at ih ⊢
      rw [List.filter_cons, List.flatMap_cons]
      cases r with
      | nil =>
        simp only [List.isEmpty_nil, Bool.not_true, Bool.false_eq_true, if_false]
        rw [ih]
        rfl
      | cons y r =>
        simp only [List.isEmpty_cons, Bool.not_false, if_true]
        rw [List.flatMap_cons, ih]
        congr 1
        show (if heldIn S y = true then [] else [y]) = (if heldIn R y = true then [] else [y])
        rw [h y]
  exact key rows (full rows) (held_full rows) rows
theorem full_map_full (x : Str) : ∀ rows : List (List Str), full ((full rows).map (outOf x)) = full (rows.map (outOf x))
  | [] => rfl
  | r :: rows => by
    have ih := full_map_full x rows
    unfold full at ih ⊢
    rw [List.filter_cons, List.map_cons, List.filter_cons]
    cases r with
    | nil =>
      simp only [List.isEmpty_nil, Bool.not_true, Bool.false_eq_true, if_false]
      rw [ih]
      rfl
    | cons y r =>
      simp only [List.isEmpty_cons, Bool.not_false, if_true, List.map_cons]
      rw [List.filter_cons, ih]
section
variable {P : Program} {w : World} {K : PySem.W.Frag} {mg : Str → Option Value} {base : Heap} {t : Adr}
def TellM (H : Hp) (x : Str) (r : Option (List Str)) (q : Addr) : Prop := match r with
  | some os => ∃ qo, H q = some (.tup [.str "order", .ref qo]) ∧ H qo = some (.tup ((x :: os).map V.str))
  | none => ∃ a rg, H q = some (.tup [.str "quarrel", .str a, .ref rg])
def spMRows : Sp := fun vs H Q _ => ∃ (x : Str) (l : Addr) (us : List V) (rows : List (List Str)), vs = [.str x, .ref l] ∧ H l = some (.tup us) ∧ RowsT H us rows ∧ ((∀ r ∈ rows, r ≠ []) ∨ ∀ r ∈ rows, r = []) ∧ tot rows ≤ 1000 ∧ rows.length ≤ 1000 ∧
  ∀ (q : Addr) (r : Option (List Str)) H', Mg (full rows) r → TellM H' x r q → Same H H' → Q (.ref q) H'
theorem ok_mrows (D : Defs K mg t) : FnOk P w K mg base CX0 3 t.merge_rows.1 t.merge_rows.2 ["kind", "rows"] spMRows := by
  have G_first_free : FnOk P w K mg base CX0 1 t.first_free.1 t.first_free.2 _ spFirst := ok_first D
  have G_ring_among : FnOk P w K mg base CX0 2 t.ring_among.1 t.ring_among.2 _ spRing := ok_ring D
  have hz : sizeLine = 16777216 := sizeLine_eq
  refine D.merge_rows.fn.ok sc_merge_rows (fun vs H Q E h => ?_) (fun cdv A outer s H vs Q E hr h => ?_)
  · obtain ⟨x, l, us, rows, rfl, _⟩ := h
    rfl
  · obtain ⟨x, l, us, rows, rfl, hl, hrt, hcase, htot, hlen, k⟩ := h
    refine ⟨_, (pss_cons (ps_set (i := 2) sc_merge_rows.nd rfl (Or.inl rfl) (pe_lst (pa_cons (pv 0) pa_nil)))
      (pss_cons (ps_set (i := 3) sc_merge_rows.nd rfl (Or.inl rfl) (pv 1))
      (pss_cons (ps_while PassesOwn.never (pt_val (pe_callB (call_anyS rfl) (by rfl) D.b_any bt_any (pa_cons (pv 3) pa_nil)))
      (pss_cons (ps_set (i := 4) sc_merge_rows.nd rfl (Or.inr rfl) (pe_callF D.first_free G_first_free (hr.mono (by omega)) (by rfl) (pa_cons (pv 3) pa_nil)))
      (pss_cons (ps_if (pt_cmpR op_isN (pv 4) pe_non (nomark _))
      (pss_one (ps_ret (pe_tup (pa_cons pe_str (pa_cons (pv 0) (pa_cons (pe_callF D.ring_among G_ring_among (hr.mono (by omega)) (by rfl) (pa_cons (pv 3) pa_nil)) pa_nil))))))
      pss_nil)
      (pss_cons (ps_expr (pe_bm PySem.F.plainAttrs_list PySem.F.slot_list_append PySem.F.type_list_append mt_append (pv 2) (pa_cons (pv 4) pa_nil)))
      (pss_one (ps_setc (i := 3) rfl sc_merge_rows.nd rfl (Or.inl rfl) (CompScope.of ["row"] [4] ["row", "first"] (defScope (top 6)) ["kind", "rows", "order", "left", "first"] rfl rfl (by decide +kernel)) ⟨fun _ _ _ _ _ => (pg_name (i := 0) (show List.Nodup [("row" : Str), ("first" : Str)] by decide +kernel) rfl (Or.inl (lookup_relabel_local rfl)) (.inr (lookup_relabel_local rfl))), fun _ _ _ _ _ => pts_nil, fun _ _ _ _ _ => (pe_comp rfl (CompScope.of2 ["name"] [1] ["name", "first"] ["row", "first"] rfl rfl (by decide +kernel)) ⟨fun _ _ _ _ _ => (pg_name (i := 0) (show List.Nodup [("name" : Str), ("first" : Str)] by decide +kernel) rfl (Or.inl (lookup_relabel_local rfl)) (.inr (lookup_relabel_local rfl))), fun _ _ _ _ _ => (pts_one (pt_cmpR op_ne (pv 0) (pv 1) (nomark _))), fun _ _ _ _ _ => (pv 0)⟩ (pi_seq (K := K) (pv 0) rfl))⟩ (pi_seq (K := K) (pv 3) rfl)))))))
      (pss_one (ps_ret (pe_tup (pa_cons pe_str (pa_cons (pe_callTy call_tuple_of (by rfl) D.b_tuple bt_tuple (pa_cons (pv 2) pa_nil)) pa_nil)))))))), ?_⟩
    refine ⟨_, rfl, by show 1 ≤ sizeLine; decide, fun ol hol => ?_⟩
    have s0 : Same H (upd H ol (.lst [.str x])) := Same.new hol
    have hol0 : (upd H ol (.lst [.str x])) ol = some (.lst [.str x]) := upd_same
    generalize upd H ol (.lst [.str x]) = H1 at s0 hol0
    refine ⟨_, rfl, ?_⟩
    refine ⟨fun m σ H2 => ∃ (us2 : List V) (rows2 : List (List Str)) (os : List Str) (l2 : Addr) (v4 : Option V), σ = [some (.str x), some (.ref l), some (.ref ol), some (.ref l2), v4] ∧ SeqAt' H2 (.ref l2) us2 ∧ l2 ≠ ol ∧ Paired (fun (v : V) (r : List Str) => ∃ a, v = .ref a ∧ a ≠ ol ∧ (H2 a = some (.lst (r.map V.str)) ∨ H2 a = some (.tup (r.map V.str)))) us2 rows2 ∧ (RowsN H2 us2 rows2 ∨ ∀ r ∈ rows2, r = []) ∧
      H2 ol = some (.lst ((x :: os).map V.str)) ∧ m = tot rows2 ∧ os.length + tot rows2 ≤ 1000 ∧ rows2.length = rows.length ∧ (∀ r, Mg (full rows2) r → Mg (full rows) (r.map (os ++ ·))) ∧ Same H H2, ?_, ?_⟩
    · refine ⟨_, us, rows, [], l, _, rfl, ⟨l, rfl, .inr (s0 l _ hl)⟩, ne_of_none hl hol, Paired.mapP hrt fun v r ⟨a, e, h⟩ => ⟨a, e, ne_of_none h hol, .inr (s0 a _ h)⟩, ?_, hol0, rfl, by show 0 + _ ≤ _; omega, rfl, fun r h => ?_, s0⟩
      · rcases hcase with h | h
        · left
          have key : ∀ {us : List V} {rows : List (List Str)}, RowsT H us rows → (∀ r ∈ rows, r ≠ []) → RowsN H1 us rows := by
            intro us rows hh
            induction hh with
            | nil => exact fun _ => .nil
            | cons q _ ih =>
              intro h
              obtain ⟨a, e, h'⟩ := q
              exact .cons ⟨a, e, .inr ⟨s0 a _ h', h _ List.mem_cons_self⟩⟩ (ih fun r hr => h r (List.mem_cons_of_mem _ hr))
          exact key hrt h
        · exact .inr h
      · have : r.map (([] : List Str) ++ ·) = r := by cases r <;> rfl
        rw [this]
        exact h
    · rintro m σ H2 ⟨us2, rows2, os, l2, v4, rfl, hl2, l2o, pr, hc2, hol2, rfl, hb2, hrl, mg2, sm2⟩
      have hul : us2.length = rows2.length := Paired.length pr
      obtain ⟨l2', el2, hl2'⟩ := id hl2
      cases el2
      refine ⟨_, rfl, l2, us2, rows2.map (fun r => !r.isEmpty), rfl, hl2', by rw [List.length_map, hul], fun i hi hj => ?_, _, rfl, ?_⟩
      · have hir : i < rows2.length := by omega
        obtain ⟨a, e, _, h⟩ := paired_get pr i hi hir
        refine ⟨(rows2[i]).map V.str, ⟨a, e, h⟩, ?_⟩
        rw [List.getElem_map]
        cases rows2[i] <;> rfl
      have eany : (rows2.map fun r => !r.isEmpty).any id = !(full rows2).isEmpty := by
        rw [List.any_map]
        apply Bool.eq_iff_iff.mpr
        rw [List.any_eq_true]
        constructor
        · rintro ⟨r, h1, h2⟩
          have : r ∈ full rows2 := List.mem_filter.mpr ⟨h1, h2⟩
          cases hf : full rows2 with
          | nil => rw [hf] at this; cases this
          | cons _ _ => rfl
        · intro h
          cases hf : full rows2 with
          | nil => rw [hf] at h; cases h
          | cons r _ =>
            have : r ∈ full rows2 := by rw [hf]; exact List.mem_cons_self
            obtain ⟨h1, h2⟩ := List.mem_filter.mp this
            exact ⟨r, h1, h2⟩
      rw [eany]
      cases hf : full rows2 with
      | nil =>
        refine iteF ⟨_, rfl, ol, _, rfl, .inl ⟨SqL.of hol2, fun qo hqo => ⟨by show 2 ≤ sizeLine; decide, fun q hq => ?_⟩⟩⟩
        have h1 := mg2 (some []) (by rw [hf]; exact .nil)
        have s3 := (Same.new (o := .tup ((x :: os).map V.str)) hqo).trans (Same.new (o := .tup [.str "order", .ref qo]) hq)
        refine k q (some os) _ (by simpa using h1) ⟨qo, upd_same, ?_⟩ (sm2.trans s3)
        rw [upd_ne (ne_of_none upd_same hq), upd_same]
      | cons r0 rr =>
        have hfne : full rows2 ≠ [] := by rw [hf]; exact List.cons_ne_nil _ _
        have hrn : RowsN H2 us2 rows2 := by
          rcases hc2 with h | h
          · exact h
          · exfalso
            have : r0 ∈ full rows2 := by rw [hf]; exact List.mem_cons_self
            obtain ⟨h1, h2⟩ := List.mem_filter.mp this
            rw [h r0 h1] at h2
            cases h2
        refine iteT ⟨fun σ' H' => ∃ m', m' < tot rows2 ∧ ∃ (us2 : List V) (rows2 : List (List Str)) (os : List Str) (l2 : Addr) (v4 : Option V), σ' = [some (.str x), some (.ref l), some (.ref ol), some (.ref l2), v4] ∧ SeqAt' H' (.ref l2) us2 ∧ l2 ≠ ol ∧ Paired (fun (v : V) (r : List Str) => ∃ a, v = .ref a ∧ a ≠ ol ∧ (H' a = some (.lst (r.map V.str)) ∨ H' a = some (.tup (r.map V.str)))) us2 rows2 ∧ (RowsN H' us2 rows2 ∨ ∀ r ∈ rows2, r = []) ∧
          H' ol = some (.lst ((x :: os).map V.str)) ∧ m' = tot rows2 ∧ os.length + tot rows2 ≤ 1000 ∧ rows2.length = rows.length ∧ (∀ r, Mg (full rows2) r → Mg (full rows) (r.map (os ++ ·))) ∧ Same H H', fun σ' H' h => h, ?_⟩
        refine ⟨_, rfl, l2, us2, rows2, rfl, hl2, hrn, by omega, by omega, fun H3 s3 => ?_⟩
        cases hfr : frees rows2 with
        | nil =>
          refine ⟨_, rfl, rfl, _, rfl, iteT ?_⟩
          have hfronts : fronts rows2 ≠ [] := by
            have : r0 ∈ full rows2 := by rw [hf]; exact List.mem_cons_self
            obtain ⟨h1, h2⟩ := List.mem_filter.mp this
            cases r0 with
            | nil => cases h2
            | cons y r => exact List.ne_nil_of_mem (fronts_mem h1)
          refine ⟨_, rfl, _, rfl, l2, us2, rows2, rfl, hl2.same s3, hrn.mono s3, by omega, hfr, hfronts, fun rg ts H4 hrg s4 => ⟨by show 3 ≤ sizeLine; decide, fun q hq => ?_⟩⟩
          refine k q none _ (mg2 none (.stuck hfne (by rw [frees_full]; exact hfr))) ⟨x, rg, upd_same⟩ (((sm2.trans s3).trans s4).trans (Same.new hq))
        | cons x1 more =>
          refine ⟨_, rfl, rfl, _, rfl, iteF ?_⟩
          have hx1 : x1 ∈ frees rows2 := by rw [hfr]; exact List.mem_cons_self
          obtain ⟨r1, hr1, hh1⟩ := frees_mem hx1
          have hx1r : x1 ∈ r1 := by
            cases r1 with
            | nil => cases hh1
            | cons y r' =>
              cases hh1
              exact List.mem_cons_self
          have hlt := tot_out_lt (x := x1) ⟨r1, hr1, hx1r⟩
          have hol3 := s3 ol _ hol2
          refine ⟨_, rfl, .inl ⟨rfl, _, SqL.of hol3⟩, _, rfl, ol, _, .str x1, rfl, rfl, hol3, by rw [List.length_map, List.length_cons]; omega, ?_⟩
          have eol : (x :: os).map V.str ++ [V.str x1] = (x :: (os ++ [x1])).map V.str := by rw [List.map_cons, List.map_cons, List.map_append]; rfl
          rw [eol]
          have kp4 : ∀ b u, b ≠ ol → H3 b = some u → (upd H3 ol (.lst ((x :: (os ++ [x1])).map V.str))) b = some u := fun b u hb e => by rw [upd_ne hb]; exact e
          have hol4 : (upd H3 ol (.lst ((x :: (os ++ [x1])).map V.str))) ol = some (.lst ((x :: (os ++ [x1])).map V.str)) := upd_same
          generalize upd H3 ol (.lst ((x :: (os ++ [x1])).map V.str)) = H4 at kp4 hol4
          have sm4 : Same H H4 := fun b u e => kp4 b u (ne_of_none e hol) (s3 b u (sm2 b u e))
          have hl4 : SeqAt' H4 (.ref l2) us2 := ⟨l2, rfl, hl2'.elim (fun z => .inl (kp4 l2 _ l2o (s3 l2 _ z))) fun z => .inr (kp4 l2 _ l2o (s3 l2 _ z))⟩
          have row4 : ∀ (i : Nat) (v : V), us2[i]? = some v → ∃ (hir : i < rows2.length) (a : Addr), v = .ref a ∧ SeqAt' H4 (.ref a) ((rows2[i]).map V.str) := fun i v e => by
            have hi := (List.getElem?_eq_some_iff.mp e).1
            have hir : i < rows2.length := by omega
            obtain ⟨a, ea, ao, h⟩ := paired_get pr i hi hir
            rw [List.getElem?_eq_getElem hi] at e
            cases e
            exact ⟨hir, a, ea, a, rfl, h.elim (fun z => .inl (kp4 a _ ao (s3 a _ z))) fun z => .inr (kp4 a _ ao (s3 a _ z))⟩
          refine ⟨_, rfl, l2, rfl, comp_seq (K := K) hl4 (fun D i ys H5 => H5 D = some (.lst ys) ∧ RowsY H5 D ol ys ((rows2.take i).map (outOf x1)) ∧ Same H4 H5)
            (fun D hD => ⟨upd_same, .nil, Same.new hD⟩) (fun D i ys H5 hD ⟨_, _, sm⟩ o e => sm l2 o e) ?_ ?_⟩
          · rintro D1 ys H5 hD1 ⟨hD5, ry5, sm5⟩
            rw [List.take_of_length_le (by omega)] at ry5
            have D1o : D1 ≠ ol := fun e => by rw [e, hol4] at hD1; cases hD1
            refine ⟨tot (rows2.map (outOf x1)), hlt, ys, rows2.map (outOf x1), os ++ [x1], D1, _, rfl, ⟨D1, rfl, .inl hD5⟩, D1o, Paired.mapP ry5 fun v r ⟨a, e, _, n, q⟩ => ⟨a, e, n, .inl q⟩, .inl (Paired.mapP ry5 fun v r ⟨a, e, _, n, q⟩ => ⟨a, e, .inl q⟩), sm5 ol _ hol4, rfl, ?_, by rw [List.length_map]; exact hrl, fun r h => ?_, sm4.trans sm5⟩
            · rw [List.length_append, List.length_singleton]
              omega
            · have h1 := mg2 _ (.step (by rw [frees_full]; exact hfr) (by rw [full_map_full]; exact h))
              rw [Option.map_map] at h1
              have : ((fun x => os ++ x) ∘ fun x => x1 :: x) = fun x => os ++ [x1] ++ x := by
                funext z
                simp
              rw [this] at h1
              exact h1
          · rintro D1 i v ys H5 hD1 hi ev ⟨hD5, ry5, sm5⟩ σo ho
            obtain ⟨oo, rfl⟩ := own1 ho
            obtain ⟨hir, a, rfl, ha⟩ := row4 i v ev
            have ha5 := ha.same sm5
            have hyl : ys.length ≤ 1000 := by
              rw [Paired.length ry5, List.length_map, List.length_take]
              omega
            refine ⟨⟨[_], rfl, rfl⟩, yes_by ⟨_, rfl, a, rfl, comp_seq (K := K) ha5 (fun D j ys5 H6 => ys5 = (outOf x1 ((rows2[i]).take j)).map V.str ∧ H6 = upd H5 D (.lst ys5))
              (fun D hD => ⟨rfl, rfl⟩) (fun D j ys5 H6 hD ⟨_, e6⟩ o e => by rw [e6, upd_ne (ne_of_none e hD)]; exact e) ?_ ?_⟩⟩
            · rintro D5 ys5 H6 hD5' ⟨rfl, rfl⟩
              rw [List.take_of_length_le (by rw [List.length_map]; exact Nat.le_refl _)]
              have s6 : ∀ o, Same H5 (upd H5 D5 o) := fun o => Same.new hD5'
              have D51 : D5 ≠ D1 := fun e => by rw [e, hD5] at hD5'; cases hD5'
              have D5o : D5 ≠ ol := fun e => by rw [e, sm5 ol _ hol4] at hD5'; cases hD5'
              refine ⟨by omega, s6 _ D1 _ hD5, less_by hi ⟨upd_same, ?_, fun b u e => ?_⟩⟩
              · rw [take_snoc hir, List.map_append]
                exact pairedSnoc (ry5.grow (s6 _)) ⟨D5, rfl, D51, D5o, by rw [upd_ne D51, upd_same]⟩
              · rw [upd_ne (ne_of_none e hD1)]
                exact s6 _ b _ (sm5 b _ e)
            · rintro D5 j y ys5 H6 hD5' hj ey ⟨rfl, rfl⟩ σo5 ho5
              obtain ⟨o5, rfl⟩ := own1 ho5
              have hj' : j < (rows2[i]).length := by rw [List.length_map] at hj; exact hj
              rw [List.getElem?_map, List.getElem?_eq_getElem hj'] at ey
              cases ey
              have eout : outOf x1 ((rows2[i]).take (j + 1)) = outOf x1 ((rows2[i]).take j) ++ (if decide ((rows2[i])[j] ≠ x1) = true then [(rows2[i])[j]] else []) := by
                unfold outOf
                rw [take_snoc hj', List.filter_append]
                congr 1
                rw [List.filter_cons]
                rfl
              have hri := tot_le_mem (List.getElem_mem hir)
              have hl5 : ((outOf x1 ((rows2[i]).take j)).map V.str).length ≤ 1000 := by
                rw [List.length_map]
                have h1 := out_le x1 ((rows2[i]).take j)
                rw [List.length_take] at h1
                omega
              refine ⟨⟨[_], rfl, rfl⟩, _, rfl, _, rfl, rfl, _, rfl, ite2 (fun hb => ?_) (fun hb => ?_)⟩
              · have hb : (rows2[i])[j] ≠ x1 := fun e => by
                  have hb : (!decide (V.str (rows2[i])[j] = V.str x1)) = true := hb
                  rw [e, decide_eq_true rfl] at hb
                  cases hb
                refine ⟨_, rfl, by omega, upd_same, less_by hj ⟨?_, by rw [upd_upd]⟩⟩
                rw [eout, if_pos (decide_eq_true hb), List.map_append]
                rfl
              · have hb : (rows2[i])[j] = x1 := Classical.byContradiction fun e => hb (by
                  show (!decide (V.str (rows2[i])[j] = V.str x1)) = true
                  rw [decide_eq_false (by intro z; injection z with z; exact e z)]
                  rfl)
                refine less_by hj ⟨?_, rfl⟩
                rw [eout, if_neg (by simpa using hb), List.append_nil]
end
end K23
end
section
set_option autoImplicit false
namespace K23
open PySem PyProof.Rows L2
def TellF (H : Hp) (f : Fam) (x : Str) (q : Addr) : Prop := (∃ o qo, ordF f x = some o ∧ H q = some (.tup [.str "order", .ref qo]) ∧ H qo = some (.tup (o.map V.str))) ∨ (ordF f x = none ∧ ∃ a rg, H q = some (.tup [.str "quarrel", .str a, .ref rg]))
def ToldAt (H : Hp) (kvs : List (Key × V)) (f : Fam) (S : Str → Prop) : Prop := ∀ x, S x → ∃ q, valV kvs (.inr x) = some (.ref q) ∧ TellF H f x q
theorem TellF.mono {H H' : Hp} {f : Fam} {x : Str} {q : Addr} (h : TellF H f x q) (s : Tups H H') : TellF H' f x q := by
  rcases h with ⟨o, qo, h1, h2, h3⟩ | ⟨h1, a, rg, h2⟩
  · exact .inl ⟨o, qo, h1, s q _ h2, s qo _ h3⟩
  · exact .inr ⟨h1, a, rg, s q _ h2⟩
theorem ToldAt.mono {H H' : Hp} {kvs : List (Key × V)} {f : Fam} {S : Str → Prop} (h : ToldAt H kvs f S) (s : Tups H H') : ToldAt H' kvs f S := fun x hx => by
  obtain ⟨q, h1, h2⟩ := h x hx
  exact ⟨q, h1, h2.mono s⟩
section
variable {P : Program} {w : World} {K : PySem.W.Frag} {mg : Str → Option Value} {base : Heap} {t : Adr}
def spQuarrel : Sp := fun vs H Q _ => ∃ (e d : Addr) (es : List Str) (kvs : List (Key × V)) (f : Fam), vs = [.ref e, .ref d] ∧ H e = some (.tup (es.map V.str)) ∧ Rd H d (.dK kvs) ∧ ToldAt H kvs f (· ∈ es) ∧
  ((∀ x ∈ es, (ordF f x).isSome = true) → Q .non H) ∧ (¬ (∀ x ∈ es, (ordF f x).isSome = true) → ∀ (q a rg), H q = some (.tup [.str "quarrel", .str a, .ref rg]) → Q (.ref q) H)
theorem quarrel_ne : ¬ ("order" : Str) = "quarrel" := by decide +kernel
theorem ok_quarrel (D : Defs K mg t) : FnOk P w K mg base CX0 1 t.quarrel_among.1 t.quarrel_among.2 ["kinds", "told"] spQuarrel := by
  refine D.quarrel_among.fn.ok sc_quarrel_among (fun vs H Q E h => ?_) (fun cdv A outer s H vs Q E hr h => ?_)
  · obtain ⟨e, d, es, kvs, f, rfl, _⟩ := h
    rfl
  · obtain ⟨e, d, es, kvs, f, rfl, he, hd, told, k1, k2⟩ := h
    refine ⟨_, (pss_cons (ps_for PassesOwn.never rfl (pi_tup (pv 0)) (pg_name (i := 2) sc_quarrel_among.nd rfl (Or.inl rfl))
      (pss_one (ps_if (pt_cmpR op_eq (pe_ix ix_tup (pe_dget (hu_of hr) (pv 1) (pv 2) (fun _ _ => rfl)) pe_int (fun _ _ => rfl)) pe_str (nomark _))
      (pss_one (ps_ret (pe_dget (hu_of hr) (pv 1) (pv 2) (fun _ _ => rfl))))
      pss_nil)))
      (pss_one (ps_ret pe_non))), ?_⟩
    refine ⟨_, rfl, e, rfl, ⟨_, SqT.of he⟩, for_tup (K := K) (a := e) (xs := es.map V.str) (fun i σ H2 => ∃ v2 : Option V, σ = [some (.ref e), some (.ref d), v2] ∧ H2 = H ∧ ∀ x ∈ es.take i, (ordF f x).isSome = true)
      ⟨_, rfl, rfl, by simp⟩ (fun i σ H2 _ ⟨_, _, e2, _⟩ => by rw [e2]; exact SqT.of he) ?_ ?_⟩
    · rintro i v σ H2 hi ⟨v2, rfl, rfl, all⟩
      have hil : i < es.length := by
        have := (List.getElem?_eq_some_iff.mp hi).1
        rwa [List.length_map] at this
      have ev : v = .str es[i] := by
        rw [List.getElem?_map, List.getElem?_eq_getElem hil] at hi
        exact (Option.some.inj hi).symm
      subst ev
      have hm : es[i] ∈ es := List.getElem_mem hil
      obtain ⟨q, hv, ht⟩ := told es[i] hm
      have gd : DGet H2 d (.str es[i]) (some (.ref q)) := .inl ⟨kvs, .inr es[i], hd, rfl, hv.symm⟩
      rcases ht with ⟨o, qo, h1, h2, h3⟩ | ⟨h1, a, rg, h2⟩
      · refine ⟨_, rfl, _, rfl, d, .ref q, rfl, gd, q, _, _, _, rfl, rfl, SqT.of h2, rfl, rfl, _, rfl, iteNeg (by rw [decide_eq_false (by intro h; injection h with h; exact quarrel_ne h)]; exact Bool.false_ne_true) ?_⟩
        refine ⟨_, rfl, rfl, fun x hx => ?_⟩
        rw [take_snoc hil] at hx
        rcases List.mem_append.mp hx with h | h
        · exact all x h
        · rw [List.mem_singleton.mp h, h1]
          rfl
      · refine ⟨_, rfl, _, rfl, d, .ref q, rfl, gd, q, _, _, _, rfl, rfl, SqT.of h2, rfl, rfl, _, rfl, itePos (decide_eq_true rfl) ?_⟩
        refine ⟨_, rfl, _, rfl, d, .ref q, rfl, gd, k2 (fun h => ?_) q a rg h2⟩
        have := h es[i] hm
        rw [h1] at this
        cases this
    · rintro σ H2 ⟨v2, rfl, rfl, all⟩
      rw [List.length_map, List.take_of_length_le (Nat.le_refl _)] at all
      exact k1 all
def spRowsBy : Sp := fun vs H Q _ => ∃ (e d : Addr) (es : List Str) (kvs : List (Key × V)) (f : Fam), vs = [.ref e, .ref d] ∧ H e = some (.tup (es.map V.str)) ∧ Rd H d (.dK kvs) ∧ ToldAt H kvs f (· ∈ es) ∧ (∀ x ∈ es, (ordF f x).isSome = true) ∧ es.length ≤ 1000 ∧
  ∀ (q : Addr) (us : List V) H', H' q = some (.tup us) → RowsT H' us (rowsBy (ordF f) es) → Same H H' → Q (.ref q) H'
theorem ok_rowsBy (D : Defs K mg t) : FnOk P w K mg base CX0 1 t.rows_by.1 t.rows_by.2 ["elders", "told"] spRowsBy := by
  have hz : sizeLine = 16777216 := sizeLine_eq
  refine D.rows_by.fn.ok sc_rows_by (fun vs H Q E h => ?_) (fun cdv A outer s H vs Q E hr h => ?_)
  · obtain ⟨e, d, es, kvs, f, rfl, _⟩ := h
    rfl
  · obtain ⟨e, d, es, kvs, f, rfl, he, hd, told, all, hlen, k⟩ := h
    refine ⟨_, (pss_one (ps_ret (pe_op op_catTA (pe_callTy call_tuple_of (by rfl) D.b_tuple bt_tuple (pa_cons (pe_comp rfl (CompScope.of ["elder"] [1] ["elder", "told"] (defScope (top 5)) ["elders", "told"] rfl rfl (by decide +kernel)) ⟨fun _ _ _ _ _ => (pg_name (i := 0) (show List.Nodup [("elder" : Str), ("told" : Str)] by decide +kernel) rfl (Or.inl (lookup_relabel_local rfl)) (.inr (lookup_relabel_local rfl))), fun _ _ _ _ _ => pts_nil, fun _ _ _ _ _ => (pe_ix (ix_tup_K (K := K) rfl) (pe_dget (hu_of hr) (pv 1) (pv 0) (fun _ _ => rfl)) pe_int (fun _ _ => rfl))⟩ (pi_tup (pv 0))) pa_nil)) (pe_tup (pa_cons (pv 0) pa_nil))))), ?_⟩
    refine ⟨_, rfl, e, rfl, ⟨_, SqT.of he⟩, fun D1 hD1 => ?_⟩
    have s1 : ∀ o, Same H (upd H D1 o) := fun o => Same.new hD1
    refine comp_by (n := (es.map V.str).length) (fun i ys H2 => RowsT H ys ((es.take i).map fun x => (ordF f x).getD []) ∧ H2 = upd H D1 (.lst ys)) ⟨.nil, rfl⟩ ?_ ?_
    · rintro ys H2 ⟨rt, rfl⟩
      rw [List.length_map, List.take_of_length_le (Nat.le_refl _)] at rt
      refine ⟨⟨_, SqT.of (s1 _ e _ he), Nat.le_refl _⟩, D1, _, rfl, .inl ⟨SqL.of upd_same, fun q1 hq1 => ?_⟩⟩
      have s2 := (s1 (.lst ys)).trans (Same.new (o := .tup ys) hq1)
      have hyl : ys.length = es.length := by rw [Paired.length rt, List.length_map]
      refine ⟨_, rfl, by show 1 ≤ sizeLine; decide, fun q2 hq2 => ?_⟩
      have s3 := s2.trans (Same.new (o := .tup [.ref e]) hq2)
      have h1 : (upd (upd (upd H D1 (.lst ys)) q1 (.tup ys)) q2 (.tup [.ref e])) q1 = some (.tup ys) := by rw [upd_ne (ne_of_none upd_same hq2), upd_same]
      have last : ∀ (H' : Hp), Same H H' → RowsT H' (ys ++ [.ref e]) (rowsBy (ordF f) es) := fun H' s => pairedSnoc (rt.mono (Same.tups s)) ⟨e, rfl, s e _ he⟩
      cases ys with
      | nil =>
        refine .inr ⟨q1, q2, [.ref e], rfl, rfl, h1, upd_same, ?_⟩
        exact k q2 _ _ upd_same (last _ s3) s3
      | cons y0 yr =>
        refine .inl ⟨q1, q2, y0 :: yr, [.ref e], rfl, rfl, SqT.of h1, SqT.of upd_same, List.cons_ne_nil _ _, by rw [hyl]; show es.length + 1 ≤ sizeLine; omega, (fun h => absurd h (List.cons_ne_nil _ _)), fun _ q3 hq3 => ?_⟩
        have s4 := s3.trans (Same.new (o := .tup (y0 :: yr ++ [.ref e])) hq3)
        exact k q3 _ _ upd_same (last _ s4) s4
    · rintro i ys H2 hi ⟨rt, rfl⟩
      have hi' : i < es.length := by rw [List.length_map] at hi; exact hi
      have ei : (es.map V.str)[i]? = some (.str es[i]) := by rw [List.getElem?_map, List.getElem?_eq_getElem hi']; rfl
      refine ⟨⟨_, _, SqT.of (s1 _ e _ he), ei⟩, ?_⟩
      rintro v H3 ⟨rfl, yy⟩ σo ho
      obtain ⟨oo, rfl⟩ := own1 ho
      have ev := yy _ (SqT.of (s1 _ e _ he))
      rw [ei] at ev
      cases ev
      have hm : es[i] ∈ es := List.getElem_mem hi'
      obtain ⟨q, hv, ht⟩ := told es[i] hm
      have hd1 : Rd (upd H D1 (.lst ys)) d (.dK kvs) := by
        rcases hd with h | ⟨o, h⟩
        · exact .inl (s1 _ d _ h)
        · exact .inr ⟨o, s1 _ d _ h⟩
      rcases ht with ⟨o, qo, h1, h2, h3⟩ | ⟨h1, _⟩
      · refine ⟨⟨[_], rfl, rfl⟩, yes_by ⟨_, rfl, _, rfl, d, .ref q, rfl, .inl ⟨kvs, .inr es[i], hd1, rfl, hv.symm⟩, q, _, _, _, rfl, rfl, SqT.of (s1 _ q _ h2), rfl, by rw [Paired.length rt, List.length_map, List.length_take]; omega, upd_same, less_by hi ⟨?_, by rw [upd_upd]⟩⟩⟩
        rw [take_snoc hi', List.map_append]
        refine pairedSnoc rt ⟨qo, rfl, ?_⟩
        show H qo = some (.tup (((ordF f es[i]).getD []).map V.str))
        rw [h1]
        exact h3
      · have := all es[i] hm
        rw [h1] at this
        cases this
end
end K23
end
section
set_option autoImplicit false
namespace L2
open PySem PyProof.Rows
theorem call_all_K {X : Cx} {K : PySem.W.Frag} (h : X.K = K) (hc : X.calm = true) : CallR X (.builtin "all") (fun xs H Q => ∃ (p : Addr) (bs : List Bool), xs = [.ref p] ∧ SqL K H p (bs.map V.bl) ∧ Q (.bl (bs.all id)) H) := by subst h; exact call_all hc
end L2
namespace K23
open PySem PyProof.Rows L2
structure Topo (f : Fam) (pl : List Str) : Prop where
  nd : pl.Nodup
  sub : ∀ x ∈ pl, x ∈ nms f
  el : ∀ (j : Nat) (r : Str × List Str), r ∈ f → pl[j]? = some r.1 → ∀ e ∈ r.2, e ∈ pl.take j
theorem some_ready {f : Fam} (G : GoodF f) (pl : List Str) {r : Str × List Str} (hr : r ∈ f) (hn : ¬ r.1 ∈ pl) : ∃ r' ∈ f, ¬ r'.1 ∈ pl ∧ ∀ e ∈ r'.2, e ∈ pl := by
  obtain ⟨top, t0, t1, t2⟩ := G.topo
  have key : ∀ (j : Nat) (r : Str × List Str), r ∈ f → top[j]? = some r.1 → ¬ r.1 ∈ pl → ∃ r' ∈ f, ¬ r'.1 ∈ pl ∧ ∀ e ∈ r'.2, e ∈ pl := by
    intro j
    induction j using Nat.strongRecOn with
    | ind j ih =>
      intro r hr hj hn
      by_cases hall : ∀ e ∈ r.2, e ∈ pl
      · exact ⟨r, hr, hn, hall⟩
      · have ⟨e, he⟩ := Classical.not_forall.mp hall
        have he1 : e ∈ r.2 := Classical.byContradiction fun z => he fun y => absurd y z
        have he2 : ¬ e ∈ pl := fun z => he fun _ => z
        obtain ⟨j', h1, h2⟩ := t2 r hr
        have ej := ix_uniq t0 hj h1
        subst ej
        obtain ⟨i, hi, ei⟩ := mem_take_ix (h2 e he1)
        obtain ⟨r2, hr2, er2⟩ := List.mem_map.mp (G.sub r hr e he1)
        have er2 : r2.1 = e := er2
        exact ih i hi r2 hr2 (by rw [er2]; exact ei) (by rw [er2]; exact he2)
  obtain ⟨j, h1, _⟩ := t2 r hr
  exact key j r hr h1 hn
def leftOf (f : Fam) (pl : List Str) : Fam := f.filter fun r => decide (¬ r.1 ∈ pl)
def readyOf (f : Fam) (pl : List Str) : List Str := ((leftOf f pl).filter fun r => r.2.all fun e => decide (e ∈ pl)).map (·.1)
theorem Topo.more {f : Fam} (G : GoodF f) {pl : List Str} (T : Topo f pl) : Topo f (pl ++ readyOf f pl) := by
  have mem : ∀ x, x ∈ readyOf f pl → ∃ r ∈ f, r.1 = x ∧ ¬ x ∈ pl ∧ ∀ e ∈ r.2, e ∈ pl := fun x hx => by
    obtain ⟨r, hr, rfl⟩ := List.mem_map.mp hx
    obtain ⟨h1, h2⟩ := List.mem_filter.mp hr
    obtain ⟨h3, h4⟩ := List.mem_filter.mp h1
    exact ⟨r, h3, rfl, of_decide_eq_true h4, fun e he => of_decide_eq_true (List.all_eq_true.mp h2 e he)⟩
  have ndr : (readyOf f pl).Nodup := by
    have : (readyOf f pl).Sublist (nms f) := List.Sublist.map _ (List.Sublist.trans List.filter_sublist List.filter_sublist)
    exact G.nd.sublist this
  refine ⟨?_, fun x hx => ?_, fun j r hr ej e he => ?_⟩
  · rw [List.nodup_append]
    refine ⟨T.nd, ndr, fun a ha b hb e => ?_⟩
    obtain ⟨_, _, _, h, _⟩ := mem b hb
    exact h (e ▸ ha)
  · rcases List.mem_append.mp hx with h | h
    · exact T.sub x h
    · obtain ⟨r, hr, e, _⟩ := mem x h
      rw [← e]
      exact List.mem_map.mpr ⟨r, hr, rfl⟩
  · by_cases hj : j < pl.length
    · rw [List.getElem?_append_left hj] at ej
      have := T.el j r hr ej e he
      rw [List.take_append_of_le_length (by omega)]
      exact this
    · rw [List.getElem?_append_right (by omega)] at ej
      obtain ⟨r', hr', e', _, h⟩ := mem r.1 (List.mem_of_getElem? ej)
      have er : elds f r'.1 = r'.2 := elds_of G.nd r' hr'
      have er2 : elds f r.1 = r.2 := elds_of G.nd r hr
      rw [e', er2] at er
      have hp : e ∈ pl := h e (er ▸ he)
      rw [List.take_append]
      exact List.mem_append_left _ (by rw [List.take_of_length_le (by omega)]; exact hp)
section
variable {P : Program} {w : World} {K : PySem.W.Frag} {mg : Str → Option Value} {base : Heap} {t : Adr}
def spElders : Sp := fun vs H Q _ => ∃ (v : V) (f : Fam), vs = [v] ∧ Dp H (famT f) v ∧ GoodF f ∧ ∀ (q : Addr) (pl : List Str) H', H' q = some (.tup (pl.map V.str)) → Topo f pl → (∀ x ∈ nms f, x ∈ pl) → Same H H' → Q (.ref q) H'
theorem ok_elders (D : Defs K mg t) : FnOk P w K mg base CX0 1 t.elders_first.1 t.elders_first.2 ["family"] spElders := by
  have hz : sizeLine = 16777216 := sizeLine_eq
  refine D.elders_first.fn.ok sc_elders_first (fun vs H Q E h => ?_) (fun cdv A outer s H vs Q E hr h => ?_)
  · obtain ⟨v, f, rfl, _⟩ := h
    rfl
  · obtain ⟨v, f, rfl, dv, gf, k⟩ := h
    obtain ⟨a, xs, rfl, ha, dl⟩ := L2.Dp.of_tup dv
    have hxl : xs.length = f.length := by have := dl.length; rwa [List.length_map] at this
    have f7 := gf.len
    refine ⟨_, (pss_cons (ps_set (i := 1) sc_elders_first.nd rfl (Or.inr rfl) pe_dnewK)
      (pss_cons (ps_set (i := 2) sc_elders_first.nd rfl (Or.inl rfl) (pe_callTy call_list_of (by rfl) D.b_list bt_list (pa_cons (pv 0) pa_nil)))
      (pss_cons (ps_set (i := 3) sc_elders_first.nd rfl (Or.inl rfl) (pv 2))
      (pss_cons (ps_while PassesOwn.never (pt_truth (pv 3) (by intro _; rfl))
      (pss_cons (ps_setc (i := 3) rfl sc_elders_first.nd rfl (Or.inl rfl) (CompScope.of ["kind", "elders"] [1] ["kind", "elders", "placed"] (defScope (top 1)) ["family", "placed", "waiting", "ready", "kind"] rfl rfl (by decide +kernel)) ⟨fun _ _ _ _ _ => (pg_tup_K (K := K) (n := 2) rfl rfl (pgs_cons (pg_name (i := 0) (show List.Nodup [("kind" : Str), ("elders" : Str), ("placed" : Str)] by decide +kernel) rfl (Or.inl (lookup_relabel_local rfl)) (.inr (lookup_relabel_local rfl))) (pgs_cons (pg_name (i := 1) (show List.Nodup [("kind" : Str), ("elders" : Str), ("placed" : Str)] by decide +kernel) rfl (Or.inl (lookup_relabel_local rfl)) (.inr (lookup_relabel_local rfl))) pgs_nil))), fun _ _ _ _ _ => (pts_one (pt_val (pe_callB (call_all_K (K := K) rfl rfl) (by rfl) D.b_all bt_all (pa_cons (pe_comp rfl (CompScope.of2 ["elder"] [2] ["elder", "placed"] ["kind", "elders", "placed"] rfl rfl (by decide +kernel)) ⟨fun _ _ _ _ _ => (pg_name (i := 0) (show List.Nodup [("elder" : Str), ("placed" : Str)] by decide +kernel) rfl (Or.inl (lookup_relabel_local rfl)) (.inr (lookup_relabel_local rfl))), fun _ _ _ _ _ => pts_nil, fun _ _ _ _ _ => (pe_cmp (pc_din (hu_of hr) (pv 0) (pv 1)))⟩ (pi_tup_K (K := K) rfl (pv 1))) pa_nil)))), fun _ _ _ _ _ => (pv 0)⟩ (pi_list (pv 2)))
      (pss_cons (ps_for PassesOwn.never rfl (pi_list (pv 3)) (pg_name (i := 4) sc_elders_first.nd rfl (Or.inl rfl))
      (pss_one (ps_dput (hu_of hr) (pv 1) (pv 4) pe_bl rfl)))
      (pss_one (ps_setc (i := 2) rfl sc_elders_first.nd rfl (Or.inl rfl) (CompScope.of ["pair"] [1] ["pair", "placed"] (defScope (top 1)) ["family", "placed", "waiting", "ready", "kind"] rfl rfl (by decide +kernel)) ⟨fun _ _ _ _ _ => (pg_name (i := 0) (show List.Nodup [("pair" : Str), ("placed" : Str)] by decide +kernel) rfl (Or.inl (lookup_relabel_local rfl)) (.inr (lookup_relabel_local rfl))), fun _ _ _ _ _ => (pts_one (pt_cmp (pc_dnotin (hu_of hr) (pe_ix (ix_tup_K (K := K) rfl) (pv 0) pe_int (fun _ _ => rfl)) (pv 1)))), fun _ _ _ _ _ => (pv 0)⟩ (pi_list (pv 2)))))))
      (pss_one (ps_ret (pe_callTy (call_tupleD rfl) (by rfl) D.b_tuple bt_tuple (pa_cons (pv 1) pa_nil)))))))), ?_⟩
    intro pd hpd
    have s1 : Same H (upd H pd (.dK [])) := Same.new hpd
    have hpd1 : (upd H pd (.dK [])) pd = some (.dK (setD [])) := upd_same
    generalize upd H pd (.dK []) = H1 at s1 hpd1
    refine ⟨_, rfl, a, _, rfl, .inr (SqT.of (s1 a _ ha)), fun w0 hw0 => ?_⟩
    have s2 : Same H1 (upd H1 w0 (.lst xs)) := Same.new hw0
    refine ⟨_, rfl, ?_⟩
    refine ⟨fun m σ H2 => ∃ (pl : List Str) (wl rl : Addr) (ws rs : List V) (v4 : Option V), σ = [some (.ref a), some (.ref pd), some (.ref wl), some (.ref rl), v4] ∧ H2 pd = some (.dK (setD pl)) ∧ Topo f pl ∧ H2 wl = some (.lst ws) ∧ DpL H2 ((leftOf f pl).map rowT) ws ∧ H2 rl = some (.lst rs) ∧ (rs = [] → leftOf f pl = []) ∧ m = 2 * (leftOf f pl).length + (if rs.isEmpty = true then 0 else 1) ∧ Same H H2, ?_, ?_⟩
    · have e0 : leftOf f [] = f := by
        unfold leftOf
        rw [List.filter_eq_self]
        simp
      refine ⟨_, [], w0, w0, xs, xs, _, rfl, s2 pd _ hpd1, ⟨List.nodup_nil, by simp, by intro j r _ h; simp at h⟩, upd_same, ?_, upd_same, fun h => ?_, rfl, s1.trans s2⟩
      · rw [e0]
        exact dl.mono (Same.tups (s1.trans s2))
      · rw [e0]
        rw [h] at hxl
        exact List.eq_nil_of_length_eq_zero hxl.symm
    · rintro m σ H2 ⟨pl, wl, rl, ws, rs, v4, rfl, hpd2, T, hw2, dw, hr2, hex, rfl, sm2⟩
      refine ⟨_, rfl, _, .inl ⟨_, SqL.of hr2, rfl⟩, ?_⟩
      cases hrs : rs with
      | nil =>
        refine iteF ⟨_, rfl, pd, _, rfl, .inl hpd2, fun q hq => ?_⟩
        have ek : (setD pl).map (fun kv => kV kv.1) = pl.map V.str := by
          unfold setD
          rw [List.map_map]
          rfl
        rw [ek]
        refine k q pl _ upd_same T (fun x hx => ?_) (sm2.trans (Same.new hq))
        have h0 := hex hrs
        apply Classical.byContradiction
        intro hn
        obtain ⟨r, hr', rfl⟩ := List.mem_map.mp hx
        have : r ∈ leftOf f pl := List.mem_filter.mpr ⟨hr', decide_eq_true hn⟩
        rw [h0] at this
        cases this
      | cons r0 rr =>
        have hem : (!(r0 :: rr).isEmpty) = true := rfl
        rw [hem]
        refine iteT ⟨fun σ' H' => ∃ m', m' < 2 * (leftOf f pl).length + 1 ∧ ∃ (pl : List Str) (wl rl : Addr) (ws rs : List V) (v4 : Option V), σ' = [some (.ref a), some (.ref pd), some (.ref wl), some (.ref rl), v4] ∧ H' pd = some (.dK (setD pl)) ∧ Topo f pl ∧ H' wl = some (.lst ws) ∧ DpL H' ((leftOf f pl).map rowT) ws ∧ H' rl = some (.lst rs) ∧ (rs = [] → leftOf f pl = []) ∧ m' = 2 * (leftOf f pl).length + (if rs.isEmpty = true then 0 else 1) ∧ Same H H', fun σ' H' h => h, ?_⟩
        have hwl : ws.length = (leftOf f pl).length := by have := dw.length; rwa [List.length_map] at this
        have hl7 : (leftOf f pl).length ≤ 7 := Nat.le_trans (List.length_filter_le _ _) f7
        have pwne : ∀ {H3 : Hp}, Same H2 H3 → True := fun _ => trivial
        refine ⟨_, rfl, wl, rfl, ⟨_, SqL.of hw2⟩, fun D1 hD1 => ?_⟩
        refine comp_by (n := ws.length) (fun i ys H3 => ys = ((((leftOf f pl).take i).filter fun r => r.2.all fun e => decide (e ∈ pl)).map (·.1)).map V.str ∧ H3 D1 = some (.lst ys) ∧ Same H2 H3) ⟨rfl, upd_same, Same.new hD1⟩ ?_ ?_
        · rintro ys H3 ⟨rfl, hD3, sm3⟩
          rw [List.take_of_length_le (by omega)] at hD3
          have hD3 : H3 D1 = some (.lst ((readyOf f pl).map V.str)) := hD3
          refine ⟨⟨_, SqL.of (sm3 wl _ hw2), Nat.le_refl _⟩, ?_⟩
          have hwD : wl ≠ D1 := ne_of_none hw2 hD1
          have pdD : pd ≠ D1 := ne_of_none hpd2 hD1
          have hrdy : (readyOf f pl).length ≤ 7 := by
            unfold readyOf
            rw [List.length_map]
            exact Nat.le_trans (List.length_filter_le _ _) hl7
          have Tm := T.more gf
          have plx : pl.length ≤ 7 := by
            have h1 := nodup_le T.nd (m := nms f) T.sub
            have h2 : (nms f).length = f.length := List.length_map _
            omega
          have newk : ∀ (i : Nat) (hi : i < (readyOf f pl).length), ¬ (readyOf f pl)[i] ∈ pl ++ (readyOf f pl).take i := fun i hi h => by
            have nd := Tm.nd
            have e : pl ++ readyOf f pl = (pl ++ (readyOf f pl).take i) ++ ((readyOf f pl)[i] :: (readyOf f pl).drop (i + 1)) := by
              rw [List.append_assoc, List.getElem_cons_drop, List.take_append_drop]
            rw [e, List.nodup_append] at nd
            exact nd.2.2 _ h _ List.mem_cons_self rfl
          refine ⟨_, rfl, D1, rfl, ⟨_, SqL.of hD3⟩, for_list (K := K) (a := D1) (xs := (readyOf f pl).map V.str) (fun i σ H4 => ∃ v4 : Option V, σ = [some (.ref a), some (.ref pd), some (.ref wl), some (.ref D1), v4] ∧ H4 pd = some (.dK (setD (pl ++ (readyOf f pl).take i))) ∧ ∀ b u, b ≠ pd → H3 b = some u → H4 b = some u)
            ⟨_, rfl, by rw [List.take_zero, List.append_nil]; exact sm3 pd _ hpd2, fun b u _ e => e⟩ (fun i σ H4 _ ⟨_, _, _, kp⟩ => SqL.of (kp D1 _ pdD.symm hD3)) ?_ ?_⟩
          · rintro i x σ H4 hi ⟨v4', rfl, hpd4, kp4⟩
            have hil : i < (readyOf f pl).length := by
              have := (List.getElem?_eq_some_iff.mp hi).1
              rwa [List.length_map] at this
            have ex : x = .str (readyOf f pl)[i] := by
              rw [List.getElem?_map, List.getElem?_eq_getElem hil] at hi
              exact (Option.some.inj hi).symm
            subst ex
            refine ⟨_, rfl, _, rfl, pd, _, rfl, DPut.k (k := .inr (readyOf f pl)[i]) hpd4 (by unfold setD; rw [List.length_map, List.length_append, List.length_take]; omega), ?_⟩
            rw [setD_put (newk i hil)]
            exact ⟨_, rfl, by rw [upd_same, take_snoc hil, List.append_assoc], fun b u hb e => by rw [upd_ne hb]; exact kp4 b u hb e⟩
          · rintro σ H4 ⟨v4', rfl, hpd4, kp4⟩
            rw [List.length_map, List.take_of_length_le (Nat.le_refl _)] at hpd4
            have wpd : wl ≠ pd := ne_of hw2 hpd2 (fun z => nomatch z)
            have hw4 := kp4 wl _ wpd (sm3 wl _ hw2)
            have tu4 : Tups H2 H4 := fun c zs e => kp4 c _ (ne_of e hpd2 (fun z => nomatch z)) (sm3 c _ e)
            have sm4 : Same H H4 := fun b u e => kp4 b u (ne_of_none e hpd) (sm3 b u (sm2 b u e))
            have dw4 := dw.mono tu4
            refine ⟨_, rfl, wl, rfl, ⟨_, SqL.of hw4⟩, fun D2 hD2 => ?_⟩
            refine comp_by (n := ws.length) (fun i ys H5 => H5 D2 = some (.lst ys) ∧ DpL H4 ((((leftOf f pl).take i).filter fun r => decide (¬ r.1 ∈ pl ++ readyOf f pl)).map rowT) ys ∧ Same H4 H5) ⟨upd_same, .nil, Same.new hD2⟩ ?_ ?_
            · rintro ys H5 ⟨hD5, dy, sm5⟩
              rw [List.take_of_length_le (by omega)] at dy
              refine ⟨⟨_, SqL.of (sm5 wl _ hw4), Nat.le_refl _⟩, ?_⟩
              have el : (leftOf f pl).filter (fun r => decide (¬ r.1 ∈ pl ++ readyOf f pl)) = leftOf f (pl ++ readyOf f pl) := by
                unfold leftOf
                rw [List.filter_filter]
                apply List.filter_congr
                intro r _
                by_cases h1 : r.1 ∈ pl
                · simp [h1]
                · simp [h1]
              rw [el] at dy
              have hle : (leftOf f (pl ++ readyOf f pl)).length ≤ (leftOf f pl).length := by rw [← el]; exact List.length_filter_le _ _
              have hmm : 2 * (leftOf f (pl ++ readyOf f pl)).length + (if ((readyOf f pl).map V.str).isEmpty = true then 0 else 1) < 2 * (leftOf f pl).length + 1 := by
                cases hrd : readyOf f pl with
                | nil =>
                  rw [hrd] at hle
                  simp
                | cons x0 xr =>
                  have : (leftOf f (pl ++ readyOf f pl)).length < (leftOf f pl).length := by
                    rw [← el]
                    have hx0 : x0 ∈ readyOf f pl := by rw [hrd]; exact List.mem_cons_self
                    obtain ⟨r, hr', e⟩ := List.mem_map.mp hx0
                    have hrl := (List.mem_filter.mp hr').1
                    refine Nat.lt_of_le_of_ne (List.length_filter_le _ _) fun e2 => ?_
                    have := List.length_filter_eq_length_iff.mp e2 r hrl
                    have := of_decide_eq_true this
                    exact this (List.mem_append_right _ (by show r.1 ∈ _; rw [show r.1 = x0 from e]; exact hx0))
                  rw [hrd] at this
                  simp
                  omega
              refine ⟨_, hmm, pl ++ readyOf f pl, D2, D1, ys, (readyOf f pl).map V.str, _, rfl, sm5 pd _ hpd4, Tm, hD5, dy.mono (Same.tups sm5), sm5 D1 _ (kp4 D1 _ pdD.symm hD3), fun h => ?_, rfl, sm4.trans sm5⟩
              have hrd : readyOf f pl = [] := List.map_eq_nil_iff.mp h
              apply Classical.byContradiction
              intro hne
              obtain ⟨r, hr'⟩ := List.exists_mem_of_ne_nil _ hne
              obtain ⟨h1, h2⟩ := List.mem_filter.mp hr'
              have h2 := of_decide_eq_true h2
              have h2' : ¬ r.1 ∈ pl := fun z => h2 (List.mem_append_left _ z)
              obtain ⟨r', hr1, hr2', hr3⟩ := some_ready gf pl h1 h2'
              have : r'.1 ∈ readyOf f pl := List.mem_map.mpr ⟨r', List.mem_filter.mpr ⟨List.mem_filter.mpr ⟨hr1, decide_eq_true hr2'⟩, List.all_eq_true.mpr fun e he => decide_eq_true (hr3 e he)⟩, rfl⟩
              rw [hrd] at this
              cases this
            · rintro i ys H5 hi ⟨hD5, dy, sm5⟩
              have hif : i < (leftOf f pl).length := by omega
              obtain ⟨y, ey, dyy⟩ := dw4.get (i := i) (t := rowT (leftOf f pl)[i]) (by rw [List.getElem?_map, List.getElem?_eq_getElem hif]; rfl)
              obtain ⟨q, e, rfl, hq, he⟩ := K23.Dp.of_row dyy
              refine ⟨⟨_, _, SqL.of (sm5 wl _ hw4), ey⟩, ?_⟩
              rintro z H6 ⟨rfl, yy⟩ σo ho
              obtain ⟨oo, rfl⟩ := own1 ho
              have ez := yy _ (SqL.of (sm5 wl _ hw4))
              rw [ey] at ez
              cases ez
              have hyl : ys.length ≤ 7 := by
                rw [dy.length, List.length_map]
                refine Nat.le_trans (List.length_filter_le _ _) ?_
                rw [List.length_take]
                omega
              have efl : ((leftOf f pl).take (i + 1)).filter (fun r => decide (¬ r.1 ∈ pl ++ readyOf f pl)) = ((leftOf f pl).take i).filter (fun r => decide (¬ r.1 ∈ pl ++ readyOf f pl)) ++ (if decide (¬ ((leftOf f pl)[i]).1 ∈ pl ++ readyOf f pl) = true then [(leftOf f pl)[i]] else []) := by
                rw [take_snoc hif, List.filter_append]
                congr 1
                rw [List.filter_cons]
                rfl
              refine ⟨⟨[_], rfl, rfl⟩, _, rfl, q, _, _, _, rfl, rfl, SqT.of (sm5 q _ hq), rfl, _, rfl, pd, _, rfl, DGet.k (k := .inr ((leftOf f pl)[i]).1) (sm5 pd _ hpd4), _, rfl, ?_⟩
              cases hin : (valV (setD (pl ++ readyOf f pl)) (.inr ((leftOf f pl)[i]).1)).isSome with
              | true =>
                have hm := (setD_has _ _).mp hin
                refine iteF (less_by hi ⟨hD5, ?_, sm5⟩)
                rw [efl, if_neg (fun h => (of_decide_eq_true h) hm), List.append_nil]
                exact dy
              | false =>
                have hm : ¬ ((leftOf f pl)[i]).1 ∈ pl ++ readyOf f pl := fun h => by rw [(setD_has _ _).mpr h] at hin; cases hin
                refine iteT ⟨_, rfl, by omega, hD5, less_by hi ⟨upd_same, ?_, fun b u e' => ?_⟩⟩
                · rw [efl, if_pos (decide_eq_true hm), List.map_append]
                  exact dy.append (.cons dyy .nil)
                · rw [upd_ne (ne_of_none e' hD2)]
                  exact sm5 b _ e'
        · rintro i ys H3 hi ⟨rfl, hD3, sm3⟩
          have hif : i < (leftOf f pl).length := by omega
          obtain ⟨y, ey, dyy⟩ := (dw.mono (Same.tups sm3)).get (i := i) (t := rowT (leftOf f pl)[i]) (by rw [List.getElem?_map, List.getElem?_eq_getElem hif]; rfl)
          obtain ⟨q, e, rfl, hq, he⟩ := K23.Dp.of_row dyy
          refine ⟨⟨_, _, SqL.of (sm3 wl _ hw2), ey⟩, ?_⟩
          rintro z H4 ⟨rfl, yy⟩ σo ho
          obtain ⟨oo, oo', rfl⟩ := own2 ho
          have ez := yy _ (SqL.of (sm3 wl _ hw2))
          rw [ey] at ez
          cases ez
          have hyl : (((((leftOf f pl).take i).filter fun r => r.2.all fun e => decide (e ∈ pl)).map (·.1)).map V.str).length ≤ 7 := by
            rw [List.length_map, List.length_map]
            refine Nat.le_trans (List.length_filter_le _ _) ?_
            rw [List.length_take]
            omega
          have efl : ((leftOf f pl).take (i + 1)).filter (fun r => r.2.all fun e => decide (e ∈ pl)) = ((leftOf f pl).take i).filter (fun r => r.2.all fun e => decide (e ∈ pl)) ++ (if (((leftOf f pl)[i]).2.all fun e => decide (e ∈ pl)) = true then [(leftOf f pl)[i]] else []) := by
            rw [take_snoc hif, List.filter_append]
            congr 1
            rw [List.filter_cons]
            rfl
          refine ⟨q, _, rfl, SqT.of hq, rfl, _, _, rfl, _, _, rfl, rfl, ⟨[_, _], rfl, rfl⟩, _, rfl, e, rfl, ⟨_, SqT.of he⟩, fun D3 hD3' => ?_⟩
          have s5 : ∀ o, Same H4 (upd H4 D3 o) := fun o => Same.new hD3'
          have el7 := gf.el _ (List.mem_filter.mp (List.getElem_mem hif)).1
          refine comp_by (n := (((leftOf f pl)[i]).2.map V.str).length) (fun j bs H5 => bs = ((((leftOf f pl)[i]).2.take j).map fun e => decide (e ∈ pl)).map V.bl ∧ H5 = upd H4 D3 (.lst bs)) ⟨rfl, rfl⟩ ?_ ?_
          · rintro bs H5 ⟨rfl, rfl⟩
            rw [List.take_of_length_le (by rw [List.length_map]; exact Nat.le_refl _)]
            refine ⟨⟨_, SqT.of (s5 _ e _ he), Nat.le_refl _⟩, D3, _, rfl, SqL.of upd_same, _, rfl, ?_⟩
            have eall : ((((leftOf f pl)[i]).2.map fun e => decide (e ∈ pl)).all id) = ((leftOf f pl)[i]).2.all fun e => decide (e ∈ pl) := by
              rw [List.all_map]
              rfl
            rw [eall]
            cases hall : (((leftOf f pl)[i]).2.all fun e => decide (e ∈ pl)) with
            | true =>
              refine iteT ⟨_, rfl, by omega, s5 _ D1 _ hD3, less_by hi ⟨?_, upd_same, fun b u e' => ?_⟩⟩
              · rw [efl, hall, if_pos rfl, List.map_append, List.map_append]
                rfl
              · rw [upd_ne (ne_of_none e' hD1)]
                exact s5 _ b _ (sm3 b _ e')
            | false =>
              refine iteF (less_by hi ⟨?_, s5 _ D1 _ hD3, sm3.trans (s5 _)⟩)
              rw [efl, hall, if_neg Bool.false_ne_true, List.append_nil]
          · rintro j bs H5 hj ⟨rfl, rfl⟩
            have hj' : j < ((leftOf f pl)[i]).2.length := by rw [List.length_map] at hj; exact hj
            have ej : (((leftOf f pl)[i]).2.map V.str)[j]? = some (.str ((leftOf f pl)[i]).2[j]) := by rw [List.getElem?_map, List.getElem?_eq_getElem hj']; rfl
            refine ⟨⟨_, _, SqT.of (s5 _ e _ he), ej⟩, ?_⟩
            rintro y5 H6 ⟨rfl, yy⟩ σo5 ho5
            obtain ⟨o5, rfl⟩ := own1 ho5
            have ey5 := yy _ (SqT.of (s5 _ e _ he))
            rw [ej] at ey5
            cases ey5
            refine ⟨⟨[_], rfl, rfl⟩, yes_by ⟨_, rfl, _, rfl, pd, _, rfl, DGet.k (k := .inr ((leftOf f pl)[i]).2[j]) (s5 _ pd _ (sm3 pd _ hpd2)), by rw [List.length_map, List.length_map, List.length_take]; omega, upd_same, less_by hj ⟨?_, by rw [upd_upd]⟩⟩⟩
            rw [take_snoc hj', List.map_append, List.map_append]
            congr 1
            show [V.bl (valV (setD pl) (.inr ((leftOf f pl)[i]).2[j])).isSome] = [V.bl (decide (((leftOf f pl)[i]).2[j] ∈ pl))]
            congr 2
            apply Bool.eq_iff_iff.mpr
            rw [setD_has, decide_eq_true_iff]
end
end K23
end
section
set_option autoImplicit false
namespace K23
open PySem PyProof.Rows L2
theorem Mg.some_sub {rows : List (List Str)} {r : Option (List Str)} (h : Mg rows r) : ∀ os, r = some os → (∀ y ∈ os, ∃ q ∈ rows, y ∈ q) ∧ os.Nodup := by
  induction h with
  | nil =>
    intro os e
    cases e
    exact ⟨by simp, List.nodup_nil⟩
  | stuck _ _ =>
    intro os e
    cases e
  | @step rows x more r hf _ ih =>
    intro os e
    cases r with
    | none => cases e
    | some os' =>
      cases e
      obtain ⟨h1, h2⟩ := ih os' rfl
      have back : ∀ y ∈ os', y ≠ x ∧ ∃ q ∈ rows, y ∈ q := fun y hy => by
        obtain ⟨q, hq, hyq⟩ := h1 y hy
        obtain ⟨hq1, _⟩ := List.mem_filter.mp hq
        obtain ⟨q0, hq0, rfl⟩ := List.mem_map.mp hq1
        obtain ⟨a, b⟩ := List.mem_filter.mp hyq
        exact ⟨of_decide_eq_true b, q0, hq0, a⟩
      refine ⟨fun y hy => ?_, List.nodup_cons.mpr ⟨fun h => (back x h).1 rfl, h2⟩⟩
      rcases List.mem_cons.mp hy with rfl | h
      · obtain ⟨q, hq, hh⟩ := frees_mem (by rw [hf]; exact List.mem_cons_self)
        refine ⟨q, hq, ?_⟩
        cases q with
        | nil => cases hh
        | cons z q =>
          cases hh
          exact List.mem_cons_self
      · exact (back y h).2
theorem ord_names {f : Fam} (G : GoodF f) : ∀ x ∈ nms f, ∀ o, ordF f x = some o → o ≠ [] ∧ (∀ y ∈ o, y ∈ nms f) ∧ o.length ≤ 8 := by
  obtain ⟨top, t0, t1, t2⟩ := G.topo
  have key : ∀ (j : Nat) (x : Str), top[j]? = some x → ∀ o, ordF f x = some o → o ≠ [] ∧ (∀ y ∈ o, y ∈ nms f) ∧ o.length ≤ 8 := by
    intro j
    induction j using Nat.strongRecOn with
    | ind j ih =>
      intro x hx o ho
      have hxn : x ∈ nms f := (t1 x).mp (List.mem_of_getElem? hx)
      obtain ⟨r, hr, rfl⟩ := List.mem_map.mp hxn
      rw [ord_eq G hr] at ho
      split at ho
      · rename_i hall
        obtain ⟨j', h1, h2⟩ := t2 r hr
        have ej := ix_uniq t0 hx h1
        subst ej
        cases hm : mergeR (full (rowsBy (ordF f) r.2)) with
        | none => rw [hm] at ho; cases ho
        | some os =>
          rw [hm] at ho
          cases ho
          have hM : ∃ q, Mg (full (rowsBy (ordF f) r.2)) q := by
            apply Classical.byContradiction
            intro hn
            unfold mergeR at hm
            rw [dif_neg hn] at hm
            cases hm
          obtain ⟨q, hq⟩ := hM
          have eq := mergeR_eq hq
          rw [hm] at eq
          subst eq
          obtain ⟨h3, h4⟩ := Mg.some_sub hq os rfl
          have sub : ∀ y ∈ os, y ∈ nms f := fun y hy => by
            obtain ⟨q, hq', hyq⟩ := h3 y hy
            have hq' := (List.mem_filter.mp hq').1
            unfold rowsBy at hq'
            rcases List.mem_append.mp hq' with h | h
            · obtain ⟨e, he, rfl⟩ := List.mem_map.mp h
              obtain ⟨i, hi, ei⟩ := mem_take_ix (h2 e he)
              have hs := List.all_eq_true.mp hall e he
              obtain ⟨oe, hoe⟩ := Option.isSome_iff_exists.mp hs
              rw [hoe] at hyq
              exact (ih i hi e ei oe hoe).2.1 y hyq
            · rw [List.mem_singleton.mp h] at hyq
              exact G.sub r hr y hyq
          refine ⟨List.cons_ne_nil _ _, fun y hy => ?_, ?_⟩
          · rcases List.mem_cons.mp hy with rfl | h
            · exact hxn
            · exact sub y h
          · have h5 := nodup_le h4 (m := nms f) sub
            have h6 : (nms f).length = f.length := List.length_map _
            have := G.len
            rw [List.length_cons]
            omega
      · cases ho
  intro x hx
  obtain ⟨j, hj, e⟩ := List.getElem_of_mem ((t1 x).mpr hx)
  exact key j x (by rw [List.getElem?_eq_getElem hj, e])
def EldAt (H : Hp) (kvs : List (Key × V)) (f : Fam) : Prop := Paired (fun (kv : Key × V) (r : Str × List Str) => kv.1 = .inr r.1 ∧ ∃ e, kv.2 = .ref e ∧ H e = some (.tup (r.2.map V.str))) kvs f
theorem EldAt.keys {H : Hp} {kvs : List (Key × V)} {f : Fam} (h : EldAt H kvs f) : kvs.map (·.1) = (nms f).map Sum.inr := by
  induction h with
  | nil => rfl
  | cons r _ ih => exact congr (congrArg List.cons r.1) ih
theorem EldAt.get {H : Hp} : ∀ {kvs : List (Key × V)} {f : Fam}, EldAt H kvs f → (nms f).Nodup → ∀ r ∈ f, ∃ e, valV kvs (.inr r.1) = some (.ref e) ∧ H e = some (.tup (r.2.map V.str))
  | _, _, .nil, _, r, hr => nomatch hr
  | (k, v) :: kvs, r0 :: f, .cons q t, nd, r, hr => by
    have nd' : (r0.1 :: nms f).Nodup := nd
    obtain ⟨n1, n2⟩ := List.nodup_cons.mp nd'
    obtain ⟨e1, e, e2, e3⟩ := q
    rcases List.mem_cons.mp hr with rfl | h
    · exact ⟨e, by rw [valV_pos (p := (k, v)) e1]; exact congrArg some e2, e3⟩
    · obtain ⟨e', h1, h2⟩ := EldAt.get t n2 r h
      refine ⟨e', ?_, h2⟩
      rw [valV_neg (p := (k, v)), h1]
      intro z
      have z : k = Sum.inr r.1 := z
      have e1 : k = Sum.inr r0.1 := e1
      rw [e1] at z
      injection z with z
      exact n1 (z ▸ List.mem_map.mpr ⟨r, h, rfl⟩)
theorem mergeK_nd : ∀ (more acc : List (Key × V)), ((acc ++ more).map (·.1)).Nodup → mergeK acc more = acc ++ more
  | [], acc, _ => by rw [List.append_nil]; rfl
  | (k, v) :: more, acc, nd => by
    have hn : valV acc k = none := by
      cases q : valV acc k with
      | none => rfl
      | some y =>
        exfalso
        have h1 : (valV acc k).isSome = true := by rw [q]; rfl
        rw [valV_key] at h1
        have h2 := h1
        rw [List.map_append, List.map_cons] at nd
        exact (List.nodup_append.mp nd).2.2 k h2 k List.mem_cons_self rfl
    show mergeK (putK acc k v) more = _
    rw [putK_new v hn, mergeK_nd more (acc ++ [(k, v)]) (by rw [List.append_assoc]; exact nd), List.append_assoc]
    rfl
theorem fam_pairs {H : Hp} {f : Fam} {xs : List V} (dl : DpL H (f.map rowT) xs) : ∃ kvs, PairsAt H xs kvs ∧ EldAt H kvs f := by
  induction f generalizing xs with
  | nil =>
    rw [dl.of_nil]
    exact ⟨[], ⟨rfl, fun i kv h => by simp at h⟩, .nil⟩
  | cons r f ih =>
    obtain ⟨x, rest, rfl, d, dl'⟩ := dl.cases
    obtain ⟨kvs, h1, h2⟩ := ih dl'
    obtain ⟨q, e, rfl, hq, he⟩ := K23.Dp.of_row d
    refine ⟨(.inr r.1, .ref e) :: kvs, ⟨by rw [List.length_cons, List.length_cons, h1.1], fun i kv h => ?_⟩, .cons ⟨rfl, e, rfl, he⟩ h2⟩
    cases i with
    | zero =>
      cases h
      exact ⟨q, rfl, hq⟩
    | succ i => exact h1.2 i kv h
theorem EldAt.len {H : Hp} {kvs : List (Key × V)} {f : Fam} (h : EldAt H kvs f) : kvs.length = f.length := Paired.length h
theorem EldAt.merge {H : Hp} {kvs : List (Key × V)} {f : Fam} (h : EldAt H kvs f) (nd : (nms f).Nodup) : mergeK [] kvs = kvs := by
  refine mergeK_nd kvs [] ?_
  rw [List.nil_append, h.keys]
  exact nodup_map (fun a _ b _ e => by injection e) nd
end K23
end
section
set_option autoImplicit false
namespace K23
open PySem PyProof.Rows L2
theorem tot_rowsBy {f : Fam} (G : GoodF f) {r : Str × List Str} (hr : r ∈ f) (hall : ∀ x ∈ r.2, (ordF f x).isSome = true) : tot (rowsBy (ordF f) r.2) ≤ 100 ∧ (rowsBy (ordF f) r.2).length ≤ 8 ∧ ((∀ q ∈ rowsBy (ordF f) r.2, q ≠ []) ∨ ∀ q ∈ rowsBy (ordF f) r.2, q = []) := by
  have e7 := G.el r hr
  have ord : ∀ x ∈ r.2, ∃ o, ordF f x = some o ∧ o ≠ [] ∧ o.length ≤ 8 := fun x hx => by
    obtain ⟨o, ho⟩ := Option.isSome_iff_exists.mp (hall x hx)
    obtain ⟨h1, _, h3⟩ := ord_names G x (G.sub r hr x hx) o ho
    exact ⟨o, ho, h1, h3⟩
  have tl : ∀ es : List Str, (∀ x ∈ es, x ∈ r.2) → tot (es.map fun e => (ordF f e).getD []) ≤ 8 * es.length := by
    intro es
    induction es with
    | nil => exact fun _ => Nat.le_refl _
    | cons x es ih =>
      intro h
      rw [List.map_cons, tot_cons, List.length_cons]
      obtain ⟨o, ho, _, h3⟩ := ord x (h x List.mem_cons_self)
      have := ih fun y hy => h y (List.mem_cons_of_mem _ hy)
      have : ((ordF f x).getD []).length ≤ 8 := by rw [ho]; exact h3
      omega
  have ta : tot (rowsBy (ordF f) r.2) = tot (r.2.map fun e => (ordF f e).getD []) + r.2.length := by
    unfold rowsBy tot
    rw [List.map_append, List.sum_append]
    simp
  refine ⟨?_, ?_, ?_⟩
  · rw [ta]
    have := tl r.2 fun _ h => h
    omega
  · unfold rowsBy
    rw [List.length_append, List.length_map, List.length_singleton]
    omega
  · cases hes : r.2 with
    | nil =>
      right
      intro q hq
      exact List.mem_singleton.mp hq
    | cons x0 xr =>
      left
      intro q hq
      rw [← hes] at hq
      rcases List.mem_append.mp hq with h | h
      · obtain ⟨x, hx, rfl⟩ := List.mem_map.mp h
        obtain ⟨o, ho, h1, _⟩ := ord x hx
        rw [ho]
        exact h1
      · rw [List.mem_singleton.mp h, hes]
        exact List.cons_ne_nil _ _
theorem TellM.f {H : Hp} {f : Fam} (G : GoodF f) {r : Str × List Str} (hr : r ∈ f) (hall : ∀ x ∈ r.2, (ordF f x).isSome = true) {q : Addr} {m : Option (List Str)} (hm : Mg (full (rowsBy (ordF f) r.2)) m) (h : TellM H r.1 m q) : TellF H f r.1 q := by
  have e := ord_eq G hr
  rw [if_pos (List.all_eq_true.mpr hall), mergeR_eq hm] at e
  cases m with
  | none =>
    obtain ⟨a, rg, h⟩ := h
    exact .inr ⟨e, a, rg, h⟩
  | some os =>
    obtain ⟨qo, h1, h2⟩ := h
    exact .inl ⟨r.1 :: os, qo, e, h1, h2⟩
section
variable {P : Program} {w : World} {K : PySem.W.Frag} {mg : Str → Option Value} {base : Heap} {t : Adr}
def spTell : Sp := fun vs H Q _ => ∃ (v : V) (f : Fam), vs = [v] ∧ Dp H (famT f) v ∧ GoodF f ∧ ∀ (d : Addr) (kvs : List (Key × V)) H', H d = none → H' d = some (.dK kvs) → ToldAt H' kvs f (· ∈ nms f) → Same H H' → Q (.ref d) H'
theorem ok_tell (D : Defs K mg t) : FnOk P w K mg base CX0 4 t.tell_orders.1 t.tell_orders.2 ["family"] spTell := by
  have G_elders_first : FnOk P w K mg base CX0 1 t.elders_first.1 t.elders_first.2 _ spElders := ok_elders D
  have G_quarrel_among : FnOk P w K mg base CX0 1 t.quarrel_among.1 t.quarrel_among.2 _ spQuarrel := ok_quarrel D
  have G_rows_by : FnOk P w K mg base CX0 1 t.rows_by.1 t.rows_by.2 _ spRowsBy := ok_rowsBy D
  have G_merge_rows : FnOk P w K mg base CX0 3 t.merge_rows.1 t.merge_rows.2 _ spMRows := ok_mrows D
  have hz : sizeLine = 16777216 := sizeLine_eq
  refine D.tell_orders.fn.ok sc_tell_orders (fun vs H Q E h => ?_) (fun cdv A outer s H vs Q E hr h => ?_)
  · obtain ⟨v, f, rfl, _⟩ := h
    rfl
  · obtain ⟨v, f, rfl, dv, gf, k⟩ := h
    obtain ⟨a, xs, rfl, ha, dl⟩ := L2.Dp.of_tup dv
    obtain ⟨kvs0, hpr, el⟩ := fam_pairs dl
    have hkl : kvs0.length = f.length := el.len
    have f7 := gf.len
    refine ⟨_, (pss_cons (ps_set (i := 1) sc_tell_orders.nd rfl (Or.inl rfl) (pe_callTy (call_dictP rfl) (by rfl) D.b_dict bt_dict (pa_cons (pv 0) pa_nil)))
      (pss_cons (ps_set (i := 2) sc_tell_orders.nd rfl (Or.inl rfl) pe_dnewK)
      (pss_cons (ps_for PassesOwn.never rfl (pi_tup (pe_callF D.elders_first G_elders_first (hr.mono (by omega)) (by rfl) (pa_cons (pv 0) pa_nil))) (pg_name (i := 3) sc_tell_orders.nd rfl (Or.inl rfl))
      (pss_cons (ps_set (i := 4) sc_tell_orders.nd rfl (Or.inl rfl) (pe_callF D.quarrel_among G_quarrel_among (hr.mono (by omega)) (by rfl) (pa_cons (pe_dget (hu_of hr) (pv 1) (pv 3) (fun _ _ => rfl)) (pa_cons (pv 2) pa_nil))))
      (pss_one (ps_if (pt_cmpR op_isN (pv 4) pe_non (nomark _))
      (pss_one (ps_dput (hu_of hr) (pv 2) (pv 3) (pe_callF D.merge_rows G_merge_rows (hr.mono (by omega)) (by rfl) (pa_cons (pv 3) (pa_cons (pe_callF D.rows_by G_rows_by (hr.mono (by omega)) (by rfl) (pa_cons (pe_dget (hu_of hr) (pv 1) (pv 3) (fun _ _ => rfl)) (pa_cons (pv 2) pa_nil))) pa_nil))) rfl))
      (pss_one (ps_dput (hu_of hr) (pv 2) (pv 3) (pv 4) rfl))))))
      (pss_one (ps_ret (pv 2)))))), ?_⟩
    refine ⟨_, rfl, a, xs, kvs0, rfl, ha, hpr, by omega, fun d hd => ?_⟩
    rw [el.merge gf.nd]
    have s1 : Same H (upd H d (.dK kvs0)) := Same.new hd
    have hd1 : (upd H d (.dK kvs0)) d = some (.dK kvs0) := upd_same
    generalize upd H d (.dK kvs0) = H1 at s1 hd1
    intro td htd
    have s2 : Same H1 (upd H1 td (.dK [])) := Same.new htd
    have htd2 : (upd H1 td (.dK [])) td = some (.dK []) := upd_same
    have htdH : H td = none := by
      cases q : H td with
      | none => rfl
      | some o =>
        rw [s1 td o q] at htd
        cases htd
    have dtd : d ≠ td := ne_of_none hd1 htd
    have htd1 := htd
    generalize upd H1 td (.dK []) = H2 at s2 htd2
    refine ⟨_, rfl, .ref a, f, rfl, dv.mono (Same.tups (s1.trans s2)), gf, fun q pl H3 hq T allp s3 => ⟨q, rfl, ⟨_, SqT.of hq⟩, ?_⟩⟩
    have hd3 := s3 d _ (s2 d _ hd1)
    have htd3 := s3 td _ htd2
    have qtd : q ≠ td := ne_of hq htd3 (fun z => nomatch z)
    have sm3 : Same H H3 := (s1.trans s2).trans s3
    refine for_tup (K := K) (a := q) (xs := pl.map V.str) (fun i σ H4 => ∃ (kvs : List (Key × V)) (v3 v4 : Option V), σ = [some (.ref a), some (.ref d), some (.ref td), v3, v4] ∧ H4 td = some (.dK kvs) ∧ kvs.length ≤ i ∧ ToldAt H4 kvs f (· ∈ pl.take i) ∧ ∀ b u, b ≠ td → H3 b = some u → H4 b = some u)
      ⟨[], _, _, rfl, htd3, Nat.le_refl _, by intro x hx; simp at hx, fun b u _ e => e⟩ (fun i σ H4 _ ⟨_, _, _, _, _, _, _, kp⟩ => SqT.of (kp q _ qtd hq)) ?_ ?_
    · rintro i x σ H4 hi ⟨kvs, v3, v4, rfl, htd4, kl, told, kp4⟩
      have hil : i < pl.length := by
        have := (List.getElem?_eq_some_iff.mp hi).1
        rwa [List.length_map] at this
      have ex : x = .str pl[i] := by
        rw [List.getElem?_map, List.getElem?_eq_getElem hil] at hi
        exact (Option.some.inj hi).symm
      subst ex
      obtain ⟨r, hr', er⟩ := List.mem_map.mp (T.sub _ (List.getElem_mem hil))
      have er : r.1 = pl[i] := er
      rw [← er]
      have hesub : ∀ e ∈ r.2, e ∈ pl.take i := T.el i r hr' (by rw [List.getElem?_eq_getElem hil, er])
      have sm4 : Same H H4 := fun b u e => kp4 b u (ne_of_none e htdH) (sm3 b u e)
      have hd4 := kp4 d _ dtd hd3
      obtain ⟨e, he1, he2⟩ := el.get gf.nd r hr'
      have he4 := sm4 e _ he2
      have gd : ∀ {H5 : Hp}, H5 d = some (.dK kvs0) → DGet H5 d (.str r.1) (some (.ref e)) := fun {H5} h => .inl ⟨kvs0, .inr r.1, .inl h, rfl, he1.symm⟩
      have plx : pl.length ≤ 7 := by
        have h1 := nodup_le T.nd (m := nms f) T.sub
        have h2 : (nms f).length = f.length := List.length_map _
        omega
      have toldE : ToldAt H4 kvs f (· ∈ r.2) := fun y hy => told y (hesub y hy)
      have store : ∀ (q5 : Addr) (H5 : Hp) (v4 : Option V), Same H4 H5 → TellF H5 f r.1 q5 → ∃ (kvs' : List (Key × V)) (v3' v4' : Option V), ([some (.ref a), some (.ref d), some (.ref td), some (.str r.1), v4] : L2.St) = [some (.ref a), some (.ref d), some (.ref td), v3', v4'] ∧ (upd H5 td (.dK (putK kvs (.inr r.1) (.ref q5)))) td = some (.dK kvs') ∧ kvs'.length ≤ i + 1 ∧ ToldAt (upd H5 td (.dK (putK kvs (.inr r.1) (.ref q5)))) kvs' f (· ∈ pl.take (i + 1)) ∧ ∀ b u, b ≠ td → H3 b = some u → (upd H5 td (.dK (putK kvs (.inr r.1) (.ref q5)))) b = some u := fun q5 H5 v4 s5 ht => by
        have tu : Tups H5 (upd H5 td (.dK (putK kvs (.inr r.1) (.ref q5)))) := fun c zs e' => by
          rw [upd_ne (ne_of e' (s5 td _ htd4) (fun z => nomatch z))]
          exact e'
        refine ⟨_, _, _, rfl, upd_same, ?_, fun y hy => ?_, fun b u hb e' => by rw [upd_ne hb]; exact s5 b _ (kp4 b u hb e')⟩
        · have := length_putK kvs (.inr r.1) (.ref q5)
          omega
        · rw [valV_put]
          by_cases hyr : y = r.1
          · subst hyr
            exact ⟨q5, if_pos rfl, ht.mono tu⟩
          · rw [take_snoc hil] at hy
            rcases List.mem_append.mp hy with h | h
            · obtain ⟨q6, h1, h2⟩ := told y h
              exact ⟨q6, by rw [if_neg (by intro z; injection z with z; exact hyr z)]; exact h1, (h2.mono (Same.tups s5)).mono tu⟩
            · exact absurd ((List.mem_singleton.mp h).trans er.symm) hyr
      refine ⟨_, rfl, _, rfl, d, .ref e, rfl, gd hd4, _, rfl, e, td, r.2, kvs, f, rfl, he4, .inl htd4, toldE, fun hall => ?_, fun hnot q5 a5 rg5 hq5 => ?_⟩
      · refine ⟨_, rfl, rfl, _, rfl, itePos (decide_eq_true rfl) ?_⟩
        obtain ⟨t1, t2, t3⟩ := tot_rowsBy gf hr' hall
        refine ⟨_, rfl, _, rfl, _, rfl, d, .ref e, rfl, gd hd4, _, rfl, e, td, r.2, kvs, f, rfl, he4, .inl htd4, toldE, hall, by have := gf.el r hr'; omega, fun q5 us5 H5 hq5 rt5 s5 => ?_⟩
        refine ⟨r.1, q5, us5, rowsBy (ordF f) r.2, rfl, hq5, rt5, t3, by omega, by omega, fun q6 m H6 hm ht s6 => ?_⟩
        refine ⟨_, rfl, _, rfl, td, _, rfl, DPut.k (k := .inr r.1) ((s5.trans s6) td _ htd4) (by omega), ?_⟩
        exact store q6 H6 _ (s5.trans s6) (ht.f gf hr' hall hm)
      · refine ⟨_, rfl, rfl, _, rfl, iteNeg (by rw [decide_eq_false (by intro z; cases z)]; exact Bool.false_ne_true) ?_⟩
        refine ⟨_, rfl, _, rfl, _, rfl, td, _, rfl, DPut.k (k := .inr r.1) htd4 (by omega), ?_⟩
        refine store q5 H4 _ (Same.refl H4) (.inr ⟨?_, a5, rg5, hq5⟩)
        rw [ord_eq gf hr', if_neg (fun h => hnot (List.all_eq_true.mp h))]
    · rintro σ H4 ⟨kvs, v3, v4, rfl, htd4, kl, told, kp4⟩
      rw [List.length_map, List.take_of_length_le (Nat.le_refl _)] at told
      exact ⟨_, rfl, k td kvs H4 htdH htd4 (fun x hx => told x (allp x hx)) fun b u e => kp4 b u (ne_of_none e htdH) (sm3 b u e)⟩
end
end K23
end
section
set_option autoImplicit false
namespace K23
open PySem PyProof.Rows L2
def Lz : Nat → T → Prop
  | _, .non => False
  | _, .int _ => True
  | _, .str _ => True
  | 0, .tup _ => False
  | n + 1, .tup ts => ts.length ≤ 10000 ∧ ∀ t ∈ ts, Lz n t
theorem kit_it (K : PySem.W.Frag) : PySem.W.kitOne K (.type "int") (.type "tuple") = some false := by rfl
theorem kit_is (K : PySem.W.Frag) : PySem.W.kitOne K (.type "int") (.type "str") = some false := by rfl
theorem kit_ib (K : PySem.W.Frag) : PySem.W.kitOne K (.type "int") (.type "bool") = some false := by rfl
theorem kit_st (K : PySem.W.Frag) : PySem.W.kitOne K (.type "str") (.type "tuple") = some false := by rfl
section
variable {P : Program} {w : World} {K : PySem.W.Frag} {mg : Str → Option Value} {base : Heap} {t : Adr}
def spSame (n : Nat) : Sp := fun vs H Q _ => ∃ (v1 v2 : V) (T0 : T), vs = [v1, v2] ∧ Dp H T0 v1 ∧ Dp H T0 v2 ∧ Lz n T0 ∧ ∀ H', Same H H' → Q (.bl true) H'
theorem same_step (D : Defs K mg t) {n k : Nat} {sp' : Sp} (G__law_same : FnOk P w K mg base CX0 k t._law_same.1 t._law_same.2 ["_law_told", "_law_due_here"] sp')
    (hsp : ∀ (m : Nat) (v1 v2 : V) (T0 : T) (H : Hp) (Q : VK) (E : XK), n = m + 1 → Lz m T0 → Dp H T0 v1 → Dp H T0 v2 → (∀ H', Same H H' → Q (.bl true) H') → sp' [v1, v2] H Q E) : FnOk P w K mg base CX0 (k + 1) t._law_same.1 t._law_same.2 ["_law_told", "_law_due_here"] (spSame n) := by
  have hz : sizeLine = 16777216 := sizeLine_eq
  refine D._law_same.fn.ok sc__law_same (fun vs H Q E h => ?_) (fun cdv A outer s H vs Q E hr h => ?_)
  · obtain ⟨v1, v2, T0, rfl, _⟩ := h
    rfl
  · obtain ⟨v1, v2, T0, rfl, d1, d2, lv, q⟩ := h
    refine ⟨_, (pss_cons (ps_if (pt_val (pe_callB call_isinst (by rfl) D.b_isinstance bt_isinstance (pa_cons (pv 1) (pa_cons (pe_bltn (v := V.ty "tuple") rfl D.b_tuple bt_tuple rfl) pa_nil))))
      (pss_cons (ps_if (PW.pt (pw_or (pt_not (pt_val (pe_callB call_isinst (by rfl) D.b_isinstance bt_isinstance (pa_cons (pv 0) (pa_cons (pe_bltn (v := V.ty "tuple") rfl D.b_tuple bt_tuple rfl) pa_nil))))) (pw_or1 (pt_cmpR op_ne (pe_callB call_len_seq (by rfl) D.b_len bt_len (pa_cons (pv 0) pa_nil)) (pe_callB call_len_seq (by rfl) D.b_len bt_len (pa_cons (pv 1) pa_nil)) (nomark _)))))
      (pss_one (ps_ret pe_bl))
      pss_nil)
      (pss_one (ps_ret (pe_callB (call_all rfl) (by rfl) D.b_all bt_all (pa_cons (pe_comp rfl (CompScope.of ["_law_k"] [0, 1] ["_law_k", "_law_told", "_law_due_here"] (defScope (top 27)) ["_law_told", "_law_due_here"] rfl rfl (by decide +kernel)) ⟨fun _ _ _ _ _ => (pg_name (i := 0) (show List.Nodup [("_law_k" : Str), ("_law_told" : Str), ("_law_due_here" : Str)] by decide +kernel) rfl (Or.inl (lookup_relabel_local rfl)) (.inr (lookup_relabel_local rfl))), fun _ _ _ _ _ => pts_nil, fun _ _ _ _ _ => (pe_callF D._law_same G__law_same (hr.mono (by omega)) (by rfl) (pa_cons (pe_ix (ix_tup_K (K := K) rfl) (pv 1) (pv 0) (fun _ _ => rfl)) (pa_cons (pe_ix (ix_tup_K (K := K) rfl) (pv 2) (pv 0) (fun _ _ => rfl)) pa_nil)))⟩ (pi_range1 rfl D.b_range (pa_cons (pe_callB call_len_seq (by rfl) D.b_len bt_len (pa_cons (pv 1) pa_nil)) pa_nil))) pa_nil)))))
      pss_nil)
      (pss_cons (ps_if (pt_val (pe_callB call_isinst (by rfl) D.b_isinstance bt_isinstance (pa_cons (pv 1) (pa_cons (pe_bltn (v := V.ty "str") rfl D.b_str bt_str rfl) pa_nil))))
      (pss_one (ps_ret (pe_and (pe_callB call_isinst (by rfl) D.b_isinstance bt_isinstance (pa_cons (pv 0) (pa_cons (pe_bltn (v := V.ty "str") rfl D.b_str bt_str rfl) pa_nil))) (pe_one (pe_cmpR op_eq (pv 0) (pv 1) (nomark _))))))
      pss_nil)
      (pss_one (ps_ret (pe_and (pe_callB call_isinst (by rfl) D.b_isinstance bt_isinstance (pa_cons (pv 0) (pa_cons (pe_bltn (v := V.ty "int") rfl D.b_int bt_int rfl) pa_nil))) (pe_and (pe_not (pe_callB call_isinst (by rfl) D.b_isinstance bt_isinstance (pa_cons (pv 0) (pa_cons (pe_bltn (v := V.ty "bool") rfl D.b_bool bt_bool rfl) pa_nil)))) (pe_one (pe_cmpR op_eq (pv 0) (pv 1) (nomark _))))))))), ?_⟩
    cases T0 with
    | non => exact (by cases n <;> exact lv.elim)
    | int i =>
      rw [Dp] at d1 d2
      subst d1 d2
      refine ⟨_, rfl, _, _, _, false, rfl, .int i, kit_it K, _, rfl, iteF ?_⟩
      refine ⟨_, rfl, _, _, _, false, rfl, .int i, kit_is K, _, rfl, iteF ?_⟩
      refine ⟨_, rfl, _, _, _, true, rfl, .int i, kit_same K "int", _, rfl, iteT ?_⟩
      refine ⟨_, rfl, _, _, _, false, rfl, .int i, kit_ib K, ?_⟩
      refine ⟨_, rfl, _, rfl, iteT ⟨_, rfl, _, rfl, rfl, ?_⟩⟩
      rw [decide_eq_true rfl]
      exact q H (Same.refl H)
    | str i =>
      rw [Dp] at d1 d2
      subst d1 d2
      refine ⟨_, rfl, _, _, _, false, rfl, .str i, kit_st K, _, rfl, iteF ?_⟩
      refine ⟨_, rfl, _, _, _, true, rfl, .str i, kit_same K "str", _, rfl, iteT ?_⟩
      refine ⟨_, rfl, _, _, _, true, rfl, .str i, kit_same K "str", _, rfl, iteT ?_⟩
      refine ⟨_, rfl, _, rfl, rfl, ?_⟩
      rw [decide_eq_true rfl]
      exact q H (Same.refl H)
    | tup ts =>
      obtain ⟨a, xs, rfl, ha, dl⟩ := d1.of_tup
      obtain ⟨b, ys, rfl, hb, el⟩ := d2.of_tup
      obtain ⟨m, rfl⟩ : ∃ m, n = m + 1 := by
        cases n with
        | zero => exact (show False from lv).elim
        | succ m => exact ⟨m, rfl⟩
      obtain ⟨lvs, lv⟩ : ts.length ≤ 10000 ∧ ∀ t ∈ ts, Lz m t := lv
      have l1 := dl.length
      have l2 := el.length
      refine ⟨_, rfl, _, _, _, true, rfl, .tup hb, kit_same K "tuple", _, rfl, iteT ?_⟩
      refine ⟨_, rfl, _, _, _, true, rfl, .tup ha, kit_same K "tuple", _, rfl, iteF ?_⟩
      refine ⟨_, rfl, a, xs, rfl, .inr (SqT.of ha), _, rfl, b, ys, rfl, .inr (SqT.of hb), rfl, _, rfl, iteNeg (by rw [l1, l2, decide_eq_true rfl]; exact Bool.false_ne_true) ?_⟩
      refine ⟨_, rfl, b, ys, rfl, .inr (SqT.of hb), _, rfl, by omega, by omega, fun D1 hD1 => ?_⟩
      refine comp_by (n := ts.length) (fun i zs H2 => zs = List.replicate i (V.bl true) ∧ H2 D1 = some (.lst zs) ∧ Same H H2) ⟨rfl, upd_same, Same.new hD1⟩ ?_ ?_
      · rintro zs H2 ⟨rfl, hD2, s2⟩
        refine ⟨by show ((ys.length : Nat) : Int).toNat ≤ ts.length; omega, D1, List.replicate ts.length true, rfl, SqL.of (by rw [hD2]; congr 2; rw [List.map_replicate]), ?_⟩
        rw [show (List.replicate ts.length true).all id = true by rw [List.all_eq_true]; intro b hb; exact (List.mem_replicate.mp hb).2]
        exact q H2 s2
      · rintro i zs H2 hi ⟨rfl, hD2, s2⟩
        obtain ⟨x, ex, dx⟩ := dl.get (List.getElem?_eq_getElem hi)
        obtain ⟨y, ey, dy⟩ := el.get (List.getElem?_eq_getElem hi)
        refine ⟨by show i < ((ys.length : Nat) : Int).toNat; omega, ?_⟩
        rintro v H3 ⟨rfl, rfl⟩ σo ho
        obtain ⟨oo, rfl⟩ := own1 ho
        have eax : atI xs (0 + (i : Int)) = some x := by rw [Int.zero_add]; exact atI_nat ex
        have eay : atI ys (0 + (i : Int)) = some y := by rw [Int.zero_add]; exact atI_nat ey
        refine ⟨⟨[_], rfl, rfl⟩, yes_by ⟨_, rfl, _, rfl, a, _, _, _, rfl, rfl, SqT.of (s2 a _ ha), eax, _, rfl, _, rfl, b, _, _, _, rfl, rfl, SqT.of (s2 b _ hb), eay, ?_⟩⟩
        refine hsp m x y ts[i] _ _ _ rfl (lv _ (List.getElem_mem hi)) (dx.mono (Same.tups s2)) (dy.mono (Same.tups s2)) fun H4 s4 => ?_
        have hD4 : H4 D1 = some (.lst (List.replicate i (V.bl true))) := s4 D1 _ hD2
        have hil : i < sizeLine := by omega
        refine ⟨by rw [List.length_replicate]; exact hil, hD4, less_by hi ⟨by rw [List.replicate_succ'], upd_same, fun c o e => ?_⟩⟩
        rw [upd_ne (ne_of_none e hD1)]
        exact s4 c o (s2 c o e)
theorem fn_false {f : Addr} {fd : FuncData} {ps : List Str} : FnOk P w K mg base CX0 0 f fd ps (fun _ _ _ _ => False) := ⟨fun _ _ _ _ h => h.elim, fun _ _ _ _ _ _ _ _ _ _ _ _ _ h => h.elim⟩
theorem ok_same (D : Defs K mg t) : ∀ n, FnOk P w K mg base CX0 (n + 1) t._law_same.1 t._law_same.2 ["_law_told", "_law_due_here"] (spSame n)
  | 0 => same_step D fn_false fun m _ _ _ _ _ _ h => by omega
  | n + 1 => same_step D (ok_same D n) fun m v1 v2 T0 H Q E h lv d1 d2 q => by
    have e : n = m := by omega
    subst e
    exact ⟨v1, v2, T0, rfl, d1, d2, lv, q⟩
end
end K23
end
section
set_option autoImplicit false
namespace L2
open PySem PySem.Spec PyProof.Rows PySem.W
def kRun {α : Type} (lt : Nat → Nat → Bool) : KasT α → α
  | .ret a => a
  | .ask i j k => kRun lt (k (lt i j))
theorem kRun_bind {α β : Type} (lt : Nat → Nat → Bool) (f : α → KasT β) : ∀ t : KasT α, kRun lt (t.bind f) = kRun lt (f (kRun lt t))
  | .ret a => rfl
  | .ask i j k => kRun_bind lt f (k (lt i j))
theorem kRun_wp {α : Type} {n : Nat} {P : α → Prop} {Q : α → Shared → Prop} {s : Shared} {lt : Nat → Nat → Bool} {cmp : Nat → Nat → (Bool → Shared → Prop) → Shared → Prop} (hc : ∀ i j (C : Bool → Shared → Prop), i < n → j < n → C (lt i j) s → cmp i j C s) :
    ∀ {t : KasT α}, KOk n P t → Q (kRun lt t) s → t.kasWp cmp Q s
  | .ret a, _, q => q
  | .ask i j k, h, q => hc i j _ h.1 h.2.1 (kRun_wp hc (h.2.2 _) q)
theorem kRun_ok {α : Type} {n : Nat} {P : α → Prop} (lt : Nat → Nat → Bool) : ∀ {t : KasT α}, KOk n P t → P (kRun lt t)
  | .ret a, h => h
  | .ask i j k, h => kRun_ok (n := n) lt (t := k (lt i j)) (h.2.2 (lt i j))
def NegTr (lt : Nat → Nat → Bool) : Prop := ∀ a b c, lt a c = true → lt a b = true ∨ lt b c = true
theorem place_ok {lt : Nat → Nat → Bool} (nt : NegTr lt) {p : Array Nat} {k : Nat} (up : ∀ i j, i < j → j < k → lt (p.getD j 0) (p.getD i 0) = false) :
    ∀ (f l r : Nat), r - l ≤ f → l ≤ r → r ≤ k → (∀ i, i < l → lt (p.getD k 0) (p.getD i 0) = false) → (∀ i, r ≤ i → i < k → lt (p.getD k 0) (p.getD i 0) = true) →
      kRun lt (kas_place p k f l r) ≤ k ∧ (∀ i, i < kRun lt (kas_place p k f l r) → lt (p.getD k 0) (p.getD i 0) = false) ∧ ∀ i, kRun lt (kas_place p k f l r) ≤ i → i < k → lt (p.getD k 0) (p.getD i 0) = true := by
  intro f
  induction f with
  | zero =>
    intro l r h1 h2 h3 hl hr
    have e : l = r := by omega
    subst e
    exact ⟨h3, hl, hr⟩
  | succ f ih =>
    intro l r h1 h2 h3 hl hr
    unfold kas_place
    by_cases c : l ≥ r
    · have e : l = r := by omega
      subst e
      rw [if_pos c]
      exact ⟨h3, hl, hr⟩
    · rw [if_neg c]
      have m1 : (l + r) / 2 < r := by omega
      have m2 : l ≤ (l + r) / 2 := by omega
      show kRun lt (if lt (p.getD k 0) (p.getD ((l + r) / 2) 0) = true then _ else _) ≤ k ∧ _
      cases hb : lt (p.getD k 0) (p.getD ((l + r) / 2) 0) with
      | true =>
        have hr' : ∀ i, (l + r) / 2 ≤ i → i < k → lt (p.getD k 0) (p.getD i 0) = true := fun i hi hk => by
          rcases Nat.lt_or_ge ((l + r) / 2) i with g | g
          · rcases nt _ (p.getD i 0) _ hb with h | h
            · exact h
            · rw [up _ _ g hk] at h; cases h
          · have e : i = (l + r) / 2 := by omega
            rw [e]; exact hb
        have := ih l ((l + r) / 2) (by omega) m2 (by omega) hl hr'
        simp only [kRun, hb, if_true]
        exact this
      | false =>
        have hl' : ∀ i, i < (l + r) / 2 + 1 → lt (p.getD k 0) (p.getD i 0) = false := fun i hi => by
          rcases Nat.lt_or_ge i ((l + r) / 2) with g | g
          · cases hx : lt (p.getD k 0) (p.getD i 0) with
            | false => rfl
            | true =>
              rcases nt _ (p.getD ((l + r) / 2) 0) _ hx with h | h
              · rw [hb] at h; cases h
              · rw [up _ _ g (by omega)] at h; cases h
          · have e : i = (l + r) / 2 := by omega
            rw [e]; exact hb
        have := ih ((l + r) / 2 + 1) r (by omega) (by omega) h3 hl' hr
        simp only [kRun, hb, Bool.false_eq_true, if_false]
        exact this
theorem bub_get {p : Array Nat} {k d : Nat} (hk : k < p.size) (hd : d ≤ k) (i : Nat) : (bubble p k d).getD i 0 = if i = k - d then p.getD k 0 else if k - d < i ∧ i ≤ k then p.getD (i - 1) 0 else p.getD i 0 := by
  have e := getElem?_bubble hk d hd i
  have g : ∀ (q : Array Nat) (j : Nat), q.getD j 0 = (q[j]?).getD 0 := fun q j => by simp [Array.getD_eq_getD_getElem?]
  rw [g, e, g p k, g p (i - 1), g p i]
  by_cases c1 : i = k - d
  · rw [if_pos c1, if_pos c1]
  · rw [if_neg c1, if_neg c1]
    by_cases c2 : k - d < i ∧ i ≤ k
    · rw [if_pos c2, if_pos c2]
    · rw [if_neg c2, if_neg c2]
theorem bin_ok {lt : Nat → Nat → Bool} (nt : NegTr lt) (as : ∀ a b, lt a b = true → lt b a = false) : ∀ (f : Nat) (p : Array Nat) (k : Nat), k + f = p.size → (∀ i j, i < j → j < k → lt (p.getD j 0) (p.getD i 0) = false) →
    (kRun lt (kas_bin f p k)).size = p.size ∧ ∀ i j, i < j → j < p.size → lt ((kRun lt (kas_bin f p k)).getD j 0) ((kRun lt (kas_bin f p k)).getD i 0) = false := by
  intro f
  induction f with
  | zero =>
    intro p k h up
    exact ⟨rfl, fun i j h1 h2 => up i j h1 (by omega)⟩
  | succ f ih =>
    intro p k h up
    obtain ⟨m1, m2, m3⟩ := place_ok nt up k 0 k (by omega) (Nat.zero_le _) (Nat.le_refl _) (fun i hi => absurd hi (Nat.not_lt_zero _)) (fun i h1 h2 => absurd h2 (by omega))
    have e : kRun lt (kas_bin (f + 1) p k) = kRun lt (kas_bin f (bubble p k (k - kRun lt (kas_place p k k 0 k))) (k + 1)) := kRun_bind lt _ _
    rw [e]
    generalize kRun lt (kas_place p k k 0 k) = m at m1 m2 m3
    have hk : k < p.size := by omega
    have gb := bub_get (d := k - m) hk (by omega)
    have ekm : k - (k - m) = m := by omega
    rw [ekm] at gb
    have sz := bubble_size p k (k - m)
    have key := ih (bubble p k (k - m)) (k + 1) (by rw [sz]; omega) (fun i j h1 h2 => by
      rw [gb j, gb i]
      by_cases c1 : j = m
      · rw [if_pos c1, if_neg (by omega), if_neg (by omega)]
        exact m2 i (by omega)
      · rw [if_neg c1]
        by_cases c2 : m < j ∧ j ≤ k
        · rw [if_pos c2]
          by_cases c3 : i = m
          · rw [if_pos c3]
            exact as _ _ (m3 (j - 1) (by omega) (by omega))
          · rw [if_neg c3]
            by_cases c4 : m < i ∧ i ≤ k
            · rw [if_pos c4]
              exact up (i - 1) (j - 1) (by omega) (by omega)
            · rw [if_neg c4]
              exact up i (j - 1) (by omega) (by omega)
        · rw [if_neg c2, if_neg (by omega), if_neg (by omega)]
          exact up i j h1 (by omega))
    rw [sz] at key
    exact key
end L2
end
section
set_option autoImplicit false
namespace L2
open PySem PySem.Spec PyProof.Rows PySem.W
theorem asc_ok {lt : Nat → Nat → Bool} {p : Array Nat} : ∀ (f n : Nat), n ≤ kRun lt (kas_asc p f n) ∧ kRun lt (kas_asc p f n) ≤ n + f ∧ (∀ i, n ≤ i → i < kRun lt (kas_asc p f n) → lt (p.getD i 0) (p.getD (i - 1) 0) = false) ∧
    (kRun lt (kas_asc p f n) < n + f → lt (p.getD (kRun lt (kas_asc p f n)) 0) (p.getD (kRun lt (kas_asc p f n) - 1) 0) = true) := by
  intro f
  induction f with
  | zero =>
    intro n
    refine ⟨Nat.le_refl _, Nat.le_refl _, fun i h1 h2 => ?_, fun h => ?_⟩
    · have h2 : i < n := h2
      omega
    · have h : n < n + 0 := h
      omega
  | succ f ih =>
    intro n
    cases hb : lt (p.getD n 0) (p.getD (n - 1) 0) with
    | true =>
      have e : kRun lt (kas_asc p (f + 1) n) = n := by
        unfold kas_asc
        simp only [kRun, hb, if_true]
      rw [e]
      exact ⟨Nat.le_refl _, by omega, fun i h1 h2 => by omega, fun _ => hb⟩
    | false =>
      have e : kRun lt (kas_asc p (f + 1) n) = kRun lt (kas_asc p f (n + 1)) := by
        rw [show kas_asc p (f + 1) n = .ask (p.getD n 0) (p.getD (n - 1) 0) (fun c => if c = true then .ret n else kas_asc p f (n + 1)) from rfl]
        simp only [kRun, hb, Bool.false_eq_true, if_false]
      obtain ⟨h1, h2, h3, h4⟩ := ih (n + 1)
      rw [e]
      refine ⟨by omega, by omega, fun i g1 g2 => ?_, fun g => h4 (by omega)⟩
      rcases Nat.lt_or_ge n i with c | c
      · exact h3 i c g2
      · have : i = n := by omega
        rw [this]; exact hb
theorem chain_ok {lt : Nat → Nat → Bool} (nt : NegTr lt) {p : Array Nat} {m : Nat} (ir : ∀ a, lt a a = false) (h : ∀ i, 1 ≤ i → i < m → lt (p.getD i 0) (p.getD (i - 1) 0) = false) : ∀ i j, i < j → j < m → lt (p.getD j 0) (p.getD i 0) = false := by
  intro i j
  induction j with
  | zero => intro h1; omega
  | succ j ih =>
    intro h1 h2
    have s := h (j + 1) (by omega) h2
    rcases Nat.lt_or_ge i j with c | c
    · have := ih c (by omega)
      cases hx : lt (p.getD (j + 1) 0) (p.getD i 0) with
      | false => rfl
      | true =>
        rcases nt _ (p.getD j 0) _ hx with g | g
        · rw [show j + 1 - 1 = j from rfl] at s
          rw [s] at g; cases g
        · rw [this] at g; cases g
    · have : i = j := by omega
      rw [this]; exact s
theorem desc_ok {lt : Nat → Nat → Bool} {p : Array Nat} {z : Nat} (tot : ∀ i j, i < j → j < z → lt (p.getD i 0) (p.getD j 0) = true ∨ lt (p.getD j 0) (p.getD i 0) = true) : ∀ (f n : Nat), 1 ≤ n → n + f ≤ z →
    ∃ m, kRun lt (kas_desc f p n 0) = (p, m, 0) ∧ n ≤ m ∧ m ≤ n + f ∧ ∀ i, n ≤ i → i < m → lt (p.getD i 0) (p.getD (i - 1) 0) = true := by
  intro f
  induction f with
  | zero => intro n h1 h2; exact ⟨n, rfl, Nat.le_refl _, Nat.le_refl _, fun i g1 g2 => by omega⟩
  | succ f ih =>
    intro n h1 h2
    rw [show kas_desc (f + 1) p n 0 = .ask (p.getD n 0) (p.getD (n - 1) 0) (fun c =>
      if c = true then (if 0 > 0 then kas_desc f (kas_rev p (n - (0 + 1)) n) (n + 1) 0 else kas_desc f p (n + 1) 0)
      else .ask (p.getD (n - 1) 0) (p.getD n 0) fun d => if d = true then .ret (p, n, 0) else kas_desc f p (n + 1) (0 + 1)) from rfl]
    cases hb : lt (p.getD n 0) (p.getD (n - 1) 0) with
    | true =>
      obtain ⟨m, e, g1, g2, g3⟩ := ih (n + 1) (by omega) (by omega)
      refine ⟨m, ?_, by omega, by omega, fun i k1 k2 => ?_⟩
      · simp only [kRun, hb, if_true, Nat.lt_irrefl, if_false, gt_iff_lt]
        exact e
      · rcases Nat.lt_or_ge n i with c | c
        · exact g3 i c k2
        · have : i = n := by omega
          rw [this]; exact hb
    | false =>
      have hd : lt (p.getD (n - 1) 0) (p.getD n 0) = true := by
        rcases tot (n - 1) n (by omega) (by omega) with g | g
        · exact g
        · rw [hb] at g; cases g
      refine ⟨n, ?_, Nat.le_refl _, by omega, fun i k1 k2 => by omega⟩
      simp only [kRun, hb, Bool.false_eq_true, if_false, hd, if_true]
theorem rev_get {p : Array Nat} {m : Nat} (hm : m ≤ p.size) (k : Nat) : (kas_rev p 0 m).getD k 0 = if k < m then p.getD (m - 1 - k) 0 else p.getD k 0 := by
  have e := getElem?_mirror_all (i := 0) hm k
  have g : ∀ (q : Array Nat) (j : Nat), q.getD j 0 = (q[j]?).getD 0 := fun q j => by simp [Array.getD_eq_getD_getElem?]
  rw [g p, g p, g]
  show ((mirror p 0 m ((m - 0) / 2))[k]?).getD 0 = _
  rw [e]
  by_cases c : k < m
  · rw [if_pos ⟨Nat.zero_le _, c⟩, if_pos c, Nat.zero_add]
  · rw [if_neg (fun z => c z.2), if_neg c]
theorem count_ok {lt : Nat → Nat → Bool} (nt : NegTr lt) (ir : ∀ a, lt a a = false) (as : ∀ a b, lt a b = true → lt b a = false) {p : Array Nat} (h0 : 1 ≤ p.size)
    (tot : ∀ i j, i < j → j < p.size → lt (p.getD i 0) (p.getD j 0) = true ∨ lt (p.getD j 0) (p.getD i 0) = true) :
    ∃ r p', kRun lt (kas_count p.size p) = (r, p') ∧ p'.size = p.size ∧ 1 ≤ r ∧ r ≤ p.size ∧ ∀ i j, i < j → j < r → lt (p'.getD j 0) (p'.getD i 0) = false := by
  obtain ⟨a1, a2, a3, a4⟩ := asc_ok (lt := lt) (p := p) (p.size - 1) 1
  unfold kas_count
  rw [kRun_bind]
  generalize kRun lt (kas_asc p (p.size - 1) 1) = n at a1 a2 a3 a4
  have ch := chain_ok nt ir a3
  by_cases c1 : n = p.size
  · rw [if_pos (by rw [c1]; exact beq_self_eq_true _)]
    exact ⟨n, p, rfl, rfl, a1, by omega, ch⟩
  · rw [if_neg (fun z => c1 (eq_of_beq z))]
    by_cases c2 : n > 1
    · rw [if_pos c2]
      have hb : lt (p.getD 0 0) (p.getD (n - 1) 0) = true := by
        rcases tot 0 (n - 1) (by omega) (by omega) with g | g
        · exact g
        · rw [ch 0 (n - 1) (by omega) (by omega)] at g; cases g
      refine ⟨n, p, ?_, rfl, a1, by omega, ch⟩
      simp only [kRun, hb, if_true]
    · rw [if_neg c2]
      have e1 : n = 1 := by omega
      subst e1
      have h10 := a4 (by omega)
      obtain ⟨m, e, g1, g2, g3⟩ := desc_ok (lt := lt) (p := p) tot (p.size - (1 + 1)) (1 + 1) (by omega) (by omega)
      unfold kas_descPart
      rw [kRun_bind, e]
      show ∃ r p', kRun lt (if (0 : Nat) > 0 then kas_tail3 m p.size (kas_rev p (m - (0 + 1)) m) else kas_tail3 m p.size p) = (r, p') ∧ _
      rw [if_neg (Nat.lt_irrefl 0)]
      unfold kas_tail3
      rw [kRun_bind]
      have hm : m ≤ p.size := by omega
      have rg := rev_get (p := p) hm
      obtain ⟨b1, b2, b3, _⟩ := asc_ok (lt := lt) (p := kas_rev p 0 m) (p.size - m) m
      refine ⟨_, _, rfl, kas_rev_size _ _, by omega, by omega, chain_ok nt ir fun i i1 i2 => ?_⟩
      rcases Nat.lt_or_ge i m with c | c
      · rw [rg i, rg (i - 1), if_pos c, if_pos (by omega)]
        refine as _ _ ?_
        have ek : m - 1 - (i - 1) = (m - 1 - i) + 1 := by omega
        rw [ek]
        rcases Nat.lt_or_ge (m - 1 - i) 1 with d | d
        · have : m - 1 - i = 0 := by omega
          rw [this]; exact h10
        · exact g3 (m - 1 - i + 1) (by omega) (by omega)
      · exact b3 i c i2
theorem sort_ok {lt : Nat → Nat → Bool} (nt : NegTr lt) (ir : ∀ a, lt a a = false) (as : ∀ a b, lt a b = true → lt b a = false) {n : Nat} (h0 : 1 ≤ n) (tot : ∀ i j, i < j → j < n → lt i j = true ∨ lt j i = true) :
    ∀ i j, i < j → j < n → lt ((kRun lt (kas_sort n)).getD j 0) ((kRun lt (kas_sort n)).getD i 0) = false := by
  have sz : (List.toArray (List.range n)).size = n := by simp
  have gr : ∀ i, i < n → (List.toArray (List.range n)).getD i 0 = i := fun i hi => by simp [Array.getD, hi]
  obtain ⟨r, p', e, z, r1, r2, up⟩ := count_ok nt ir as (p := List.toArray (List.range n)) (by omega) (fun i j h1 h2 => by
    rw [gr i (by omega), gr j (by omega)]
    exact tot i j h1 (by omega))
  rw [sz] at e z r2
  unfold kas_sort
  rw [kRun_bind, e]
  show ∀ i j, i < j → j < n → lt ((kRun lt (if r < n then kas_bin (n - max r 1) p' (max r 1) else .ret p')).getD j 0) ((kRun lt (if r < n then kas_bin (n - max r 1) p' (max r 1) else .ret p')).getD i 0) = false
  have em : max r 1 = r := by omega
  rw [em]
  by_cases c : r < n
  · rw [if_pos c]
    obtain ⟨_, h⟩ := bin_ok nt as (n - r) p' r (by omega) up
    intro i j h1 h2
    exact h i j h1 (by omega)
  · rw [if_neg c]
    intro i j h1 h2
    exact up i j h1 (by omega)
end L2
end
section
set_option autoImplicit false
namespace L2
open PySem PySem.Spec PyProof.Rows PySem.W
def Rise (lt : Nat → Nat → Bool) (vs out : List Value) : Prop := ∃ p : Array Nat, Pm vs.length p ∧ out = p.toList.map (fun i => vs.getD i Value.none) ∧ ∀ i j, i < j → j < vs.length → lt (p.getD j 0) (p.getD i 0) = false
theorem Rise.perm {lt : Nat → Nat → Bool} {vs out : List Value} (h : Rise lt vs out) : out.Perm vs := by
  obtain ⟨p, h1, rfl, _⟩ := h
  exact h1.out
theorem Rise.len {lt : Nat → Nat → Bool} {vs out : List Value} (h : Rise lt vs out) : out.length = vs.length := h.perm.length_eq
theorem rise_id {lt : Nat → Nat → Bool} {vs : List Value} (h : vs.length < 2) : Rise lt vs vs := by
  refine ⟨(List.range vs.length).toArray, .refl _, ?_, fun i j h1 h2 => by omega⟩
  apply List.ext_getElem (by simp)
  intro i a b
  simp [a]
section
variable {prog : Program} {w : World} {A : Around} {E : Value → Shared → Prop} {s : Shared}
structure CmpsT (prog : Program) (w : World) (lt : Nat → Nat → Bool) (A : Around) (κ : SortKind) (vs : List Value) (h : Heap) : Prop where
  kind : ∀ (s' : Shared) (Q : SortKind → Shared → Prop) (E : Value → Shared → Prop), (∀ b o, h.get? b = some o → s'.heap.get? b = some o) → Q κ s' → wpAny (model prog w) A (keyKind' vs.toArray) Q E s'
  lt : ∀ i j, i < vs.length → j < vs.length → ∀ (s' : Shared) (C : Bool → Shared → Prop), (∀ b o, h.get? b = some o → s'.heap.get? b = some o) → C (lt i j) s' → wpAny (model prog w) A (keyLt' κ (vs.getD i Value.none) (vs.getD j Value.none)) C (fun _ _ => False) s'
theorem list_sort_true {a : Addr} {vs : List Value} {n : Nat} {P : Fin → Shared → Prop} {h₀ : Heap} {κ : SortKind} {lt : Nat → Nat → Bool} (nt : NegTr lt) (ir : ∀ a, lt a a = false) (as : ∀ a b, lt a b = true → lt b a = false) (tot : ∀ i j, i < j → j < vs.length → lt i j = true ∨ lt j i = true) (ho : s.heap.get? a = some (seqObj "list" vs.toArray n)) (h64 : vs.length < 64) (keep : ∀ b o, h₀.get? b = some o → s.heap.get? b = some o ∧ b ≠ a)
    (hc : 2 ≤ vs.length → CmpsT prog w lt A κ vs h₀)
    (h : ∀ out : Array Value, Rise lt vs out.toList → P (.done (.ret .none)) { s with heap := sortedHeap s.heap a vs out }) :
    wpAny (model prog w) A (Builtin.«list.sort» ⟨[.ref a], []⟩) P E s := by
  rw [list_sort_plain]
  have ha : a < s.heap.objs.size := Heap.lt_size ho
  refine wpAny_bind (listItems_at ho rfl ?_)
  refine wpAny_bind (listUpdate_at ho rfl ?_ (by rw [List.size_toArray, sizeLine_eq]; omega) (Nat.zero_le _))
  obtain ⟨e1, ho1⟩ : ∃ e1, (s.heap.update a (Obj.mapSeq fun _ => #[])).get? a = some (seqObj "list" #[] e1) := ⟨_, get?_update_seq ho (fun _ => #[])⟩
  refine wpAny_bind (seqEpoch_at ho1 rfl ?_)
  refine wpAny_bind (wpAny_newTuple ?_ (by show vs.length ≤ _; rw [sizeLine_eq]; omega))
  refine wpAny_bind (wpAny_newList ?_ (Nat.zero_le _))
  refine wpAny_holding ?_
  have ho6 : (((s.heap.update a (Obj.mapSeq fun _ => #[])).push (seqObj "tuple" vs.toArray 0)).push (seqObj "list" #[] 0)).get? a = some (seqObj "list" #[] e1) := by
    rw [Heap.get?_push_ne _ _ _ (by rw [size_push', Heap.size_update]; exact Nat.ne_of_lt (Nat.lt_succ_of_lt ha)), Heap.get?_push_ne _ _ _ (by rw [Heap.size_update]; exact Nat.ne_of_lt ha)]
    exact ho1
  have kp : ∀ b o, h₀.get? b = some o → (((s.heap.update a (Obj.mapSeq fun _ => #[])).push (seqObj "tuple" vs.toArray 0)).push (seqObj "list" #[] 0)).get? b = some o := fun b o e => by
    obtain ⟨e', ne⟩ := keep b o e
    exact Heap.get?_push_of_some _ (Heap.get?_push_of_some _ ((Heap.get?_update_other _ _ (Ne.symm ne)).trans e'))
  show wpAny (model prog w) A _ P E { s with heap := ((s.heap.update a (Obj.mapSeq fun _ => #[])).push (seqObj "tuple" vs.toArray 0)).push (seqObj "list" #[] 0) }
  dsimp only
  have hsz : vs.toArray.size = vs.length := by simp
  have fin : ∀ st' : SortSt, failedOf st' = none → Rise lt vs ((arrOf st').map (·.2)).toList → wpAny (model prog w) A (do
      let touched := (← seqEpoch a) != e1
      Builtin.List.listUpdate (.ref a) fun _ => (arrOf st').map (·.2)
      if let some e := failedOf st' then rule "list.sort.comparison-raised"; throw e
      if touched then rule "list.sort.modified"; raiseError "ValueError" "list modified during sort"
      ret .none) P E { s with heap := ((s.heap.update a (Obj.mapSeq fun _ => #[])).push (seqObj "tuple" vs.toArray 0)).push (seqObj "list" #[] 0) } := fun st' hf hp => by
    refine wpAny_bind (seqEpoch_at ho6 rfl ?_)
    refine wpAny_bind (listUpdate_at ho6 rfl ?_ (Nat.zero_le _) (by
      have := hp.len
      rw [Array.length_toList] at this
      show ((arrOf st').map (·.2)).size ≤ _
      rw [this, sizeLine_eq]
      omega))
    rw [hf]
    simp only [bne_self_eq_false, Bool.false_eq_true, if_false]
    exact wpAny_pure (h _ hp)
  by_cases h2 : vs.toArray.size < 2
  · rw [if_pos h2, if_pos h2]
    refine wpAny_bind (wpAny_pure ?_)
    rw [StateT.run_pure]
    refine wpAny_bind (wpAny_pure ?_)
    refine fin (SortSt.mk' general' (vs.toArray.zip vs.toArray) #[] 7 none) rfl ?_
    have e : ((vs.toArray.zip vs.toArray).map (·.2)).toList = vs := by
      simp only [List.zip_toArray, List.map_toArray]
      exact List.map_snd_zip (Nat.le_refl _)
    show Rise lt vs ((vs.toArray.zip vs.toArray).map (·.2)).toList
    rw [e]
    rw [hsz] at h2
    exact rise_id h2
  · rw [if_neg h2, if_neg h2]
    rw [hsz] at h2
    have C := hc (by omega)
    refine wpAny_bind (C.kind _ _ _ kp ?_)
    refine wpAny_bind (wpAny_mono (kat_run (ks := vs) (Q := fun st' s' => s' = { s with heap := ((s.heap.update a (Obj.mapSeq fun _ => #[])).push (seqObj "tuple" vs.toArray 0)).push (seqObj "list" #[] 0) } ∧ failedOf st' = none ∧ Rise lt vs ((arrOf st').map (·.2)).toList)
      (G := fun p s' => s' = { s with heap := ((s.heap.update a (Obj.mapSeq fun _ => #[])).push (seqObj "tuple" vs.toArray 0)).push (seqObj "list" #[] 0) } ∧ Pm vs.length p ∧ ∀ i j, i < j → j < vs.length → lt (p.getD j 0) (p.getD i 0) = false) rfl (by omega) h64 (fun p st' s' _ e1 e2 ⟨e3, e4⟩ => ⟨e3, e2, ?_⟩) ?_) ?_ fun _ _ e => e)
    · rw [kat_snds rfl e1]
      exact ⟨p, e4.1, by simp, e4.2⟩
    · exact kRun_wp (lt := lt) (fun i j Cc hi hj hC => C.lt i j hi hj _ _ kp hC) (ok_sort (by omega)) ⟨rfl, kRun_ok lt (ok_sort (by omega)), sort_ok nt ir as (by omega) tot⟩
    · rintro ⟨⟨⟩, st'⟩ s' ⟨rfl, hf, hp⟩
      exact fin st' hf hp
theorem sorted_true {l : Addr} {vs : List Value} {Q : Value → Shared → Prop} {κ : SortKind} {lt : Nat → Nat → Bool} (nt : NegTr lt) (ir : ∀ a, lt a a = false) (as : ∀ a b, lt a b = true → lt b a = false) (tot : ∀ i j, i < j → j < vs.length → lt i j = true ∨ lt j i = true) (hl : s.heap.IsList l vs.toArray) (h64 : vs.length < 64) (hc : 2 ≤ vs.length → CmpsT prog w lt A.in1.in1 κ vs s.heap)
    (h : ∀ out : Array Value, Rise lt vs out.toList → Q (.ref (s.heap.objs.size + 1)) { s with heap := sortedAll s.heap vs out }) :
    wpAny (model prog w) A (call (.builtin "sorted") [.ref l]) Q E s := by
  refine Calls.call_function_entry kind_sorted plain_sorted entry_sorted (args_sorted1 _) ?_
  unfold Builtin.«sorted»
  refine wpAny_bind (m := checkCount "sorted" 1 1 _) (wpAny_pure ?_)
  refine wpAny_bind (collect_list hl ?_ (by rw [sizeLine_eq]; omega))
  refine wpAny_bind (wpAny_newList ?_ (by rw [sizeLine_eq]; omega))
  have hsz : ((s.heap.push (seqObj "list" #[] 0)).update s.heap.objs.size (Obj.mapSeq (· ++ vs.toArray))).objs.size = s.heap.objs.size + 1 := by
    rw [Heap.size_update, size_push']
  have hoL : (((s.heap.push (seqObj "list" #[] 0)).update s.heap.objs.size (Obj.mapSeq (· ++ vs.toArray))).push (seqObj "list" vs.toArray 0)).get? (s.heap.objs.size + 1) = some (seqObj "list" vs.toArray 0) := by
    rw [← hsz]; exact Heap.get?_push_size _ rfl
  have keep : ∀ b o, s.heap.get? b = some o → (((s.heap.push (seqObj "list" #[] 0)).update s.heap.objs.size (Obj.mapSeq (· ++ vs.toArray))).push (seqObj "list" vs.toArray 0)).get? b = some o ∧ b ≠ s.heap.objs.size + 1 := fun b o q => by
    have hlt : b < s.heap.objs.size := Heap.lt_size q
    refine ⟨?_, Nat.ne_of_lt (Nat.lt_succ_of_lt hlt)⟩
    rw [Heap.get?_push_ne _ _ _ (by rw [hsz]; exact Nat.ne_of_lt (Nat.lt_succ_of_lt hlt)), Heap.get?_update_ne _ _ _ _ (Nat.ne_of_lt hlt), Heap.get?_push_ne _ _ _ (Nat.ne_of_lt hlt)]
    exact q
  show wpAny _ _ _ _ _ { s with heap := ((s.heap.push (seqObj "list" #[] 0)).update s.heap.objs.size (Obj.mapSeq (· ++ vs.toArray))).push (seqObj "list" vs.toArray 0) }
  rw [hsz]
  refine wpAny_bind (wpAny_holding (wpAny_call_entry slot_list_sort ⟨_, hoL, rfl⟩ entry_list_sort (list_sort_true nt ir as tot hoL h64 keep hc fun out a1 => ⟨_, rfl, ?_⟩) (args_list_sort _)))
  exact wpAny_pure ⟨_, rfl, h out a1⟩
end
end L2
end
section
set_option autoImplicit false
namespace L2
open PySem PySem.Spec PyProof.Rows
section
variable {X : Cx}
end
end L2
end
section
set_option autoImplicit false
namespace L2
open PySem PySem.Spec PyProof.Rows
def RowsI (H : Hp) (us : List V) (tbl : List (List Int)) : Prop := Paired (fun (v : V) (js : List Int) => ∃ a, v = .ref a ∧ H a = some (.tup (js.map V.int))) us tbl
end L2
end
section
set_option autoImplicit false
namespace L2
open PySem PySem.Spec PyProof.Rows
section
variable {prog : Program} {w : World} {A : Around} {E : Value → Shared → Prop} {s : Shared}
end
def leS (a b : Str) : Prop := a.cps.toList ≤ b.cps.toList
theorem leS_of {a b : Str} (h : ltCps b.cps.toList a.cps.toList = false) : leS a b := by
  rw [ltCps_eq] at h
  exact List.not_lt.mp (of_decide_eq_false h)
theorem leS_trans {a b c : Str} (h : leS a b) (g : leS b c) : leS a c := List.le_trans h g
theorem leS_anti {a b : Str} (h : leS a b) (g : leS b a) : a = b := by
  have e : a.cps.toList = b.cps.toList := List.le_antisymm h g
  have e2 : a.cps = b.cps := Array.toList_inj.mp e
  cases a
  cases b
  cases e2
  rfl
section
variable {X : Cx}
end
end L2
end
section
set_option autoImplicit false
namespace L2
open PySem PySem.Spec PyProof.Rows PySem.W
def ltS (a b : Str) : Bool := ltCps a.cps.toList b.cps.toList
theorem ltS_false {a b : Str} : ltS b a = false ↔ leS a b := by
  refine ⟨fun h => leS_of h, fun h => ?_⟩
  unfold ltS
  rw [ltCps_eq]
  exact decide_eq_false (List.not_lt.mpr h)
theorem ltS_ir (a : Str) : ltS a a = false := ltS_false.mpr (List.le_refl _)
theorem leS_total (a b : Str) : leS a b ∨ leS b a := List.le_total _ _
theorem ltS_as {a b : Str} (h : ltS a b = true) : ltS b a = false := by
  refine ltS_false.mpr ?_
  rcases leS_total a b with g | g
  · exact g
  · rw [ltS_false.mpr g] at h
    cases h
theorem ltS_nt {a b c : Str} (h : ltS a c = true) : ltS a b = true ∨ ltS b c = true := by
  cases h1 : ltS a b with
  | true => exact .inl rfl
  | false =>
    cases h2 : ltS b c with
    | true => exact .inr rfl
    | false =>
      have := leS_trans (ltS_false.mp h2) (ltS_false.mp h1)
      rw [ltS_false.mpr this] at h
      cases h
theorem ltS_tot {a b : Str} (h : ¬ a = b) : ltS a b = true ∨ ltS b a = true := by
  cases h1 : ltS a b with
  | true => exact .inl rfl
  | false =>
    cases h2 : ltS b a with
    | true => exact .inr rfl
    | false => exact absurd (leS_anti (ltS_false.mp h2) (ltS_false.mp h1)) h
def ltAt (ns : List Str) (i j : Nat) : Bool := ltS (ns.getD i "") (ns.getD j "")
theorem ltAt_nt (ns : List Str) : NegTr (ltAt ns) := fun _ _ _ h => ltS_nt h
theorem ltAt_ir (ns : List Str) (a : Nat) : ltAt ns a a = false := ltS_ir _
theorem ltAt_as (ns : List Str) (a b : Nat) (h : ltAt ns a b = true) : ltAt ns b a = false := ltS_as h
theorem ltAt_tot {ns : List Str} (nd : ns.Nodup) (i j : Nat) (h1 : i < j) (h2 : j < ns.length) : ltAt ns i j = true ∨ ltAt ns j i = true := by
  refine ltS_tot fun e => ?_
  have e1 : ns.getD i "" = ns[i]'(by omega) := by simp [Nat.lt_trans h1 h2]
  have e2 : ns.getD j "" = ns[j] := by simp [h2]
  rw [e1, e2] at e
  exact (List.pairwise_iff_getElem.mp nd) _ _ _ _ h1 e
end L2
end
section
set_option autoImplicit false
namespace L2
open PySem PySem.Spec PyProof.Rows PySem.W
theorem vals_refs : ∀ {ps : List (Addr × Str × Int)} {its : List Value}, Vals (ps.map fun p => V.ref p.1) its → its = ps.map fun p => Value.ref p.1
  | [], _, .nil => rfl
  | p :: ps, _, .cons r t => by
    cases (show _ = Value.ref p.1 from r)
    rw [vals_refs t]
    rfl
theorem refs_vals : ∀ (ps : List (Addr × Str × Int)), Vals (ps.map fun p => V.ref p.1) (ps.map fun p => Value.ref p.1)
  | [] => .nil
  | p :: ps => .cons rfl (refs_vals ps)
section
variable {X : Cx}
theorem call_sortedTI : CallR X (.builtin "sorted") (fun xs H Q => ∃ (l : Addr) (ps : List (Addr × Str × Int)), xs = [.ref l] ∧ SqL X.K H l (ps.map fun p => .ref p.1) ∧ ps.length < 64 ∧ (∀ p ∈ ps, H p.1 = some (.tup [.str p.2.1, .int p.2.2])) ∧ (ps.map (·.2.1)).Nodup ∧
    ∀ (d : Addr) (qs : List (Addr × Str × Int)), qs.Perm ps → (∀ i j (h : i < j) (hj : j < qs.length), ltS qs[j].2.1 (qs[i]'(Nat.lt_trans h hj)).2.1 = false) → H d = none → Q (.ref d) (upd H d (.lst (qs.map fun p => .ref p.1)))) := by
  intro pins s σ H xs us Q I r h
  obtain ⟨l, ps, rfl, hl, h64, hp, nd, q⟩ := h
  obtain ⟨u, rfl, ru⟩ := vals1 r
  cases ru
  obtain ⟨its, rv, pl, hz⟩ := I.list hl
  obtain rfl := vals_refs rv
  have item : ∀ p ∈ ps, ∃ (o : Obj) (t t' : Tok) (n : Nat), s.heap.get? p.1 = some o ∧ o.cls = .type "tuple" ∧ o.data = .seq #[.str p.2.1 t, .int p.2.2 t'] n := fun p hm => by
    obtain ⟨jts, rj, ⟨o, go, co, n, dn⟩, _⟩ := I.tuple (SqT.of (hp p hm))
    obtain ⟨v1, v2, rfl, ⟨t, rfl⟩, ⟨t', rfl⟩⟩ := rj.two
    exact ⟨o, t, t', n, go, co, dn⟩
  have hcmp : 2 ≤ (ps.map fun p => Value.ref p.1).length → CmpsT X.prog X.w (ltAt (ps.map (·.2.1))) X.A.in1.in1 (tuples' ((Value.type "str") != Value.type "tuple")) (ps.map fun p => Value.ref p.1) s.heap := fun h2 => by
    refine ⟨fun s' Q' E' kp hq => ?_, fun i j hi hj s' C kp hC => ?_⟩
    · have tups : ∀ ls : List (Addr × Str × Int), (∀ p ∈ ls, p ∈ ps) → ∃ fs : List Value, KatTups s'.heap (ls.map fun p => Value.ref p.1) fs ∧ fs.length = ls.length ∧ ∀ f ∈ fs, ∃ x t, f = Value.str x t := by
        intro ls
        induction ls with
        | nil => exact fun _ => ⟨[], .nil, rfl, fun _ h => nomatch h⟩
        | cons v ls ih =>
          intro hm
          obtain ⟨fs, k, e, hf⟩ := ih fun v hv => hm v (List.mem_cons_of_mem _ hv)
          obtain ⟨o, t, t', n, go, co, dn⟩ := item v (hm v List.mem_cons_self)
          refine ⟨.str v.2.1 t :: fs, .cons (kp _ o go) co dn rfl k, by rw [List.length_cons, List.length_cons, e], fun f hf' => ?_⟩
          rcases List.mem_cons.mp hf' with rfl | h'
          · exact ⟨_, t, rfl⟩
          · exact hf f h'
      obtain ⟨fs, k, e, hf⟩ := tups ps fun _ h => h
      rw [List.length_map] at h2
      refine kat_kind (T := .type "str") k (by omega) (fun v hv => ?_) rfl hq
      obtain ⟨i, t, rfl⟩ := hf v hv
      exact .now
    · rw [List.length_map] at hi hj
      have e1 : (ps.map fun p => Value.ref p.1).getD i Value.none = .ref ps[i].1 := by simp [hi]
      have e2 : (ps.map fun p => Value.ref p.1).getD j Value.none = .ref ps[j].1 := by simp [hj]
      have e3 : ltAt (ps.map (·.2.1)) i j = decide (ps[i].2.1.cps.toList < ps[j].2.1.cps.toList) := by
        unfold ltAt ltS
        rw [ltCps_eq]
        simp [hi, hj]
      rw [e1, e2]
      rw [e3] at hC
      obtain ⟨o, t, t', n, go, co, dn⟩ := item _ (List.getElem_mem hi)
      obtain ⟨o', u, u', n', go', co', dn'⟩ := item _ (List.getElem_mem hj)
      refine kat_lt (kp _ o go) dn (kp _ o' go') dn' ?_
      show KatLex _ _ _ _ _ _ [(Value.str ps[i].2.1 t, Value.str ps[j].2.1 u), (Value.int ps[i].2.2 t', Value.int ps[j].2.2 u')] 0 s'
      refine kat_cons (wpAny_eqBool_str (kat_go (fun e => kat_yes ?_) fun _ => kat_no ?_))
      · have e := of_decide_eq_true e
        have eij : i = j := by
          rcases Nat.lt_trichotomy i j with g | g | g
          · exact absurd (by rw [List.getElem_map, List.getElem_map]; exact e) ((List.pairwise_iff_getElem.mp nd) i j (by simpa using hi) (by simpa using hj) g)
          · exact g
          · exact absurd (by rw [List.getElem_map, List.getElem_map]; exact e.symm) ((List.pairwise_iff_getElem.mp nd) j i (by simpa using hj) (by simpa using hi) g)
        subst eij
        have ef : decide (ps[i].2.1.cps.toList < ps[i].2.1.cps.toList) = false := decide_eq_false (List.lt_irrefl _)
        rw [ef] at hC
        refine kat_cons (wpAny_eqBool_int (kat_go (fun _ => kat_yes (kat_nil hC)) fun g => ?_))
        rw [beq_self_eq_true] at g
        cases g
      · exact oneLt_str hC
  have hlp : (ps.map (·.2.1)).length = ps.length := List.length_map _
  have hlv : (ps.map fun p => Value.ref p.1).length = ps.length := List.length_map _
  refine sorted_true (ltAt_nt _) (ltAt_ir _) (ltAt_as _) (fun i j h1 h2 => ltAt_tot nd i j h1 (by omega)) pl.isList (by omega) hcmp fun out ⟨p, pm, eo, up⟩ => ?_
  obtain ⟨e, he⟩ := sortedAll_at s.heap (ps.map fun p => Value.ref p.1) out
  have hd : H (s.heap.objs.size + 1) = none := I.hok.fresh (Nat.le_succ _)
  rw [hlv] at pm up
  have psz : p.size = ps.length := by have := pm.size_eq; simpa using this
  have plt : ∀ i, i < ps.length → p.getD i 0 < ps.length := fun i hi => pm.lt (by omega) i
  let qs : List (Addr × Str × Int) := p.toList.map fun i => ps.getD i (0, "", 0)
  have eq1 : out.toList = qs.map fun p => Value.ref p.1 := by
    rw [eo, List.map_map]
    refine List.map_congr_left fun i hi => ?_
    have : i < ps.length := by
      have h1 : p.toList.Perm (List.range ps.length) := by simpa using pm.toList
      exact List.mem_range.mp (h1.mem_iff.mp hi)
    simp [this]
  have pq : qs.Perm ps := by
    have h1 : p.toList.Perm (List.range ps.length) := by simpa using pm.toList
    have h2 := h1.map fun i => ps.getD i (0, "", 0)
    have h3 : (List.range ps.length).map (fun i => ps.getD i (0, "", 0)) = ps := by
      apply List.ext_getElem (by simp)
      intro i a b
      simp [b]
    rw [h3] at h2
    exact h2
  refine ⟨.ref (s.heap.objs.size + 1), _, I.laid (t' := s.toks) (o := .lst (qs.map fun p => .ref p.1)) (fun b o q => sortedAll_old q) (Nat.le_succ _) ⟨by rw [List.length_map, pq.length_eq]; rw [List.length_map] at hz; exact hz, out.toList, e, by rw [eq1]; exact refs_vals qs, by rw [Array.toArray_toList]; exact he⟩, rfl, q _ qs pq (fun i j h hj => ?_) hd⟩
  have hql : qs.length = ps.length := pq.length_eq
  have u := up i j h (by omega)
  unfold ltAt at u
  have gi : ∀ k (hk : k < qs.length), qs[k].2.1 = (ps.map (fun x => x.2.1)).getD (p.getD k 0) ("" : Str) := fun k hk => by
    have k1 : k < p.size := by omega
    have k2 := plt k (by omega)
    have e1 : p.getD k 0 = p[k] := by simp [Array.getD, k1]
    rw [e1] at k2 ⊢
    simp [qs, k2]
  rw [gi j hj, gi i (Nat.lt_trans h hj)]
  exact u
end
end L2
end
section
set_option autoImplicit false
namespace L2
open PySem PySem.Spec PyProof.Rows PySem.W
theorem argBest_least (num : Nat → Str) : ∀ k, argBest (fun i j => ltS (num i) (num j)) k ≤ k ∧ ∀ j, j ≤ k → ltS (num j) (num (argBest (fun i j => ltS (num i) (num j)) k)) = false
  | 0 => ⟨Nat.le_refl _, fun j hj => by
    have : j = 0 := by omega
    rw [this]
    exact ltS_ir _⟩
  | k + 1 => by
    obtain ⟨h1, h2⟩ := argBest_least num k
    unfold argBest
    cases hc : ltS (num (k + 1)) (num (argBest (fun i j => ltS (num i) (num j)) k)) with
    | true =>
      rw [if_pos rfl]
      refine ⟨Nat.le_refl _, fun j hj => ?_⟩
      rcases Nat.lt_or_ge j (k + 1) with g | g
      · cases hx : ltS (num j) (num (k + 1)) with
        | false => rfl
        | true =>
          rcases ltS_nt (b := num (argBest (fun i j => ltS (num i) (num j)) k)) hx with e | e
          · rw [h2 j (by omega)] at e
            cases e
          · rw [ltS_as e] at hc
            cases hc
      · have : j = k + 1 := by omega
        rw [this]
        exact ltS_ir _
    | false =>
      rw [if_neg Bool.false_ne_true]
      refine ⟨Nat.le_succ_of_le h1, fun j hj => ?_⟩
      rcases Nat.lt_or_ge j (k + 1) with g | g
      · exact h2 j (by omega)
      · have : j = k + 1 := by omega
        rw [this]
        exact hc
section
variable {X : Cx}
theorem call_minS (hc : X.calm = true) : CallR X (.builtin "min") (fun xs H Q => ∃ l ns, xs = [.ref l] ∧ H l = some (.lst (ns.map V.str)) ∧ ns ≠ [] ∧ ∀ m, m ∈ ns → (∀ a ∈ ns, ltS a m = false) → Q (.str m) H) := by
  intro pins s σ H xs us Q I r h
  obtain ⟨l, ns, rfl, hl, hne, q⟩ := h
  obtain ⟨u, rfl, ru⟩ := vals1 r
  cases ru
  obtain ⟨its, rv, p1, hz1⟩ := I.list (SqL.of hl)
  have hlen : its.length = ns.length := by rw [← rv.length, List.length_map]
  have hval : ∀ (i : Nat) (v : Value), its.toArray[i]? = some v → ∃ t, v = .str (ns.getD i "") t := fun i v e => by
    have hi : i < ns.length := by
      have := (Array.getElem?_eq_some_iff.mp e).1
      rw [List.size_toArray] at this
      omega
    obtain ⟨t, ht⟩ := vals_strs rv i ns[i] (List.getElem?_eq_getElem hi)
    have e' : its[i]? = some v := by simpa using e
    rw [ht] at e'
    exact ⟨t, by rw [← Option.some.inj e']; simp [hi]⟩
  have hpos : 0 < ns.length := List.length_pos_iff.mpr hne
  have hh : X.A.handled = none := I.ok.hd hc
  have p2 : s.heap.IsList l its.toArray := p1.isList
  have hlt : l < s.heap.objs.size := by
    obtain ⟨_, e, _⟩ := p2
    exact Heap.lt_size e
  refine call_min_walk (wpAny_pyIter_list p2 ?_)
  refine ⟨_, _, _, _, _, _, (fun i j => ltS (ns.getD i "") (ns.getD j "")), rfl, Walks.list (A := X.A.in1) hh _ l (Nat.ne_of_lt hlt) its.toArray, ⟨⟨_, Heap.get?_push_size _ rfl, rfl, rfl⟩, p2.push _⟩, fun b hb => ?_, by simpa [hlen] using hpos, ?_, fun v h' tk hP hk => ?_⟩
  · show b < (s.heap.push _).objs.size
    rw [Heap.size_push]
    rcases List.mem_cons.mp hb with e | hb
    · rw [e]
      exact Nat.lt_succ_self _
    · rw [List.mem_singleton.mp hb]
      exact Nat.lt_succ_of_lt hlt
  · intro i j vi vj s' Q' E' hi hj h
    obtain ⟨t, rfl⟩ := hval i vi hi
    obtain ⟨u, rfl⟩ := hval j vj hj
    refine richCompare_gives (op := .Lt) (typeIs_str s' _ t) (typeIs_str s' _ u) F.slot_str_lt F.entry_str_lt (F.args_str_lt_2 _ _) (gives_str_lt _ _ t u) (fun x => nomatch x) ?_
    have e : ltS (ns.getD i "") (ns.getD j "") = decide ((ns.getD i "").cps.toList < (ns.getD j "").cps.toList) := by
      unfold ltS
      rw [ltCps_eq]
    rw [← e]
    exact h
  · have e1 : its.toArray.size = ns.length := by simp [hlen]
    rw [e1] at hP
    obtain ⟨t, rfl⟩ := hval _ v hP
    obtain ⟨h1, h2⟩ := argBest_least (fun i => ns.getD i "") (ns.length - 1)
    have hb := Nat.lt_of_le_of_lt h1 (Nat.sub_lt hpos Nat.one_pos)
    refine ⟨.str _, H, I.kept (old_kept hk), ⟨_, rfl⟩, q _ ?_ fun a ha => ?_⟩
    · rw [List.getD_eq_getElem?_getD, List.getElem?_eq_getElem hb]
      exact List.getElem_mem hb
    · obtain ⟨j, hj, rfl⟩ := List.getElem_of_mem ha
      have := h2 j (by omega)
      have ej : ns.getD j "" = ns[j] := by simp [hj]
      rw [ej] at this
      exact this
end
def Ris : List (Str × Int) → Prop
  | [] => True
  | p :: ps => (∀ q ∈ ps, ltS p.1 q.1 = true) ∧ Ris ps
theorem ris_uniq : ∀ {ps qs : List (Str × Int)}, Ris ps → Ris qs → ps.Perm qs → ps = qs
  | [], qs, _, _, h => (List.Perm.nil_eq h)
  | p :: ps, [], _, _, h => absurd h.length_eq (by simp)
  | p :: ps, q :: qs, hp, hq, h => by
    have e : p = q := by
      rcases List.mem_cons.mp (h.mem_iff.mp List.mem_cons_self) with e | e
      · exact e
      rcases List.mem_cons.mp (h.mem_iff.mpr List.mem_cons_self) with e' | e'
      · exact e'.symm
      have h1 := hp.1 q e'
      have h2 := hq.1 p e
      rw [ltS_as h1] at h2
      cases h2
    subst e
    rw [ris_uniq hp.2 hq.2 (h.cons_inv)]
theorem ris_of : ∀ {ps : List (Str × Int)}, (ps.map (·.1)).Nodup → (∀ i j (h : i < j) (hj : j < ps.length), ltS ps[j].1 (ps[i]'(Nat.lt_trans h hj)).1 = false) → Ris ps
  | [], _, _ => trivial
  | p :: ps, nd, h => by
    obtain ⟨n1, n2⟩ := List.nodup_cons.mp nd
    refine ⟨fun q hq => ?_, ris_of n2 fun i j hij hj => h (i + 1) (j + 1) (by omega) (by simpa using hj)⟩
    obtain ⟨j, hj, rfl⟩ := List.getElem_of_mem hq
    have := h 0 (j + 1) (by omega) (by simpa using hj)
    have ne : ¬ p.1 = ps[j].1 := fun e => n1 (by show p.1 ∈ _; rw [e]; exact List.mem_map.mpr ⟨_, List.getElem_mem hj, rfl⟩)
    rcases ltS_tot ne with g | g
    · exact g
    · have this : ltS ps[j].1 p.1 = false := this
      rw [this] at g
      cases g
end L2
end
section
set_option autoImplicit false
namespace K23
open PySem PyProof.Rows L2
structure KR where
  kind : Str
  elders : List Str
  fields : List Str
def krT (r : KR) : T := .tup [.str r.kind, .tup (r.elders.map T.str), .tup (r.fields.map T.str)]
def knd (ks : List KR) : List Str := ks.map (·.kind)
def famK (ks : List KR) : Fam := ks.map fun r => (r.kind, r.elders)
theorem nms_famK (ks : List KR) : nms (famK ks) = knd ks := by
  unfold nms famK knd
  rw [List.map_map]
  rfl
structure DR where
  kind : Str
  name : Str
  more : T
  body : T
def drT (d : DR) : T := .tup [.str d.kind, .str d.name, d.more, d.body]
structure GoodK (ks : List KR) : Prop where
  nd : (knd ks).Nodup
  len : ks.length ≤ 7
  el : ∀ i r, ks[i]? = some r → (∀ e ∈ r.elders, e ∈ (knd ks).take i) ∧ r.elders.length ≤ 7
  fl : ∀ r ∈ ks, r.fields.length ≤ 100
  ords : ∃ g : Str → Option (List Str), ∀ r ∈ ks, ∃ os, g r.kind = some (r.kind :: os) ∧ Mg (full (rowsBy g r.elders)) (some os)
theorem knd_at {ks : List KR} {i : Nat} {r : KR} (h : ks[i]? = some r) : (knd ks)[i]? = some r.kind := by
  unfold knd
  rw [List.getElem?_map, h]
  rfl
theorem GoodK.fam {ks : List KR} (G : GoodK ks) : GoodF (famK ks) where
  nd := by rw [nms_famK]; exact G.nd
  sub := fun r hr e he => by
    obtain ⟨r0, h0, rfl⟩ := List.mem_map.mp hr
    obtain ⟨i, hi, rfl⟩ := List.getElem_of_mem h0
    rw [nms_famK]
    exact List.mem_of_mem_take ((G.el i _ (List.getElem?_eq_getElem hi)).1 e he)
  len := by unfold famK; rw [List.length_map]; exact G.len
  el := fun r hr => by
    obtain ⟨r0, h0, rfl⟩ := List.mem_map.mp hr
    obtain ⟨i, hi, rfl⟩ := List.getElem_of_mem h0
    exact (G.el i _ (List.getElem?_eq_getElem hi)).2
  topo := by
    refine ⟨knd ks, G.nd, fun x => by rw [nms_famK], fun r hr => ?_⟩
    obtain ⟨r0, h0, rfl⟩ := List.mem_map.mp hr
    obtain ⟨i, hi, rfl⟩ := List.getElem_of_mem h0
    exact ⟨i, knd_at (List.getElem?_eq_getElem hi), (G.el i _ (List.getElem?_eq_getElem hi)).1⟩
theorem GoodK.ord {ks : List KR} (G : GoodK ks) : ∀ r ∈ ks, ∃ os, ordF (famK ks) r.kind = some (r.kind :: os) ∧ Mg (full (rowsBy (ordF (famK ks)) r.elders)) (some os) := by
  obtain ⟨g, hg⟩ := G.ords
  have key : ∀ (i : Nat) (r : KR), ks[i]? = some r → ordF (famK ks) r.kind = g r.kind ∧ ∃ os, ordF (famK ks) r.kind = some (r.kind :: os) ∧ Mg (full (rowsBy (ordF (famK ks)) r.elders)) (some os) := by
    intro i
    induction i using Nat.strongRecOn with
    | ind i ih =>
      intro r hi
      have hr : r ∈ ks := List.mem_of_getElem? hi
      obtain ⟨os, h1, h2⟩ := hg r hr
      have eo := ord_eq G.fam (r := (r.kind, r.elders)) (List.mem_map.mpr ⟨r, hr, rfl⟩)
      have eld : ∀ e ∈ r.elders, ordF (famK ks) e = g e ∧ (g e).isSome = true := fun e he => by
        obtain ⟨j, hj, ej⟩ := mem_take_ix ((G.el i r hi).1 e he)
        unfold knd at ej
        rw [List.getElem?_map] at ej
        cases hkj : ks[j]? with
        | none => rw [hkj] at ej; cases ej
        | some r' =>
          rw [hkj] at ej
          cases ej
          obtain ⟨a, _⟩ := ih j hj r' hkj
          obtain ⟨os', b, _⟩ := hg r' (List.mem_of_getElem? hkj)
          exact ⟨a, by rw [b]; rfl⟩
      have er : rowsBy (ordF (famK ks)) r.elders = rowsBy g r.elders := by
        unfold rowsBy
        congr 1
        exact List.map_congr_left fun e he => by rw [(eld e he).1]
      rw [if_pos (by rw [List.all_eq_true]; intro e he; rw [(eld e he).1]; exact (eld e he).2), er, mergeR_eq h2] at eo
      have eo : ordF (famK ks) r.kind = some (r.kind :: os) := eo
      exact ⟨by rw [eo, h1], os, eo, by rw [er]; exact h2⟩
  intro r hr
  obtain ⟨i, hi, rfl⟩ := List.getElem_of_mem hr
  exact (key i _ (List.getElem?_eq_getElem hi)).2
def ownS (ds : List DR) (k : Str) (i : Nat) : List (Str × Int) := match ds[i]? with
  | some d => if d.kind = k then [(d.name, 1 + (i : Int))] else []
  | none => []
def ownP (ds : List DR) (k : Str) (m : Nat) : List (Str × Int) := (List.range m).flatMap (ownS ds k)
theorem ownP_succ {ds : List DR} {k : Str} {m : Nat} {d : DR} (h : ds[m]? = some d) : ownP ds k (m + 1) = ownP ds k m ++ (if d.kind = k then [(d.name, 1 + (m : Int))] else []) := by
  unfold ownP
  rw [List.range_succ, List.flatMap_append]
  show _ ++ (ownS ds k m ++ []) = _
  rw [List.append_nil]
  unfold ownS
  rw [h]
theorem ownP_mem {ds : List DR} {k : Str} {m : Nat} {p : Str × Int} (h : p ∈ ownP ds k m) : ∃ i d, i < m ∧ ds[i]? = some d ∧ d.kind = k ∧ p = (d.name, 1 + (i : Int)) := by
  obtain ⟨i, hi, hp⟩ := List.mem_flatMap.mp h
  unfold ownS at hp
  cases hd : ds[i]? with
  | none => rw [hd] at hp; cases hp
  | some d =>
    rw [hd] at hp
    have hp : p ∈ (if d.kind = k then [(d.name, 1 + (i : Int))] else []) := hp
    by_cases e : d.kind = k
    · rw [if_pos e] at hp
      exact ⟨i, d, List.mem_range.mp hi, hd, e, List.mem_singleton.mp hp⟩
    · rw [if_neg e] at hp
      cases hp
theorem ownP_len (ds : List DR) (k : Str) : ∀ m, m ≤ ds.length → (ownP ds k m).length ≤ m
  | 0, _ => Nat.le_refl _
  | m + 1, h => by
    rw [ownP_succ (List.getElem?_eq_getElem h), List.length_append]
    have := ownP_len ds k m (by omega)
    split <;> simp <;> omega
def keysD (ds : List DR) : List (Str × Str) := ds.map fun d => (d.kind, d.name)
theorem ownP_nd {ds : List DR} (nd : (keysD ds).Nodup) (k : Str) : ∀ m, m ≤ ds.length → ((ownP ds k m).map (·.1)).Nodup
  | 0, _ => List.nodup_nil
  | m + 1, h => by
    have ih := ownP_nd nd k m (by omega)
    rw [ownP_succ (List.getElem?_eq_getElem h)]
    by_cases e : ds[m].kind = k
    · rw [if_pos e, List.map_append]
      refine nd_snoc ih fun hx => ?_
      obtain ⟨p, hp, ep⟩ := List.mem_map.mp hx
      obtain ⟨i, d, hi, hd, hk, rfl⟩ := ownP_mem hp
      have h1 : (keysD ds)[i]? = some (d.kind, d.name) := by unfold keysD; rw [List.getElem?_map, hd]; rfl
      have h2 : (keysD ds)[m]? = some (ds[m].kind, ds[m].name) := by unfold keysD; rw [List.getElem?_map, List.getElem?_eq_getElem h]; rfl
      have ep : d.name = ds[m].name := ep
      rw [hk, ep] at h1
      rw [e] at h2
      obtain ⟨l1, e1⟩ := List.getElem?_eq_some_iff.mp h1
      obtain ⟨l2, e2⟩ := List.getElem?_eq_some_iff.mp h2
      have := (List.getElem_inj nd).mp (e1.trans e2.symm)
      omega
    · rw [if_neg e, List.append_nil]
      exact ih
noncomputable def risP (ds : List DR) (k : Str) : List (Str × Int) := open Classical in if h : ∃ ps, Ris ps ∧ ps.Perm (ownP ds k ds.length) then Classical.choose h else []
theorem risP_eq {ds : List DR} {k : Str} {ps : List (Str × Int)} (h1 : Ris ps) (h2 : ps.Perm (ownP ds k ds.length)) : ps = risP ds k := by
  unfold risP
  rw [dif_pos ⟨ps, h1, h2⟩]
  obtain ⟨a, b⟩ := Classical.choose_spec (⟨ps, h1, h2⟩ : ∃ ps, Ris ps ∧ ps.Perm (ownP ds k ds.length))
  exact ris_uniq h1 a (h2.trans b.symm)
def deedT (d : Str × Int) : T := .tup [.str d.1, .int d.2]
noncomputable def rowK (f : Fam) (ds : List DR) (r : KR) : T := .tup [.str r.kind, .tup (r.elders.map T.str), .tup (((ordF f r.kind).getD []).map T.str), .tup (r.fields.map T.str), .tup ((risP ds r.kind).map deedT), .int 0]
noncomputable def tabK (ks : List KR) (ds : List DR) : T := .tup (ks.map (rowK (famK ks) ds))
theorem Dp.of_kr {H : Hp} {r : KR} {v : V} (d : Dp H (krT r) v) : ∃ q e f, v = .ref q ∧ H q = some (.tup [.str r.kind, .ref e, .ref f]) ∧ H e = some (.tup (r.elders.map V.str)) ∧ H f = some (.tup (r.fields.map V.str)) := by
  obtain ⟨q, xs, rfl, hq, dl⟩ := L2.Dp.of_tup d
  obtain ⟨x1, r1, rfl, d1, dl⟩ := dl.cases
  obtain ⟨x2, r2, rfl, d2, dl⟩ := dl.cases
  obtain ⟨x3, r3, rfl, d3, dl⟩ := dl.cases
  have e1 := L2.Dp.of_str d1
  have e4 := dl.of_nil
  obtain ⟨e, ys, rfl, he, dl2⟩ := L2.Dp.of_tup d2
  obtain ⟨f, zs, rfl, hf, dl3⟩ := L2.Dp.of_tup d3
  subst e1 e4
  rw [DpL.of_strs dl2] at he
  rw [DpL.of_strs dl3] at hf
  exact ⟨q, e, f, rfl, hq, he, hf⟩
theorem Dp.kr {H : Hp} {q e f : Addr} {r : KR} (hq : H q = some (.tup [.str r.kind, .ref e, .ref f])) (he : H e = some (.tup (r.elders.map V.str))) (hf : H f = some (.tup (r.fields.map V.str))) : Dp H (krT r) (.ref q) :=
  L2.Dp.tup hq (.cons (L2.Dp.str _) (.cons (L2.Dp.tup he (DpL.strs _)) (.cons (L2.Dp.tup hf (DpL.strs _)) .nil)))
theorem Dp.of_dr {H : Hp} {d : DR} {v : V} (h : Dp H (drT d) v) : ∃ q m b, v = .ref q ∧ H q = some (.tup [.str d.kind, .str d.name, m, b]) := by
  obtain ⟨q, xs, rfl, hq, dl⟩ := L2.Dp.of_tup h
  obtain ⟨x1, r1, rfl, d1, dl⟩ := dl.cases
  obtain ⟨x2, r2, rfl, d2, dl⟩ := dl.cases
  obtain ⟨x3, r3, rfl, d3, dl⟩ := dl.cases
  obtain ⟨x4, r4, rfl, d4, dl⟩ := dl.cases
  have e1 := L2.Dp.of_str d1
  have e2 := L2.Dp.of_str d2
  have e4 := dl.of_nil
  subst e1 e2 e4
  exact ⟨q, _, _, rfl, hq⟩
end K23
end
section
set_option autoImplicit false
namespace K23
open PySem PyProof.Rows L2
def OrdsG (H : Hp) (kvs : List (Key × V)) (g : Str → List Str) (ns : List Str) : Prop := ∀ x ∈ ns, ∃ q, valV kvs (.inr x) = some (.ref q) ∧ H q = some (.tup ((g x).map V.str)) ∧ (g x).length ≤ 8
theorem OrdsG.mono {H H' : Hp} {kvs : List (Key × V)} {g : Str → List Str} {ns : List Str} (h : OrdsG H kvs g ns) (s : Tups H H') : OrdsG H' kvs g ns := fun x hx => by
  obtain ⟨q, h1, h2, h3⟩ := h x hx
  exact ⟨q, h1, s q _ h2, h3⟩
theorem cutV_to (xs : List V) (k : Nat) (h : k ≤ xs.length) : cutV xs none (some (k : Int)) = xs.take k := by
  unfold cutV
  rw [HT.sIx_nat, Nat.min_eq_left h]
  rfl
theorem cut1_to (xs : List V) : cutV xs none (some 1) = xs.take 1 := by
  cases xs with
  | nil => rfl
  | cons x xs => exact cutV_to (x :: xs) 1 (by rw [List.length_cons]; omega)
def rowsG (g : Str → List Str) (es : List Str) : List (List Str) := es.map g ++ [es]
theorem tot_rowsG {g : Str → List Str} {es : List Str} (h : ∀ x ∈ es, (g x).length ≤ 8) : tot (rowsG g es) ≤ 9 * es.length := by
  have tl : ∀ es : List Str, (∀ x ∈ es, (g x).length ≤ 8) → tot (es.map g) ≤ 8 * es.length := by
    intro es
    induction es with
    | nil => exact fun _ => Nat.le_refl _
    | cons x es ih =>
      intro h
      rw [List.map_cons, tot_cons, List.length_cons]
      have := h x List.mem_cons_self
      have := ih fun y hy => h y (List.mem_cons_of_mem _ hy)
      omega
  have ta : tot (rowsG g es) = tot (es.map g) + es.length := by
    unfold rowsG tot
    rw [List.map_append, List.sum_append]
    simp
  have := tl es h
  omega
theorem out_id {x : Str} {q : List Str} (h : ¬ x ∈ q) : outOf x q = q := by
  unfold outOf
  rw [List.filter_eq_self]
  intro y hy
  exact decide_eq_true fun e => h (e ▸ hy)
theorem mg_single : ∀ (os : List Str), os.Nodup → Mg (full [os]) (some os)
  | [], _ => .nil
  | y :: os, nd => by
    obtain ⟨n1, n2⟩ := List.nodup_cons.mp nd
    have ih := mg_single os n2
    have hh : ¬ heldIn [y :: os] y = true := by
      unfold heldIn
      simp [n1]
    have hf : frees [y :: os] = y :: [] := by
      show (if heldIn [y :: os] y = true then [] else [y]) ++ [] = _
      rw [if_neg hh]
      rfl
    have ho : full ([y :: os].map (outOf y)) = full [os] := by
      have : outOf y (y :: os) = os := by
        have h1 : outOf y (y :: os) = outOf y os := by
          unfold outOf
          rw [List.filter_cons]
          simp
        rw [h1, out_id n1]
      show full [outOf y (y :: os)] = _
      rw [this]
    have := Mg.step hf (r := some os) (by rw [ho]; exact ih)
    exact this
theorem mg_one {e : Str} {os : List Str} (nd : (e :: os).Nodup) : Mg (full [e :: os, [e]]) (some (e :: os)) := by
  obtain ⟨n1, n2⟩ := List.nodup_cons.mp nd
  have ih := mg_single os n2
  have hh : ¬ heldIn [e :: os, [e]] e = true := by
    unfold heldIn
    simp [n1]
  have hf : frees [e :: os, [e]] = e :: [e] := by
    show (if heldIn [e :: os, [e]] e = true then [] else [e]) ++ ((if heldIn [e :: os, [e]] e = true then [] else [e]) ++ []) = _
    rw [if_neg hh]
    rfl
  have h1 : outOf e (e :: os) = os := by
    have h1 : outOf e (e :: os) = outOf e os := by
      unfold outOf
      rw [List.filter_cons]
      simp
    rw [h1, out_id n1]
  have h2 : outOf e [e] = [] := by
    unfold outOf
    simp
  have ho : full ([e :: os, [e]].map (outOf e)) = full [os] := by
    show full [outOf e (e :: os), outOf e [e]] = _
    rw [h1, h2]
    cases os <;> rfl
  have hfull : full [e :: os, [e]] = [e :: os, [e]] := rfl
  rw [hfull]
  exact Mg.step hf (r := some os) (by rw [ho]; exact ih)
def GOk (g : Str → List Str) (S : List Str) : Prop := ∀ x ∈ S, (g x).Nodup ∧ (∃ os, g x = x :: os) ∧ ∀ y ∈ g x, y ∈ S
theorem mg_eld {g : Str → List Str} {es S : List Str} (gg : GOk g S) (sub : ∀ x ∈ es, x ∈ S) (h : es.length ≤ 1 ∨ ∃ os, Mg (full (rowsG g es)) (some os)) : ∃ os, Mg (full (rowsG g es)) (some os) := by
  rcases h with h | h
  · cases es with
    | nil => exact ⟨[], .nil⟩
    | cons e r =>
      cases r with
      | nil =>
        obtain ⟨nd, ⟨os, eo⟩, _⟩ := gg e (sub e List.mem_cons_self)
        rw [eo] at nd
        refine ⟨e :: os, ?_⟩
        show Mg (full [g e, [e]]) _
        rw [eo]
        exact mg_one nd
      | cons e2 r => simp at h
  · exact h
theorem mg_new {g : Str → List Str} {es S os : List Str} (gg : GOk g S) (sub : ∀ x ∈ es, x ∈ S) (h : Mg (full (rowsG g es)) (some os)) : os.Nodup ∧ ∀ y ∈ os, y ∈ S := by
  obtain ⟨h1, h2⟩ := Mg.some_sub h os rfl
  refine ⟨h2, fun y hy => ?_⟩
  obtain ⟨q, hq, hyq⟩ := h1 y hy
  have hq := (List.mem_filter.mp hq).1
  rcases List.mem_append.mp hq with h | h
  · obtain ⟨e, he, rfl⟩ := List.mem_map.mp h
    exact (gg e (sub e he)).2.2 y hyq
  · rw [List.mem_singleton.mp h] at hyq
    exact sub y hyq
def putG (g : Str → List Str) (x : Str) (o : List Str) : Str → List Str := fun y => if y = x then o else g y
theorem GOk.put {g : Str → List Str} {S os : List Str} {x : Str} (gg : GOk g S) (hx : ¬ x ∈ S) (nd : os.Nodup) (sub : ∀ y ∈ os, y ∈ S) : GOk (putG g x (x :: os)) (S ++ [x]) := fun y hy => by
  unfold putG
  by_cases e : y = x
  · rw [if_pos e, e]
    refine ⟨List.nodup_cons.mpr ⟨fun h => hx (sub x h), nd⟩, ⟨os, rfl⟩, fun z hz => ?_⟩
    rcases List.mem_cons.mp hz with rfl | h
    · exact List.mem_append_right _ (List.mem_singleton.mpr rfl)
    · exact List.mem_append_left _ (sub z h)
  · rw [if_neg e]
    have hy' : y ∈ S := by
      rcases List.mem_append.mp hy with h | h
      · exact h
      · exact absurd (List.mem_singleton.mp h) e
    obtain ⟨a, b, c⟩ := gg y hy'
    exact ⟨a, b, fun z hz => List.mem_append_left _ (c z hz)⟩
theorem OrdsG.put {H H' : Hp} {kvs : List (Key × V)} {g : Str → List Str} {S os : List Str} {x : Str} {q : Addr} (h : OrdsG H kvs g S) (s : Tups H H') (hq : H' q = some (.tup (os.map V.str))) (hl : os.length ≤ 8) : OrdsG H' (putK kvs (.inr x) (.ref q)) (putG g x os) (S ++ [x]) := fun y hy => by
  unfold putG
  rw [valV_put]
  by_cases e : y = x
  · rw [if_pos e, if_pos (by rw [e])]
    exact ⟨q, rfl, hq, hl⟩
  · rw [if_neg e, if_neg (by intro z; injection z with z; exact e z)]
    have hy' : y ∈ S := by
      rcases List.mem_append.mp hy with h | h
      · exact h
      · exact absurd (List.mem_singleton.mp h) e
    exact h.mono s y hy'
end K23
end
section
set_option autoImplicit false
namespace L2
open PySem PySem.Spec PyProof.Rows
section
variable {X : Cx}
end
end L2
end
section
set_option autoImplicit false
namespace L2
open PySem PySem.Spec PyProof.Rows
end L2
end
section
set_option autoImplicit false
namespace HT
open PySem PySem.Spec PyProof.Rows
section
variable {prog : Program} {w : World} {A : Around} {E : Value → Shared → Prop} {s : Shared}
theorem getItem_tuple_whole {t sl : Addr} {items : Array Value} {vl vu : Value} {lo hi : Option Int} {Q : Value → Shared → Prop} (ht : IsTup s.heap t items) (hs : s.heap.IsSliceOf sl vl vu .none) (pl : IsPart vl lo) (pu : IsPart vu hi)
    (hw : sIx items.size 0 lo = 0 ∧ sIx items.size items.size hi = items.size) (h : Q (.ref t) s) : wpAny (model prog w) A (getItem (.ref t) (.ref sl)) Q E s := by
  obtain ⟨os, hos, hcs, hds⟩ := id hs
  have hTs : s.TypeIs (.ref sl) "slice" := ⟨os, hos, hcs⟩
  unfold getItem
  try with_reducible refine wpAny_holding ?_
  first | refine wpAny_bind (wpAny_pure ?_) | skip
  refine wpAny_bind (wpAny_sequenceKey ht.typeIs (by decide) ?_)
  refine wpAny_bind (wpAny_callSpecial?_slot (name := Str.ofString "__getitem__") ht.typeIs PyProof.Rows.slot_tuple_getitem
    (wpAny_call_entry PyProof.Rows.slot_tuple_getitem ht.typeIs entry_tuple_getitem ?_ (args_tuple_getitem _ _)))
  show wpAny _ _ (Builtin.Tuple.tupleItemsOf (.ref t) >>= _) _ _ s
  refine wpAny_bind (tupleItemsOf_ ht ?_)
  refine wpAny_bind (wpAny_typeOf hTs ?_)
  rw [if_pos (by decide)]
  refine wpAny_bind (sliceApplied_gen hs pl pu ?_)
  have hyes : (((sIx items.size 0 lo : Nat) : Int) == 0 && (1 : Int) == 1 && (sIx items.size items.size hi - sIx items.size 0 lo) == items.size) = true := by
    rw [hw.1, hw.2]
    simp
  show wpAny _ _ (if (((sIx items.size 0 lo : Nat) : Int) == 0 && (1 : Int) == 1 && (sIx items.size items.size hi - sIx items.size 0 lo) == items.size) = true then _ else _) _ _ s
  rw [if_pos hyes]
  unfold Builtin.Tuple.tupleIsExact
  refine wpAny_bind (wpAny_bind (wpAny_typeOf ht.typeIs (wpAny_pure ?_)))
  rw [if_pos (by decide)]
  refine wpAny_bind (wpAny_rule ?_)
  exact wpAny_pure ⟨_, rfl, wpAny_pure h⟩
end
end HT
namespace L2
open PySem PySem.Spec PyProof.Rows
section
variable {X : Cx}
def rSlW (K : PySem.W.Frag) : V → Option Int → Option Int → Hp → VK → Prop := fun x lo hi H Q => ∃ a xs, x = .ref a ∧ H a = some (.tup xs) ∧
  ∀ p H', H' p = some (.tup (cutV xs lo hi)) → Same H H' → Q (.ref p) H'
theorem sl_tupW : SlR X (rSlW X.K) := by
  intro pins s σ H x v vl vu lo hi sl Q I rx hs pl pu h
  obtain ⟨a, xs, rfl, hx, q⟩ := h
  by_cases hw : HT.sIx xs.length 0 lo = 0 ∧ HT.sIx xs.length xs.length hi = xs.length
  · cases rx
    obtain ⟨its, r, ht, hz⟩ := I.tuple (SqT.of (K := X.K) hx)
    have hlen : its.toArray.size = xs.length := by rw [List.size_toArray]; exact r.length.symm
    refine ⟨"tuple", _, PyProof.Rows.slot_tuple_getitem.lookup, ht.typeIs, ?_⟩
    refine HT.getItem_tuple_whole ht hs pl pu (by rw [hlen]; exact hw) ?_
    have e : cutV xs lo hi = xs := by
      unfold cutV
      rw [hw.1, hw.2]
      simp
    exact ⟨.ref a, H, I, rfl, q a H (by rw [e]; exact hx) (Same.refl H)⟩
  · exact sl_tup pins s σ H (.ref a) v vl vu lo hi sl Q I rx hs pl pu ⟨a, xs, rfl, SqT.of hx, hw, fun p hp => q p _ upd_same (Same.new hp)⟩
def rCatW : R2 := fun x y H Q => ∃ a b xs ys, x = .ref a ∧ y = .ref b ∧ H a = some (.tup xs) ∧ H b = some (.tup ys) ∧ xs ≠ [] ∧ xs.length + ys.length ≤ sizeLine ∧ ∀ p H', H' p = some (.tup (xs ++ ys)) → Same H H' → Q (.ref p) H'
theorem op_catW : OpR X (binaryOp .Add) rCatW := by
  intro pins s σ H x y v u Q I rx ry h
  obtain ⟨a, b, xs, ys, rfl, rfl, ha, hb, hne, hz, q⟩ := h
  exact op_catT pins s σ H (.ref a) (.ref b) v u Q I rx ry ⟨a, b, xs, ys, rfl, rfl, SqT.of ha, SqT.of hb, hne, hz, fun e => q a H (by rw [e, List.append_nil]; exact ha) (Same.refl H), fun _ p hp => q p _ upd_same (Same.new hp)⟩
end
end L2
end
section
set_option autoImplicit false
namespace K23
open PySem PyProof.Rows L2
structure KOk (g : Str → List Str) (ns : List Str) (i : Nat) (rs : List KR) : Prop where
  kn : knd rs = ns.take i
  el : ∀ j r, rs[j]? = some r → (∀ e ∈ r.elders, e ∈ ns.take j) ∧ r.elders.length ≤ 7
  fl : ∀ r ∈ rs, r.fields.length ≤ 100
  mg : ∀ r ∈ rs, ∃ os, g r.kind = r.kind :: os ∧ Mg (full (rowsG g r.elders)) (some os)
theorem putG_ne {g : Str → List Str} {x y : Str} {o : List Str} (h : ¬ y = x) : putG g x o y = g y := by
  unfold putG
  rw [if_neg h]
theorem KOk.snoc {g : Str → List Str} {ns : List Str} {i : Nat} {rs : List KR} (h : KOk g ns i rs) (hi : i < ns.length) (hni : ¬ ns[i] ∈ ns.take i) {es fs os : List Str} (sub : ∀ e ∈ es, e ∈ ns.take i) (hel : es.length ≤ 7) (hfl : fs.length ≤ 100) (hm : Mg (full (rowsG g es)) (some os)) : KOk (putG g ns[i] (ns[i] :: os)) ns (i + 1) (rs ++ [⟨ns[i], es, fs⟩]) := by
  have same : ∀ es' : List Str, (∀ e ∈ es', e ∈ ns.take i) → rowsG (putG g ns[i] (ns[i] :: os)) es' = rowsG g es' := fun es' hs => by
    unfold rowsG
    congr 1
    exact List.map_congr_left fun e he => putG_ne fun z => hni (z ▸ hs e he)
  have rl : rs.length = i := by
    have := congrArg List.length h.kn
    unfold knd at this
    rw [List.length_map, List.length_take] at this
    omega
  refine ⟨?_, fun j r hj => ?_, fun r hr => ?_, fun r hr => ?_⟩
  · unfold knd
    rw [List.map_append, take_snoc hi]
    show knd rs ++ [ns[i]] = _
    rw [h.kn]
  · by_cases hj' : j < rs.length
    · rw [List.getElem?_append_left hj'] at hj
      exact h.el j r hj
    · rw [List.getElem?_append_right (by omega)] at hj
      have e0 : j - rs.length = 0 := by
        have := (List.getElem?_eq_some_iff.mp hj).1
        rw [List.length_singleton] at this
        omega
      rw [e0] at hj
      cases hj
      have : j = i := by omega
      rw [this]
      exact ⟨sub, hel⟩
  · rcases List.mem_append.mp hr with h' | h'
    · exact h.fl r h'
    · rw [List.mem_singleton.mp h']
      exact hfl
  · rcases List.mem_append.mp hr with h' | h'
    · obtain ⟨os', h1, h2⟩ := h.mg r h'
      have hk : r.kind ∈ ns.take i := by rw [← h.kn]; exact List.mem_map.mpr ⟨r, h', rfl⟩
      have ne : ¬ r.kind = ns[i] := fun z => hni (by rw [← z]; exact hk)
      refine ⟨os', by rw [putG_ne ne]; exact h1, ?_⟩
      obtain ⟨j, hj, rfl⟩ := List.getElem_of_mem h'
      rw [same _ fun e he => ?_]
      · exact h2
      · have h3 := (h.el j _ (List.getElem?_eq_getElem hj)).1 e he
        exact (List.take_subset_take_left ns (by omega : j ≤ i)) h3
    · rw [List.mem_singleton.mp h']
      refine ⟨os, by unfold putG; rw [if_pos rfl], ?_⟩
      rw [same _ sub]
      exact hm
theorem KOk.good {g : Str → List Str} {ns : List Str} {rs : List KR} (h : KOk g ns ns.length rs) (nd : ns.Nodup) (h7 : ns.length ≤ 7) : GoodK rs := by
  have hk : knd rs = ns := by rw [h.kn, List.take_of_length_le (Nat.le_refl _)]
  have hl : rs.length = ns.length := by rw [← hk]; exact (List.length_map _).symm
  exact ⟨by rw [hk]; exact nd, by omega, fun i r hi => by rw [hk]; exact h.el i r hi, h.fl, fun x => some (g x), fun r hr => by
    obtain ⟨os, h1, h2⟩ := h.mg r hr
    exact ⟨os, congrArg some h1, h2⟩⟩
section
variable {P : Program} {w : World} {K : PySem.W.Frag} {mg : Str → Option Value} {base : Heap} {t : Adr}
def spKinds : Sp := fun vs H Q _ => ∃ (p u fl : Addr) (n : Int) (fs : List Str), vs = [.ref p, .int n, .ref u, .ref fl] ∧ Pu H p ∧ H u = some (.lst []) ∧ 1 ≤ n ∧ n ≤ 7 ∧ H fl = some (.lst (fs.map V.str)) ∧ fs.length ≤ 100 ∧
  ∀ (v : V) (ks : List KR) H', Dp H' (.tup (ks.map krT)) v → GoodK ks → ks.length = n.toNat → Off p H H' → Pu H' p → Q v H'
theorem ok_kinds (D : Defs K mg t) : FnOk P w K mg base CX0 4 t._law_kinds.1 t._law_kinds.2 ["_law_purse_here", "_law_many", "_law_used", "_law_fields"] spKinds := by
  have G__law_take : FnOk P w K mg base CX0 1 t._law_take.1 t._law_take.2 _ spTake := ok_take D
  have G__law_words : FnOk P w K mg base CX0 3 t._law_words.1 t._law_words.2 _ spWords := ok_words D
  have G__law_some : FnOk P w K mg base CX0 2 t._law_some.1 t._law_some.2 _ spSome := ok_some D
  have G__law_merge : FnOk P w K mg base CX0 1 t._law_merge.1 t._law_merge.2 _ spMerge := ok_merge D
  have hz : sizeLine = 16777216 := sizeLine_eq
  refine D._law_kinds.fn.ok sc__law_kinds (fun vs H Q E h => ?_) (fun cdv A outer s H vs Q E hr h => ?_)
  · obtain ⟨p, u, fl, n, fs, rfl, _⟩ := h
    rfl
  · obtain ⟨p, u, fl, n, fs, rfl, hp, hu, hn1, hn7, hfl, hfs, k⟩ := h
    have flp : fl ≠ p := hp.ne hfl
    refine ⟨_, (pss_cons (ps_set (i := 4) sc__law_kinds.nd rfl (Or.inl rfl) (pe_callF D._law_words G__law_words (hr.mono (by omega)) (by rfl) (pa_cons (pv 0) (pa_cons (pv 1) (pa_cons (pv 2) pa_nil)))))
      (pss_cons (ps_asg (pe_tup (pa_cons (pe_lst pa_nil) (pa_cons pe_dnewK pa_nil))) (pg_tup rfl (pgs_cons (pg_name (i := 5) sc__law_kinds.nd rfl (Or.inl rfl)) (pgs_cons (pg_name (i := 6) sc__law_kinds.nd rfl (Or.inr rfl)) pgs_nil))))
      (pss_cons (ps_for PassesOwn.never rfl (pi_enumerate rfl D.b_enumerate (pa_cons (pv 4) pa_nil)) (pg_tup rfl (pgs_cons (pg_name (i := 7) sc__law_kinds.nd rfl (Or.inl rfl)) (pgs_cons (pg_name (i := 8) sc__law_kinds.nd rfl (Or.inl rfl)) pgs_nil)))
      (pss_cons (ps_set (i := 9) sc__law_kinds.nd rfl (Or.inl rfl) (pe_callF D._law_some G__law_some (hr.mono (by omega)) (by rfl) (pa_cons (pv 0) (pa_cons (pe_slice sl_list (pv 4) po_none (po_some (pv 7))) (pa_cons (pe_ix ix_list (pe_lst (pa_cons pe_int (pa_cons pe_int pa_nil))) (pe_callTy call_int1 (by rfl) D.b_int bt_int (pa_cons (pe_cmpR op_eq (pe_callF D._law_take G__law_take (hr.mono (by omega)) (by rfl) (pa_cons (pv 0) (pa_cons pe_int pa_nil))) pe_int (nomark _)) pa_nil)) (fun _ _ => rfl)) pa_nil)))))
      (pss_cons (ps_set (i := 10) sc__law_kinds.nd rfl (Or.inl rfl) (pe_callF D._law_merge G__law_merge (hr.mono (by omega)) (by rfl) (pa_cons (pv 8) (pa_cons (pe_op op_cat (pe_comp rfl (CompScope.of ["_law_one"] [6] ["_law_one", "_law_orders"] (defScope (top 23)) ["_law_purse_here", "_law_many", "_law_used", "_law_fields", "_law_names", "_law_kinds_here", "_law_orders", "_law_k", "_law_kind", "_law_elders", "_law_order"] rfl rfl (by decide +kernel)) ⟨fun _ _ _ _ _ => (pg_name (i := 0) (show List.Nodup [("_law_one" : Str), ("_law_orders" : Str)] by decide +kernel) rfl (Or.inl (lookup_relabel_local rfl)) (.inr (lookup_relabel_local rfl))), fun _ _ _ _ _ => pts_nil, fun _ _ _ _ _ => (pe_dget (hu_of hr) (pv 1) (pv 0) (fun _ _ => rfl))⟩ (pi_tup (pv 9))) (pe_lst (pa_cons (pv 9) pa_nil))) pa_nil))))
      (pss_join (ps_if (pt_cmpR op_isN (pv 10) pe_non (nomark _))
      (pss_cons (ps_set (i := 9) sc__law_kinds.nd rfl (Or.inl rfl) (pe_slice sl_tupW (pv 9) po_none (po_some pe_int)))
      (pss_one (ps_set (i := 10) sc__law_kinds.nd rfl (Or.inl rfl) (pe_callF D._law_merge G__law_merge (hr.mono (by omega)) (by rfl) (pa_cons (pv 8) (pa_cons (pe_op op_cat (pe_comp rfl (CompScope.of ["_law_one"] [6] ["_law_one", "_law_orders"] (defScope (top 23)) ["_law_purse_here", "_law_many", "_law_used", "_law_fields", "_law_names", "_law_kinds_here", "_law_orders", "_law_k", "_law_kind", "_law_elders", "_law_order"] rfl rfl (by decide +kernel)) ⟨fun _ _ _ _ _ => (pg_name (i := 0) (show List.Nodup [("_law_one" : Str), ("_law_orders" : Str)] by decide +kernel) rfl (Or.inl (lookup_relabel_local rfl)) (.inr (lookup_relabel_local rfl))), fun _ _ _ _ _ => pts_nil, fun _ _ _ _ _ => (pe_dget (hu_of hr) (pv 1) (pv 0) (fun _ _ => rfl))⟩ (pi_tup (pv 9))) (pe_lst (pa_cons (pv 9) pa_nil))) pa_nil))))))
      pss_nil)
      (pss_cons (ps_dput (hu_of hr) (pv 6) (pv 8) (pv 10) rfl)
      (pss_one (ps_expr (pe_bm PySem.F.plainAttrs_list PySem.F.slot_list_append PySem.F.type_list_append mt_append (pv 5) (pa_cons (pe_tup (pa_cons (pv 8) (pa_cons (pv 9) (pa_cons (pe_callF D._law_some G__law_some (hr.mono (by omega)) (by rfl) (pa_cons (pv 0) (pa_cons (pv 3) (pa_cons pe_int pa_nil)))) pa_nil)))) pa_nil)))))))))
      (pss_one (ps_ret (pe_callTy call_tuple_of (by rfl) D.b_tuple bt_tuple (pa_cons (pv 5) pa_nil))))))), ?_⟩
    refine ⟨_, rfl, _, rfl, _, rfl, p, u, n, rfl, hp, hu, by omega, by omega, fun l ns H1 _ hns nd hl1 o1 p1 => ?_⟩
    have lp : l ≠ p := p1.ne hl1
    have hns7 : ns.length ≤ 7 := by omega
    refine ⟨Nat.zero_le _, fun rl hrl od hod => ⟨by show 2 ≤ sizeLine; decide, fun tq htq => ?_⟩⟩
    have p3 := ((p1.upd_ne (o := .lst []) (p1.neN hrl)).upd_ne (o := .dK []) ((p1.upd_ne (p1.neN hrl)).neN hod)).upd_ne (o := .tup [.ref rl, .ref od]) (((p1.upd_ne (p1.neN hrl)).upd_ne ((p1.upd_ne (p1.neN hrl)).neN hod)).neN htq)
    have o3 : Off p H (upd (upd (upd H1 rl (.lst [])) od (.dK [])) tq (.tup [.ref rl, .ref od])) := o1.trans ((Off.new hrl).trans ((Off.new hod).trans (Off.new htq)))
    have rlo : rl ≠ od := ne_of_none upd_same hod
    have odt : od ≠ tq := ne_of_none upd_same htq
    have rlt : rl ≠ tq := fun e => by rw [← e, upd_ne rlo, upd_same] at htq; cases htq
    have hrl3 : (upd (upd (upd H1 rl (.lst [])) od (.dK [])) tq (.tup [.ref rl, .ref od])) rl = some (.lst []) := by rw [upd_ne rlt, upd_ne rlo, upd_same]
    have hod3 : (upd (upd (upd H1 rl (.lst [])) od (.dK [])) tq (.tup [.ref rl, .ref od])) od = some (.dK []) := by rw [upd_ne odt, upd_same]
    have lrl : l ≠ rl := ne_of_none hl1 hrl
    have lod : l ≠ od := fun e => by rw [← e, upd_ne lrl, hl1] at hod; cases hod
    have ltq : l ≠ tq := fun e => by rw [← e, upd_ne lod, upd_ne lrl, hl1] at htq; cases htq
    have hl3 : (upd (upd (upd H1 rl (.lst [])) od (.dK [])) tq (.tup [.ref rl, .ref od])) l = some (.lst (ns.map V.str)) := by rw [upd_ne ltq, upd_ne lod, upd_ne lrl]; exact hl1
    have nof : ∀ {b : Addr}, b ≠ p → H1 b = none → H b = none := fun {b} hb hn => by
      cases q : H b with
      | none => rfl
      | some o => rw [o1 b o hb q] at hn; cases hn
    have hrlH : H rl = none := nof (p1.neN hrl).symm hrl
    have hodH : H od = none := nof ((p1.upd_ne (p1.neN hrl)).neN hod).symm (by rw [upd_ne rlo.symm] at hod; exact hod)
    have rlp : rl ≠ p := (p1.neN hrl).symm
    have odp : od ≠ p := ((p1.upd_ne (p1.neN hrl)).neN hod).symm
    refine ⟨tq, _, rfl, SqT.of upd_same, rfl, _, _, rfl, _, _, rfl, rfl, ?_⟩
    generalize upd (upd (upd H1 rl (.lst [])) od (.dK [])) tq (.tup [.ref rl, .ref od]) = H3 at p3 o3 hrl3 hod3 hl3
    refine ⟨_, rfl, l, _, rfl, SqL.of hl3, for_enum (K := K) (a := l) (xs := ns.map V.str) (fun i σ H2 => ∃ (rs : List KR) (ys : List V) (kvs : List (Key × V)) (g : Str → List Str) (v7 v8 v9 v10 : Option V), σ = [some (.ref p), some (.int n), some (.ref u), some (.ref fl), some (.ref l), some (.ref rl), some (.ref od), v7, v8, v9, v10] ∧
      KOk g ns i rs ∧ kvs.length ≤ i ∧ OrdsG H2 kvs g (ns.take i) ∧ GOk g (ns.take i) ∧ H2 rl = some (.lst ys) ∧ DpL H2 (rs.map krT) ys ∧ H2 od = some (.dK kvs) ∧ H2 l = some (.lst (ns.map V.str)) ∧ Off p H H2 ∧ Pu H2 p)
      ⟨[], [], [], fun _ => [], _, _, _, _, rfl, ⟨rfl, fun j r h => by simp at h, by simp, by simp⟩, Nat.le_refl _, fun x hx => by simp at hx, fun x hx => by simp at hx, hrl3, .nil, hod3, hl3, o3, p3⟩ (fun i σ H2 _ ⟨_, _, _, _, _, _, _, _, _, _, _, _, _, _, _, _, e, _⟩ => SqL.of e) ?_ ?_⟩
    · rintro i x σ H2 q0 hi ⟨rs, ys, kvs, g, v7, v8, v9, v10, rfl, ko, hkl, og, gg, hrl2, dl2, hod2, hl2, o2, p2⟩ hq0
      have hil : i < ns.length := by
        have := (List.getElem?_eq_some_iff.mp hi).1
        rwa [List.length_map] at this
      have ex : x = .str ns[i] := by
        rw [List.getElem?_map, List.getElem?_eq_getElem hil] at hi
        exact (Option.some.inj hi).symm
      subst ex
      have hni : ¬ ns[i] ∈ ns.take i := fun h => by
        have nd' := nd
        rw [← List.take_append_drop i ns] at nd'
        exact (List.nodup_append.mp nd').2.2 _ h _ (by rw [List.drop_eq_getElem_cons hil]; exact List.mem_cons_self) rfl
      refine ⟨q0, _, rfl, SqT.of upd_same, rfl, _, _, rfl, _, _, rfl, rfl, ?_⟩
      have s0 : Same H2 (upd H2 q0 (.tup [.int i, .str ns[i]])) := Same.new hq0
      refine ⟨_, rfl, _, rfl, _, rfl, _, rfl, l, _, rfl, SqL.of (s0 l _ hl2), fun m hm => ?_⟩
      have s1 := s0.trans (Same.new (o := .lst (cutV (ns.map V.str) none (some (i : Int)))) hm)
      have hm1 : (upd (upd H2 q0 (.tup [.int i, .str ns[i]])) m (.lst (cutV (ns.map V.str) none (some (i : Int))))) m = some (.lst ((ns.take i).map V.str)) := by rw [upd_same, cutV_to _ _ (by rw [List.length_map]; omega), List.map_take]
      generalize upd (upd H2 q0 (.tup [.int i, .str ns[i]])) m (.lst (cutV (ns.map V.str) none (some (i : Int)))) = H4 at s1 hm1
      have hti : (ns.take i).length ≤ 7 := by rw [List.length_take]; omega
      refine ⟨by show 2 ≤ sizeLine; decide, fun m3 hm3 => ?_⟩
      have p4 : Pu H4 p := p2.same s1
      have pm3 : p ≠ m3 := p4.neN hm3
      have mm3 : m ≠ m3 := ne_of_none hm1 hm3
      refine ⟨_, rfl, p, 4, rfl, p4.upd_ne pm3, by decide, by decide, fun r a1 b1 c1 l1 u1 => ?_⟩
      have mp : m ≠ p := p4.ne hm1
      have o4 : Off p H2 (upd (upd H4 m3 (.lst [.int 3, .int 12])) p (.lst [.int a1, .int b1, .int c1])) := s1.off.trans ((Off.new hm3).trans Off.upd)
      have p4' : Pu (upd (upd H4 m3 (.lst [.int 3, .int 12])) p (.lst [.int a1, .int b1, .int c1])) p := Pu.upd
      have hm34 : (upd (upd H4 m3 (.lst [.int 3, .int 12])) p (.lst [.int a1, .int b1, .int c1])) m3 = some (.lst [.int 3, .int 12]) := by rw [upd_ne pm3.symm, upd_same]
      have hm4 : (upd (upd H4 m3 (.lst [.int 3, .int 12])) p (.lst [.int a1, .int b1, .int c1])) m = some (.lst ((ns.take i).map V.str)) := by rw [upd_ne mp, upd_ne mm3]; exact hm1
      generalize upd (upd H4 m3 (.lst [.int 3, .int 12])) p (.lst [.int a1, .int b1, .int c1]) = H4' at o4 p4' hm34 hm4
      obtain ⟨z, hz', hz12⟩ : ∃ z : Nat, atI [V.int 3, V.int 12] (if decide (V.int r = V.int 1) = true then 1 else 0) = some (.int (z : Nat)) ∧ z ≤ 12 := by
        by_cases hb : decide (V.int r = V.int 1) = true
        · rw [if_pos hb]
          exact ⟨12, atI_nat (j := 1) rfl, by decide⟩
        · rw [if_neg hb]
          exact ⟨3, atI_nat (j := 0) rfl, by decide⟩
      refine ⟨rfl, .inr ⟨_, rfl, m3, _, _, _, rfl, rfl, SqL.of hm34, hz', ?_⟩⟩
      refine ⟨p, m, ns.take i, z, rfl, p4', hm4, by omega, by omega, fun q es H5 hq sub nde _ o5 p5 => ?_⟩
      have o5 : Off p H2 H5 := o4.trans o5
      have hod5 := o5 od _ odp hod2
      have tu5 : Tups H2 H5 := fun c zs e => by
        obtain ⟨x1, x2, x3, ep⟩ := p2
        exact o5 c _ (ne_of e ep (fun z => nomatch z)) e
      have og5 := og.mono tu5
      have hel : es.length ≤ 7 := Nat.le_trans (nodup_le nde (m := ns.take i) sub) hti
      refine ⟨_, rfl, _, rfl, q, rfl, ⟨_, SqT.of hq⟩, fun D1 hD1 => ?_⟩
      have s4 : ∀ u, Same H5 (upd H5 D1 u) := fun u => Same.new hD1
      refine comp_by (n := (es.map V.str).length) (fun j ys H6 => RowsT H5 ys ((es.take j).map g) ∧ H6 = upd H5 D1 (.lst ys)) ⟨.nil, rfl⟩ ?_ ?_
      rotate_left
      · rintro j ys H6 hj ⟨rt, rfl⟩
        have hj' : j < es.length := by rw [List.length_map] at hj; exact hj
        have ej : (es.map V.str)[j]? = some (.str es[j]) := by rw [List.getElem?_map, List.getElem?_eq_getElem hj']; rfl
        refine ⟨⟨_, _, SqT.of (s4 _ q _ hq), ej⟩, ?_⟩
        rintro y H7 ⟨rfl, yy⟩ σo ho
        obtain ⟨oo, rfl⟩ := own1 ho
        have ey := yy _ (SqT.of (s4 _ q _ hq))
        rw [ej] at ey
        cases ey
        obtain ⟨q', h1, h2, _⟩ := og5 es[j] (sub _ (List.getElem_mem hj'))
        refine ⟨⟨[_], rfl, rfl⟩, yes_by ⟨_, rfl, _, rfl, od, .ref q', rfl, .inl ⟨kvs, .inr es[j], .inl (s4 _ od _ hod5), rfl, h1.symm⟩, by rw [Paired.length rt, List.length_map, List.length_take]; omega, upd_same, less_by hj ⟨?_, by rw [upd_upd]⟩⟩⟩
        rw [take_snoc hj', List.map_append]
        exact pairedSnoc rt ⟨q', rfl, h2⟩
      rintro us H6 ⟨rt, rfl⟩
      rw [List.length_map, List.take_of_length_le (Nat.le_refl _)] at rt
      refine ⟨⟨_, SqT.of (s4 _ q _ hq), Nat.le_refl _⟩, ?_⟩
      have hyl : us.length = es.length := by rw [Paired.length rt, List.length_map]
      refine ⟨_, rfl, by show 1 ≤ sizeLine; decide, fun m2 hm2 => ?_⟩
      have s6 := (s4 (.lst us)).trans (Same.new (o := .lst [.ref q]) hm2)
      have hD6 : (upd (upd H5 D1 (.lst us)) m2 (.lst [.ref q])) D1 = some (.lst us) := by rw [upd_ne (ne_of_none upd_same hm2), upd_same]
      refine ⟨D1, m2, us, [.ref q], rfl, rfl, hD6, upd_same, by show us.length + 1 ≤ sizeLine; omega, fun ra hra => ?_⟩
      have s7 := s6.trans (Same.new (o := .lst (us ++ [.ref q])) hra)
      have hra7 : (upd (upd (upd H5 D1 (.lst us)) m2 (.lst [.ref q])) ra (.lst (us ++ [.ref q]))) ra = some (.lst (us ++ [.ref q])) := upd_same
      generalize upd (upd (upd H5 D1 (.lst us)) m2 (.lst [.ref q])) ra (.lst (us ++ [.ref q])) = H7 at s7 hra7
      have rt7 : RowsT H7 (us ++ [.ref q]) (rowsG g es) := pairedSnoc (rt.mono (Same.tups s7)) ⟨q, rfl, s7 q _ hq⟩
      have tt := tot_rowsG (g := g) (es := es) fun x hx => by
        obtain ⟨_, _, _, h⟩ := og5 x (sub x hx)
        exact h
      refine ⟨ns[i], ra, _, rowsG g es, rfl, hra7, rt7, by omega, by unfold rowsG; rw [List.length_append, List.length_map, List.length_singleton]; omega, fun v r H8 hm res s8 => ?_⟩
      have s58 := s7.trans s8
      have p8 : Pu H8 p := p5.same s58
      have o8 : Off p H2 H8 := o5.trans s58.off
      have hq8 := s58 q _ hq
      refine ⟨fun σ H3 => ∃ (q qo : Addr) (es os : List Str), σ = [some (.ref p), some (.int n), some (.ref u), some (.ref fl), some (.ref l), some (.ref rl), some (.ref od), some (.int i), some (.str ns[i]), some (.ref q), some (.ref qo)] ∧ H3 q = some (.tup (es.map V.str)) ∧ H3 qo = some (.tup ((ns[i] :: os).map V.str)) ∧ (∀ x ∈ es, x ∈ ns.take i) ∧ es.length ≤ 7 ∧ Mg (full (rowsG g es)) (some os) ∧ Off p H2 H3 ∧ Pu H3 p, ?_, ?_⟩
      · cases r with
        | some os =>
          obtain ⟨qo, rfl, hqo⟩ : ∃ qo, v = V.ref qo ∧ H8 qo = some (.tup ((ns[i] :: os).map V.str)) := res
          refine ⟨_, rfl, rfl, _, rfl, iteNeg (by rw [decide_eq_false (fun z => nomatch z)]; exact Bool.false_ne_true) ?_⟩
          exact ⟨q, qo, es, os, rfl, hq8, hqo, sub, hel, hm, o8, p8⟩
        | none =>
          have ev : v = .non := res
          subst ev
          refine ⟨_, rfl, rfl, _, rfl, itePos (decide_eq_true rfl) ?_⟩
          refine ⟨_, rfl, _, rfl, q, _, rfl, hq8, fun qb I5 hqb s9 => ?_⟩
          rw [cut1_to, ← List.map_take] at hqb
          have subb : ∀ x ∈ es.take 1, x ∈ ns.take i := fun x hx => sub x (List.mem_of_mem_take hx)
          have hlb : (es.take 1).length ≤ 1 := by rw [List.length_take]; omega
          generalize es.take 1 = eb at hqb subb hlb
          have hod6 := (s58.trans s9) od _ hod5
          have og6 := og5.mono (Same.tups (s58.trans s9))
          refine ⟨_, rfl, _, rfl, qb, rfl, ⟨_, SqT.of hqb⟩, fun D1 hD1 => ?_⟩
          have s4 : ∀ u, Same I5 (upd I5 D1 u) := fun u => Same.new hD1
          refine comp_by (n := (eb.map V.str).length) (fun j ys I6 => RowsT I5 ys ((eb.take j).map g) ∧ I6 = upd I5 D1 (.lst ys)) ⟨.nil, rfl⟩ ?_ ?_
          rotate_left
          · rintro j ys I6 hj ⟨rt, rfl⟩
            have hj' : j < eb.length := by rw [List.length_map] at hj; exact hj
            have ej : (eb.map V.str)[j]? = some (.str eb[j]) := by rw [List.getElem?_map, List.getElem?_eq_getElem hj']; rfl
            refine ⟨⟨_, _, SqT.of (s4 _ qb _ hqb), ej⟩, ?_⟩
            rintro y I7 ⟨rfl, yy⟩ σo ho
            obtain ⟨oo, rfl⟩ := own1 ho
            have ey := yy _ (SqT.of (s4 _ qb _ hqb))
            rw [ej] at ey
            cases ey
            obtain ⟨q', h1, h2, _⟩ := og6 eb[j] (subb _ (List.getElem_mem hj'))
            refine ⟨⟨[_], rfl, rfl⟩, yes_by ⟨_, rfl, _, rfl, od, .ref q', rfl, .inl ⟨kvs, .inr eb[j], .inl (s4 _ od _ hod6), rfl, h1.symm⟩, by rw [Paired.length rt, List.length_map, List.length_take]; omega, upd_same, less_by hj ⟨?_, by rw [upd_upd]⟩⟩⟩
            rw [take_snoc hj', List.map_append]
            exact pairedSnoc rt ⟨q', rfl, h2⟩
          rintro us I6 ⟨rt, rfl⟩
          rw [List.length_map, List.take_of_length_le (Nat.le_refl _)] at rt
          refine ⟨⟨_, SqT.of (s4 _ qb _ hqb), Nat.le_refl _⟩, ?_⟩
          have hyl : us.length = eb.length := by rw [Paired.length rt, List.length_map]
          refine ⟨_, rfl, by show 1 ≤ sizeLine; decide, fun m2 hm2 => ?_⟩
          have s6 := (s4 (.lst us)).trans (Same.new (o := .lst [.ref qb]) hm2)
          have hD6 : (upd (upd I5 D1 (.lst us)) m2 (.lst [.ref qb])) D1 = some (.lst us) := by rw [upd_ne (ne_of_none upd_same hm2), upd_same]
          refine ⟨D1, m2, us, [.ref qb], rfl, rfl, hD6, upd_same, by show us.length + 1 ≤ sizeLine; omega, fun ra hra => ?_⟩
          have s7 := s6.trans (Same.new (o := .lst (us ++ [.ref qb])) hra)
          have hra7 : (upd (upd (upd I5 D1 (.lst us)) m2 (.lst [.ref qb])) ra (.lst (us ++ [.ref qb]))) ra = some (.lst (us ++ [.ref qb])) := upd_same
          generalize upd (upd (upd I5 D1 (.lst us)) m2 (.lst [.ref qb])) ra (.lst (us ++ [.ref qb])) = I7 at s7 hra7
          have rt7 : RowsT I7 (us ++ [.ref qb]) (rowsG g eb) := pairedSnoc (rt.mono (Same.tups s7)) ⟨qb, rfl, s7 qb _ hqb⟩
          have tt := tot_rowsG (g := g) (es := eb) fun x hx => by
            obtain ⟨_, _, _, h⟩ := og6 x (subb x hx)
            exact h
          refine ⟨ns[i], ra, _, rowsG g eb, rfl, hra7, rt7, by omega, by unfold rowsG; rw [List.length_append, List.length_map, List.length_singleton]; omega, fun vb rb I8 hmb resb s8 => ?_⟩
          have t58 := s7.trans s8
          have p9 : Pu I8 p := (p8.same s9).same t58
          have o9 : Off p H2 I8 := (o8.trans s9.off).trans t58.off
          obtain ⟨os, hos⟩ := mg_eld gg subb (.inl hlb)
          have er := Mg.det hmb hos
          subst er
          obtain ⟨qo, rfl, hqo⟩ : ∃ qo, vb = V.ref qo ∧ I8 qo = some (.tup ((ns[i] :: os).map V.str)) := resb
          exact ⟨qb, qo, eb, os, rfl, t58 qb _ hqb, hqo, subb, by omega, hos, o9, p9⟩
      · clear hq8 o8 p8 s58 hm res hel sub nde hq
        rintro σ H8 ⟨q, qo, es, os, rfl, hq8, hqo, sub, hel, hos, o8, p8⟩
        have hod8 := o8 od _ odp hod2
        have hrl8 := o8 rl _ rlp hrl2
        have hl8 := o8 l _ lp hl2
        obtain ⟨ndo, subo⟩ := mg_new gg sub hos
        have hol : (ns[i] :: os).length ≤ 8 := by
          have := nodup_le ndo subo
          rw [List.length_cons]
          omega
        have tu28 : Tups H2 H8 := fun c zs e => by
          obtain ⟨x1, x2, x3, ep⟩ := p2
          exact o8 c _ (ne_of e ep (fun z => nomatch z)) e
        refine ⟨_, rfl, _, rfl, _, rfl, od, _, rfl, DPut.k (k := .inr ns[i]) hod8 (by omega), ?_⟩
        have tu9 : Tups H8 (upd H8 od (.dK (putK kvs (.inr ns[i]) (.ref qo)))) := fun c zs e => by
          rw [upd_ne (ne_of e hod8 (fun z => nomatch z))]
          exact e
        have og9 := (og.mono tu28).put (x := ns[i]) tu9 (tu9 qo _ hqo) hol
        have gg9 := gg.put hni ndo subo
        have p9 := p8.upd_ne (o := .dK (putK kvs (.inr ns[i]) (.ref qo))) odp.symm
        have kp9 : ∀ b u, b ≠ od → H8 b = some u → (upd H8 od (.dK (putK kvs (.inr ns[i]) (.ref qo)))) b = some u := fun b u hb e => by rw [upd_ne hb]; exact e
        have hod9 : (upd H8 od (.dK (putK kvs (.inr ns[i]) (.ref qo)))) od = some (.dK (putK kvs (.inr ns[i]) (.ref qo))) := upd_same
        have tu29 : Tups H2 (upd H8 od (.dK (putK kvs (.inr ns[i]) (.ref qo)))) := tu28.trans tu9
        have hq9 := tu9 q _ hq8
        have hrl9 := kp9 rl _ rlo hrl8
        have hl9 := kp9 l _ lod hl8
        have o9 : Off p H (upd H8 od (.dK (putK kvs (.inr ns[i]) (.ref qo)))) := fun b u hb e => kp9 b u (ne_of_none e hodH) (o8 b u hb (o2 b u hb e))
        have hkl9 : (putK kvs (.inr ns[i]) (V.ref qo)).length ≤ i + 1 := Nat.le_trans (length_putK _ _ _) (by omega)
        generalize hk9 : putK kvs (.inr ns[i]) (V.ref qo) = kvs9 at og9 p9 hod9 tu29 hq9 hrl9 hl9 o9 hkl9
        generalize upd H8 od (.dK kvs9) = H9 at og9 p9 hod9 tu29 hq9 hrl9 hl9 o9
        clear kp9 tu9 hk9
        have hfl9 := o9 fl _ flp hfl
        refine ⟨_, rfl, .inl ⟨rfl, _, SqL.of hrl9⟩, _, rfl, _, rfl, _, rfl, _, rfl, p, fl, fs, 3, rfl, p9, hfl9, by decide, hfs, fun qf fs' H13 hqf _ _ hfl' o13 p13 => ?_⟩
        refine ⟨by show 3 ≤ sizeLine; decide, fun qr hqr => ?_⟩
        have tu913 : Tups H9 H13 := fun c zs e => by
          obtain ⟨x1, x2, x3, ep⟩ := p9
          exact o13 c _ (ne_of e ep (fun z => nomatch z)) e
        have hrl13 := o13 rl _ rlp hrl9
        have hod13 := o13 od _ odp hod9
        have hl13 := o13 l _ lp hl9
        have hyl : ys.length = i := by
          have e1 := dl2.length
          rw [List.length_map] at e1
          have e2 := congrArg List.length ko.kn
          unfold knd at e2
          rw [List.length_map, List.length_take] at e2
          omega
        have qrr : rl ≠ qr := ne_of_none hrl13 hqr
        refine ⟨rl, ys, .ref qr, rfl, rfl, by rw [upd_ne qrr]; exact hrl13, by omega, ?_⟩
        have tu15 : Tups H13 (upd (upd H13 qr (.tup [.str ns[i], .ref q, .ref qf])) rl (.lst (ys ++ [.ref qr]))) := fun c zs e => by
          rw [upd_ne (ne_of e hrl13 (fun z => nomatch z)), upd_ne (ne_of_none e hqr)]
          exact e
        refine ⟨rs ++ [⟨ns[i], es, fs'⟩], ys ++ [.ref qr], kvs9, putG g ns[i] (ns[i] :: os), _, _, _, _, rfl, ko.snoc hil hni sub hel (by omega) hos, hkl9, ?_, ?_, upd_same, ?_, ?_, ?_, ?_, ?_⟩
        · rw [take_snoc hil]
          exact og9.mono (tu913.trans tu15)
        · rw [take_snoc hil]
          exact gg9
        · rw [List.map_append]
          refine (dl2.mono (tu29.trans (tu913.trans tu15))).append (.cons (K23.Dp.kr (e := q) (f := qf) ?_ ((tu913.trans tu15) q _ hq9) (tu15 qf _ hqf)) .nil)
          rw [upd_ne qrr.symm, upd_same]
        · rw [upd_ne rlo.symm, upd_ne (ne_of_none hod13 hqr)]
          exact hod13
        · rw [upd_ne lrl, upd_ne (ne_of_none hl13 hqr)]
          exact hl13
        · intro b u hb e
          rw [upd_ne (ne_of_none e hrlH)]
          exact (Off.new hqr : L2.Off p _ _) b u hb (o13 b u hb (o9 b u hb e))
        · exact (p13.upd_ne (p13.neN hqr)).upd_ne rlp.symm
    · rintro σ H2 ⟨rs, ys, kvs, g, v7, v8, v9, v10, rfl, ko, hkl, og, gg, hrl2, dl2, hod2, hl2, o2, p2⟩
      rw [List.length_map] at ko
      refine ⟨_, rfl, rl, _, rfl, .inl ⟨SqL.of hrl2, fun q hq => ?_⟩⟩
      have hlen : rs.length = ns.length := by
        have e2 := congrArg List.length ko.kn
        unfold knd at e2
        rw [List.length_map, List.length_take] at e2
        omega
      exact k _ rs _ (L2.Dp.tup upd_same (dl2.mono (Same.tups (Same.new hq)))) (ko.good nd hns7) (by omega) (o2.trans (Off.new hq)) (p2.upd_ne (p2.neN hq))
end
end K23
end
section
set_option autoImplicit false
namespace L2
open PySem PySem.Spec PyProof.Rows
section
variable {prog : Program} {w : World} {A : Around} {E : Value → Shared → Prop} {s : Shared}
theorem enum1_new (l : Addr) (t : Tok) (items : Array Value) (n : Nat) (dct : Option Addr) (sl : Array (Option Value)) :
    Meets (Builtin.«enumerate.__new__» ⟨[.type "enumerate", .ref l], [("start", .int 1 t)]⟩) (fun _ R s => s.heap.get? l = some { cls := .type "tuple", dict := dct, data := .seq items n, slots := sl } ∧
      R (.ok (.ret (.ref (s.heap.push { cls := .type "tuple_iterator", data := .fields #[.ref l, .int 0 0] }).objs.size)))
        { s with heap := (s.heap.push { cls := .type "tuple_iterator", data := .fields #[.ref l, .int 0 0] }).push { cls := .type "enumerate", data := .fields #[.none, .bool false, .ref s.heap.objs.size, rawInt 1, .none, .none] } }) :=
  .of_wp fun prog w A R s h => by
    obtain ⟨hp, g, d, tk, os⟩ := s
    obtain ⟨hl, h⟩ := h
    have hsub := sub_enumerate
    have hL : Heap.IsTuple (Shared.heap ⟨hp, g, d, tk, os⟩) l items := ⟨_, hl, rfl, n, rfl⟩
    wp_walk using AutoSeq1.wpAny_loadPart' hl
    refine wpAny_stack_any fun st => wpAny_pure ?_
    split
    · rename_i c _ _ _ _ _
      cases (c == Value.type "enumerate")
      · wp_walk using AutoSeq1.wpAny_loadPart' hl, wpAny_pyIter_tuple hL
        exact ⟨_, rfl, h⟩
      · wp_walk using AutoSeq1.wpAny_loadPart' hl, wpAny_pyIter_tuple hL
        exact ⟨_, rfl, h⟩
    · wp_walk using AutoSeq1.wpAny_loadPart' hl, wpAny_pyIter_tuple hL
      exact ⟨_, rfl, h⟩
theorem objinit_kw {T newId : String} {self a v : Value} {k : Str} (hl : typeLookup (.type T) "__init__" = pure (some (.builtin "object.__init__"))) (hm : Bind.madeBy (.type T) = pure (some newId)) (hne : (some newId != some "object.__new__") = true) :
    Meets (Builtin.«object.__init__» ⟨[self, a], [(k, v)]⟩) (fun _ R s => s.TypeIs self T ∧ R (.ok (.ret .none)) s) :=
  .of_wp fun prog w A R s ⟨hT, hq⟩ => by
    repeat (any_goals (first | assumption | wp_step))
    exact ⟨_, rfl, hq⟩
theorem objargs_kw (o a v : Value) (k : Str) : argsOk "object.__init__" ⟨[o, a], [(k, v)]⟩ := by
  unfold argsOk
  kernel_rfl
theorem typeCall_enum1 (a v : Value) : checkTypeCall "enumerate" ⟨[a], [("start", v)]⟩ = pure () := by kernel_rfl
theorem newCall_enum1 (a v : Value) : checkBuiltinCall "enumerate.__new__" ⟨[.type "enumerate", a], [("start", v)]⟩ = pure () := by kernel_rfl
end
end L2
end
section
set_option autoImplicit false
namespace L2
open PySem PySem.Spec PyProof.Rows
section
variable {prog : Program} {w : World} {A : Around} {E : Value → Shared → Prop} {s : Shared}
theorem callT_kw {T newId : String} {Bn : Builtin} {a v : Value} {k : Str} {S : PySem.Spec} {Q : Value → Shared → Prop} (ft : TypeCalled T newId "object.__init__") (hne : (some newId != some "object.__new__") = true)
    (hct : checkTypeCall T ⟨[a], [(k, v)]⟩ = pure ()) (hcn : checkBuiltinCall newId ⟨[.type T, a], [(k, v)]⟩ = pure ()) (entryN : entryFor table newId = some Bn) (g : Meets (Bn ⟨[.type T, a], [(k, v)]⟩) S)
    (h : S A.in1 (wants (fun obj s₁ => s₁.TypeIs obj T ∧ Q obj s₁) E) s) : wpAny (model prog w) A (call (.type T) [a] [(k, v)]) Q E s := by
  have hmade := ft.made
  have h2 := ft.canCreate
  have hsub := ft.sub
  have h1 := ft.notType
  have ⟨c, tl, hmro⟩ := ft.mro
  refine wpAny_call (codeAny_of_tree (show wpAny _ _ (callAny (.type T) _) _ _ _ from wpAny_pure ⟨Code.quiet_builtin _ (by decide +kernel), codeAny_builtin F.entry_type_call ?_⟩))
  rw [Around.under_plain (weight_type_call_type T [a] [(k, v)]) (units_type_call_type T [a] [(k, v)])]
  repeat (any_goals (first | assumption | wp_step))
  refine codeAny_mono (codeAny_call_builtin ft.plain entryN (wpAny_of_eq hcn (g prog w A.in1 _ s h))) fun r s1 hr => ?_
  cases r with
  | ok fl =>
    cases fl with
    | ret obj =>
      obtain ⟨hT, hq⟩ := hr
      have hbi := ft.init.bind obj
      have hli := ft.init.lookup
      repeat (any_goals (first | assumption | wp_step))
      refine codeAny_mono (codeAny_call_builtin ft.init.plain F.entry_object_init (ft.init.check _ _ _ _ _ _ _ _ hT (objargs_kw obj a v k) (objinit_kw ft.init.lookup ft.made hne prog w A.in1 (wants (fun r s₂ => r = .none ∧ Q obj s₂) E) s1 ⟨hT, rfl, hq⟩))) fun r2 s2 hr2 => ?_
      cases r2 with
      | ok fl2 =>
        cases fl2 with
        | ret r =>
          obtain ⟨rfl, hq⟩ := hr2
          repeat (any_goals (first | assumption | wp_step))
        | _ => exact hr2.elim
      | error e => exact hr2
    | _ => exact hr.elim
  | error e => exact hr
theorem call_enum1 {l : Addr} {t : Tok} {items : Array Value} {Q : Value → Shared → Prop} (hL : s.heap.IsTuple l items)
    (h : ∀ h', IsEnum h' (s.heap.objs.size + 1) s.heap.objs.size 1 .none → h'.IsTupleIter s.heap.objs.size l 0 → (∀ b o, s.heap.get? b = some o → h'.get? b = some o) → Q (.ref (s.heap.objs.size + 1)) { s with heap := h' }) :
    wpAny (model prog w) A (call (.type "enumerate") [.ref l] [("start", .int 1 t)]) Q E s := by
  obtain ⟨⟨c, dct, dt, sl⟩, hl, hc, n, hd⟩ := hL
  have hc : c = .type "tuple" := hc
  have hd : dt = .seq items n := hd
  subst hc hd
  refine callT_kw F.called_enumerate (by decide) (typeCall_enum1 _ _) (newCall_enum1 _ _) F.entry_enumerate_new (enum1_new l t items n dct sl) ⟨hl, ?_⟩
  have hz : (s.heap.push { cls := .type "tuple_iterator", data := .fields #[.ref l, .int 0 0] }).objs.size = s.heap.objs.size + 1 := Heap.size_push ..
  show _ ∧ _
  rw [hz]
  have he : IsEnum ((s.heap.push { cls := .type "tuple_iterator", data := .fields #[.ref l, .int 0 0] }).push { cls := .type "enumerate", data := .fields #[.none, .bool false, .ref s.heap.objs.size, rawInt 1, .none, .none] }) (s.heap.objs.size + 1) s.heap.objs.size 1 .none := by
    rw [← hz]
    exact Heap.get?_push_size _ rfl
  exact ⟨⟨_, he, rfl⟩, h _ he ⟨_, Heap.get?_push_of_some _ (Heap.get?_push_size _ rfl), rfl, rfl⟩ fun b o e => Heap.get?_push_of_some _ (Heap.get?_push_of_some _ e)⟩
end
theorem cwT_kw {M : Model} {A : Around} {E : Value → Shared → Prop} {s : Shared} {pos : Pos} {T : String} {args : List (Bool × Sem Value)} {keywords : List (Option Str × Sem Value)} {Q : Value → Shared → Prop} (hp : args.any (·.1) = false) (hk : keywords.any (·.1.isNone) = false)
    (h : wpAny M A (evalArgs (.type T) true args keywords) (fun a s₁ => wpAny M A (call (.type T) a.pos a.kw) Q E s₁) E s) : wpAny M A (callWith pos (.type T) [] args keywords) Q E s := by
  unfold callWith
  refine wpAny_bind (wpAny_holding (wpAny_mono h (fun a s1 h1 => wpAny_bind (wpAny_standAt ?_)) fun _ _ x => x))
  simp only [hk, hp, Bool.or_false]
  exact wpAny_bind (wpAny_pure (wpAny_bind (wpAny_mono h1 (fun r s2 hr => wpAny_bind (wpAny_holding (wpAny_point (wpAny_pure hr)))) fun _ _ x => x)))
theorem cwT_kw1 {M : Model} {A : Around} {E : Value → Shared → Prop} {s : Shared} {env : Env} {pos kp : Pos} {T : String} {a v : Expr} {k : Str} {Q : Value → Shared → Prop}
    (h : wpAny M A (spliced (backTo pos (starEach [a] env))) (fun vs s1 => wpAny M A (eval v env) (fun u s2 => wpAny M A (call (.type T) vs [(k, u)]) Q E s2) E s1) E s)
    (he : starEach [a] env = (false, eval a env) :: starEach [] env) (hp : (backTo pos (starEach [a] env)).any (·.1) = false) :
    wpAny M A (callWith pos (.type T) [] (backTo pos (starEach [a] env)) (backToKw pos (keywordEach [⟨some k, v, kp⟩] env))) Q E s := by
  refine cwT_kw hp rfl ?_
  rw [he] at h ⊢
  refine evalArgs_kwB rfl (thn h fun vs s1 h1 => kws_cons (thn h1 fun u s2 h2 => kws_nil ?_))
  exact h2
def Ite1 (K : PySem.W.Frag) (a : Addr) : It :=
  ⟨fun i H => ∃ xs x, SqT K H a xs ∧ xs[i]? = some x, fun i H v H' => ∃ p, H p = none ∧ v = .ref p ∧ ∀ xs x, SqT K H a xs → xs[i]? = some x → H' = upd H p (.tup [.int (1 + (i : Int)), x]), fun i H => ∃ xs, SqT K H a xs ∧ xs.length ≤ i⟩
theorem turn_enum1 {P : Program} {w : World} {K : PySem.W.Frag} {elts : List Expr} {x1 : Nat} {tpos : Pos} {e it l : Addr} (hne : e ≠ it) : Turn P w K (.Tuple elts x1 tpos) (Ite1 K l) [e, it] e
    (fun i h => (∃ old, IsEnum h e it (1 + (i : Int)) old) ∧ h.IsTupleIter it l i) where
  mem := by simp
  obj := fun i h st b hb => by
    obtain ⟨⟨old, he⟩, o, ei, c, d⟩ := st
    simp only [List.mem_cons, List.not_mem_nil, or_false] at hb
    rcases hb with rfl | rfl
    · exact ⟨_, he, fun v q => nomatch q⟩
    · exact ⟨o, ei, fun v z => by rw [d] at z; cases z⟩
  keep := fun i h h' st k => by
    obtain ⟨⟨old, he⟩, o, ei, r⟩ := st
    exact ⟨⟨old, k e (by simp) _ he⟩, o, k it (by simp) _ ei, r⟩
  item := by
    intro X hP hw hK hc i pins s σ H E I hf st hg
    subst hP hw hK
    obtain ⟨xs, x, hq, hx⟩ := hg
    obtain ⟨its, rv, p, hz⟩ := I.tuple hq
    obtain ⟨u, hu, ru⟩ := rv.get hx
    obtain ⟨⟨old, he⟩, hit⟩ := st
    refine nextE_item he hit (show s.heap.IsTuple l its.toArray from p) (x := u) (by simpa using hu) hne fun h' a1 a2 a3 a5 => ?_
    refine ⟨_, rfl, wpAny_letOwnedTupleGo_enum a1 fun h2' a1' q' => ?_⟩
    have hn : H s.heap.objs.size = none := I.hok.fresh (Nat.le_refl _)
    have elt : e < s.heap.objs.size := Heap.lt_size he
    have ilt : it < s.heap.objs.size := by obtain ⟨_, e, _⟩ := hit; exact Heap.lt_size e
    have kk : ∀ b ob, b ∉ [e, it] → s.heap.get? b = some ob → h2'.get? b = some ob := fun b ob hb ee => by
      simp only [List.mem_cons, List.not_mem_nil, or_false, not_or] at hb
      exact q'.extBut _ _ hb.1 (a5 b ob hb.1 hb.2 ee)
    have I1 : Inv X pins σ (upd H s.heap.objs.size (.tup [.int (1 + (i : Int)), x])) { s with heap := h2', toks := s.toks + 1 } := I.turnLaid (t' := s.toks + 1) hf kk (Nat.le_refl _)
      ⟨⟨by show 2 ≤ sizeLine; decide, fun o ee => by rw [q'.extBut _ _ (Nat.ne_of_gt elt) a3] at ee; cases ee; rfl⟩, [.int (1 + (i : Int)) s.toks, u], .cons ⟨_, rfl⟩ (.cons ru .nil), ⟨_, q'.extBut _ _ (Nat.ne_of_gt elt) a3, rfl, _, rfl⟩⟩
    refine ⟨.ref s.heap.objs.size, _, I1, rfl, ⟨_, hn, rfl, fun xs' x' k1 k3 => ?_⟩, ⟨⟨_, by simpa [Int.add_assoc] using a1'⟩, a2.extBut q'.extBut hne.symm⟩, fun b hb => ?_⟩
    · rw [I.tuple_inj k1 hq, hx] at k3
      cases k3
      rfl
    · have hb' := hb
      simp only [List.mem_cons, List.not_mem_nil, or_false] at hb'
      have hlt : b < s.heap.objs.size := by
        rcases hb' with rfl | rfl
        · exact elt
        · exact ilt
      rw [upd_ne (Nat.ne_of_lt hlt)]
      exact (hf b hb).1
  done := by
    intro X hP hw hK hc i pins s σ H E I hf st hg
    subst hP hw hK
    obtain ⟨xs, hq, hx⟩ := hg
    obtain ⟨its, rv, p, hz⟩ := I.tuple hq
    obtain ⟨⟨old, he⟩, hit⟩ := st
    have hl := rv.length
    refine nextE_end (I.ok.hd hc) he hit (show s.heap.IsTuple l its.toArray from p) (by simp; omega) fun h' eb => ⟨rfl, I.turnedL (t' := s.toks) hf fun b u hb q => ?_⟩
    simp only [List.mem_cons, List.not_mem_nil, or_false, not_or] at hb
    exact eb b u hb.2 q
  self := fun _ _ _ _ _ st h => by
    obtain ⟨⟨old, he⟩, _⟩ := st
    exact wpAny_pyIter_enum he h
section
variable {X : Cx} {K : PySem.W.Frag}
def iEnum1 (K : PySem.W.Frag) (ta : TA) : TI := fun σ H R => ta σ H fun vs H1 => ∃ a xs, vs = [.ref a] ∧ SqT K H1 a xs ∧ R (Ite1 K a) H1
theorem pi_enum1 {elts : List Expr} {x1 : Nat} {tpos : Pos} {a : Expr} {ta : TA} {p pos kp ip : Pos} {kk : Nat} (hK : X.K = K) (hg : Gl X "enumerate") (hm : X.mg "enumerate" = none) (ha : PA X [a] ta)
    (he : starEach [a] X.env = (false, eval a X.env) :: starEach [] X.env := by rfl) (hpl : (backTo pos (starEach [a] X.env)).any (·.1) = false := by rfl) : PI X (.Tuple elts x1 tpos) (.Call (.Name "enumerate" p) [a] [⟨some "start", .Constant (.int 1) kk ip, kp⟩] pos) (iEnum1 K ta) := by
  subst hK
  intro pins s σ H R I h
  have boot_enum : bootBuiltins "enumerate" = some (.type "enumerate") := by decide +kernel
  refine wpAny_Call_Name_kw (ld_blt I hg hm boot_enum ?_)
  refine cwT_kw1 (thn (ha pos pins s σ H _ I h) fun us s1 ⟨vs, H1, I1, r1, t1, xs, e, q1, q⟩ => ?_) he hpl
  subst e
  obtain ⟨u, rfl, ru⟩ := vals1 r1
  cases ru
  refine thn (pe_int pins s1 σ H1 (fun v H => v = .int 1 ∧ H = H1) I1 ⟨rfl, rfl⟩) fun w s2 ⟨v, H2, I2, r2, e2, e3⟩ => ?_
  subst e2 e3
  obtain ⟨tk, rfl⟩ := r2
  have hne : s2.heap.objs.size + 1 ≠ s2.heap.objs.size := by change @Ne Nat _ _; omega
  have fp : ∀ b ∈ [s2.heap.objs.size + 1, s2.heap.objs.size], FpOk X pins H2 b := fun b hb => by
    have hle : s2.heap.objs.size ≤ b := by
      simp only [List.mem_cons, List.not_mem_nil, or_false] at hb
      rcases hb with h | h <;> rw [h] <;> first | exact Nat.le_refl _ | exact Nat.le_add_right _ _
    exact I2.fpOk hle (I2.hok.fresh hle)
  obtain ⟨its, rv, p1, hz1⟩ := I2.tuple q1
  refine call_enum1 (show s2.heap.IsTuple t1 its.toArray from p1) fun h' hE hI hk => ?_
  refine wpAny_pyIter_enum hE ?_
  exact ⟨s2.heap.objs.size + 1, [s2.heap.objs.size + 1, s2.heap.objs.size], _, Ite1 X.K t1, H2, rfl, I2.kept (t' := s2.toks) hk, turn_enum1 hne, ⟨⟨_, hE⟩, hI⟩, fp, q⟩
end
end L2
end
section
set_option autoImplicit false
namespace K23
open PySem PyProof.Rows L2
section
variable {P : Program} {w : World} {K : PySem.W.Frag} {mg : Str → Option Value} {base : Heap} {t : Adr}
def spFamOf : Sp := fun vs H Q _ => ∃ (v : V) (ks : List KR), vs = [v] ∧ Dp H (.tup (ks.map krT)) v ∧ ks.length ≤ 1000 ∧ ∀ (u : V) H', Dp H' (famT (famK ks)) u → Same H H' → Q u H'
theorem ok_famOf (D : Defs K mg t) : FnOk P w K mg base CX0 1 t.family_of.1 t.family_of.2 ["table"] spFamOf := by
  have hz : sizeLine = 16777216 := sizeLine_eq
  refine D.family_of.fn.ok sc_family_of (fun vs H Q E h => ?_) (fun cdv A outer s H vs Q E hr h => ?_)
  · obtain ⟨v, ks, rfl, _⟩ := h
    rfl
  · obtain ⟨v, ks, rfl, dv, hlen, k⟩ := h
    obtain ⟨a, xs, rfl, ha, dl⟩ := L2.Dp.of_tup dv
    have hxl : xs.length = ks.length := by have := dl.length; rwa [List.length_map] at this
    refine ⟨_, (pss_one (ps_ret (pe_callTy call_tuple_of (by rfl) D.b_tuple bt_tuple (pa_cons (pe_comp rfl (CompScope.of ["row"] [] ["row"] (defScope (top 11)) ["table"] rfl rfl (by decide +kernel)) ⟨fun _ _ _ _ _ => (pg_name (i := 0) (show List.Nodup [("row" : Str)] by decide +kernel) rfl (Or.inl (lookup_relabel_local rfl)) (.inr (lookup_relabel_local rfl))), fun _ _ _ _ _ => pts_nil, fun _ _ _ _ _ => (pe_tup (pa_cons (pe_ix (ix_tup_K (K := K) rfl) (pv 0) pe_int (fun _ _ => rfl)) (pa_cons (pe_ix (ix_tup_K (K := K) rfl) (pv 0) pe_int (fun _ _ => rfl)) pa_nil)))⟩ (pi_tup (pv 0))) pa_nil)))), ?_⟩
    refine ⟨_, rfl, a, rfl, ⟨_, SqT.of ha⟩, fun D1 hD1 => ?_⟩
    refine comp_by (n := xs.length) (fun i ys H2 => DpL H2 ((famK (ks.take i)).map rowT) ys ∧ H2 D1 = some (.lst ys) ∧ Same H H2) ⟨.nil, upd_same, Same.new hD1⟩ ?_ ?_
    · rintro ys H2 ⟨dy, hD2, s2⟩
      rw [List.take_of_length_le (by omega)] at dy
      refine ⟨⟨_, SqT.of (s2 a _ ha), Nat.le_refl _⟩, D1, _, rfl, .inl ⟨SqL.of hD2, fun q hq => ?_⟩⟩
      exact k _ _ (L2.Dp.tup upd_same (dy.mono (Same.tups (Same.new hq)))) (s2.trans (Same.new hq))
    · rintro i ys H2 hi ⟨dy, hD2, s2⟩
      have hik : i < ks.length := by omega
      obtain ⟨x, ex, dx⟩ := dl.get (i := i) (t := krT ks[i]) (by rw [List.getElem?_map, List.getElem?_eq_getElem hik]; rfl)
      refine ⟨⟨_, _, SqT.of (s2 a _ ha), ex⟩, ?_⟩
      rintro v H3 ⟨rfl, yy⟩ σo ho
      obtain ⟨oo, rfl⟩ := own1 ho
      have ev := yy _ (SqT.of (s2 a _ ha))
      rw [ex] at ev
      cases ev
      obtain ⟨q, e, f, rfl, hq, he, hf⟩ := K23.Dp.of_kr (dx.mono (Same.tups s2))
      refine ⟨⟨[_], rfl, rfl⟩, yes_by ⟨_, rfl, q, _, _, _, rfl, rfl, SqT.of hq, atI_nat (j := 0) rfl, _, rfl, q, _, _, _, rfl, rfl, SqT.of hq, atI_nat (j := 1) rfl, by show 2 ≤ sizeLine; decide, fun p hp => ?_⟩⟩
      have pD : D1 ≠ p := ne_of_none hD2 hp
      have yl : ys.length ≤ 1000 := by
        have := dy.length
        unfold famK at this
        rw [List.length_map, List.length_map, List.length_take] at this
        omega
      refine ⟨by omega, by rw [upd_ne pD]; exact hD2, less_by hi ⟨?_, upd_same, fun c o z => ?_⟩⟩
      · have tu : Tups H3 (upd (upd H3 p (.tup [.str ks[i].kind, .ref e])) D1 (.lst (ys ++ [.ref p]))) := fun c zs z => by
          rw [upd_ne (ne_of z hD2 (fun y => nomatch y)), upd_ne (ne_of_none z hp)]
          exact z
        rw [take_snoc hik]
        unfold famK
        rw [List.map_append, List.map_append]
        refine (dy.mono tu).append (.cons (K23.Dp.row (e := e) ?_ (tu e _ he)) .nil)
        rw [upd_ne pD.symm, upd_same]
      · rw [upd_ne (ne_of_none z hD1), upd_ne (ne_of_none (s2 c _ z) hp)]
        exact s2 c _ z
def spOwn : Sp := fun vs H Q _ => ∃ (v : V) (k : Str) (ds : List DR), vs = [v, .str k] ∧ Dp H (.tup (ds.map drT)) v ∧ ds.length ≤ 60 ∧ (keysD ds).Nodup ∧ ∀ (u : V) H', Dp H' (.tup ((risP ds k).map deedT)) u → Same H H' → Q u H'
theorem ok_own (D : Defs K mg t) : FnOk P w K mg base CX0 1 t.own_deeds.1 t.own_deeds.2 ["deeds", "kind"] spOwn := by
  have hz : sizeLine = 16777216 := sizeLine_eq
  refine D.own_deeds.fn.ok sc_own_deeds (fun vs H Q E h => ?_) (fun cdv A outer s H vs Q E hr h => ?_)
  · obtain ⟨v, k, ds, rfl, _⟩ := h
    rfl
  · obtain ⟨v, x, ds, rfl, dv, hlen, nd, k⟩ := h
    obtain ⟨a, xs, rfl, ha, dl⟩ := L2.Dp.of_tup dv
    have hxl : xs.length = ds.length := by have := dl.length; rwa [List.length_map] at this
    refine ⟨_, (pss_one (ps_ret (pe_callTy call_tuple_of (by rfl) D.b_tuple bt_tuple (pa_cons (pe_callB call_sortedTI (by rfl) D.b_sorted bt_sorted (pa_cons (pe_comp rfl (CompScope.of ["number", "row"] [1] ["number", "row", "kind"] (defScope (top 14)) ["deeds", "kind"] rfl rfl (by decide +kernel)) ⟨fun _ _ _ _ _ => (pg_tup_K (K := K) (n := 2) rfl rfl (pgs_cons (pg_name (i := 0) (show List.Nodup [("number" : Str), ("row" : Str), ("kind" : Str)] by decide +kernel) rfl (Or.inl (lookup_relabel_local rfl)) (.inr (lookup_relabel_local rfl))) (pgs_cons (pg_name (i := 1) (show List.Nodup [("number" : Str), ("row" : Str), ("kind" : Str)] by decide +kernel) rfl (Or.inl (lookup_relabel_local rfl)) (.inr (lookup_relabel_local rfl))) pgs_nil))), fun _ _ _ _ _ => (pts_one (pt_cmpR op_eq (pe_ix (ix_tup_K (K := K) rfl) (pv 1) pe_int (fun _ _ => rfl)) (pv 2) (nomark _))), fun _ _ _ _ _ => (pe_tup (pa_cons (pe_ix (ix_tup_K (K := K) rfl) (pv 1) pe_int (fun _ _ => rfl)) (pa_cons (pv 0) pa_nil)))⟩ (pi_enum1 (K := K) rfl rfl D.b_enumerate (pa_cons (pv 0) pa_nil))) pa_nil)) pa_nil)))), ?_⟩
    refine ⟨_, rfl, a, _, rfl, SqT.of ha, fun D1 hD1 => ?_⟩
    refine comp_by (n := xs.length) (fun i ys H2 => ∃ ps : List (Addr × Str × Int), ys = ps.map (fun p => .ref p.1) ∧ ps.map (·.2) = ownP ds x i ∧ (∀ p ∈ ps, H2 p.1 = some (.tup [.str p.2.1, .int p.2.2])) ∧ H2 D1 = some (.lst ys) ∧ Same H H2) ⟨[], rfl, rfl, by simp, upd_same, Same.new hD1⟩ ?_ ?_
    · rintro ys H2 ⟨ps, rfl, hps, hp, hD2, s2⟩
      rw [hxl] at hps
      have plen : ps.length = (ownP ds x ds.length).length := by rw [← hps, List.length_map]
      have ol := ownP_len ds x ds.length (Nat.le_refl _)
      have e1 : ps.map (·.2.1) = (ownP ds x ds.length).map (·.1) := by rw [← hps, List.map_map]; rfl
      refine ⟨⟨_, SqT.of (s2 a _ ha), Nat.le_refl _⟩, D1, ps, rfl, SqL.of hD2, by omega, hp, by rw [e1]; exact ownP_nd nd x _ (Nat.le_refl _), fun d qs pq up hd => ?_⟩
      have s3 : Same H2 (upd H2 d (.lst (qs.map fun p => V.ref p.1))) := Same.new hd
      refine ⟨d, _, rfl, .inl ⟨SqL.of upd_same, fun q hq => ?_⟩⟩
      have s4 := s3.trans (Same.new (o := .tup (qs.map fun p => V.ref p.1)) hq)
      have er : qs.map (·.2) = risP ds x := by
        refine risP_eq (ris_of ?_ fun i j hij hj => ?_) ?_
        · rw [List.map_map]
          exact ((pq.map (·.2.1)).nodup_iff.mpr (by rw [e1]; exact ownP_nd nd x _ (Nat.le_refl _)))
        · rw [List.getElem_map, List.getElem_map]
          exact up i j hij (by rw [List.length_map] at hj; exact hj)
        · have := pq.map (·.2)
          rw [hps] at this
          exact this
      refine k _ _ (L2.Dp.tup upd_same ?_) (s2.trans s4)
      rw [← er, List.map_map]
      have key : ∀ ls : List (Addr × Str × Int), (∀ p ∈ ls, H2 p.1 = some (.tup [.str p.2.1, .int p.2.2])) → DpL H2 (ls.map (deedT ∘ (·.2))) (ls.map fun p => V.ref p.1) := by
        intro ls
        induction ls with
        | nil => exact fun _ => .nil
        | cons p ls ih => exact fun h => .cons (L2.Dp.tup (h p List.mem_cons_self) (.cons (L2.Dp.str _) (.cons (L2.Dp.int _) .nil))) (ih fun q hq => h q (List.mem_cons_of_mem _ hq))
      exact (key qs fun p hp' => hp p (pq.mem_iff.mp hp')).mono (Same.tups s4)
    · rintro i ys H2 hi ⟨ps, rfl, hps, hp, hD2, s2⟩
      have hik : i < ds.length := by omega
      obtain ⟨y, ey, dy⟩ := dl.get (i := i) (t := drT ds[i]) (by rw [List.getElem?_map, List.getElem?_eq_getElem hik]; rfl)
      refine ⟨⟨_, _, SqT.of (s2 a _ ha), ey⟩, ?_⟩
      rintro v H3 ⟨p, hpn, rfl, yy⟩ σo ho
      obtain ⟨o, o', rfl⟩ := own2 ho
      have e3 := yy _ _ (SqT.of (s2 a _ ha)) ey
      subst e3
      have s3 : Same H2 (upd H2 p (.tup [.int (1 + (i : Int)), y])) := Same.new hpn
      have hp3 : (upd H2 p (.tup [.int (1 + (i : Int)), y])) p = some (.tup [.int (1 + (i : Int)), y]) := upd_same
      have hD3 := s3 D1 _ hD2
      have sm := s2.trans s3
      have ps3 : ∀ p' ∈ ps, (upd H2 p (.tup [.int (1 + (i : Int)), y])) p'.1 = some (.tup [.str p'.2.1, .int p'.2.2]) := fun p' h => s3 _ _ (hp p' h)
      generalize upd H2 p (.tup [.int (1 + (i : Int)), y]) = H3 at s3 hp3 hD3 sm ps3
      obtain ⟨q, m, b, rfl, hq⟩ := K23.Dp.of_dr (dy.mono (Same.tups sm))
      have plen : ps.length ≤ 60 := by
        have h1 : ps.length = (ownP ds x i).length := by rw [← hps, List.length_map]
        have := ownP_len ds x i (by omega)
        omega
      have eo := ownP_succ (k := x) (List.getElem?_eq_getElem hik)
      refine ⟨p, _, rfl, SqT.of hp3, rfl, _, _, rfl, _, _, rfl, rfl, ⟨[_, _], rfl, rfl⟩, ?_⟩
      refine ⟨_, rfl, q, _, _, _, rfl, rfl, SqT.of hq, atI_nat (j := 0) rfl, _, rfl, rfl, _, rfl, ?_⟩
      by_cases ek : ds[i].kind = x
      · rw [if_pos ek] at eo
        refine itePos (by rw [ek]; exact decide_eq_true rfl) ?_
        refine ⟨_, rfl, q, _, _, _, rfl, rfl, SqT.of hq, atI_nat (j := 1) rfl, _, rfl, by show 2 ≤ sizeLine; decide, fun p2 hp2 => ?_⟩
        have pD : D1 ≠ p2 := ne_of_none hD3 hp2
        refine ⟨by rw [List.length_map]; omega, by rw [upd_ne pD]; exact hD3, less_by hi ⟨ps ++ [(p2, ds[i].name, 1 + (i : Int))], by rw [List.map_append]; rfl, by rw [List.map_append, hps, eo]; rfl, fun p' h => ?_, upd_same, fun c o z => ?_⟩⟩
        · rcases List.mem_append.mp h with h | h
          · have h1 := ps3 p' h
            rw [upd_ne (ne_of h1 hD3 (fun y => nomatch y)), upd_ne (ne_of_none h1 hp2)]
            exact h1
          · rw [List.mem_singleton.mp h, upd_ne pD.symm, upd_same]
        · rw [upd_ne (ne_of_none z hD1), upd_ne (ne_of_none (sm c _ z) hp2)]
          exact sm c _ z
      · rw [if_neg ek, List.append_nil] at eo
        refine iteNeg (by rw [decide_eq_false (by intro z; injection z with z; exact ek z)]; exact Bool.false_ne_true) ?_
        exact less_by hi ⟨ps, rfl, by rw [hps, eo], ps3, hD3, sm⟩
end
end K23
end
section
set_option autoImplicit false
namespace K23
open PySem PyProof.Rows L2
def ProgAt (H : Hp) (v : V) (ks : List KR) (ds : List DR) : Prop := ∃ q kv dv rv, v = .ref q ∧ H q = some (.tup [kv, dv, rv]) ∧ Dp H (.tup (ks.map krT)) kv ∧ Dp H (.tup (ds.map drT)) dv
theorem ProgAt.mono {H H' : Hp} {v : V} {ks : List KR} {ds : List DR} (h : ProgAt H v ks ds) (s : Tups H H') : ProgAt H' v ks ds := by
  obtain ⟨q, kv, dv, rv, e, hq, d1, d2⟩ := h
  exact ⟨q, kv, dv, rv, e, s q _ hq, d1.mono s, d2.mono s⟩
structure GoodP (ks : List KR) (ds : List DR) : Prop where
  gk : GoodK ks
  dl : ds.length ≤ 60
  nd : (keysD ds).Nodup
section
variable {P : Program} {w : World} {K : PySem.W.Frag} {mg : Str → Option Value} {base : Heap} {t : Adr}
def spTab : Sp := fun vs H Q _ => ∃ (v : V) (ks : List KR) (ds : List DR), vs = [v] ∧ ProgAt H v ks ds ∧ GoodP ks ds ∧ ∀ (u : V) H', Dp H' (tabK ks ds) u → Same H H' → Q u H'
theorem ok_tab (D : Defs K mg t) : FnOk P w K mg base CX0 5 t.table_of.1 t.table_of.2 ["program"] spTab := by
  have G_tell_orders : FnOk P w K mg base CX0 4 t.tell_orders.1 t.tell_orders.2 _ spTell := ok_tell D
  have G_family_of : FnOk P w K mg base CX0 1 t.family_of.1 t.family_of.2 _ spFamOf := ok_famOf D
  have G_own_deeds : FnOk P w K mg base CX0 1 t.own_deeds.1 t.own_deeds.2 _ spOwn := ok_own D
  have hz : sizeLine = 16777216 := sizeLine_eq
  refine D.table_of.fn.ok sc_table_of (fun vs H Q E h => ?_) (fun cdv A outer s H vs Q E hr h => ?_)
  · obtain ⟨v, ks, ds, rfl, _⟩ := h
    rfl
  · obtain ⟨v, ks, ds, rfl, ⟨p0, kv, dv, rv, rfl, hp0, dk, dd⟩, G, k⟩ := h
    have k7 := G.gk.len
    refine ⟨_, (pss_cons (ps_asg (pv 0) (pg_tup rfl (pgs_cons (pg_name (i := 1) sc_table_of.nd rfl (Or.inl rfl)) (pgs_cons (pg_name (i := 2) sc_table_of.nd rfl (Or.inl rfl)) (pgs_cons (pg_name (i := 3) sc_table_of.nd rfl (Or.inl rfl)) pgs_nil)))))
      (pss_cons (ps_set (i := 4) sc_table_of.nd rfl (Or.inl rfl) (pe_callF D.tell_orders G_tell_orders (hr.mono (by omega)) (by rfl) (pa_cons (pe_callF D.family_of G_family_of (hr.mono (by omega)) (by rfl) (pa_cons (pv 1) pa_nil)) pa_nil)))
      (pss_cons (ps_set (i := 5) sc_table_of.nd rfl (Or.inl rfl) (pe_lst pa_nil))
      (pss_cons (ps_for PassesOwn.never rfl (pi_tup (pv 1)) (pg_tup rfl (pgs_cons (pg_name (i := 6) sc_table_of.nd rfl (Or.inl rfl)) (pgs_cons (pg_name (i := 7) sc_table_of.nd rfl (Or.inl rfl)) (pgs_cons (pg_name (i := 8) sc_table_of.nd rfl (Or.inl rfl)) pgs_nil))))
      (pss_one (ps_expr (pe_bm PySem.F.plainAttrs_list PySem.F.slot_list_append PySem.F.type_list_append mt_append (pv 5) (pa_cons (pe_tup (pa_cons (pv 6) (pa_cons (pv 7) (pa_cons (pe_ix ix_tup (pe_dget (hu_of hr) (pv 4) (pv 6) (fun _ _ => rfl)) pe_int (fun _ _ => rfl)) (pa_cons (pv 8) (pa_cons (pe_callF D.own_deeds G_own_deeds (hr.mono (by omega)) (by rfl) (pa_cons (pv 2) (pa_cons (pv 6) pa_nil))) (pa_cons pe_int pa_nil))))))) pa_nil)))))
      (pss_one (ps_ret (pe_callTy call_tuple_of (by rfl) D.b_tuple bt_tuple (pa_cons (pv 5) pa_nil)))))))), ?_⟩
    refine ⟨_, rfl, p0, _, rfl, SqT.of hp0, rfl, _, _, rfl, _, _, rfl, _, _, rfl, rfl, ?_⟩
    refine ⟨_, rfl, kv, ks, rfl, dk, by omega, fun u H1 du s1 => ?_⟩
    refine ⟨u, famK ks, rfl, du, G.gk.fam, fun d kvs H2 hdn hd2 told s2 => ?_⟩
    refine ⟨Nat.zero_le _, fun l hl => ?_⟩
    have sm : Same H (upd H2 l (.lst [])) := (s1.trans s2).trans (Same.new hl)
    have hl3 : (upd H2 l (.lst [])) l = some (.lst []) := upd_same
    have hlH : H l = none := by
      cases e : H l with
      | none => rfl
      | some o => rw [(s1.trans s2) l o e] at hl; cases hl
    have hd3 : (upd H2 l (.lst [])) d = some (.dK kvs) := by rw [upd_ne (ne_of_none hd2 hl)]; exact hd2
    have told3 := told.mono (Same.tups (Same.new (o := .lst []) hl))
    have dne : d ≠ l := ne_of_none hd2 hl
    generalize upd H2 l (.lst []) = H3 at sm hl3 hd3 told3
    obtain ⟨a, xs, rfl, ha, dl⟩ := L2.Dp.of_tup dk
    have hxl : xs.length = ks.length := by have := dl.length; rwa [List.length_map] at this
    have ane : a ≠ l := ne_of_none ha hlH
    refine ⟨_, rfl, a, rfl, ⟨_, SqT.of (sm a _ ha)⟩, for_tup (K := K) (a := a) (xs := xs) (fun i σ H4 => ∃ (ys : List V) (v6 v7 v8 : Option V), σ = [some (.ref p0), some (.ref a), some dv, some rv, some (.ref d), some (.ref l), v6, v7, v8] ∧ H4 l = some (.lst ys) ∧ DpL H4 ((ks.take i).map (rowK (famK ks) ds)) ys ∧ ∀ b o, b ≠ l → H3 b = some o → H4 b = some o)
      ⟨[], _, _, _, rfl, hl3, .nil, fun b o _ e => e⟩ (fun i σ H4 _ ⟨_, _, _, _, _, _, _, kp⟩ => SqT.of (kp a _ ane (sm a _ ha))) ?_ ?_⟩
    · rintro i x σ H4 hi ⟨ys, v6, v7, v8, rfl, hl4, dy, kp⟩
      have hix : i < xs.length := (List.getElem?_eq_some_iff.mp hi).1
      have hik : i < ks.length := by omega
      obtain ⟨x', ex, dx⟩ := dl.get (i := i) (t := krT ks[i]) (by rw [List.getElem?_map, List.getElem?_eq_getElem hik]; rfl)
      rw [ex] at hi
      cases hi
      have sm4 : Same H H4 := fun b o e => kp b o (ne_of_none e hlH) (sm b o e)
      have tu34 : Tups H3 H4 := fun b zs e => kp b _ (ne_of e hl3 (fun z => nomatch z)) e
      obtain ⟨q, e, f, rfl, hq, he, hf⟩ := K23.Dp.of_kr (dx.mono (Same.tups sm4))
      have hrm : ks[i] ∈ ks := List.getElem_mem hik
      obtain ⟨os, ho, _⟩ := G.gk.ord _ hrm
      obtain ⟨qt, hv, tell⟩ := told3 ks[i].kind (by show _ ∈ nms (famK ks); rw [nms_famK]; exact List.mem_map.mpr ⟨_, hrm, rfl⟩)
      obtain ⟨qo, ht, hqo⟩ : ∃ qo, H3 qt = some (.tup [.str "order", .ref qo]) ∧ H3 qo = some (.tup ((ks[i].kind :: os).map V.str)) := by
        rcases tell with ⟨o, qo, h1, h2, h3⟩ | ⟨h1, _⟩
        · rw [ho] at h1
          cases h1
          exact ⟨qo, h2, h3⟩
        · rw [ho] at h1
          cases h1
      have hd4 := kp d _ dne hd3
      have ht4 := tu34 _ _ ht
      have hqo4 := tu34 _ _ hqo
      refine ⟨q, _, rfl, SqT.of hq, rfl, _, _, rfl, _, _, rfl, _, _, rfl, rfl, ?_⟩
      refine ⟨_, rfl, .inl ⟨rfl, _, SqL.of hl4⟩, _, rfl, _, rfl, _, rfl, _, rfl, d, .ref qt, rfl, .inl ⟨kvs, .inr ks[i].kind, .inl hd4, rfl, hv.symm⟩, qt, _, _, _, rfl, rfl, SqT.of ht4, atI_nat (j := 1) rfl, _, rfl, _, rfl, _, rfl, ?_⟩
      refine ⟨dv, ks[i].kind, ds, rfl, dd.mono (Same.tups sm4), G.dl, G.nd, fun ud H5 dud s5 => ?_⟩
      refine ⟨by show 6 ≤ sizeLine; decide, fun qr hqr => ?_⟩
      have hl5 := s5 l _ hl4
      have lr : l ≠ qr := ne_of_none hl5 hqr
      have yl : ys.length = i := by
        have := dy.length
        rw [List.length_map, List.length_take] at this
        omega
      refine ⟨l, ys, .ref qr, rfl, rfl, by rw [upd_ne lr]; exact hl5, by omega, ?_⟩
      have tu : ∀ o, Tups H5 (upd (upd H5 qr (.tup o)) l (.lst (ys ++ [.ref qr]))) := fun o c zs z => by
        rw [upd_ne (ne_of z hl5 (fun y => nomatch y)), upd_ne (ne_of_none z hqr)]
        exact z
      refine ⟨ys ++ [.ref qr], _, _, _, rfl, upd_same, ?_, fun b o hb z => ?_⟩
      · rw [take_snoc hik, List.map_append]
        refine (dy.mono ((Same.tups s5).trans (tu _))).append (.cons (L2.Dp.tup (by rw [upd_ne lr.symm, upd_same]) (.cons (L2.Dp.str _) (.cons (L2.Dp.tup (tu _ e _ (s5 e _ he)) (DpL.strs _)) (.cons (L2.Dp.tup (tu _ qo _ (s5 qo _ hqo4)) ?_) (.cons (L2.Dp.tup (tu _ f _ (s5 f _ hf)) (DpL.strs _)) (.cons (dud.mono (tu _)) (.cons (L2.Dp.int 0) .nil))))))) .nil)
        rw [ho]
        exact DpL.strs _
      · rw [upd_ne hb, upd_ne (ne_of_none (s5 b _ (kp b o hb z)) hqr)]
        exact s5 b _ (kp b o hb z)
    · rintro σ H4 ⟨ys, v6, v7, v8, rfl, hl4, dy, kp⟩
      rw [hxl, List.take_of_length_le (Nat.le_refl _)] at dy
      have sm4 : Same H H4 := fun b o e => kp b o (ne_of_none e hlH) (sm b o e)
      refine ⟨_, rfl, l, _, rfl, .inl ⟨SqL.of hl4, fun q hq => ?_⟩⟩
      exact k _ _ (L2.Dp.tup upd_same (dy.mono (Same.tups (Same.new hq)))) (sm4.trans (Same.new hq))
end
end K23
end
section
set_option autoImplicit false
namespace K23
open PySem PyProof.Rows L2
theorem cut_last (xs : List V) (x : V) : cutV (xs ++ [x]) none (some (-1)) = xs := by
  unfold cutV
  have e : HT.sIx (xs ++ [x]).length (xs ++ [x]).length (some (-1)) = xs.length := by
    unfold HT.sIx
    rw [List.length_append, List.length_singleton]
    simp
    omega
  rw [e]
  show List.take (xs.length - 0) (List.drop 0 (xs ++ [x])) = xs
  rw [List.drop_zero, Nat.sub_zero, List.take_left']
  rfl
theorem DpL.split {H : Hp} {t : T} : ∀ {ts : List T} {ys : List V}, DpL H (ts ++ [t]) ys → ∃ xs x, ys = xs ++ [x] ∧ DpL H ts xs ∧ Dp H t x
  | [], ys, d => by
    obtain ⟨x, r, rfl, d1, d2⟩ := d.cases
    have := d2.of_nil
    subst this
    exact ⟨[], x, rfl, .nil, d1⟩
  | t0 :: ts, ys, d => by
    obtain ⟨x0, r, rfl, d1, d2⟩ := d.cases
    obtain ⟨xs, x, rfl, d3, d4⟩ := DpL.split d2
    exact ⟨x0 :: xs, x, rfl, .cons d1 d3, d4⟩
theorem full_all {rows : List (List Str)} (h : ∀ r ∈ rows, r ≠ []) : full rows = rows := by
  unfold full
  rw [List.filter_eq_self]
  intro r hr
  cases r with
  | nil => exact absurd rfl (h [] hr)
  | cons _ _ => rfl
theorem mg_all : ∀ {ns : List Str}, ns.Nodup → Mg (full (ns.map (fun x => [x]) ++ [ns])) (some ns)
  | [], _ => .nil
  | x :: ns, nd => by
    obtain ⟨n1, n2⟩ := List.nodup_cons.mp nd
    have ih := mg_all n2
    have hne : ∀ r ∈ (x :: ns).map (fun x => [x]) ++ [x :: ns], r ≠ [] := fun r hr => by
      rcases List.mem_append.mp hr with h | h
      · obtain ⟨y, _, rfl⟩ := List.mem_map.mp h
        exact List.cons_ne_nil _ _
      · rw [List.mem_singleton.mp h]
        exact List.cons_ne_nil _ _
    rw [full_all hne]
    have hh : ¬ heldIn ((x :: ns).map (fun x => [x]) ++ [x :: ns]) x = true := fun h => by
      obtain ⟨o, ho, hx⟩ := List.any_eq_true.mp h
      have hx := of_decide_eq_true hx
      rcases List.mem_append.mp ho with h | h
      · obtain ⟨y, _, rfl⟩ := List.mem_map.mp h
        cases hx
      · rw [List.mem_singleton.mp h] at hx
        exact n1 hx
    obtain ⟨more, hf⟩ : ∃ more, frees ((x :: ns).map (fun x => [x]) ++ [x :: ns]) = x :: more := by
      generalize hR : (x :: ns).map (fun x => [x]) ++ [x :: ns] = R at hh
      refine ⟨(ns.map (fun x => [x]) ++ [x :: ns]).flatMap (freeOf R), ?_⟩
      have e1 : frees R = ([x] :: (ns.map (fun x => [x]) ++ [x :: ns])).flatMap (freeOf R) := by
        unfold frees
        congr 1
        exact hR.symm
      rw [e1, List.flatMap_cons]
      show (if heldIn R x = true then [] else [x]) ++ _ = _
      rw [if_neg hh]
      rfl
    have ho : full (((x :: ns).map (fun x => [x]) ++ [x :: ns]).map (outOf x)) = full (ns.map (fun x => [x]) ++ [ns]) := by
      have e1 : outOf x [x] = [] := by unfold outOf; simp
      have e2 : outOf x (x :: ns) = ns := by
        have h1 : outOf x (x :: ns) = outOf x ns := by
          unfold outOf
          rw [List.filter_cons]
          simp
        rw [h1, out_id n1]
      have e3 : (ns.map (fun x => [x])).map (outOf x) = ns.map (fun x => [x]) := by
        rw [List.map_map]
        refine List.map_congr_left fun y hy => ?_
        exact out_id (by intro z; rw [List.mem_singleton.mp z] at n1; exact n1 hy)
      rw [List.map_append, List.map_cons, List.map_cons, e1, e3, List.map_singleton, e2]
      rfl
    have := Mg.step hf (r := some ns) (by rw [ho]; exact ih)
    exact this
theorem GoodK.all {rs : List KR} {r : KR} (G : GoodK (rs ++ [r])) {es : List Str} (pe : es.Perm (knd rs)) : GoodK (rs.map (fun x => ⟨x.kind, [], x.fields⟩) ++ [⟨r.kind, es, r.fields⟩]) := by
  have hk : knd (rs.map (fun x => (⟨x.kind, [], x.fields⟩ : KR)) ++ [⟨r.kind, es, r.fields⟩]) = knd (rs ++ [r]) := by
    unfold knd
    rw [List.map_append, List.map_append, List.map_map]
    rfl
  have hkr : knd (rs ++ [r]) = knd rs ++ [r.kind] := by unfold knd; rw [List.map_append]; rfl
  have nd := G.nd
  have ndr : (knd rs).Nodup := by rw [hkr] at nd; exact (List.nodup_append.mp nd).1
  have hrn : ¬ r.kind ∈ knd rs := fun h => by
    rw [hkr] at nd
    exact (List.nodup_append.mp nd).2.2 _ h _ (List.mem_singleton.mpr rfl) rfl
  have l7 := G.len
  rw [List.length_append, List.length_singleton] at l7
  have kl : (knd rs).length = rs.length := List.length_map _
  refine ⟨by rw [hk]; exact nd, by rw [List.length_append, List.length_map, List.length_singleton]; exact l7, fun i x hi => ?_, fun x hx => ?_, ?_⟩
  · rw [hk, hkr]
    by_cases h : i < (rs.map (fun x => (⟨x.kind, [], x.fields⟩ : KR))).length
    · rw [List.getElem?_append_left h, List.getElem?_map] at hi
      rw [List.length_map] at h
      rw [List.getElem?_eq_getElem h] at hi
      cases hi
      exact ⟨fun e he => (nomatch he), Nat.zero_le _⟩
    · rw [List.getElem?_append_right (by omega)] at hi
      have e0 : i - (rs.map (fun x => (⟨x.kind, [], x.fields⟩ : KR))).length = 0 := by
        have := (List.getElem?_eq_some_iff.mp hi).1
        rw [List.length_singleton] at this
        omega
      rw [e0] at hi
      cases hi
      rw [List.length_map] at h e0
      refine ⟨fun e he => ?_, ?_⟩
      · have : i = (knd rs).length := by omega
        rw [this, List.take_left']
        · exact pe.mem_iff.mp he
        · rfl
      · have := pe.length_eq
        show es.length ≤ 7
        omega
  · rcases List.mem_append.mp hx with h | h
    · obtain ⟨y, hy, rfl⟩ := List.mem_map.mp h
      exact G.fl y (List.mem_append_left _ hy)
    · rw [List.mem_singleton.mp h]
      exact G.fl r (List.mem_append_right _ (List.mem_singleton.mpr rfl))
  · refine ⟨fun x => if x = r.kind then some (r.kind :: es) else some [x], fun x hx => ?_⟩
    rcases List.mem_append.mp hx with h | h
    · obtain ⟨y, hy, rfl⟩ := List.mem_map.mp h
      have ne : ¬ y.kind = r.kind := fun e => hrn (by rw [← e]; exact List.mem_map.mpr ⟨y, hy, rfl⟩)
      exact ⟨[], if_neg ne, .nil⟩
    · rw [List.mem_singleton.mp h]
      refine ⟨es, if_pos rfl, ?_⟩
      have e1 : rowsBy (fun x => if x = r.kind then some (r.kind :: es) else some [x]) es = es.map (fun x => [x]) ++ [es] := by
        unfold rowsBy
        congr 1
        refine List.map_congr_left fun e he => ?_
        have ne : ¬ e = r.kind := fun z => hrn (by rw [← z]; exact pe.mem_iff.mp he)
        show (if e = r.kind then some (r.kind :: es) else some [e]).getD [] = [e]
        rw [if_neg ne]
        rfl
      rw [e1]
      exact mg_all (pe.nodup_iff.mpr ndr)
end K23
end
section
set_option autoImplicit false
namespace L2
open PySem PySem.Spec PyProof.Rows
section
variable {prog : Program} {w : World} {A : Around} {E : Value → Shared → Prop} {s : Shared}
end
section
variable {X : Cx}
end
end L2
end
section
set_option autoImplicit false
namespace L2
open PySem PySem.Spec PyProof.Rows
section
variable {X : Cx}
def rCatN : R2 := fun x y H Q => ∃ a b xs ys, x = .ref a ∧ y = .ref b ∧ H a = some (.tup xs) ∧ H b = some (.tup ys) ∧ xs.length + ys.length ≤ sizeLine ∧ ∀ p H', H' p = some (.tup (xs ++ ys)) → Same H H' → Q (.ref p) H'
theorem op_catN : OpR X (binaryOp .Add) rCatN := by
  intro pins s σ H x y v u Q I rx ry h
  obtain ⟨a, b, xs, ys, rfl, rfl, ha, hb, hz, q⟩ := h
  cases xs with
  | nil => exact op_catT0 pins s σ H (.ref a) (.ref b) v u Q I rx ry ⟨a, b, ys, rfl, rfl, ha, hb, q b H hb (Same.refl H)⟩
  | cons x0 xr => exact op_catW pins s σ H (.ref a) (.ref b) v u Q I rx ry ⟨a, b, x0 :: xr, ys, rfl, rfl, ha, hb, List.cons_ne_nil _ _, hz, q⟩
end
end L2
end
section
set_option autoImplicit false
namespace L2
open PySem PySem.Spec PyProof.Rows
section
variable {X : Cx}
def tSlKW (K : PySem.W.Frag) (te tk : TE) : TE := fun σ H Q => te σ H fun x H1 => tk σ H1 fun y H2 => ∃ a xs i, x = .ref a ∧ y = .int i ∧ SqL K H2 a xs ∧ (i = 1 ∨ i = -1) ∧ ∀ p ys H', (ys = xs ∨ ys = xs.reverse) → H' p = some (.lst ys) → Same H2 H' → Q (.ref p) H'
theorem pe_slKW {e k : Expr} {te tk : TE} {pos p2 : Pos} (he : PE X e te) (hk : PE X k tk) : PE X (.Subscript e (.Slice none none (some k) p2) pos) (tSlKW X.K te tk) := by
  intro pins s σ H Q I h
  refine Subscript_ (thn (he pins s σ H _ I h) fun v s1 ⟨x, H1, I1, r1, q1⟩ => ?_)
  refine wpAny_Slice ?_
  rw [evalPart_none]
  refine wpAny_pure ?_
  refine wpAny_pure ?_
  rw [evalPart_some]
  refine thn (hk pins s1 σ H1 _ I1 q1) fun vk s3 ⟨y, H3, I3, r3, q3⟩ => ?_
  obtain ⟨a, xs, i, rfl, rfl, hq, hi, q⟩ := q3
  cases r1
  obtain ⟨t, rfl⟩ := r3
  have I4 : Inv X pins σ H3 { s3 with heap := s3.heap.push { cls := .type "slice", data := .fields #[.none, .none, .int i t] } } := I3.kept (t' := s3.toks) fun b ob q => Heap.get?_push_of_some _ q
  obtain ⟨its, r, ht, hz⟩ := I4.list hq
  have hlen : its.toArray.size = xs.length := by rw [List.size_toArray]; exact r.length.symm
  show wpAny (model X.prog X.w) X.A (subscriptTail e (.Slice none none (some k) p2) (.ref a) (.ref s3.heap.objs.size)) (EP X pins σ Q) X.xe { s3 with heap := s3.heap.push { cls := .type "slice", data := .fields #[.none, .none, .int i t] } }
  have fin : ∀ ys : List V, ys.length ≤ sizeLine → ∀ jts : List Value, Vals ys jts → (∀ p, H3 p = none → Q (.ref p) (upd H3 p (.lst ys))) →
      EP X pins σ Q (.ref (s3.heap.push { cls := .type "slice", data := .fields #[.none, .none, .int i t] }).objs.size)
        { s3 with heap := (s3.heap.push { cls := .type "slice", data := .fields #[.none, .none, .int i t] }).push { cls := .type "list", data := .seq jts.toArray } } := fun ys hy jts rj hQ =>
    ⟨.ref _, _, I4.lnew (t' := s3.toks) rj hy, rfl, hQ _ I4.fresh⟩
  rcases hi with rfl | rfl
  · refine tail_any (ops := [.ref a, .ref s3.heap.objs.size]) ht.isList.typeIs slot_list_getitem.lookup (wpAny_getItem_list_slice ht.isList (Heap.IsSliceOf.new ..) .none .none (.int 1 t) (by decide) ?_ (by rw [hlen]; exact hz)) (by with_unfolding_all rfl)
    rw [pick_one]
    exact fin xs hz its r fun p hp => q p xs _ (.inl rfl) upd_same (Same.new hp)
  · refine tail_any (ops := [.ref a, .ref s3.heap.objs.size]) ht.isList.typeIs slot_list_getitem.lookup (wpAny_getItem_list_slice ht.isList (Heap.IsSliceOf.new ..) .none .none (.int (-1) t) (by decide) ?_ (by rw [hlen]; exact hz)) (by with_unfolding_all rfl)
    rw [PySem.W.krv_pick, List.toList_toArray]
    exact fin xs.reverse (by rw [List.length_reverse]; exact hz) its.reverse r.reverse fun p hp => q p xs.reverse _ (.inr rfl) upd_same (Same.new hp)
end
end L2
end
section
set_option autoImplicit false
namespace K23
open PySem PyProof.Rows L2
theorem offT {H H' : Hp} {p : Addr} (hp : Pu H p) (o : Off p H H') : Tups H H' := fun c zs e => by
  obtain ⟨x1, x2, x3, ep⟩ := hp
  exact o c _ (ne_of e ep (fun z => nomatch z)) e
def bare (r : KR) : KR := ⟨r.kind, [], r.fields⟩
def keyT (k : Str × Str) : T := .tup [.str k.1, .str k.2]
theorem keyT_inj {a b : Str × Str} (h : keyT a = keyT b) : a = b := by
  obtain ⟨a1, a2⟩ := a
  obtain ⟨b1, b2⟩ := b
  unfold keyT at h
  injection h with h
  injection h with h1 h2
  injection h2 with h2 _
  injection h1 with h1
  injection h2 with h2
  exact Prod.ext h1 h2
theorem keyT_mem {k : Str × Str} {ks : List (Str × Str)} : keyT k ∈ ks.map keyT ↔ k ∈ ks := by
  rw [List.mem_map]
  exact ⟨fun ⟨a, ha, e⟩ => keyT_inj e ▸ ha, fun h => ⟨k, h, rfl⟩⟩
theorem keysD_snoc (ds : List DR) (d : DR) : keysD (ds ++ [d]) = keysD ds ++ [(d.kind, d.name)] := by
  unfold keysD
  rw [List.map_append]
  rfl
section
variable {P : Program} {w : World} {K : PySem.W.Frag} {mg : Str → Option Value} {base : Heap} {t : Adr}
def spProg : Sp := fun vs H Q _ => ∃ (p : Addr), vs = [.ref p] ∧ Pu H p ∧ ∀ (v : V) (ks : List KR) (ds : List DR) H', ProgAt H' v ks ds → GoodP ks ds → Off p H H' → Q v H'
theorem ok_prog (D : Defs K mg t) : FnOk P w K mg base CX0 5 t._law_program_of.1 t._law_program_of.2 ["_law_purse_here"] spProg := by
  have G__law_take : FnOk P w K mg base CX0 1 t._law_take.1 t._law_take.2 _ spTake := ok_take D
  have G__law_words : FnOk P w K mg base CX0 3 t._law_words.1 t._law_words.2 _ spWords := ok_words D
  have G__law_some : FnOk P w K mg base CX0 2 t._law_some.1 t._law_some.2 _ spSome := ok_some D
  have G__law_kinds : FnOk P w K mg base CX0 4 t._law_kinds.1 t._law_kinds.2 _ spKinds := ok_kinds D
  have hz : sizeLine = 16777216 := sizeLine_eq
  refine D._law_program_of.fn.ok sc__law_program_of (fun vs H Q E h => ?_) (fun cdv A outer s H vs Q E hr h => ?_)
  · obtain ⟨p, rfl, _⟩ := h
    rfl
  · obtain ⟨p, rfl, hp, k⟩ := h
    refine ⟨_, (pss_cons (ps_set (i := 1) sc__law_program_of.nd rfl (Or.inl rfl) (pe_callF D._law_words G__law_words (hr.mono (by omega)) (by rfl) (pa_cons (pv 0) (pa_cons (pe_op op_add pe_int (pe_callF D._law_take G__law_take (hr.mono (by omega)) (by rfl) (pa_cons (pv 0) (pa_cons pe_int pa_nil)))) (pa_cons (pe_lst pa_nil) pa_nil)))))
      (pss_cons (ps_set (i := 2) sc__law_program_of.nd rfl (Or.inl rfl) (pe_callF D._law_kinds G__law_kinds (hr.mono (by omega)) (by rfl) (pa_cons (pv 0) (pa_cons (pe_op op_add pe_int (pe_callF D._law_take G__law_take (hr.mono (by omega)) (by rfl) (pa_cons (pv 0) (pa_cons pe_int pa_nil)))) (pa_cons (pe_lst pa_nil) (pa_cons (pv 1) pa_nil))))))
      (pss_cons (ps_set (i := 3) sc__law_program_of.nd rfl (Or.inl rfl) (pe_callF D._law_take G__law_take (hr.mono (by omega)) (by rfl) (pa_cons (pv 0) (pa_cons pe_int pa_nil))))
      (pss_join (ps_if (pt_cmpR op_gt (pv 3) pe_int (nomark _))
      (pss_cons (ps_set (i := 4) sc__law_program_of.nd rfl (Or.inl rfl) (pe_slKW (pe_comp rfl (CompScope.of ["_law_row"] [] ["_law_row"] (defScope (top 24)) ["_law_purse_here", "_law_fields", "_law_kinds_here", "_law_turn", "_law_names", "_law_words_here", "_law_deeds", "_law_keys", "_law_only", "_law_k", "_law_owner", "_law_key", "_law_block"] rfl rfl (by decide +kernel)) ⟨fun _ _ _ _ _ => (pg_name (i := 0) (show List.Nodup [("_law_row" : Str)] by decide +kernel) rfl (Or.inl (lookup_relabel_local rfl)) (.inr (lookup_relabel_local rfl))), fun _ _ _ _ _ => pts_nil, fun _ _ _ _ _ => (pe_ix (ix_tup_K (K := K) rfl) (pv 0) pe_int (fun _ _ => rfl))⟩ (pi_tup (pe_slice sl_tupW (pv 2) po_none (po_some (pe_un un_neg pe_int))))) (pe_ix ix_list (pe_lst (pa_cons pe_int (pa_cons (pe_un un_neg pe_int) pa_nil))) (pe_op op_sub (pv 3) pe_int) (fun _ _ => rfl))))
      (pss_one (ps_set (i := 2) sc__law_program_of.nd rfl (Or.inl rfl) (pe_op op_catN (pe_callTy call_tuple_of (by rfl) D.b_tuple bt_tuple (pa_cons (pe_comp rfl (CompScope.of ["_law_row"] [] ["_law_row"] (defScope (top 24)) ["_law_purse_here", "_law_fields", "_law_kinds_here", "_law_turn", "_law_names", "_law_words_here", "_law_deeds", "_law_keys", "_law_only", "_law_k", "_law_owner", "_law_key", "_law_block"] rfl rfl (by decide +kernel)) ⟨fun _ _ _ _ _ => (pg_name (i := 0) (show List.Nodup [("_law_row" : Str)] by decide +kernel) rfl (Or.inl (lookup_relabel_local rfl)) (.inr (lookup_relabel_local rfl))), fun _ _ _ _ _ => pts_nil, fun _ _ _ _ _ => (pe_tup (pa_cons (pe_ix (ix_tup_K (K := K) rfl) (pv 0) pe_int (fun _ _ => rfl)) (pa_cons (pe_tup pa_nil) (pa_cons (pe_ix (ix_tup_K (K := K) rfl) (pv 0) pe_int (fun _ _ => rfl)) pa_nil))))⟩ (pi_tup (pe_slice sl_tupW (pv 2) po_none (po_some (pe_un un_neg pe_int))))) pa_nil)) (pe_tup (pa_cons (pe_tup (pa_cons (pe_ix ix_tup (pe_ix ix_tup (pv 2) (pe_un un_neg pe_int) (fun _ _ => rfl)) pe_int (fun _ _ => rfl)) (pa_cons (pe_callTy call_tuple_of (by rfl) D.b_tuple bt_tuple (pa_cons (pv 4) pa_nil)) (pa_cons (pe_ix ix_tup (pe_ix ix_tup (pv 2) (pe_un un_neg pe_int) (fun _ _ => rfl)) pe_int (fun _ _ => rfl)) pa_nil)))) pa_nil))))))
      pss_nil)
      (pss_cons (ps_set (i := 5) sc__law_program_of.nd rfl (Or.inl rfl) (pe_callF D._law_words G__law_words (hr.mono (by omega)) (by rfl) (pa_cons (pv 0) (pa_cons (pe_op op_add pe_int (pe_callF D._law_take G__law_take (hr.mono (by omega)) (by rfl) (pa_cons (pv 0) (pa_cons pe_int pa_nil)))) (pa_cons (pe_lst pa_nil) pa_nil)))))
      (pss_cons (ps_par3 (i := 6) (j := 7) (k := 8) rfl sc__law_program_of.nd rfl rfl rfl (by decide) (by decide) (by decide) rfl rfl rfl (pa_cons (pe_lst pa_nil) (pa_cons (pe_lst pa_nil) (pa_cons (pe_callF D._law_take G__law_take (hr.mono (by omega)) (by rfl) (pa_cons (pv 0) (pa_cons pe_int pa_nil))) pa_nil))) rfl)
      (pss_cons (ps_for PassesOwn.never rfl (pi_range1 rfl D.b_range (pa_cons (pe_ix ix_list (pe_lst (pa_cons (pe_callF D._law_take G__law_take (hr.mono (by omega)) (by rfl) (pa_cons (pv 0) (pa_cons pe_int pa_nil))) (pa_cons pe_int pa_nil))) (pe_callTy call_int1 (by rfl) D.b_int bt_int (pa_cons (pe_cmpR op_eq (pv 8) pe_int (nomark _)) pa_nil)) (fun _ _ => rfl)) pa_nil)) (pg_name (i := 9) sc__law_program_of.nd rfl (Or.inl rfl))
      (pss_cons (ps_set (i := 10) sc__law_program_of.nd rfl (Or.inl rfl) (pe_ix ix_list (pe_lst (pa_cons (pe_callF D._law_take G__law_take (hr.mono (by omega)) (by rfl) (pa_cons (pv 0) (pa_cons (pe_callB call_len_seq (by rfl) D.b_len bt_len (pa_cons (pv 2) pa_nil)) pa_nil))) (pa_cons pe_int pa_nil))) (pe_callTy call_int1 (by rfl) D.b_int bt_int (pa_cons (pe_cmpR op_eq (pv 8) pe_int (nomark _)) pa_nil)) (fun _ _ => rfl)))
      (pss_cons (ps_set (i := 11) sc__law_program_of.nd rfl (Or.inl rfl) (pe_tup (pa_cons (pe_ix ix_tup (pe_ix ix_tup (pv 2) (pv 10) (fun _ _ => rfl)) pe_int (fun _ _ => rfl)) (pa_cons (pe_ix ix_list (pv 5) (pe_callF D._law_take G__law_take (hr.mono (by omega)) (by rfl) (pa_cons (pv 0) (pa_cons (pe_callB call_len_seq (by rfl) D.b_len bt_len (pa_cons (pv 5) pa_nil)) pa_nil))) (fun _ _ => rfl)) pa_nil))))
      (pss_cons (ps_set (i := 12) sc__law_program_of.nd rfl (Or.inl rfl) (pe_ix ix_list (pe_lst (pa_cons (pe_tup pa_nil) (pa_cons (pe_tup (pa_cons (pe_tup (pa_cons pe_str (pa_cons (pv 9) pa_nil))) pa_nil)) pa_nil))) (pe_callF D._law_take G__law_take (hr.mono (by omega)) (by rfl) (pa_cons (pv 0) (pa_cons pe_int pa_nil))) (fun _ _ => rfl)))
      (pss_one (ps_if (PW.pt (pw_and (pt_cmpR (op_notInT (hu10 hr)) (pv 11) (pv 7) (by with_unfolding_all rfl)) (pw_and1 (pt_cmpR op_lt (pe_callB call_len_seq (by rfl) D.b_len bt_len (pa_cons (pv 7) pa_nil)) pe_int (nomark _)))))
      (pss_cons (ps_expr (pe_bm PySem.F.plainAttrs_list PySem.F.slot_list_append PySem.F.type_list_append mt_append (pv 7) (pa_cons (pv 11) pa_nil)))
      (pss_one (ps_expr (pe_bm PySem.F.plainAttrs_list PySem.F.slot_list_append PySem.F.type_list_append mt_append (pv 6) (pa_cons (pe_op op_catN (pv 11) (pe_tup (pa_cons (pe_callF D._law_some G__law_some (hr.mono (by omega)) (by rfl) (pa_cons (pv 0) (pa_cons (pv 5) (pa_cons pe_int pa_nil)))) (pa_cons (pv 12) pa_nil)))) pa_nil)))))
      pss_nil))))))
      (pss_one (ps_ret (pe_tup (pa_cons (pv 2) (pa_cons (pe_callTy call_tuple_of (by rfl) D.b_tuple bt_tuple (pa_cons (pv 6) pa_nil)) (pa_cons (pe_tup (pa_cons (pe_tup (pa_cons pe_str (pa_cons pe_non pa_nil))) pa_nil)) pa_nil))))))))))))), ?_⟩
    refine ⟨_, rfl, _, rfl, p, 4, rfl, hp, by decide, by decide, fun r a1 b1 c1 l1 u1 => ⟨_, _, rfl, rfl, Nat.zero_le _, fun u hu => ?_⟩⟩
    have pu : p ≠ u := Pu.upd.neN hu
    refine ⟨p, u, 1 + r, rfl, Pu.upd.upd_ne pu, upd_same, by omega, by omega, fun fl fs H1 _ hfs _ hfl1 o1 p1 => ?_⟩
    have o1 : Off p H H1 := (Off.upd.trans (Off.new hu)).trans o1
    have flp : fl ≠ p := p1.ne hfl1
    refine ⟨_, rfl, _, rfl, p, 7, rfl, p1, by decide, by decide, fun r2 a2 b2 c2 l2 u2 => ⟨_, _, rfl, rfl, Nat.zero_le _, fun v hv => ?_⟩⟩
    have pv' : p ≠ v := Pu.upd.neN hv
    have flu : (upd H1 p (.lst [.int a2, .int b2, .int c2])) fl = some (.lst (fs.map V.str)) := by rw [upd_ne flp]; exact hfl1
    refine ⟨_, rfl, p, v, fl, 1 + r2, fs, rfl, Pu.upd.upd_ne pv', upd_same, by omega, by omega, by rw [upd_ne (ne_of_none flu hv)]; exact flu, by omega, fun kv ks H2 dk gk hkl o2 p2 => ?_⟩
    have o2 : Off p H H2 := o1.trans ((Off.upd.trans (Off.new hv)).trans o2)
    have hk0 : 0 < ks.length := by omega
    refine ⟨_, rfl, p, 4, rfl, p2, by decide, by decide, fun tn a3 b3 c3 l3 u3 => ?_⟩
    have dk3 := dk.mono (offT p2 (Off.upd (o := .lst [.int a3, .int b3, .int c3])))
    have o3 : Off p H (upd H2 p (.lst [.int a3, .int b3, .int c3])) := o2.trans Off.upd
    have p3 : Pu (upd H2 p (.lst [.int a3, .int b3, .int c3])) p := Pu.upd
    generalize upd H2 p (.lst [.int a3, .int b3, .int c3]) = H3 at dk3 o3 p3
    refine ⟨fun σ H4 => ∃ (kv : V) (ks : List KR) (v4 : Option V), σ = [some (.ref p), some (.ref fl), some kv, some (.int tn), v4, none, none, none, none, none, none, none, none] ∧ Dp H4 (.tup (ks.map krT)) kv ∧ GoodK ks ∧ 0 < ks.length ∧ Off p H H4 ∧ Pu H4 p, ?_, ?_⟩
    · refine ⟨_, rfl, _, _, rfl, rfl, _, rfl, ite2 (fun hb => ?_) (fun hb => ⟨kv, ks, _, rfl, dk3, gk, hk0, o3, p3⟩)⟩
      have hb : (1 : Int) < tn := of_decide_eq_true hb
      obtain ⟨rs, r, rfl⟩ : ∃ rs r, ks = rs ++ [r] := ⟨ks.dropLast, ks.getLast (List.length_pos_iff.mp hk0), (List.dropLast_concat_getLast _).symm⟩
      obtain ⟨a, zs, rfl, ha, dl⟩ := L2.Dp.of_tup dk3
      rw [List.map_append] at dl
      obtain ⟨xs, x, rfl, dxs, dx⟩ := K23.DpL.split dl
      obtain ⟨ql, el, fq, rfl, hql, hel, hfq⟩ := K23.Dp.of_kr dx
      have hxl : xs.length = rs.length := by have := dxs.length; rwa [List.length_map] at this
      have rs7 : rs.length ≤ 7 := by have := gk.len; rw [List.length_append] at this; omega
      refine ⟨_, rfl, _, rfl, _, rfl, a, _, rfl, ha, fun qa H5 hqa s5 => ?_⟩
      rw [cut_last] at hqa
      refine ⟨qa, rfl, ⟨_, SqT.of hqa⟩, fun D1 hD1 => ?_⟩
      have s51 : ∀ o, Same H5 (upd H5 D1 o) := fun o => Same.new hD1
      refine comp_by (n := xs.length) (fun i ys H6 => ys = ((knd rs).take i).map V.str ∧ H6 = upd H5 D1 (.lst ys)) ⟨rfl, rfl⟩ ?_ ?_
      rotate_left
      · rintro i ys H6 hi ⟨rfl, rfl⟩
        have hir : i < rs.length := by omega
        obtain ⟨y, ey, dy⟩ := dxs.get (i := i) (t := krT rs[i]) (by rw [List.getElem?_map, List.getElem?_eq_getElem hir]; rfl)
        refine ⟨⟨_, _, SqT.of (s51 _ qa _ hqa), ey⟩, ?_⟩
        rintro v H7 ⟨rfl, yy⟩ σo ho
        obtain ⟨oo, rfl⟩ := own1 ho
        have ev := yy _ (SqT.of (s51 _ qa _ hqa))
        rw [ey] at ev
        cases ev
        obtain ⟨q, e, f, rfl, hq, _, _⟩ := K23.Dp.of_kr (dy.mono (Same.tups (s5.trans (s51 _))))
        refine ⟨⟨[_], rfl, rfl⟩, yes_by ⟨_, rfl, q, _, _, _, rfl, rfl, SqT.of hq, atI_nat (j := 0) rfl, by rw [List.length_map, List.length_take]; omega, upd_same, less_by hi ⟨?_, by rw [upd_upd]⟩⟩⟩
        have hik : i < (knd rs).length := by unfold knd; rw [List.length_map]; exact hir
        have he : (knd rs)[i] = rs[i].kind := List.getElem_map ..
        rw [take_snoc hik, List.map_append, he]
        rfl
      rintro ys H6 ⟨rfl, rfl⟩
      have kl : (knd rs).length = rs.length := List.length_map _
      rw [List.take_of_length_le (by omega)]
      refine ⟨⟨_, SqT.of (s51 _ qa _ hqa), Nat.le_refl _⟩, ?_⟩
      refine ⟨_, rfl, by show 2 ≤ sizeLine; decide, fun m hm => ⟨_, rfl, _, _, rfl, rfl, ?_⟩⟩
      obtain ⟨z, hz', hz1⟩ : ∃ z : Int, atI [V.int 1, V.int (-1)] (tn - 2) = some (.int z) ∧ (z = 1 ∨ z = -1) := by
        rcases (by omega : tn = 2 ∨ tn = 3) with rfl | rfl
        · exact ⟨1, atI_nat (j := 0) rfl, .inl rfl⟩
        · exact ⟨-1, atI_nat (j := 1) rfl, .inr rfl⟩
      have hD1m : ∀ o, (upd (upd H5 D1 (.lst ((knd rs).map V.str))) m o) D1 = some (.lst ((knd rs).map V.str)) := fun o => by rw [upd_ne (ne_of_none upd_same hm), upd_same]
      refine ⟨m, _, _, _, rfl, rfl, SqL.of upd_same, hz', D1, _, _, rfl, rfl, SqL.of (hD1m _), hz1, fun nq nys H8 hny hnq8 s58 => ?_⟩
      obtain ⟨es, rfl, pe⟩ : ∃ es : List Str, nys = es.map V.str ∧ es.Perm (knd rs) := by
        rcases hny with rfl | rfl
        · exact ⟨_, rfl, .refl _⟩
        · exact ⟨(knd rs).reverse, by rw [List.map_reverse], List.reverse_perm _⟩
      have s8 : Same H3 H8 := s5.trans ((s51 _).trans ((Same.new hm).trans s58))
      refine ⟨_, rfl, _, rfl, _, rfl, a, _, rfl, s8 a _ ha, fun qb H9 hqb s9 => ?_⟩
      rw [cut_last] at hqb
      refine ⟨qb, rfl, ⟨_, SqT.of hqb⟩, fun D2 hD2 => ?_⟩
      have s39 := s8.trans s9
      refine comp_by (n := xs.length) (fun i ys H6 => DpL H6 ((rs.take i).map (fun x => krT (bare x))) ys ∧ H6 D2 = some (.lst ys) ∧ Same H9 H6) ⟨.nil, upd_same, Same.new hD2⟩ ?_ ?_
      rotate_left
      · rintro i ys H6 hi ⟨dy6, hD6, s6⟩
        have hir : i < rs.length := by omega
        obtain ⟨y, ey, dy⟩ := dxs.get (i := i) (t := krT rs[i]) (by rw [List.getElem?_map, List.getElem?_eq_getElem hir]; rfl)
        refine ⟨⟨_, _, SqT.of (s6 qb _ hqb), ey⟩, ?_⟩
        rintro v H7 ⟨rfl, yy⟩ σo ho
        obtain ⟨oo, rfl⟩ := own1 ho
        have ev := yy _ (SqT.of (s6 qb _ hqb))
        rw [ey] at ev
        cases ev
        obtain ⟨q, e, f, rfl, hq, _, hf⟩ := K23.Dp.of_kr (dy.mono (Same.tups (s39.trans s6)))
        refine ⟨⟨[_], rfl, rfl⟩, yes_by ⟨_, rfl, q, _, _, _, rfl, rfl, SqT.of hq, atI_nat (j := 0) rfl, Nat.zero_le _, fun e0 he0 => ?_⟩⟩
        have s7 : Same H7 (upd H7 e0 (.tup [])) := Same.new he0
        refine ⟨_, rfl, q, _, _, _, rfl, rfl, SqT.of (s7 q _ hq), atI_nat (j := 2) rfl, by show 3 ≤ sizeLine; decide, fun qr hqr => ?_⟩
        have s72 := s7.trans (Same.new (o := .tup [.str rs[i].kind, .ref e0, .ref f]) hqr)
        have hqr7 : (upd (upd H7 e0 (.tup [])) qr (.tup [.str rs[i].kind, .ref e0, .ref f])) qr = some (.tup [.str rs[i].kind, .ref e0, .ref f]) := upd_same
        have he7 : (upd (upd H7 e0 (.tup [])) qr (.tup [.str rs[i].kind, .ref e0, .ref f])) e0 = some (.tup []) := by rw [upd_ne (ne_of_none upd_same hqr), upd_same]
        generalize upd (upd H7 e0 (.tup [])) qr (.tup [.str rs[i].kind, .ref e0, .ref f]) = H7' at s72 hqr7 he7
        have hD7 := s72 D2 _ hD6
        have yl : ys.length ≤ 7 := by
          have := dy6.length
          rw [List.length_map, List.length_take] at this
          omega
        have tu : Tups H7' (upd H7' D2 (.lst (ys ++ [.ref qr]))) := fun c zs z => by
          rw [upd_ne (ne_of z hD7 (fun y => nomatch y))]
          exact z
        refine ⟨by omega, hD7, less_by hi ⟨?_, upd_same, fun c o z => ?_⟩⟩
        · rw [take_snoc hir, List.map_append]
          exact (dy6.mono ((Same.tups s72).trans tu)).append (.cons (K23.Dp.kr (r := bare rs[i]) (tu _ _ hqr7) (tu _ _ he7) (tu _ _ (s72 _ _ hf))) .nil)
        · rw [upd_ne (ne_of_none z hD2)]
          exact s72 c _ (s6 c _ z)
      rintro ys H6 ⟨dy6, hD6, s6⟩
      rw [List.take_of_length_le (by omega)] at dy6
      refine ⟨⟨_, SqT.of (s6 qb _ hqb), Nat.le_refl _⟩, D2, _, rfl, .inl ⟨SqL.of hD6, fun qt hqt => ?_⟩⟩
      have s3t := (s39.trans s6).trans (Same.new (o := .tup ys) hqt)
      have hqt6 : (upd H6 qt (.tup ys)) qt = some (.tup ys) := upd_same
      have dyt := dy6.mono (Same.tups (Same.new (o := .tup ys) hqt))
      have hnqt := ((s9.trans s6).trans (Same.new (o := .tup ys) hqt)) nq _ hnq8
      generalize upd H6 qt (.tup ys) = H10 at s3t hqt6 dyt hnqt
      have ha10 := s3t a _ ha
      have hql10 := s3t ql _ hql
      refine ⟨_, rfl, _, rfl, a, _, _, _, rfl, rfl, SqT.of ha10, atI_last _ _, ql, _, _, _, rfl, rfl, SqT.of hql10, atI_nat (j := 0) rfl, _, rfl, nq, _, rfl, .inl ⟨SqL.of hnqt, fun qn hqn => ?_⟩⟩
      have sn : Same H10 (upd H10 qn (.tup (es.map V.str))) := Same.new hqn
      have hqn1 : (upd H10 qn (.tup (es.map V.str))) qn = some (.tup (es.map V.str)) := upd_same
      generalize upd H10 qn (.tup (es.map V.str)) = H11 at sn hqn1
      refine ⟨_, rfl, _, rfl, a, _, _, _, rfl, rfl, SqT.of (sn a _ ha10), atI_last _ _, ql, _, _, _, rfl, rfl, SqT.of (sn ql _ hql10), atI_nat (j := 2) rfl, by show 3 ≤ sizeLine; decide, fun qi hqi => ⟨by show 1 ≤ sizeLine; decide, fun qo hqo => ?_⟩⟩
      have si : Same H11 (upd H11 qi (.tup [.str r.kind, .ref qn, .ref fq])) := Same.new hqi
      have so := si.trans (Same.new (o := .tup [.ref qi]) hqo)
      have hqi1 : (upd (upd H11 qi (.tup [.str r.kind, .ref qn, .ref fq])) qo (.tup [.ref qi])) qi = some (.tup [.str r.kind, .ref qn, .ref fq]) := by rw [upd_ne (ne_of_none upd_same hqo), upd_same]
      have hqo1 : (upd (upd H11 qi (.tup [.str r.kind, .ref qn, .ref fq])) qo (.tup [.ref qi])) qo = some (.tup [.ref qi]) := upd_same
      generalize upd (upd H11 qi (.tup [.str r.kind, .ref qn, .ref fq])) qo (.tup [.ref qi]) = H12 at so hqi1 hqo1
      have s10 := sn.trans so
      have yl : ys.length ≤ 7 := by
        have := dy6.length
        rw [List.length_map] at this
        omega
      refine ⟨qt, qo, ys, [.ref qi], rfl, rfl, s10 qt _ hqt6, hqo1, by show ys.length + 1 ≤ sizeLine; omega, fun qz H13 hqz sz => ?_⟩
      have sT := s3t.trans (s10.trans sz)
      refine ⟨.ref qz, rs.map (fun x => ⟨x.kind, [], x.fields⟩) ++ [⟨r.kind, es, r.fields⟩], _, rfl, L2.Dp.tup hqz ?_, gk.all pe, by rw [List.length_append, List.length_singleton]; omega, o3.trans sT.off, p3.same sT⟩
      rw [List.map_append, List.map_map]
      refine (dyt.mono (Same.tups (s10.trans sz))).append (.cons (K23.Dp.kr (r := ⟨r.kind, es, r.fields⟩) (sz _ _ hqi1) ((so.trans sz) _ _ hqn1) (sT _ _ hfq)) .nil)
    · clear dk3 o3 p3 gk hk0 hkl dk
      rintro σ H4 ⟨kv, ks, v4, rfl, dk, gk, hk0, o4, p4⟩
      obtain ⟨a, xs, rfl, ha, dl⟩ := L2.Dp.of_tup dk
      have hxl : xs.length = ks.length := by have := dl.length; rwa [List.length_map] at this
      have k7 := gk.len
      refine ⟨_, rfl, _, rfl, p, 9, rfl, p4, by decide, by decide, fun r5 a5 b5 c5 l5 u5 => ⟨_, _, rfl, rfl, Nat.zero_le _, fun v hv => ?_⟩⟩
      have pv5 : p ≠ v := Pu.upd.neN hv
      refine ⟨p, v, 1 + r5, rfl, Pu.upd.upd_ne pv5, upd_same, by omega, by omega, fun wl ws H5 _ hws _ hwl o5 p5 => ?_⟩
      have o5 : Off p H4 H5 := (Off.upd.trans (Off.new hv)).trans o5
      have wlp : wl ≠ p := p5.ne hwl
      have hw9 : ws.length ≤ 9 := by omega
      have hw1 : 1 ≤ ws.length := by omega
      refine ⟨Nat.zero_le _, fun de hde => ⟨Nat.zero_le _, fun ke hke => ?_⟩⟩
      have p6 : Pu (upd (upd H5 de (.lst [])) ke (.lst [])) p := (p5.upd_ne (p5.neN hde)).upd_ne ((p5.upd_ne (p5.neN hde)).neN hke)
      have dek : de ≠ ke := ne_of_none upd_same hke
      have hde6 : (upd (upd H5 de (.lst [])) ke (.lst [])) de = some (.lst []) := by rw [upd_ne dek, upd_same]
      have hke6 : (upd (upd H5 de (.lst [])) ke (.lst [])) ke = some (.lst []) := upd_same
      have s6 : Same H5 (upd (upd H5 de (.lst [])) ke (.lst [])) := (Same.new hde).trans (Same.new hke)
      have dep : de ≠ p := (p5.neN hde).symm
      have kep : ke ≠ p := ((p5.upd_ne (p5.neN hde)).neN hke).symm
      have wlde : wl ≠ de := ne_of_none hwl hde
      have wlke : wl ≠ ke := ne_of_none (by rw [upd_ne wlde]; exact hwl) hke
      have hdeH : H de = none := by
        cases e : H de with
        | none => rfl
        | some o => rw [(o4.trans o5) de o dep e] at hde; cases hde
      have hkeH : H ke = none := by
        cases e : H ke with
        | none => rfl
        | some o => rw [upd_ne dek.symm, (o4.trans o5) ke o kep e] at hke; cases hke
      generalize upd (upd H5 de (.lst [])) ke (.lst []) = H6 at p6 hde6 hke6 s6
      refine ⟨_, rfl, p, 3, rfl, p6, by decide, by decide, fun on a7 b7 c7 l7 u7 => ⟨_, _, _, rfl, ?_⟩⟩
      refine ⟨_, rfl, p, 11, rfl, Pu.upd, by decide, by decide, fun r8 a8 b8 c8 l8 u8 => ⟨by show 2 ≤ sizeLine; decide, fun m hm => ?_⟩⟩
      have o8 : Off p H6 (upd (upd (upd H6 p (.lst [.int a7, .int b7, .int c7])) p (.lst [.int a8, .int b8, .int c8])) m (.lst [.int r8, .int 20])) := (Off.upd.trans Off.upd).trans (Off.new hm)
      have p8 : Pu (upd (upd (upd H6 p (.lst [.int a7, .int b7, .int c7])) p (.lst [.int a8, .int b8, .int c8])) m (.lst [.int r8, .int 20])) p := Pu.upd.upd_ne (Pu.upd.neN hm)
      have hm8 : (upd (upd (upd H6 p (.lst [.int a7, .int b7, .int c7])) p (.lst [.int a8, .int b8, .int c8])) m (.lst [.int r8, .int 20])) m = some (.lst [.int r8, .int 20]) := upd_same
      generalize upd (upd (upd H6 p (.lst [.int a7, .int b7, .int c7])) p (.lst [.int a8, .int b8, .int c8])) m (.lst [.int r8, .int 20]) = H8 at o8 p8 hm8
      obtain ⟨z8, hz8, hz81, hz82⟩ : ∃ z8 : Int, atI [V.int r8, V.int 20] (if decide (V.int on = V.int 1) = true then 1 else 0) = some (.int z8) ∧ 0 ≤ z8 ∧ z8 ≤ 20 := by
        by_cases hb : decide (V.int on = V.int 1) = true
        · rw [if_pos hb]
          exact ⟨20, atI_nat (j := 1) rfl, by decide, by decide⟩
        · rw [if_neg hb]
          exact ⟨r8, atI_nat (j := 0) rfl, by omega, by omega⟩
      refine ⟨_, rfl, rfl, .inr ⟨_, rfl, m, _, _, _, rfl, rfl, SqL.of hm8, hz8, z8, rfl, by omega, by omega, ?_⟩⟩
      have o48 : Off p H4 H8 := (o5.trans s6.off).trans o8
      refine for_range (lo := 0) (n := z8.toNat) (fun i σ H2 => ∃ (ds : List DR) (ys zs : List V) (v9 v10 v11 v12 : Option V), σ = [some (.ref p), some (.ref fl), some (.ref a), some (.int tn), v4, some (.ref wl), some (.ref de), some (.ref ke), some (.int on), v9, v10, v11, v12] ∧ H2 de = some (.lst ys) ∧ DpL H2 (ds.map drT) ys ∧ H2 ke = some (.lst zs) ∧ DpL H2 ((keysD ds).map keyT) zs ∧ (keysD ds).Nodup ∧ ds.length ≤ 8 ∧ H2 a = some (.tup xs) ∧ DpL H2 (ks.map krT) xs ∧ H2 wl = some (.lst (ws.map V.str)) ∧ Off p H H2 ∧ Pu H2 p)
        ⟨[], [], [], _, _, _, _, rfl, o8 de _ dep hde6, .nil, o8 ke _ kep hke6, .nil, List.nodup_nil, Nat.zero_le _, offT p4 o48 a _ ha, dl.mono (offT p4 o48), o8 wl _ wlp (s6 wl _ hwl), o4.trans o48, p8⟩ ?_ ?_
      · rintro i σ H2 hi ⟨ds, ys, zs, v9, v10, v11, v12, rfl, hde2, dys, hke2, dzs, nd, hd8, ha2, dl2, hwl2, o2, p2⟩
        refine ⟨_, rfl, _, rfl, a, _, rfl, .inr (SqT.of ha2), p, _, rfl, p2, by omega, by omega, fun r3 a3 b3 c3 l3 u3 => ⟨by show 2 ≤ sizeLine; decide, fun m3 hm3 => ?_⟩⟩
        have o3 : Off p H2 (upd (upd H2 p (.lst [.int a3, .int b3, .int c3])) m3 (.lst [.int r3, .int 0])) := Off.upd.trans (Off.new hm3)
        have p3 : Pu (upd (upd H2 p (.lst [.int a3, .int b3, .int c3])) m3 (.lst [.int r3, .int 0])) p := Pu.upd.upd_ne (Pu.upd.neN hm3)
        have hm33 : (upd (upd H2 p (.lst [.int a3, .int b3, .int c3])) m3 (.lst [.int r3, .int 0])) m3 = some (.lst [.int r3, .int 0]) := upd_same
        generalize upd (upd H2 p (.lst [.int a3, .int b3, .int c3])) m3 (.lst [.int r3, .int 0]) = H3' at o3 p3 hm33
        obtain ⟨ow, hw', how1, how2⟩ : ∃ ow : Int, atI [V.int r3, V.int 0] (if decide (V.int on = V.int 1) = true then 1 else 0) = some (.int ow) ∧ 0 ≤ ow ∧ ow < xs.length := by
          by_cases hb : decide (V.int on = V.int 1) = true
          · rw [if_pos hb]
            exact ⟨0, atI_nat (j := 1) rfl, by decide, by omega⟩
          · rw [if_neg hb]
            exact ⟨r3, atI_nat (j := 0) rfl, by omega, by omega⟩
        refine ⟨_, rfl, rfl, .inr ⟨_, rfl, m3, _, _, _, rfl, rfl, SqL.of hm33, hw', ?_⟩⟩
        have tu3 := offT p2 o3
        have owk : ow.toNat < ks.length := by omega
        obtain ⟨xo, exo, dxo⟩ := (dl2.mono tu3).get (i := ow.toNat) (t := krT ks[ow.toNat]) (by rw [List.getElem?_map, List.getElem?_eq_getElem owk]; rfl)
        obtain ⟨qk, ek, fk, rfl, hqk, _, _⟩ := K23.Dp.of_kr dxo
        have eow : atI xs ow = some (.ref qk) := by
          rw [show ow = ((ow.toNat : Nat) : Int) by omega]
          exact atI_nat exo
        refine ⟨_, rfl, _, rfl, a, _, _, _, rfl, rfl, SqT.of (tu3 a _ ha2), eow, qk, _, _, _, rfl, rfl, SqT.of hqk, atI_nat (j := 0) rfl, ?_⟩
        have hwl3 := o3 wl _ wlp hwl2
        refine ⟨_, rfl, _, rfl, _, rfl, wl, _, rfl, .inl (SqL.of hwl3), p, _, rfl, p3, by rw [List.length_map]; omega, by rw [List.length_map]; omega, fun r6 a6 b6 c6 l6 u6 => ?_⟩
        rw [List.length_map] at u6
        obtain ⟨x, hx, _, _⟩ := atI_strs (ns := ws) l6 u6
        have hwl6 : (upd H3' p (.lst [.int a6, .int b6, .int c6])) wl = some (.lst (ws.map V.str)) := by rw [upd_ne wlp]; exact hwl3
        refine ⟨wl, _, _, _, rfl, rfl, SqL.of hwl6, hx, by show 2 ≤ sizeLine; decide, fun kq hkq => ?_⟩
        have o7 : Off p H2 (upd (upd H3' p (.lst [.int a6, .int b6, .int c6])) kq (.tup [.str ks[ow.toNat].kind, .str x])) := (o3.trans Off.upd).trans (Off.new hkq)
        have p7 : Pu (upd (upd H3' p (.lst [.int a6, .int b6, .int c6])) kq (.tup [.str ks[ow.toNat].kind, .str x])) p := Pu.upd.upd_ne (Pu.upd.neN hkq)
        have hkq7 : (upd (upd H3' p (.lst [.int a6, .int b6, .int c6])) kq (.tup [.str ks[ow.toNat].kind, .str x])) kq = some (.tup [.str ks[ow.toNat].kind, .str x]) := upd_same
        generalize upd (upd H3' p (.lst [.int a6, .int b6, .int c6])) kq (.tup [.str ks[ow.toNat].kind, .str x]) = H7 at o7 p7 hkq7
        refine ⟨Nat.zero_le _, fun e1 he1 => ⟨_, rfl, by show 2 ≤ sizeLine; decide, fun e2 he2 => ⟨by show 1 ≤ sizeLine; decide, fun e3 he3 => ⟨by show 2 ≤ sizeLine; decide, fun bl hbl => ?_⟩⟩⟩⟩
        have sb1 : Same H7 (upd H7 e1 (.tup [])) := Same.new he1
        have he11 : (upd H7 e1 (.tup [])) e1 = some (.tup []) := upd_same
        generalize upd H7 e1 (.tup []) = J1 at sb1 he11 he2 he3 hbl
        have sb2 : Same J1 (upd J1 e2 (.tup [.str "tell", .int (0 + (i : Int))])) := Same.new he2
        have he22 : (upd J1 e2 (.tup [.str "tell", .int (0 + (i : Int))])) e2 = some (.tup [.str "tell", .int (0 + (i : Int))]) := upd_same
        generalize upd J1 e2 (.tup [.str "tell", .int (0 + (i : Int))]) = J2 at sb2 he22 he3 hbl
        have sb3 : Same J2 (upd J2 e3 (.tup [.ref e2])) := Same.new he3
        have he33 : (upd J2 e3 (.tup [.ref e2])) e3 = some (.tup [.ref e2]) := upd_same
        generalize upd J2 e3 (.tup [.ref e2]) = J3 at sb3 he33 hbl
        have sb4 : Same J3 (upd J3 bl (.lst [.ref e1, .ref e3])) := Same.new hbl
        have hbl4 : (upd J3 bl (.lst [.ref e1, .ref e3])) bl = some (.lst [.ref e1, .ref e3]) := upd_same
        generalize upd J3 bl (.lst [.ref e1, .ref e3]) = J4 at sb4 hbl4
        have s74 := (sb1.trans sb2).trans (sb3.trans sb4)
        have pJ : Pu J4 p := p7.same s74
        have blp : bl ≠ p := by
          obtain ⟨x1, x2, x3, ep⟩ := pJ
          intro e
          rw [e, ep] at hbl4
          cases hbl4
        refine ⟨_, rfl, p, 2, rfl, pJ, by decide, by decide, fun rb ab bb cb lb ub => ?_⟩
        have o9 : Off p H2 (upd J4 p (.lst [.int ab, .int bb, .int cb])) := (o7.trans s74.off).trans Off.upd
        have o79 : Off p H7 (upd J4 p (.lst [.int ab, .int bb, .int cb])) := s74.off.trans Off.upd
        have p9 : Pu (upd J4 p (.lst [.int ab, .int bb, .int cb])) p := Pu.upd
        have hbl9 : (upd J4 p (.lst [.int ab, .int bb, .int cb])) bl = some (.lst [.ref e1, .ref e3]) := by rw [upd_ne blp]; exact hbl4
        have tJ := offT pJ (Off.upd (o := .lst [.int ab, .int bb, .int cb]))
        obtain ⟨bv, bT, hbv, dbv⟩ : ∃ (bv : V) (bT : T), atI [V.ref e1, V.ref e3] rb = some bv ∧ Dp (upd J4 p (.lst [.int ab, .int bb, .int cb])) bT bv := by
          rcases (by omega : rb = 0 ∨ rb = 1) with rfl | rfl
          · exact ⟨_, .tup [], atI_nat (j := 0) rfl, L2.Dp.tup (tJ e1 _ ((sb2.trans (sb3.trans sb4)) e1 _ he11)) .nil⟩
          · exact ⟨_, .tup [.tup [.str "tell", .int (0 + (i : Int))]], atI_nat (j := 1) rfl, L2.Dp.tup (tJ e3 _ (sb4 e3 _ he33)) (.cons (L2.Dp.tup (tJ e2 _ ((sb3.trans sb4) e2 _ he22)) (.cons (L2.Dp.str _) (.cons (L2.Dp.int _) .nil))) .nil)⟩
        generalize upd J4 p (.lst [.int ab, .int bb, .int cb]) = H9 at o9 o79 p9 hbl9 tJ dbv
        refine ⟨bl, _, _, _, rfl, rfl, SqL.of hbl9, hbv, ?_⟩
        have tu9 := offT p2 o9
        have hde9 := o9 de _ dep hde2
        have hke9 := o9 ke _ kep hke2
        have hwl9 := o9 wl _ wlp hwl2
        have hkq9 := offT p7 o79 kq _ hkq7
        have kdl : (keysD ds).length = ds.length := List.length_map _
        have zl : zs.length = ds.length := by have := dzs.length; rw [List.length_map] at this; omega
        have yl : ys.length = ds.length := by have := dys.length; rwa [List.length_map] at this
        have same : ∀ (v9 v10 v11 v12 : Option V), ∃ (ds : List DR) (ys zs : List V) (v9' v10' v11' v12' : Option V), ([some (.ref p), some (.ref fl), some (.ref a), some (.int tn), v4, some (.ref wl), some (.ref de), some (.ref ke), some (.int on), v9, v10, v11, v12] : L2.St) = [some (.ref p), some (.ref fl), some (.ref a), some (.int tn), v4, some (.ref wl), some (.ref de), some (.ref ke), some (.int on), v9', v10', v11', v12'] ∧ H9 de = some (.lst ys) ∧ DpL H9 (ds.map drT) ys ∧ H9 ke = some (.lst zs) ∧ DpL H9 ((keysD ds).map keyT) zs ∧ (keysD ds).Nodup ∧ ds.length ≤ 8 ∧ H9 a = some (.tup xs) ∧ DpL H9 (ks.map krT) xs ∧ H9 wl = some (.lst (ws.map V.str)) ∧ Off p H H9 ∧ Pu H9 p := fun v9 v10 v11 v12 => ⟨ds, ys, zs, _, _, _, _, rfl, hde9, dys.mono tu9, hke9, dzs.mono tu9, nd, hd8, tu9 a _ ha2, dl2.mono tu9, hwl9, o2.trans o9, p9⟩
        have dkey : Dp H9 (keyT (ks[ow.toNat].kind, x)) (.ref kq) := L2.Dp.tup hkq9 (.cons (L2.Dp.str _) (.cons (L2.Dp.str _) .nil))
        refine ⟨_, rfl, _, rfl, ke, zs, _, _, rfl, .inl hke9, dkey, dzs.mono tu9, fun t ht => ?_, _, rfl, ite2 (fun hb => ?_) (fun hb => iteF (same _ _ _ _))⟩
        · obtain ⟨kk, _, rfl⟩ := List.mem_map.mp ht
          intro t ht
          rcases List.mem_cons.mp ht with rfl | ht
          · trivial
          · rw [List.mem_singleton.mp ht]
            trivial
        have hnew : ¬ (ks[ow.toNat].kind, x) ∈ keysD ds := fun h => by
          have hb : (!dcd (keyT (ks[ow.toNat].kind, x) ∈ (keysD ds).map keyT)) = true := hb
          rw [dcd_t (keyT_mem.mpr h)] at hb
          cases hb
        refine ⟨_, rfl, ke, _, rfl, .inl (SqL.of hke9), _, _, rfl, rfl, _, rfl, ite2 (fun hb2 => ?_) (fun hb2 => same _ _ _ _)⟩
        have hlt : ds.length < 8 := by
          have : (zs.length : Int) < 8 := of_decide_eq_true hb2
          omega
        refine ⟨_, rfl, .inl ⟨rfl, _, SqL.of hke9⟩, _, rfl, ke, zs, .ref kq, rfl, rfl, hke9, by omega, ?_⟩
        have kp10 : ∀ b o, b ≠ ke → H9 b = some o → (upd H9 ke (.lst (zs ++ [.ref kq]))) b = some o := fun b o hb e => by rw [upd_ne hb]; exact e
        have tu10 : Tups H9 (upd H9 ke (.lst (zs ++ [.ref kq]))) := fun c ws' e => kp10 c _ (ne_of e hke9 (fun z => nomatch z)) e
        have hke10 : (upd H9 ke (.lst (zs ++ [.ref kq]))) ke = some (.lst (zs ++ [.ref kq])) := upd_same
        have p10 : Pu (upd H9 ke (.lst (zs ++ [.ref kq]))) p := p9.upd_ne kep.symm
        generalize upd H9 ke (.lst (zs ++ [.ref kq])) = H10 at kp10 tu10 hke10 p10
        have hde10 := kp10 de _ dek hde9
        have hwl10 := kp10 wl _ wlke hwl9
        have hkq10 := tu10 kq _ hkq9
        refine ⟨_, rfl, .inl ⟨rfl, _, SqL.of hde10⟩, _, rfl, _, rfl, _, rfl, p, wl, ws, 3, rfl, p10, hwl10, by decide, by omega, fun qs es H11 hqs _ _ hes o11 p11 => ⟨_, rfl, by show 2 ≤ sizeLine; decide, fun q2 hq2 => ?_⟩⟩
        have tu11 := offT p10 o11
        have s12 : Same H11 (upd H11 q2 (.tup [.ref qs, bv])) := Same.new hq2
        have hq22 : (upd H11 q2 (.tup [.ref qs, bv])) q2 = some (.tup [.ref qs, bv]) := upd_same
        generalize upd H11 q2 (.tup [.ref qs, bv]) = H12 at s12 hq22
        refine ⟨kq, q2, _, _, rfl, rfl, s12 kq _ (tu11 kq _ hkq10), hq22, by show 2 + 2 ≤ sizeLine; decide, fun q3 H13 hq3 s13 => ?_⟩
        have s1113 := s12.trans s13
        have hde13 := s1113 de _ (o11 de _ dep hde10)
        have hke13 := s1113 ke _ (o11 ke _ kep hke10)
        have hwl13 := s1113 wl _ (o11 wl _ wlp hwl10)
        have p13 := p11.same s1113
        refine ⟨de, ys, .ref q3, rfl, rfl, hde13, by omega, ?_⟩
        have tu14 : Tups H13 (upd H13 de (.lst (ys ++ [.ref q3]))) := fun c zs' e => by
          rw [upd_ne (ne_of e hde13 (fun z => nomatch z))]
          exact e
        have tuA : Tups H9 (upd H13 de (.lst (ys ++ [.ref q3]))) := tu10.trans (tu11.trans ((Same.tups s1113).trans tu14))
        refine ⟨ds ++ [⟨ks[ow.toNat].kind, x, .tup (es.map T.str), bT⟩], ys ++ [.ref q3], zs ++ [.ref kq], _, _, _, _, rfl, upd_same, ?_, by rw [upd_ne dek.symm]; exact hke13, ?_, ?_, by rw [List.length_append, List.length_singleton]; omega, tuA a _ (tu9 a _ ha2), dl2.mono (tu9.trans tuA), by rw [upd_ne wlde]; exact hwl13, fun b o hb e => ?_, p13.upd_ne dep.symm⟩
        · rw [List.map_append]
          exact ((dys.mono tu9).mono tuA).append (.cons (L2.Dp.tup (tu14 q3 _ hq3) (.cons (L2.Dp.str _) (.cons (L2.Dp.str _) (.cons (L2.Dp.tup (tu14 qs _ (s1113 qs _ hqs)) (DpL.strs _)) (.cons (dbv.mono tuA) .nil))))) .nil)
        · rw [keysD_snoc, List.map_append]
          exact ((dzs.mono tu9).mono tuA).append (.cons (dkey.mono tuA) .nil)
        · rw [keysD_snoc]
          exact nd_snoc nd hnew
        · rw [upd_ne (ne_of_none e hdeH)]
          exact s1113 b _ (o11 b _ hb (kp10 b _ (ne_of_none e hkeH) (o9 b _ hb (o2 b _ hb e))))
      · rintro σ H2 ⟨ds, ys, zs, v9, v10, v11, v12, rfl, hde2, dys, hke2, dzs, nd, hd8, ha2, dl2, hwl2, o2, p2⟩
        refine ⟨_, rfl, _, rfl, de, _, rfl, .inl ⟨SqL.of hde2, fun qd hqd => ⟨by show 2 ≤ sizeLine; decide, fun e1 he1 => ⟨by show 1 ≤ sizeLine; decide, fun e2 he2 => ⟨by show 3 ≤ sizeLine; decide, fun pr hpr => ?_⟩⟩⟩⟩⟩
        have sd : Same H2 (upd H2 qd (.tup ys)) := Same.new hqd
        have hqd1 : (upd H2 qd (.tup ys)) qd = some (.tup ys) := upd_same
        have s4 := (Same.new (o := .tup [.str "tell", .non]) he1).trans ((Same.new (o := .tup [.ref e1]) he2).trans (Same.new (o := .tup [.ref a, .ref qd, .ref e2]) hpr))
        have sT := sd.trans s4
        refine k _ ks ds _ ⟨pr, .ref a, .ref qd, .ref e2, rfl, upd_same, L2.Dp.tup (sT a _ ha2) (dl2.mono (Same.tups sT)), L2.Dp.tup (s4 qd _ hqd1) (dys.mono (Same.tups sT))⟩ ⟨gk, by omega, nd⟩ (o2.trans sT.off)
end
end K23
end
section
set_option autoImplicit false
namespace K23
open PySem PyProof.Rows L2
section
variable {P : Program} {w : World} {K : PySem.W.Frag} {mg : Str → Option Value} {base : Heap} {t : Adr}
def spRising : Sp := fun vs H Q _ => ∃ (d : Addr) (kvs : List (Key × V)) (ns : List Str), vs = [.ref d] ∧ Rd H d (.dK kvs) ∧ kvs.map (fun kv => kV kv.1) = ns.map V.str ∧ ns.Nodup ∧ ns.length ≤ 1000 ∧
  ∀ (l : Addr) (rs : List Str) H', H l = none → rs.Perm ns → rs.Pairwise (fun a b => ltS a b = true) → H' l = some (.lst (rs.map V.str)) → Same H H' → Q (.ref l) H'
theorem ok_rising (D : Defs K mg t) : FnOk P w K mg base CX0 1 t._law_rising.1 t._law_rising.2 ["_law_names"] spRising := by
  have hz : sizeLine = 16777216 := sizeLine_eq
  refine D._law_rising.fn.ok sc__law_rising (fun vs H Q E h => ?_) (fun cdv A outer s H vs Q E hr h => ?_)
  · obtain ⟨d, kvs, ns, rfl, _⟩ := h
    rfl
  · obtain ⟨d, kvs, ns, rfl, hd, ek, nd, hlen, k⟩ := h
    refine ⟨_, (pss_cons (ps_par (i := 1) (j := 2) rfl sc__law_rising.nd rfl rfl (by decide) rfl rfl (pa_cons (pe_callTy (call_listD rfl) (by rfl) D.b_list bt_list (pa_cons (pv 0) pa_nil)) (pa_cons (pe_lst pa_nil) pa_nil)) rfl)
      (pss_cons (ps_while PassesOwn.never (pt_cmpR (op_neE rfl hr.units0) (pv 1) (pe_lst pa_nil) (nomark _))
      (pss_cons (ps_set (i := 3) sc__law_rising.nd rfl (Or.inl rfl) (pe_callB (call_minS rfl) (by rfl) D.b_min bt_min (pa_cons (pv 1) pa_nil)))
      (pss_cons (ps_expr (pe_bm PySem.F.plainAttrs_list PySem.F.slot_list_append PySem.F.type_list_append mt_append (pv 2) (pa_cons (pv 3) pa_nil)))
      (pss_one (ps_expr (pe_bm PySem.F.plainAttrs_list PySem.F.slot_list_remove PySem.F.type_list_remove mt_removeS (pv 1) (pa_cons (pv 3) pa_nil)))))))
      (pss_one (ps_ret (pv 2))))), ?_⟩
    refine ⟨_, rfl, d, kvs, rfl, hd, fun a ha => ?_⟩
    rw [ek]
    refine ⟨Nat.zero_le _, fun b hb => ⟨_, _, rfl, ?_⟩⟩
    have ab : a ≠ b := ne_of_none upd_same hb
    have hbH : H b = none := by rw [upd_ne ab.symm] at hb; exact hb
    refine ⟨fun m σ H2 => ∃ (ls rs : List Str) (v3 : Option V), σ = [some (.ref d), some (.ref a), some (.ref b), v3] ∧ m = ls.length ∧ (rs ++ ls).Perm ns ∧ rs.Pairwise (fun x y => ltS x y = true) ∧ (∀ x ∈ rs, ∀ y ∈ ls, ltS x y = true) ∧ H2 a = some (.lst (ls.map V.str)) ∧ H2 b = some (.lst (rs.map V.str)) ∧ Same H H2,
      ⟨_, ns, [], _, rfl, rfl, .refl _, .nil, by simp, by rw [upd_ne ab, upd_same], upd_same, (Same.new ha).trans (Same.new hb)⟩, ?_⟩
    rintro m σ H2 ⟨ls, rs, v3, rfl, rfl, pm, pw, lt, ha2, hb2, s2⟩
    refine ⟨_, rfl, Nat.zero_le _, fun e0 he0 => ⟨a, e0, _, rfl, rfl, SqL.of (by rw [upd_ne (ne_of_none ha2 he0)]; exact ha2), SqL.of upd_same, _, rfl, ?_⟩⟩
    have s3 : Same H2 (upd H2 e0 (.lst [])) := Same.new he0
    have ha3 := s3 a _ ha2
    have hb3 := s3 b _ hb2
    have sm := s2.trans s3
    generalize upd H2 e0 (.lst []) = H3 at s3 ha3 hb3 sm
    cases hls : ls with
    | nil =>
      subst hls
      refine iteF ⟨_, rfl, ?_⟩
      rw [List.append_nil] at pm
      exact k b rs H3 hbH pm pw hb3 sm
    | cons y0 yr =>
      rw [← hls]
      have hne : ls ≠ [] := by rw [hls]; exact List.cons_ne_nil _ _
      have hb' : (!(ls.map V.str).isEmpty) = true := by rw [hls]; rfl
      rw [hb']
      clear hls hb' y0 yr
      refine iteT ⟨fun σ' H' => ∃ m', m' < ls.length ∧ ∃ (ls rs : List Str) (v3 : Option V), σ' = [some (.ref d), some (.ref a), some (.ref b), v3] ∧ m' = ls.length ∧ (rs ++ ls).Perm ns ∧ rs.Pairwise (fun x y => ltS x y = true) ∧ (∀ x ∈ rs, ∀ y ∈ ls, ltS x y = true) ∧ H' a = some (.lst (ls.map V.str)) ∧ H' b = some (.lst (rs.map V.str)) ∧ Same H H', fun σ' H' h => h, ?_⟩
      refine ⟨_, rfl, a, ls, rfl, ha3, hne, fun x hx least => ?_⟩
      have pl := pm.length_eq
      rw [List.length_append] at pl
      refine ⟨_, rfl, .inl ⟨rfl, _, SqL.of hb3⟩, _, rfl, b, _, .str x, rfl, rfl, hb3, by rw [List.length_map]; omega, ?_⟩
      have ha4 : (upd H3 b (.lst (rs.map V.str ++ [.str x]))) a = some (.lst (ls.map V.str)) := by rw [upd_ne ab]; exact ha3
      refine ⟨_, rfl, .inl ⟨rfl, _, SqL.of ha4⟩, _, rfl, a, ls, x, rfl, rfl, ha4, hx, ?_⟩
      have ndl : ls.Nodup := (List.nodup_append.mp (pm.nodup_iff.mpr nd)).2.1
      have el : (ls.erase x).length = ls.length - 1 := List.length_erase_of_mem hx
      have l0 : 0 < ls.length := List.length_pos_iff.mpr hne
      refine ⟨(ls.erase x).length, by omega, ls.erase x, rs ++ [x], _, rfl, rfl, ?_, ?_, fun z hz' y hy => ?_, upd_same, ?_, fun c o z => ?_⟩
      · rw [List.append_assoc]
        exact ((List.perm_cons_erase hx).symm.append_left rs).trans pm
      · rw [List.pairwise_append]
        exact ⟨pw, List.pairwise_singleton _ _, fun z hz' y hy => by rw [List.mem_singleton.mp hy]; exact lt z hz' x hx⟩
      · have hyl : y ∈ ls := List.mem_of_mem_erase hy
        rcases List.mem_append.mp hz' with h | h
        · exact lt z h y hyl
        · rw [List.mem_singleton.mp h]
          have ne : ¬ x = y := fun e => by
            rw [← e] at hy
            exact (ndl.not_mem_erase) hy
          rcases ltS_tot ne with g | g
          · exact g
          · rw [least y hyl] at g
            cases g
      · rw [upd_ne ab.symm, upd_same, List.map_append]
        rfl
      · rw [upd_ne (ne_of_none z ha), upd_ne (ne_of_none z hbH)]
        exact sm c o z
end
end K23
end
section
set_option autoImplicit false
namespace K23
open PySem PyProof.Rows L2
def bodK (ps : List (Str × Int)) : List (Key × V) := ps.map fun p => (.inr p.1, .int p.2)
theorem bodK_keys (ps : List (Str × Int)) : (bodK ps).map (fun kv => kV kv.1) = (ps.map (·.1)).map V.str := by
  unfold bodK
  rw [List.map_map, List.map_map]
  rfl
theorem bodK_val : ∀ {ps : List (Str × Int)}, (ps.map (·.1)).Nodup → ∀ {p : Str × Int}, p ∈ ps → valV (bodK ps) (.inr p.1) = some (.int p.2)
  | [], _, _, h => by cases h
  | q :: ps, nd, p, h => by
    obtain ⟨n1, n2⟩ := List.nodup_cons.mp nd
    rcases List.mem_cons.mp h with rfl | h'
    · exact valV_pos (p := ((.inr p.1 : Key), V.int p.2)) rfl
    · show valV ((.inr q.1, V.int q.2) :: bodK ps) (.inr p.1) = _
      rw [valV_neg (p := ((.inr q.1 : Key), V.int q.2)) (by intro z; injection z with z; exact n1 (by show q.1 ∈ _; rw [z]; exact List.mem_map.mpr ⟨p, h', rfl⟩))]
      exact bodK_val n2 h'
theorem bodK_put {ps : List (Str × Int)} {n : Str} {i : Int} (h : ¬ n ∈ ps.map (·.1)) : putK (bodK ps) (.inr n) (.int i) = bodK (ps ++ [(n, i)]) := by
  have hn : valV (bodK ps) (.inr n) = none := by
    cases q : valV (bodK ps) (.inr n) with
    | none => rfl
    | some y =>
      have h1 : (valV (bodK ps) (.inr n)).isSome = true := by rw [q]; rfl
      rw [valV_key] at h1
      unfold bodK at h1
      rw [List.map_map, List.mem_map] at h1
      obtain ⟨z, hz, e⟩ := h1
      have e : (Sum.inr z.1 : Key) = Sum.inr n := e
      injection e with e
      exact absurd (List.mem_map.mpr ⟨z, hz, e⟩) h
  rw [putK_new _ hn]
  unfold bodK
  rw [List.map_append]
  rfl
theorem perm_lift {α β : Type} {f : α → β} : ∀ {rs ms : List β}, rs.Perm ms → ∀ ps : List α, ps.map f = ms → ∃ qs : List α, qs.Perm ps ∧ qs.map f = rs := by
  intro rs ms h
  induction h with
  | nil => exact fun ps e => ⟨ps, .refl _, e⟩
  | @cons x l1 l2 _ ih =>
    intro ps e
    cases ps with
    | nil => cases e
    | cons p ps =>
      rw [List.map_cons] at e
      injection e with e1 e2
      obtain ⟨qs, h1, h2⟩ := ih ps e2
      exact ⟨p :: qs, h1.cons p, by rw [List.map_cons, e1, h2]⟩
  | swap x y l =>
    intro ps e
    match ps, e with
    | p :: q :: ps, e =>
      rw [List.map_cons, List.map_cons] at e
      injection e with e1 e2
      injection e2 with e2 e3
      exact ⟨q :: p :: ps, .swap p q ps, by rw [List.map_cons, List.map_cons, e1, e2, e3]⟩
  | trans _ _ i1 i2 =>
    intro ps e
    obtain ⟨qs, h1, h2⟩ := i2 ps e
    obtain ⟨os, h3, h4⟩ := i1 qs h2
    exact ⟨os, h3.trans h1, h4⟩
theorem ris_pw : ∀ {qs : List (Str × Int)}, (qs.map (·.1)).Pairwise (fun a b => ltS a b = true) → Ris qs
  | [], _ => trivial
  | q :: qs, h => by
    rw [List.map_cons] at h
    obtain ⟨h1, h2⟩ := List.pairwise_cons.mp h
    exact ⟨fun p hp => h1 p.1 (List.mem_map.mpr ⟨p, hp, rfl⟩), ris_pw h2⟩
noncomputable def ordG (ks : List KR) : Str → List Str := fun x => (ordF (famK ks) x).getD []
theorem putG_id {g : Str → List Str} {x : Str} {o : List Str} (h : g x = o) : putG g x o = g := by
  funext y
  unfold putG
  by_cases e : y = x
  · rw [if_pos e, e, h]
  · rw [if_neg e]
section
variable {P : Program} {w : World} {K : PySem.W.Frag} {mg : Str → Option Value} {base : Heap} {t : Adr}
def spDue : Sp := fun vs H Q _ => ∃ (v : V) (ks : List KR) (ds : List DR), vs = [v] ∧ ProgAt H v ks ds ∧ GoodP ks ds ∧ ∀ (u : V) H', Dp H' (tabK ks ds) u → Same H H' → Q u H'
theorem ok_due (D : Defs K mg t) : FnOk P w K mg base CX0 2 t._law_due.1 t._law_due.2 ["_law_program"] spDue := by
  have G__law_merge : FnOk P w K mg base CX0 1 t._law_merge.1 t._law_merge.2 _ spMerge := ok_merge D
  have G__law_rising : FnOk P w K mg base CX0 1 t._law_rising.1 t._law_rising.2 _ spRising := ok_rising D
  have hz : sizeLine = 16777216 := sizeLine_eq
  refine D._law_due.fn.ok sc__law_due (fun vs H Q E h => ?_) (fun cdv A outer s H vs Q E hr h => ?_)
  · obtain ⟨v, ks, ds, rfl, _⟩ := h
    rfl
  · obtain ⟨v, ks, ds, rfl, ⟨p0, kv, dv, rv, rfl, hp0, dk, dd⟩, G, k⟩ := h
    have k7 := G.gk.len
    have d60 := G.dl
    obtain ⟨a, xs, rfl, ha, dl⟩ := L2.Dp.of_tup dk
    obtain ⟨da, dxs, rfl, hda, ddl⟩ := L2.Dp.of_tup dd
    have hxl : xs.length = ks.length := by have := dl.length; rwa [List.length_map] at this
    have hdl : dxs.length = ds.length := by have := ddl.length; rwa [List.length_map] at this
    refine ⟨_, (pss_cons (ps_asg (pe_tup (pa_cons pe_dnewK (pa_cons (pe_lst pa_nil) pa_nil))) (pg_tup rfl (pgs_cons (pg_name (i := 1) sc__law_due.nd rfl (Or.inr rfl)) (pgs_cons (pg_name (i := 2) sc__law_due.nd rfl (Or.inl rfl)) pgs_nil))))
      (pss_cons (ps_for PassesOwn.never rfl (pi_tup (pe_ix ix_tup (pv 0) pe_int (fun _ _ => rfl))) (pg_tup rfl (pgs_cons (pg_name (i := 3) sc__law_due.nd rfl (Or.inl rfl)) (pgs_cons (pg_name (i := 4) sc__law_due.nd rfl (Or.inl rfl)) (pgs_cons (pg_name (i := 5) sc__law_due.nd rfl (Or.inl rfl)) pgs_nil))))
      (pss_cons (ps_dput (hu_of hr) (pv 1) (pv 3) (pe_callF D._law_merge G__law_merge (hr.mono (by omega)) (by rfl) (pa_cons (pv 3) (pa_cons (pe_op op_cat (pe_comp rfl (CompScope.of ["_law_one"] [1] ["_law_one", "_law_orders"] (defScope (top 26)) ["_law_program", "_law_orders", "_law_table", "_law_kind", "_law_elders", "_law_fields", "_law_bodies", "_law_k", "_law_deeds"] rfl rfl (by decide +kernel)) ⟨fun _ _ _ _ _ => (pg_name (i := 0) (show List.Nodup [("_law_one" : Str), ("_law_orders" : Str)] by decide +kernel) rfl (Or.inl (lookup_relabel_local rfl)) (.inr (lookup_relabel_local rfl))), fun _ _ _ _ _ => pts_nil, fun _ _ _ _ _ => (pe_dget (hu_of hr) (pv 1) (pv 0) (fun _ _ => rfl))⟩ (pi_tup (pv 4))) (pe_lst (pa_cons (pv 4) pa_nil))) pa_nil))) rfl)
      (pss_cons (ps_set (i := 6) sc__law_due.nd rfl (Or.inr rfl) pe_dnewK)
      (pss_cons (ps_for PassesOwn.never rfl (pi_range1 rfl D.b_range (pa_cons (pe_callB call_len_seq (by rfl) D.b_len bt_len (pa_cons (pe_ix ix_tup (pv 0) pe_int (fun _ _ => rfl)) pa_nil)) pa_nil)) (pg_name (i := 7) sc__law_due.nd rfl (Or.inl rfl))
      (pss_one (ps_if (pt_cmpR op_eq (pe_ix ix_tup (pe_ix ix_tup (pe_ix ix_tup (pv 0) pe_int (fun _ _ => rfl)) (pv 7) (fun _ _ => rfl)) pe_int (fun _ _ => rfl)) (pv 3) (nomark _))
      (pss_one (ps_dput (hu_of hr) (pv 6) (pe_ix ix_tup (pe_ix ix_tup (pe_ix ix_tup (pv 0) pe_int (fun _ _ => rfl)) (pv 7) (fun _ _ => rfl)) pe_int (fun _ _ => rfl)) (pe_op op_add (pv 7) pe_int) rfl))
      pss_nil)))
      (pss_cons (ps_set (i := 8) sc__law_due.nd rfl (Or.inl rfl) (pe_callTy call_tuple_of (by rfl) D.b_tuple bt_tuple (pa_cons (pe_comp rfl (CompScope.of ["_law_name"] [6] ["_law_name", "_law_bodies"] (defScope (top 26)) ["_law_program", "_law_orders", "_law_table", "_law_kind", "_law_elders", "_law_fields", "_law_bodies", "_law_k", "_law_deeds"] rfl rfl (by decide +kernel)) ⟨fun _ _ _ _ _ => (pg_name (i := 0) (show List.Nodup [("_law_name" : Str), ("_law_bodies" : Str)] by decide +kernel) rfl (Or.inl (lookup_relabel_local rfl)) (.inr (lookup_relabel_local rfl))), fun _ _ _ _ _ => pts_nil, fun _ _ _ _ _ => (pe_tup (pa_cons (pv 0) (pa_cons (pe_dget (hu_of hr) (pv 1) (pv 0) (fun _ _ => rfl)) pa_nil)))⟩ (pi_list (pe_callF D._law_rising G__law_rising (hr.mono (by omega)) (by rfl) (pa_cons (pv 6) pa_nil)))) pa_nil)))
      (pss_one (ps_expr (pe_bm PySem.F.plainAttrs_list PySem.F.slot_list_append PySem.F.type_list_append mt_append (pv 2) (pa_cons (pe_tup (pa_cons (pv 3) (pa_cons (pv 4) (pa_cons (pe_dget (hu_of hr) (pv 1) (pv 3) (fun _ _ => rfl)) (pa_cons (pv 5) (pa_cons (pv 8) (pa_cons pe_int pa_nil))))))) pa_nil)))))))))
      (pss_one (ps_ret (pe_callTy call_tuple_of (by rfl) D.b_tuple bt_tuple (pa_cons (pv 2) pa_nil)))))), ?_⟩
    intro od hod
    refine ⟨Nat.zero_le _, fun tl htl => ⟨by show 2 ≤ sizeLine; decide, fun tq htq => ?_⟩⟩
    refine ⟨tq, _, rfl, SqT.of upd_same, rfl, _, _, rfl, _, _, rfl, rfl, ?_⟩
    have odtl : od ≠ tl := ne_of_none upd_same htl
    have htlH : H tl = none := by rw [upd_ne odtl.symm] at htl; exact htl
    have tltq : tl ≠ tq := ne_of_none upd_same htq
    have odtq : od ≠ tq := fun e => by rw [← e, upd_ne odtl, upd_same] at htq; cases htq
    have sm : Same H (upd (upd (upd H od (.dK [])) tl (.lst [])) tq (.tup [.ref od, .ref tl])) := (Same.new hod).trans ((Same.new htl).trans (Same.new htq))
    have hod3 : (upd (upd (upd H od (.dK [])) tl (.lst [])) tq (.tup [.ref od, .ref tl])) od = some (.dK []) := by rw [upd_ne odtq, upd_ne odtl, upd_same]
    have htl3 : (upd (upd (upd H od (.dK [])) tl (.lst [])) tq (.tup [.ref od, .ref tl])) tl = some (.lst []) := by rw [upd_ne tltq, upd_same]
    generalize upd (upd (upd H od (.dK [])) tl (.lst [])) tq (.tup [.ref od, .ref tl]) = H3 at sm hod3 htl3
    refine ⟨_, rfl, p0, _, _, _, rfl, rfl, SqT.of (sm p0 _ hp0), atI_nat (j := 0) rfl, a, rfl, ⟨_, SqT.of (sm a _ ha)⟩, for_tup (K := K) (a := a) (xs := xs) (fun i σ H4 => ∃ (ys : List V) (kvs : List (Key × V)) (v3 v4 v5 v6 v7 v8 : Option V), σ = [some (.ref p0), some (.ref od), some (.ref tl), v3, v4, v5, v6, v7, v8] ∧ H4 tl = some (.lst ys) ∧ DpL H4 ((ks.take i).map (rowK (famK ks) ds)) ys ∧ H4 od = some (.dK kvs) ∧ kvs.length ≤ i ∧ OrdsG H4 kvs (ordG ks) ((knd ks).take i) ∧ Same H H4)
      ⟨[], [], _, _, _, _, _, _, rfl, htl3, .nil, hod3, Nat.le_refl _, fun x hx => by simp at hx, sm⟩ (fun i σ H4 _ ⟨_, _, _, _, _, _, _, _, _, _, _, _, _, _, s⟩ => SqT.of (s a _ ha)) ?_ ?_⟩
    · rintro i x σ H4 hi ⟨ys, kvs, v3, v4, v5, v6, v7, v8, rfl, htl4, dy, hod4, hkl, og, sm4⟩
      have hix : i < xs.length := (List.getElem?_eq_some_iff.mp hi).1
      have hik : i < ks.length := by omega
      obtain ⟨x', ex, dx⟩ := dl.get (i := i) (t := krT ks[i]) (by rw [List.getElem?_map, List.getElem?_eq_getElem hik]; rfl)
      rw [ex] at hi
      cases hi
      obtain ⟨q0, q, f, rfl, hq0, hq, hf⟩ := K23.Dp.of_kr (dx.mono (Same.tups sm4))
      have hrm : ks[i] ∈ ks := List.getElem_mem hik
      obtain ⟨os, ho, hmg⟩ := G.gk.ord _ hrm
      obtain ⟨sub, hel⟩ := G.gk.el i ks[i] (List.getElem?_eq_getElem hik)
      have hol := (ord_names G.gk.fam ks[i].kind (by rw [nms_famK]; exact List.mem_map.mpr ⟨_, hrm, rfl⟩) _ ho).2.2
      have eg : ordG ks ks[i].kind = ks[i].kind :: os := by unfold ordG; rw [ho]; rfl
      generalize hes : ks[i].elders = es at hq sub hel hmg
      refine ⟨q0, _, rfl, SqT.of hq0, rfl, _, _, rfl, _, _, rfl, _, _, rfl, rfl, ?_⟩
      refine ⟨_, rfl, _, rfl, q, rfl, ⟨_, SqT.of hq⟩, fun D1 hD1 => ?_⟩
      have s4 : ∀ u, Same H4 (upd H4 D1 u) := fun u => Same.new hD1
      refine comp_by (n := (es.map V.str).length) (fun j ys H6 => RowsT H4 ys ((es.take j).map (ordG ks)) ∧ H6 = upd H4 D1 (.lst ys)) ⟨.nil, rfl⟩ ?_ ?_
      rotate_left
      · rintro j ys H6 hj ⟨rt, rfl⟩
        have hj' : j < es.length := by rw [List.length_map] at hj; exact hj
        have ej : (es.map V.str)[j]? = some (.str es[j]) := by rw [List.getElem?_map, List.getElem?_eq_getElem hj']; rfl
        refine ⟨⟨_, _, SqT.of (s4 _ q _ hq), ej⟩, ?_⟩
        rintro y H7 ⟨rfl, yy⟩ σo ho
        obtain ⟨oo, rfl⟩ := own1 ho
        have ey := yy _ (SqT.of (s4 _ q _ hq))
        rw [ej] at ey
        cases ey
        obtain ⟨q', h1, h2, _⟩ := og es[j] (sub _ (List.getElem_mem hj'))
        refine ⟨⟨[_], rfl, rfl⟩, yes_by ⟨_, rfl, _, rfl, od, .ref q', rfl, .inl ⟨kvs, .inr es[j], .inl (s4 _ od _ hod4), rfl, h1.symm⟩, by rw [Paired.length rt, List.length_map, List.length_take]; omega, upd_same, less_by hj ⟨?_, by rw [upd_upd]⟩⟩⟩
        rw [take_snoc hj', List.map_append]
        exact pairedSnoc rt ⟨q', rfl, h2⟩
      rintro us H6 ⟨rt, rfl⟩
      rw [List.length_map, List.take_of_length_le (Nat.le_refl _)] at rt
      refine ⟨⟨_, SqT.of (s4 _ q _ hq), Nat.le_refl _⟩, ?_⟩
      have hyl : us.length = es.length := by rw [Paired.length rt, List.length_map]
      refine ⟨_, rfl, by show 1 ≤ sizeLine; decide, fun m2 hm2 => ?_⟩
      have s6 := (s4 (.lst us)).trans (Same.new (o := .lst [.ref q]) hm2)
      have hD6 : (upd (upd H4 D1 (.lst us)) m2 (.lst [.ref q])) D1 = some (.lst us) := by rw [upd_ne (ne_of_none upd_same hm2), upd_same]
      refine ⟨D1, m2, us, [.ref q], rfl, rfl, hD6, upd_same, by show us.length + 1 ≤ sizeLine; omega, fun ra hra => ?_⟩
      have s7 := s6.trans (Same.new (o := .lst (us ++ [.ref q])) hra)
      have hra7 : (upd (upd (upd H4 D1 (.lst us)) m2 (.lst [.ref q])) ra (.lst (us ++ [.ref q]))) ra = some (.lst (us ++ [.ref q])) := upd_same
      generalize upd (upd (upd H4 D1 (.lst us)) m2 (.lst [.ref q])) ra (.lst (us ++ [.ref q])) = H7 at s7 hra7
      have rt7 : RowsT H7 (us ++ [.ref q]) (rowsG (ordG ks) es) := pairedSnoc (rt.mono (Same.tups s7)) ⟨q, rfl, s7 q _ hq⟩
      have tt := tot_rowsG (g := ordG ks) (es := es) fun x hx => by
        obtain ⟨_, _, _, h⟩ := og x (sub x hx)
        exact h
      refine ⟨ks[i].kind, ra, _, rowsG (ordG ks) es, rfl, hra7, rt7, by omega, by unfold rowsG; rw [List.length_append, List.length_map, List.length_singleton]; omega, fun v r H8 hm res s8 => ?_⟩
      have s48 := s7.trans s8
      have er := Mg.det hm (show Mg (full (rowsG (ordG ks) es)) (some os) from hmg)
      subst er
      obtain ⟨qo, rfl, hqo⟩ : ∃ qo, v = V.ref qo ∧ H8 qo = some (.tup ((ks[i].kind :: os).map V.str)) := res
      have hod8 := s48 od _ hod4
      have htl8 := s48 tl _ htl4
      refine ⟨_, rfl, _, rfl, od, _, rfl, DPut.k (k := .inr ks[i].kind) hod8 (by omega), ?_⟩
      have tu9 : Tups H8 (upd H8 od (.dK (putK kvs (.inr ks[i].kind) (.ref qo)))) := fun c zs e => by
        rw [upd_ne (ne_of e hod8 (fun z => nomatch z))]
        exact e
      have og9 := (og.mono (Same.tups s48)).put (x := ks[i].kind) tu9 (tu9 qo _ hqo) hol
      rw [putG_id eg] at og9
      have tk : (knd ks).take i ++ [ks[i].kind] = (knd ks).take (i + 1) := by
        have hin : i < (knd ks).length := by unfold knd; rw [List.length_map]; exact hik
        have he : (knd ks)[i] = ks[i].kind := List.getElem_map ..
        rw [take_snoc hin, he]
      rw [tk] at og9
      have sm9 : Same H (upd H8 od (.dK (putK kvs (.inr ks[i].kind) (.ref qo)))) := fun b o e => by
        rw [upd_ne (ne_of_none e hod)]
        exact s48 b _ (sm4 b o e)
      have hod9 : (upd H8 od (.dK (putK kvs (.inr ks[i].kind) (.ref qo)))) od = some (.dK (putK kvs (.inr ks[i].kind) (.ref qo))) := upd_same
      have htl9 : (upd H8 od (.dK (putK kvs (.inr ks[i].kind) (.ref qo)))) tl = some (.lst ys) := by rw [upd_ne odtl.symm]; exact htl8
      have tu49 : Tups H4 (upd H8 od (.dK (putK kvs (.inr ks[i].kind) (.ref qo)))) := (Same.tups s48).trans tu9
      have hqo9 := tu9 qo _ hqo
      have hkl9 : (putK kvs (.inr ks[i].kind) (V.ref qo)).length ≤ i + 1 := Nat.le_trans (length_putK _ _ _) (by omega)
      have hg9 : valV (putK kvs (.inr ks[i].kind) (V.ref qo)) (.inr ks[i].kind) = some (.ref qo) := by rw [valV_put, if_pos rfl]
      generalize putK kvs (.inr ks[i].kind) (V.ref qo) = kvs9 at og9 sm9 hod9 htl9 tu49 hqo9 hkl9 hg9
      clear tu9
      generalize upd H8 od (.dK kvs9) = H9 at og9 sm9 hod9 htl9 tu49 hqo9
      have hq9 := tu49 q _ hq
      have hf9 := tu49 f _ hf
      intro bd hbd
      refine ⟨_, rfl, p0, _, _, _, rfl, rfl, SqT.of ((sm9.trans (Same.new hbd)) p0 _ hp0), atI_nat (j := 1) rfl, da, _, rfl, .inr (SqT.of ((sm9.trans (Same.new hbd)) da _ hda)), _, rfl, by omega, by omega, ?_⟩
      refine for_range (lo := 0) (n := ((dxs.length : Nat) : Int).toNat) (fun j σ H2 => ∃ (v7 v8 : Option V), σ = [some (.ref p0), some (.ref od), some (.ref tl), some (.str ks[i].kind), some (.ref q), some (.ref f), some (.ref bd), v7, v8] ∧ H2 = upd H9 bd (.dK (bodK (ownP ds ks[i].kind j))))
        ⟨_, _, rfl, rfl⟩ ?_ ?_
      · rintro j σ H2 hj ⟨v7, v8, rfl, rfl⟩
        have hjd : j < ds.length := by omega
        have sb : Same H9 (upd H9 bd (.dK (bodK (ownP ds ks[i].kind j)))) := Same.new hbd
        have smb := sm9.trans sb
        obtain ⟨y, ey, dy'⟩ := ddl.get (i := j) (t := drT ds[j]) (by rw [List.getElem?_map, List.getElem?_eq_getElem hjd]; rfl)
        obtain ⟨qd, m, b, rfl, hqd⟩ := K23.Dp.of_dr (dy'.mono (Same.tups smb))
        have ea : atI dxs (0 + (j : Int)) = some (.ref qd) := by rw [Int.zero_add]; exact atI_nat ey
        have hp0b := smb p0 _ hp0
        have hdab := smb da _ hda
        have eo := ownP_succ (k := ks[i].kind) (List.getElem?_eq_getElem hjd)
        have ol := ownP_len ds ks[i].kind j (by omega)
        refine ⟨_, rfl, p0, _, _, _, rfl, rfl, SqT.of hp0b, atI_nat (j := 1) rfl, _, rfl, da, _, _, _, rfl, rfl, SqT.of hdab, ea, qd, _, _, _, rfl, rfl, SqT.of hqd, atI_nat (j := 0) rfl, _, rfl, rfl, _, rfl, ?_⟩
        by_cases e : ds[j].kind = ks[i].kind
        · rw [if_pos e] at eo
          refine itePos (by rw [e]; exact decide_eq_true rfl) ?_
          have bl : (bodK (ownP ds ks[i].kind j)).length < sizeLine := by unfold bodK; rw [List.length_map]; omega
          refine ⟨_, rfl, _, _, rfl, rfl, _, rfl, _, rfl, p0, _, _, _, rfl, rfl, SqT.of hp0b, atI_nat (j := 1) rfl, _, rfl, da, _, _, _, rfl, rfl, SqT.of hdab, ea, qd, _, _, _, rfl, rfl, SqT.of hqd, atI_nat (j := 1) rfl, bd, _, rfl, DPut.k (k := .inr ds[j].name) upd_same bl, ?_⟩
          refine ⟨_, _, rfl, ?_⟩
          have nm : ¬ ds[j].name ∈ (ownP ds ks[i].kind j).map (·.1) := fun hx => by
            have := ownP_nd G.nd ks[i].kind (j + 1) (by omega)
            rw [eo, List.map_append, List.nodup_append] at this
            exact this.2.2 _ hx _ (List.mem_singleton.mpr rfl) rfl
          rw [upd_upd, bodK_put nm, eo, show (0 : Int) + (j : Int) + 1 = 1 + (j : Int) by omega]
        · rw [if_neg e, List.append_nil] at eo
          refine iteNeg (by rw [decide_eq_false (by intro z; injection z with z; exact e z)]; exact Bool.false_ne_true) ?_
          exact ⟨_, _, rfl, by rw [eo]⟩
      · rintro σ H2 ⟨v7, v8, rfl, rfl⟩
        rw [show ((dxs.length : Nat) : Int).toNat = ds.length by omega]
        have sb : Same H9 (upd H9 bd (.dK (bodK (ownP ds ks[i].kind ds.length)))) := Same.new hbd
        have hb1 : (upd H9 bd (.dK (bodK (ownP ds ks[i].kind ds.length)))) bd = some (.dK (bodK (ownP ds ks[i].kind ds.length))) := upd_same
        generalize upd H9 bd (.dK (bodK (ownP ds ks[i].kind ds.length))) = H10 at sb hb1
        have ndo := ownP_nd G.nd ks[i].kind ds.length (Nat.le_refl _)
        have ol := ownP_len ds ks[i].kind ds.length (Nat.le_refl _)
        refine ⟨_, rfl, bd, _, (ownP ds ks[i].kind ds.length).map (·.1), rfl, .inl hb1, bodK_keys _, ndo, by rw [List.length_map]; omega, fun l rs H11 hln pm pw hl11 s11 => ?_⟩
        obtain ⟨qs, pq, rfl⟩ := perm_lift pm _ rfl
        have eq := risP_eq (ris_pw pw) pq
        have ql := pq.length_eq
        refine ⟨l, rfl, ⟨_, SqL.of hl11⟩, fun D2 hD2 => ?_⟩
        refine comp_by (n := ((qs.map (·.1)).map V.str).length) (fun j zs H12 => DpL H12 ((qs.take j).map deedT) zs ∧ H12 D2 = some (.lst zs) ∧ Same H11 H12) ⟨.nil, upd_same, Same.new hD2⟩ ?_ ?_
        · rintro zs H12 ⟨dz, hD12, s12⟩
          rw [List.length_map, List.length_map, List.take_of_length_le (Nat.le_refl _)] at dz
          refine ⟨⟨_, SqL.of (s12 l _ hl11), Nat.le_refl _⟩, D2, _, rfl, .inl ⟨SqL.of hD12, fun qt hqt => ?_⟩⟩
          have s13 := (sb.trans s11).trans (s12.trans (Same.new (o := .tup zs) hqt))
          have dqt : Dp (upd H12 qt (.tup zs)) (.tup (qs.map deedT)) (.ref qt) := L2.Dp.tup upd_same (dz.mono (Same.tups (Same.new hqt)))
          generalize upd H12 qt (.tup zs) = H13 at s13 dqt
          have htl13 := s13 tl _ htl9
          have hod13 := s13 od _ hod9
          refine ⟨_, rfl, .inl ⟨rfl, _, SqL.of htl13⟩, _, rfl, _, rfl, _, rfl, _, rfl, od, .ref qo, rfl, .inl ⟨kvs9, .inr ks[i].kind, .inl hod13, rfl, hg9.symm⟩, _, rfl, _, rfl, by show 6 ≤ sizeLine; decide, fun qr hqr => ?_⟩
          have lr : tl ≠ qr := ne_of_none htl13 hqr
          have yl : ys.length = i := by
            have := dy.length
            rw [List.length_map, List.length_take] at this
            omega
          refine ⟨tl, ys, .ref qr, rfl, rfl, by rw [upd_ne lr]; exact htl13, by omega, ?_⟩
          have tu : ∀ o, Tups H13 (upd (upd H13 qr (.tup o)) tl (.lst (ys ++ [.ref qr]))) := fun o c zs z => by
            rw [upd_ne (ne_of z htl13 (fun y => nomatch y)), upd_ne (ne_of_none z hqr)]
            exact z
          refine ⟨ys ++ [.ref qr], kvs9, _, _, _, _, _, _, rfl, upd_same, ?_, ?_, hkl9, og9.mono ((Same.tups s13).trans (tu _)), fun b o z => ?_⟩
          · rw [take_snoc hik, List.map_append]
            refine (dy.mono (tu49.trans ((Same.tups s13).trans (tu _)))).append (.cons (L2.Dp.tup (by rw [upd_ne lr.symm, upd_same]) (.cons (L2.Dp.str _) (.cons (L2.Dp.tup (tu _ q _ (s13 q _ hq9)) ?_) (.cons (L2.Dp.tup (tu _ qo _ (s13 qo _ hqo9)) ?_) (.cons (L2.Dp.tup (tu _ f _ (s13 f _ hf9)) (DpL.strs _)) (.cons ?_ (.cons (L2.Dp.int 0) .nil))))))) .nil)
            · rw [hes]
              exact DpL.strs _
            · rw [ho]
              exact DpL.strs _
            · rw [← eq]
              exact dqt.mono (tu _)
          · rw [upd_ne odtl, upd_ne (ne_of_none hod13 hqr)]
            exact hod13
          · rw [upd_ne (ne_of_none z htlH), upd_ne (ne_of_none (s13 b _ (sm9 b _ z)) hqr)]
            exact s13 b _ (sm9 b _ z)
        · rintro j zs H12 hj ⟨dz, hD12, s12⟩
          have hjq : j < qs.length := by rw [List.length_map, List.length_map] at hj; exact hj
          have ej : ((qs.map (·.1)).map V.str)[j]? = some (.str qs[j].1) := by rw [List.getElem?_map, List.getElem?_map, List.getElem?_eq_getElem hjq]; rfl
          refine ⟨⟨_, _, SqL.of (s12 l _ hl11), ej⟩, ?_⟩
          rintro y H14 ⟨rfl, yy⟩ σo ho
          obtain ⟨oo, rfl⟩ := own1 ho
          have ey := yy _ (SqL.of (s12 l _ hl11))
          rw [ej] at ey
          cases ey
          have hbv := bodK_val ndo (pq.mem_iff.mp (List.getElem_mem hjq))
          refine ⟨⟨[_], rfl, rfl⟩, yes_by ⟨_, rfl, _, rfl, _, rfl, bd, .int qs[j].2, rfl, .inl ⟨_, .inr qs[j].1, .inl (s12 bd _ (s11 bd _ hb1)), rfl, hbv.symm⟩, by show 2 ≤ sizeLine; decide, fun p2 hp2 => ?_⟩⟩
          have pD : D2 ≠ p2 := ne_of_none hD12 hp2
          have zl : zs.length ≤ 60 := by
            have := dz.length
            rw [List.length_map, List.length_take] at this
            omega
          refine ⟨by omega, by rw [upd_ne pD]; exact hD12, less_by hj ⟨?_, upd_same, fun c o z => ?_⟩⟩
          · have tu : Tups H14 (upd (upd H14 p2 (.tup [.str qs[j].1, .int qs[j].2])) D2 (.lst (zs ++ [.ref p2]))) := fun c zs z => by
              rw [upd_ne (ne_of z hD12 (fun y => nomatch y)), upd_ne (ne_of_none z hp2)]
              exact z
            rw [take_snoc hjq, List.map_append]
            refine (dz.mono tu).append (.cons (L2.Dp.tup (by rw [upd_ne pD.symm, upd_same]) (.cons (L2.Dp.str _) (.cons (L2.Dp.int _) .nil))) .nil)
          · rw [upd_ne (ne_of_none z hD2), upd_ne (ne_of_none (s12 c _ z) hp2)]
            exact s12 c _ z
    · rintro σ H4 ⟨ys, kvs, v3, v4, v5, v6, v7, v8, rfl, htl4, dy, hod4, hkl, og, sm4⟩
      rw [hxl, List.take_of_length_le (Nat.le_refl _)] at dy
      refine ⟨_, rfl, tl, _, rfl, .inl ⟨SqL.of htl4, fun q hq => ?_⟩⟩
      exact k _ _ (L2.Dp.tup upd_same (dy.mono (Same.tups (Same.new hq)))) (sm4.trans (Same.new hq))
end
end K23
end
section
set_option autoImplicit false
namespace K23
open PySem PyProof.Rows L2
theorem risP_len (ds : List DR) (k : Str) : (risP ds k).length ≤ ds.length := by
  unfold risP
  split
  · rename_i h
    rw [(Classical.choose_spec h).2.length_eq]
    exact ownP_len ds k _ (Nat.le_refl _)
  · exact Nat.zero_le _
theorem lz_strs {n : Nat} {xs : List Str} (h : xs.length ≤ 10000) : Lz (n + 1) (.tup (xs.map T.str)) := by
  refine ⟨by rw [List.length_map]; exact h, fun t ht => ?_⟩
  obtain ⟨x, _, rfl⟩ := List.mem_map.mp ht
  cases n <;> trivial
theorem lz_tab {ks : List KR} {ds : List DR} (G : GoodP ks ds) : Lz 4 (tabK ks ds) := by
  have d60 := G.dl
  refine ⟨by rw [List.length_map]; have := G.gk.len; omega, fun t ht => ?_⟩
  obtain ⟨r, hr, rfl⟩ := List.mem_map.mp ht
  obtain ⟨i, hi, rfl⟩ := List.getElem_of_mem hr
  obtain ⟨os, ho, _⟩ := G.gk.ord _ hr
  have hol := (ord_names G.gk.fam ks[i].kind (by rw [nms_famK]; exact List.mem_map.mpr ⟨_, hr, rfl⟩) _ ho).2.2
  have hel := (G.gk.el i _ (List.getElem?_eq_getElem hi)).2
  have hfl := G.gk.fl _ hr
  refine ⟨by show 6 ≤ 10000; decide, fun t ht => ?_⟩
  rcases List.mem_cons.mp ht with rfl | ht
  · trivial
  rcases List.mem_cons.mp ht with rfl | ht
  · exact lz_strs (by omega)
  rcases List.mem_cons.mp ht with rfl | ht
  · rw [ho]
    exact lz_strs (by show (ks[i].kind :: os).length ≤ 10000; omega)
  rcases List.mem_cons.mp ht with rfl | ht
  · exact lz_strs (by omega)
  rcases List.mem_cons.mp ht with rfl | ht
  · have rl := risP_len ds ks[i].kind
    refine ⟨by rw [List.length_map]; omega, fun t ht => ?_⟩
    obtain ⟨d, _, rfl⟩ := List.mem_map.mp ht
    refine ⟨by show 2 ≤ 10000; decide, fun t ht => ?_⟩
    rcases List.mem_cons.mp ht with rfl | ht
    · trivial
    · rw [List.mem_singleton.mp ht]
      trivial
  · rw [List.mem_singleton.mp ht]
    trivial
theorem SqL.keep {K : PySem.W.Frag} {H H' : Hp} {a : Addr} {xs : List V} (h : SqL K H a xs) (k : ∀ o, H a = some o → H' a = some o) : SqL K H' a xs := by
  rcases h with (h | ⟨o, h⟩) | h
  · exact .inl (.inl (k _ h))
  · exact .inl (.inr ⟨o, k _ h⟩)
  · exact .inr h
section
variable {P : Program} {w : World} {K : PySem.W.Frag} {mg : Str → Option Value} {base : Heap} {t : Adr}
def spLaw (K : PySem.W.Frag) : Sp := fun vs H Q _ => ∃ (a : Addr) (ns : List Int), vs = [.ref a] ∧ SqL K H a (ns.map V.int) ∧ ns.length ≤ 63 ∧ ∀ H', Q (.bl true) H'
theorem ok_law (D : Defs K mg t) : FnOk P w K mg base CX0 6 t.law.1 t.law.2 ["_law_script"] (spLaw K) := by
  have G__law_purse : FnOk P w K mg base CX0 1 t._law_purse.1 t._law_purse.2 _ spPurse := ok_purse D
  have G__law_cell : FnOk P w K mg base CX0 1 t._law_cell.1 t._law_cell.2 _ (spCell K) := ok_cell D
  have G__law_program_of : FnOk P w K mg base CX0 5 t._law_program_of.1 t._law_program_of.2 _ spProg := ok_prog D
  have G_table_of : FnOk P w K mg base CX0 5 t.table_of.1 t.table_of.2 _ spTab := ok_tab D
  have G__law_due : FnOk P w K mg base CX0 2 t._law_due.1 t._law_due.2 _ spDue := ok_due D
  have G__law_same : FnOk P w K mg base CX0 5 t._law_same.1 t._law_same.2 _ (spSame 4) := ok_same D 4
  have hz : sizeLine = 16777216 := sizeLine_eq
  refine D.law.fn.ok sc_law (fun vs H Q E h => ?_) (fun cdv A outer s H vs Q E hr h => ?_)
  · obtain ⟨a, ns, rfl, _⟩ := h
    rfl
  · obtain ⟨a, ns, rfl, hS, hl, k⟩ := h
    refine ⟨_, (pss_cons (ps_for PassesOwn.never rfl (pi_range1 rfl D.b_range (pa_cons (pe_callB (call_max2 rfl) (by rfl) D.b_max bt_max (pa_cons pe_int (pa_cons (pe_callB (call_min2 rfl) (by rfl) D.b_min bt_min (pa_cons pe_int (pa_cons (pe_callB call_len_seq (by rfl) D.b_len bt_len (pa_cons (pv 0) pa_nil)) pa_nil))) pa_nil))) pa_nil)) (pg_name (i := 1) sc_law.nd rfl (Or.inl rfl))
      (pss_cons (ps_set (i := 2) sc_law.nd rfl (Or.inl rfl) (pe_callF D._law_program_of G__law_program_of (hr.mono (by omega)) (by rfl) (pa_cons (pe_callF D._law_purse G__law_purse (hr.mono (by omega)) (by rfl) (pa_cons (pe_callF D._law_cell G__law_cell (hr.mono (by omega)) (by rfl) (pa_cons (pv 0) (pa_cons (pv 1) pa_nil))) pa_nil)) pa_nil)))
      (pss_one (ps_if (pt_not (pt_val (pe_callF D._law_same G__law_same (hr.mono (by omega)) (by rfl) (pa_cons (pe_callF D.table_of G_table_of (hr.mono (by omega)) (by rfl) (pa_cons (pv 2) pa_nil)) (pa_cons (pe_callF D._law_due G__law_due (hr.mono (by omega)) (by rfl) (pa_cons (pv 2) pa_nil)) pa_nil)))))
      (pss_one (ps_ret pe_bl))
      pss_nil))))
      (pss_one (ps_ret pe_bl))), ?_⟩
    refine ⟨_, rfl, a, _, rfl, .inl hS, _, _, rfl, _, _, rfl, _, rfl, ?_, ?_, ?_⟩
    · split <;> split <;> omega
    · rw [List.length_map]
      split <;> split <;> omega
    refine for_range (lo := 0) (fun i σ H2 => ∃ (v1 v2 : Option V), σ = [some (.ref a), v1, v2] ∧ SqL K H2 a (ns.map V.int)) ⟨_, _, rfl, hS⟩ ?_ ?_
    · rintro i σ H2 hi ⟨v1, v2, rfl, hS2⟩
      have hi7 : i < 7 := by
        revert hi
        split <;> split <;> omega
      refine ⟨_, rfl, _, rfl, a, ns, 0 + (i : Int), rfl, hS2, hl, by omega, by omega, fun n0 H3 s3 => ⟨n0, rfl, fun p a1 b1 c1 hp => ⟨p, rfl, Pu.upd, fun v ks ds H5 pa G o5 => ?_⟩⟩⟩
      have hS5 : SqL K H5 a (ns.map V.int) := K23.SqL.keep hS2 fun o e => by
        have e3 := s3 a o e
        have ap := ne_of_none e3 hp
        exact o5 a o ap (by rw [upd_ne ap]; exact e3)
      refine ⟨_, rfl, v, ks, ds, rfl, pa, G, fun u H6 du s6 => ⟨_, rfl, v, ks, ds, rfl, pa.mono (Same.tups s6), G, fun u2 H7 du2 s7 => ⟨u, u2, tabK ks ds, rfl, du.mono (Same.tups s7), du2, lz_tab G, fun H8 s8 => ⟨true, rfl, iteF ?_⟩⟩⟩⟩
      exact ⟨_, _, rfl, K23.SqL.keep hS5 fun o e => s8 a o (s7 a o (s6 a o e))⟩
    · rintro σ H2 ⟨v1, v2, rfl, hS2⟩
      exact k H2
end
end K23
end
section
set_option autoImplicit false
namespace K23
open PySem PyProof.Rows L2
theorem el1 {α : Type} {C : List α → Prop} (h : ∀ v0, C [v0]) : ∀ us : List α, us.length = 1 → C us
  | [v0], _ => h v0
theorem el2 {α : Type} {C : List α → Prop} (h : ∀ v0 v1, C [v0, v1]) : ∀ us : List α, us.length = 2 → C us
  | [v0, v1], _ => h v0 v1
theorem el3 {α : Type} {C : List α → Prop} (h : ∀ v0 v1 v2, C [v0, v1, v2]) : ∀ us : List α, us.length = 3 → C us
  | [v0, v1, v2], _ => h v0 v1 v2
theorem el4 {α : Type} {C : List α → Prop} (h : ∀ v0 v1 v2 v3, C [v0, v1, v2, v3]) : ∀ us : List α, us.length = 4 → C us
  | [v0, v1, v2, v3], _ => h v0 v1 v2 v3
theorem all_mk {l : PySem.W.OpenLaw} {w : World} {K : PySem.W.Frag} {h : Heap} {mg : Str → Option Value} {fa f0 f1 f2 f3 f4 f5 f6 f7 f8 f9 f10 f11 f12 f13 f14 f15 f16 f17 f18 f19 f20 f21 f22 f23 : Addr} (X : K.In h) (G : h.Ns mainGlobals mg) (hfa : mg "law" = some (.ref fa))
    {od0 an0 od1 an1 od2 an2 od3 an3 od4 an4 od5 an5 od6 an6 od7 an7 od8 an8 od9 an9 od10 an10 od11 an11 od12 an12 od13 an13 od14 an14 od15 an15 od16 an16 od17 an17 od18 an18 od19 an19 od20 an20 od21 an21 od22 an22 od23 an23 : Option Addr} {sl0 sl1 sl2 sl3 sl4 sl5 sl6 sl7 sl8 sl9 sl10 sl11 sl12 sl13 sl14 sl15 sl16 sl17 sl18 sl19 sl20 sl21 sl22 sl23 : Array (Option Value)} {oc0 kV0 dc0 pm0 cd0 ct0 oc1 kV1 dc1 pm1 cd1 ct1 oc2 kV2 dc2 pm2 cd2 ct2 oc3 kV3 dc3 pm3 cd3 ct3 oc4 kV4 dc4 pm4 cd4 ct4 oc5 kV5 dc5 pm5 cd5 ct5 oc6 kV6 dc6 pm6 cd6 ct6 oc7 kV7 dc7 pm7 cd7 ct7 oc8 kV8 dc8 pm8 cd8 ct8 oc9 kV9 dc9 pm9 cd9 ct9 oc10 kV10 dc10 pm10 cd10 ct10 oc11 kV11 dc11 pm11 cd11 ct11 oc12 kV12 dc12 pm12 cd12 ct12 oc13 kV13 dc13 pm13 cd13 ct13 oc14 kV14 dc14 pm14 cd14 ct14 oc15 kV15 dc15 pm15 cd15 ct15 oc16 kV16 dc16 pm16 cd16 ct16 oc17 kV17 dc17 pm17 cd17 ct17 oc18 kV18 dc18 pm18 cd18 ct18 oc19 kV19 dc19 pm19 cd19 ct19 oc20 kV20 dc20 pm20 cd20 ct20 oc21 kV21 dc21 pm21 cd21 ct21 oc22 kV22 dc22 pm22 cd22 ct22 oc23 kV23 dc23 pm23 cd23 ct23 : Value}
    (a0 : PySem.W.nsIn K mainGlobals "elders_first" = some (some (.ref f0))) (l0 : K.lookup f0 = some ⟨oc0, od0, .func (PySem.W.fnOf "elders_first" "elders_first" (defArgs (top 1)) (defBody (top 1)) (defScope (top 1)) .none kV0 dc0 pm0 an0 cd0 ct0), sl0⟩) (c0 : PySem.W.codeIn K cd0 "elders_first" = true) (k0 : PySem.W.keepIn K (.ref f0) = true)
    (a1 : PySem.W.nsIn K mainGlobals "tell_orders" = some (some (.ref f1))) (l1 : K.lookup f1 = some ⟨oc1, od1, .func (PySem.W.fnOf "tell_orders" "tell_orders" (defArgs (top 3)) (defBody (top 3)) (defScope (top 3)) .none kV1 dc1 pm1 an1 cd1 ct1), sl1⟩) (c1 : PySem.W.codeIn K cd1 "tell_orders" = true) (k1 : PySem.W.keepIn K (.ref f1) = true)
    (a2 : PySem.W.nsIn K mainGlobals "quarrel_among" = some (some (.ref f2))) (l2 : K.lookup f2 = some ⟨oc2, od2, .func (PySem.W.fnOf "quarrel_among" "quarrel_among" (defArgs (top 4)) (defBody (top 4)) (defScope (top 4)) .none kV2 dc2 pm2 an2 cd2 ct2), sl2⟩) (c2 : PySem.W.codeIn K cd2 "quarrel_among" = true) (k2 : PySem.W.keepIn K (.ref f2) = true)
    (a3 : PySem.W.nsIn K mainGlobals "rows_by" = some (some (.ref f3))) (l3 : K.lookup f3 = some ⟨oc3, od3, .func (PySem.W.fnOf "rows_by" "rows_by" (defArgs (top 5)) (defBody (top 5)) (defScope (top 5)) .none kV3 dc3 pm3 an3 cd3 ct3), sl3⟩) (c3 : PySem.W.codeIn K cd3 "rows_by" = true) (k3 : PySem.W.keepIn K (.ref f3) = true)
    (a4 : PySem.W.nsIn K mainGlobals "merge_rows" = some (some (.ref f4))) (l4 : K.lookup f4 = some ⟨oc4, od4, .func (PySem.W.fnOf "merge_rows" "merge_rows" (defArgs (top 6)) (defBody (top 6)) (defScope (top 6)) .none kV4 dc4 pm4 an4 cd4 ct4), sl4⟩) (c4 : PySem.W.codeIn K cd4 "merge_rows" = true) (k4 : PySem.W.keepIn K (.ref f4) = true)
    (a5 : PySem.W.nsIn K mainGlobals "first_free" = some (some (.ref f5))) (l5 : K.lookup f5 = some ⟨oc5, od5, .func (PySem.W.fnOf "first_free" "first_free" (defArgs (top 7)) (defBody (top 7)) (defScope (top 7)) .none kV5 dc5 pm5 an5 cd5 ct5), sl5⟩) (c5 : PySem.W.codeIn K cd5 "first_free" = true) (k5 : PySem.W.keepIn K (.ref f5) = true)
    (a6 : PySem.W.nsIn K mainGlobals "ring_among" = some (some (.ref f6))) (l6 : K.lookup f6 = some ⟨oc6, od6, .func (PySem.W.fnOf "ring_among" "ring_among" (defArgs (top 8)) (defBody (top 8)) (defScope (top 8)) .none kV6 dc6 pm6 an6 cd6 ct6), sl6⟩) (c6 : PySem.W.codeIn K cd6 "ring_among" = true) (k6 : PySem.W.keepIn K (.ref f6) = true)
    (a7 : PySem.W.nsIn K mainGlobals "hold_of" = some (some (.ref f7))) (l7 : K.lookup f7 = some ⟨oc7, od7, .func (PySem.W.fnOf "hold_of" "hold_of" (defArgs (top 9)) (defBody (top 9)) (defScope (top 9)) .none kV7 dc7 pm7 an7 cd7 ct7), sl7⟩) (c7 : PySem.W.codeIn K cd7 "hold_of" = true) (k7 : PySem.W.keepIn K (.ref f7) = true)
    (a8 : PySem.W.nsIn K mainGlobals "family_of" = some (some (.ref f8))) (l8 : K.lookup f8 = some ⟨oc8, od8, .func (PySem.W.fnOf "family_of" "family_of" (defArgs (top 11)) (defBody (top 11)) (defScope (top 11)) .none kV8 dc8 pm8 an8 cd8 ct8), sl8⟩) (c8 : PySem.W.codeIn K cd8 "family_of" = true) (k8 : PySem.W.keepIn K (.ref f8) = true)
    (a9 : PySem.W.nsIn K mainGlobals "table_of" = some (some (.ref f9))) (l9 : K.lookup f9 = some ⟨oc9, od9, .func (PySem.W.fnOf "table_of" "table_of" (defArgs (top 13)) (defBody (top 13)) (defScope (top 13)) .none kV9 dc9 pm9 an9 cd9 ct9), sl9⟩) (c9 : PySem.W.codeIn K cd9 "table_of" = true) (k9 : PySem.W.keepIn K (.ref f9) = true)
    (a10 : PySem.W.nsIn K mainGlobals "own_deeds" = some (some (.ref f10))) (l10 : K.lookup f10 = some ⟨oc10, od10, .func (PySem.W.fnOf "own_deeds" "own_deeds" (defArgs (top 14)) (defBody (top 14)) (defScope (top 14)) .none kV10 dc10 pm10 an10 cd10 ct10), sl10⟩) (c10 : PySem.W.codeIn K cd10 "own_deeds" = true) (k10 : PySem.W.keepIn K (.ref f10) = true)
    (a11 : PySem.W.nsIn K mainGlobals "_law_cell" = some (some (.ref f11))) (l11 : K.lookup f11 = some ⟨oc11, od11, .func (PySem.W.fnOf "_law_cell" "_law_cell" (defArgs (top 16)) (defBody (top 16)) (defScope (top 16)) .none kV11 dc11 pm11 an11 cd11 ct11), sl11⟩) (c11 : PySem.W.codeIn K cd11 "_law_cell" = true) (k11 : PySem.W.keepIn K (.ref f11) = true)
    (a12 : PySem.W.nsIn K mainGlobals "_law_purse" = some (some (.ref f12))) (l12 : K.lookup f12 = some ⟨oc12, od12, .func (PySem.W.fnOf "_law_purse" "_law_purse" (defArgs (top 17)) (defBody (top 17)) (defScope (top 17)) .none kV12 dc12 pm12 an12 cd12 ct12), sl12⟩) (c12 : PySem.W.codeIn K cd12 "_law_purse" = true) (k12 : PySem.W.keepIn K (.ref f12) = true)
    (a13 : PySem.W.nsIn K mainGlobals "_law_take" = some (some (.ref f13))) (l13 : K.lookup f13 = some ⟨oc13, od13, .func (PySem.W.fnOf "_law_take" "_law_take" (defArgs (top 18)) (defBody (top 18)) (defScope (top 18)) .none kV13 dc13 pm13 an13 cd13 ct13), sl13⟩) (c13 : PySem.W.codeIn K cd13 "_law_take" = true) (k13 : PySem.W.keepIn K (.ref f13) = true)
    (a14 : PySem.W.nsIn K mainGlobals "_law_word" = some (some (.ref f14))) (l14 : K.lookup f14 = some ⟨oc14, od14, .func (PySem.W.fnOf "_law_word" "_law_word" (defArgs (top 19)) (defBody (top 19)) (defScope (top 19)) .none kV14 dc14 pm14 an14 cd14 ct14), sl14⟩) (c14 : PySem.W.codeIn K cd14 "_law_word" = true) (k14 : PySem.W.keepIn K (.ref f14) = true)
    (a15 : PySem.W.nsIn K mainGlobals "_law_words" = some (some (.ref f15))) (l15 : K.lookup f15 = some ⟨oc15, od15, .func (PySem.W.fnOf "_law_words" "_law_words" (defArgs (top 20)) (defBody (top 20)) (defScope (top 20)) .none kV15 dc15 pm15 an15 cd15 ct15), sl15⟩) (c15 : PySem.W.codeIn K cd15 "_law_words" = true) (k15 : PySem.W.keepIn K (.ref f15) = true)
    (a16 : PySem.W.nsIn K mainGlobals "_law_merge" = some (some (.ref f16))) (l16 : K.lookup f16 = some ⟨oc16, od16, .func (PySem.W.fnOf "_law_merge" "_law_merge" (defArgs (top 21)) (defBody (top 21)) (defScope (top 21)) .none kV16 dc16 pm16 an16 cd16 ct16), sl16⟩) (c16 : PySem.W.codeIn K cd16 "_law_merge" = true) (k16 : PySem.W.keepIn K (.ref f16) = true)
    (a17 : PySem.W.nsIn K mainGlobals "_law_some" = some (some (.ref f17))) (l17 : K.lookup f17 = some ⟨oc17, od17, .func (PySem.W.fnOf "_law_some" "_law_some" (defArgs (top 22)) (defBody (top 22)) (defScope (top 22)) .none kV17 dc17 pm17 an17 cd17 ct17), sl17⟩) (c17 : PySem.W.codeIn K cd17 "_law_some" = true) (k17 : PySem.W.keepIn K (.ref f17) = true)
    (a18 : PySem.W.nsIn K mainGlobals "_law_kinds" = some (some (.ref f18))) (l18 : K.lookup f18 = some ⟨oc18, od18, .func (PySem.W.fnOf "_law_kinds" "_law_kinds" (defArgs (top 23)) (defBody (top 23)) (defScope (top 23)) .none kV18 dc18 pm18 an18 cd18 ct18), sl18⟩) (c18 : PySem.W.codeIn K cd18 "_law_kinds" = true) (k18 : PySem.W.keepIn K (.ref f18) = true)
    (a19 : PySem.W.nsIn K mainGlobals "_law_program_of" = some (some (.ref f19))) (l19 : K.lookup f19 = some ⟨oc19, od19, .func (PySem.W.fnOf "_law_program_of" "_law_program_of" (defArgs (top 24)) (defBody (top 24)) (defScope (top 24)) .none kV19 dc19 pm19 an19 cd19 ct19), sl19⟩) (c19 : PySem.W.codeIn K cd19 "_law_program_of" = true) (k19 : PySem.W.keepIn K (.ref f19) = true)
    (a20 : PySem.W.nsIn K mainGlobals "_law_rising" = some (some (.ref f20))) (l20 : K.lookup f20 = some ⟨oc20, od20, .func (PySem.W.fnOf "_law_rising" "_law_rising" (defArgs (top 25)) (defBody (top 25)) (defScope (top 25)) .none kV20 dc20 pm20 an20 cd20 ct20), sl20⟩) (c20 : PySem.W.codeIn K cd20 "_law_rising" = true) (k20 : PySem.W.keepIn K (.ref f20) = true)
    (a21 : PySem.W.nsIn K mainGlobals "_law_due" = some (some (.ref f21))) (l21 : K.lookup f21 = some ⟨oc21, od21, .func (PySem.W.fnOf "_law_due" "_law_due" (defArgs (top 26)) (defBody (top 26)) (defScope (top 26)) .none kV21 dc21 pm21 an21 cd21 ct21), sl21⟩) (c21 : PySem.W.codeIn K cd21 "_law_due" = true) (k21 : PySem.W.keepIn K (.ref f21) = true)
    (a22 : PySem.W.nsIn K mainGlobals "_law_same" = some (some (.ref f22))) (l22 : K.lookup f22 = some ⟨oc22, od22, .func (PySem.W.fnOf "_law_same" "_law_same" (defArgs (top 27)) (defBody (top 27)) (defScope (top 27)) .none kV22 dc22 pm22 an22 cd22 ct22), sl22⟩) (c22 : PySem.W.codeIn K cd22 "_law_same" = true) (k22 : PySem.W.keepIn K (.ref f22) = true)
    (a23 : PySem.W.nsIn K mainGlobals "law" = some (some (.ref f23))) (l23 : K.lookup f23 = some ⟨oc23, od23, .func (PySem.W.fnOf "law" "law" (defArgs (top 28)) (defBody (top 28)) (defScope (top 28)) .none kV23 dc23 pm23 an23 cd23 ct23), sl23⟩) (c23 : PySem.W.codeIn K cd23 "law" = true) (k23 : PySem.W.keepIn K (.ref f23) = true)
    (z0 : PySem.W.nsIn K mainGlobals "abs" = some none) (z1 : PySem.W.nsIn K mainGlobals "all" = some none) (z2 : PySem.W.nsIn K mainGlobals "any" = some none) (z3 : PySem.W.nsIn K mainGlobals "bool" = some none) (z4 : PySem.W.nsIn K mainGlobals "dict" = some none) (z5 : PySem.W.nsIn K mainGlobals "enumerate" = some none) (z6 : PySem.W.nsIn K mainGlobals "int" = some none) (z7 : PySem.W.nsIn K mainGlobals "isinstance" = some none) (z8 : PySem.W.nsIn K mainGlobals "len" = some none) (z9 : PySem.W.nsIn K mainGlobals "list" = some none) (z10 : PySem.W.nsIn K mainGlobals "max" = some none) (z11 : PySem.W.nsIn K mainGlobals "min" = some none) (z12 : PySem.W.nsIn K mainGlobals "range" = some none) (z13 : PySem.W.nsIn K mainGlobals "sorted" = some none) (z14 : PySem.W.nsIn K mainGlobals "str" = some none) (z15 : PySem.W.nsIn K mainGlobals "tuple" = some none) :
    ∃ fd : FuncData, (∀ (s : Shared) (v : Value), BindsTo s fd ⟨[v], []⟩ [("_law_script", v)]) ∧ ∀ base : Heap, K.In base → base.Ns mainGlobals mg → FnOk l.prog w K mg base CX0 6 fa fd ["_law_script"] (spLaw K) := by
  have e := hfa.symm.trans (PySem.W.mg_of X G a23)
  cases e
  have F0 := fun_mk (st := top 1) l0 c0 k0
  have b0 := F0.binds (ps := ["family"]) fun _ _ _ _ _ _ => el1 fun _ => rfl
  have F1 := fun_mk (st := top 3) l1 c1 k1
  have b1 := F1.binds (ps := ["family"]) fun _ _ _ _ _ _ => el1 fun _ => rfl
  have F2 := fun_mk (st := top 4) l2 c2 k2
  have b2 := F2.binds (ps := ["kinds", "told"]) fun _ _ _ _ _ _ => el2 fun _ _ => rfl
  have F3 := fun_mk (st := top 5) l3 c3 k3
  have b3 := F3.binds (ps := ["elders", "told"]) fun _ _ _ _ _ _ => el2 fun _ _ => rfl
  have F4 := fun_mk (st := top 6) l4 c4 k4
  have b4 := F4.binds (ps := ["kind", "rows"]) fun _ _ _ _ _ _ => el2 fun _ _ => rfl
  have F5 := fun_mk (st := top 7) l5 c5 k5
  have b5 := F5.binds (ps := ["left"]) fun _ _ _ _ _ _ => el1 fun _ => rfl
  have F6 := fun_mk (st := top 8) l6 c6 k6
  have b6 := F6.binds (ps := ["left"]) fun _ _ _ _ _ _ => el1 fun _ => rfl
  have F7 := fun_mk (st := top 9) l7 c7 k7
  have b7 := F7.binds (ps := ["name", "left"]) fun _ _ _ _ _ _ => el2 fun _ _ => rfl
  have F8 := fun_mk (st := top 11) l8 c8 k8
  have b8 := F8.binds (ps := ["table"]) fun _ _ _ _ _ _ => el1 fun _ => rfl
  have F9 := fun_mk (st := top 13) l9 c9 k9
  have b9 := F9.binds (ps := ["program"]) fun _ _ _ _ _ _ => el1 fun _ => rfl
  have F10 := fun_mk (st := top 14) l10 c10 k10
  have b10 := F10.binds (ps := ["deeds", "kind"]) fun _ _ _ _ _ _ => el2 fun _ _ => rfl
  have F11 := fun_mk (st := top 16) l11 c11 k11
  have b11 := F11.binds (ps := ["_law_script", "_law_k"]) fun _ _ _ _ _ _ => el2 fun _ _ => rfl
  have F12 := fun_mk (st := top 17) l12 c12 k12
  have b12 := F12.binds (ps := ["_law_cell_here"]) fun _ _ _ _ _ _ => el1 fun _ => rfl
  have F13 := fun_mk (st := top 18) l13 c13 k13
  have b13 := F13.binds (ps := ["_law_purse_here", "_law_many"]) fun _ _ _ _ _ _ => el2 fun _ _ => rfl
  have F14 := fun_mk (st := top 19) l14 c14 k14
  have b14 := F14.binds (ps := ["_law_purse_here", "_law_used"]) fun _ _ _ _ _ _ => el2 fun _ _ => rfl
  have F15 := fun_mk (st := top 20) l15 c15 k15
  have b15 := F15.binds (ps := ["_law_purse_here", "_law_many", "_law_used"]) fun _ _ _ _ _ _ => el3 fun _ _ _ => rfl
  have F16 := fun_mk (st := top 21) l16 c16 k16
  have b16 := F16.binds (ps := ["_law_kind", "_law_rows"]) fun _ _ _ _ _ _ => el2 fun _ _ => rfl
  have F17 := fun_mk (st := top 22) l17 c17 k17
  have b17 := F17.binds (ps := ["_law_purse_here", "_law_menu", "_law_most"]) fun _ _ _ _ _ _ => el3 fun _ _ _ => rfl
  have F18 := fun_mk (st := top 23) l18 c18 k18
  have b18 := F18.binds (ps := ["_law_purse_here", "_law_many", "_law_used", "_law_fields"]) fun _ _ _ _ _ _ => el4 fun _ _ _ _ => rfl
  have F19 := fun_mk (st := top 24) l19 c19 k19
  have b19 := F19.binds (ps := ["_law_purse_here"]) fun _ _ _ _ _ _ => el1 fun _ => rfl
  have F20 := fun_mk (st := top 25) l20 c20 k20
  have b20 := F20.binds (ps := ["_law_names"]) fun _ _ _ _ _ _ => el1 fun _ => rfl
  have F21 := fun_mk (st := top 26) l21 c21 k21
  have b21 := F21.binds (ps := ["_law_program"]) fun _ _ _ _ _ _ => el1 fun _ => rfl
  have F22 := fun_mk (st := top 27) l22 c22 k22
  have b22 := F22.binds (ps := ["_law_told", "_law_due_here"]) fun _ _ _ _ _ _ => el2 fun _ _ => rfl
  have F23 := fun_mk (st := top 28) l23 c23 k23
  have b23 := F23.binds (ps := ["_law_script"]) fun _ _ _ _ _ _ => el1 fun _ => rfl
  have T : Defs K mg ⟨(f0, PySem.W.fnOf "elders_first" "elders_first" (defArgs (top 1)) (defBody (top 1)) (defScope (top 1)) .none kV0 dc0 pm0 an0 cd0 ct0), (f1, PySem.W.fnOf "tell_orders" "tell_orders" (defArgs (top 3)) (defBody (top 3)) (defScope (top 3)) .none kV1 dc1 pm1 an1 cd1 ct1), (f2, PySem.W.fnOf "quarrel_among" "quarrel_among" (defArgs (top 4)) (defBody (top 4)) (defScope (top 4)) .none kV2 dc2 pm2 an2 cd2 ct2), (f3, PySem.W.fnOf "rows_by" "rows_by" (defArgs (top 5)) (defBody (top 5)) (defScope (top 5)) .none kV3 dc3 pm3 an3 cd3 ct3), (f4, PySem.W.fnOf "merge_rows" "merge_rows" (defArgs (top 6)) (defBody (top 6)) (defScope (top 6)) .none kV4 dc4 pm4 an4 cd4 ct4), (f5, PySem.W.fnOf "first_free" "first_free" (defArgs (top 7)) (defBody (top 7)) (defScope (top 7)) .none kV5 dc5 pm5 an5 cd5 ct5), (f6, PySem.W.fnOf "ring_among" "ring_among" (defArgs (top 8)) (defBody (top 8)) (defScope (top 8)) .none kV6 dc6 pm6 an6 cd6 ct6), (f7, PySem.W.fnOf "hold_of" "hold_of" (defArgs (top 9)) (defBody (top 9)) (defScope (top 9)) .none kV7 dc7 pm7 an7 cd7 ct7), (f8, PySem.W.fnOf "family_of" "family_of" (defArgs (top 11)) (defBody (top 11)) (defScope (top 11)) .none kV8 dc8 pm8 an8 cd8 ct8), (f9, PySem.W.fnOf "table_of" "table_of" (defArgs (top 13)) (defBody (top 13)) (defScope (top 13)) .none kV9 dc9 pm9 an9 cd9 ct9), (f10, PySem.W.fnOf "own_deeds" "own_deeds" (defArgs (top 14)) (defBody (top 14)) (defScope (top 14)) .none kV10 dc10 pm10 an10 cd10 ct10), (f11, PySem.W.fnOf "_law_cell" "_law_cell" (defArgs (top 16)) (defBody (top 16)) (defScope (top 16)) .none kV11 dc11 pm11 an11 cd11 ct11), (f12, PySem.W.fnOf "_law_purse" "_law_purse" (defArgs (top 17)) (defBody (top 17)) (defScope (top 17)) .none kV12 dc12 pm12 an12 cd12 ct12), (f13, PySem.W.fnOf "_law_take" "_law_take" (defArgs (top 18)) (defBody (top 18)) (defScope (top 18)) .none kV13 dc13 pm13 an13 cd13 ct13), (f14, PySem.W.fnOf "_law_word" "_law_word" (defArgs (top 19)) (defBody (top 19)) (defScope (top 19)) .none kV14 dc14 pm14 an14 cd14 ct14), (f15, PySem.W.fnOf "_law_words" "_law_words" (defArgs (top 20)) (defBody (top 20)) (defScope (top 20)) .none kV15 dc15 pm15 an15 cd15 ct15), (f16, PySem.W.fnOf "_law_merge" "_law_merge" (defArgs (top 21)) (defBody (top 21)) (defScope (top 21)) .none kV16 dc16 pm16 an16 cd16 ct16), (f17, PySem.W.fnOf "_law_some" "_law_some" (defArgs (top 22)) (defBody (top 22)) (defScope (top 22)) .none kV17 dc17 pm17 an17 cd17 ct17), (f18, PySem.W.fnOf "_law_kinds" "_law_kinds" (defArgs (top 23)) (defBody (top 23)) (defScope (top 23)) .none kV18 dc18 pm18 an18 cd18 ct18), (f19, PySem.W.fnOf "_law_program_of" "_law_program_of" (defArgs (top 24)) (defBody (top 24)) (defScope (top 24)) .none kV19 dc19 pm19 an19 cd19 ct19), (f20, PySem.W.fnOf "_law_rising" "_law_rising" (defArgs (top 25)) (defBody (top 25)) (defScope (top 25)) .none kV20 dc20 pm20 an20 cd20 ct20), (f21, PySem.W.fnOf "_law_due" "_law_due" (defArgs (top 26)) (defBody (top 26)) (defScope (top 26)) .none kV21 dc21 pm21 an21 cd21 ct21), (f22, PySem.W.fnOf "_law_same" "_law_same" (defArgs (top 27)) (defBody (top 27)) (defScope (top 27)) .none kV22 dc22 pm22 an22 cd22 ct22), (fa, PySem.W.fnOf "law" "law" (defArgs (top 28)) (defBody (top 28)) (defScope (top 28)) .none kV23 dc23 pm23 an23 cd23 ct23)⟩ := ⟨⟨F0, b0, PySem.W.mg_of X G a0⟩, ⟨F1, b1, PySem.W.mg_of X G a1⟩, ⟨F2, b2, PySem.W.mg_of X G a2⟩, ⟨F3, b3, PySem.W.mg_of X G a3⟩, ⟨F4, b4, PySem.W.mg_of X G a4⟩, ⟨F5, b5, PySem.W.mg_of X G a5⟩, ⟨F6, b6, PySem.W.mg_of X G a6⟩, ⟨F7, b7, PySem.W.mg_of X G a7⟩, ⟨F8, b8, PySem.W.mg_of X G a8⟩, ⟨F9, b9, PySem.W.mg_of X G a9⟩, ⟨F10, b10, PySem.W.mg_of X G a10⟩, ⟨F11, b11, PySem.W.mg_of X G a11⟩, ⟨F12, b12, PySem.W.mg_of X G a12⟩, ⟨F13, b13, PySem.W.mg_of X G a13⟩, ⟨F14, b14, PySem.W.mg_of X G a14⟩, ⟨F15, b15, PySem.W.mg_of X G a15⟩, ⟨F16, b16, PySem.W.mg_of X G a16⟩, ⟨F17, b17, PySem.W.mg_of X G a17⟩, ⟨F18, b18, PySem.W.mg_of X G a18⟩, ⟨F19, b19, PySem.W.mg_of X G a19⟩, ⟨F20, b20, PySem.W.mg_of X G a20⟩, ⟨F21, b21, PySem.W.mg_of X G a21⟩, ⟨F22, b22, PySem.W.mg_of X G a22⟩, ⟨F23, b23, PySem.W.mg_of X G a23⟩, PySem.W.mg_none_of X G z0, PySem.W.mg_none_of X G z1, PySem.W.mg_none_of X G z2, PySem.W.mg_none_of X G z3, PySem.W.mg_none_of X G z4, PySem.W.mg_none_of X G z5, PySem.W.mg_none_of X G z6, PySem.W.mg_none_of X G z7, PySem.W.mg_none_of X G z8, PySem.W.mg_none_of X G z9, PySem.W.mg_none_of X G z10, PySem.W.mg_none_of X G z11, PySem.W.mg_none_of X G z12, PySem.W.mg_none_of X G z13, PySem.W.mg_none_of X G z14, PySem.W.mg_none_of X G z15⟩
  exact ⟨PySem.W.fnOf "law" "law" (defArgs (top 28)) (defBody (top 28)) (defScope (top 28)) .none kV23 dc23 pm23 an23 cd23 ct23, fun s v => .of_eq rfl, fun base _ _ => ok_law T⟩
theorem walk {l : PySem.W.OpenLaw} {q : Program} {loose : List Str} {XP : (Str → Option Value) → Heap → Prop} {YP : World → Heap → Prop} {d : DefRec} {K : Params → PySem.W.Frag} (hn : l.most = some 63) (hdf : d.params.defaults = [])
    (hY : ∀ (w : World) (h : Heap), YP w h → (K w.params).In h)
    (F : ∀ (w : World) (mg : Str → Option Value) (fa : Addr) (h : Heap), (K w.params).In h → h.Ns mainGlobals mg → mg d.name = some (.ref fa) →
      ∃ fd : FuncData, (∀ (s : Shared) (u : Value), BindsTo s fd ⟨[u], []⟩ [("_law_script", u)]) ∧ ∀ base : Heap, (K w.params).In base → base.Ns mainGlobals mg → FnOk l.prog w (K w.params) mg base CX0 6 fa fd ["_law_script"] (spLaw (K w.params))) :
    PySem.W.WalkO q loose XP YP l.row.toRowW d [] (fun f vs => PySem.call f vs) :=
  L2.walk_of (n := 63) (k := 6) (x := "_law_script") (CX := fun _ => CX0) (sp := fun w => spLaw (K w.params)) hn (by decide) hdf ⟨rfl, by decide, by decide⟩ hY F (fun _ _ a ns hl _ hS => ⟨a, ns, rfl, hS, hl, fun _ => rfl⟩) fun _ _ _ _ _ z => z
end K23
theorem PySem.W.Fast.tw9159565610218629270 : True := trivial
theorem PySem.W.Fast.tw14550423776130349606 : True := trivial
theorem PySem.W.Fast.tw16881545088925290811 : True := trivial
theorem PySem.W.Fast.tw18058405567274443067 : True := trivial
theorem PySem.W.Fast.tw16790192356313404791 : True := trivial
theorem PySem.W.Fast.tw2968166829021050820 : True := trivial
theorem PySem.W.Fast.tw4808480858867975383 : True := trivial
theorem PySem.W.Fast.tw446644805800757958 : True := trivial
theorem PySem.W.Fast.tw7023740106097068756 : True := trivial
theorem PySem.W.Fast.tw13877759232353475039 : True := trivial
theorem PySem.W.Fast.tw17579069779937315211 : True := trivial
theorem PySem.W.Fast.tw8788358803779266428 : True := trivial
theorem PySem.W.Fast.tw11802661730165671816 : True := trivial
theorem PySem.W.Fast.tw9730173106803242388 : True := trivial
theorem PySem.W.Fast.tw9216458437640508731 : True := trivial
theorem PySem.W.Fast.tw1154861399040295089 : True := trivial
theorem PySem.W.Fast.tw3650096723030338228 : True := trivial
theorem PySem.W.Fast.tw7907751047692920477 : True := trivial
theorem PySem.W.Fast.tw15810851997031283556 : True := trivial
theorem PySem.W.Fast.tw2686972609800326058 : True := trivial
theorem PySem.W.Fast.tw7654099132292243211 : True := trivial
theorem PySem.W.Fast.tw9344032333825093698 : True := trivial
theorem PySem.W.Fast.tw7326024233741456195 : True := trivial
theorem PySem.W.Fast.tw174081885225986071 : True := trivial
theorem PySem.W.Fast.tw13932510451605497816 : True := trivial
theorem PySem.W.Fast.tw4354075118697601000 : True := trivial
theorem PySem.W.Fast.tw2987147726414401070 : True := trivial
theorem PySem.W.Fast.tw10146934310739741378 : True := trivial
theorem PySem.W.Fast.tw4107273800226064968 : True := trivial
theorem PySem.W.Fast.tw16568555342859871686 : True := trivial
theorem PySem.W.Fast.tw7732186341340384502 : True := trivial
theorem PySem.W.Fast.tw15976827131225100146 : True := trivial
theorem PySem.W.Fast.tw16416228435301814874 : True := trivial
theorem PySem.W.Fast.tw15810280001018078414 : True := trivial
theorem PySem.W.Fast.tw3435134315537628004 : True := trivial
theorem PySem.W.Fast.tw771930673557465325 : True := trivial
theorem PySem.W.Fast.tw9763771038542270685 : True := trivial
theorem PySem.W.Fast.tw15966917873262494712 : True := trivial
theorem PySem.W.Fast.tw2851997946628971610 : True := trivial
theorem PySem.W.Fast.tw11124800060525000879 : True := trivial
theorem PySem.W.Fast.tw10582459199717282854 : True := trivial
theorem PySem.W.Fast.tw12602445054892123722 : True := trivial
theorem PySem.W.Fast.tw14518482709669975043 : True := trivial
theorem PySem.W.Fast.tw10212761702528450681 : True := trivial
theorem PySem.W.Fast.tw13427310008058137934 : True := trivial
theorem PySem.W.Fast.tw13550778234350689917 : True := trivial
theorem PySem.W.Fast.tw13795019318816969176 : True := trivial
theorem PySem.W.Fast.tw16005706340705853872 : True := trivial
theorem PySem.W.Fast.tw12181413677615246291 : True := trivial
theorem PySem.W.Fast.tw8786498577825663947 : True := trivial
theorem PySem.W.Fast.tw8915725232144928814 : True := trivial
open PySem PySem.W PyProof.Rows
set_option maxRecDepth 100000 in
set_option maxHeartbeats 0 in
theorem PySem.Challenge.cw_warmrows_k23_tables_that_programs_begin_holds : PySem.Challenge.rw_warmrows_k23_tables_that_programs_begin.Holds := by
  w_on; o_law; k_head; (case hw => w_witness2)
  k_fill
  refine K23.walk (l := PySem.Challenge.rw_warmrows_k23_tables_that_programs_begin) rfl rfl (fun w h Y => PySem.W.kIn_of Y) ?F
  case F =>
    intro w mg fa h KX G hmg
    refine' K23.all_mk KX G hmg ?a0 ?l0 ?c0 ?k0 ?a1 ?l1 ?c1 ?k1 ?a2 ?l2 ?c2 ?k2 ?a3 ?l3 ?c3 ?k3 ?a4 ?l4 ?c4 ?k4 ?a5 ?l5 ?c5 ?k5 ?a6 ?l6 ?c6 ?k6 ?a7 ?l7 ?c7 ?k7 ?a8 ?l8 ?c8 ?k8 ?a9 ?l9 ?c9 ?k9 ?a10 ?l10 ?c10 ?k10 ?a11 ?l11 ?c11 ?k11 ?a12 ?l12 ?c12 ?k12 ?a13 ?l13 ?c13 ?k13 ?a14 ?l14 ?c14 ?k14 ?a15 ?l15 ?c15 ?k15 ?a16 ?l16 ?c16 ?k16 ?a17 ?l17 ?c17 ?k17 ?a18 ?l18 ?c18 ?k18 ?a19 ?l19 ?c19 ?k19 ?a20 ?l20 ?c20 ?k20 ?a21 ?l21 ?c21 ?k21 ?a22 ?l22 ?c22 ?k22 ?a23 ?l23 ?c23 ?k23 ?z0 ?z1 ?z2 ?z3 ?z4 ?z5 ?z6 ?z7 ?z8 ?z9 ?z10 ?z11 ?z12 ?z13 ?z14 ?z15
    (case a0 => k_is); (case l0 => k_is); (case c0 => k_is); (case k0 => k_is)
    (case a1 => k_is); (case l1 => k_is); (case c1 => k_is); (case k1 => k_is)
    (case a2 => k_is); (case l2 => k_is); (case c2 => k_is); (case k2 => k_is)
    (case a3 => k_is); (case l3 => k_is); (case c3 => k_is); (case k3 => k_is)
    (case a4 => k_is); (case l4 => k_is); (case c4 => k_is); (case k4 => k_is)
    (case a5 => k_is); (case l5 => k_is); (case c5 => k_is); (case k5 => k_is)
    (case a6 => k_is); (case l6 => k_is); (case c6 => k_is); (case k6 => k_is)
    (case a7 => k_is); (case l7 => k_is); (case c7 => k_is); (case k7 => k_is)
    (case a8 => k_is); (case l8 => k_is); (case c8 => k_is); (case k8 => k_is)
    (case a9 => k_is); (case l9 => k_is); (case c9 => k_is); (case k9 => k_is)
    (case a10 => k_is); (case l10 => k_is); (case c10 => k_is); (case k10 => k_is)
    (case a11 => k_is); (case l11 => k_is); (case c11 => k_is); (case k11 => k_is)
    (case a12 => k_is); (case l12 => k_is); (case c12 => k_is); (case k12 => k_is)
    (case a13 => k_is); (case l13 => k_is); (case c13 => k_is); (case k13 => k_is)
    (case a14 => k_is); (case l14 => k_is); (case c14 => k_is); (case k14 => k_is)
    (case a15 => k_is); (case l15 => k_is); (case c15 => k_is); (case k15 => k_is)
    (case a16 => k_is); (case l16 => k_is); (case c16 => k_is); (case k16 => k_is)
    (case a17 => k_is); (case l17 => k_is); (case c17 => k_is); (case k17 => k_is)
    (case a18 => k_is); (case l18 => k_is); (case c18 => k_is); (case k18 => k_is)
    (case a19 => k_is); (case l19 => k_is); (case c19 => k_is); (case k19 => k_is)
    (case a20 => k_is); (case l20 => k_is); (case c20 => k_is); (case k20 => k_is)
    (case a21 => k_is); (case l21 => k_is); (case c21 => k_is); (case k21 => k_is)
    (case a22 => k_is); (case l22 => k_is); (case c22 => k_is); (case k22 => k_is)
    (case a23 => k_is); (case l23 => k_is); (case c23 => k_is); (case k23 => k_is)
    (case z0 => k_is); (case z1 => k_is); (case z2 => k_is); (case z3 => k_is); (case z4 => k_is); (case z5 => k_is); (case z6 => k_is); (case z7 => k_is); (case z8 => k_is); (case z9 => k_is); (case z10 => k_is); (case z11 => k_is); (case z12 => k_is); (case z13 => k_is); (case z14 => k_is); (case z15 => k_is)
end
