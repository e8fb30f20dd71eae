import PyProof.Rows.All
import Wide.All
import OpenK.AllK
import Wide.FinOn
import Lean
import PyProof.EqAt
import PyProof.EqKinds
import PyProof.TupleCall
import KE.KTryMore
import PyProof.ExcAttrAll.ValueError
import PyProof.ExcBaseAll.ValueError
import PyProof.DictWalks
import PyProof.EnumIter
import PyProof.EnumFor
import PyProof.EnumMake
import PyProof.AttrMissHeap
import KE.KDictOf
import KE.KDictList
import PyProof.StrOps2
import KE.KSortTup
import PyProof.NeKinds
import PySem.Challenge.RW_warmrows_k47_whole_rows_of_asks
import PyProof.Rows.SortStr
import PyProof.TupleOfSeq
import PyProof.ZipIter
import PyProof.SeqI3
import Wide.Seal
import PyProof.SumWalkG
import PyProof.Rows.FoldScan
set_option Elab.async false
set_option linter.all false
set_option maxRecDepth 100000
set_option maxHeartbeats 4000000
section
namespace L2
open PySem PySem.Spec PyProof.Rows
abbrev Key := Sum Int Str
def keyIs : Key → Value → Bool
  | .inl k, v => Value.isInt k v
  | .inr x, v => Value.isStrOf x v
def keyH (w : World) : Key → Int
  | .inl k => hashInt k
  | .inr x => hashStr w x
theorem keyIs_shape : ∀ {k : Key} {v : Value}, keyIs k v = true → (∃ i t, k = Sum.inl i ∧ v = Value.int i t) ∨ (∃ x t, k = Sum.inr x ∧ v = Value.str x t)
  | .inl i, v, h => by
    obtain ⟨t, e⟩ := Value.isInt_shape (k := i) (v := v) h
    exact .inl ⟨i, t, rfl, e⟩
  | .inr x, v, h => by
    obtain ⟨t, e⟩ := Value.isStrOf_shape (x := x) (v := v) h
    exact .inr ⟨x, t, rfl, e⟩
theorem keyIs_int (i : Int) (t : Tok) : keyIs (.inl i) (.int i t) = true := by simp [keyIs, Value.isInt]
theorem keyIs_str (x : Str) (t : Tok) : keyIs (.inr x) (.str x t) = true := by simp [keyIs, Value.isStrOf]
theorem key_ll (a b : Int) : decide ((Sum.inl a : Key) = Sum.inl b) = (a == b) := by
  by_cases e : a = b
  · subst e; simp
  · have h : ¬ (Sum.inl a : Key) = Sum.inl b := fun q => e (Sum.inl.inj q)
    rw [decide_eq_false h]
    exact (beq_eq_false_iff_ne.mpr e).symm
theorem key_rr (a b : Str) : decide ((Sum.inr a : Key) = Sum.inr b) = decide (a = b) := by
  by_cases e : a = b
  · subst e; simp
  · have h : ¬ (Sum.inr a : Key) = Sum.inr b := fun q => e (Sum.inr.inj q)
    rw [decide_eq_false h, decide_eq_false e]
theorem key_lr (a : Int) (b : Str) : decide ((Sum.inl a : Key) = Sum.inr b) = false := decide_eq_false (fun q => nomatch q)
theorem key_rl (a : Str) (b : Int) : decide ((Sum.inr a : Key) = Sum.inl b) = false := decide_eq_false (fun q => nomatch q)
def mixKind (prog : Program) (w : World) : PySem.KeyKind prog w Key where
  is := keyIs
  hash := keyH w
  inj := fun v a b ha hb => by
    rcases keyIs_shape ha with ⟨i, t, rfl, rfl⟩ | ⟨x, t, rfl, rfl⟩
    · rcases keyIs_shape hb with ⟨j, u, rfl, e⟩ | ⟨y, u, rfl, e⟩
      · injection e with e1 _; rw [e1]
      · exact nomatch e
    · rcases keyIs_shape hb with ⟨j, u, rfl, e⟩ | ⟨y, u, rfl, e⟩
      · exact nomatch e
      · injection e with e1 _; rw [e1]
  byValue := fun k v h => by
    rcases keyIs_shape h with ⟨i, t, rfl, rfl⟩ | ⟨x, t, rfl, rfl⟩ <;> rfl
  pyHash := fun hv h => by
    rcases keyIs_shape hv with ⟨i, t, rfl, rfl⟩ | ⟨x, t, rfl, rfl⟩
    · exact wpAny_pyHash_int h
    · exact wpAny_pyHash_str h
  eqBool := fun hu hv h => by
    rcases keyIs_shape hu with ⟨i, t, rfl, rfl⟩ | ⟨x, t, rfl, rfl⟩
    · rcases keyIs_shape hv with ⟨j, u, rfl, rfl⟩ | ⟨y, u, rfl, rfl⟩
      · rw [key_ll] at h; exact wpAny_eqBool_int h
      · rw [key_lr] at h; exact SeqAt.EqAt.int_str i t y u _ _ _ _ h
    · rcases keyIs_shape hv with ⟨j, u, rfl, rfl⟩ | ⟨y, u, rfl, rfl⟩
      · rw [key_rl] at h; exact SeqAt.EqAt.str_int x t j u _ _ _ _ h
      · rw [key_rr] at h; exact wpAny_eqBool_str h
  «strs» := fun k x t v h => by
    rcases keyIs_shape h with ⟨i, u, rfl, e⟩ | ⟨y, u, rfl, e⟩
    · exact nomatch e
    · injection e with e1 _
      subst e1
      cases v <;> rfl
theorem mixKind_int (prog : Program) (w : World) (i : Int) (t : Tok) : (mixKind prog w).is (.inl i) (.int i t) = true := keyIs_int i t
theorem mixKind_str (prog : Program) (w : World) (x : Str) (t : Tok) : (mixKind prog w).is (.inr x) (.str x t) = true := keyIs_str x t
end L2
namespace L2
open PySem PySem.Spec PyProof.Rows
inductive V where
  | non | bl (b : Bool) | int (i : Int) | str (x : Str) | byt (b : Array UInt8) | flt (b : UInt64) | ref (a : Addr) | ty (n : String)
  deriving DecidableEq
def RelV : V → Value → Prop
  | .non, u => u = Value.none
  | .bl b, u => u = Value.bool b
  | .int i, u => ∃ t, u = Value.int i t
  | .str x, u => ∃ t, u = Value.str x t
  | .byt b, u => ∃ t, u = Value.bytes b t
  | .flt b, u => ∃ t, u = Value.float b t
  | .ref a, u => u = Value.ref a
  | .ty n, u => u = Value.type n
abbrev Vals : List V → List Value → Prop := Paired RelV
theorem Vals.length {xs : List V} {us : List Value} (r : Vals xs us) : xs.length = us.length := Paired.length r
theorem Vals.get : ∀ {xs : List V} {us : List Value} {i : Nat} {x : V}, Vals xs us → xs[i]? = some x → ∃ u, us[i]? = some u ∧ RelV x u
  | _, _, _, _, .nil, e => by simp at e
  | _, _, 0, _, .cons r _, e => by simp at e; subst e; exact ⟨_, rfl, r⟩
  | _, _, i + 1, x, .cons _ t, e => by
    obtain ⟨u, h1, h2⟩ := Vals.get (i := i) (x := x) t (by simpa using e)
    exact ⟨u, by simpa using h1, h2⟩
theorem Vals.set {x : V} {u : Value} (r : RelV x u) : ∀ {xs : List V} {us : List Value} (i : Nat), Vals xs us → Vals (xs.set i x) (us.set i u)
  | _, _, _, .nil => .nil
  | _, _, 0, .cons _ t => .cons r t
  | _, _, i + 1, .cons q t => .cons q (Vals.set r i t)
theorem Vals.append : ∀ {xs ys : List V} {us ws : List Value}, Vals xs us → Vals ys ws → Vals (xs ++ ys) (us ++ ws)
  | _, _, _, _, .nil, s => s
  | _, _, _, _, .cons r t, s => .cons r (Vals.append t s)
theorem Vals.take : ∀ {xs : List V} {us : List Value} (n : Nat), Vals xs us → Vals (xs.take n) (us.take n)
  | _, _, 0, _ => .nil
  | _, _, _ + 1, .nil => .nil
  | _, _, n + 1, .cons r t => .cons r (Vals.take n t)
theorem Vals.drop : ∀ {xs : List V} {us : List Value} (n : Nat), Vals xs us → Vals (xs.drop n) (us.drop n)
  | _, _, 0, r => r
  | _, _, _ + 1, .nil => .nil
  | _, _, n + 1, .cons _ t => Vals.drop n t
def RelO : Option V → Option Value → Prop
  | some v, some u => RelV v u
  | none, none => True
  | _, _ => False
def KV {κ : Type} : List (κ × V) → List (κ × Value) → Prop := Paired fun (p : κ × V) (q : κ × Value) => p.1 = q.1 ∧ RelV p.2 q.2
def kV : Key → V
  | .inl i => .int i
  | .inr x => .str x
inductive HO where
  | lst (xs : List V)
  | tup (xs : List V)
  | dK (kvs : List (Key × V)) | dT (kvs : List (List Key × V))
  | set (S : Int → Bool) (n : Nat)
  | ins (C dx : Addr) (fs : List (Str × V))
  | own (x : Addr)
  | xd (fs : List (Str × V))
  | met (f x : Addr)
  | rng (lo hi : Int)
  | frz (o : Obj) (u : HO)
  | tbl (ps : Array Value)
  | ext (φ : Heap → Prop)
abbrev Hp := Addr → Option HO
def upd (H : Hp) (a : Addr) (o : HO) : Hp := fun b => if b = a then some o else H b
theorem upd_same {H : Hp} {a : Addr} {o : HO} : upd H a o a = some o := by unfold upd; rw [if_pos rfl]
theorem upd_ne {H : Hp} {a b : Addr} {o : HO} (h : b ≠ a) : upd H a o b = H b := by unfold upd; rw [if_neg h]
theorem upd_upd {H : Hp} {a : Addr} {o u : HO} : upd (upd H a o) a u = upd H a u := by
  funext b; unfold upd; split <;> rfl
theorem ne_of {H : Hp} {a b : Addr} {o u : HO} (h : H a = some o) (h' : H b = some u) (d : o ≠ u) : a ≠ b := by
  intro e; subst e; rw [h] at h'; exact d (Option.some.inj h')
theorem ne_of_none {H : Hp} {a b : Addr} {o : HO} (h : H a = some o) (h' : H b = none) : a ≠ b := by
  intro e; subst e; rw [h] at h'; cases h'
def NoD (h : Heap) (a : Addr) : Prop := ∀ o, h.get? a = some o → o.dict = none
theorem nod_push (h : Heap) (its : Array Value) : NoD (h.push { cls := .type "tuple", data := .seq its }) h.objs.size := fun o e => by
  rw [Heap.get?_push_size _ rfl] at e
  cases e
  rfl
section
variable (P : Program) (w : World)
def ObjOk (H : Hp) (h : Heap) (a : Addr) : HO → Prop
  | .lst xs => xs.length ≤ sizeLine ∧ ∃ (its : List Value) (n : Nat), Vals xs its ∧ h.get? a = some { cls := .type "list", data := .seq its.toArray n }
  | .tup xs => (xs.length ≤ sizeLine ∧ NoD h a) ∧ ∃ its : List Value, Vals xs its ∧ IsTup h a its.toArray
  | .dK kvs => kvs.length ≤ sizeLine ∧ (a == sysModules) = false ∧ ∃ vs, KV kvs vs ∧ h.DictOf (mixKind P w) a vs
  | .dT kvs => kvs.length ≤ sizeLine ∧ (a == sysModules) = false ∧ ∃ xs : List (List Key × Addr × Value),
      Paired (fun (p : List Key × V) (q : List Key × Addr × Value) => p.1 = q.1 ∧ H q.2.1 = some (.tup (p.1.map kV)) ∧ RelV p.2 q.2.2) kvs xs ∧
      ∃ o es ep, h.get? a = some o ∧ o.ExactDict ∧ o.data = .dict es ep ∧ es.toList = xs.map (entryOfKey (tupleKind (mixKind P w))) ∧ (xs.map (·.1)).Nodup
  | .set S n => h.SetOf (intKind P w) a S n
  | .ins C dx fs => H dx = some (.own a) ∧ fs.length ≤ 1000 ∧ dx ≠ a ∧ h.get? a = some (PySem.W.instObj C dx) ∧
      ∃ mA, h.Ns1 dx mA ∧ (∀ f, RelO (fs.lookup f) (mA f)) ∧ PySem.Within mA (fs.map (·.1))
  | .own _ => ∃ o, h.get? a = some o
  | .xd fs => ∃ mA, h.Ns1 a mA ∧ ∀ f, RelO (fs.lookup f) (mA f)
  | .rng lo hi => ∃ t u v, h.get? a = some { cls := .type "range", data := .fields #[.int lo t, .int hi u, .int 1 v] }
  | .frz o u => h.get? a = some o ∧ ObjOk H h a u
  | .tbl ps => h.get? a = some { cls := .none, data := .fields ps }
  | .met f x => h.get? a = some (PySem.W.methodObj (.ref f) (.ref x))
  | .ext φ => φ h ∧ (∃ o, h.get? a = some o) ∧ ∀ h1 h2 : Heap, φ h1 → (∀ o, h1.get? a = some o → h2.get? a = some o) → φ h2
def HOk (H : Hp) (h : Heap) : Prop := ∀ a o, H a = some o → ObjOk P w H h a o
end
section
variable {P : Program} {w : World} {H H' : Hp} {h h' : Heap} {a : Addr} {o : HO}
theorem ObjOk.lt (x : ObjOk P w H h a o) : a < h.objs.size := by
  cases o with
  | lst xs => obtain ⟨_, _, _, _, e⟩ := x; exact Heap.lt_size e
  | tup xs => obtain ⟨_, _, _, p⟩ := x; exact p.lt
  | dK kvs => obtain ⟨_, _, _, _, o, _, _, e, _⟩ := x; exact Heap.lt_size e
  | dT kvs => obtain ⟨_, _, _, _, o, _, _, e, _⟩ := x; exact Heap.lt_size e
  | set S n => obtain ⟨o, _, _, _, e, _⟩ := x; exact Heap.lt_size e
  | ins C dx fs => obtain ⟨_, _, _, e, _⟩ := x; exact Heap.lt_size e
  | own y => obtain ⟨_, e⟩ := x; exact Heap.lt_size e
  | xd fs => obtain ⟨_, ⟨_, _, _, e, _⟩, _⟩ := x; exact Heap.lt_size e
  | rng lo hi => obtain ⟨_, _, _, e⟩ := x; exact Heap.lt_size e
  | frz ob u => obtain ⟨e, _⟩ := x; exact Heap.lt_size e
  | tbl ps => exact Heap.lt_size (show h.get? a = some _ from x)
  | met f y => exact Heap.lt_size (show h.get? a = some _ from x)
  | ext φ => obtain ⟨_, ⟨_, e⟩, _⟩ := x; exact Heap.lt_size e
theorem Paired.mapP {α β : Type} {F G : α → β → Prop} : ∀ {l₁ : List α} {l₂ : List β}, Paired F l₁ l₂ → (∀ a b, F a b → G a b) → Paired G l₁ l₂
  | _, _, .nil, _ => .nil
  | _, _, .cons r t, f => .cons (f _ _ r) (Paired.mapP t f)
theorem ObjOk.stay (x : ObjOk P w H h a o) (k : ∀ b u, (b = a ∨ H b = some (.own a)) → h.get? b = some u → h'.get? b = some u)
    (ho : ∀ b, H b = some (.own a) → H' b = some (.own a)) (ht : ∀ b xs, H b = some (.tup xs) → H' b = some (.tup xs)) : ObjOk P w H' h' a o := by
  induction o with
  | lst xs => obtain ⟨z, its, n, r, e⟩ := x; exact ⟨z, its, n, r, k _ _ (.inl rfl) e⟩
  | tup xs =>
    obtain ⟨z, its, r, ob, e, c⟩ := x
    have e' := k _ _ (.inl rfl) e
    exact ⟨⟨z.1, fun o q => by rw [e'] at q; cases q; exact z.2 _ e⟩, its, r, ob, e', c⟩
  | dK kvs => obtain ⟨z, y, vs, r, ob, es, ep, e, c⟩ := x; exact ⟨z, y, vs, r, ob, es, ep, k _ _ (.inl rfl) e, c⟩
  | dT kvs =>
    obtain ⟨z, y, xs, r, ob, es, ep, e, c⟩ := x
    exact ⟨z, y, xs, Paired.mapP r fun p q z => ⟨z.1, ht _ _ z.2.1, z.2.2⟩, ob, es, ep, k _ _ (.inl rfl) e, c⟩
  | set S n => obtain ⟨ob, es, ep, t, e, c⟩ := x; exact ⟨ob, es, ep, t, k _ _ (.inl rfl) e, c⟩
  | ins C dx fs =>
    obtain ⟨d, z, ne, e, mA, ⟨od, es, ep, e2, c⟩, r⟩ := x
    exact ⟨ho _ d, z, ne, k _ _ (.inl rfl) e, mA, ⟨od, es, ep, k _ _ (.inr d) e2, c⟩, r⟩
  | own y => obtain ⟨ob, e⟩ := x; exact ⟨ob, k _ _ (.inl rfl) e⟩
  | xd fs => obtain ⟨mA, ⟨od, es, ep, e, c⟩, r⟩ := x; exact ⟨mA, ⟨od, es, ep, k _ _ (.inl rfl) e, c⟩, r⟩
  | rng lo hi => obtain ⟨t, u, v, e⟩ := x; exact ⟨t, u, v, k _ _ (.inl rfl) e⟩
  | frz ob u ih => obtain ⟨e, q⟩ := x; exact ⟨k _ _ (.inl rfl) e, ih q⟩
  | tbl ps =>
    have e : h.get? a = some { cls := .none, data := .fields ps } := x
    show h'.get? a = some { cls := .none, data := .fields ps }
    exact k a _ (.inl rfl) e
  | met f y =>
    have e : h.get? a = some (PySem.W.methodObj (.ref f) (.ref y)) := x
    show h'.get? a = some (PySem.W.methodObj (.ref f) (.ref y))
    exact k a _ (.inl rfl) e
  | ext φ => obtain ⟨p, ⟨o, e⟩, st⟩ := x; exact ⟨st _ _ p fun o q => k _ _ (.inl rfl) q, ⟨o, k _ _ (.inl rfl) e⟩, st⟩
theorem HOk.lt (x : HOk P w H h) (e : H a = some o) : a < h.objs.size := (x a o e).lt
theorem HOk.fresh (x : HOk P w H h) (e : h.objs.size ≤ a) : H a = none := by
  cases q : H a with
  | none => rfl
  | some u => exact absurd (Nat.lt_of_lt_of_le (x.lt q) e) (Nat.lt_irrefl _)
theorem HOk.kept (x : HOk P w H h) (k : ∀ b u, h.get? b = some u → h'.get? b = some u) : HOk P w H h' := fun a o e =>
  (x a o e).stay (fun b u _ q => k b u q) (fun _ q => q) fun _ _ q => q
theorem HOk.laid (x : HOk P w H h) (k : ∀ b u, h.get? b = some u → h'.get? b = some u) (hp : h.objs.size ≤ a) (new : ObjOk P w (upd H a o) h' a o) : HOk P w (upd H a o) h' := fun b u e => by
  have hn := x.fresh hp
  by_cases hb : b = a
  · subst hb; rw [upd_same] at e; cases e; exact new
  · rw [upd_ne hb] at e
    exact (x b u e).stay (fun c v _ q => k c v q) (fun c q => by rw [upd_ne (ne_of_none q hn)]; exact q) fun c xs q => by rw [upd_ne (ne_of_none q hn)]; exact q
end
def Rd (H : Hp) (a : Addr) (u : HO) : Prop := H a = some u ∨ ∃ o, H a = some (.frz o u)
theorem Rd.ok {P : Program} {w : World} {H : Hp} {h : Heap} {a : Addr} {u : HO} (r : Rd H a u) (x : HOk P w H h) : ObjOk P w H h a u := by
  rcases r with r | ⟨o, r⟩
  · exact x a u r
  · obtain ⟨_, q⟩ := x a _ r
    exact q
def Mut : Option HO → Prop
  | some (.lst _) => True
  | some (.dK _) => True
  | some (.dT _) => True
  | some (.set _ _) => True
  | some (.ins _ _ _) => True
  | some (.ext _) => True
  | _ => False
section
variable {P : Program} {w : World} {H : Hp} {h h' : Heap} {x e : Addr} {o' : HO}
theorem HOk.write (ok : HOk P w H h) (mu : Mut (H x)) (he : e = x ∨ H e = some (.own x)) (k : ∀ b u, b ≠ e → h.get? b = some u → h'.get? b = some u) (heo : ∃ u, h'.get? e = some u)
    (new : ObjOk P w (upd H x o') h' x o') : HOk P w (upd H x o') h' := fun b u q => by
  have nown : ∀ c y, H c = some (.own y) → c ≠ x := fun c y r z => by subst z; rw [r] at mu; exact mu
  have ntup : ∀ c xs, H c = some (.tup xs) → c ≠ x := fun c xs r z => by subst z; rw [r] at mu; exact mu
  by_cases hb : b = x
  · subst hb; rw [upd_same] at q; cases q; exact new
  · rw [upd_ne hb] at q
    by_cases hbe : b = e
    · have q' : H b = some (.own x) := by
        rcases he with z | z
        · exact absurd (hbe.trans z) hb
        · rw [hbe]; exact z
      rw [q] at q'; cases q'
      obtain ⟨v, hv⟩ := heo
      exact ⟨v, by rw [hbe]; exact hv⟩
    · refine (ok b u q).stay (fun c v hc r => k c v ?_ r) (fun c r => by rw [upd_ne (nown c b r)]; exact r) fun c xs r => by rw [upd_ne (ntup c xs r)]; exact r
      rcases hc with rfl | hc
      · exact hbe
      · rintro rfl
        rcases he with z | z
        · exact nown c b hc z
        · rw [hc] at z; cases z; exact hb rfl
end
structure Un (fs ex : List Addr) (H H' : Hp) (h h' : Heap) : Prop where
  keep : ∀ b o, h.get? b = some o → H b = none → b ∉ fs → b ∉ ex → h'.get? b = some o
  slot : ∀ b o, h.get? b = some o → H b = none → b ∈ fs → b ∉ ex → ∃ sl, h'.get? b = some { o with slots := sl }
  free : ∀ b o, h.get? b = some o → H b = none → b ∉ ex → H' b = none
  there : ∀ b o, h.get? b = some o → b ∉ ex → ∃ o', h'.get? b = some o'
  tups : ∀ b xs, H b = some (.tup xs) → H' b = some (.tup xs)
  frzs : ∀ b o u, H b = some (.frz o u) → H' b = some (.frz o u)
  tbls : ∀ b ps, H b = some (.tbl ps) → ∃ more, H' b = some (.tbl (ps ++ more))
section
variable {fs fs' ex ex' : List Addr} {H H1 H2 : Hp} {h h1 h2 h' : Heap} {a x e : Addr} {o : HO}
theorem Un.any (u : Un fs ex H H1 h h1) {b : Addr} {ob : Obj} (q : h.get? b = some ob) (n : H b = none) (hx : b ∉ ex) : ∃ sl, h1.get? b = some { ob with slots := sl } := by
  by_cases hb : b ∈ fs
  · exact u.slot b ob q n hb hx
  · exact ⟨ob.slots, u.keep b ob q n hb hx⟩
theorem Un.kept (k : ∀ b u, h.get? b = some u → h'.get? b = some u) : Un fs ex H H h h' :=
  ⟨fun b ob q _ _ _ => k b ob q, fun b ob q _ _ _ => ⟨ob.slots, k b ob q⟩, fun _ _ _ n _ => n, fun b ob q _ => ⟨ob, k b ob q⟩, fun _ _ q => q, fun _ _ _ q => q, fun _ ps q => ⟨#[], by rw [q]; simp⟩⟩
theorem Un.refl : Un fs ex H H h h := Un.kept fun _ _ q => q
theorem Un.laid (k : ∀ b u, h.get? b = some u → h'.get? b = some u) (hp : h.objs.size ≤ a) (hn : H a = none) : Un fs ex H (upd H a o) h h' where
  keep := fun b u q _ _ _ => k b u q
  slot := fun b u q _ _ _ => ⟨u.slots, k b u q⟩
  free := fun b u q n _ => by rw [upd_ne (Nat.ne_of_lt (Nat.lt_of_lt_of_le (Heap.lt_size q) hp))]; exact n
  there := fun b u q _ => ⟨u, k b u q⟩
  tups := fun b xs q => by rw [upd_ne (ne_of_none q hn)]; exact q
  frzs := fun b u xs q => by rw [upd_ne (ne_of_none q hn)]; exact q
  tbls := fun b ps q => ⟨#[], by rw [upd_ne (ne_of_none q hn), q]; simp⟩
theorem Un.write (mu : Mut (H x)) (he : e = x ∨ H e = some (.own x)) (k : ∀ b u, b ≠ e → h.get? b = some u → h'.get? b = some u) (heo : ∃ u, h'.get? e = some u) : Un fs ex H (upd H x o) h h' := by
  have hx : ∀ b, H b = none → b ≠ x := fun b n z => by subst z; rw [n] at mu; exact mu
  have hb : ∀ b, H b = none → b ≠ e := fun b n z => by
    subst z
    rcases he with r | r
    · exact hx b n r
    · rw [n] at r; cases r
  have hm : ∀ b u, H b = some u → ¬ Mut (some u) → b ≠ x := fun b u q nm z => by subst z; rw [q] at mu; exact nm mu
  refine ⟨fun b u q n _ _ => k b u (hb b n) q, fun b u q n _ _ => ⟨u.slots, k b u (hb b n) q⟩, fun b u q n _ => by rw [upd_ne (hx b n)]; exact n, fun b u q _ => ?_,
    fun b xs q => by rw [upd_ne (hm b _ q fun z => z)]; exact q, fun b u xs q => by rw [upd_ne (hm b _ q fun z => z)]; exact q, fun b ps q => ⟨#[], by rw [upd_ne (hm b _ q fun z => z), q]; simp⟩⟩
  by_cases hbe : b = e
  · subst hbe; exact heo
  · exact ⟨u, k b u hbe q⟩
end
def trk (h : Heap) (H : Hp) : List Addr := (List.range h.objs.size).filter fun a => (H a).isSome
def hidT (h : Heap) (H : Hp) : Heap := PySem.W.hideAll h (trk h H)
theorem hidT_size (h : Heap) (H : Hp) : (hidT h H).objs.size = h.objs.size := PySem.W.hideAll_size _ _
theorem hidT_get {h : Heap} {H : Hp} {b : Addr} {o : Obj} (e : h.get? b = some o) (n : H b = none) : (hidT h H).get? b = some o :=
  PySem.W.hideAll_get _ e fun hm => by
    have q : (H b).isSome = true := (List.mem_filter.mp hm).2
    rw [n] at q; simp at q
theorem of_hidT {h : Heap} {H : Hp} {b : Addr} {o : Obj} (e : (hidT h H).get? b = some o) : h.get? b = some o ∧ H b = none := by
  have e' : h.get? b = some o := PySem.W.of_hideAll (trk h H) e
  refine ⟨e', ?_⟩
  cases q : H b with
  | none => rfl
  | some x =>
    have hm : b ∈ trk h H := List.mem_filter.mpr ⟨List.mem_range.mpr (Heap.lt_size e'), by simp [q]⟩
    have z : (hidT h H).get? b = none := PySem.W.hideAll_none (trk h H) hm
    rw [z] at e; cases e
def allNews (g h : Heap) (L : Addr) : List (Addr × Obj) := (List.range h.objs.size).filterMap fun a => if a = L ∨ (g.get? a).isSome = true then none else (h.get? a).map fun o => (a, o)
def rest (g h : Heap) (L d : Addr) : List (Addr × Obj) := (allNews g h L).filter fun p => decide (p.1 ≠ d)
end L2
namespace L2
open PySem PySem.Spec PyProof.Rows
structure Mod (K : PySem.W.Frag) (mg : Str → Option Value) (base : Heap) : Prop where
  kin : K.In base
  glob : base.Ns mainGlobals mg
  blt : ∃ mb, base.Ns builtinsNs mb ∧ ∀ x : Str, x ≠ "__name__" → mb x = bootBuiltins x
  nolimit : base.NoLimit
/-- the context: a def's body (or a comprehension's block) running. base: fixed through the whole law; s₀, H₀: the entry; outer: the frames whose slots others may change (a def's callers); stack: all frames that run;
   ex: iterators that were made ahead of the entry and are walked here (a comprehension's); fn: the names whose cells were made at the entry (a def: all; a comprehension's block: its own); calm: not within an except suite; pn: pins that every state bears; xe: what is wanted of an exception that leaves the code -/
structure Cx where
  prog : Program
  w : World
  K : PySem.W.Frag
  mg : Str → Option Value
  base : Heap
  A : Around
  N : List Str
  s₀ : Shared
  H₀ : Hp
  env : Env
  outer : List Env
  stack : List Env
  ex : List Addr
  fn : Str → Bool
  calm : Bool
  pn : List (Addr × Obj)
  xe : Value → Shared → Prop
def frs (l : List Env) : List Addr := l.filterMap (·.frame)
abbrev Cx.fs (X : Cx) : List Addr := frs X.outer
def Vis (sc : Scope) (x : Str) : Prop := sc.names.lookup x = some .local ∨ sc.names.lookup x = some .cell ∨ sc.names.lookup x = some .free
def Loc (sc : Scope) (x : Str) : Prop := sc.names.lookup x = some .local ∨ sc.names.lookup x = some .cell
def Look (env : Env) (h : Heap) (m : Str → Option Value) (x : Str) (u : Value) : Prop :=
  (env.kindOf x = some .local ∧ m x = some u) ∨ ((env.kindOf x = some .cell ∨ env.kindOf x = some .free) ∧ ∃ c, env.cells.lookup x = some c ∧ h.IsCell c (some u))
structure Cx.Ok (X : Cx) : Prop where
  mod : Mod X.K X.mg X.base
  kind : X.env.scope.kind = .function
  glob : X.env.globals = mainGlobals
  blt : X.env.builtins = builtinsNs
  above : X.s₀.heap.objs.size ≤ X.env.locals
  inj : ∀ x y c, X.env.cells.lookup x = some c → X.env.cells.lookup y = some c → x = y
  has : ∀ x, (X.env.kindOf x = some .cell ∨ X.env.kindOf x = some .free) → ∃ c, X.env.cells.lookup x = some c
  cab : ∀ x c, X.fn x = true → X.env.cells.lookup x = some c → X.s₀.heap.objs.size ≤ c
  hd : X.calm = true → X.A.handled = none
  frames : X.A.frames = some X.stack
  stk : X.stack = X.outer ∨ (X.stack = X.env :: X.outer ∧ X.env.frame = some X.env.locals)
  exf : ∀ b ∈ X.ex, b ≠ X.env.locals ∧ ∀ x c, X.env.cells.lookup x = some c → c ≠ b
  bs : ∀ b o, X.base.get? b = some o → X.s₀.heap.get? b = some o ∧ X.H₀ b = none
  bsz : X.base.objs.size ≤ X.s₀.heap.objs.size
  noex : ∀ b o, X.base.get? b = some o → b ∉ X.ex
  exfs : ∀ b ∈ X.ex, b ∉ X.fs
  funs : X.s₀.heap.FunFrames X.base X.outer
  frf : ∀ b ∈ X.fs, X.H₀ b = none
structure Inv (X : Cx) (pins : List (Addr × Obj)) (σ : List (Option V)) (H : Hp) (s : Shared) : Prop where
  ok : X.Ok
  os : s.os = X.s₀.os
  bare : AllBare s.gens
  base : Un X.fs X.ex X.H₀ H X.s₀.heap s.heap
  loc : ∃ m, s.heap.Ns X.env.locals m ∧ ∀ (i : Nat) (x : Str) (v : V), X.N[i]? = some x → σ[i]? = some (some v) → Vis X.env.scope x → ∃ u, RelV v u ∧ Look X.env s.heap m x u
  cell : ∀ x c, X.env.cells.lookup x = some c → ∃ v, s.heap.IsCell c v
  free : H X.env.locals = none
  freeC : ∀ x c, X.env.cells.lookup x = some c → H c = none
  pin : ∀ p ∈ X.pn ++ pins, s.heap.get? p.1 = some p.2 ∧ H p.1 = none ∧ p.1 ≠ X.env.locals ∧ p.1 ∉ X.fs ∧ ∀ v, p.2.data ≠ .cell v
  hok : HOk X.prog X.w H s.heap
  len : σ.length = X.N.length
section
variable {X : Cx} {pins : List (Addr × Obj)} {σ : List (Option V)} {H H' : Hp} {s : Shared} {h' : Heap}
theorem Cx.Ok.nofr (ok : X.Ok) {b : Addr} {o : Obj} (e : X.base.get? b = some o) : b ∉ X.fs := fun hb => by
  have := (ok.funs.mem hb).1
  rw [e] at this; cases this
theorem Inv.bs (I : Inv X pins σ H s) : ∀ b o, X.base.get? b = some o → s.heap.get? b = some o ∧ H b = none := fun b o e =>
  ⟨I.base.keep b o (I.ok.bs b o e).1 (I.ok.bs b o e).2 (I.ok.nofr e) (I.ok.noex b o e), I.base.free b o (I.ok.bs b o e).1 (I.ok.bs b o e).2 (I.ok.noex b o e)⟩
theorem Inv.bk (I : Inv X pins σ H s) : ∀ b o, X.base.get? b = some o → s.heap.get? b = some o := fun b o e => (I.bs b o e).1
theorem Inv.mod (I : Inv X pins σ H s) : Mod X.K X.mg X.base := I.ok.mod
theorem Inv.kIn (I : Inv X pins σ H s) : X.K.In s.heap := I.ok.mod.kin.keeps I.bk
theorem Inv.lt (I : Inv X pins σ H s) : X.env.locals < s.heap.objs.size := let ⟨_, hn, _⟩ := I.loc; hn.lt
theorem Inv.sz (I : Inv X pins σ H s) : X.s₀.heap.objs.size ≤ s.heap.objs.size := Nat.le_trans I.ok.above (Nat.le_of_lt I.lt)
theorem Inv.nofs (I : Inv X pins σ H s) {a : Addr} (h : s.heap.objs.size ≤ a) : a ∉ X.fs := fun hb => by
  obtain ⟨_, o, ho, _⟩ := I.ok.funs.mem hb
  exact absurd (Nat.lt_of_lt_of_le (Heap.lt_size ho) (Nat.le_trans I.sz h)) (Nat.lt_irrefl _)
theorem Inv.cne (I : Inv X pins σ H s) : ∀ x c, X.env.cells.lookup x = some c → c ≠ X.env.locals := fun x c e z => by
  obtain ⟨v, o, ho, hd⟩ := I.cell x c e
  obtain ⟨m, ⟨o', es, ep, ho', hd', _⟩, _⟩ := I.loc
  rw [z, ho'] at ho; cases ho; rw [hd'] at hd; cases hd
theorem Inv.funs (I : Inv X pins σ H s) : s.heap.FunFrames X.base X.outer := by
  have all : ∀ (l : List Env), (∀ b ∈ frs l, b ∈ X.fs) → X.s₀.heap.FunFrames X.base l → s.heap.FunFrames X.base l := by
    intro l
    induction l with
    | nil => intro _ _; trivial
    | cons env r ih =>
      intro hs hl
      obtain ⟨hk, ⟨L, o, hf, hn, ho, hd⟩, hr⟩ := hl
      have hL : L ∈ X.fs := hs L (by unfold frs; rw [List.filterMap_cons, hf]; exact List.mem_cons_self)
      obtain ⟨sl, e⟩ := I.base.slot L o ho (I.ok.frf L hL) hL fun z => I.ok.exfs L z hL
      exact ⟨hk, ⟨L, _, hf, hn, e, hd⟩, ih (fun b hb => hs b (by unfold frs; rw [List.filterMap_cons, hf]; exact List.mem_cons_of_mem _ hb)) hr⟩
  exact all X.outer (fun _ hb => hb) I.ok.funs
theorem Inv.stack (I : Inv X pins σ H s) : s.heap.FunFrames X.base X.stack := by
  rcases I.ok.stk with e | ⟨e, hf⟩
  · rw [e]; exact I.funs
  · rw [e]
    obtain ⟨m, hn, _⟩ := I.loc
    refine .cons (by rw [I.ok.kind]; decide) hf hn ?_ I.funs
    exact Heap.get?_none_of_le (Nat.le_trans I.ok.bsz I.ok.above)
theorem Inv.stkSub (I : Inv X pins σ H s) : ∀ b ∈ frs X.stack, b ∈ X.env.locals :: X.fs := fun b hb => by
  rcases I.ok.stk with e | ⟨e, hf⟩
  · rw [e] at hb; exact List.mem_cons_of_mem _ hb
  · rw [e] at hb
    unfold frs at hb
    rw [List.filterMap_cons, hf] at hb
    exact hb
theorem Inv.stkFree (I : Inv X pins σ H s) : ∀ b ∈ frs X.stack, H b = none := fun b hb => by
  rcases List.mem_cons.mp (I.stkSub b hb) with e | hb
  · rw [e]; exact I.free
  · obtain ⟨_, o, ho, _⟩ := I.ok.funs.mem hb
    exact I.base.free b o ho (I.ok.frf b hb) fun z => I.ok.exfs b z hb
theorem Inv.step {g' : Array GenState} {t' : Nat} {d' : Drawn} {ch : List Addr} (I : Inv X pins σ H s)
    (hch : ∀ b ∈ ch, (b ∈ X.ex ∨ X.s₀.heap.objs.size ≤ b) ∧ b ≠ X.env.locals ∧ (∀ x c, X.env.cells.lookup x = some c → c ≠ b) ∧ ∀ p ∈ X.pn ++ pins, p.1 ≠ b)
    (keep : ∀ b o, b ≠ X.env.locals → b ∉ X.fs → b ∉ ch → s.heap.get? b = some o → H b = none → h'.get? b = some o)
    (slot : ∀ b o, b ≠ X.env.locals → b ∈ X.fs → b ∉ ch → s.heap.get? b = some o → H b = none → ∃ sl, h'.get? b = some { o with slots := sl }) (free : ∀ b o, b ∉ ch → s.heap.get? b = some o → H b = none → H' b = none)
    (there : ∀ b o, b ∉ ch → s.heap.get? b = some o → ∃ o', h'.get? b = some o')
    (tups : ∀ b xs, H b = some (.tup xs) → H' b = some (.tup xs)) (frzs : ∀ b o u, H b = some (.frz o u) → H' b = some (.frz o u)) (tbls : ∀ b ps, H b = some (.tbl ps) → ∃ more, H' b = some (.tbl (ps ++ more)))
    (ns : ∀ m, s.heap.Ns X.env.locals m → h'.Ns X.env.locals m) (hok : HOk X.prog X.w H' h') (hg : AllBare g') :
    Inv X pins σ H' { s with heap := h', gens := g', drawn := d', toks := t' } := by
  have neL : ∀ b o, X.s₀.heap.get? b = some o → b ≠ X.env.locals := fun b o e => Nat.ne_of_lt (Nat.lt_of_lt_of_le (Heap.lt_size e) I.ok.above)
  have neC : ∀ b o, X.s₀.heap.get? b = some o → b ∉ X.ex → b ∉ ch := fun b o e hx hb => by
    rcases (hch b hb).1 with z | z
    · exact hx z
    · exact absurd (Nat.lt_of_lt_of_le (Heap.lt_size e) z) (Nat.lt_irrefl _)
  have cellK : ∀ x c, X.env.cells.lookup x = some c → ∀ v, s.heap.IsCell c v → h'.IsCell c v := fun x c e v ⟨o, ho, hd⟩ => by
    have nch : c ∉ ch := fun z => (hch c z).2.2.1 x c e rfl
    by_cases hc : c ∈ X.fs
    · obtain ⟨sl, q⟩ := slot c o (I.cne x c e) hc nch ho (I.freeC x c e)
      exact ⟨_, q, hd⟩
    · exact ⟨o, keep c o (I.cne x c e) hc nch ho (I.freeC x c e), hd⟩
  refine ⟨I.ok, I.os, hg, ⟨fun b o e n hb hx => ?_, fun b o e n hb hx => ?_, fun b o e n hx => ?_, fun b o e hx => ?_, fun b xs e => tups b xs (I.base.tups b xs e), fun b o xs e => frzs b o xs (I.base.frzs b o xs e), fun b ps e => ?_⟩, ?_, fun x c e => ?_, ?_, fun x c e => ?_, fun p hp => ?_, hok, I.len⟩
  · exact keep b o (neL b o e) hb (neC b o e hx) (I.base.keep b o e n hb hx) (I.base.free b o e n hx)
  · obtain ⟨sl, e1⟩ := I.base.slot b o e n hb hx
    obtain ⟨sl', e2⟩ := slot b _ (neL b o e) hb (neC b o e hx) e1 (I.base.free b o e n hx)
    exact ⟨sl', e2⟩
  · obtain ⟨o', e1⟩ := I.base.there b o e hx
    exact free b o' (neC b o e hx) e1 (I.base.free b o e n hx)
  · obtain ⟨o', e1⟩ := I.base.there b o e hx
    exact there b o' (neC b o e hx) e1
  · obtain ⟨m1, e1⟩ := I.base.tbls b ps e
    obtain ⟨m2, e2⟩ := tbls b _ e1
    exact ⟨m1 ++ m2, by rw [e2, Array.append_assoc]⟩
  · obtain ⟨m, hn, hl⟩ := I.loc
    refine ⟨m, ns m hn, fun i x v e1 e2 e3 => ?_⟩
    obtain ⟨u, r, l⟩ := hl i x v e1 e2 e3
    refine ⟨u, r, ?_⟩
    rcases l with l | ⟨k, c, e, z⟩
    · exact .inl l
    · exact .inr ⟨k, c, e, cellK x c e _ z⟩
  · obtain ⟨v, z⟩ := I.cell x c e
    exact ⟨v, cellK x c e v z⟩
  · obtain ⟨m, ⟨o, _, _, ho, _⟩, _⟩ := I.loc
    exact free _ o (fun z => (hch _ z).2.1 rfl) ho I.free
  · obtain ⟨v, o, ho, hd⟩ := I.cell x c e
    exact free c o (fun z => (hch c z).2.2.1 x c e rfl) ho (I.freeC x c e)
  · obtain ⟨e, n, ne, nf, d⟩ := I.pin p hp
    have nch : p.1 ∉ ch := fun z => (hch p.1 z).2.2.2 p hp rfl
    exact ⟨keep p.1 p.2 ne nf nch e n, free p.1 p.2 nch e n, ne, nf, d⟩
theorem Inv.un {t' : Nat} (I : Inv X pins σ H s) (u : Un X.fs [] H H' s.heap h') (hok : HOk X.prog X.w H' h') : Inv X pins σ H' { s with heap := h', toks := t' } := by
  obtain ⟨m, ⟨o, es, ep, ho, r⟩, _⟩ := id I.loc
  obtain ⟨sl, hL⟩ := u.any ho I.free (by simp)
  exact I.step (g' := s.gens) (d' := s.drawn) (ch := []) (fun _ z => nomatch z) (fun b o _ hb _ e n => u.keep b o e n hb (by simp)) (fun b o _ hb _ e n => u.slot b o e n hb (by simp)) (fun b o _ e n => u.free b o e n (by simp)) (fun b o _ e => u.there b o e (by simp)) u.tups u.frzs u.tbls (fun m' hm => by
    obtain ⟨o', es', ep', ho', r'⟩ := hm
    rw [ho] at ho'; cases ho'
    exact ⟨_, es', ep', hL, r'⟩) hok I.bare
theorem Inv.call {g' : Array GenState} {t' : Nat} {d' : Drawn} {ch : List Addr} (I : Inv X pins σ H s) (u : Un (frs X.stack) ch H H' s.heap h') (hok : HOk X.prog X.w H' h') (hg : AllBare g')
    (hch : ∀ b ∈ ch, (b ∈ X.ex ∨ X.s₀.heap.objs.size ≤ b) ∧ b ≠ X.env.locals ∧ (∀ x c, X.env.cells.lookup x = some c → c ≠ b) ∧ ∀ p ∈ X.pn ++ pins, p.1 ≠ b) :
    Inv X pins σ H' { s with heap := h', gens := g', drawn := d', toks := t' } := by
  obtain ⟨m, ⟨o, es, ep, ho, r⟩, _⟩ := id I.loc
  obtain ⟨sl, hL⟩ := u.any ho I.free fun z => (hch _ z).2.1 rfl
  exact I.step (ch := ch) hch (fun b o hL hb hc e n => u.keep b o e n (fun z => (List.mem_cons.mp (I.stkSub b z)).elim hL hb) hc) (fun b o _ _ hc e n => u.any e n hc) (fun b o hc e n => u.free b o e n hc) (fun b o hc e => u.there b o e hc) u.tups u.frzs u.tbls (fun m' hm => by
    obtain ⟨o', es', ep', ho', r'⟩ := hm
    rw [ho] at ho'; cases ho'
    exact ⟨_, es', ep', hL, r'⟩) hok hg
theorem Inv.turned {t' : Nat} {it : Addr} (I : Inv X pins σ H s) (k : ∀ b o, b ≠ it → s.heap.get? b = some o → h'.get? b = some o) (hn : H it = none) (hL : it ≠ X.env.locals)
    (h1 : it ∈ X.ex ∨ X.s₀.heap.objs.size ≤ it) (h2 : ∀ x c, X.env.cells.lookup x = some c → c ≠ it) (h3 : ∀ p ∈ X.pn ++ pins, p.1 ≠ it) : Inv X pins σ H { s with heap := h', toks := t' } := by
  have nit : ∀ b u, H b = some u → b ≠ it := fun b u e z => by rw [z, hn] at e; cases e
  refine I.step (g' := s.gens) (d' := s.drawn) (ch := [it]) (fun b hb => ?_) (fun b o _ _ hc e _ => k b o (fun z => hc (by simp [z])) e) (fun b o _ _ hc e _ => ⟨o.slots, k b o (fun z => hc (by simp [z])) e⟩) (fun _ _ _ _ n => n)
    (fun b o hc e => ⟨o, k b o (fun z => hc (by simp [z])) e⟩) (fun _ _ e => e) (fun _ _ _ e => e) (fun b ps e => ⟨#[], by rw [e]; simp⟩) (fun m hm => ?_) (fun b u e => ?_) I.bare
  · have e : b = it := by simpa using hb
    subst e
    exact ⟨h1, hL, h2, h3⟩
  · obtain ⟨o, es, ep, ho, r⟩ := hm
    exact ⟨o, es, ep, k _ o (Ne.symm hL) ho, r⟩
  · refine (I.hok b u e).stay (fun c v hc q => k c v ?_ q) (fun _ q => q) fun _ _ q => q
    rcases hc with z | z
    · rw [z]; exact nit b u e
    · exact nit c _ z
theorem Inv.tok (I : Inv X pins σ H s) (t : Nat) : Inv X pins σ H { s with toks := t } := I.un (h' := s.heap) (t' := t) Un.refl I.hok
theorem Inv.kept {t' : Nat} (I : Inv X pins σ H s) (k : ∀ b u, s.heap.get? b = some u → h'.get? b = some u) : Inv X pins σ H { s with heap := h', toks := t' } := I.un (Un.kept k) (I.hok.kept k)
theorem Inv.laid {a : Addr} {o : HO} {t' : Nat} (I : Inv X pins σ H s) (k : ∀ b u, s.heap.get? b = some u → h'.get? b = some u) (hp : s.heap.objs.size ≤ a) (new : ObjOk X.prog X.w (upd H a o) h' a o) :
    Inv X pins σ (upd H a o) { s with heap := h', toks := t' } := I.un (Un.laid k hp (I.hok.fresh hp)) (I.hok.laid k hp new)
theorem Inv.write {x e : Addr} {o : HO} {t' : Nat} (I : Inv X pins σ H s) (mu : Mut (H x)) (he : e = x ∨ H e = some (.own x)) (k : ∀ b u, b ≠ e → s.heap.get? b = some u → h'.get? b = some u) (heo : ∃ u, h'.get? e = some u)
    (new : ObjOk X.prog X.w (upd H x o) h' x o) : Inv X pins σ (upd H x o) { s with heap := h', toks := t' } := I.un (Un.write mu he k heo) (I.hok.write mu he k heo new)
theorem Inv.pins_of {pins' : List (Addr × Obj)} (I : Inv X pins σ H s) (h : ∀ p ∈ pins', s.heap.get? p.1 = some p.2 ∧ H p.1 = none ∧ p.1 ≠ X.env.locals ∧ p.1 ∉ X.fs ∧ ∀ v, p.2.data ≠ .cell v) : Inv X pins' σ H s :=
  ⟨I.ok, I.os, I.bare, I.base, I.loc, I.cell, I.free, I.freeC, fun p hp => (List.mem_append.mp hp).elim (fun z => I.pin p (List.mem_append_left _ z)) (h p), I.hok, I.len⟩
theorem nodup_ix {N : List Str} (hN : N.Nodup) {i j : Nat} {x : Str} (a : N[i]? = some x) (b : N[j]? = some x) : i = j := by
  obtain ⟨h1, e1⟩ := List.getElem?_eq_some_iff.mp a
  obtain ⟨h2, e2⟩ := List.getElem?_eq_some_iff.mp b
  exact (List.getElem_inj hN).mp (e1.trans e2.symm)
theorem store_ok2 {M : Model} {A : Around} {E : Value → Shared → Prop} {i : Nat} {x : Str} {v : V} {u : Value} {Q : Unit → Shared → Prop} (I : Inv X pins σ H s) (hN : X.N.Nodup) (hi : X.N[i]? = some x) (hx : Loc X.env.scope x) (r : RelV v u)
    (h : ∀ s', Inv X pins (σ.set i (some v)) H s' → (∃ a, Heap.SameBut a s.heap s'.heap ∧ (a = X.env.locals ∨ X.env.cells.lookup x = some a)) → Q () s') (hf : X.fn x = true ∨ X.env.scope.names.lookup x = some .local := by first | exact .inl rfl | exact .inr rfl | assumption) : wpAny M A (storeName X.env x u) Q E s := by
  obtain ⟨m, hn, hl⟩ := id I.loc
  have hcls : (X.env.scope.kind == .class || (X.env.scope.kind == .module && X.env.locals != X.env.globals)) = false := by rw [I.ok.kind]; rfl
  have hiσ : i < σ.length := by rw [I.len]; exact (List.getElem?_eq_some_iff.mp hi).1
  have cne := I.cne
  have tracked : ∀ {a : Addr} {h' : Heap}, (∃ o, s.heap.get? a = some o ∧ H a = none) → Heap.SameBut a s.heap h' → HOk X.prog X.w H h' := fun {a h'} ha hs b ob e => by
    obtain ⟨_, _, hfree⟩ := ha
    refine (I.hok b ob e).stay (fun c w' hc q => (hs.2 c ?_).trans q) (fun _ q => q) fun _ _ q => q
    rintro rfl
    rcases hc with rfl | hc
    · rw [hfree] at e; cases e
    · rw [hfree] at hc; cases hc
  rcases hx with hk | hk
  · refine wpAny_storeName_local hk hn (fun h' hn' hs => ?_) hcls
    obtain ⟨oL, _, _, hoL, _⟩ := id hn
    refine h _ ⟨I.ok, I.os, I.bare, ⟨fun b o e n hb hx => ?_, fun b o e n hb hx => ?_, I.base.free, fun b o e hx => ?_, I.base.tups, I.base.frzs, I.base.tbls⟩, ⟨_, hn', fun j y v' e1 e2 e3 => ?_⟩, fun y c e => ?_, I.free, I.freeC, fun p hp => ?_, tracked ⟨oL, hoL, I.free⟩ hs, by simpa using I.len⟩ ⟨_, hs, .inl rfl⟩
    · exact (hs.2 b (Nat.ne_of_lt (Nat.lt_of_lt_of_le (Heap.lt_size e) I.ok.above))).trans (I.base.keep b o e n hb hx)
    · obtain ⟨sl, e1⟩ := I.base.slot b o e n hb hx
      exact ⟨sl, (hs.2 b (Nat.ne_of_lt (Nat.lt_of_lt_of_le (Heap.lt_size e) I.ok.above))).trans e1⟩
    · obtain ⟨o', e1⟩ := I.base.there b o e hx
      exact ⟨o', (hs.2 b (Nat.ne_of_lt (Nat.lt_of_lt_of_le (Heap.lt_size e) I.ok.above))).trans e1⟩
    · by_cases hj : j = i
      · subst hj
        rw [hi] at e1; cases e1
        rw [List.getElem?_set_self hiσ] at e2
        cases e2
        exact ⟨u, r, .inl ⟨hk, by simp⟩⟩
      · rw [List.getElem?_set_ne (Ne.symm hj)] at e2
        obtain ⟨u', r', q⟩ := hl j y v' e1 e2 e3
        refine ⟨u', r', ?_⟩
        rcases q with ⟨k, e⟩ | ⟨k, c, e, z⟩
        · refine .inl ⟨k, ?_⟩
          have : y ≠ x := fun e => hj (nodup_ix hN e1 (e ▸ hi))
          simp [this, e]
        · exact .inr ⟨k, c, e, z.sameBut hs (cne y c e)⟩
    · obtain ⟨w', z⟩ := I.cell y c e
      exact ⟨w', z.sameBut hs (cne y c e)⟩
    · obtain ⟨e, n, ne, nf, d⟩ := I.pin p hp
      exact ⟨(hs.2 p.1 ne).trans e, n, ne, nf, d⟩
  · have hfn : X.fn x = true := by
      rcases hf with z | z
      · exact z
      · rw [z] at hk; cases hk
    obtain ⟨c, hc⟩ := I.ok.has x (.inl hk)
    obtain ⟨w', z⟩ := I.cell x c hc
    refine wpAny_storeName_cell I.ok.kind hk hc z (fun h' hc' hs => ?_)
    obtain ⟨oc, hoc, hocd⟩ := id z
    refine h { s with heap := h' } ⟨I.ok, I.os, I.bare, ⟨fun b o e n hb hx => ?_, fun b o e n hb hx => ?_, I.base.free, fun b o e hx => ?_, I.base.tups, I.base.frzs, I.base.tbls⟩, ⟨m, hn.sameBut hs (Ne.symm (cne x c hc)), fun j y v' e1 e2 e3 => ?_⟩, fun y c' e => ?_, I.free, I.freeC, fun p hp => ?_, tracked ⟨oc, hoc, I.freeC x c hc⟩ hs, by simpa using I.len⟩ ⟨c, hs, .inr hc⟩
    · exact (hs.2 b (Nat.ne_of_lt (Nat.lt_of_lt_of_le (Heap.lt_size e) (I.ok.cab x c hfn hc)))).trans (I.base.keep b o e n hb hx)
    · obtain ⟨sl, e1⟩ := I.base.slot b o e n hb hx
      exact ⟨sl, (hs.2 b (Nat.ne_of_lt (Nat.lt_of_lt_of_le (Heap.lt_size e) (I.ok.cab x c hfn hc)))).trans e1⟩
    · obtain ⟨o', e1⟩ := I.base.there b o e hx
      exact ⟨o', (hs.2 b (Nat.ne_of_lt (Nat.lt_of_lt_of_le (Heap.lt_size e) (I.ok.cab x c hfn hc)))).trans e1⟩
    · by_cases hj : j = i
      · subst hj
        rw [hi] at e1; cases e1
        rw [List.getElem?_set_self hiσ] at e2
        cases e2
        exact ⟨u, r, .inr ⟨.inl hk, c, hc, hc'⟩⟩
      · rw [List.getElem?_set_ne (Ne.symm hj)] at e2
        obtain ⟨u', r', q⟩ := hl j y v' e1 e2 e3
        refine ⟨u', r', ?_⟩
        rcases q with q | ⟨k, c', e, z'⟩
        · exact .inl q
        · refine .inr ⟨k, c', e, z'.sameBut hs ?_⟩
          rintro rfl
          exact hj (nodup_ix hN e1 (I.ok.inj _ _ _ e hc ▸ hi))
    · by_cases hcc : c' = c
      · subst hcc; exact ⟨_, hc'⟩
      · obtain ⟨w2, z2⟩ := I.cell y c' e
        exact ⟨w2, z2.sameBut hs hcc⟩
    · obtain ⟨e, n, ne, nf, d⟩ := I.pin p hp
      refine ⟨(hs.2 p.1 ?_).trans e, n, ne, nf, d⟩
      intro q
      rw [q, hoc] at e
      have q' : oc = p.2 := Option.some.inj e
      exact d w' (by rw [← q']; exact hocd)
theorem store_ok {M : Model} {A : Around} {E : Value → Shared → Prop} {i : Nat} {x : Str} {v : V} {u : Value} {Q : Unit → Shared → Prop} (I : Inv X pins σ H s) (hN : X.N.Nodup) (hi : X.N[i]? = some x) (hx : Loc X.env.scope x) (r : RelV v u)
    (h : ∀ s', Inv X pins (σ.set i (some v)) H s' → Q () s') (hf : X.fn x = true ∨ X.env.scope.names.lookup x = some .local := by first | exact .inl rfl | exact .inr rfl | assumption) : wpAny M A (storeName X.env x u) Q E s :=
  store_ok2 I hN hi hx r (fun s' I' _ => h s' I') hf
theorem Inv.call' {s' : Shared} {ch : List Addr} (I : Inv X pins σ H s) (ho : s'.os = s.os) (u : Un (frs X.stack) ch H H' s.heap s'.heap) (hok : HOk X.prog X.w H' s'.heap) (hg : AllBare s'.gens)
    (hch : ∀ b ∈ ch, (b ∈ X.ex ∨ X.s₀.heap.objs.size ≤ b) ∧ b ≠ X.env.locals ∧ (∀ x c, X.env.cells.lookup x = some c → c ≠ b) ∧ ∀ p ∈ X.pn ++ pins, p.1 ≠ b) : Inv X pins σ H' s' := by
  obtain ⟨h', g', d', t', o'⟩ := s'
  have e : o' = s.os := ho
  subst e
  exact I.call (g' := g') (t' := t') (d' := d') u hok hg hch
end
abbrev XK := Value → Option Addr → Hp → Prop
abbrev St := List (Option V)
abbrev VK := V → Hp → Prop
abbrev TE := St → Hp → VK → Prop
abbrev TT := St → Hp → (Bool → Hp → Prop) → Prop
abbrev TA := St → Hp → (List V → Hp → Prop) → Prop
structure Ends where
  nx : St → Hp → Prop
  rt : VK
  bk : St → Hp → Prop := fun _ _ => False
  ct : St → Hp → Prop := fun _ _ => False
abbrev TS := Ends → St → Hp → Prop
def EP (X : Cx) (pins : List (Addr × Obj)) (σ : St) (Q : VK) (u : Value) (s' : Shared) : Prop := ∃ v H', Inv X pins σ H' s' ∧ RelV v u ∧ Q v H'
def TP (X : Cx) (pins : List (Addr × Obj)) (σ : St) (Q : Bool → Hp → Prop) (b : Bool) (s' : Shared) : Prop := ∃ H', Inv X pins σ H' s' ∧ Q b H'
def AP (X : Cx) (pins : List (Addr × Obj)) (σ : St) (Q : List V → Hp → Prop) (us : List Value) (s' : Shared) : Prop := ∃ vs H', Inv X pins σ H' s' ∧ Vals vs us ∧ Q vs H'
def SP (X : Cx) (pins : List (Addr × Obj)) (D : Ends) (f : Flow) (s' : Shared) : Prop :=
  match f with
  | .next => ∃ σ' H', Inv X pins σ' H' s' ∧ D.nx σ' H'
  | .brk => ∃ σ' H', Inv X pins σ' H' s' ∧ D.bk σ' H'
  | .cont => ∃ σ' H', Inv X pins σ' H' s' ∧ D.ct σ' H'
  | .ret u => ∃ v σ' H', Inv X pins σ' H' s' ∧ RelV v u ∧ D.rt v H'
def PE (X : Cx) (e : Expr) (t : TE) : Prop :=
  ∀ (pins : List (Addr × Obj)) (s : Shared) (σ : St) (H : Hp) (Q : VK), Inv X pins σ H s → t σ H Q → wpAny (model X.prog X.w) X.A (eval e X.env) (EP X pins σ Q) X.xe s
def PT (X : Cx) (e : Expr) (t : TT) : Prop :=
  ∀ (pins : List (Addr × Obj)) (s : Shared) (σ : St) (H : Hp) (Q : Bool → Hp → Prop), Inv X pins σ H s → t σ H Q → wpAny (model X.prog X.w) X.A (isTrue e X.env (eval e X.env)) (TP X pins σ Q) X.xe s
def PW (X : Cx) (e : Expr) (t : TT) : Prop :=
  ∀ (whole : Sem Value) (pins : List (Addr × Obj)) (s : Shared) (σ : St) (H : Hp) (Q : Bool → Hp → Prop), Inv X pins σ H s → t σ H Q → wpAny (model X.prog X.w) X.A (isTrue e X.env whole) (TP X pins σ Q) X.xe s
theorem PW.pt {X : Cx} {e : Expr} {t : TT} (h : PW X e t) : PT X e t := h _
def PA (X : Cx) (es : List Expr) (t : TA) : Prop :=
  ∀ (pos : Pos) (pins : List (Addr × Obj)) (s : Shared) (σ : St) (H : Hp) (Q : List V → Hp → Prop), Inv X pins σ H s → t σ H Q → wpAny (model X.prog X.w) X.A (spliced (backTo pos (starEach es X.env))) (AP X pins σ Q) X.xe s
def PS (X : Cx) (st : Stmt) (t : TS) : Prop :=
  ∀ (pins : List (Addr × Obj)) (s : Shared) (σ : St) (H : Hp) (D : Ends), Inv X pins σ H s → t D σ H → wpAny (model X.prog X.w) X.A (exec st X.env) (SP X pins D) X.xe s
def PSs (X : Cx) (st : List Stmt) (t : TS) : Prop :=
  ∀ (pins : List (Addr × Obj)) (s : Shared) (σ : St) (H : Hp) (D : Ends), Inv X pins σ H s → t D σ H → wpAny (model X.prog X.w) X.A (execs st X.env) (SP X pins D) X.xe s
theorem thn {α : Type} {t : Sem α} {Q Q' : α → Shared → Prop} {M : Model} {A : Around} {E : Value → Shared → Prop} {s : Shared} (h : wpAny M A t Q E s) (hQ : ∀ a s, Q a s → Q' a s) : wpAny M A t Q' E s := wpAny_mono h hQ fun _ _ x => x
end L2
namespace L2
open PySem PySem.Spec PyProof.Rows
section
variable {X : Cx}
def tVar (i : Nat) : TE := fun σ H Q => ∃ v, σ[i]? = some (some v) ∧ Q v H
def tC (v : V) : TE := fun _ H Q => Q v H
theorem pe_var {i : Nat} {x : Str} {pos : Pos} (hN : X.N[i]? = some x) (hv : Vis X.env.scope x) (hd : (x == ("__debug__" : Str)) = false := by decide) (hcd : (x == ("__classdict__" : Str)) = false := by decide) : PE X (.Name x pos) (tVar i) := by
  intro pins s σ H Q I h
  obtain ⟨v, e, h⟩ := h
  obtain ⟨m, hn, hl⟩ := I.loc
  obtain ⟨u, r, l⟩ := hl i x v hN e hv
  have fin : EP X pins σ Q u s := ⟨v, H, I, r, h⟩
  rcases l with ⟨hk, hm⟩ | ⟨hk, c, hc, hcell⟩
  · exact wpAny_Name (wpAny_loadName_local I.ok.kind hk hn hm fin) hd
  · rcases hk with hk | hk
    · exact wpAny_Name (wpAny_loadName_cell I.ok.kind hk hc hcell fin) hd
    · exact wpAny_Name (wpAny_loadName_free I.ok.kind hk hc hcell fin hcd) hd
theorem pe_int {i j pos} : PE X (.Constant (.int i) j pos) (tC (.int i)) := fun _ _ _ H _ I h => wpAny_Constant_int ⟨.int i, H, I.tok _, ⟨_, rfl⟩, h⟩
theorem pe_bl {b j pos} : PE X (.Constant (.bool b) j pos) (tC (.bl b)) := fun _ _ _ H _ I h => Constant_bool ⟨.bl b, H, I, rfl, h⟩
theorem pe_non {j pos} : PE X (.Constant .none j pos) (tC .non) := fun _ _ _ H _ I h => Constant_none ⟨.non, H, I, rfl, h⟩
theorem pe_str {x j pos} : PE X (.Constant (.str x) j pos) (tC (.str x)) := fun _ _ _ H _ I h => Calls.Constant_str ⟨.str x, H, I.tok _, ⟨_, rfl⟩, h⟩
def Gl (X : Cx) (x : Str) : Prop := X.env.kindOf x = some .globalImplicit
theorem ld_glob {E : Value → Shared → Prop} {pins : List (Addr × Obj)} {s : Shared} {σ : St} {H : Hp} {x : Str} {u : Value} {pos : Pos} {Q : Value → Shared → Prop} (I : Inv X pins σ H s) (hg : Gl X x) (hm : X.mg x = some u) (h : Q u s)
    (hd : (x == ("__debug__" : Str)) = false := by decide) : wpAny (model X.prog X.w) X.A (eval (.Name x pos) X.env) Q E s :=
  Calls.Name_function_global I.ok.kind hg (Calls.loadGlobal_global (by rw [I.ok.glob]; exact I.mod.glob.keeps I.bk) hm h) hd
theorem ld_blt {E : Value → Shared → Prop} {pins : List (Addr × Obj)} {s : Shared} {σ : St} {H : Hp} {x : Str} {u : Value} {pos : Pos} {Q : Value → Shared → Prop} (I : Inv X pins σ H s) (hg : Gl X x) (hm : X.mg x = none) (hv : bootBuiltins x = some u) (h : Q u s)
    (hn : x ≠ "__name__" := by decide) (hd : (x == ("__debug__" : Str)) = false := by decide) : wpAny (model X.prog X.w) X.A (eval (.Name x pos) X.env) Q E s := by
  obtain ⟨mb, h1, h2⟩ := I.mod.blt
  exact Calls.Name_function_global I.ok.kind hg (Calls.loadGlobal_builtin (by rw [I.ok.glob]; exact I.mod.glob.keeps I.bk) hm (by rw [I.ok.blt]; exact h1.keeps I.bk) ((h2 x hn).trans hv) h) hd
theorem pe_glob {x : Str} {v : V} {u : Value} {pos : Pos} (hg : Gl X x) (hm : X.mg x = some u) (r : RelV v u) (hd : (x == ("__debug__" : Str)) = false := by decide) : PE X (.Name x pos) (tC v) :=
  fun _ _ _ H _ I h => ld_glob I hg hm ⟨v, H, I, r, h⟩ hd
theorem pe_bltn {x : Str} {v : V} {u : Value} {pos : Pos} (hg : Gl X x) (hm : X.mg x = none) (hv : bootBuiltins x = some u) (r : RelV v u) (hn : x ≠ "__name__" := by decide) (hd : (x == ("__debug__" : Str)) = false := by decide) : PE X (.Name x pos) (tC v) :=
  fun _ _ _ H _ I h => ld_blt I hg hm hv ⟨v, H, I, r, h⟩ hn hd
variable {a b : Expr} {ta tb : TE} {pos : Pos}
def PC (X : Cx) (op : CmpOp) (a b : Expr) (t : TE) : Prop :=
  ∀ (pins : List (Addr × Obj)) (s : Shared) (σ : St) (H : Hp) (Q : VK), Inv X pins σ H s → t σ H Q →
    wpAny (model X.prog X.w) X.A (eval a X.env) (fun v s₁ => wpAny (model X.prog X.w) X.A (eval b X.env) (fun u s₂ => wpAny (model X.prog X.w) X.A (compareOp op v u) (EP X pins σ Q) X.xe s₂) X.xe s₁) X.xe s
def tB (t : TE) : TT := fun σ H Q => t σ H fun x H1 => ∃ c, x = .bl c ∧ Q c H1
theorem pt_cmp {op : CmpOp} {t : TE} (h : PC X op a b t) (h1 : behindInMarks op b = false := by first | exact nobehind _ (by decide) (by decide) | rfl) : PT X (.Compare a [op] [b] pos) (tB t) := by
  intro pins s σ H Q I hw
  refine wpAny_isTrue_Compare1 (thn (h pins s σ H _ I hw) fun v s1 h1 => thn h1 fun u s2 h2 => thn h2 fun c s3 ⟨x, H1, I1, r1, q1⟩ => ?_) h1
  obtain ⟨d, rfl, q⟩ := q1
  cases r1
  exact wpAny_truthy_bool ⟨H1, I1, q⟩
theorem pt_val {e : Expr} {t : TE} (h : PE X e t) (he : ∀ whole, isTrue e X.env whole = (do let v ← whole; standAt e.pos; holding [v] (truthy v)) := by intro _; rfl) : PT X e (tB t) := by
  intro pins s σ H Q I hw
  refine isTrue_plain (thn (h pins s σ H _ I hw) fun v s1 ⟨x, H1, I1, r1, q1⟩ => ?_) (he _)
  obtain ⟨d, rfl, q⟩ := q1
  cases r1
  exact wpAny_truthy_bool ⟨H1, I1, q⟩
variable {tA tB' : TT} {rest : List Expr}
def tAnd (t u : TT) : TT := fun σ H Q => t σ H fun c H1 => if c = true then u σ H1 Q else Q false H1
def tOr (t u : TT) : TT := fun σ H Q => t σ H fun c H1 => if c = true then Q true H1 else u σ H1 Q
def tNot (t : TT) : TT := fun σ H Q => t σ H fun c H1 => Q (!c) H1
theorem pw_and1 (ha : PT X a tA) : PW X (.BoolOp .And [a] pos) tA := by
  intro wh pins s σ H Q I h
  refine isTrue_and (thn (ha pins s σ H Q I h) fun c s1 e => ?_)
  cases c with
  | true => exact isTrue_and_nil e
  | false => exact e
theorem pw_or1 (ha : PT X a tA) : PW X (.BoolOp .Or [a] pos) tA := by
  intro wh pins s σ H Q I h
  refine isTrue_or (thn (ha pins s σ H Q I h) fun c s1 e => ?_)
  cases c with
  | false => exact isTrue_or_nil e
  | true => exact e
theorem pw_and (ha : PT X a tA) (hb : PW X (.BoolOp .And (b :: rest) pos) tB') : PW X (.BoolOp .And (a :: b :: rest) pos) (tAnd tA tB') := by
  intro wh pins s σ H Q I h
  refine isTrue_and (thn (ha pins s σ H _ I h) fun c s1 ⟨H1, I1, q1⟩ => ?_)
  cases c with
  | true => exact hb wh pins s1 σ H1 Q I1 q1
  | false => exact ⟨H1, I1, q1⟩
theorem pw_or (ha : PT X a tA) (hb : PW X (.BoolOp .Or (b :: rest) pos) tB') : PW X (.BoolOp .Or (a :: b :: rest) pos) (tOr tA tB') := by
  intro wh pins s σ H Q I h
  refine isTrue_or (thn (ha pins s σ H _ I h) fun c s1 ⟨H1, I1, q1⟩ => ?_)
  cases c with
  | true => exact ⟨H1, I1, q1⟩
  | false => exact hb wh pins s1 σ H1 Q I1 q1
theorem pt_not (ha : PT X a tA) : PT X (.UnaryOp .Not a pos) (tNot tA) := by
  intro pins s σ H Q I h
  exact isTrue_not (ha pins s σ H (fun c H1 => Q (!c) H1) I h)
def tAndV (ta tb : TE) : TE := fun σ H Q => ta σ H fun x H1 => ∃ c, x = .bl c ∧ if c = true then tb σ H1 Q else Q (.bl false) H1
def tOrV (ta tb : TE) : TE := fun σ H Q => ta σ H fun x H1 => ∃ c, x = .bl c ∧ if c = true then Q (.bl true) H1 else tb σ H1 Q
def tNotV (ta : TE) : TE := fun σ H Q => ta σ H fun x H1 => ∃ c, x = .bl c ∧ Q (.bl (!c)) H1
theorem pe_one {op} {t : TE} (h : PE X a t) : PE X (.BoolOp op [a] pos) t := fun pins s σ H Q I hw => BoolOp_one (h pins s σ H Q I hw)
theorem pe_and (ha : PE X a ta) (hb : PE X (.BoolOp .And (b :: rest) pos) tb) : PE X (.BoolOp .And (a :: b :: rest) pos) (tAndV ta tb) := by
  intro pins s σ H Q I h
  refine BoolOp_and (thn (ha pins s σ H _ I h) fun v s1 ⟨x, H1, I1, r1, q1⟩ => ?_)
  obtain ⟨c, rfl, q1⟩ := q1
  cases r1
  refine wpAny_truthy_bool ?_
  cases c with
  | true => exact hb pins s1 σ H1 Q I1 q1
  | false => exact ⟨.bl false, H1, I1, rfl, q1⟩
theorem pe_or (ha : PE X a ta) (hb : PE X (.BoolOp .Or (b :: rest) pos) tb) : PE X (.BoolOp .Or (a :: b :: rest) pos) (tOrV ta tb) := by
  intro pins s σ H Q I h
  refine BoolOp_or (thn (ha pins s σ H _ I h) fun v s1 ⟨x, H1, I1, r1, q1⟩ => ?_)
  obtain ⟨c, rfl, q1⟩ := q1
  cases r1
  refine wpAny_truthy_bool ?_
  cases c with
  | false => exact hb pins s1 σ H1 Q I1 q1
  | true => exact ⟨.bl true, H1, I1, rfl, q1⟩
theorem pe_not (ha : PE X a ta) : PE X (.UnaryOp .Not a pos) (tNotV ta) := by
  intro pins s σ H Q I h
  refine UnaryOp_ (thn (ha pins s σ H _ I h) fun v s1 ⟨x, H1, I1, r1, q1⟩ => ?_)
  obtain ⟨c, rfl, q1⟩ := q1
  cases r1
  exact not_of (wpAny_truthy_bool ⟨.bl (!c), H1, I1, rfl, q1⟩)
def tIf (t : TT) (ta tb : TE) : TE := fun σ H Q => t σ H fun c H1 => if c = true then ta σ H1 Q else tb σ H1 Q
theorem pe_ifExp {c : Expr} (hc : PT X c tA) (ha : PE X a ta) (hb : PE X b tb) : PE X (.IfExp c a b pos) (tIf tA ta tb) := by
  intro pins s σ H Q I h
  refine wpAny_IfExp (thn (hc pins s σ H _ I h) fun d s1 ⟨H1, I1, q1⟩ => ?_)
  cases d with
  | true => exact ha pins s1 σ H1 Q I1 q1
  | false => exact hb pins s1 σ H1 Q I1 q1
end
end L2
namespace L2
open PySem PySem.Spec PyProof.Rows
def SqL (K : PySem.W.Frag) (H : Hp) (a : Addr) (xs : List V) : Prop :=
  Rd H a (.lst xs) ∨
    ∃ (o : Obj) (its : Array Value) (n : Nat), K.lookup a = some o ∧ o.cls = .type "list" ∧ o.dict = none ∧ o.data = .seq its n ∧ its.size ≤ sizeLine ∧ Vals xs its.toList
def SqT (K : PySem.W.Frag) (H : Hp) (a : Addr) (xs : List V) : Prop :=
  Rd H a (.tup xs) ∨
    ∃ (o : Obj) (its : Array Value) (n : Nat), K.lookup a = some o ∧ o.cls = .type "tuple" ∧ o.data = .seq its n ∧ its.size ≤ sizeLine ∧ Vals xs its.toList
def absV : Value → Option V
  | .none => some .non
  | .bool b => some (.bl b)
  | .int i _ => some (.int i)
  | .str x _ => some (.str x)
  | .bytes b _ => some (.byt b)
  | .float b _ => some (.flt b)
  | .ref a => some (.ref a)
  | .type n => some (.ty n)
  | _ => none
theorem RelV.abs {x : V} {u : Value} (r : RelV x u) : absV u = some x := by
  cases x with
  | non => cases r; rfl
  | bl _ => cases r; rfl
  | int _ => obtain ⟨t, rfl⟩ := r; rfl
  | str _ => obtain ⟨t, rfl⟩ := r; rfl
  | byt _ => obtain ⟨t, rfl⟩ := r; rfl
  | flt _ => obtain ⟨t, rfl⟩ := r; rfl
  | ref _ => cases r; rfl
  | ty _ => cases r; rfl
theorem RelV.inj {x y : V} {u : Value} (r : RelV x u) (q : RelV y u) : x = y := Option.some.inj (r.abs.symm.trans q.abs)
theorem Vals.inj : ∀ {xs ys : List V} {us : List Value}, Vals xs us → Vals ys us → xs = ys
  | _, _, _, .nil, .nil => rfl
  | _, _, _, .cons r t, .cons r' t' => by rw [r.inj r', Vals.inj t t']
section
variable {X : Cx} {pins : List (Addr × Obj)} {σ : St} {H : Hp} {s : Shared} {a : Addr} {xs ys : List V}
theorem SqL.of {K : PySem.W.Frag} (h : H a = some (.lst xs)) : SqL K H a xs := .inl (.inl h)
theorem SqT.of {K : PySem.W.Frag} (h : H a = some (.tup xs)) : SqT K H a xs := .inl (.inl h)
theorem Inv.list (I : Inv X pins σ H s) (h : SqL X.K H a xs) : ∃ its : List Value, Vals xs its ∧ PlainL s.heap a its.toArray ∧ xs.length ≤ sizeLine := by
  rcases h with h | ⟨o, its, n, hk, hc, hd, hs, hz, r⟩
  · obtain ⟨z, its, n, r, e⟩ := h.ok I.hok
    exact ⟨its, r, ⟨_, n, e, rfl, rfl, rfl⟩, z⟩
  · refine ⟨its.toList, r, ⟨o, n, I.kIn a o hk, hc, hd, by simpa using hs⟩, ?_⟩
    have e := r.length
    simp only [Array.length_toList] at e
    omega
theorem Inv.tuple (I : Inv X pins σ H s) (h : SqT X.K H a xs) : ∃ its : List Value, Vals xs its ∧ IsTup s.heap a its.toArray ∧ xs.length ≤ sizeLine := by
  rcases h with h | ⟨o, its, n, hk, hc, hs, hz, r⟩
  · obtain ⟨z, its, r, p⟩ := h.ok I.hok
    exact ⟨its, r, p, z.1⟩
  · refine ⟨its.toList, r, ⟨o, I.kIn a o hk, hc, n, by simpa using hs⟩, ?_⟩
    have e := r.length
    simp only [Array.length_toList] at e
    omega
theorem Inv.list_inj (I : Inv X pins σ H s) (h : SqL X.K H a xs) (h' : SqL X.K H a ys) : xs = ys := by
  obtain ⟨its, r, ⟨o, n, e, _, _, d⟩, _⟩ := I.list h
  obtain ⟨its', r', ⟨o', n', e', _, _, d'⟩, _⟩ := I.list h'
  rw [e] at e'; cases e'
  rw [d] at d'
  injection d' with d1 _
  have : its = its' := by simpa using congrArg Array.toList d1
  subst this
  exact r.inj r'
theorem Inv.tuple_inj (I : Inv X pins σ H s) (h : SqT X.K H a xs) (h' : SqT X.K H a ys) : xs = ys := by
  obtain ⟨its, r, ⟨o, e, _, n, d⟩, _⟩ := I.tuple h
  obtain ⟨its', r', ⟨o', e', _, n', d'⟩, _⟩ := I.tuple h'
  rw [e] at e'; cases e'
  rw [d] at d'
  injection d' with d1 _
  have : its = its' := by simpa using congrArg Array.toList d1
  subst this
  exact r.inj r'
end
abbrev Cx.wish (X : Cx) (E : Value → Shared → Prop) : Cx := { X with xe := E }
abbrev Cx.nox (X : Cx) : Cx := X.wish fun _ _ => False
theorem Cx.Ok.wish {X : Cx} (ok : X.Ok) (E : Value → Shared → Prop) : (X.wish E).Ok :=
  ⟨ok.mod, ok.kind, ok.glob, ok.blt, ok.above, ok.inj, ok.has, ok.cab, ok.hd, ok.frames, ok.stk, ok.exf, ok.bs, ok.bsz, ok.noex, ok.exfs, ok.funs, ok.frf⟩
theorem Cx.Ok.unwish {X : Cx} {E : Value → Shared → Prop} (ok : (X.wish E).Ok) : X.Ok :=
  ⟨ok.mod, ok.kind, ok.glob, ok.blt, ok.above, ok.inj, ok.has, ok.cab, ok.hd, ok.frames, ok.stk, ok.exf, ok.bs, ok.bsz, ok.noex, ok.exfs, ok.funs, ok.frf⟩
section
variable {X : Cx} {pins : List (Addr × Obj)} {σ : St} {H : Hp} {s : Shared} {E : Value → Shared → Prop}
theorem Inv.wish (I : Inv X pins σ H s) (E : Value → Shared → Prop) : Inv (X.wish E) pins σ H s := ⟨I.ok.wish E, I.os, I.bare, I.base, I.loc, I.cell, I.free, I.freeC, I.pin, I.hok, I.len⟩
theorem Inv.unwish (I : Inv (X.wish E) pins σ H s) : Inv X pins σ H s := ⟨I.ok.unwish, I.os, I.bare, I.base, I.loc, I.cell, I.free, I.freeC, I.pin, I.hok, I.len⟩
theorem SP.unwish {D : Ends} {f : Flow} {s' : Shared} (h : SP (X.wish E) pins D f s') : SP X pins D f s' := by
  cases f with
  | next => obtain ⟨σ', H', I, q⟩ := h; exact ⟨σ', H', I.unwish, q⟩
  | brk => obtain ⟨σ', H', I, q⟩ := h; exact ⟨σ', H', I.unwish, q⟩
  | cont => obtain ⟨σ', H', I, q⟩ := h; exact ⟨σ', H', I.unwish, q⟩
  | ret u => obtain ⟨v, σ', H', I, r, q⟩ := h; exact ⟨v, σ', H', I.unwish, r, q⟩
theorem PSs.nox {st : List Stmt} {t : TS} (h : PSs X.nox st t) : PSs X st t := fun pins s σ H D I hw =>
  wpAny_mono (h pins s σ H D (I.wish _) hw) (fun _ _ q => q.unwish) fun _ _ z => False.elim z
end
section
variable {X : Cx} {st : Stmt} {rest : List Stmt} {t u : TS} {e : Expr} {te : TE} {pos : Pos}
def tNext : TS := fun D σ H => D.nx σ H
def tSeq (t u : TS) : TS := fun D σ H => t { D with nx := u D } σ H
theorem pss_nil : PSs X [] tNext := fun _ _ σ H _ I h => wpAny_execs_nil ⟨σ, H, I, h⟩
theorem pss_cons (h1 : PS X st t) (h2 : PSs X rest u) : PSs X (st :: rest) (tSeq t u) := by
  intro pins s σ H D I h
  refine wpAny_execs_cons (thn (h1 pins s σ H { D with nx := u D } I h) fun f s1 q => ?_)
  cases f with
  | next =>
    obtain ⟨σ', H', I', q⟩ := q
    exact h2 pins s1 σ' H' D I' q
  | ret v => exact q
  | brk => exact q
  | cont => exact q
theorem pss_one (h1 : PS X st t) : PSs X [st] t := by
  intro pins s σ H D I h
  refine wpAny_execs_cons (thn (h1 pins s σ H D I h) fun f s1 q => ?_)
  cases f with
  | next => exact wpAny_execs_nil q
  | ret v => exact q
  | brk => exact q
  | cont => exact q
theorem Inv.quiet {pins : List (Addr × Obj)} {σ : St} {H : Hp} {s : Shared} (I : Inv X pins σ H s) : interactive X.env = false := by simp [interactive, I.ok.kind]
def tDrop (te : TE) : TS := fun D σ H => te σ H fun _ H1 => D.nx σ H1
theorem ps_expr (he : PE X e te) (hs : swapsWith e none pos.line X.env = pure false := by rfl) : PS X (.Expr e pos) (tDrop te) := by
  intro pins s σ H D I h
  exact wpAny_Expr_any (thn (he pins s σ H _ I h) fun v s1 ⟨x, H1, I1, r1, q1⟩ => ⟨σ, H1, I1, q1⟩) I.quiet hs
def tRet (te : TE) : TS := fun D σ H => te σ H D.rt
theorem ps_ret (he : PE X e te) : PS X (.Return (some e) pos) (tRet te) := by
  intro pins s σ H D I h
  exact wpAny_Return_some (thn (he pins s σ H _ I h) fun v s1 ⟨x, H1, I1, r1, q1⟩ => ⟨x, σ, H1, I1, r1, q1⟩)
def tIfS (c : TT) (t u : TS) : TS := fun D σ H => c σ H fun b H1 => if b = true then t D σ H1 else u D σ H1
theorem ps_if {c : Expr} {a b : List Stmt} {tc : TT} (hc : PT X c tc) (ha : PSs X a t) (hb : PSs X b u) : PS X (.If c a b pos) (tIfS tc t u) := by
  intro pins s σ H D I h
  refine wpAny_If (thn (hc pins s σ H _ I h) fun d s1 ⟨H1, I1, q1⟩ => ?_)
  cases d with
  | true => exact ha pins s1 σ H1 D I1 q1
  | false => exact hb pins s1 σ H1 D I1 q1
def tNever : TS := fun _ _ _ => False
theorem ps_never : PS X st tNever := fun _ _ _ _ _ _ h => h.elim
end
abbrev TG := V → St → Hp → (St → Hp → Prop) → Prop
abbrev TGs := List V → St → Hp → (St → Hp → Prop) → Prop
def PG (X : Cx) (target : Expr) (t : TG) : Prop :=
  ∀ (pins : List (Addr × Obj)) (s : Shared) (σ : St) (H : Hp) (v : V) (u : Value) (Q : St → Hp → Prop), Inv X pins σ H s → RelV v u → t v σ H Q →
    wpAny (model X.prog X.w) X.A (assign target X.env u) (fun _ s' => ∃ σ' H', Inv X pins σ' H' s' ∧ Q σ' H') X.xe s
def PGs (X : Cx) (ts : List Expr) (t : TGs) : Prop :=
  ∀ (pins : List (Addr × Obj)) (s : Shared) (σ : St) (H : Hp) (vs : List V) (us : List Value) (Q : St → Hp → Prop), Inv X pins σ H s → Vals vs us → t vs σ H Q →
    wpAny (model X.prog X.w) X.A (assignInOrder ((assignEach ts X.env).map (·.2)) us) (fun _ s' => ∃ σ' H', Inv X pins σ' H' s' ∧ Q σ' H') X.xe s
abbrev TSet := V → V → V → Hp → (Hp → Prop) → Prop
def PSet (X : Cx) (t : TSet) : Prop :=
  ∀ (pins : List (Addr × Obj)) (s : Shared) (σ : St) (H : Hp) (o i v : V) (ov iv u : Value) (Q : Hp → Prop), Inv X pins σ H s → RelV o ov → RelV i iv → RelV v u → t o i v H Q →
    wpAny (model X.prog X.w) X.A (setItem ov iv u) (fun _ s' => ∃ H', Inv X pins σ H' s' ∧ Q H') X.xe s
section
variable {X : Cx} {pos : Pos}
def gName (i : Nat) : TG := fun v σ H Q => Q (σ.set i (some v)) H
theorem pg_name {i : Nat} {x : Str} (hN : X.N.Nodup) (hi : X.N[i]? = some x) (hx : Loc X.env.scope x) (hf : X.fn x = true ∨ X.env.scope.names.lookup x = some .local := by first | exact .inl rfl | exact .inr rfl | assumption) : PG X (.Name x pos) (gName i) := by
  intro pins s σ H v u Q I r h
  exact wpAny_assign_Name (store_ok I hN hi hx r (fun s' I' => ⟨_, H, I', h⟩) hf)
def gNil : TGs := fun vs σ H Q => vs = [] ∧ Q σ H
def gCons (t : TG) (u : TGs) : TGs := fun vs σ H Q => ∃ v r, vs = v :: r ∧ t v σ H fun σ' H' => u r σ' H' Q
theorem pgs_nil : PGs X [] gNil := by
  intro pins s σ H vs us Q I r h
  obtain ⟨e, h⟩ := h
  subst e
  cases r
  exact assignInOrder_nil ⟨σ, H, I, h⟩
theorem pgs_cons {e : Expr} {es : List Expr} {t : TG} {u : TGs} (h1 : PG X e t) (h2 : PGs X es u)
    (hs : (assignEach (e :: es) X.env).map (·.2) = assign e X.env :: (assignEach es X.env).map (·.2) := by rfl) : PGs X (e :: es) (gCons t u) := by
  intro pins s σ H vs us Q I r h
  obtain ⟨v, vr, e1, h⟩ := h
  subst e1
  cases r with
  | cons r rr =>
    rw [hs]
    refine assignInOrder_cons (thn (h1 pins s σ H _ _ _ I r h) fun _ s1 ⟨σ1, H1, I1, q1⟩ => ?_)
    exact h2 pins s1 σ1 H1 _ _ Q I1 rr q1
def gTup (K : PySem.W.Frag) (n : Nat) (t : TGs) : TG := fun v σ H Q => ∃ a xs, v = .ref a ∧ SqT K H a xs ∧ xs.length = n ∧ t xs σ H Q
theorem pg_tup {es : List Expr} {k : Nat} {t : TGs} {n : Nat} (hc : X.calm = true) (h : PGs X es t)
    (hn : (assignEach es X.env).length = n := by rfl) (hst : (assignEach es X.env).findIdx? (·.1) = none := by rfl) : PG X (.Tuple es k pos) (gTup X.K n t) := by
  intro pins s σ H v u Q I r hw
  obtain ⟨a, xs, e1, hq, hl, hw⟩ := hw
  subst e1
  cases r
  obtain ⟨its, rv, ht, hz⟩ := I.tuple hq
  refine assign_Tuple_tuple (I.ok.hd hc) ht (by simp [hn, ← hl, rv.length]) hst fun h' hx => ?_
  have I1 : Inv X pins σ H { s with heap := h' } := I.kept (t' := s.toks) fun b o e => hx b o (Nat.ne_of_lt (Heap.lt_size e)) e
  exact h pins _ σ H xs _ Q I1 (by simpa using rv) hw
def gSub (to ti : TE) (t : TSet) : TG := fun v σ H Q => to σ H fun o H1 => ti σ H1 fun i H2 => t o i v H2 fun H3 => Q σ H3
theorem pg_sub {o i : Expr} {to ti : TE} {t : TSet} (ho : PE X o to) (hi : PE X i ti) (hs : PSet X t)
    (ha : ∀ v, assign (.Subscript o i pos) X.env v = (do
      let ov ← holding [v] (eval o X.env)
      let iv ← holding [v, ov] (eval i X.env)
      standAt pos
      holding [v, ov, iv] (setItem ov iv v)
      release [v, ov, iv] []) := by intro _; rfl) : PG X (.Subscript o i pos) (gSub to ti t) := by
  intro pins s σ H v u Q I r h
  rw [ha]
  refine wpAny_bind (wpAny_holding (thn (ho pins s σ H _ I h) fun ov s1 ⟨x, H1, I1, r1, q1⟩ => ?_))
  refine wpAny_bind (wpAny_holding (thn (hi pins s1 σ H1 _ I1 q1) fun iv s2 ⟨y, H2, I2, r2, q2⟩ => ?_))
  refine wpAny_bind (wpAny_standAt (wpAny_bind (wpAny_holding (thn (hs pins s2 σ H2 x y v ov iv u _ I2 r1 r2 r q2) fun _ s3 ⟨H3, I3, q3⟩ => ?_))))
  exact wpAny_release ⟨σ, H3, I3, q3⟩
def tAsg (te : TE) (g : TG) : TS := fun D σ H => te σ H fun x H1 => g x σ H1 D.nx
theorem ps_asg {tg e : Expr} {te : TE} {g : TG} (he : PE X e te) (hg : PG X tg g) (hs : swapsWithSole [tg] e pos.line X.env = pure false := by rfl) (hw : swappedStores [tg] e X.env = pure none := by rfl)
    (h1 : (assignEach [tg] X.env).map (·.2) = [assign tg X.env] := by rfl) : PS X (.Assign [tg] e pos) (tAsg te g) := by
  intro pins s σ H D I h
  refine wpAny_Assign_stores (thn (he pins s σ H _ I h) fun v s1 ⟨x, H1, I1, r1, q1⟩ => ?_) hs hw
  rw [h1]
  exact thn (hg pins s1 σ H1 x v _ I1 r1 q1) fun _ s2 q => q
theorem ps_set {i : Nat} {x : Str} {e : Expr} {te : TE} {pos' : Pos} (hN : X.N.Nodup) (hi : X.N[i]? = some x) (hx : Loc X.env.scope x) (he : PE X e te) (hs : swapsWith e (some (.Name x pos')) pos.line X.env = pure false := by rfl) (hf : X.fn x = true ∨ X.env.scope.names.lookup x = some .local := by first | exact .inl rfl | exact .inr rfl | assumption) :
    PS X (.Assign [.Name x pos'] e pos) (tAsg te (gName i)) := by
  intro pins s σ H D I h
  refine wpAny_Assign_Name (thn (he pins s σ H _ I h) fun v s1 ⟨y, H1, I1, r1, q1⟩ => ?_) hs
  exact store_ok I1 hN hi hx r1 (fun s2 I2 => ⟨_, H1, I2, q1⟩) hf
end
section
variable {X : Cx} {pos : Pos}
end
structure It where
  go : Nat → Hp → Prop
  yld : Nat → Hp → V → Hp → Prop
  stop : Nat → Hp → Prop
def FpOk (X : Cx) (pins : List (Addr × Obj)) (H : Hp) (b : Addr) : Prop :=
  H b = none ∧ b ≠ X.env.locals ∧ b ∉ X.fs ∧ (b ∈ X.ex ∨ X.s₀.heap.objs.size ≤ b) ∧ (∀ x c, X.env.cells.lookup x = some c → c ≠ b) ∧ ∀ p ∈ X.pn ++ pins, p.1 ≠ b
theorem Inv.fpOk {X : Cx} {pins : List (Addr × Obj)} {σ : St} {H H' : Hp} {s : Shared} {b : Addr} (I : Inv X pins σ H s) (hb : s.heap.objs.size ≤ b) (hn : H' b = none) : FpOk X pins H' b := by
  refine ⟨hn, Nat.ne_of_gt (Nat.lt_of_lt_of_le I.lt hb), I.nofs hb, .inr (Nat.le_trans I.sz hb), fun x c e z => ?_, fun p hp z => ?_⟩
  · obtain ⟨v, q⟩ := I.cell x c e
    exact absurd (Nat.lt_of_lt_of_le q.lt (by rw [z]; exact hb)) (Nat.lt_irrefl _)
  · exact absurd (Nat.lt_of_lt_of_le (Heap.lt_size (I.pin p hp).1) (by rw [z]; exact hb)) (Nat.lt_irrefl _)
structure Turn (P : Program) (w : World) (K : PySem.W.Frag) (tg : Expr) (J : It) (fp : List Addr) (it : Addr) (tn : Nat → Heap → Prop) : Prop where
  mem : it ∈ fp
  obj : ∀ i h, tn i h → ∀ b ∈ fp, ∃ o, h.get? b = some o ∧ ∀ v, o.data ≠ .cell v
  keep : ∀ i h h', tn i h → (∀ b ∈ fp, ∀ o, h.get? b = some o → h'.get? b = some o) → tn i h'
  item : ∀ (X : Cx), X.prog = P → X.w = w → X.K = K → X.calm = true → ∀ (i : Nat) (pins : List (Addr × Obj)) (s : Shared) (σ : St) (H : Hp) (E : Value → Shared → Prop), Inv X pins σ H s → (∀ b ∈ fp, FpOk X pins H b) → tn i s.heap → J.go i H →
    wpAny (model P w) X.A (pyNext (.ref it)) (fun r s1 => ∃ u, r = some u ∧
      wpAny (model P w) X.A (letOwnedTupleGo tg (.ref it) u) (fun _ s2 => ∃ x H', Inv X pins σ H' s2 ∧ RelV x u ∧ J.yld i H x H' ∧ tn (i + 1) s2.heap ∧ ∀ b ∈ fp, H' b = none) E s1) E s
  done : ∀ (X : Cx), X.prog = P → X.w = w → X.K = K → X.calm = true → ∀ (i : Nat) (pins : List (Addr × Obj)) (s : Shared) (σ : St) (H : Hp) (E : Value → Shared → Prop), Inv X pins σ H s → (∀ b ∈ fp, FpOk X pins H b) → tn i s.heap → J.stop i H →
    wpAny (model P w) X.A (pyNext (.ref it)) (fun r s1 => r = none ∧ Inv X pins σ H s1) E s
  self : ∀ (A : Around) (i : Nat) (s : Shared) (Q : Value → Shared → Prop) (E : Value → Shared → Prop), tn i s.heap → Q (.ref it) s → wpAny (model P w) A (pyIter (.ref it)) Q E s
abbrev TI := St → Hp → (It → Hp → Prop) → Prop
def PIE (X : Cx) (pins : List (Addr × Obj)) (σ : St) (tg : Expr) (R : It → Hp → Prop) (itv : Value) (s2 : Shared) : Prop :=
  ∃ (it : Addr) (fp : List Addr) (tn : Nat → Heap → Prop) (J : It) (H' : Hp), itv = .ref it ∧ Inv X pins σ H' s2 ∧ Turn X.prog X.w X.K tg J fp it tn ∧ tn 0 s2.heap ∧ (∀ b ∈ fp, FpOk X pins H' b) ∧ R J H'
def PI (X : Cx) (tg iter : Expr) (wi : TI) : Prop :=
  ∀ (pins : List (Addr × Obj)) (s : Shared) (σ : St) (H : Hp) (R : It → Hp → Prop), Inv X pins σ H s → wi σ H R →
    wpAny (model X.prog X.w) X.A (eval iter X.env) (fun v s1 => wpAny (model X.prog X.w) X.A (pyIter v) (PIE X pins σ tg R) X.xe s1) X.xe s
theorem go_of {M : Model} {A : Around} {E : Value → Shared → Prop} {s : Shared} {tg : Expr} {it : Addr} {u : Value} {o : Obj} {n : String} {vs : Array Value} {Q : Unit → Shared → Prop} (ho : s.heap.get? it = some o) (hc : o.cls = .type n) (hd : o.data = .fields vs)
    (hn : ["enumerate", "zip", "dict_itemiterator", "dict_reverseitemiterator", "odict_iterator", "itertools.zip_longest", "itertools.pairwise"].contains n = false) (hQ : Q () s) : wpAny M A (letOwnedTupleGo tg (.ref it) u) Q E s := by
  unfold letOwnedTupleGo
  cases tg <;> first
    | exact wpAny_pure hQ
    | (cases u <;> first
        | exact wpAny_pure hQ
        | (refine wpAny_bind (wpAny_load ho ?_)
           rw [hc, hd]
           show wpAny M A (if (["enumerate", "zip", "dict_itemiterator", "dict_reverseitemiterator", "odict_iterator", "itertools.zip_longest", "itertools.pairwise"].contains n && vs[0]? == some (rawInt _)) = true then _ else _) Q E s
           rw [if_neg (by intro h; rw [hn, Bool.false_and] at h; cases h)]
           exact wpAny_pure hQ))
def Itl (K : PySem.W.Frag) (a : Addr) : It :=
  ⟨fun i H => ∃ xs x, SqL K H a xs ∧ xs[i]? = some x, fun i H x H' => H' = H ∧ ∀ xs, SqL K H a xs → xs[i]? = some x, fun i H => ∃ xs, SqL K H a xs ∧ xs.length ≤ i⟩
def Itt (K : PySem.W.Frag) (a : Addr) : It :=
  ⟨fun i H => ∃ xs x, SqT K H a xs ∧ xs[i]? = some x, fun i H x H' => H' = H ∧ ∀ xs, SqT K H a xs → xs[i]? = some x, fun i H => ∃ xs, SqT K H a xs ∧ xs.length ≤ i⟩
def Itr (lo : Int) (n : Nat) : It := ⟨fun i _ => i < n, fun i H x H' => H' = H ∧ x = .int (lo + i), fun i _ => n ≤ i⟩
theorem turn_list {P : Program} {w : World} {K : PySem.W.Frag} {tg : Expr} (a it : Addr) : Turn P w K tg (Itl K a) [it] it (fun i h => h.IsListIter it a i) where
  mem := by simp
  obj := fun i h st b hb => by
    have e : b = it := by simpa using hb
    subst e
    obtain ⟨o, e, c, d⟩ := st
    exact ⟨o, e, fun v z => by rw [d] at z; cases z⟩
  keep := fun i h h' st k => st.at fun o e => k it (by simp) o e
  item := by
    intro X hP hw hK hc i pins s σ H E I hf st hg
    subst hP hw hK
    obtain ⟨xs, x, hq, hx⟩ := hg
    obtain ⟨its, rv, p, hz⟩ := I.list hq
    obtain ⟨u, hu, ru⟩ := rv.get hx
    obtain ⟨f0, f1, f2, f3, f4, f5⟩ := hf it (by simp)
    refine wpAny_pyNext_list_item st p.isList (x := u) (by simpa using hu) fun h' st' sb => ?_
    have I1 : Inv X pins σ H { s with heap := h' } := I.turned (t' := s.toks) (fun b o hb e => (sb.2 b hb).trans e) f0 f1 f3 f4 f5
    obtain ⟨o, e, c, d⟩ := id st'
    exact ⟨u, rfl, go_of (s := { s with heap := h' }) e c d (by decide) ⟨x, H, I1, ru, ⟨rfl, fun ys hy => by rw [I.list_inj hy hq]; exact hx⟩, st', fun b hb => (hf b hb).1⟩⟩
  done := by
    intro X hP hw hK hc i pins s σ H E I hf st hg
    subst hP hw hK
    obtain ⟨xs, hq, hx⟩ := hg
    obtain ⟨its, rv, p, hz⟩ := I.list hq
    obtain ⟨f0, f1, f2, f3, f4, f5⟩ := hf it (by simp)
    have hl := rv.length
    exact wpAny_pyNext_list_end (I.ok.hd hc) st p.isList (by simp; omega) fun h' eb => ⟨rfl, I.turned (t' := s.toks) (fun b o hb e => eb b o hb e) f0 f1 f3 f4 f5⟩
  self := fun _ _ _ _ _ st h => wpAny_pyIter_listiter st h
theorem turn_tuple {P : Program} {w : World} {K : PySem.W.Frag} {tg : Expr} (a it : Addr) : Turn P w K tg (Itt K a) [it] it (fun i h => h.IsTupleIter it a i) where
  mem := by simp
  obj := fun i h st b hb => by
    have e : b = it := by simpa using hb
    subst e
    obtain ⟨o, e, c, d⟩ := st
    exact ⟨o, e, fun v z => by rw [d] at z; cases z⟩
  keep := fun i h h' st k => st.at fun o e => k it (by simp) o e
  item := by
    intro X hP hw hK hc i pins s σ H E I hf st hg
    subst hP hw hK
    obtain ⟨xs, x, hq, hx⟩ := hg
    obtain ⟨its, rv, p, hz⟩ := I.tuple hq
    obtain ⟨u, hu, ru⟩ := rv.get hx
    obtain ⟨f0, f1, f2, f3, f4, f5⟩ := hf it (by simp)
    refine wpAny_pyNext_tuple_item st (show s.heap.IsTuple a its.toArray from p) (x := u) (by simpa using hu) fun h' st' sb => ?_
    have I1 : Inv X pins σ H { s with heap := h' } := I.turned (t' := s.toks) (fun b o hb e => (sb.2 b hb).trans e) f0 f1 f3 f4 f5
    obtain ⟨o, e, c, d⟩ := id st'
    exact ⟨u, rfl, go_of (s := { s with heap := h' }) e c d (by decide) ⟨x, H, I1, ru, ⟨rfl, fun ys hy => by rw [I.tuple_inj hy hq]; exact hx⟩, st', fun b hb => (hf b hb).1⟩⟩
  done := by
    intro X hP hw hK hc i pins s σ H E I hf st hg
    subst hP hw hK
    obtain ⟨xs, hq, hx⟩ := hg
    obtain ⟨its, rv, p, hz⟩ := I.tuple hq
    obtain ⟨f0, f1, f2, f3, f4, f5⟩ := hf it (by simp)
    have hl := rv.length
    exact wpAny_pyNext_tuple_end (I.ok.hd hc) st (show s.heap.IsTuple a its.toArray from p) (by simp; omega) fun h' eb => ⟨rfl, I.turned (t' := s.toks) (fun b o hb e => eb b o hb e) f0 f1 f3 f4 f5⟩
  self := fun _ _ _ _ _ st h => wpAny_pyIter_tupleiter st h
theorem turn_range {P : Program} {w : World} {K : PySem.W.Frag} {tg : Expr} (it : Addr) (lo : Int) (n : Nat) : Turn P w K tg (Itr lo n) [it] it (fun i h => IsRangeIter h it (lo + (i : Nat) * 1) ((n : Int) - (i : Nat)) 1) where
  mem := by simp
  obj := fun i h st b hb => by
    have e : b = it := by simpa using hb
    subst e
    exact ⟨_, st, fun v z => by
      have z' : Data.fields _ = Data.cell v := z
      cases z'⟩
  keep := fun i h h' st k => k it (by simp) _ st
  item := by
    intro X hP hw hK hc i pins s σ H E I hf st hg
    subst hP hw hK
    obtain ⟨f0, f1, f2, f3, f4, f5⟩ := hf it (by simp)
    have W := Walks.range (prog := X.prog) (w := X.w) (I.ok.hd hc) it lo 1 n
    refine W.item i s _ _ hg st fun v h' tk hv st' kk => ?_
    obtain ⟨t, rfl⟩ := hv
    have I1 : Inv X pins σ H { s with heap := h', toks := tk } := I.turned (fun b o hb e => kk b o (by simpa using hb) e) f0 f1 f3 f4 f5
    refine ⟨_, rfl, go_of (s := { s with heap := h', toks := tk }) (n := "range_iterator") st' rfl rfl (by decide) ⟨.int (lo + i), H, I1, ⟨t, ?_⟩, ⟨rfl, rfl⟩, st', fun b hb => (hf b hb).1⟩⟩
    rw [Int.mul_one]
  done := by
    intro X hP hw hK hc i pins s σ H E I hf st hg
    subst hP hw hK
    obtain ⟨f0, f1, f2, f3, f4, f5⟩ := hf it (by simp)
    exact wpAny_pyNext_range_end (I.ok.hd hc) st (by have : n ≤ i := hg; omega) fun h' eb => ⟨rfl, I.turned (t' := s.toks) (fun b o hb e => eb b o hb e) f0 f1 f3 f4 f5⟩
  self := fun _ _ _ _ _ st h => wpAny_pyIter_rangeiter st h
end L2
namespace L2
open PySem PySem.Spec PyProof.Rows
section
variable {X : Cx} {tg : Expr}
def iList (K : PySem.W.Frag) (tl : TE) : TI := fun σ H R => tl σ H fun x H1 => ∃ a, x = .ref a ∧ (∃ xs, SqL K H1 a xs) ∧ R (Itl K a) H1
def iTup (K : PySem.W.Frag) (tl : TE) : TI := fun σ H R => tl σ H fun x H1 => ∃ a, x = .ref a ∧ (∃ xs, SqT K H1 a xs) ∧ R (Itt K a) H1
theorem pi_list {l : Expr} {tl : TE} (hl : PE X l tl) : PI X tg l (iList X.K tl) := by
  intro pins s σ H R I h
  refine thn (hl pins s σ H _ I h) fun v s1 ⟨x, H1, I1, r1, q1⟩ => ?_
  obtain ⟨a, e, ⟨xs, hq⟩, q⟩ := q1
  subst e
  cases r1
  obtain ⟨its, rv, p, hz⟩ := I1.list hq
  refine wpAny_pyIter_list p.isList ?_
  refine ⟨s1.heap.objs.size, [s1.heap.objs.size], _, _, H1, rfl, I1.kept (t' := s1.toks) fun b o e => Heap.get?_push_of_some _ e, turn_list a _, ⟨_, Heap.get?_push_size _ rfl, rfl, rfl⟩, fun b hb => ?_, q⟩
  have e : b = s1.heap.objs.size := by simpa using hb
  subst e
  exact I1.fpOk (Nat.le_refl _) (I1.hok.fresh (Nat.le_refl _))
theorem pi_tup {l : Expr} {tl : TE} (hl : PE X l tl) : PI X tg l (iTup X.K tl) := by
  intro pins s σ H R I h
  refine thn (hl pins s σ H _ I h) fun v s1 ⟨x, H1, I1, r1, q1⟩ => ?_
  obtain ⟨a, e, ⟨xs, hq⟩, q⟩ := q1
  subst e
  cases r1
  obtain ⟨its, rv, p, hz⟩ := I1.tuple hq
  refine wpAny_pyIter_tuple (show s1.heap.IsTuple a its.toArray from p) ?_
  refine ⟨s1.heap.objs.size, [s1.heap.objs.size], _, _, H1, rfl, I1.kept (t' := s1.toks) fun b o e => Heap.get?_push_of_some _ e, turn_tuple a _, ⟨_, Heap.get?_push_size _ rfl, rfl, rfl⟩, fun b hb => ?_, q⟩
  have e : b = s1.heap.objs.size := by simpa using hb
  subst e
  exact I1.fpOk (Nat.le_refl _) (I1.hok.fresh (Nat.le_refl _))
theorem range_it {pins : List (Addr × Obj)} {σ : St} {H : Hp} {s : Shared} {R : It → Hp → Prop} {E : Value → Shared → Prop} {lo hi : Int} {t u v : Tok} {tk : Nat} (I : Inv X pins σ H s) (h1 : -(2 ^ 62) ≤ lo) (h2 : lo < 2 ^ 62) (h3 : -(2 ^ 62) ≤ hi) (h4 : hi < 2 ^ 62)
    (q : R (Itr lo (hi - lo).toNat) H) : wpAny (model X.prog X.w) X.A (pyIter (.ref s.heap.objs.size)) (PIE X pins σ tg R) E { s with heap := s.heap.push { cls := .type "range", data := .fields #[.int lo t, .int hi u, .int 1 v] }, toks := tk } := by
  refine wpAny_pyIter_range (IsRange.new ..) (small_one h1 h2 h3 h4) ?_
  have I1 : Inv X pins σ H { s with heap := s.heap.push { cls := .type "range", data := .fields #[.int lo t, .int hi u, .int 1 v] }, toks := tk } := I.kept fun b o e => Heap.get?_push_of_some _ e
  refine ⟨(s.heap.push { cls := .type "range", data := .fields #[.int lo t, .int hi u, .int 1 v] }).objs.size, [(s.heap.push { cls := .type "range", data := .fields #[.int lo t, .int hi u, .int 1 v] }).objs.size], _, _, H, rfl,
    I1.kept (t' := tk) fun b o e => Heap.get?_push_of_some _ e, turn_range _ lo (hi - lo).toNat, ?_, fun b hb => ?_, q⟩
  · have e1 : lo + ((0 : Nat) : Int) * 1 = lo := by simp
    have e2 : (((hi - lo).toNat : Nat) : Int) - ((0 : Nat) : Int) = Builtin.Range.rangeSize lo hi 1 := by rw [rangeSize_one]; split <;> omega
    show IsRangeIter _ _ (lo + ((0 : Nat) : Int) * 1) ((((hi - lo).toNat : Nat) : Int) - ((0 : Nat) : Int)) 1
    rw [e1, e2]
    exact Heap.get?_push_size _ rfl
  · have e : b = (s.heap.push { cls := .type "range", data := .fields #[.int lo t, .int hi u, .int 1 v] }).objs.size := by simpa using hb
    subst e
    exact I1.fpOk (Nat.le_refl _) (I1.hok.fresh (Nat.le_refl _))
def iRng1 (ta : TA) : TI := fun σ H R => ta σ H fun vs H1 => ∃ j : Int, vs = [.int j] ∧ -(2 ^ 62) ≤ j ∧ j < 2 ^ 62 ∧ R (Itr 0 j.toNat) H1
def iRng2 (ta : TA) : TI := fun σ H R => ta σ H fun vs H1 => ∃ i j : Int, vs = [.int i, .int j] ∧ (-(2 ^ 62) ≤ i ∧ i < 2 ^ 62 ∧ -(2 ^ 62) ≤ j ∧ j < 2 ^ 62) ∧ R (Itr i (j - i).toNat) H1
theorem pi_range1 {a : Expr} {ta : TA} {p pos : Pos} (hg : Gl X "range") (hm : X.mg "range" = none) (ha : PA X [a] ta) (hs : starEach [a] X.env = [(false, eval a X.env)] := by rfl) : PI X tg (.Call (.Name "range" p) [a] [] pos) (iRng1 ta) := by
  intro pins s σ H R I h
  refine Call_ (ld_blt I hg hm boot_range (PyProof.Rows.callWith_type1 (thn (ha pos pins s σ H _ I h) fun us s1 ⟨vs, H1, I1, r1, q1⟩ => ?_) hs rfl))
  obtain ⟨j, e, q1, q2, q⟩ := q1
  subst e
  cases r1 with
  | cons r rr =>
    cases rr
    obtain ⟨t, rfl⟩ := r
    exact call_range_1 (range_it I1 (by omega) (by omega) q1 q2 (by simpa using q))
theorem pi_range2 {a b : Expr} {ta : TA} {p pos : Pos} (hg : Gl X "range") (hm : X.mg "range" = none) (ha : PA X [a, b] ta) (hs : starEach [a, b] X.env = [(false, eval a X.env), (false, eval b X.env)] := by rfl) (hs2 : starEach [b] X.env = [(false, eval b X.env)] := by rfl) :
    PI X tg (.Call (.Name "range" p) [a, b] [] pos) (iRng2 ta) := by
  intro pins s σ H R I h
  refine Call_ (ld_blt I hg hm boot_range (PyProof.Rows.callWith_type1 (thn (ha pos pins s σ H _ I h) fun us s1 ⟨vs, H1, I1, r1, q1⟩ => ?_) (by rw [hs, hs2]) (by rw [hs2]; rfl)))
  obtain ⟨i, j, e, ⟨q1, q2, q3, q4⟩, q⟩ := q1
  subst e
  cases r1 with
  | cons r rr =>
    cases rr with
    | cons r' rr =>
      cases rr
      obtain ⟨t, rfl⟩ := r
      obtain ⟨t', rfl⟩ := r'
      exact call_range_2 (range_it I1 q1 q2 q3 q4 q)
def tFor (wi : TI) (g : TG) (tb : TS) : TS := fun D σ H => wi σ H fun J H1 => ∃ W : Nat → Nat → St → Hp → Prop, (∃ m, W 0 m σ H1) ∧ ∀ i m σ H, W i m σ H →
  (J.stop i H ∧ D.nx σ H) ∨ (J.go i H ∧ ∃ N : St → Hp → Prop, (∀ σ' H', N σ' H' → ∃ m', m' < m ∧ W (i + 1) m' σ' H') ∧ ∀ x H', J.yld i H x H' → g x σ H' fun σ2 H2 => tb { D with nx := N, ct := N, bk := D.nx } σ2 H2)
def pinsAt (fp : List Addr) (h : Heap) : List (Addr × Obj) := fp.filterMap fun b => (h.get? b).map fun o => (b, o)
theorem mem_pinsAt {fp : List Addr} {h : Heap} {b : Addr} {o : Obj} (hb : b ∈ fp) (e : h.get? b = some o) : (b, o) ∈ pinsAt fp h := List.mem_filterMap.mpr ⟨b, hb, by rw [e]; rfl⟩
theorem of_pinsAt {fp : List Addr} {h : Heap} {p : Addr × Obj} (hp : p ∈ pinsAt fp h) : p.1 ∈ fp ∧ h.get? p.1 = some p.2 := by
  obtain ⟨b, hb, e⟩ := List.mem_filterMap.mp hp
  cases q : h.get? b with
  | none => rw [q] at e; cases e
  | some o =>
    rw [q] at e
    have e' : (b, o) = p := Option.some.inj e
    subst e'
    exact ⟨hb, q⟩
theorem Inv.pinned {pins : List (Addr × Obj)} {σ : St} {H : Hp} {s : Shared} {fp : List Addr} (I : Inv X pins σ H s) (hf : ∀ b ∈ fp, FpOk X pins H b) (ho : ∀ b ∈ fp, ∃ o, s.heap.get? b = some o ∧ ∀ v, o.data ≠ .cell v) : Inv X (pins ++ pinsAt fp s.heap) σ H s :=
  I.pins_of fun p hp => (List.mem_append.mp hp).elim (fun z => I.pin p (List.mem_append_right _ z)) fun z => by
    obtain ⟨hb, e⟩ := of_pinsAt z
    obtain ⟨f0, f1, f2, _⟩ := hf p.1 hb
    obtain ⟨o, e', d⟩ := ho p.1 hb
    rw [e] at e'; cases e'
    exact ⟨e, f0, f1, f2, d⟩
theorem Inv.unpinned {pins pl : List (Addr × Obj)} {σ : St} {H : Hp} {s : Shared} (I : Inv X (pins ++ pl) σ H s) : Inv X pins σ H s := I.pins_of fun p hp => I.pin p (List.mem_append_right _ (List.mem_append_left _ hp))
theorem ps_for {iter : Expr} {body : List Stmt} {wi : TI} {g : TG} {tb : TS} {pos : Pos} (hp : PassesOwn (model X.prog X.w) X.A X.env X.xe) (hc : X.calm = true) (hi : PI X tg iter wi) (hg : PG X tg g) (hb : PSs X body tb)
    (hs : ∀ x, foldedSetIterable iter X.env x = pure x := by intro _; rfl) : PS X (.For tg iter body [] pos) (tFor wi g tb) := by
  intro pins s σ H D I h
  refine wpAny_For (thn (hi pins s σ H _ I h) fun v s1 h1 => thn h1 fun itv s2 h2 => ?_) hs
  obtain ⟨it, fp, tn, J, H2, e, I2, T, st2, f2, W, ⟨m0, w0⟩, turn⟩ := h2
  subst e
  have stat : ∀ {H' : Hp}, (∀ b ∈ fp, H' b = none) → ∀ b ∈ fp, FpOk X pins H' b := fun hn b hb => ⟨hn b hb, (f2 b hb).2⟩
  refine codeAny_forLoop_any (fun n s' => ∃ i σ' H', Inv X pins σ' H' s' ∧ tn i s'.heap ∧ (∀ b ∈ fp, H' b = none) ∧ W i n σ' H') ?_ m0 ⟨0, σ, H2, I2, st2, fun b hb => (f2 b hb).1, w0⟩
  rintro n s3 ⟨i, σ3, H3, I3, st3, fr3, w3⟩
  rcases turn i n σ3 H3 w3 with ⟨stop, qn⟩ | ⟨go, N, hN, step⟩
  · refine wpAny_passesOwn hp (thn (T.done X rfl rfl rfl hc i pins s3 σ3 H3 X.xe I3 (stat fr3) st3 stop) fun r s4 ⟨hr, I4⟩ => ?_)
    subst hr
    exact wpAny_execs_nil ⟨σ3, H3, I4, qn⟩
  · refine wpAny_passesOwn hp (thn (T.item X rfl rfl rfl hc i pins s3 σ3 H3 X.xe I3 (stat fr3) st3 go) fun r s4 ⟨u, hr, h4⟩ => ?_)
    subst hr
    refine wpAny_passesOwn hp (thn h4 fun _ s5 ⟨x, H5, I5, r5, y5, st5, fr5⟩ => ?_)
    have I5' := I5.pinned (stat fr5) (T.obj _ _ st5)
    refine wpAny_passesOwn hp (thn (hg _ s5 σ3 H5 x u _ I5' r5 (step x H5 y5)) fun _ s6 ⟨σ6, H6, I6, q6⟩ => ?_)
    refine wpAny_passesOwn hp (thn (hb _ s6 σ6 H6 _ I6 q6) fun f s7 q7 => ?_)
    have again : ∀ {σ7 : St} {H7 : Hp}, Inv X (pins ++ pinsAt fp s5.heap) σ7 H7 s7 → N σ7 H7 → ∃ m, m < n ∧ ∃ i σ' H', Inv X pins σ' H' s7 ∧ tn i s7.heap ∧ (∀ b ∈ fp, H' b = none) ∧ W i m σ' H' := fun {σ7 H7} I7 n7 => by
      obtain ⟨m', hm, w7⟩ := hN σ7 H7 n7
      refine ⟨m', hm, i + 1, σ7, H7, I7.unpinned, T.keep _ _ _ st5 fun b hb o e => (I7.pin (b, o) (List.mem_append_right _ (List.mem_append_right _ (mem_pinsAt hb e)))).1, fun b hb => ?_, w7⟩
      obtain ⟨o, e, d⟩ := T.obj _ _ st5 b hb
      exact (I7.pin (b, o) (List.mem_append_right _ (List.mem_append_right _ (mem_pinsAt hb e)))).2.1
    cases f with
    | next => obtain ⟨σ7, H7, I7, n7⟩ := q7; exact again I7 n7
    | cont => obtain ⟨σ7, H7, I7, n7⟩ := q7; exact again I7 n7
    | brk => obtain ⟨σ7, H7, I7, q7⟩ := q7; exact ⟨σ7, H7, I7.unpinned, q7⟩
    | ret v => obtain ⟨x7, σ7, H7, I7, r7, q7⟩ := q7; exact ⟨x7, σ7, H7, I7.unpinned, r7, q7⟩
end
theorem for_list {K : PySem.W.Frag} {a : Addr} {xs : List V} {g : TG} {tb : TS} {D : Ends} {σ : St} {H : Hp} (Pv : Nat → St → Hp → Prop) (h0 : Pv 0 σ H) (hl : ∀ i σ H, i ≤ xs.length → Pv i σ H → SqL K H a xs)
    (hs : ∀ i x σ H, xs[i]? = some x → Pv i σ H → g x σ H fun σ2 H2 => tb { D with nx := Pv (i + 1), ct := Pv (i + 1), bk := D.nx } σ2 H2) (hd : ∀ σ H, Pv xs.length σ H → D.nx σ H) :
    ∃ W : Nat → Nat → St → Hp → Prop, (∃ m, W 0 m σ H) ∧ ∀ i m σ H, W i m σ H →
      ((Itl K a).stop i H ∧ D.nx σ H) ∨ ((Itl K a).go i H ∧ ∃ N : St → Hp → Prop, (∀ σ' H', N σ' H' → ∃ m', m' < m ∧ W (i + 1) m' σ' H') ∧ ∀ x H', (Itl K a).yld i H x H' → g x σ H' fun σ2 H2 => tb { D with nx := N, ct := N, bk := D.nx } σ2 H2) := by
  refine ⟨fun i m σ H => m = xs.length - i ∧ i ≤ xs.length ∧ Pv i σ H, ⟨xs.length, by simp, Nat.zero_le _, h0⟩, ?_⟩
  rintro i m σ H ⟨rfl, hi, p⟩
  have q := hl i σ H hi p
  by_cases hlt : i < xs.length
  · refine .inr ⟨⟨xs, xs[i], q, by simp [hlt]⟩, Pv (i + 1), fun σ' H' p' => ⟨xs.length - (i + 1), by omega, rfl, hlt, p'⟩, fun x H' y => ?_⟩
    obtain ⟨e, y⟩ := y
    subst e
    exact hs i x σ _ (y xs q) p
  · have e : i = xs.length := by omega
    subst e
    exact .inl ⟨⟨xs, q, Nat.le_refl _⟩, hd σ H p⟩
theorem for_tup {K : PySem.W.Frag} {a : Addr} {xs : List V} {g : TG} {tb : TS} {D : Ends} {σ : St} {H : Hp} (Pv : Nat → St → Hp → Prop) (h0 : Pv 0 σ H) (hl : ∀ i σ H, i ≤ xs.length → Pv i σ H → SqT K H a xs)
    (hs : ∀ i x σ H, xs[i]? = some x → Pv i σ H → g x σ H fun σ2 H2 => tb { D with nx := Pv (i + 1), ct := Pv (i + 1), bk := D.nx } σ2 H2) (hd : ∀ σ H, Pv xs.length σ H → D.nx σ H) :
    ∃ W : Nat → Nat → St → Hp → Prop, (∃ m, W 0 m σ H) ∧ ∀ i m σ H, W i m σ H →
      ((Itt K a).stop i H ∧ D.nx σ H) ∨ ((Itt K a).go i H ∧ ∃ N : St → Hp → Prop, (∀ σ' H', N σ' H' → ∃ m', m' < m ∧ W (i + 1) m' σ' H') ∧ ∀ x H', (Itt K a).yld i H x H' → g x σ H' fun σ2 H2 => tb { D with nx := N, ct := N, bk := D.nx } σ2 H2) := by
  refine ⟨fun i m σ H => m = xs.length - i ∧ i ≤ xs.length ∧ Pv i σ H, ⟨xs.length, by simp, Nat.zero_le _, h0⟩, ?_⟩
  rintro i m σ H ⟨rfl, hi, p⟩
  have q := hl i σ H hi p
  by_cases hlt : i < xs.length
  · refine .inr ⟨⟨xs, xs[i], q, by simp [hlt]⟩, Pv (i + 1), fun σ' H' p' => ⟨xs.length - (i + 1), by omega, rfl, hlt, p'⟩, fun x H' y => ?_⟩
    obtain ⟨e, y⟩ := y
    subst e
    exact hs i x σ _ (y xs q) p
  · have e : i = xs.length := by omega
    subst e
    exact .inl ⟨⟨xs, q, Nat.le_refl _⟩, hd σ H p⟩
theorem for_range {lo : Int} {n : Nat} {g : TG} {tb : TS} {D : Ends} {σ : St} {H : Hp} (Pv : Nat → St → Hp → Prop) (h0 : Pv 0 σ H)
    (hs : ∀ i σ H, i < n → Pv i σ H → g (.int (lo + i)) σ H fun σ2 H2 => tb { D with nx := Pv (i + 1), ct := Pv (i + 1), bk := D.nx } σ2 H2) (hd : ∀ σ H, Pv n σ H → D.nx σ H) :
    ∃ W : Nat → Nat → St → Hp → Prop, (∃ m, W 0 m σ H) ∧ ∀ i m σ H, W i m σ H →
      ((Itr lo n).stop i H ∧ D.nx σ H) ∨ ((Itr lo n).go i H ∧ ∃ N : St → Hp → Prop, (∀ σ' H', N σ' H' → ∃ m', m' < m ∧ W (i + 1) m' σ' H') ∧ ∀ x H', (Itr lo n).yld i H x H' → g x σ H' fun σ2 H2 => tb { D with nx := N, ct := N, bk := D.nx } σ2 H2) := by
  refine ⟨fun i m σ H => m = n - i ∧ i ≤ n ∧ Pv i σ H, ⟨n, by simp, Nat.zero_le _, h0⟩, ?_⟩
  rintro i m σ H ⟨rfl, hi, p⟩
  by_cases hlt : i < n
  · refine .inr ⟨hlt, Pv (i + 1), fun σ' H' p' => ⟨n - (i + 1), by omega, rfl, hlt, p'⟩, fun x H' y => ?_⟩
    obtain ⟨e, y⟩ := y
    subst e y
    exact hs i σ _ hlt p
  · have e : i = n := by omega
    subst e
    exact .inl ⟨Nat.le_refl _, hd σ H p⟩
end L2
namespace L2
open PySem PySem.Spec PyProof.Rows
abbrev R2 := V → V → Hp → VK → Prop
def OpR (X : Cx) (f : Value → Value → Sem Value) (r : R2) : Prop :=
  ∀ (pins : List (Addr × Obj)) (s : Shared) (σ : St) (H : Hp) (x y : V) (v u : Value) (Q : VK), Inv X pins σ H s → RelV x v → RelV y u → r x y H Q →
    wpAny (model X.prog X.w) X.A (f v u) (EP X pins σ Q) X.xe s
def CallR (X : Cx) (f : Value) (r : List V → Hp → VK → Prop) : Prop :=
  ∀ (pins : List (Addr × Obj)) (s : Shared) (σ : St) (H : Hp) (xs : List V) (us : List Value) (Q : VK), Inv X pins σ H s → Vals xs us → r xs H Q →
    wpAny (model X.prog X.w) X.A (call f us) (EP X pins σ Q) X.xe s
def TruR (X : Cx) (r : V → Hp → (Bool → Hp → Prop) → Prop) : Prop :=
  ∀ (pins : List (Addr × Obj)) (s : Shared) (σ : St) (H : Hp) (x : V) (v : Value) (Q : Bool → Hp → Prop), Inv X pins σ H s → RelV x v → r x H Q →
    wpAny (model X.prog X.w) X.A (truthy v) (TP X pins σ Q) X.xe s
def tOp (r : R2) (ta tb : TE) : TE := fun σ H Q => ta σ H fun x H1 => tb σ H1 fun y H2 => r x y H2 Q
def rI (C : Int → Int → Prop) (g : Int → Int → V) : R2 := fun x y H Q => ∃ i j, x = .int i ∧ y = .int j ∧ C i j ∧ Q (g i j) H
def rI0 (g : Int → Int → V) : R2 := fun x y H Q => ∃ i j, x = .int i ∧ y = .int j ∧ Q (g i j) H
section
variable {X : Cx} {a b c : Expr} {ta tb tc : TE} {pos : Pos}
theorem binT (ha : PE X a ta) (hb : PE X b tb) {pins : List (Addr × Obj)} {s : Shared} {σ : St} {H : Hp} {R : V → V → Hp → Prop} (I : Inv X pins σ H s)
    (h : ta σ H fun x H1 => tb σ H1 fun y H2 => R x y H2) {Q : Value → Shared → Prop} {f : Value → Value → Sem Value}
    (hf : ∀ v u s2 x y H2, Inv X pins σ H2 s2 → RelV x v → RelV y u → R x y H2 → wpAny (model X.prog X.w) X.A (f v u) Q X.xe s2) :
    wpAny (model X.prog X.w) X.A (eval a X.env) (fun v s₁ => wpAny (model X.prog X.w) X.A (eval b X.env) (fun u s₂ => wpAny (model X.prog X.w) X.A (f v u) Q X.xe s₂) X.xe s₁) X.xe s := by
  refine thn (ha pins s σ H _ I h) fun v s1 ⟨x, H1, I1, r1, q1⟩ => ?_
  refine thn (hb pins s1 σ H1 _ I1 q1) fun u s2 ⟨y, H2, I2, r2, q2⟩ => ?_
  exact hf v u s2 x y H2 I2 r1 r2 q2
theorem pe_op {op : Operator} {r : R2} (ho : OpR X (binaryOp op) r) (ha : PE X a ta) (hb : PE X b tb) : PE X (.BinOp a op b pos) (tOp r ta tb) := by
  intro pins s σ H Q I h
  exact wpAny_BinOp (binT ha hb I h fun v u s2 x y H2 I2 rx ry q => ho pins s2 σ H2 x y v u Q I2 rx ry q)
theorem opI {f : Value → Value → Sem Value} {C : Int → Int → Prop} {g : Int → Int → Int}
    (rule : ∀ (i j : Int) (t u : Tok) (s : Shared) (Q : Value → Shared → Prop) (E : Value → Shared → Prop), C i j → Q (.int (g i j) s.toks) { s with toks := s.toks + 1 } → wpAny (model X.prog X.w) X.A (f (.int i t) (.int j u)) Q E s) :
    OpR X f (rI C fun i j => .int (g i j)) := by
  intro pins s σ H x y v u Q I rx ry h
  obtain ⟨i, j, rfl, rfl, hc, q⟩ := h
  obtain ⟨t, rfl⟩ := rx
  obtain ⟨t', rfl⟩ := ry
  exact rule i j t t' s _ _ hc ⟨.int (g i j), H, I.tok _, ⟨_, rfl⟩, q⟩
theorem opI0 {f : Value → Value → Sem Value} {g : Int → Int → Int}
    (rule : ∀ (i j : Int) (t u : Tok) (s : Shared) (Q : Value → Shared → Prop) (E : Value → Shared → Prop), Q (.int (g i j) s.toks) { s with toks := s.toks + 1 } → wpAny (model X.prog X.w) X.A (f (.int i t) (.int j u)) Q E s) :
    OpR X f (rI0 fun i j => .int (g i j)) := by
  intro pins s σ H x y v u Q I rx ry h
  obtain ⟨i, j, rfl, rfl, q⟩ := h
  obtain ⟨t, rfl⟩ := rx
  obtain ⟨t', rfl⟩ := ry
  exact rule i j t t' s _ _ ⟨.int (g i j), H, I.tok _, ⟨_, rfl⟩, q⟩
theorem opB0 {f : Value → Value → Sem Value} {g : Int → Int → Bool}
    (rule : ∀ (i j : Int) (t u : Tok) (s : Shared) (Q : Value → Shared → Prop) (E : Value → Shared → Prop), Q (.bool (g i j)) s → wpAny (model X.prog X.w) X.A (f (.int i t) (.int j u)) Q E s) :
    OpR X f (rI0 fun i j => .bl (g i j)) := by
  intro pins s σ H x y v u Q I rx ry h
  obtain ⟨i, j, rfl, rfl, q⟩ := h
  obtain ⟨t, rfl⟩ := rx
  obtain ⟨t', rfl⟩ := ry
  exact rule i j t t' s _ _ ⟨.bl (g i j), H, I, rfl, q⟩
def CDiv (i j : Int) : Prop := 0 < j ∧ j < 1073741824
def CPow (i j : Int) : Prop := 0 ≤ j ∧ j ≤ 1000000 ∧ i.natAbs < 2 ^ 64
def CMul (i j : Int) : Prop := (-(2 ^ 64) < i ∧ i < 2 ^ 64) ∨ (-(2 ^ 64) < j ∧ j < 2 ^ 64)
theorem CMul.ok {i j : Int} (h : CMul i j) : IntMulOk i j := by
  rcases h with ⟨h1, h2⟩ | ⟨h1, h2⟩
  · exact .of_left (intBits_le_64 h1 h2)
  · exact .of_right (intBits_le_64 h1 h2)
theorem op_add : OpR X (binaryOp .Add) (rI0 fun i j => .int (i + j)) := opI0 fun _ _ _ _ _ _ _ q => add_int q
theorem op_sub : OpR X (binaryOp .Sub) (rI0 fun i j => .int (i - j)) := opI0 fun _ _ _ _ _ _ _ q => sub_int q
theorem op_mul : OpR X (binaryOp .Mult) (rI CMul fun i j => .int (i * j)) := opI fun _ _ _ _ _ _ _ hc q => mul_int q hc.ok
theorem op_fdiv : OpR X (binaryOp .FloorDiv) (rI CDiv fun i j => .int (i / j)) := opI fun i j _ _ _ _ _ hc q => by
  have h1 : (0 : Int) < j := hc.1
  have h2 : j < 1073741824 := hc.2
  exact floordiv_int (by omega) (by rw [Int.fdiv_eq_ediv_of_nonneg i (by omega)]; exact q) (.inl (PyProof.noPylong_small (by omega)))
theorem op_mod : OpR X (binaryOp .Mod) (rI (fun _ j => 0 < j) fun i j => .int (i % j)) := opI fun i j _ _ _ _ _ hc q => by
  have h1 : (0 : Int) < j := hc
  exact mod_int' (by omega) (by rw [Int.fmod_eq_emod_of_nonneg i (by omega)]; exact q)
theorem op_pow : OpR X (binaryOp .Pow) (rI CPow fun i j => .int (i ^ j.toNat)) := opI fun _ _ _ _ _ _ _ hc q => pow_int_small hc.1 hc.2.1 hc.2.2 q
end
def scal : V → V → Bool
  | .non, .non => true | .non, .int _ => true | .int _, .non => true | .non, .bl _ => true | .bl _, .non => true | .non, .str _ => true | .str _, .non => true
  | .int _, .int _ => true | .bl _, .bl _ => true | .str _, .str _ => true | .byt _, .byt _ => true
  | .int _, .str _ => true | .str _, .int _ => true | .bl _, .str _ => true | .str _, .bl _ => true
  | _, _ => false
def rEq : R2 := fun x y H Q => scal x y = true ∧ Q (.bl (decide (x = y))) H
def rNe : R2 := fun x y H Q => scal x y = true ∧ Q (.bl (!decide (x = y))) H
theorem dec_int {i j : Int} : decide (V.int i = V.int j) = (i == j) := by
  rw [Bool.eq_iff_iff]
  simp
theorem dec_bl {i j : Bool} : decide (V.bl i = V.bl j) = (i == j) := by
  rw [Bool.eq_iff_iff]
  simp
theorem dec_str {i j : Str} : decide (V.str i = V.str j) = (i == j) := by
  rw [Bool.eq_iff_iff]
  simp
theorem dec_byt {i j : Array UInt8} : decide (V.byt i = V.byt j) = (i.toList == j.toList) := by
  rw [Bool.eq_iff_iff]
  cases i
  cases j
  simp
section
variable {X : Cx} {a b c : Expr} {ta tb tc : TE} {pos : Pos}
theorem fin_bl {pins : List (Addr × Obj)} {σ : St} {H : Hp} {s : Shared} {Q : VK} {k k' : Bool} (I : Inv X pins σ H s) (q : Q (.bl k) H) (e : k = k') : EP X pins σ Q (.bool k') s := by
  subst e
  exact ⟨.bl k, H, I, rfl, q⟩
theorem op_eq : OpR X (compareOp .Eq) rEq := by
  intro pins s σ H x y v u Q I rx ry h
  obtain ⟨hs, q⟩ := h
  cases x with
  | non =>
    cases rx
    cases y with
    | non => cases ry; exact PySem.EqNone.eq_none_none (fin_bl I q (by simp))
    | bl j => cases ry; exact PySem.EqNone.eq_none_bool (fin_bl I q (by simp))
    | int j => obtain ⟨t', rfl⟩ := ry; exact PySem.EqNone.eq_none_int (fin_bl I q (by simp))
    | str j => obtain ⟨t', rfl⟩ := ry; exact PySem.EqNone.eq_none_str (fin_bl I q (by simp))
    | _ => exact absurd (show false = true from hs) Bool.false_ne_true
  | bl i =>
    cases rx
    cases y with
    | non => cases ry; exact PySem.EqNone.eq_bool_none (fin_bl I q (by simp))
    | bl j => cases ry; exact eq_bool (fin_bl I q dec_bl)
    | str j => obtain ⟨t', rfl⟩ := ry; exact PySem.EqMixed.eq_bool_str (fin_bl I q (by simp))
    | _ => exact absurd (show false = true from hs) Bool.false_ne_true
  | int i =>
    obtain ⟨t, rfl⟩ := rx
    cases y with
    | non => cases ry; exact PySem.EqNone.eq_int_none (fin_bl I q (by simp))
    | int j => obtain ⟨t', rfl⟩ := ry; exact eq_int (fin_bl I q dec_int)
    | str j => obtain ⟨t', rfl⟩ := ry; exact PySem.EqMixed.eq_int_str (fin_bl I q (by simp))
    | _ => exact absurd (show false = true from hs) Bool.false_ne_true
  | str i =>
    obtain ⟨t, rfl⟩ := rx
    cases y with
    | non => cases ry; exact PySem.EqNone.eq_str_none (fin_bl I q (by simp))
    | bl j => cases ry; exact PySem.EqMixed.eq_str_bool (fin_bl I q (by simp))
    | int j => obtain ⟨t', rfl⟩ := ry; exact PySem.EqMixed.eq_str_int (fin_bl I q (by simp))
    | str j => obtain ⟨t', rfl⟩ := ry; exact eq_str (fin_bl I q dec_str)
    | _ => exact absurd (show false = true from hs) Bool.false_ne_true
  | byt i =>
    obtain ⟨t, rfl⟩ := rx
    cases y with
    | byt j => obtain ⟨t', rfl⟩ := ry; exact PySem.W.eq_bytes (fin_bl I q dec_byt)
    | _ => exact absurd (show false = true from hs) Bool.false_ne_true
  | _ => cases y <;> exact absurd (show false = true from hs) Bool.false_ne_true
theorem op_ne : OpR X (compareOp .NotEq) rNe := by
  intro pins s σ H x y v u Q I rx ry h
  obtain ⟨hs, q⟩ := h
  cases x with
  | non =>
    cases rx
    cases y with
    | non => cases ry; exact PySem.EqNone.ne_none_none (fin_bl I q (by simp))
    | bl j => cases ry; exact PySem.EqNone.ne_none_bool (fin_bl I q (by simp))
    | int j => obtain ⟨t', rfl⟩ := ry; exact PySem.EqNone.ne_none_int (fin_bl I q (by simp))
    | str j => obtain ⟨t', rfl⟩ := ry; exact PySem.EqNone.ne_none_str (fin_bl I q (by simp))
    | _ => exact absurd (show false = true from hs) Bool.false_ne_true
  | bl i =>
    cases rx
    cases y with
    | non => cases ry; exact PySem.EqNone.ne_bool_none (fin_bl I q (by simp))
    | bl j => cases ry; exact ne_bool (fin_bl I q (congrArg not dec_bl))
    | str j => obtain ⟨t', rfl⟩ := ry; exact PySem.EqMixed.ne_bool_str (fin_bl I q (by simp))
    | _ => exact absurd (show false = true from hs) Bool.false_ne_true
  | int i =>
    obtain ⟨t, rfl⟩ := rx
    cases y with
    | non => cases ry; exact PySem.EqNone.ne_int_none (fin_bl I q (by simp))
    | int j => obtain ⟨t', rfl⟩ := ry; exact ne_int (fin_bl I q (congrArg not dec_int))
    | str j => obtain ⟨t', rfl⟩ := ry; exact PySem.EqMixed.ne_int_str (fin_bl I q (by simp))
    | _ => exact absurd (show false = true from hs) Bool.false_ne_true
  | str i =>
    obtain ⟨t, rfl⟩ := rx
    cases y with
    | non => cases ry; exact PySem.EqNone.ne_str_none (fin_bl I q (by simp))
    | bl j => cases ry; exact PySem.EqMixed.ne_str_bool (fin_bl I q (by simp))
    | int j => obtain ⟨t', rfl⟩ := ry; exact PySem.EqMixed.ne_str_int (fin_bl I q (by simp))
    | str j => obtain ⟨t', rfl⟩ := ry; exact ne_str (fin_bl I q (congrArg not dec_str))
    | _ => exact absurd (show false = true from hs) Bool.false_ne_true
  | byt i =>
    obtain ⟨t, rfl⟩ := rx
    cases y with
    | byt j => obtain ⟨t', rfl⟩ := ry; exact PySem.W.ne_bytes (fin_bl I q (congrArg not dec_byt))
    | _ => exact absurd (show false = true from hs) Bool.false_ne_true
  | _ => cases y <;> exact absurd (show false = true from hs) Bool.false_ne_true
theorem op_lt : OpR X (compareOp .Lt) (rI0 fun i j => .bl (decide (i < j))) := opB0 fun _ _ _ _ _ _ _ q => lt_int q
theorem op_le : OpR X (compareOp .LtE) (rI0 fun i j => .bl (decide (i ≤ j))) := opB0 fun _ _ _ _ _ _ _ q => le_int q
theorem op_gt : OpR X (compareOp .Gt) (rI0 fun i j => .bl (decide (j < i))) := opB0 fun _ _ _ _ _ _ _ q => gt_int q
theorem op_ge : OpR X (compareOp .GtE) (rI0 fun i j => .bl (decide (j ≤ i))) := opB0 fun _ _ _ _ _ _ _ q => ge_int q
theorem op_isN : OpR X (compareOp .Is) (fun x y H Q => y = .non ∧ Q (.bl (decide (x = .non))) H) := by
  intro pins s σ H x y v u Q I rx ry h
  obtain ⟨rfl, q⟩ := h
  cases ry
  refine is_none_gen (fin_bl I q ?_)
  cases x <;> first
    | (cases rx; rfl)
    | (obtain ⟨t, rfl⟩ := rx; rfl)
theorem op_notN : OpR X (compareOp .IsNot) (fun x y H Q => y = .non ∧ Q (.bl (!decide (x = .non))) H) := by
  intro pins s σ H x y v u Q I rx ry h
  obtain ⟨rfl, q⟩ := h
  cases ry
  refine isnot_none_gen (fin_bl I q ?_)
  cases x <;> first
    | (cases rx; rfl)
    | (obtain ⟨t, rfl⟩ := rx; rfl)
theorem OpR.or {f : Value → Value → Sem Value} {r r' : R2} (h : OpR X f r) (h' : OpR X f r') : OpR X f (fun x y H Q => r x y H Q ∨ r' x y H Q) := by
  intro pins s σ H x y v u Q I rx ry q
  rcases q with q | q
  · exact h pins s σ H x y v u Q I rx ry q
  · exact h' pins s σ H x y v u Q I rx ry q
theorem nomark (b : Expr) {op : CmpOp} (h : op ≠ .In := by decide) (h2 : op ≠ .NotIn := by decide) : behindInMarks op b = false := by
  have e1 : (op == CmpOp.In) = false := by cases op <;> first | rfl | exact absurd rfl h
  have e2 : (op == CmpOp.NotIn) = false := by cases op <;> first | rfl | exact absurd rfl h2
  cases b <;> simp [behindInMarks, e1, e2]
theorem pe_cmpR {op : CmpOp} {r : R2} (ho : OpR X (compareOp op) r) (ha : PE X a ta) (hb : PE X b tb) (hm : behindInMarks op b = false) : PE X (.Compare a [op] [b] pos) (tOp r ta tb) := by
  intro pins s σ H Q I h
  exact wpAny_Compare1 (binT ha hb I h fun v u s2 x y H2 I2 rx ry q => ho pins s2 σ H2 x y v u Q I2 rx ry q) hm
def tTest (t : TE) : TT := fun σ H Q => t σ H fun x H' => ∃ k, x = .bl k ∧ Q k H'
theorem pt_cmpR {op : CmpOp} {r : R2} (ho : OpR X (compareOp op) r) (ha : PE X a ta) (hb : PE X b tb) (hm : behindInMarks op b = false) : PT X (.Compare a [op] [b] pos) (tTest (tOp r ta tb)) := by
  intro pins s σ H Q I h
  refine wpAny_isTrue_Compare1 (thn (ha pins s σ H _ I h) fun v s1 ⟨x, H1, I1, r1, q1⟩ => thn (hb pins s1 σ H1 _ I1 q1) fun u s2 ⟨y, H2, I2, r2, q2⟩ =>
    thn (ho pins s2 σ H2 x y v u _ I2 r1 r2 q2) fun c s3 ⟨z, H3, I3, r3, k, e, q3⟩ => ?_) hm
  subst e
  cases r3
  exact wpAny_truthy_bool ⟨H3, I3, q3⟩
def tChain (r r' : R2) (ta tb tc : TE) : TE := fun σ H Q => ta σ H fun x H1 => tb σ H1 fun y H2 => r x y H2 fun z H3 => ∃ k, z = .bl k ∧
  (if k = true then tc σ H3 fun w' H4 => r' y w' H4 Q else Q (.bl false) H3)
theorem pe_chain {op op' : CmpOp} {r r' : R2} (ho : OpR X (compareOp op) r) (ho' : OpR X (compareOp op') r') (ha : PE X a ta) (hb : PE X b tb) (hc : PE X c tc)
    (hm : lastMarks [op, op'] [b, c] = false := by with_unfolding_all rfl) : PE X (.Compare a [op, op'] [b, c] pos) (tChain r r' ta tb tc) := by
  intro pins s σ H Q I h
  refine Compare_chain (thn (ha pins s σ H _ I h) fun v s1 ⟨x, H1, I1, r1, q1⟩ => chain_link (thn (hb pins s1 σ H1 _ I1 q1) fun u s2 ⟨y, H2, I2, r2, q2⟩ =>
    thn (ho pins s2 σ H2 x y v u _ I2 r1 r2 q2) fun d s3 ⟨z, H3, I3, r3, k, e, q3⟩ => ?_)) hm
  subst e
  cases r3
  refine wpAny_truthy_bool ?_
  cases k with
  | false => exact ite_ff ⟨.bl false, H3, I3, rfl, q3⟩
  | true => exact ite_tt (chain_last (thn (hc pins s3 σ H3 _ I3 q3) fun w' s4 ⟨z', H4, I4, r4, q4⟩ => ho' pins s4 σ H4 y z' u w' Q I4 r2 r4 q4))
def TruV (K : PySem.W.Frag) (x : V) (H : Hp) (k : Bool) : Prop :=
  match x with
  | .non => k = false
  | .bl b => k = b
  | .int i => k = (i != 0)
  | .str y => y.length ≤ sizeLine ∧ k = ((y.length : Int) != 0)
  | .byt y => y.size ≤ sizeLine ∧ k = ((y.size : Int) != 0)
  | .ref p => (∃ xs, SqL K H p xs ∧ k = !xs.isEmpty) ∨ (∃ xs, SqT K H p xs ∧ k = !xs.isEmpty) ∨ ∃ kvs, H p = some (.dK kvs) ∧ k = !kvs.isEmpty
  | _ => False
theorem isEmpty_kv {κ : Type} {kvs : List (κ × V)} {vs : List (κ × Value)} (r : KV kvs vs) : (!vs.isEmpty) = !kvs.isEmpty := by
  cases r <;> rfl
theorem isEmpty_of {xs : List V} {its : List Value} (r : Vals xs its) : (!its.toArray.isEmpty) = !xs.isEmpty := by
  cases r <;> simp
theorem line63 : (sizeLine : Nat) < 2 ^ 63 := by rw [sizeLine_eq]; decide
theorem tru_ok : TruR X (fun x H Q => ∃ k, TruV X.K x H k ∧ Q k H) := by
  intro pins s σ H x v Q I rx h
  obtain ⟨k, e, q⟩ := h
  have hl := line63
  have hs : sizeLine = 16777216 := sizeLine_eq
  cases x with
  | non =>
    cases rx
    have e' : k = false := e
    subst e'
    exact truthy_none ⟨H, I, q⟩
  | bl b =>
    cases rx
    have e' : k = b := e
    subst e'
    exact wpAny_truthy_bool ⟨H, I, q⟩
  | int i =>
    obtain ⟨t, rfl⟩ := rx
    have e' : k = (i != 0) := e
    subst e'
    exact PySem.P.truthy_int ⟨H, I, q⟩
  | str y =>
    obtain ⟨t, rfl⟩ := rx
    obtain ⟨hy, e'⟩ : y.length ≤ sizeLine ∧ k = ((y.length : Int) != 0) := e
    subst e'
    exact PySem.P.truthy_str (by omega) ⟨H, I.tok _, q⟩
  | byt y =>
    obtain ⟨t, rfl⟩ := rx
    obtain ⟨hy, e'⟩ : y.size ≤ sizeLine ∧ k = ((y.size : Int) != 0) := e
    subst e'
    exact PySem.W.truthy_bytes (by omega) ⟨H, I.tok _, q⟩
  | ref p =>
    cases rx
    have e' : (∃ xs, SqL X.K H p xs ∧ k = !xs.isEmpty) ∨ (∃ xs, SqT X.K H p xs ∧ k = !xs.isEmpty) ∨ ∃ kvs, H p = some (.dK kvs) ∧ k = !kvs.isEmpty := e
    rcases e' with ⟨xs, hx, e'⟩ | ⟨xs, hx, e'⟩ | ⟨kvs, hx, e'⟩
    · subst e'
      obtain ⟨its, r, pl, hz⟩ := I.list hx
      have hlen := r.length
      exact wpAny_truthy_list pl.isList (by simp only [List.size_toArray]; omega) ⟨H, I.tok _, by rw [isEmpty_of r]; exact q⟩
    · subst e'
      obtain ⟨its, r, pl, hz⟩ := I.tuple hx
      have hlen := r.length
      exact truthy_tuple pl (by simp only [List.size_toArray]; omega) ⟨H, I.tok _, by rw [isEmpty_of r]; exact q⟩
    · subst e'
      obtain ⟨hz, hS, vs, r, m⟩ : kvs.length ≤ sizeLine ∧ (p == sysModules) = false ∧ ∃ vs, KV kvs vs ∧ s.heap.DictOf (mixKind X.prog X.w) p vs := I.hok p _ hx
      have hlen : kvs.length = vs.length := Paired.length r
      exact wpAny_truthy_dict hS m (by omega) ⟨H, I.tok _, by rw [isEmpty_kv r]; exact q⟩
  | _ => exact (show False from e).elim
theorem pt_truth (ha : PE X a ta) (he : ∀ whole, isTrue a X.env whole = (do let v ← whole; standAt a.pos; holding [v] (truthy v))) :
    PT X a (fun σ H Q => ta σ H fun x H' => ∃ k, TruV X.K x H' k ∧ Q k H') := by
  intro pins s σ H Q I h
  exact isTrue_plain (thn (ha pins s σ H _ I h) fun v s1 ⟨x, H1, I1, r1, q1⟩ => tru_ok pins s1 σ H1 x v Q I1 r1 q1) (he _)
theorem op_add_str : OpR X (binaryOp .Add) (fun x y H Q => ∃ i j, x = .str i ∧ y = .str j ∧ i.length + j.length ≤ sizeLine ∧ Q (.str (i ++ j)) H) := by
  intro pins s σ H x y v u Q I rx ry h
  obtain ⟨i, j, rfl, rfl, hz, q⟩ := h
  obtain ⟨t, rfl⟩ := rx
  obtain ⟨t', rfl⟩ := ry
  exact add_str (fun t' tk => ⟨.str (i ++ j), H, I.tok _, ⟨_, rfl⟩, q⟩) hz
theorem vals1 {x : V} {us : List Value} (r : Vals [x] us) : ∃ u, us = [u] ∧ RelV x u := by
  cases r with
  | cons r1 r2 => cases r2; exact ⟨_, rfl, r1⟩
theorem vals2 {x y : V} {us : List Value} (r : Vals [x, y] us) : ∃ u w', us = [u, w'] ∧ RelV x u ∧ RelV y w' := by
  cases r with
  | cons r1 r2 =>
    cases r2 with
    | cons r3 r4 => cases r4; exact ⟨_, _, rfl, r1, r3⟩
theorem call_abs : CallR X (.builtin "abs") (fun xs H Q => ∃ i, xs = [.int i] ∧ Q (.int (if i < 0 then -i else i)) H) := by
  intro pins s σ H xs us Q I r h
  obtain ⟨i, rfl, q⟩ := h
  obtain ⟨u, rfl, t, rfl⟩ := vals1 r
  exact call_abs_int fun u tk => ⟨.int (if i < 0 then -i else i), H, I.tok _, ⟨_, rfl⟩, q⟩
theorem call_int1 : CallR X (.type "int") (fun xs H Q => (∃ i, xs = [.int i] ∧ Q (.int i) H) ∨ ∃ k, xs = [.bl k] ∧ Q (.int (if k then 1 else 0)) H) := by
  intro pins s σ H xs us Q I r h
  rcases h with ⟨i, rfl, q⟩ | ⟨k, rfl, q⟩
  · obtain ⟨u, rfl, t, rfl⟩ := vals1 r
    exact call_int_int ⟨.int i, H, I, ⟨_, rfl⟩, q⟩
  · obtain ⟨u, rfl, r1⟩ := vals1 r
    cases r1
    exact call_int_bool ⟨.int (if k then 1 else 0), H, I.tok _, ⟨_, rfl⟩, q⟩
end
end L2
namespace L2
open PySem PySem.Spec PyProof.Rows
structure ObjM (h : Heap) (x dx C : Addr) (mA : Str → Option Value) : Prop where
  obj : h.get? x = some (PySem.W.instObj C dx)
  ns : h.Ns1 dx mA
  ne : dx ≠ x
theorem lookIn_ns {h : Heap} {dx : Addr} {mA : Str → Option Value} (n : h.Ns1 dx mA) : ∃ od, h.get? dx = some od ∧ ∀ name, PySem.W.lookIn name od = some (mA name) := by
  obtain ⟨o, es, ep, ho, hd, hk, _, hm⟩ := n
  refine ⟨o, ho, fun name => ?_⟩
  have e := hm name
  unfold nsFind findBy at e
  rw [← Array.find?_toList] at e
  unfold PySem.W.lookIn
  rw [hd]
  dsimp only
  split
  · rename_i y q
    rw [q] at e
    exact congrArg some e
  · rename_i q
    rw [q] at e
    have a : es.toList.any (·.refKey) = false := by
      rw [List.any_eq_false]
      intro y hy
      obtain ⟨z, t, hkey⟩ := hk y (Array.mem_toList_iff.mp hy)
      simp [DictEntry.refKey, hkey]
    have a' : ¬ es.toList.any (·.refKey) = true := by rw [a]; exact Bool.false_ne_true
    rw [if_neg a']
    exact congrArg some e
theorem ObjM.look {h : Heap} {x dx C : Addr} {mA : Str → Option Value} (I : ObjM h x dx C mA) : ∃ od, PySem.W.InstAt h x (PySem.W.instObj C dx) C (some od) ∧ ∀ name, PySem.W.lookIn name od = some (mA name) :=
  let ⟨od, ho, hl⟩ := lookIn_ns I.ns
  ⟨od, ⟨I.obj, rfl, rfl, ho⟩, hl⟩
section
variable {prog : Program} {w : World} {A : Around} {E : Value → Shared → Prop} {s : Shared} {K : PySem.W.Frag} {x dx C f : Addr} {mA : Str → Option Value} {name : Str} {v : Value}
end
theorem RelO.some_of {v : V} {o : Option Value} (r : RelO (some v) o) : ∃ u, o = some u ∧ RelV v u := by
  cases o with
  | none => exact (show False from r).elim
  | some u => exact ⟨u, rfl, r⟩
section
variable {P : Program} {w : World} {H H' : Hp} {h h' : Heap} {a C dx : Addr} {fs fs' : List (Str × V)}
theorem ins_get (hok : HOk P w H h) (e : H a = some (.ins C dx fs)) : ∃ mA, ObjM h a dx C mA ∧ (∀ f, RelO (fs.lookup f) (mA f)) ∧ PySem.Within mA (fs.map (·.1)) ∧ fs.length ≤ 1000 ∧ H dx = some (.own a) := by
  obtain ⟨d, z, ne, ob, mA, n, r, q⟩ := (show ObjOk P w H h a (.ins C dx fs) from hok a _ e)
  exact ⟨mA, ⟨ob, n, ne⟩, r, q, z, d⟩
end
structure Cls (K : PySem.W.Frag) (C : Addr) : Prop where
  pg : PySem.W.plainGet K C Str.empty = true
  hd : PySem.W.hasDictIn K C = true
  po : PySem.W.plainOver K C = true
  sa : PySem.W.findIn K (.ref C) "__setattr__" = some (some (.builtin "object.__setattr__"))
theorem Cls.get {K : PySem.W.Frag} {C : Addr} (c : Cls K C) (f : Str) : PySem.W.plainGet K C f = true := c.pg
structure Con (K : PySem.W.Frag) (C : Addr) (f : Str) (v : V) (u : Value) : Prop where
  at_ : PySem.W.findIn K (.ref C) f = some (some u)
  rel : RelV v u
  get : PySem.W.specialIn K u "__get__" = some none
  cp : PySem.W.copiedNames.contains f = false
structure Meth (K : PySem.W.Frag) (C : Addr) (m : Str) (f : Addr) : Prop where
  at_ : PySem.W.findIn K (.ref C) m = some (some (.ref f))
  fn : PySem.W.isFn K (.ref f) = true
  kp : PySem.W.keepIn K (.ref f) = true
section
variable {X : Cx} {pins : List (Addr × Obj)} {σ : St} {H : Hp} {s : Shared} {a C dx : Addr} {fs : List (Str × V)} {f : Str} {v : V} {A : Around} {E : Value → Shared → Prop}
end
section
variable {X : Cx} {o e value : Expr} {f : Str} {pos pos' tpos : Pos} {ta tv : TE}
end
section
variable {X : Cx} {pins : List (Addr × Obj)} {σ : St} {H : Hp} {s : Shared} {A : Around} {E : Value → Shared → Prop} {Q : Value → Shared → Prop} {c : Value} {b : Bool}
inductive TyOf (K : PySem.W.Frag) (H : Hp) : V → Value → Prop where
  | non : TyOf K H .non (.type "NoneType")
  | bl (x : Bool) : TyOf K H (.bl x) (.type "bool")
  | int (i : Int) : TyOf K H (.int i) (.type "int")
  | str (x : Str) : TyOf K H (.str x) (.type "str")
  | flt (x : UInt64) : TyOf K H (.flt x) (.type "float")
  | lst {a : Addr} {xs : List V} (e : H a = some (.lst xs)) : TyOf K H (.ref a) (.type "list")
  | frz {a : Addr} {o : Obj} {xs : List V} (e : H a = some (.frz o (.lst xs))) : TyOf K H (.ref a) (.type "list")
  | tup {a : Addr} {xs : List V} (e : H a = some (.tup xs)) : TyOf K H (.ref a) (.type "tuple")
  | dK {a : Addr} {kvs : List (Key × V)} (e : H a = some (.dK kvs)) : TyOf K H (.ref a) (.type "dict")
  | dT {a : Addr} {kvs : List (List Key × V)} (e : H a = some (.dT kvs)) : TyOf K H (.ref a) (.type "dict")
  | ins {a C dx : Addr} {fs : List (Str × V)} (e : H a = some (.ins C dx fs)) (cl : Cls K C) (ha : PySem.W.findIn K (.ref C) "__class__" = some (some (.builtin "object.__class__")))
      (hn : PySem.W.specialIn K (.builtin "object.__class__") "__get__" = some (some (.builtin "getset_descriptor.__get__"))) (htk : PySem.W.takesIn K (.builtin "object.__class__") = some true)
      (hm : PySem.W.mroIn K C (.type "object") = some true) : TyOf K H (.ref a) (.ref C)
theorem isinst_ok {x : V} {u t : Value} (I : Inv X pins σ H s) (rx : RelV x u) (ty : TyOf X.K H x t) (e : PySem.W.kitOne X.K t c = some b) (h : ∀ tk, Q (.bool b) { s with toks := tk }) :
    wpAny (model X.prog X.w) A (call (.builtin "isinstance") [u, c]) Q E s := by
  cases ty with
  | non => cases (show u = Value.none from rx); exact PySem.W.kia_one PySem.W.kitx_none I.kIn True.intro e (fun z => nomatch z) h
  | bl y => cases (show u = Value.bool y from rx); exact PySem.W.kia_one PySem.W.kitx_bool I.kIn True.intro e (fun z => nomatch z) h
  | int i => obtain ⟨t, q⟩ := (show ∃ t, u = Value.int i t from rx); cases q; exact PySem.W.kia_one PySem.W.kitx_int I.kIn True.intro e (fun z => nomatch z) h
  | str y => obtain ⟨t, q⟩ := (show ∃ t, u = Value.str y t from rx); cases q; exact PySem.W.kia_one PySem.W.kitx_str I.kIn True.intro e (fun z => nomatch z) h
  | flt y => obtain ⟨t, q⟩ := (show ∃ t, u = Value.float y t from rx); cases q; exact PySem.W.kia_one PySem.W.kitx_float I.kIn True.intro e (fun z => nomatch z) h
  | @lst a xs ea =>
    cases (show u = Value.ref a from rx)
    obtain ⟨_, _, n, _, h1⟩ := (show ObjOk X.prog X.w H s.heap a (.lst xs) from I.hok a _ ea)
    exact PySem.W.kia_one PySem.W.kitx_list I.kIn ⟨_, h1, rfl⟩ e (fun z => nomatch z) h
  | @frz a ob xs ea =>
    cases (show u = Value.ref a from rx)
    obtain ⟨_, _, _, n, _, h1⟩ := (show ObjOk X.prog X.w H s.heap a (.frz ob (.lst xs)) from I.hok a _ ea)
    exact PySem.W.kia_one PySem.W.kitx_list I.kIn ⟨_, h1, rfl⟩ e (fun z => nomatch z) h
  | @tup a xs ea =>
    cases (show u = Value.ref a from rx)
    obtain ⟨_, _, _, p⟩ := (show ObjOk X.prog X.w H s.heap a (.tup xs) from I.hok a _ ea)
    obtain ⟨o, h1, h2, _⟩ := p
    exact PySem.W.kia_one PySem.W.kitx_tuple I.kIn ⟨o, h1, h2⟩ e (fun z => nomatch z) h
  | @dK a kvs ea =>
    cases (show u = Value.ref a from rx)
    obtain ⟨_, _, vs, _, p⟩ := (show ObjOk X.prog X.w H s.heap a (.dK kvs) from I.hok a _ ea)
    obtain ⟨o, es, ep, h1, h2, _⟩ := p
    exact PySem.W.kia_one PySem.W.kitx_dict I.kIn ⟨o, h1, h2.1⟩ e (fun z => nomatch z) h
  | @dT a kvs ea =>
    cases (show u = Value.ref a from rx)
    obtain ⟨_, _, xs, _, o, es, ep, h1, h2, _⟩ := (show ObjOk X.prog X.w H s.heap a (.dT kvs) from I.hok a _ ea)
    exact PySem.W.kia_one PySem.W.kitx_dict I.kIn ⟨o, h1, h2.1⟩ e (fun z => nomatch z) h
  | @ins a C dx fs ea cl ha hn htk hm =>
    cases (show u = Value.ref a from rx)
    obtain ⟨mA, O, _⟩ := ins_get I.hok ea
    obtain ⟨od, J, _⟩ := O.look
    exact PySem.W.kia_one (PySem.W.kitx_own (cl.get _) cl.hd ha hn htk hm) I.kIn J e (fun z => nomatch z) h
end
end L2
namespace L2
open PySem PySem.Spec PyProof.Rows
structure Room (k : Nat) (A : Around) : Prop where
  hd : A.handled = none
  dp : A.depth + 3 * k + 5 < recursionLimit
  un : A.units + 16 * k + 200 < cLine
theorem Room.mono {j k : Nat} {A : Around} (r : Room k A) (h : j ≤ k) : Room j A := ⟨r.hd, by have := r.dp; omega, by have := r.un; omega⟩
theorem Room.deeper {k : Nat} {A : Around} (r : Room (k + 1) A) (env : Env) : Room k (A.deeper env) :=
  ⟨r.hd, by have := r.dp; show A.depth + 1 + 3 * k + 5 < _; omega, by have := r.un; show A.units + 3 + 16 * k + 200 < _; omega⟩
theorem Room.depth {k : Nat} {A : Around} (r : Room k A) : A.depth < recursionLimit := by have := r.dp; omega
theorem Room.units {k : Nat} {A : Around} (r : Room k A) : A.units + 64 < cLine := by have := r.un; omega
theorem Room.units0 {k : Nat} {A : Around} (r : Room k A) : A.units < cLine := by have := r.un; omega
def tNil : TA := fun _ H Q => Q [] H
def tCons (ta : TE) (tr : TA) : TA := fun σ H Q => ta σ H fun x H1 => tr σ H1 fun xs H2 => Q (x :: xs) H2
section
variable {X : Cx} {e : Expr} {es : List Expr} {te : TE} {t : TA} {pos : Pos}
theorem pa_nil : PA X [] tNil := fun _ _ _ _ H Q I h => Calls.spliced_nil ⟨[], H, I, .nil, h⟩
theorem pa_cons (ha : PE X e te) (hr : PA X es t) (hs : starEach (e :: es) X.env = (false, eval e X.env) :: starEach es X.env := by rfl) : PA X (e :: es) (tCons te t) := by
  intro pos pins s σ H Q I h
  rw [hs]
  show wpAny _ _ (spliced ((false, eval e X.env) :: backTo pos (starEach es X.env))) _ _ s
  refine Calls.spliced_cons (thn (ha pins s σ H _ I h) fun u s1 ⟨x, H1, I1, r1, q1⟩ => ?_)
  exact thn (hr pos pins s1 σ H1 _ I1 q1) fun us s2 ⟨xs, H2, I2, r2, q2⟩ => ⟨x :: xs, H2, I2, .cons r1 r2, q2⟩
def tTup (t : TA) : TE := fun σ H Q => t σ H fun xs H1 => xs.length ≤ sizeLine ∧ ∀ p, H1 p = none → Q (.ref p) (upd H1 p (.tup xs))
def tLst (t : TA) : TE := fun σ H Q => t σ H fun xs H1 => xs.length ≤ sizeLine ∧ ∀ p, H1 p = none → Q (.ref p) (upd H1 p (.lst xs))
theorem pe_tup {x1} (h : PA X es t) : PE X (.Tuple es x1 pos) (tTup t) := by
  intro pins s σ H Q I hq
  refine wpAny_Tuple_spliced (thn (h pos pins s σ H _ I hq) fun us s1 ⟨xs, H1, I1, r, z, q⟩ => ⟨by rw [← r.length]; exact z, ?_⟩)
  have hf : H1 s1.heap.objs.size = none := I1.hok.fresh (Nat.le_refl _)
  refine ⟨.ref s1.heap.objs.size, upd H1 s1.heap.objs.size (.tup xs), I1.laid (t' := s1.toks) (fun b u e => Heap.get?_push_of_some _ e) (Nat.le_refl _) ?_, rfl, q _ hf⟩
  exact ⟨⟨z, nod_push _ _⟩, us, r, ⟨_, Heap.get?_push_size _ rfl, rfl, _, rfl⟩⟩
theorem pe_lst (h : PA X es t) : PE X (.List es pos) (tLst t) := by
  intro pins s σ H Q I hq
  refine wpAny_List_spliced (thn (h pos pins s σ H _ I hq) fun us s1 ⟨xs, H1, I1, r, z, q⟩ => ⟨by rw [← r.length]; exact z, ?_⟩)
  have hf : H1 s1.heap.objs.size = none := I1.hok.fresh (Nat.le_refl _)
  refine ⟨.ref s1.heap.objs.size, upd H1 s1.heap.objs.size (.lst xs), I1.laid (t' := s1.toks) (fun b u e => Heap.get?_push_of_some _ e) (Nat.le_refl _) ?_, rfl, q _ hf⟩
  exact ⟨z, us, 0, r, Heap.get?_push_size _ rfl⟩
end
abbrev Sp := List V → Hp → VK → XK → Prop
abbrev CXT := List Env → Hp → Shared → XK → Value → Shared → Prop
structure Env0 (P : Program) (w : World) (K : PySem.W.Frag) (mg : Str → Option Value) (base : Heap) (A : Around) (outer : List Env) (s : Shared) (H : Hp) : Prop where
  frames : A.frames = some outer
  mod : Mod K mg base
  bs : ∀ b o, base.get? b = some o → s.heap.get? b = some o ∧ H b = none
  bsz : base.objs.size ≤ s.heap.objs.size
  funs : s.heap.FunFrames base outer
  frf : ∀ b ∈ frs outer, H b = none
  hok : HOk P w H s.heap
  bare : AllBare s.gens
def CE (outer : List Env) (P : Program) (w : World) (H : Hp) (s : Shared) (Q : VK) (u : Value) (s' : Shared) : Prop :=
  ∃ v H', s'.os = s.os ∧ AllBare s'.gens ∧ Un (frs outer) [] H H' s.heap s'.heap ∧ HOk P w H' s'.heap ∧ RelV v u ∧ Q v H'
def CR (CX : CXT) (outer : List Env) (P : Program) (w : World) (H : Hp) (s : Shared) (Q : VK) (E : XK) (r : Result) (s' : Shared) : Prop :=
  match r with
  | .ok (.ret u) => CE outer P w H s Q u s'
  | .ok _ => False
  | .error e => CX outer H s E e s'
structure FnOk (P : Program) (w : World) (K : PySem.W.Frag) (mg : Str → Option Value) (base : Heap) (CX : CXT) (k : Nat) (f : Addr) (fd : FuncData) (ps : List Str) (sp : Sp) : Prop where
  len : ∀ vs H Q E, sp vs H Q E → vs.length = ps.length
  run : ∀ (A : Around) (outer : List Env) (s : Shared) (H : Hp) (args : Args) (us : List Value) (vs : List V) (Q : VK) (E : XK), Room k A → Env0 P w K mg base A outer s H → BindsTo s fd args (ps.zip us) → Vals vs us → sp vs H Q E →
    codeAny (model P w) A (.call (.ref f) args) (CR CX outer P w H s Q E) s
section
variable {X : Cx} {pins : List (Addr × Obj)} {σ : St} {H : Hp} {s s' : Shared}
theorem Inv.env0 (I : Inv X pins σ H s) : Env0 X.prog X.w X.K X.mg X.base X.A X.stack s H :=
  ⟨I.ok.frames, I.ok.mod, I.bs, Nat.le_trans I.ok.bsz I.sz, I.stack, I.stkFree, I.hok, I.bare⟩
theorem Inv.after {Q : VK} {u : Value} (I : Inv X pins σ H s) (h : CE X.stack X.prog X.w H s Q u s') : EP X pins σ Q u s' := by
  obtain ⟨v, H', os, bare, un, hok, r, q⟩ := h
  obtain ⟨hh, g, d, t, os'⟩ := s'
  obtain rfl : os' = s.os := os
  exact ⟨v, H', I.call (h' := hh) (g' := g) (d' := d) (t' := t) (ch := []) un hok bare (fun b z => absurd z (by simp)), r, q⟩
end
def tCall (sp : Sp) (dvs : List V) (E : XK) (t : TA) : TE := fun σ H Q => t σ H fun vs H1 => sp (vs ++ dvs) H1 Q E
def Binds (K : PySem.W.Frag) (fd : FuncData) (ps : List Str) (ds : List Value) : Prop :=
  ∀ (s : Shared) (us : List Value), K.In s.heap → (us ++ ds).length = ps.length → BindsTo s fd ⟨us, []⟩ (ps.zip (us ++ ds))
theorem Binds.all {K : PySem.W.Frag} {fd : FuncData} {ps : List Str} (h : ∀ us : List Value, us.length = ps.length → bindArgs fd ⟨us, []⟩ = pure (ps.zip us)) : Binds K fd ps [] := fun s us _ hl => by
  rw [List.append_nil] at hl ⊢
  exact .of_eq (h us hl)
def Passes (CX : CXT) (X : Cx) (E : XK) : Prop := ∀ (pins : List (Addr × Obj)) (σ : St) (H : Hp) (s : Shared) (e : Value) (s' : Shared), Inv X pins σ H s → CX X.stack H s E e s' → X.xe e s'
section
variable {X : Cx} {CX : CXT} {k : Nat} {f C : Addr} {fd : FuncData} {ps : List Str} {sp : Sp} {dvs : List V} {ds : List Value} {E : XK} {x m : Str} {p pos apos : Pos} {e o : Expr} {es : List Expr} {ta : TE} {t : TA}
theorem run_fn {pins : List (Addr × Obj)} {σ : St} {H : Hp} {s : Shared} {Q : VK} {us : List Value} {vs : List V} (F : FnOk X.prog X.w X.K X.mg X.base CX k f fd ps sp) (hr : Room k X.A) (hb : Binds X.K fd ps ds) (hd : Vals dvs ds) (hx : Passes CX X E)
    (I : Inv X pins σ H s) (r : Vals vs us) (h : sp (vs ++ dvs) H Q E) : wpAny (model X.prog X.w) X.A (call (.ref f) us) (EP X pins σ Q) X.xe s := by
  have r2 : Vals (vs ++ dvs) (us ++ ds) := r.append hd
  have hl : (us ++ ds).length = ps.length := by rw [← r2.length]; exact F.len _ _ _ _ h
  refine wpAny_call (codeAny_mono (F.run X.A X.stack s H ⟨us, []⟩ (us ++ ds) (vs ++ dvs) Q E hr I.env0 (hb s us I.kIn hl) r2 h) fun r s' hq => ?_)
  cases r with
  | error e => exact hx pins σ H s e s' I hq
  | ok fl =>
    cases fl with
    | ret u => exact I.after hq
    | next => exact False.elim hq
    | brk => exact False.elim hq
    | cont => exact False.elim hq
theorem pe_call (F : FnOk X.prog X.w X.K X.mg X.base CX k f fd ps sp) (hr : Room k X.A) (hg : Gl X x) (hm : X.mg x = some (.ref f)) (hk : PySem.W.keepIn X.K (.ref f) = true) (hb : Binds X.K fd ps ds) (hd : Vals dvs ds) (hx : Passes CX X E)
    (ha : PA X (e :: es) t) (hdb : (x == ("__debug__" : Str)) = false := by decide) (he : starEach (e :: es) X.env = (false, eval e X.env) :: starEach es X.env := by rfl) (hpl : (backTo pos (starEach es X.env)).any (·.1) = false := by rfl) :
    PE X (.Call (.Name x p) (e :: es) [] pos) (tCall sp dvs E t) := by
  intro pins s σ H Q I h
  refine wpAny_Call_Name_kw (ld_glob I hg hm ?_ hdb)
  refine PySem.W.callWith_K (h₀ := X.base) I.ok.mod.kin hk (thn (ha pos pins s σ H _ I h) fun us s1 ⟨vs, H1, I1, r, q⟩ => ⟨I1.kIn, ?_⟩) he hpl
  exact run_fn F hr hb hd hx I1 r q
structure Mk (K : PySem.W.Frag) (C f : Addr) : Prop where
  makes : PySem.W.makesIn K C = true
  init : PySem.W.findIn K (.ref C) "__init__" = some (some (.ref f))
  fn : PySem.W.isFn K (.ref f) = true
  kp : PySem.W.keepIn K (.ref C) = true
end
section
variable {X : Cx} {CX : CXT} {k : Nat} {f C : Addr} {fd : FuncData} {ps ks : List Str} {sp : Sp} {E : XK} {x m : Str} {p pos apos kpos : Pos} {e o : Expr} {es : List Expr} {kws : List Keyword} {te ta : TE} {t tk : TA} {nm : Option Str}
structure KBinds (K : PySem.W.Frag) (fd : FuncData) (ps ks : List Str) (g : List Value → List Value → List Value) (gV : List V → List V → List V) : Prop where
  to : ∀ (s : Shared) (us ws : List Value), K.In s.heap → (g us ws).length = ps.length → BindsTo s fd ⟨us, ks.zip ws⟩ (ps.zip (g us ws))
  rel : ∀ {vs : List V} {us : List Value} {zs : List V} {ws : List Value}, Vals vs us → Vals zs ws → Vals (gV vs zs) (g us ws)
variable {g : List Value → List Value → List Value} {gV : List V → List V → List V}
end
structure FnScope (N P : List Str) (sc : Scope) : Prop where
  kind : sc.kind = .function
  co : sc.isCoroutine = false
  gen : sc.isGenerator = false
  nd : N.Nodup
  pre : N.take P.length = P
  par : ∀ x ∈ P, sc.names.lookup x = some .local ∨ sc.names.lookup x = some .cell
  nofree : ∀ y ∈ sc.names, y.2 ≠ .free
theorem bindL_out {kindOf : Str → Option NameKind} {x : Str} : ∀ {binds : List (Str × Value)} {m : Str → Option Value}, (∀ v, (x, v) ∉ binds) → bindL kindOf binds m x = m x
  | [], _, _ => rfl
  | (n, v) :: r, m, h => by
    unfold bindL
    rw [bindL_out fun w hw => h w (List.mem_cons_of_mem _ hw)]
    split
    · have : x ≠ n := by rintro rfl; exact h v List.mem_cons_self
      simp [this]
    · rfl
theorem bindC_out {kindOf : Str → Option NameKind} {x : Str} : ∀ {binds : List (Str × Value)} {m : Str → Option Value}, (∀ v, (x, v) ∉ binds) → bindC kindOf binds m x = m x
  | [], _, _ => rfl
  | (n, v) :: r, m, h => by
    unfold bindC
    rw [bindC_out fun w hw => h w (List.mem_cons_of_mem _ hw)]
    split
    · rfl
    · have : x ≠ n := by rintro rfl; exact h v List.mem_cons_self
      simp [this]
theorem bindL_get {kindOf : Str → Option NameKind} {x : Str} {v : Value} : ∀ {P : List Str} {vs : List Value} {i : Nat} {m : Str → Option Value}, P.Nodup → P[i]? = some x → vs[i]? = some v → kindOf x = some .local →
    bindL kindOf (P.zip vs) m x = some v
  | [], _, _, _, _, h, _, _ => by simp at h
  | _ :: _, [], _, _, _, _, h, _ => by simp at h
  | p :: P, w :: vs, 0, m, nd, h1, h2, hk => by
    simp at h1 h2; subst h1; subst h2
    show bindL kindOf ((p, w) :: P.zip vs) m p = _
    unfold bindL
    rw [bindL_out fun v hv => (List.nodup_cons.mp nd).1 (List.of_mem_zip hv).1, if_pos hk]
    simp
  | p :: P, w :: vs, i + 1, m, nd, h1, h2, hk => by
    show bindL kindOf ((p, w) :: P.zip vs) m x = _
    unfold bindL
    exact bindL_get (i := i) (List.nodup_cons.mp nd).2 (by simpa using h1) (by simpa using h2) hk
theorem bindC_get {kindOf : Str → Option NameKind} {x : Str} {v : Value} : ∀ {P : List Str} {vs : List Value} {i : Nat} {m : Str → Option Value}, P.Nodup → P[i]? = some x → vs[i]? = some v → kindOf x ≠ some .local →
    bindC kindOf (P.zip vs) m x = some v
  | [], _, _, _, _, h, _, _ => by simp at h
  | _ :: _, [], _, _, _, _, h, _ => by simp at h
  | p :: P, w :: vs, 0, m, nd, h1, h2, hk => by
    simp at h1 h2; subst h1; subst h2
    show bindC kindOf ((p, w) :: P.zip vs) m p = _
    unfold bindC
    rw [bindC_out fun v hv => (List.nodup_cons.mp nd).1 (List.of_mem_zip hv).1, if_neg hk]
    simp
  | p :: P, w :: vs, i + 1, m, nd, h1, h2, hk => by
    show bindC kindOf ((p, w) :: P.zip vs) m x = _
    unfold bindC
    exact bindC_get (i := i) (List.nodup_cons.mp nd).2 (by simpa using h1) (by simpa using h2) hk
def start (N : List Str) (vs : List V) : St := vs.map some ++ List.replicate (N.length - vs.length) none
def cxOf (CX : CXT) (P : Program) (w : World) (K : PySem.W.Frag) (mg : Str → Option Value) (base : Heap) (N : List Str) (qual : Str) (scope : Scope) (f : Addr) (cd : Value) (A : Around) (outer : List Env) (s : Shared) (H : Hp) (E : XK) : Cx where
  prog := P
  w := w
  K := K
  mg := mg
  base := base
  A := A.deeper (envOfC qual scope s.heap.objs.size f cd)
  N := N
  s₀ := s
  H₀ := H
  env := envOfC qual scope s.heap.objs.size f cd
  outer := outer
  stack := envOfC qual scope s.heap.objs.size f cd :: outer
  ex := []
  calm := true
  fn := fun _ => true
  pn := []
  xe := fun e s' => wpAny (model P w) (A.deeper (envOfC qual scope s.heap.objs.size f cd)) (leaving (envOfC qual scope s.heap.objs.size f cd) e) (fun _ s'' => CX outer H s E e s'') (fun e' s'' => CX outer H s E e' s'') s'
theorem cell_has {sc : Scope} {n : Nat} {x : Str} (h : sc.names.lookup x = some .cell) : ∃ c, (cellsFrom n sc.names []).lookup x = some c := by
  have q := PySem.W.cellsFrom_some sc.names n [] (.inl h)
  exact Option.isSome_iff_exists.mp q
theorem inv_start {CX : CXT} {P : Program} {w : World} {K : PySem.W.Frag} {mg : Str → Option Value} {base : Heap} {N ps : List Str} {qual : Str} {scope : Scope} {f : Addr} {cd : Value} {A : Around} {outer : List Env} {s s1 : Shared} {H : Hp} {E : XK} {us : List Value} {vs : List V}
    (S : FnScope N ps scope) (hd : A.handled = none) (e0 : Env0 P w K mg base A outer s H) (hl : vs.length = ps.length) (r : Vals vs us)
    (x : InCallC s s.heap.objs.size (bindL (envOfC qual scope s.heap.objs.size f cd).kindOf (ps.zip us) fun _ => none) (cellsFrom (s.heap.objs.size + 1) scope.names []) (bindC (envOfC qual scope s.heap.objs.size f cd).kindOf (ps.zip us) fun _ => none) s1) :
    Inv (cxOf CX P w K mg base N qual scope f cd A outer s H E) [] (start N vs) H s1 := by
  have hpl : ps.length ≤ N.length := by have := congrArg List.length S.pre; rw [List.length_take] at this; omega
  obtain ⟨h1, tk, rfl, hk⟩ := x.done
  have noA : ∀ b : Addr, b ∉ (cxOf CX P w K mg base N qual scope f cd A outer s H E).ex := fun b z => absurd (show b ∈ ([] : List Addr) from z) (by simp)
  refine ⟨⟨e0.mod, S.kind, rfl, rfl, Nat.le_refl _, fun y z c h1 h2 => ?_, fun y hy => ?_, fun y c _ h => ?_, fun _ => hd, Around.frames_deeper e0.frames, .inr ⟨rfl, rfl⟩, fun b z => absurd z (noA b), e0.bs, e0.bsz, fun b _ _ => noA b, fun b z => absurd z (noA b), e0.funs, e0.frf⟩,
    rfl, e0.bare, Un.kept hk, ⟨_, x.toInCall.ns, fun i y v h1 h2 h3 => ?_⟩, fun y c h => ⟨_, x.cell y c h⟩, e0.hok.fresh (Nat.le_refl _), fun y c h => ?_, fun p hp => absurd (show p ∈ ([] : List (Addr × Obj)) from hp) (by simp), e0.hok.kept hk, ?_⟩
  · exact name_of_addr x.apart (PySem.mem_of_lookup h1) (PySem.mem_of_lookup h2)
  · have hy : scope.names.lookup y = some .cell ∨ scope.names.lookup y = some .free := hy
    rcases hy with hy | hy
    · exact cell_has hy
    · exact absurd rfl (S.nofree _ (PySem.mem_of_lookup hy))
  · exact Nat.le_of_lt (x.above y c (PySem.mem_of_lookup h))
  · have hi : i < vs.length := by
      unfold start at h2
      by_cases hi : i < vs.length
      · exact hi
      · rw [List.getElem?_append_right (by simpa using hi)] at h2
        rw [List.getElem?_replicate] at h2
        split at h2 <;> cases h2
    have ha : vs[i]? = some v := by
      unfold start at h2
      rw [List.getElem?_append_left (by simpa using hi), List.getElem?_map] at h2
      cases e : vs[i]? with
      | none => rw [e] at h2; cases h2
      | some a => rw [e] at h2; cases h2; rfl
    obtain ⟨u, hu, rv⟩ := r.get ha
    have hp : ps[i]? = some y := by
      rw [← S.pre, List.getElem?_take_of_lt (by omega)]; exact h1
    have ndP : ps.Nodup := by rw [← S.pre]; exact S.nd.sublist (List.take_sublist _ _)
    refine ⟨u, rv, ?_⟩
    rcases S.par y (List.mem_of_getElem? hp) with k | k
    · exact .inl ⟨k, bindL_get ndP hp hu k⟩
    · obtain ⟨c, e⟩ := cell_has (n := s.heap.objs.size + 1) k
      refine .inr ⟨.inl k, c, e, ?_⟩
      have q := x.cell y c e
      rw [bindC_get ndP hp hu (by show scope.names.lookup y ≠ _; rw [k]; decide)] at q
      exact q
  · exact e0.hok.fresh (Nat.le_of_lt (x.above y c (PySem.mem_of_lookup h)))
  · unfold start
    show _ = N.length
    rw [List.length_append, List.length_map, List.length_replicate]
    omega
theorem fn_of {CX : CXT} {P : Program} {w : World} {K : PySem.W.Frag} {mg : Str → Option Value} {base : Heap} {k : Nat} {f : Addr} {name qual : Str} {params : Arguments} {body : List Stmt} {scope : Scope} {dV kV doc pm cdv ct oc : Value} {an od : Option Addr}
    {osl : Array (Option Value)} {N ps : List Str} {sp : Sp} (lk : K.lookup f = some ⟨oc, od, .func (PySem.W.fnOf name qual params body scope dV kV doc pm an cdv ct), osl⟩) (hcd : PySem.W.codeIn K cdv qual = true) (S : FnScope N ps scope)
    (len : ∀ vs H Q E, sp vs H Q E → vs.length = ps.length)
    (hbody : ∀ (A : Around) (outer : List Env) (s : Shared) (H : Hp) (vs : List V) (Q : VK) (E : XK), Room k (A.deeper (envOfC qual scope s.heap.objs.size f cdv)) → sp vs H Q E →
      ∃ t, PSs (cxOf CX P w K mg base N qual scope f cdv A outer s H E) body t ∧ t { nx := fun _ H' => Q .non H', rt := Q } (start N vs) H) :
    FnOk P w K mg base CX (k + 1) f (PySem.W.fnOf name qual params body scope dV kV doc pm an cdv ct) ps sp := by
  refine ⟨len, fun A outer s H args us vs Q E hr e0 hb r hsp => ?_⟩
  have hl := len _ _ _ _ hsp
  have KX : K.In s.heap := e0.mod.kin.keeps fun b o e => (e0.bs b o e).1
  have lim : s.heap.NoLimit := e0.mod.nolimit.keeps fun b o e => (e0.bs b o e).1
  have hkind : ∀ y ∈ ps.zip us, scope.names.lookup y.1 = some .local ∨ (scope.names.lookup y.1 = some .cell ∧ ((cellsFrom (s.heap.objs.size + 1) scope.names []).lookup y.1).isSome = true) := fun ⟨n, v⟩ hy => by
    rcases S.par n (List.of_mem_zip hy).1 with q | q
    · exact .inl q
    · exact .inr ⟨q, PySem.W.cellsFrom_some _ _ _ (.inl q)⟩
  refine codeAny_call_function hr.depth (KX _ _ lk) rfl S.co S.gen rfl (PySem.W.codeRec_of KX hcd) (hb _ _ _ _ ?_)
  refine wpAny_newFunctionEnv_cells S.kind hkind fun env he s1 x => ?_
  subst he
  refine ⟨lim.keeps x.toInCall.keep, codeAny_func ?_⟩
  obtain ⟨t, ht, hq⟩ := hbody A outer s H vs Q E (hr.deeper _) hsp
  have I : Inv (cxOf CX P w K mg base N qual scope f cdv A outer s H E) [] (start N vs) H s1 := inv_start S hr.hd e0 hl r x
  refine wpAny_mono (ht [] s1 (start N vs) H _ I hq) (fun fl s' hs => ?_) fun e s' hs => hs
  have fin : ∀ {σ' : St} {H' : Hp} {v : V} {u : Value}, Inv (cxOf CX P w K mg base N qual scope f cdv A outer s H E) [] σ' H' s' → RelV v u → Q v H' → CE outer P w H s Q u s' :=
    fun {σ' H' v u} J rv q => ⟨v, H', J.os, J.bare, J.base, J.hok, rv, q⟩
  cases fl with
  | ret u =>
    obtain ⟨v, σ', H', J, rv, q⟩ := hs
    exact fin J rv q
  | next =>
    obtain ⟨σ', H', J, q⟩ := hs
    exact fin (v := V.non) (u := Value.none) J rfl q
  | brk =>
    obtain ⟨_, _, _, q⟩ := hs
    exact False.elim q
  | cont =>
    obtain ⟨_, _, _, q⟩ := hs
    exact False.elim q
end L2
namespace L2
open PySem PySem.Spec PyProof.Rows
section
variable {X : Cx} {x : Str} {p pos : Pos} {e : Expr} {es : List Expr} {t : TA} {id T : String} {r : List V → Hp → VK → Prop}
def tCB (r : List V → Hp → VK → Prop) (t : TA) : TE := fun σ H Q => t σ H fun vs H1 => r vs H1 Q
theorem pe_callB (hc : CallR X (.builtin id) r) (hg : Gl X x) (hm : X.mg x = none) (hv : bootBuiltins x = some (.builtin id)) (ha : PA X (e :: es) t) (hn : x ≠ "__name__" := by decide) (hdb : (x == ("__debug__" : Str)) = false := by decide)
    (he : starEach (e :: es) X.env = (false, eval e X.env) :: starEach es X.env := by rfl) (hpl : (backTo pos (starEach es X.env)).any (·.1) = false := by rfl) : PE X (.Call (.Name x p) (e :: es) [] pos) (tCB r t) := by
  intro pins s σ H Q I h
  refine wpAny_Call_Name_kw (ld_blt I hg hm hv ?_ hn hdb)
  exact PyProof.Rows.callWith_builtin1 (thn (ha pos pins s σ H _ I h) fun us s1 ⟨vs, H1, I1, r1, q1⟩ => hc pins s1 σ H1 vs us Q I1 r1 q1) he hpl
theorem pe_callTy (hc : CallR X (.type T) r) (hg : Gl X x) (hm : X.mg x = none) (hv : bootBuiltins x = some (.type T)) (ha : PA X (e :: es) t) (hn : x ≠ "__name__" := by decide) (hdb : (x == ("__debug__" : Str)) = false := by decide)
    (he : starEach (e :: es) X.env = (false, eval e X.env) :: starEach es X.env := by rfl) (hpl : (backTo pos (starEach es X.env)).any (·.1) = false := by rfl) : PE X (.Call (.Name x p) (e :: es) [] pos) (tCB r t) := by
  intro pins s σ H Q I h
  refine wpAny_Call_Name_kw (ld_blt I hg hm hv ?_ hn hdb)
  exact PyProof.Rows.callWith_type1 (thn (ha pos pins s σ H _ I h) fun us s1 ⟨vs, H1, I1, r1, q1⟩ => hc pins s1 σ H1 vs us Q I1 r1 q1) he hpl
end
end L2
end
section
namespace HT
open PySem PyProof.Rows
section
open PySem.SeqAt
open PySem.AutoSeq1 (wpAny_loadPart')
open PySem.MeetsSeq PySem.MeetsSeq2 PySem.MeetsSeq3
end
section
variable {prog : Program} {w : World} {A : Around} {E : Value → Shared → Prop} {s : Shared}
theorem cat_tup {t b : Addr} {vs ws : List Value} {Q : Value → Shared → Prop} (ht : IsTup s.heap t vs.toArray) (hb : IsTup s.heap b ws.toArray) (hv : vs ≠ [])
    (h1 : ws = [] → Q (.ref t) s) (h2 : ws ≠ [] → Q (.ref s.heap.objs.size) { s with heap := s.heap.push { cls := .type "tuple", data := .seq (vs ++ ws).toArray } })
    (hsz : vs.length + ws.length ≤ sizeLine) : wpAny (model prog w) A (binaryOp .Add (.ref t) (.ref b)) Q E s := by
  obtain ⟨⟨cls, dd, data, sl⟩, ho, hc, n, hd⟩ := id ht
  obtain ⟨⟨cls2, dd2, data2, sl2⟩, ho2, hc2, n2, hd2⟩ := id hb
  simp only at hc hd hc2 hd2
  subst hc hd hc2 hd2
  have e : vs.toArray ++ ws.toArray = (vs ++ ws).toArray := by simp
  by_cases hw : ws = []
  · exact concat_meets ⟨_, ho, rfl⟩ ⟨_, ho2, rfl⟩ noFill_tuple_add seq_tuple_add PySem.F.slot_tuple_add PySem.F.entry_tuple_add (PySem.F.args_tuple_add_2 _ _)
      (tuple_addW1 t b vs.toArray ws.toArray n n2 dd dd2 sl sl2 (by simpa using hv) (by simp [hw])) ⟨ho, ho2, h1 hw⟩
  · refine concat_meets ⟨_, ho, rfl⟩ ⟨_, ho2, rfl⟩ noFill_tuple_add seq_tuple_add PySem.F.slot_tuple_add PySem.F.entry_tuple_add (PySem.F.args_tuple_add_2 _ _)
      (tuple_addW2 t b vs.toArray ws.toArray n n2 dd dd2 sl sl2 (by simpa using hv) (by simpa using hw) (by rw [List.size_toArray, List.size_toArray]; exact hsz)) ⟨ho, ho2, ?_⟩
    rw [e]
    exact h2 hw
def sIx (n d : Nat) : Option Int → Nat
  | none => d
  | some v => if v < 0 then (v + (n : Int)).toNat else min v.toNat n
theorem sIx_nat (n d k : Nat) : sIx n d (some (k : Int)) = min k n := by
  show (if (k : Int) < 0 then ((k : Int) + (n : Int)).toNat else min (k : Int).toNat n) = min k n
  rw [if_neg (by omega), Int.toNat_natCast]
theorem sIx_le (n d : Nat) (hd : d ≤ n) (o : Option Int) : sIx n d o ≤ n := by
  cases o with
  | none => exact hd
  | some v =>
    show (if v < 0 then (v + (n : Int)).toNat else min v.toNat n) ≤ n
    by_cases hv : v < 0
    · rw [if_pos hv]; omega
    · rw [if_neg hv]; exact Nat.min_le_right _ _
theorem clip_eq (v : Int) (n d : Nat) : (if v < 0 then max (v + (n : Int)) 0 else min v (n : Int)) = ((sIx n d (some v) : Nat) : Int) := by
  show (if v < 0 then max (v + (n : Int)) 0 else min v (n : Int)) = (((if v < 0 then (v + (n : Int)).toNat else min v.toNat n) : Nat) : Int)
  by_cases hv : v < 0
  · simp only [if_pos hv]; omega
  · simp only [if_neg hv]; omega
theorem adjust_gen (lo hi : Option Int) (n : Nat) : Builtin.Slice.sliceAdjust lo hi 1 (n : Int) = (((sIx n 0 lo : Nat) : Int), ((sIx n n hi : Nat) : Int)) := by
  have h1 : ¬ ((1 : Int) < 0) := by omega
  unfold Builtin.Slice.sliceAdjust
  simp only [h1, if_false]
  refine Prod.ext ?_ ?_
  · cases lo with
    | none => rfl
    | some v => exact clip_eq v n 0
  · cases hi with
    | none => rfl
    | some v => exact clip_eq v n n
theorem places_gen (i j : Nat) : Builtin.Slice.slicePlaces (i : Int) (j : Int) 1 = j - i := by
  unfold Builtin.Slice.slicePlaces
  have h1 : (1 : Int) > 0 := by omega
  simp only [h1, if_true, Int.ediv_one]
  split <;> omega
theorem slicePart_ {v : Value} {o : Option Int} {Q : Option Int → Shared → Prop} (p : IsPart v o) (h : Q o s) : wpAny (model prog w) A (Builtin.Slice.slicePartIndex v) Q E s := by
  cases p with
  | none => exact slicePart_none h
  | int i t => exact slicePart_int h
theorem sliceApplied_gen {sl : Addr} {vl vu : Value} {lo hi : Option Int} {n : Nat} {Q : Int × Int × Nat → Shared → Prop} (hs : s.heap.IsSliceOf sl vl vu .none) (pl : IsPart vl lo) (pu : IsPart vu hi)
    (h : Q (((sIx n 0 lo : Nat) : Int), 1, sIx n n hi - sIx n 0 lo) s) : wpAny (model prog w) A (Builtin.Slice.sliceApplied (.ref sl) (pure (n : Int))) Q E s := by
  obtain ⟨os, hos, hcs, hds⟩ := id hs
  unfold Builtin.Slice.sliceApplied Builtin.Slice.sliceFields
  refine wpAny_bind (wpAny_bind (wpAny_field hos hds (x := vl) rfl (wpAny_bind (wpAny_field hos hds (x := vu) rfl (wpAny_bind (wpAny_field hos hds (x := .none) rfl (wpAny_pure ?_)))))))
  refine wpAny_bind (slicePart_none ?_)
  show wpAny _ _ (if ((1 : Int) == 0) = true then _ else _) _ _ s
  rw [if_neg (by decide)]
  refine wpAny_bind (slicePart_ pl (wpAny_bind (slicePart_ pu (wpAny_bind (wpAny_pure ?_)))))
  show wpAny _ _ (match Builtin.Slice.sliceAdjust lo hi 1 (n : Int) with | (lo, hi) => pure (lo, (1 : Int), Builtin.Slice.slicePlaces lo hi 1)) _ _ s
  rw [adjust_gen lo hi n]
  show wpAny _ _ (pure (((sIx n 0 lo : Nat) : Int), (1 : Int), Builtin.Slice.slicePlaces ((sIx n 0 lo : Nat) : Int) ((sIx n n hi : Nat) : Int) 1)) _ _ s
  rw [places_gen]
  exact wpAny_pure h
theorem pick_gen (xs : Array Value) (i k : Nat) : ((List.range k).filterMap fun (m : Nat) => xs[((i : Int) + (m : Int) * 1).toNat]?).toArray = ((xs.toList.drop i).take k).toArray := by
  have e : (fun (m : Nat) => xs[((i : Int) + (m : Int) * 1).toNat]?) = fun m => xs[i + m]? := by
    funext m
    have : ((i : Int) + (m : Int) * 1).toNat = i + m := by omega
    rw [this]
  rw [e]
  have := pick_run xs i k
  rw [List.filterMap_map] at this
  have e2 : ((fun x => xs[x]?) ∘ fun x => i + x) = fun m => xs[i + m]? := rfl
  rw [e2] at this
  rw [this]
theorem getItem_tuple_cut {t sl : Addr} {items : Array Value} {vl vu : Value} {lo hi : Option Int} {Q : Value → Shared → Prop} (ht : IsTup s.heap t items) (hs : s.heap.IsSliceOf sl vl vu .none) (pl : IsPart vl lo) (pu : IsPart vu hi)
    (hw : ¬ (sIx items.size 0 lo = 0 ∧ sIx items.size items.size hi = items.size))
    (h : Q (.ref s.heap.objs.size) { s with heap := s.heap.push { cls := .type "tuple", data := .seq ((items.toList.drop (sIx items.size 0 lo)).take (sIx items.size items.size hi - sIx items.size 0 lo)).toArray } })
    (hsz : items.size ≤ sizeLine) : wpAny (model prog w) A (getItem (.ref t) (.ref sl)) Q E s := by
  have htake : sizeOk (.seq ((items.toList.drop (sIx items.size 0 lo)).take (sIx items.size items.size hi - sIx items.size 0 lo)).toArray) := by
    show ((items.toList.drop (sIx items.size 0 lo)).take (sIx items.size items.size hi - sIx items.size 0 lo)).toArray.size ≤ sizeLine
    rw [List.size_toArray, List.length_take, List.length_drop, Array.length_toList]
    omega
  have hj : sIx items.size items.size hi ≤ items.size := sIx_le _ _ (Nat.le_refl _) hi
  obtain ⟨os, hos, hcs, hds⟩ := id hs
  have hTs : s.TypeIs (.ref sl) "slice" := ⟨os, hos, hcs⟩
  unfold getItem
  try with_reducible refine wpAny_holding ?_
  first | refine wpAny_bind (wpAny_pure ?_) | skip
  refine wpAny_bind (wpAny_sequenceKey ht.typeIs (by decide) ?_)
  refine wpAny_bind (wpAny_callSpecial?_slot (name := Str.ofString "__getitem__") ht.typeIs PyProof.Rows.slot_tuple_getitem
    (wpAny_call_entry PyProof.Rows.slot_tuple_getitem ht.typeIs entry_tuple_getitem ?_ (args_tuple_getitem _ _)))
  show wpAny _ _ (Builtin.Tuple.tupleItemsOf (.ref t) >>= _) _ _ s
  refine wpAny_bind (tupleItemsOf_ ht ?_)
  refine wpAny_bind (wpAny_typeOf hTs ?_)
  rw [if_pos (by decide)]
  refine wpAny_bind (sliceApplied_gen hs pl pu ?_)
  have hno : ¬ ((((sIx items.size 0 lo : Nat) : Int) == 0 && (1 : Int) == 1 && (sIx items.size items.size hi - sIx items.size 0 lo) == items.size) = true) := by
    intro q
    rw [Bool.and_eq_true, Bool.and_eq_true] at q
    have q1 : ((sIx items.size 0 lo : Nat) : Int) = 0 := eq_of_beq q.1.1
    have q2 : sIx items.size items.size hi - sIx items.size 0 lo = items.size := eq_of_beq q.2
    exact hw ⟨by omega, by omega⟩
  show wpAny _ _ (if (((sIx items.size 0 lo : Nat) : Int) == 0 && (1 : Int) == 1 && (sIx items.size items.size hi - sIx items.size 0 lo) == items.size) = true then _ else _) _ _ s
  rw [if_neg hno, pick_gen]
  first
    | exact wpAny_bind (m := Builtin.Tuple.tupleExact _) (wpAny_newObj_type (wpAny_pure ⟨_, rfl, wpAny_pure h⟩) htake)
    | exact wpAny_bind (m := Builtin.Tuple.tupleExact _) (wpAny_newObj_type (wpAny_bind (wpAny_pure (wpAny_pure ⟨_, rfl, wpAny_pure h⟩))) htake)
    | exact wpAny_bind (wpAny_bind (m := Builtin.Tuple.tupleExact _) (wpAny_newObj_type (wpAny_pure (wpAny_pure ⟨_, rfl, wpAny_pure h⟩)) htake))
    | exact wpAny_bind (wpAny_bind (m := Builtin.Tuple.tupleExact _) (wpAny_newObj_type (wpAny_pure ⟨_, rfl, wpAny_pure h⟩) htake))
end
end HT
namespace L2
open PySem PySem.Spec PyProof.Rows
abbrev TO := St → Hp → (Option Int → Hp → Prop) → Prop
def PO (X : Cx) (e : Option Expr) (t : TO) : Prop :=
  ∀ (pins : List (Addr × Obj)) (s : Shared) (σ : St) (H : Hp) (Q : Option Int → Hp → Prop), Inv X pins σ H s → t σ H Q →
    wpAny (model X.prog X.w) X.A (evalPart e X.env) (fun u s' => ∃ o H', Inv X pins σ H' s' ∧ IsPart u o ∧ Q o H') X.xe s
def tNoPart : TO := fun _ H Q => Q none H
def tPart (t : TE) : TO := fun σ H Q => t σ H fun x H1 => ∃ i, x = .int i ∧ Q (some i) H1
section
variable {X : Cx} {e : Expr} {te : TE} {lo hi : Option Expr} {tl th : TO} {pos p2 : Pos}
theorem po_none : PO X none tNoPart := by
  intro pins s σ H Q I h
  rw [evalPart_none]
  exact wpAny_pure ⟨none, H, I, .none, h⟩
theorem po_some (h : PE X e te) : PO X (some e) (tPart te) := by
  intro pins s σ H Q I hw
  rw [evalPart_some]
  refine thn (h pins s σ H _ I hw) fun u s1 ⟨x, H1, I1, r1, q1⟩ => ?_
  obtain ⟨i, rfl, q⟩ := q1
  obtain ⟨t, rfl⟩ := r1
  exact ⟨some i, H1, I1, .int i t, q⟩
def SlR (X : Cx) (r : V → Option Int → Option Int → Hp → VK → Prop) : Prop :=
  ∀ (pins : List (Addr × Obj)) (s : Shared) (σ : St) (H : Hp) (x : V) (v vl vu : Value) (lo hi : Option Int) (sl : Addr) (Q : VK), Inv X pins σ H s → RelV x v → s.heap.IsSliceOf sl vl vu .none → IsPart vl lo → IsPart vu hi → r x lo hi H Q →
    ∃ T id, typeLookup (.type T) "__getitem__" = pure (some (.builtin id)) ∧ s.TypeIs v T ∧ wpAny (model X.prog X.w) X.A (getItem v (.ref sl)) (EP X pins σ Q) X.xe s
def tSl (r : V → Option Int → Option Int → Hp → VK → Prop) (te : TE) (tl th : TO) : TE := fun σ H Q => te σ H fun x H1 => tl σ H1 fun l H2 => th σ H2 fun u H3 => r x l u H3 Q
theorem pe_slice {r : V → Option Int → Option Int → Hp → VK → Prop} (hr : SlR X r) (he : PE X e te) (hl : PO X lo tl) (hu : PO X hi th) : PE X (.Subscript e (.Slice lo hi none p2) pos) (tSl r te tl th) := by
  intro pins s σ H Q I h
  refine Subscript_ (thn (he pins s σ H _ I h) fun v s1 ⟨x, H1, I1, r1, q1⟩ => ?_)
  refine wpAny_Slice (thn (hl pins s1 σ H1 _ I1 q1) fun vl s2 ⟨l, H2, I2, pl, q2⟩ => thn (hu pins s2 σ H2 _ I2 q2) fun vu s3 ⟨u, H3, I3, pu, q3⟩ => ?_)
  rw [evalPart_none]
  refine wpAny_pure ?_
  have I4 : Inv X pins σ H3 { s3 with heap := s3.heap.push { cls := .type "slice", data := .fields #[vl, vu, .none] } } := I3.kept (t' := s3.toks) fun b ob q => Heap.get?_push_of_some _ q
  obtain ⟨T, id, hT, ht, hg⟩ := hr pins { s3 with heap := s3.heap.push { cls := .type "slice", data := .fields #[vl, vu, .none] } } σ H3 x v vl vu l u s3.heap.objs.size Q I4 r1 (Heap.IsSliceOf.new ..) pl pu q3
  show wpAny (model X.prog X.w) X.A (subscriptTail e (.Slice lo hi none p2) v (.ref s3.heap.objs.size)) (EP X pins σ Q) X.xe { s3 with heap := s3.heap.push { cls := .type "slice", data := .fields #[vl, vu, .none] } }
  exact tail_any (ops := [.ref s3.heap.objs.size, v]) ht hT hg (by with_unfolding_all rfl)
def cutV (xs : List V) (lo hi : Option Int) : List V := (xs.drop (HT.sIx xs.length 0 lo)).take (HT.sIx xs.length xs.length hi - HT.sIx xs.length 0 lo)
theorem cutV_length (xs : List V) (lo hi : Option Int) : (cutV xs lo hi).length ≤ xs.length := by
  unfold cutV
  rw [List.length_take, List.length_drop]
  omega
def rSlT (K : PySem.W.Frag) : V → Option Int → Option Int → Hp → VK → Prop := fun x lo hi H Q => ∃ a xs, x = .ref a ∧ SqT K H a xs ∧
  ¬ (HT.sIx xs.length 0 lo = 0 ∧ HT.sIx xs.length xs.length hi = xs.length) ∧ ∀ p, H p = none → Q (.ref p) (upd H p (.tup (cutV xs lo hi)))
theorem sl_tup : SlR X (rSlT X.K) := by
  intro pins s σ H x v vl vu lo hi sl Q I rx hs pl pu h
  obtain ⟨a, xs, rfl, hx, hw, q⟩ := h
  cases rx
  obtain ⟨its, r, ht, hz⟩ := I.tuple hx
  have hlen : its.toArray.size = xs.length := by rw [List.size_toArray]; exact r.length.symm
  refine ⟨"tuple", _, PyProof.Rows.slot_tuple_getitem.lookup, ht.typeIs, ?_⟩
  refine HT.getItem_tuple_cut ht hs pl pu (by rw [hlen]; exact hw) ?_ (by rw [hlen]; exact hz)
  rw [hlen]
  refine ⟨.ref s.heap.objs.size, _, I.laid (t' := s.toks) (o := .tup (cutV xs lo hi)) (fun b ob q => Heap.get?_push_of_some _ q) (Nat.le_refl _) ?_, rfl, q _ (I.hok.fresh (Nat.le_refl _))⟩
  exact ⟨⟨Nat.le_trans (cutV_length xs lo hi) hz, nod_push _ _⟩, _, (r.drop (HT.sIx xs.length 0 lo)).take (HT.sIx xs.length xs.length hi - HT.sIx xs.length 0 lo), IsTup.new _ _⟩
def rCatT (K : PySem.W.Frag) : R2 := fun x y H Q => ∃ a b xs ys, x = .ref a ∧ y = .ref b ∧ SqT K H a xs ∧ SqT K H b ys ∧ xs ≠ [] ∧ xs.length + ys.length ≤ sizeLine ∧
  (ys = [] → Q (.ref a) H) ∧ (ys ≠ [] → ∀ p, H p = none → Q (.ref p) (upd H p (.tup (xs ++ ys))))
theorem Vals.nil_iff {xs : List V} {us : List Value} (r : Vals xs us) : us = [] ↔ xs = [] := by
  cases r with
  | nil => simp
  | cons _ _ => simp
theorem op_catT : OpR X (binaryOp .Add) (rCatT X.K) := by
  intro pins s σ H x y v u Q I rx ry h
  obtain ⟨a, b, xs, ys, rfl, rfl, ha, hb, hx, hz, q1, q2⟩ := h
  cases rx
  cases ry
  obtain ⟨its, r1, p1, _⟩ := I.tuple ha
  obtain ⟨its2, r2, p2, _⟩ := I.tuple hb
  refine HT.cat_tup p1 p2 (fun z => hx (r1.nil_iff.mp z)) (fun z => ⟨.ref a, H, I, rfl, q1 (r2.nil_iff.mp z)⟩) (fun z => ?_) (by rw [← r1.length, ← r2.length]; exact hz)
  refine ⟨.ref s.heap.objs.size, _, I.laid (t' := s.toks) (o := .tup (xs ++ ys)) (fun b ob q => Heap.get?_push_of_some _ q) (Nat.le_refl _) ?_, rfl, q2 (fun w => z (r2.nil_iff.mpr w)) _ (I.hok.fresh (Nat.le_refl _))⟩
  exact ⟨⟨by rw [List.length_append]; exact hz, nod_push _ _⟩, _, r1.append r2, IsTup.new _ _⟩
end
end L2
namespace L2
open PySem PySem.Spec PyProof.Rows
def ixN (n : Nat) (i : Int) : Option Nat := if 0 ≤ i then (if i < n then some i.toNat else none) else if -(n : Int) ≤ i then some (i + n).toNat else none
def atI {α : Type} (xs : List α) (i : Int) : Option α := (ixN xs.length i).bind fun j => xs[j]?
theorem ixN_seq {n : Nat} {i : Int} {j : Nat} (h : ixN n i = some j) : seqIndex? i n = some j ∧ j < n ∧ -(n : Int) ≤ i ∧ i < n := by
  unfold ixN at h
  by_cases h0 : 0 ≤ i
  · rw [if_pos h0] at h
    by_cases h1 : i < n
    · rw [if_pos h1] at h
      have e : i.toNat = j := Option.some.inj h
      exact ⟨by rw [seqIndex_of h0 h1, e], by omega, by omega, h1⟩
    · rw [if_neg h1] at h; cases h
  · rw [if_neg h0] at h
    by_cases h1 : -(n : Int) ≤ i
    · rw [if_pos h1] at h
      have e : (i + n).toNat = j := Option.some.inj h
      exact ⟨by rw [seqIndex_neg (by omega) h1, e], by omega, h1, by omega⟩
    · rw [if_neg h1] at h; cases h
theorem atI_get {α : Type} {xs : List α} {i : Int} {v : α} (h : atI xs i = some v) : ∃ j, seqIndex? i xs.length = some j ∧ xs[j]? = some v ∧ j < xs.length ∧ -(xs.length : Int) ≤ i ∧ i < xs.length := by
  unfold atI at h
  cases e : ixN xs.length i with
  | none => rw [e] at h; cases h
  | some j =>
    rw [e] at h
    obtain ⟨h1, h2, h3, h4⟩ := ixN_seq e
    exact ⟨j, h1, h, h2, h3, h4⟩
theorem atI_nat {α : Type} {xs : List α} {j : Nat} {v : α} (h : xs[j]? = some v) : atI xs (j : Int) = some v := by
  have hj : j < xs.length := (List.getElem?_eq_some_iff.mp h).1
  have e : ixN xs.length (j : Int) = some j := by
    unfold ixN
    rw [if_pos (by omega), if_pos (by omega)]; simp
  unfold atI; rw [e]; exact h
def PlainIx (b : Expr) : Prop := ∀ o i, subscripted b false o i = operate [o, i] (getItem o i)
def IxR (X : Cx) (r : R2) : Prop :=
  ∀ (value slice : Expr) (pins : List (Addr × Obj)) (s : Shared) (σ : St) (H : Hp) (x y : V) (v u : Value) (Q : VK), Inv X pins σ H s → RelV x v → RelV y u → r x y H Q →
    subscripted slice false v u = operate [v, u] (getItem v u) → wpAny (model X.prog X.w) X.A (subscriptTail value slice v u) (EP X pins σ Q) X.xe s
def MtR (X : Cx) (id : String) (r : V → List V → Hp → VK → Prop) : Prop :=
  ∀ (pins : List (Addr × Obj)) (s : Shared) (σ : St) (H : Hp) (x : V) (xs : List V) (v : Value) (us : List Value) (Q : VK), Inv X pins σ H s → RelV x v → Vals xs us → r x xs H Q →
    wpAny (model X.prog X.w) X.A (call (.builtin id) (v :: us)) (EP X pins σ Q) X.xe s
section
variable {X : Cx} {a b : Expr} {ta tb : TE} {pos : Pos}
theorem pe_ix {r : R2} (hr : IxR X r) (ha : PE X a ta) (hb : PE X b tb) (hs : PlainIx b) : PE X (.Subscript a b pos) (tOp r ta tb) := by
  intro pins s σ H Q I h
  exact Subscript_ (binT ha hb I h fun v u s2 x y H2 I2 rx ry q => hr a b pins s2 σ H2 x y v u Q I2 rx ry q (hs _ _))
def rIxL (K : PySem.W.Frag) : R2 := fun x y H Q => ∃ p xs i v, x = .ref p ∧ y = .int i ∧ SqL K H p xs ∧ atI xs i = some v ∧ Q v H
def rIxT (K : PySem.W.Frag) : R2 := fun x y H Q => ∃ p xs i v, x = .ref p ∧ y = .int i ∧ SqT K H p xs ∧ atI xs i = some v ∧ Q v H
def rIxS : R2 := fun x y H Q => ∃ z i c, x = .str z ∧ y = .int i ∧ z.length ≤ sizeLine ∧ atI z.cps.toList i = some c ∧ Q (.str ⟨#[c]⟩) H
theorem ix_list : IxR X (rIxL X.K) := by
  intro value slice pins s σ H x y v u Q I rx ry h hs
  obtain ⟨p, xs, i, z, rfl, rfl, hq, he, q⟩ := h
  cases rx
  obtain ⟨t, rfl⟩ := ry
  obtain ⟨its, r, pl, hz⟩ := I.list hq
  obtain ⟨j, h1, h2, h3, h4, h5⟩ := atI_get he
  obtain ⟨w, ew, rw'⟩ := r.get h2
  have hl := r.length
  have hn := line63
  have fin : EP X pins σ Q w s := ⟨z, H, I, rw', q⟩
  by_cases h0 : 0 ≤ i
  · have hj : i.toNat = j := by
      rw [seqIndex_of h0 h5] at h1
      exact Option.some.inj h1
    exact item_listR pl.isList h0 (by omega) (by rw [hj]; simpa using ew) fin hs
  · have hj : (i + (its.toArray.size : Int)).toNat = j := by
      rw [seqIndex_neg (by omega) h4] at h1
      rw [List.size_toArray, ← hl]
      exact Option.some.inj h1
    exact subscriptTail_builtinR (x := w) pl.isList.typeIs slot_list_getitem.lookup
      (wpAny_getItem_list_neg (Q := fun r s' => r = w ∧ EP X pins σ Q r s') pl.isList (by omega) (by rw [List.size_toArray] <;> omega) (by omega) (by rw [hj]; simpa using ew) ⟨rfl, fin⟩) hs
theorem ix_tup : IxR X (rIxT X.K) := by
  intro value slice pins s σ H x y v u Q I rx ry h hs
  obtain ⟨p, xs, i, z, rfl, rfl, hq, he, q⟩ := h
  cases rx
  obtain ⟨t, rfl⟩ := ry
  obtain ⟨its, r, pl, hz⟩ := I.tuple hq
  obtain ⟨j, h1, h2, h3, h4, h5⟩ := atI_get he
  obtain ⟨w, ew, rw'⟩ := r.get h2
  have hl := r.length
  have hn := line63
  have fin : EP X pins σ Q w s := ⟨z, H, I, rw', q⟩
  exact subscriptTail_builtinR (x := w) pl.typeIs slot_tuple_getitem.lookup
    (getItem_tuple (j := j) (Q := fun r s' => r = w ∧ EP X pins σ Q r s') pl (by omega) (by omega) (by rw [List.size_toArray, ← hl]; exact h1) (by simpa using ew) ⟨rfl, fin⟩) hs
theorem ix_str : IxR X rIxS := by
  intro value slice pins s σ H x y v u Q I rx ry h hs
  obtain ⟨z, i, c, rfl, rfl, hz, he, q⟩ := h
  obtain ⟨t, rfl⟩ := rx
  obtain ⟨t', rfl⟩ := ry
  obtain ⟨j, h1, h2, h3, h4, h5⟩ := atI_get he
  have hl : z.cps.toList.length = z.length := by simp [Str.length]
  rw [hl] at h1 h4 h5
  have hn := line63
  exact tail_any (typeIs_str s z t) slot_str_getitem.lookup (getItem_str (c := c) (by
    have e1 : decide (i < -(2 ^ 63 : Int)) = false := decide_eq_false (by omega)
    have e2 : decide (i ≥ 2 ^ 63) = false := decide_eq_false (by omega)
    rw [e1, e2, Bool.or_false]) (by rw [h1]; simpa using h2) ⟨.str ⟨#[c]⟩, H, I.tok _, ⟨_, rfl⟩, q⟩) hs
theorem mapSeq_set (its : List Value) (n j : Nat) (u : Value) : Obj.mapSeq (·.setIfInBounds j u) { cls := .type "list", data := .seq its.toArray n } = { cls := .type "list", data := .seq (its.set j u).toArray n } := by
  simp [Obj.mapSeq]
theorem Inv.lst {pins : List (Addr × Obj)} {σ : St} {H : Hp} {s : Shared} {p : Addr} {xs : List V} (I : Inv X pins σ H s) (h : H p = some (.lst xs)) :
    ∃ (its : List Value) (n : Nat), Vals xs its ∧ s.heap.get? p = some { cls := .type "list", data := .seq its.toArray n } ∧ xs.length ≤ sizeLine := by
  obtain ⟨z, its, n, r, e⟩ := I.hok p _ h
  exact ⟨its, n, r, e, z⟩
theorem Inv.lstUpd {pins : List (Addr × Obj)} {σ : St} {H : Hp} {s : Shared} {p : Addr} {xs ys : List V} {its its' : List Value} {n n' : Nat} {f : Obj → Obj} (I : Inv X pins σ H s) (h : H p = some (.lst xs))
    (ho : s.heap.get? p = some { cls := .type "list", data := .seq its.toArray n }) (hf : f { cls := .type "list", data := .seq its.toArray n } = { cls := .type "list", data := .seq its'.toArray n' }) (r : Vals ys its') (hz : ys.length ≤ sizeLine) (t : Nat) :
    Inv X pins σ (upd H p (.lst ys)) { s with heap := s.heap.update p f, toks := t } := by
  have e : (s.heap.update p f).get? p = some { cls := .type "list", data := .seq its'.toArray n' } := by
    rw [Heap.get?_update_self f ho (by rw [hf] <;> rfl), hf]
  refine I.write (x := p) (e := p) (by rw [h]; trivial) (.inl rfl) (fun b u hb q => (Heap.get?_update_other _ _ (Ne.symm hb)).trans q) ⟨_, e⟩ ?_
  exact ⟨hz, its', n', r, e⟩
def rSetL : V → V → V → Hp → (Hp → Prop) → Prop := fun o i v H Q => ∃ p xs k j, o = .ref p ∧ i = .int k ∧ H p = some (.lst xs) ∧ ixN xs.length k = some j ∧ Q (upd H p (.lst (xs.set j v)))
theorem set_list : PSet X rSetL := by
  intro pins s σ H o i v ov iv u Q I ro ri rv h
  obtain ⟨p, xs, k, j, rfl, rfl, hp, hj, q⟩ := h
  cases ro
  obtain ⟨t, rfl⟩ := ri
  obtain ⟨its, n, r, ho, hz⟩ := I.lst hp
  obtain ⟨h1, h2, h3, h4⟩ := ixN_seq hj
  have hl := r.length
  have hn := line63
  have I' : Inv X pins σ (upd H p (.lst (xs.set j v))) { s with heap := s.heap.update p (Obj.mapSeq (·.setIfInBounds j u)) } :=
    I.lstUpd hp ho (mapSeq_set its n j u) (r.set rv j) (by rw [List.length_set]; exact hz) s.toks
  by_cases h0 : 0 ≤ k
  · have hk : k.toNat = j := by
      rw [seqIndex_of h0 h4] at h1
      exact Option.some.inj h1
    exact PySem.W.ki_setAt ho h0 (by omega) (by rw [List.size_toArray, ← hl]; exact h4) (by rw [hk]; exact ⟨_, I', q⟩)
  · have hk : (k + (its.toArray.size : Int)).toNat = j := by
      rw [seqIndex_neg (by omega) h3] at h1
      rw [List.size_toArray, ← hl]
      exact Option.some.inj h1
    exact PySem.W.ki_setBack ho (by omega) (by rw [List.size_toArray, ← hl]; exact h3) (by omega) (by rw [hk]; exact ⟨_, I', q⟩)
theorem slice_bounds (lo hi : Option Int) (n : Nat) : (sliceBounds lo hi none n).1 = ((HT.sIx n 0 lo : Nat) : Int) ∧ (sliceBounds lo hi none n).2.1 = ((HT.sIx n n hi : Nat) : Int) ∧ (sliceBounds lo hi none n).2.2 = 1 := by
  refine ⟨?_, ?_, rfl⟩
  · cases lo with
    | none => simp [sliceBounds, HT.sIx]
    | some i =>
      simp only [sliceBounds, HT.sIx, Option.getD_none, show (1 : Int) > 0 by decide, if_true]
      by_cases h : i < 0
      · simp only [h, if_true] <;> omega
      · simp only [h, if_false] <;> omega
  · cases hi with
    | none => simp [sliceBounds, HT.sIx]
    | some i =>
      simp only [sliceBounds, HT.sIx, Option.getD_none, show (1 : Int) > 0 by decide, if_true]
      by_cases h : i < 0
      · simp only [h, if_true] <;> omega
      · simp only [h, if_false] <;> omega
theorem slicePick_cut (its : List Value) (lo hi : Option Int) : slicePick its.toArray lo hi none = ((its.drop (HT.sIx its.length 0 lo)).take (HT.sIx its.length its.length hi - HT.sIx its.length 0 lo)).toArray := by
  obtain ⟨h1, h2, h3⟩ := slice_bounds lo hi its.toArray.size
  unfold slicePick
  rw [h1, h2, h3]
  simp only [sliceRange_one, pick_run, List.size_toArray] <;> rfl
def rSlL (K : PySem.W.Frag) : V → Option Int → Option Int → Hp → VK → Prop := fun x lo hi H Q => ∃ a xs, x = .ref a ∧ SqL K H a xs ∧ ∀ p, H p = none → Q (.ref p) (upd H p (.lst (cutV xs lo hi)))
theorem sl_list : SlR X (rSlL X.K) := by
  intro pins s σ H x v vl vu lo hi sl Q I rx hs pl pu h
  obtain ⟨a, xs, rfl, hx, q⟩ := h
  cases rx
  obtain ⟨its, r, ht, hz⟩ := I.list hx
  have hlen := r.length
  refine ⟨"list", _, slot_list_getitem.lookup, ht.isList.typeIs, ?_⟩
  refine wpAny_getItem_list_slice ht.isList hs pl pu .none (by simp) ?_ (by rw [List.size_toArray] <;> omega)
  rw [slicePick_cut, ← hlen]
  refine ⟨.ref s.heap.objs.size, _, I.laid (t' := s.toks) (o := .lst (cutV xs lo hi)) (fun b ob q => Heap.get?_push_of_some _ q) (Nat.le_refl _) ?_, rfl, q _ (I.hok.fresh (Nat.le_refl _))⟩
  exact ⟨Nat.le_trans (cutV_length xs lo hi) hz, _, 0, (r.drop (HT.sIx xs.length 0 lo)).take (HT.sIx xs.length xs.length hi - HT.sIx xs.length 0 lo), Heap.get?_push_size _ rfl⟩
def flatV : V → Bool
  | .non => true
  | .bl _ => true
  | .int _ => true
  | .str _ => true
  | _ => false
def eqV : V → V → Bool
  | .non, .non => true
  | .bl a, .bl b => a == b
  | .bl a, .int b => (if a then 1 else 0) == b
  | .int a, .bl b => a == (if b then 1 else 0)
  | .int a, .int b => a == b
  | .str a, .str b => a == b
  | _, _ => false
theorem eqAt_V {A : Around} {s : Shared} {y x : V} {u v : Value} (ry : RelV y u) (rx : RelV x v) (fy : flatV y = true) (fx : flatV x = true) : SeqAt.EqAt A s u v (eqV y x) := by
  cases y with
  | non =>
    cases ry
    cases x with
    | non => cases rx; exact SeqAt.EqAt.same _
    | bl b => cases rx; exact SeqAt.EqAt.none_bool b
    | int b => obtain ⟨t, rfl⟩ := rx; exact SeqAt.EqAt.none_int b t
    | str b => obtain ⟨t, rfl⟩ := rx; exact SeqAt.EqAt.none_str b t
    | _ => exact absurd (show false = true from fx) Bool.false_ne_true
  | bl a =>
    cases ry
    cases x with
    | non => cases rx; exact SeqAt.EqAt.bool_none a
    | bl b => cases rx; exact SeqAt.EqAt.bool_bool a b
    | int b => obtain ⟨t, rfl⟩ := rx; exact SeqAt.EqAt.bool_int a b t
    | str b => obtain ⟨t, rfl⟩ := rx; exact SeqAt.EqAt.bool_str a b t
    | _ => exact absurd (show false = true from fx) Bool.false_ne_true
  | int a =>
    obtain ⟨t', rfl⟩ := ry
    cases x with
    | non => cases rx; exact SeqAt.EqAt.int_none a t'
    | bl b => cases rx; exact SeqAt.EqAt.int_bool a t' b
    | int b => obtain ⟨t, rfl⟩ := rx; exact SeqAt.EqAt.int_int a t' b t
    | str b => obtain ⟨t, rfl⟩ := rx; exact SeqAt.EqAt.int_str a t' b t
    | _ => exact absurd (show false = true from fx) Bool.false_ne_true
  | str a =>
    obtain ⟨t', rfl⟩ := ry
    cases x with
    | non => cases rx; exact SeqAt.EqAt.str_none a t'
    | bl b => cases rx; exact SeqAt.EqAt.str_bool a t' b
    | int b => obtain ⟨t, rfl⟩ := rx; exact SeqAt.EqAt.str_int a t' b t
    | str b => obtain ⟨t, rfl⟩ := rx; exact SeqAt.EqAt.str_str a t' b t
    | _ => exact absurd (show false = true from fx) Bool.false_ne_true
  | _ => exact absurd (show false = true from fy) Bool.false_ne_true
def eqU (x : V) (u : Value) : Bool := match u with
  | .none => eqV .non x
  | .bool b => eqV (.bl b) x
  | .int i _ => eqV (.int i) x
  | .str z _ => eqV (.str z) x
  | _ => false
theorem eqU_of {x y : V} {u : Value} (r : RelV y u) (f : flatV y = true) : eqU x u = eqV y x := by
  cases y with
  | non => cases r; rfl
  | bl b => cases r; rfl
  | int i => obtain ⟨t, rfl⟩ := r; rfl
  | str z => obtain ⟨t, rfl⟩ := r; rfl
  | _ => exact absurd (show false = true from f) Bool.false_ne_true
theorem any_eqU {x : V} : ∀ {xs : List V} {us : List Value}, Vals xs us → xs.all flatV = true → us.any (eqU x) = xs.any fun y => eqV y x
  | _, _, .nil, _ => rfl
  | y :: xs, u :: us, .cons r t, f => by
    rw [List.all_cons, Bool.and_eq_true] at f
    rw [List.any_cons, List.any_cons, eqU_of r f.1, any_eqU t f.2]
theorem mem_eqAt {A : Around} {s : Shared} {x : V} {v : Value} (rx : RelV x v) (fx : flatV x = true) : ∀ {xs : List V} {us : List Value}, Vals xs us → xs.all flatV = true → ∀ u ∈ us, SeqAt.EqAt A s u v (eqU x u)
  | _, _, .nil, _ => fun u hu => by cases hu
  | y :: xs, u :: us, .cons r t, f => fun u' hu => by
    rw [List.all_cons, Bool.and_eq_true] at f
    rcases List.mem_cons.mp hu with rfl | hu
    · rw [eqU_of r f.1]; exact eqAt_V r rx f.1 fx
    · exact mem_eqAt rx fx t f.2 u' hu
def inV (x : V) (xs : List V) : Bool := xs.any fun y => eqV y x
def rIn (K : PySem.W.Frag) (neg : Bool) : R2 := fun x y H Q => ∃ p xs, y = .ref p ∧ (SqL K H p xs ∨ SqT K H p xs) ∧ flatV x = true ∧ xs.all flatV = true ∧ Q (.bl (if neg then !inV x xs else inV x xs)) H
theorem op_in_seq : OpR X (compareOp .In) (rIn X.K false) := by
  intro pins s σ H x y v u Q I rx ry h
  obtain ⟨p, xs, rfl, hq, fx, fs, q⟩ := h
  cases ry
  rcases hq with hq | hq
  · obtain ⟨its, r, pl, hz⟩ := I.list hq
    refine SeqAt.in_listAt (eqU x) pl.isList (fun w hw => mem_eqAt rx fx r fs w (by simpa using hw)) ⟨.bl _, H, I, rfl, ?_⟩
    rw [show its.toArray.any (eqU x) = its.any (eqU x) by simp, any_eqU r fs]
    exact q
  · obtain ⟨its, r, pl, hz⟩ := I.tuple hq
    refine SeqAt.in_tupleAt (eqU x) pl (fun w hw => mem_eqAt rx fx r fs w (by simpa using hw)) ⟨.bl _, H, I, rfl, ?_⟩
    rw [show its.toArray.any (eqU x) = its.any (eqU x) by simp, any_eqU r fs]
    exact q
theorem op_notIn_seq : OpR X (compareOp .NotIn) (rIn X.K true) := by
  intro pins s σ H x y v u Q I rx ry h
  obtain ⟨p, xs, rfl, hq, fx, fs, q⟩ := h
  cases ry
  rcases hq with hq | hq
  · obtain ⟨its, r, pl, hz⟩ := I.list hq
    refine SeqAt.notIn_listAt (eqU x) pl.isList (fun w hw => mem_eqAt rx fx r fs w (by simpa using hw)) ⟨.bl _, H, I, rfl, ?_⟩
    rw [show its.toArray.any (eqU x) = its.any (eqU x) by simp, any_eqU r fs]
    exact q
  · obtain ⟨its, r, pl, hz⟩ := I.tuple hq
    refine SeqAt.notIn_tupleAt (eqU x) pl (fun w hw => mem_eqAt rx fx r fs w (by simpa using hw)) ⟨.bl _, H, I, rfl, ?_⟩
    rw [show its.toArray.any (eqU x) = its.any (eqU x) by simp, any_eqU r fs]
    exact q
theorem call_len_seq : CallR X (.builtin "len") (fun xs H Q => ∃ p ys, xs = [.ref p] ∧ (SqL X.K H p ys ∨ SqT X.K H p ys) ∧ Q (.int ys.length) H) := by
  intro pins s σ H xs us Q I r h
  obtain ⟨p, ys, rfl, hq, q⟩ := h
  obtain ⟨u, rfl, rx⟩ := vals1 r
  cases rx
  have hn := line63
  rcases hq with hq | hq
  · obtain ⟨its, r', pl, hz⟩ := I.list hq
    have hlen := r'.length
    exact Calls.call_len_list pl.isList (by simp only [List.size_toArray] <;> omega) ⟨.int ys.length, H, I.tok _, ⟨s.toks + 1, by rw [List.size_toArray, hlen]⟩, q⟩
  · obtain ⟨its, r', pl, hz⟩ := I.tuple hq
    have hlen := r'.length
    exact len_tuple pl (by simp only [List.size_toArray] <;> omega) ⟨.int ys.length, H, I.tok _, ⟨s.toks + 1, by rw [List.size_toArray, hlen]⟩, q⟩
theorem call_tuple_of : CallR X (.type "tuple") (fun xs H Q => ∃ p ys, xs = [.ref p] ∧ ((SqL X.K H p ys ∧ ∀ l, H l = none → Q (.ref l) (upd H l (.tup ys))) ∨ (SqT X.K H p ys ∧ Q (.ref p) H))) := by
  intro pins s σ H xs us Q I r h
  obtain ⟨p, ys, rfl, h⟩ := h
  obtain ⟨u, rfl, rx⟩ := vals1 r
  cases rx
  rcases h with ⟨hq, q⟩ | ⟨hq, q⟩
  · obtain ⟨its, r', pl, hz⟩ := I.list hq
    have hlen := r'.length
    refine call_tuple_list pl.isList (fun h' kp => ?_) (by simp only [List.size_toArray] <;> omega)
    have I1 : Inv X pins σ H { s with heap := h' } := I.kept (t' := s.toks) kp
    have I2 : Inv X pins σ (upd H h'.objs.size (.tup ys)) { s with heap := h'.push { cls := .type "tuple", data := .seq its.toArray } } :=
      I1.laid (t' := s.toks) (fun b o e => Heap.get?_push_of_some _ e) (Nat.le_refl _) (show ObjOk X.prog X.w _ _ _ (.tup ys) from ⟨⟨hz, nod_push _ _⟩, its, r', IsTup.new _ _⟩)
    exact ⟨.ref h'.objs.size, _, I2, rfl, q _ (I1.hok.fresh (Nat.le_refl _))⟩
  · obtain ⟨its, r', pl, hz⟩ := I.tuple hq
    exact call_tuple_same pl ⟨.ref p, H, I, rfl, q⟩
def tyV (K : PySem.W.Frag) (T : String) (x : V) (H : Hp) : Prop := match x with
  | .str _ => T = "str"
  | .int _ => T = "int"
  | .ref p => (T = "list" ∧ ∃ xs, SqL K H p xs) ∨ (T = "tuple" ∧ ∃ o, K.lookup p = some o ∧ o.cls = .type "tuple" ∧ o.dict = none) ∨
      (T = "dict" ∧ ((∃ kvs, H p = some (.dK kvs)) ∨ ∃ kvs, H p = some (.dT kvs))) ∨ (T = "set" ∧ ∃ S n, H p = some (.set S n))
  | _ => False
theorem tyV_is {pins : List (Addr × Obj)} {σ : St} {H : Hp} {s : Shared} {T : String} {x : V} {v : Value} (I : Inv X pins σ H s) (r : RelV x v) (ty : tyV X.K T x H) :
    s.TypeIs v T ∧ ∀ a, v = .ref a → ∃ ob, s.heap.get? a = some ob ∧ ob.dict = none := by
  cases x with
  | str z =>
    obtain ⟨t, rfl⟩ := r
    cases (show T = "str" from ty)
    exact ⟨typeIs_str s z t, fun _ e => nomatch e⟩
  | int i =>
    obtain ⟨t, rfl⟩ := r
    cases (show T = "int" from ty)
    exact ⟨typeIs_int s i t, fun _ e => nomatch e⟩
  | ref p =>
    cases r
    rcases ty with ⟨rfl, xs, hq⟩ | ⟨rfl, o, hk, hc, hd⟩ | ⟨rfl, hk⟩ | ⟨rfl, S, n, hk⟩
    · obtain ⟨its, _, pl, _⟩ := I.list hq
      refine ⟨pl.isList.typeIs, fun a e => ?_⟩
      cases e
      obtain ⟨o, n, e, c, hd, _⟩ := pl
      exact ⟨o, e, hd⟩
    · refine ⟨⟨o, I.kIn p o hk, hc⟩, fun a e => ?_⟩
      cases e
      exact ⟨o, I.kIn _ o hk, hd⟩
    · have z : ∃ o, s.heap.get? p = some o ∧ o.ExactDict := by
        rcases hk with ⟨kvs, hk⟩ | ⟨kvs, hk⟩
        · obtain ⟨_, _, _, _, o, _, _, e, ex, _⟩ := I.hok p _ hk
          exact ⟨o, e, ex⟩
        · obtain ⟨_, _, _, _, o, _, _, e, ex, _⟩ := I.hok p _ hk
          exact ⟨o, e, ex⟩
      obtain ⟨o, e, ex⟩ := z
      refine ⟨⟨o, e, ex.1⟩, fun a e2 => ?_⟩
      cases e2
      exact ⟨o, e, ex.2.1⟩
    · obtain ⟨o, _, _, _, e, ex, _⟩ := I.hok p _ hk
      refine ⟨⟨o, e, ex.1⟩, fun a e2 => ?_⟩
      cases e2
      exact ⟨o, e, ex.2.1⟩
  | _ => exact False.elim ty
def tBM (K : PySem.W.Frag) (T : String) (r : V → List V → Hp → VK → Prop) (to : TE) (t : TA) : TE := fun σ H Q => to σ H fun x H1 => tyV K T x H1 ∧ t σ H1 fun xs H2 => r x xs H2 Q
variable {o e : Expr} {es : List Expr} {to : TE} {t : TA} {name : Str} {apos cpos : Pos} {T id : String} {r : V → List V → Hp → VK → Prop}
theorem pe_bm (pa : PlainAttrs T) (slot : Slot T name id) (hty : typeOf (.builtin id) = pure (.type "method_descriptor")) (hm : MtR X id r) (ho : PE X o to) (ha : PA X (e :: es) t)
    (hbase : attributeBase o name X.env (eval o X.env) = eval o X.env := by rfl)
    (hfew : ((backTo cpos (starEach (e :: es) X.env)).all (fun x => !x.1) && (backToKw cpos (keywordEach [] X.env)).all (fun x => x.1.isSome)
      && decide ((e :: es).length + ([] : List Keyword).length + (if ([] : List Keyword).isEmpty then 0 else 1) < 30)) = true := by rfl)
    (hline : (apos.endLine == cpos.line) = true := by rfl) (hs : starEach (e :: es) X.env = (false, eval e X.env) :: starEach es X.env := by rfl) (hplain : (backTo cpos (starEach es X.env)).any (·.1) = false := by rfl) :
    PE X (.Call (.Attribute o name apos) (e :: es) [] cpos) (tBM X.K T r to t) := by
  intro pins s σ H Q I h
  refine wpAny_Call_method_late hbase hfew hline rfl (thn (ho pins s σ H _ I h) fun v s1 ⟨x, H1, I1, r1, ty, q1⟩ => ?_)
  obtain ⟨h1, h2⟩ := tyV_is I1 r1 ty
  refine ⟨T, id, pa, slot, hty, h1, h2, ?_⟩
  have hA := ha cpos pins s1 σ H1 _ I1 q1
  rw [hs] at hA ⊢
  refine Calls.callWith_builtin (by show (false || (backTo cpos (starEach es X.env)).any (·.1)) = false; rw [hplain] <;> rfl) (Calls.evalArgs_plain ?_)
  exact thn hA fun us s2 ⟨vs, H2, I2, r2, q2⟩ => hm pins s2 σ H2 x vs v us Q I2 r1 r2 q2
/- xs.append(e), list.index on a module's tuple .. are MtR facts of 06m -/
end
end L2
namespace L2
open PySem PySem.Spec PyProof.Rows
def MtM (X : Cx) (id : String) (r : V → List V → Hp → VK → Prop) : Prop :=
  ∀ (pins : List (Addr × Obj)) (s : Shared) (σ : St) (H : Hp) (x : V) (xs : List V) (v : Value) (us : List Value) (Q : VK), Inv X pins σ H s → RelV x v → Vals xs us → r x xs H Q →
    wpAny (model X.prog X.w) X.A (call (.builtin id) (v :: us)) (EP X pins σ Q) X.xe s
theorem Vals.one : ∀ {x : V} {us : List Value}, Vals [x] us → ∃ u, us = [u] ∧ RelV x u
  | _, _, .cons r .nil => ⟨_, rfl, r⟩
theorem Vals.rep {xs : List V} {us : List Value} (h : Vals xs us) : ∀ k : Nat, Vals (List.replicate k xs).flatten (List.replicate k us).flatten
  | 0 => .nil
  | k + 1 => by
    rw [List.replicate_succ, List.replicate_succ, List.flatten_cons, List.flatten_cons]
    exact Vals.append h (Vals.rep h k)
theorem foldl_rep (its : List Value) : ∀ (k : Nat) (acc : List Value),
    List.foldl (fun x1 x2 => x1 ++ x2) acc.toArray (List.replicate k its.toArray) = (acc ++ (List.replicate k its).flatten).toArray
  | 0, acc => by simp
  | k + 1, acc => by
    have e : acc.toArray ++ its.toArray = (acc ++ its).toArray := by simp
    have e2 : (acc ++ its) ++ (List.replicate k its).flatten = acc ++ (List.replicate (k + 1) its).flatten := by
      rw [List.replicate_succ, List.flatten_cons, List.append_assoc]
    rw [← e2, ← foldl_rep its k (acc ++ its), ← e, List.replicate_succ, List.foldl_cons]
section
variable {X : Cx} {pins : List (Addr × Obj)} {σ : St} {H : Hp} {s : Shared} {l b : Addr} {xs ys zs : List V}
theorem Inv.lset {its its' : List Value} {n : Nat} {f : Array Value → Array Value} {t' : Nat} (I : Inv X pins σ H s) (hH : H l = some (.lst xs))
    (e : s.heap.get? l = some { cls := .type "list", data := .seq its.toArray n }) (hf : f its.toArray = its'.toArray) (hv : Vals ys its') (hz : ys.length ≤ sizeLine) :
    Inv X pins σ (upd H l (.lst ys)) { s with heap := s.heap.update l (Obj.mapSeq f), toks := t' } := by
  have q := PySem.IsL.update e f
  rw [hf] at q
  refine I.write (x := l) (e := l) (by rw [hH]; exact trivial) (.inl rfl) (fun b' u hb hu => (Heap.get?_update_other s.heap (Obj.mapSeq f) (Ne.symm hb)).trans hu) ⟨_, q⟩ ?_
  exact ⟨hz, its', _, hv, q⟩
theorem Inv.lnew {its : List Value} {t' : Nat} (I : Inv X pins σ H s) (hv : Vals ys its) (hz : ys.length ≤ sizeLine) :
    Inv X pins σ (upd H s.heap.objs.size (.lst ys)) { s with heap := s.heap.push { cls := .type "list", data := .seq its.toArray }, toks := t' } :=
  I.laid (fun _ _ q => Heap.get?_push_of_some _ q) (Nat.le_refl _) ⟨hz, its, 0, hv, Heap.get?_push_size _ rfl⟩
theorem Inv.fresh (I : Inv X pins σ H s) : H s.heap.objs.size = none := I.hok.fresh (Nat.le_refl _)
theorem Inv.lstM (I : Inv X pins σ H s) (hH : H l = some (.lst xs)) : xs.length ≤ sizeLine ∧ ∃ (its : List Value) (n : Nat), Vals xs its ∧ xs.length = its.length ∧ s.heap.get? l = some { cls := .type "list", data := .seq its.toArray n } := by
  obtain ⟨z, its, n, r, e⟩ := I.hok l _ hH
  exact ⟨z, its, n, r, r.length, e⟩
theorem notLongL {n : Nat} (h : n ≤ sizeLine) : Builtin.List.listTooLong n = false := by
  unfold Builtin.List.listTooLong
  exact decide_eq_false (by omega)
end
section
variable {X : Cx}
def rAppend : V → List V → Hp → VK → Prop := fun x vs H Q => ∃ l xs y, x = .ref l ∧ vs = [y] ∧ H l = some (.lst xs) ∧ xs.length < sizeLine ∧ Q .non (upd H l (.lst (xs ++ [y])))
theorem mt_append : MtM X "list.append" rAppend := by
  intro pins s σ H x vs v us Q I rx rv h
  obtain ⟨l, xs, y, rfl, rfl, hH, hz, q⟩ := h
  cases rx
  obtain ⟨u, rfl, ru⟩ := rv.one
  obtain ⟨z, its, n, r, hl, e⟩ := I.lstM hH
  refine call_meets F.slot_list_append ⟨_, e, rfl⟩ F.entry_list_append (F.args_list_append_2 _ _) (PySem.list_append l its.toArray n u (by rw [List.size_toArray]; omega)) ⟨e, ?_⟩
  refine ⟨.non, _, I.lset (its' := its ++ [u]) hH e (by simp) (r.append (.cons ru .nil)) ?_, rfl, q⟩
  rw [List.length_append, List.length_singleton]
  omega
def rCat : R2 := fun x y H Q => ∃ l b xs zs, x = .ref l ∧ y = .ref b ∧ H l = some (.lst xs) ∧ H b = some (.lst zs) ∧ xs.length + zs.length ≤ sizeLine ∧ ∀ p, H p = none → Q (.ref p) (upd H p (.lst (xs ++ zs)))
theorem op_cat : OpR X (binaryOp .Add) rCat := by
  intro pins s σ H x y v u Q I rx ry h
  obtain ⟨l, b, xs, zs, rfl, rfl, hH, hB, hz, q⟩ := h
  cases rx
  cases ry
  obtain ⟨z, its, n, r, hl, e⟩ := I.lstM hH
  obtain ⟨z2, its2, n2, r2, hl2, e2⟩ := I.lstM hB
  refine PySem.P.add_list e e2 ?_ (by rw [List.size_toArray, List.size_toArray]; omega)
  have ea : its.toArray ++ its2.toArray = (its ++ its2).toArray := by simp
  rw [ea]
  exact ⟨.ref _, _, I.lnew (t' := s.toks) (r.append r2) (by rw [List.length_append]; omega), rfl, q _ I.fresh⟩
def rRep : R2 := fun x y H Q => ∃ l k xs, x = .ref l ∧ y = .int k ∧ H l = some (.lst xs) ∧ -(2 ^ 63) ≤ k ∧ k < 2 ^ 63 ∧ xs.length * k.toNat ≤ sizeLine ∧
  ∀ p, H p = none → Q (.ref p) (upd H p (.lst (List.replicate k.toNat xs).flatten))
theorem len_rep {α : Type} (xs : List α) (k : Nat) : (List.replicate k xs).flatten.length = k * xs.length := by
  induction k with
  | zero => simp
  | succ k ih => rw [List.replicate_succ, List.flatten_cons, List.length_append, ih, Nat.succ_mul, Nat.add_comm]
theorem op_rep : OpR X (binaryOp .Mult) rRep := by
  intro pins s σ H x y v u Q I rx ry h
  obtain ⟨l, k, xs, rfl, rfl, hH, h1, h2, hz, q⟩ := h
  cases rx
  obtain ⟨t, rfl⟩ := ry
  obtain ⟨z, its, n, r, hl, e⟩ := I.lstM hH
  have hlen : its.toArray.size * k.toNat ≤ sizeLine := by rw [List.size_toArray, ← hl]; exact hz
  have hcap : ¬ its.toArray.size * k.toNat > (2 ^ 63 - 1) / 8 := by
    have : (sizeLine : Nat) ≤ (2 ^ 63 - 1) / 8 := by decide
    omega
  have hfit : ¬ (!Builtin.List.listFitsIndex k) = true := by
    rw [fitsIndex_both h1 h2]
    exact Bool.false_ne_true
  have hlong : ¬ Builtin.List.listTooLong (its.toArray.size * k.toNat) = true := by
    rw [notLongL hlen]
    exact Bool.false_ne_true
  have hnew : List.foldl (fun x1 x2 => x1 ++ x2) #[] (List.replicate (if its.toArray.isEmpty = true then 0 else k.toNat) its.toArray) = (List.replicate k.toNat its).flatten.toArray := by
    have f0 : ∀ m : Nat, List.foldl (fun x1 x2 => x1 ++ x2) #[] (List.replicate m its.toArray) = (List.replicate m its).flatten.toArray := fun m => by
      have := foldl_rep its m []
      rw [List.nil_append] at this
      exact this
    rw [f0]
    cases its with
    | nil => simp
    | cons a r' => rw [if_neg (by simp)]
  refine wpAny_binaryOp_repeat_ref (T := "list") (U := "int") (by decide) ⟨_, e, rfl⟩ (fun s' => typeIs_int s' k t) noFill_list_mul F.fills_int_mul F.slot_int_rmul repeat_list F.slot_int_index.lookup
    (call_meets F.slot_int_rmul (typeIs_int s k t) F.entry_int_rmul (F.args_int_rmul_2 _ _) (int___rmul___int_list k t l its.toArray n)
      ⟨e, rfl, ⟨_, e, rfl⟩, call_meets F.slot_list_mul ⟨_, e, rfl⟩ F.entry_list_mul (F.args_list_mul_2 _ _) (AutoListH.list___mul___list_int_3 l its.toArray n k t hfit hcap hlong) ⟨e, ?_⟩⟩)
  rw [hnew]
  exact ⟨.ref _, _, I.lnew (t' := s.toks) (r.rep k.toNat) (by rw [len_rep, Nat.mul_comm]; exact hz), rfl, q _ I.fresh⟩
end
section
variable {prog : Program} {w : World} {A : Around} {E : Value → Shared → Prop} {s : Shared}
set_option maxRecDepth 100000 in
end
section
variable {X : Cx}
end
end L2
end
section
namespace L2
open PySem PySem.Spec PyProof.Rows
section
variable {κ : Type} [DecidableEq κ]
def valV (kvs : List (κ × V)) (k : κ) : Option V := (kvs.find? fun kv => decide (kv.1 = k)).map (·.2)
def putK (kvs : List (κ × V)) (k : κ) (v : V) : List (κ × V) :=
  if (kvs.any fun kv => decide (kv.1 = k)) = true then kvs.map (fun kv => if kv.1 = k then (kv.1, v) else kv) else kvs ++ [(k, v)]
def dropK (kvs : List (κ × V)) (k : κ) : List (κ × V) := kvs.filter fun kv => decide (kv.1 ≠ k)
theorem valV_pos {p : κ × V} {r : List (κ × V)} {k : κ} (e : p.1 = k) : valV (p :: r) k = some p.2 := by simp [valV, List.find?_cons, e]
theorem valV_neg {p : κ × V} {r : List (κ × V)} {k : κ} (e : ¬ p.1 = k) : valV (p :: r) k = valV r k := by simp [valV, List.find?_cons, e]
theorem valV_any (k : κ) : ∀ kvs : List (κ × V), (kvs.any fun kv => decide (kv.1 = k)) = (valV kvs k).isSome
  | [] => rfl
  | p :: r => by
    rw [List.any_cons]
    by_cases e : p.1 = k
    · simp only [valV_pos e, decide_eq_true e, Bool.true_or, Option.isSome_some]
    · rw [valV_neg e, decide_eq_false e, Bool.false_or]; exact valV_any k r
theorem valV_map (k j : κ) (y : V) : ∀ kvs : List (κ × V), valV (kvs.map fun kv => if kv.1 = k then (kv.1, y) else kv) j = (valV kvs j).map fun x => if j = k then y else x
  | [] => rfl
  | p :: r => by
    have ih := valV_map k j y r
    rw [List.map_cons]
    by_cases h : p.1 = k
    · rw [if_pos h]
      by_cases e : p.1 = j
      · rw [valV_pos (p := (p.1, y)) e, valV_pos e, Option.map_some, if_pos (e.symm.trans h)]
      · rw [valV_neg (p := (p.1, y)) e, valV_neg e, ih]
    · rw [if_neg h]
      by_cases e : p.1 = j
      · rw [valV_pos (p := p) e, valV_pos e, Option.map_some, if_neg (fun z => h (e.trans z))]
      · rw [valV_neg (p := p) e, valV_neg e, ih]
theorem valV_snoc (k j : κ) (y : V) : ∀ kvs : List (κ × V), valV kvs k = none → valV (kvs ++ [(k, y)]) j = if j = k then some y else valV kvs j
  | [], _ => by
    by_cases e : k = j
    · rw [if_pos e.symm]; exact valV_pos (p := (k, y)) e
    · rw [if_neg (fun z => e z.symm)]; exact valV_neg (p := (k, y)) e
  | p :: r, hn => by
    rw [List.cons_append]
    have hk : ¬ p.1 = k := fun z => by rw [valV_pos z] at hn; cases hn
    rw [valV_neg hk] at hn
    have ih := valV_snoc k j y r hn
    by_cases e : p.1 = j
    · rw [valV_pos e, valV_pos e, if_neg (fun z => hk (e.trans z))]
    · rw [valV_neg e, valV_neg e, ih]
theorem valV_put (kvs : List (κ × V)) (k j : κ) (y : V) : valV (putK kvs k y) j = if j = k then some y else valV kvs j := by
  unfold putK
  by_cases a : (kvs.any fun kv => decide (kv.1 = k)) = true
  · rw [if_pos a, valV_map]
    rw [valV_any] at a
    by_cases e : j = k
    · obtain ⟨x, hx⟩ := Option.isSome_iff_exists.mp a
      rw [if_pos e, e, hx, Option.map_some, if_pos rfl]
    · rw [if_neg e]
      cases valV kvs j with
      | none => rfl
      | some x => rw [Option.map_some, if_neg e]
  · rw [if_neg a]
    refine valV_snoc k j y kvs ?_
    rw [valV_any] at a
    cases q : valV kvs k with
    | none => rfl
    | some x => rw [q] at a; exact (a rfl).elim
theorem length_putK (kvs : List (κ × V)) (k : κ) (v : V) : (putK kvs k v).length ≤ kvs.length + 1 := by
  unfold putK
  split
  · rw [List.length_map]; omega
  · rw [List.length_append, List.length_cons, List.length_nil]; omega
theorem RelO.isSome_eq {o : Option V} {u : Option Value} (r : RelO o u) : o.isSome = u.isSome := by
  cases o with
  | none => cases u with
    | none => rfl
    | some _ => exact (show False from r).elim
  | some _ => cases u with
    | none => exact (show False from r).elim
    | some _ => rfl
theorem RelO.getD {o : Option V} {u : Option Value} {d : V} {d' : Value} (r : RelO o u) (rd : RelV d d') : RelV (o.getD d) (u.getD d') := by
  cases o with
  | none => cases u with
    | none => exact rd
    | some _ => exact (show False from r).elim
  | some _ => cases u with
    | none => exact (show False from r).elim
    | some _ => exact r
theorem KV.val {kvs : List (κ × V)} {vs : List (κ × Value)} (r : KV kvs vs) (k : κ) : RelO (valV kvs k) (valueAt vs k) := by
  unfold KV at r
  induction r with
  | nil => exact True.intro
  | @cons p q ps qs h t ih =>
    obtain ⟨h1, h2⟩ := h
    by_cases e : p.1 = k
    · have e' : q.1 = k := h1.symm.trans e
      have b : valueAt (q :: qs) k = some q.2 := by simp [valueAt, List.find?_cons, e']
      rw [valV_pos e, b]; exact h2
    · have e' : ¬ q.1 = k := fun z => e (h1.trans z)
      have b : valueAt (q :: qs) k = valueAt qs k := by simp [valueAt, List.find?_cons, e']
      rw [valV_neg e, b]; exact ih
theorem KV.any {kvs : List (κ × V)} {vs : List (κ × Value)} (r : KV kvs vs) (k : κ) : (kvs.any fun kv => decide (kv.1 = k)) = vs.any fun kv => decide (kv.1 = k) := by
  unfold KV at r
  induction r with
  | nil => rfl
  | cons h t ih => rw [List.any_cons, List.any_cons, ih, h.1]
theorem KV.repl {kvs : List (κ × V)} {vs : List (κ × Value)} (r : KV kvs vs) (k : κ) {y : V} {u : Value} (ry : RelV y u) :
    KV (kvs.map fun kv => if kv.1 = k then (kv.1, y) else kv) (vs.map fun kv => if kv.1 = k then (kv.1, u) else kv) := by
  unfold KV at r ⊢
  induction r with
  | nil => exact .nil
  | @cons p q ps qs h t ih =>
    rw [List.map_cons, List.map_cons]
    refine .cons ?_ ih
    obtain ⟨h1, h2⟩ := h
    by_cases e : p.1 = k
    · rw [if_pos e, if_pos (h1.symm.trans e)]; exact ⟨h1, ry⟩
    · rw [if_neg e, if_neg (fun z => e (h1.trans z))]; exact ⟨h1, h2⟩
theorem KV.put {kvs : List (κ × V)} {vs : List (κ × Value)} (r : KV kvs vs) (k : κ) {y : V} {u : Value} (ry : RelV y u) : KV (putK kvs k y) (stored vs k u) := by
  unfold putK stored
  rw [r.any k]
  by_cases e : (vs.any fun kv => decide (kv.1 = k)) = true
  · rw [if_pos e, if_pos e]; exact r.repl k ry
  · rw [if_neg e, if_neg e]; exact Paired.snoc r ⟨rfl, ry⟩
theorem KV.length {kvs : List (κ × V)} {vs : List (κ × Value)} (r : KV kvs vs) : kvs.length = vs.length := Paired.length r
end
theorem kV_is {P : Program} {w : World} {k : Key} {u : Value} (r : RelV (kV k) u) : (mixKind P w).is k u = true := by
  cases k with
  | inl i => obtain ⟨t, e⟩ := (show ∃ t, u = Value.int i t from r); subst e; exact mixKind_int P w i t
  | inr x => obtain ⟨t, e⟩ := (show ∃ t, u = Value.str x t from r); subst e; exact mixKind_str P w x t
theorem items_are {P : Program} {w : World} : ∀ {ks : List Key} {us : List Value}, Vals (ks.map kV) us → ItemsAre (mixKind P w) ks us
  | [], _, r => by rw [List.map_nil] at r; cases r; exact .nil
  | k :: ks, _, r => by
    rw [List.map_cons] at r
    cases r with
    | cons h t => exact .cons (kV_is h) (items_are t)
abbrev KT (H : Hp) : List (List Key × V) → List (List Key × Addr × Value) → Prop := Paired fun p q => p.1 = q.1 ∧ H q.2.1 = some (.tup (p.1.map kV)) ∧ RelV p.2 q.2.2
theorem KT.val {H : Hp} {kvs : List (List Key × V)} {xs : List (List Key × Addr × Value)} (r : KT H kvs xs) (k : List Key) : RelO (valV kvs k) ((atKey xs k).map (·.2)) := by
  induction r with
  | nil => exact True.intro
  | @cons p q ps qs h t ih =>
    obtain ⟨h1, _, h2⟩ := h
    by_cases e : p.1 = k
    · have e' : q.1 = k := h1.symm.trans e
      have b : atKey (q :: qs) k = some q.2 := by simp [atKey, List.find?_cons, e']
      rw [valV_pos e, b]; exact h2
    · have e' : ¬ q.1 = k := fun z => e (h1.trans z)
      have b : atKey (q :: qs) k = atKey qs k := by simp [atKey, List.find?_cons, e']
      rw [valV_neg e, b]; exact ih
theorem KT.repl {H : Hp} {kvs : List (List Key × V)} {xs : List (List Key × Addr × Value)} (r : KT H kvs xs) (k : List Key) {y : V} {u : Value} (ry : RelV y u) :
    KT H (kvs.map fun kv => if kv.1 = k then (kv.1, y) else kv) (xs.map (putAt k u)) := by
  induction r with
  | nil => exact .nil
  | @cons p q ps qs h t ih =>
    rw [List.map_cons, List.map_cons]
    refine .cons ?_ ih
    obtain ⟨h1, h2, h3⟩ := h
    unfold putAt
    by_cases e : p.1 = k
    · rw [if_pos e, if_pos (h1.symm.trans e)]; exact ⟨h1, h2, ry⟩
    · rw [if_neg e, if_neg (fun z => e (h1.trans z))]; exact ⟨h1, h2, h3⟩
theorem KT.put {H : Hp} {kvs : List (List Key × V)} {xs : List (List Key × Addr × Value)} (r : KT H kvs xs) (k : List Key) {b : Addr} {y : V} {u : Value} (hb : H b = some (.tup (k.map kV))) (ry : RelV y u) :
    KT H (putK kvs k y) (storedH xs k b u) := by
  have e : (kvs.any fun kv => decide (kv.1 = k)) = (atKey xs k).isSome := by
    rw [valV_any, (r.val k).isSome_eq, Option.isSome_map]
  unfold putK storedH
  rw [e]
  by_cases q : (atKey xs k).isSome = true
  · rw [if_pos q, if_pos q]; exact r.repl k ry
  · rw [if_neg q, if_neg q]; exact Paired.snoc r ⟨rfl, hb, ry⟩
theorem KT.keeps {H H' : Hp} {kvs : List (List Key × V)} {xs : List (List Key × Addr × Value)} (r : KT H kvs xs) (ht : ∀ b ys, H b = some (.tup ys) → H' b = some (.tup ys)) : KT H' kvs xs :=
  Paired.mapP r fun _ _ z => ⟨z.1, ht _ _ z.2.1, z.2.2⟩
section
variable {P : Program} {w : World} {H : Hp} {h : Heap} {a : Addr}
theorem rd_of {u : HO} (ok : HOk P w H h) (e : Rd H a u) : ObjOk P w H h a u := e.ok ok
theorem dk_rd {kvs : List (Key × V)} (ok : HOk P w H h) (e : Rd H a (.dK kvs)) : kvs.length ≤ sizeLine ∧ (a == sysModules) = false ∧ ∃ vs, KV kvs vs ∧ h.DictOf (mixKind P w) a vs :=
  show ObjOk P w H h a (.dK kvs) from rd_of ok e
theorem dk_of {kvs : List (Key × V)} (ok : HOk P w H h) (e : H a = some (.dK kvs)) : kvs.length ≤ sizeLine ∧ (a == sysModules) = false ∧ ∃ vs, KV kvs vs ∧ h.DictOf (mixKind P w) a vs := dk_rd ok (.inl e)
theorem key_of {ks : List Key} (ok : HOk P w H h) (e : H a = some (.tup (ks.map kV))) : (tupleKind (mixKind P w)).is h ks a := by
  obtain ⟨_, its, r, o, h1, h2, n, h3⟩ := (show ObjOk P w H h a (.tup (ks.map kV)) from ok a _ e)
  exact ⟨o, its.toArray, n, h1, h2, h3, by simpa using items_are r⟩
theorem dt_rd {kvs : List (List Key × V)} (ok : HOk P w H h) (e : Rd H a (.dT kvs)) : kvs.length ≤ sizeLine ∧ (a == sysModules) = false ∧
    ∃ xs, KT H kvs xs ∧ h.DictOfH (tupleKind (mixKind P w)) a xs := by
  obtain ⟨z, y, xs, r, o, es, ep, h1, h2, h3, h4, h5⟩ := (show ObjOk P w H h a (.dT kvs) from rd_of ok e)
  refine ⟨z, y, xs, r, o, es, ep, h1, h2, h3, h4, fun x hx => ?_, h5⟩
  have all : ∀ {l : List (List Key × V)} {m : List (List Key × Addr × Value)}, KT H l m → ∀ x ∈ m, (tupleKind (mixKind P w)).is h x.1 x.2.1 := by
    intro l m q
    induction q with
    | nil => intro x hx; exact nomatch hx
    | @cons p q ps qs hq t ih =>
      intro x hx
      rcases List.mem_cons.mp hx with e | hx
      · subst e
        exact key_of ok (by rw [← hq.1]; exact hq.2.1)
      · exact ih x hx
  exact all r x hx
theorem dt_of {kvs : List (List Key × V)} (ok : HOk P w H h) (e : H a = some (.dT kvs)) : kvs.length ≤ sizeLine ∧ (a == sysModules) = false ∧
    ∃ xs, KT H kvs xs ∧ h.DictOfH (tupleKind (mixKind P w)) a xs := dt_rd ok (.inl e)
end
def DGet (H : Hp) (a : Addr) (y : V) (r : Option V) : Prop :=
  (∃ kvs k, Rd H a (.dK kvs) ∧ y = kV k ∧ r = valV kvs k) ∨ ∃ kvs k b, Rd H a (.dT kvs) ∧ y = .ref b ∧ H b = some (.tup (k.map kV)) ∧ r = valV kvs k
def DPut (H : Hp) (a : Addr) (y v : V) (H' : Hp) : Prop :=
  (∃ kvs k, H a = some (.dK kvs) ∧ y = kV k ∧ kvs.length < sizeLine ∧ H' = upd H a (.dK (putK kvs k v))) ∨
  ∃ kvs k b, H a = some (.dT kvs) ∧ y = .ref b ∧ H b = some (.tup (k.map kV)) ∧ kvs.length < sizeLine ∧ H' = upd H a (.dT (putK kvs k v))
theorem DGet.k {H : Hp} {a : Addr} {kvs : List (Key × V)} {k : Key} (e : H a = some (.dK kvs)) : DGet H a (kV k) (valV kvs k) := .inl ⟨kvs, k, .inl e, rfl, rfl⟩
theorem DPut.k {H : Hp} {a : Addr} {kvs : List (Key × V)} {k : Key} {v : V} (e : H a = some (.dK kvs)) (hl : kvs.length < sizeLine) : DPut H a (kV k) v (upd H a (.dK (putK kvs k v))) := .inl ⟨kvs, k, e, rfl, hl, rfl⟩
section
variable {X : Cx} {pins : List (Addr × Obj)} {σ : St} {H : Hp} {s : Shared} {a : Addr} {y v : V} {u r : Value} {o : Option V} {A : Around} {E : Value → Shared → Prop}
theorem Inv.big (I : Inv X pins σ H s) : sysModules < s.heap.objs.size := by
  have h : mainGlobals < s.heap.objs.size := (I.mod.glob.keeps I.bk).lt
  exact Nat.lt_trans (by decide) h
theorem d_getItem {Q : Value → Shared → Prop} (hu : A.units + 1 < cLine) (I : Inv X pins σ H s) (g : DGet H a y (some v)) (ry : RelV y u) (h : ∀ w' s', Inv X pins σ H s' → RelV v w' → Q w' s') :
    wpAny (model X.prog X.w) A (getItem (.ref a) u) Q E s := by
  rcases g with ⟨kvs, k, e, ey, l⟩ | ⟨kvs, k, b, e, ey, eb, l⟩
  · subst ey
    obtain ⟨z, hd, vs, rel, dd⟩ := dk_rd I.hok e
    obtain ⟨w', hw, rw'⟩ := RelO.some_of (v := v) (o := valueAt vs k) (by rw [l]; exact rel.val k)
    exact wpAny_getItem_of (kV_is ry) dd.mapOf hw (h w' _ (I.tok _) rw')
  · subst ey
    cases (show u = Value.ref b from ry)
    obtain ⟨z, hd, xs, rel, dd⟩ := dt_rd I.hok e
    obtain ⟨w', hw, rw'⟩ := RelO.some_of (v := v) (o := (atKey xs k).map (·.2)) (by rw [l]; exact rel.val k)
    obtain ⟨p, hp, hp2⟩ := Option.map_eq_some_iff.mp hw
    refine wpAny_getItem_heap (tupleKind_room_in1 hu) (key_of I.hok eb) dd hp ?_
    rw [hp2]
    exact h w' _ (I.tok _) rw'
theorem d_notIn {Q : Value → Shared → Prop} (hu : A.units + 1 < cLine) (I : Inv X pins σ H s) (g : DGet H a y o) (ry : RelV y u) (h : ∀ s', Inv X pins σ H s' → Q (.bool (!o.isSome)) s') :
    wpAny (model X.prog X.w) A (compareOp .NotIn u (.ref a)) Q E s := by
  rcases g with ⟨kvs, k, e, ey, l⟩ | ⟨kvs, k, b, e, ey, eb, l⟩
  · subst ey
    obtain ⟨z, hd, vs, rel, dd⟩ := dk_rd I.hok e
    refine wpAny_notIn_of (kV_is ry) hd dd.mapOf ?_
    rw [← (rel.val k).isSome_eq, ← l]
    exact h _ (I.tok _)
  · subst ey
    cases (show u = Value.ref b from ry)
    obtain ⟨z, hd, xs, rel, dd⟩ := dt_rd I.hok e
    refine wpAny_notIn_heap (tupleKind_room_in1 hu) (key_of I.hok eb) hd dd ?_
    have q := (rel.val k).isSome_eq
    rw [Option.isSome_map] at q
    rw [← q, ← l]
    exact h _ (I.tok _)
theorem d_write {h' : Heap} {t' : Nat} {ob : HO} (I : Inv X pins σ H s) (mu : Mut (H a)) (hs : Heap.SameBut a s.heap h') (he : ∃ q, h'.get? a = some q) (new : ObjOk X.prog X.w (upd H a ob) h' a ob) :
    Inv X pins σ (upd H a ob) { s with heap := h', toks := t' } :=
  I.write (x := a) (e := a) mu (.inl rfl) (fun b q hb z => (hs.2 b hb).trans z) he new
theorem dk_new {P : Program} {w : World} {H' : Hp} {h' : Heap} {kvs : List (Key × V)} {vs : List (Key × Value)} (z : kvs.length ≤ sizeLine) (hd : (a == sysModules) = false) (rel : KV kvs vs) (dd : h'.DictOf (mixKind P w) a vs) :
    ObjOk P w H' h' a (.dK kvs) := ⟨z, hd, vs, rel, dd⟩
theorem d_setItem {H' : Hp} {Q : Unit → Shared → Prop} (hu : A.units + 1 < cLine) (I : Inv X pins σ H s) (g : DPut H a y v H') (ry : RelV y u) (rv : RelV v r) (h : ∀ s', Inv X pins σ H' s' → Q () s') :
    wpAny (model X.prog X.w) A (setItem (.ref a) u r) Q E s := by
  rcases g with ⟨kvs, k, e, ey, l, eH⟩ | ⟨kvs, k, b, e, ey, eb, l, eH⟩
  · subst ey eH
    obtain ⟨z, hd, vs, rel, dd⟩ := dk_of I.hok e
    have hz : vs.length ≤ sizeLine := by rw [← rel.length]; exact z
    have hl : (putK kvs k v).length ≤ sizeLine := by have := length_putK kvs k v; omega
    refine wpAny_setItem_pairs (hsz := hz) (kV_is ry) dd fun h' dd' hs => h _ ?_
    have he : ∃ q, h'.get? a = some q := let ⟨q, _, _, hq, _⟩ := dd'; ⟨q, hq⟩
    exact d_write I (by rw [e]; exact True.intro) hs he (dk_new hl hd (rel.put k rv) dd')
  · subst ey eH
    cases (show u = Value.ref b from ry)
    obtain ⟨z, hd, xs, rel, dd⟩ := dt_of I.hok e
    have hz : xs.length ≤ sizeLine := by rw [← Paired.length rel]; exact z
    have hl : (putK kvs k v).length ≤ sizeLine := by have := length_putK kvs k v; omega
    refine wpAny_setItem_heap (hsz := hz) (tupleKind_room_in1 hu) (key_of I.hok eb) dd fun h' dd' hs => h _ ?_
    obtain ⟨q, es, ep, hq, h2, h3, h4, _, h5⟩ := dd'
    refine d_write I (by rw [e]; exact True.intro) hs ⟨q, hq⟩ ⟨hl, hd, _, (rel.put k eb rv).keeps fun c ys ec => ?_, q, es, ep, hq, h2, h3, h4, h5⟩
    rw [upd_ne (ne_of ec e (fun z => nomatch z))]
    exact ec
end
section
variable {X : Cx} {pins : List (Addr × Obj)} {σ : St} {H : Hp} {s : Shared} {a : Addr} {kvs : List (Key × V)} {k : Key} {u : Value} {A : Around} {E : Value → Shared → Prop}
end
def NoSl (i : Expr) : Prop := ∀ ov iv, subscripted i false ov iv = operate [ov, iv] (getItem ov iv)
theorem subD_of {prog : Program} {w : World} {A : Around} {E : Value → Shared → Prop} {s : Shared} {env : Env} {value slice : Expr} {pos : Pos} {T id : String} {Q : Value → Shared → Prop}
    (hl : typeLookup (.type T) "__getitem__" = pure (some (.builtin id))) (hs : NoSl slice)
    (h : wpAny (model prog w) A (eval value env) (fun o s₁ => wpAny (model prog w) A (eval slice env) (fun i s₂ => s₂.TypeIs o T ∧ wpAny (model prog w) A (getItem o i) Q E s₂) E s₁) E s) :
    wpAny (model prog w) A (eval (.Subscript value slice pos) env) Q E s := by
  refine Subscript_ (wpAny_mono h (fun o s₁ h₁ => wpAny_mono h₁ (fun i s₂ h₂ => ?_) fun _ _ x => x) fun _ _ x => x)
  obtain ⟨hT, h₂⟩ := h₂
  unfold subscriptTail
  refine wpAny_bind ?_
  rw [getitemInPython_of_ne hT.not_modules]
  refine wpAny_bind (wpAny_specialOf hT hl ?_)
  have fin : wpAny (model prog w) A (subscripted slice false o i) (fun r s₃ => wpAny (model prog w) A (letTemporaryGo value o r >>= fun _ => pure r) Q E s₃) E s₂ := by
    rw [hs o i]
    exact wpAny_operating (wpAny_mono h₂ (fun r s₃ h₃ => wpAny_bind (wpAny_letTemporaryGo (wpAny_pure h₃))) fun _ _ x => x)
  first
    | exact wpAny_pure (wpAny_bind fin)
    | exact wpAny_bind (wpAny_pure (wpAny_bind fin))
    | exact wpAny_bind fin
section
variable {X : Cx} {o i e value : Expr} {pos pos' tpos : Pos} {td ty tv : TE}
end
theorem dk_empty {P : Program} {w : World} {H : Hp} (h : Heap) (hb : sysModules < h.objs.size) : ObjOk P w H (h.push { cls := .type "dict", data := .dict #[] }) h.objs.size (.dK []) :=
  ⟨Nat.zero_le _, beq_eq_false_iff_ne.mpr (Ne.symm (Nat.ne_of_lt hb)), [], .nil, Heap.DictOf.new h⟩
section
variable {X : Cx} {pos : Pos}
end
structure M1 (X : Cx) (o : Expr) (m : Str) (apos : Pos) (e : Expr) (cpos : Pos) : Prop where
  base : attributeBase o m X.env (eval o X.env) = eval o X.env
  few : ((backTo cpos (starEach [e] X.env)).all (fun x => !x.1) && (backToKw cpos (keywordEach [] X.env)).all (fun x => x.1.isSome)
    && decide (([e] : List Expr).length + ([] : List Keyword).length + (if ([] : List Keyword).isEmpty then 0 else 1) < 30)) = true
  line : (apos.endLine == cpos.line) = true
  trees : backTo cpos (starEach [e] X.env) = [(false, eval e X.env)]
structure M2 (X : Cx) (o : Expr) (m : Str) (apos : Pos) (e f : Expr) (cpos : Pos) : Prop where
  base : attributeBase o m X.env (eval o X.env) = eval o X.env
  few : ((backTo cpos (starEach [e, f] X.env)).all (fun x => !x.1) && (backToKw cpos (keywordEach [] X.env)).all (fun x => x.1.isSome)
    && decide (([e, f] : List Expr).length + ([] : List Keyword).length + (if ([] : List Keyword).isEmpty then 0 else 1) < 30)) = true
  line : (apos.endLine == cpos.line) = true
  trees : backTo cpos (starEach [e, f] X.env) = [(false, eval e X.env), (false, eval f X.env)]
def IsD (H : Hp) (a : Addr) : Prop := (∃ kvs, Rd H a (.dK kvs)) ∨ ∃ kvs, Rd H a (.dT kvs)
theorem isD_at {X : Cx} {pins : List (Addr × Obj)} {σ : St} {H : Hp} {s : Shared} {a : Addr} (I : Inv X pins σ H s) (d : IsD H a) :
    s.TypeIs (.ref a) "dict" ∧ (∀ b, Value.ref a = .ref b → ∃ ob, s.heap.get? b = some ob ∧ ob.dict = none) ∧ (a == sysModules) = false := by
  rcases d with ⟨kvs, e⟩ | ⟨kvs, e⟩
  · obtain ⟨_, hd, vs, _, dd⟩ := dk_rd I.hok e
    refine ⟨dd.typeIs, fun b q => ?_, hd⟩
    cases q
    obtain ⟨ob, _, _, h1, h2, _⟩ := dd
    exact ⟨ob, h1, h2.2.1⟩
  · obtain ⟨_, hd, xs, _, dd⟩ := dt_rd I.hok e
    refine ⟨dd.typeIs, fun b q => ?_, hd⟩
    cases q
    obtain ⟨ob, _, _, h1, h2, _⟩ := dd
    exact ⟨ob, h1, h2.2.1⟩
section
variable {X : Cx} {pins : List (Addr × Obj)} {σ : St} {H : Hp} {s : Shared} {a : Addr} {y d : V} {u r : Value} {o : Option V} {A : Around} {E : Value → Shared → Prop}
theorem d_get2 {Q : Value → Shared → Prop} (hu : A.units + 1 < cLine) (I : Inv X pins σ H s) (g : DGet H a y o) (ry : RelV y u) (rd : RelV d r) (h : ∀ w' s', Inv X pins σ H s' → RelV (o.getD d) w' → Q w' s') :
    wpAny (model X.prog X.w) A (call (.builtin "dict.get") [.ref a, u, r]) Q E s := by
  rcases g with ⟨kvs, k, e, ey, l⟩ | ⟨kvs, k, b, e, ey, eb, l⟩
  · subst ey
    obtain ⟨z, hd, vs, rel, dd⟩ := dk_rd I.hok e
    refine call_meetsIn PySem.F.slot_dict_get dd.typeIs PySem.F.entry_dict_get (PySem.F.args_dict_get_3 _ _ _) (meets_dict_get_default (mixKind X.prog X.w) a (kV_is ry) hd r) ⟨_, dd.mapOf, h _ _ (I.tok _) ?_⟩
    rw [l]
    exact (rel.val k).getD rd
  · subst ey
    cases (show u = Value.ref b from ry)
    obtain ⟨z, hd, xs, rel, dd⟩ := dt_rd I.hok e
    refine call_meetsIn PySem.F.slot_dict_get dd.typeIs PySem.F.entry_dict_get (PySem.F.args_dict_get_3 _ _ _) (meetsH_dict_get_default (tupleKind (mixKind X.prog X.w)) a b hd r) ⟨tupleKind_room_in1 hu, k, xs, key_of I.hok eb, dd, h _ _ (I.tok _) ?_⟩
    rw [l]
    exact (rel.val k).getD rd
end
section
variable {X : Cx} {o e f : Expr} {apos cpos : Pos} {td ty tx : TE}
end
section
variable {X : Cx} {pins : List (Addr × Obj)} {σ : St} {H : Hp} {s : Shared} {a : Addr} {kvs : List (Key × V)} {A : Around} {E : Value → Shared → Prop}
end
section
variable {X : Cx} {pins : List (Addr × Obj)} {σ : St} {H : Hp} {s : Shared} {a : Addr} {y : V} {u : Value} {A : Around} {E : Value → Shared → Prop}
end
end L2
end
section
namespace Att
open PySem PySem.W PySem.Calls PyProof.Rows
theorem ints_of_wellAll {P : Params} {h : Heap} : ∀ (ns : List Int) (vs : List Value), WellAll P h vs (ns.map WData.int) → IntsAre vs ns := by
  intro ns
  induction ns with
  | nil =>
    intro vs w
    rw [List.map_nil] at w
    cases w
    exact .nil
  | cons n ns ih =>
    intro vs w
    rw [List.map_cons] at w
    cases w with
    | cons a b =>
      cases a
      exact .cons _ _ (ih _ b)
theorem script_of {l : OpenLaw} {n : Nat} (hn : l.most = some n) {P : Params} {h : Heap} {args : List WData} {vals : List Value}
    (hpre : l.row.toRowW.claim.pre args = true) (hwl : WellAll P h vals args) :
    ∃ a vs ns, vals = [Value.ref a] ∧ args = [WData.list (ns.map WData.int)] ∧ h.get? a = some { cls := .type "list", data := .seq vs.toArray } ∧ IntsAre vs ns ∧ ns.length ≤ n := by
  have hsh : WShape.hasAll [] args [.list .int] = true := (pre_splitW hpre).1
  have hc : l.pre.holds [] { args := args } = true := (pre_splitW hpre).2
  obtain ⟨d, r, rfl, h1, h2⟩ := hasAllW_cons hsh
  obtain rfl := hasAllW_nil h2
  obtain ⟨xs, rfl, h3⟩ := hasW_list h1
  obtain ⟨ns, rfl⟩ := items_int h3
  have hlen : ns.length ≤ n := by
    unfold OpenLaw.pre at hc
    have h4 : (WTm.not (.lt (.lit (.int (n : Int))) (.len (.arg 0)))).holds [] { args := [.list (ns.map .int)] } = true := by
      have h4 := (holds_andW hc).1
      rw [hn] at h4
      exact h4
    have h5 := condW_of h4 (w_not (w_lt w_lit (w_len_list (w_arg rfl))))
    rw [List.length_map] at h5
    refine Nat.le_of_not_lt fun q => ?_
    have q' : (n : Int) < ((ns.length : Nat) : Int) := by omega
    first
      | (rw [decide_eq_true q'] at h5; exact absurd h5 (by decide))
      | (simp at h5; omega)
  cases hwl with
  | cons w1 w2 =>
    cases w2
    cases w1 with
    | list ho hall => exact ⟨_, _, ns, rfl, rfl, ho, ints_of_wellAll ns _ hall, hlen⟩
theorem post_true (l : OpenLaw) (args : List WData) : l.row.toRowW.claim.post args (.bool true) args = true :=
  postW_of (r := l.row.toRowW) (X := (true == true))
    (show WShape.has [] (.bool true) .bool = true by first | rfl | decide | simp [WShape.has, WShape.arms, WShape.armsAll])
    (show (WTm.eq .res (.lit (.bool true))).value [] { args := args, res := some (.bool true), after := args } = some (.bool (true == true)) from w_eq_bool (w_res rfl) w_lit) rfl
theorem attach_call {l : OpenLaw} {n : Nat} {q : Program} {loose : List Str} {XP : (Str → Option Value) → Heap → Prop} {YP : World → Heap → Prop} {d : DefRec}
    (hn : l.most = some n) (hdf : d.params.defaults = [])
    (call : ∀ (w : World) (s₀ s₁ : Shared) (mg mb : Str → Option Value) (fa : Addr) (o : Obj) (pm cd doc : Value) (a : Addr) (vs : List Value) (ns : List Int),
      Ground q loose [] XP w s₀ mg mb s₁.heap → YP w s₁.heap →
      s₁.heap.get? fa = some o → o.data = .func (docDef d.name d.params d.body d.scope pm cd doc) → s₁.heap.CodeRec cd d.name → mg d.name = some (.ref fa) →
      s₁.heap.get? a = some { cls := .type "list", data := .seq vs.toArray } → IntsAre vs ns → ns.length ≤ n → s₁.gens = #[] →
      codeAny (model l.prog w) callerA (.call (.ref fa) ⟨[.ref a], []⟩) (fun r s' => r = .ok (.ret (.bool true)) ∧ OldK s₁.heap s'.heap ∧ s'.os = s₁.os ∧ AllBare s'.gens) s₁) :
    WalkO q loose XP YP l.row.toRowW d [] (fun f vs => PySem.call f vs) := by
  intro w s₀ s₁ mg mb G Y fa o pm cd doc dV kV ho hd hcd hD hmg hg args vals as hpre hlay hrd hwl hlo
  obtain rfl : dV = .none := Dflts.none hD hdf
  obtain rfl : kV = .none := Dflts.noKw hD
  obtain ⟨a, vs, ns, rfl, rfl, hobj, hints, hlen⟩ := script_of hn hpre hwl
  refine enter_call (codeAny_mono (call w s₀ s₁ mg mb fa o pm cd doc a vs ns G Y ho (fd_plain hd) hcd hmg hobj hints hlen hg) fun r s' hq => ?_)
  obtain ⟨rfl, h2, h3, h4⟩ := hq
  exact ⟨.inl ⟨.bool true, .bool true, [], rfl, fun _ => rfl, .bool true, post_true l _, fun _ => ⟨List.Pairwise.nil, fun _ hm => (nomatch hm)⟩⟩, h2, h3, h4⟩
section
variable {prog : Program} {w : World} {A : Around} {E : Value → Shared → Prop} {s : Shared} {K : Frag}
def ledger (h : Heap) (L d : Addr) : List (Addr × Obj) := (List.range h.objs.size).filterMap fun a => if a = L ∨ a = d then none else (h.get? a).map fun o => (a, o)
end
end Att
namespace L2
open PySem PySem.Spec PyProof.Rows
theorem vals_ints : ∀ {vs : List Value} {ns : List Int}, IntsAre vs ns → Vals (ns.map V.int) vs
  | _, _, .nil => .nil
  | _, _, .cons n t h => .cons ⟨t, rfl⟩ (vals_ints h)
def Only (H : Hp) : Prop := ∀ b, H b = none ∨ ∃ o xs, H b = some (.frz o (.lst xs))
theorem law_call {P : Program} {w : World} {K : PySem.W.Frag} {mg mb : Str → Option Value} {CX : CXT} {k : Nat} {fa a : Addr} {fd : FuncData} {x : Str} {sp : Sp} {s₁ : Shared} {vs : List Value} {ns : List Int}
    (KX : K.In s₁.heap) (hns : s₁.heap.Ns mainGlobals mg) (hb : s₁.heap.Ns builtinsNs mb) (hbb : ∀ x : Str, x ≠ "__name__" → mb x = bootBuiltins x) (hlim : s₁.heap.NoLimit) (hg : s₁.gens = #[])
    (ha : s₁.heap.get? a = some { cls := .type "list", data := .seq vs.toArray }) (hi : IntsAre vs ns) (hl : ns.length ≤ sizeLine) (hr : Room k callerA)
    (F : ∀ base : Heap, K.In base → base.Ns mainGlobals mg → FnOk P w K mg base CX k fa fd [x] sp) (hbind : ∀ (s : Shared) (u : Value), BindsTo s fd ⟨[u], []⟩ [(x, u)])
    (hsp : ∀ H : Hp, Only H → SqL K H a (ns.map V.int) → sp [.ref a] H (fun v _ => v = .bl true) fun _ _ _ => False)
    (hCX : ∀ H e s', CX [] H s₁ (fun _ _ _ => False) e s' → False) :
    codeAny (model P w) callerA (.call (.ref fa) ⟨[.ref a], []⟩) (fun r s' => r = .ok (.ret (.bool true)) ∧ OldK s₁.heap s'.heap ∧ s'.os = s₁.os ∧ AllBare s'.gens) s₁ := by
  have rv := vals_ints hi
  have lenV := hi.length
  have core : ∀ H : Hp, Only H → SqL K H a (ns.map V.int) → HOk P w H s₁.heap → (∀ b, H b ≠ none → b = a) → (H a ≠ none → K.lookup a = none) →
      codeAny (model P w) callerA (.call (.ref fa) ⟨[.ref a], []⟩) (fun r s' => r = .ok (.ret (.bool true)) ∧ OldK s₁.heap s'.heap ∧ s'.os = s₁.os ∧ AllBare s'.gens) s₁ := by
    intro H hO hS hok hA hK
    have base_of : ∀ {b : Addr} {o : Obj}, s₁.heap.get? b = some o → H b = none → (hidT s₁.heap H).get? b = some o := fun e n => hidT_get e n
    have noA : ∀ {b : Addr} {o : Obj} {es : Array DictEntry} {ep : Nat}, s₁.heap.get? b = some o → o.data = .dict es ep → H b = none := fun {b o es ep} e d => by
      cases q : H b with
      | none => rfl
      | some u =>
        have e' : b = a := hA b (by rw [q]; simp)
        subst e'
        rw [ha] at e; cases e
        have d' : Data.seq vs.toArray _ = Data.dict es ep := d
        cases d'
    have nsK : ∀ {b : Addr} {m : Str → Option Value}, s₁.heap.Ns b m → (hidT s₁.heap H).Ns b m := fun {b m} ⟨o, es, ep, e, d, r⟩ => ⟨o, es, ep, base_of e (noA e d), d, r⟩
    have hKb : K.In (hidT s₁.heap H) := fun b o e => base_of (KX b o e) (by
      cases q : H b with
      | none => rfl
      | some u =>
        have e' : b = a := hA b (by rw [q]; simp)
        subst e'
        rw [hK (by rw [q]; simp)] at e; cases e)
    have hM : Mod K mg (hidT s₁.heap H) := ⟨hKb, nsK hns, ⟨mb, nsK hb, hbb⟩, let ⟨mc, h1, h2⟩ := hlim; ⟨mc, nsK h1, h2⟩⟩
    have e0 : Env0 P w K mg (hidT s₁.heap H) callerA [] s₁ H := ⟨rfl, hM, fun b o e => of_hidT e, Nat.le_of_eq (hidT_size _ _), trivial, fun b hb => absurd (show b ∈ ([] : List Addr) from hb) (by simp), hok, .of_eq hg⟩
    refine codeAny_mono ((F _ hKb (nsK hns)).run callerA [] s₁ H ⟨[.ref a], []⟩ [.ref a] [.ref a] _ _ hr e0 (hbind s₁ (.ref a)) (.cons rfl .nil) (hsp H hO hS)) fun r s' h => ?_
    cases r with
    | error e => exact (hCX H e s' h).elim
    | ok fl =>
      cases fl with
      | next => exact False.elim h
      | brk => exact False.elim h
      | cont => exact False.elim h
      | ret u =>
        obtain ⟨v, H', os, bare, un, hok', r', q⟩ := h
        have q' : v = .bl true := q
        subst q'
        obtain rfl : u = Value.bool true := r'
        refine ⟨rfl, OldK.of_keep fun b o e => ?_, os, bare⟩
        cases q : H b with
        | none => exact un.keep b o e q (by intro z; exact absurd (show b ∈ ([] : List Addr) from z) (by simp)) (by simp)
        | some u =>
          rcases hO b with z | ⟨ob, xs, z⟩
          · rw [q] at z; cases z
          · have z2 := un.frzs b ob _ z
            obtain ⟨e1, _⟩ := hok b _ z
            obtain ⟨e2, _⟩ := hok' b _ z2
            rw [e] at e1; cases e1
            exact e2
  cases hk : K.lookup a with
  | some o =>
    have e := KX a o hk
    rw [ha] at e
    cases e
    refine core (fun _ => none) (fun _ => .inl rfl) (.inr ⟨_, vs.toArray, _, hk, rfl, rfl, rfl, by rw [List.size_toArray, lenV]; exact hl, by simpa using rv⟩) (fun b u z => by have z' : (none : Option HO) = some u := z; cases z') (fun b z => absurd rfl z) fun z => absurd rfl z
  | none =>
    refine core (fun b => if b = a then some (.frz { cls := .type "list", data := .seq vs.toArray } (.lst (ns.map V.int))) else none) (fun b => ?_) (.inl (.inr ⟨{ cls := .type "list", data := .seq vs.toArray }, if_pos rfl⟩)) (fun b u z => ?_) (fun b z => ?_) fun _ => hk
    · by_cases hb : b = a
      · exact .inr ⟨_, _, if_pos hb⟩
      · exact .inl (if_neg hb)
    · by_cases hb : b = a
      · have z' := (if_pos hb).symm.trans z
        cases z'
        subst hb
        exact ⟨ha, by rw [List.length_map]; exact hl, vs, _, rv, ha⟩
      · have z' := (if_neg hb).symm.trans z
        cases z'
    · by_cases hb : b = a
      · exact hb
      · exact absurd (if_neg hb) z
end L2
namespace L2
open PySem PySem.Spec PyProof.Rows
theorem walk_of {l : PySem.W.OpenLaw} {n k : Nat} {q : Program} {loose : List Str} {XP : (Str → Option Value) → Heap → Prop} {YP : World → Heap → Prop} {d : DefRec} {K : Params → PySem.W.Frag} {CX : World → CXT} {sp : World → Sp} {x : Str}
    (hn : l.most = some n) (hn2 : n ≤ sizeLine) (hdf : d.params.defaults = []) (hr : Room k callerA)
    (hY : ∀ (w : World) (h : Heap), YP w h → (K w.params).In h)
    (F : ∀ (w : World) (mg : Str → Option Value) (fa : Addr) (h : Heap), (K w.params).In h → h.Ns mainGlobals mg → mg d.name = some (.ref fa) →
      ∃ fd : FuncData, (∀ (s : Shared) (u : Value), BindsTo s fd ⟨[u], []⟩ [(x, u)]) ∧
        ∀ base : Heap, (K w.params).In base → base.Ns mainGlobals mg → FnOk l.prog w (K w.params) mg base (CX w) k fa fd [x] (sp w))
    (hsp : ∀ (w : World) (H : Hp) (a : Addr) (ns : List Int), ns.length ≤ n → Only H → SqL (K w.params) H a (ns.map V.int) → sp w [.ref a] H (fun v _ => v = .bl true) fun _ _ _ => False)
    (hCX : ∀ (w : World) (H : Hp) (s : Shared) (e : Value) (s' : Shared), CX w [] H s (fun _ _ _ => False) e s' → False) :
    PySem.W.WalkO q loose XP YP l.row.toRowW d [] (fun f vs => PySem.call f vs) := by
  refine Att.attach_call hn hdf fun w s₀ s₁ mg mb fa o pm cd doc a vs ns G Y ho hd hcd hmg hobj hints hlen hg => ?_
  have KX := hY w _ Y
  obtain ⟨fd, hb, hF⟩ := F w mg fa _ KX G.T.g hmg
  exact law_call KX G.T.g G.T.b G.T.builtins G.T.nolimit hg hobj hints (Nat.le_trans hlen hn2) hr hF hb (fun H hO hS => hsp w H a ns hlen hO hS) fun H e s' => hCX w H s₁ e s'
end L2
/- THE LAST THEOREM (shape; LID, My.* are yours):
   My.Adr: a structure of the addresses that your layer names (classes, functions); My.Txt K t: a structure (Prop) of the equations over K;
   My.txt_mk : {K} {implicit addresses ..} (e1 : nsIn K mainGlobals "law" = some (some (.ref f))) (e2 : K.lookup f = some ⟨oc, od, .func (fnOf "law" "law" params body scope dV kV doc pm an cdv ct), sl⟩) (e3 : codeIn K cdv "law" = true) .. : ∃ t, My.Txt K t
set_option maxRecDepth 100000 in
set_option maxHeartbeats 0 in
(the tactic k_is has no namespace: write k_is) -/
namespace L2
open PySem PySem.Spec PyProof.Rows
def defArgs (s : Stmt) : Arguments := match s with
  | .FunctionDef _ a _ _ _ _ _ _ _ _ => a
  | _ => { posonlyargs := [], args := [], vararg := none, kwonlyargs := [], kw_defaults := [], kwarg := none, defaults := [] }
def defBody (s : Stmt) : List Stmt := match s with
  | .FunctionDef _ _ b _ _ _ _ _ _ _ => b
  | _ => []
def defScope (s : Stmt) : Scope := match s with
  | .FunctionDef _ _ _ _ _ _ sc _ _ _ => sc
  | _ => { kind := .function, names := [], isGenerator := false, isCoroutine := false }
abbrev CX0 : CXT := fun _ _ _ _ _ _ => False
abbrev E0 : XK := fun _ _ _ => False
theorem pass0 {X : Cx} : Passes CX0 X E0 := fun _ _ _ _ _ _ _ h => h.elim
structure Fun (K : PySem.W.Frag) (x qual : Str) (st : Stmt) (f : Addr) (fd : FuncData) : Prop where
  ex : ∃ (oc : Value) (od : Option Addr) (kV doc pm : Value) (an : Option Addr) (cdv ct : Value) (osl : Array (Option Value)),
    fd = PySem.W.fnOf x qual (defArgs st) (defBody st) (defScope st) .none kV doc pm an cdv ct ∧ K.lookup f = some ⟨oc, od, .func fd, osl⟩ ∧ PySem.W.codeIn K cdv qual = true
  kp : PySem.W.keepIn K (.ref f) = true
section
variable {P : Program} {w : World} {K : PySem.W.Frag} {mg : Str → Option Value} {base : Heap}
theorem Fun.ok {x qual : Str} {st : Stmt} {f : Addr} {fd : FuncData} {N ps : List Str} {k : Nat} {sp : Sp} (F : Fun K x qual st f fd) (S : FnScope N ps (defScope st)) (len : ∀ vs H Q E, sp vs H Q E → vs.length = ps.length)
    (hbody : ∀ (cdv : Value) (A : Around) (outer : List Env) (s : Shared) (H : Hp) (vs : List V) (Q : VK) (E : XK), Room k (A.deeper (envOfC qual (defScope st) s.heap.objs.size f cdv)) → sp vs H Q E →
      ∃ t, PSs (cxOf CX0 P w K mg base N qual (defScope st) f cdv A outer s H E).nox (defBody st) t ∧ t { nx := fun _ H' => Q .non H', rt := Q } (start N vs) H) : FnOk P w K mg base CX0 (k + 1) f fd ps sp := by
  obtain ⟨oc, od, kV, doc, pm, an, cdv, ct, osl, rfl, lk, hcd⟩ := F.ex
  refine fn_of lk hcd S len fun A outer s H vs Q E hr hsp => ?_
  obtain ⟨t, h, q⟩ := hbody cdv A outer s H vs Q E hr hsp
  exact ⟨t, h.nox, q⟩
theorem Fun.binds {x qual : Str} {st : Stmt} {f : Addr} {fd : FuncData} {ps : List Str} (F : Fun K x qual st f fd)
    (h : ∀ (kV doc pm : Value) (an : Option Addr) (cdv ct : Value) (us : List Value), us.length = ps.length → bindArgs (PySem.W.fnOf x qual (defArgs st) (defBody st) (defScope st) .none kV doc pm an cdv ct) ⟨us, []⟩ = pure (ps.zip us)) : Binds K fd ps [] := by
  obtain ⟨oc, od, kV, doc, pm, an, cdv, ct, osl, rfl, lk, hcd⟩ := F.ex
  exact .all (h kV doc pm an cdv ct)
theorem fun_mk {x qual : Str} {st : Stmt} {f : Addr} {oc : Value} {od an : Option Addr} {osl : Array (Option Value)} {kV doc pm cdv ct : Value} (l : K.lookup f = some ⟨oc, od, .func (PySem.W.fnOf x qual (defArgs st) (defBody st) (defScope st) .none kV doc pm an cdv ct), osl⟩)
    (c : PySem.W.codeIn K cdv qual = true) (k : PySem.W.keepIn K (.ref f) = true) : Fun K x qual st f (PySem.W.fnOf x qual (defArgs st) (defBody st) (defScope st) .none kV doc pm an cdv ct) := ⟨⟨oc, od, kV, doc, pm, an, cdv, ct, osl, rfl, l, c⟩, k⟩
end
section
variable {X : Cx}
theorem pv (i : Nat) {x : Str} {pos : Pos} (hN : X.N[i]? = some x := by rfl) (hv : Vis X.env.scope x := by first | exact Or.inl rfl | exact Or.inr (Or.inl rfl) | exact Or.inr (Or.inr rfl)) (hd : (x == ("__debug__" : Str)) = false := by decide)
    (hcd : (x == ("__classdict__" : Str)) = false := by decide) : PE X (.Name x pos) (tVar i) := pe_var hN hv hd hcd
end
theorem iteF {A B : Prop} (h : B) : if false = true then A else B := by
  rw [if_neg Bool.false_ne_true]
  exact h
theorem iteT {A B : Prop} (h : A) : if true = true then A else B := by
  rw [if_pos rfl]
  exact h
theorem ite2 {c A B : Prop} [Decidable c] (h1 : c → A) (h2 : ¬ c → B) : if c then A else B := by
  by_cases h : c
  · rw [if_pos h]
    exact h1 h
  · rw [if_neg h]
    exact h2 h
def Same (H H' : Hp) : Prop := ∀ b o, H b = some o → H' b = some o
theorem Same.refl (H : Hp) : Same H H := fun _ _ h => h
theorem Same.trans {H H1 H2 : Hp} (a : Same H H1) (b : Same H1 H2) : Same H H2 := fun c o h => b c o (a c o h)
section
variable {κ : Type} [DecidableEq κ]
end
end L2
end
section
set_option autoImplicit false
namespace L2
open PySem PySem.Spec PyProof.Rows
def clo (cells : List (Str × Addr)) : List (Str × NameKind) → List (Str × Addr) → List (Str × Addr)
  | [], acc => acc
  | (n, k) :: r, acc => if k == .free then clo cells r ((n, (cells.lookup n).getD 0) :: acc) else clo cells r acc
theorem clo_of {cells : List (Str × Addr)} : ∀ {names : List (Str × NameKind)} {acc : List (Str × Addr)} {x : Str} {c : Addr}, (∀ y ∈ names, y.2 = .free → ∃ c, cells.lookup y.1 = some c) →
    (clo cells names acc).lookup x = some c → cells.lookup x = some c ∨ acc.lookup x = some c
  | [], acc, x, c, _, h => .inr h
  | (n, k) :: r, acc, x, c, ha, h => by
    have har : ∀ y ∈ r, y.2 = .free → ∃ c, cells.lookup y.1 = some c := fun y hy => ha y (List.mem_cons_of_mem _ hy)
    unfold clo at h
    by_cases hk : k = .free
    · subst hk
      rw [if_pos (by rfl)] at h
      rcases clo_of har h with q | q
      · exact .inl q
      · obtain ⟨c', e⟩ := ha (n, .free) List.mem_cons_self rfl
        rw [List.lookup_cons] at q
        cases hx : x == n with
        | true =>
          rw [hx] at q
          have hx' : x = n := by simpa using hx
          have e' : cells.lookup n = some c' := e
          rw [e'] at q
          rw [hx', e']
          exact .inl q
        | false =>
          rw [hx] at q
          exact .inr q
    · rw [if_neg (by simpa using hk)] at h
      exact clo_of har h
theorem clo_acc {cells : List (Str × Addr)} : ∀ {names : List (Str × NameKind)} {acc : List (Str × Addr)} {x : Str}, (∃ c, acc.lookup x = some c) → ∃ c, (clo cells names acc).lookup x = some c
  | [], _, _, h => h
  | (n, k) :: r, acc, x, h => by
    unfold clo
    split
    · refine clo_acc ?_
      rw [List.lookup_cons]
      cases hx : x == n with
      | true => exact ⟨_, rfl⟩
      | false => exact h
    · exact clo_acc h
theorem clo_has {cells : List (Str × Addr)} : ∀ {names : List (Str × NameKind)} {acc : List (Str × Addr)} {x : Str}, (x, NameKind.free) ∈ names → ∃ c, (clo cells names acc).lookup x = some c
  | [], _, _, h => by simp at h
  | (n, k) :: r, acc, x, h => by
    unfold clo
    rcases List.mem_cons.mp h with e | e
    · cases e
      rw [if_pos (by rfl)]
      exact clo_acc ⟨(cells.lookup n).getD 0, by simp [List.lookup_cons]⟩
    · split
      · exact clo_has e
      · exact clo_has e
theorem closure_go {env : Env} {scope : Scope}
    (ha : ∀ y ∈ scope.names, y.2 = .free → ∃ c, env.cells.lookup y.1 = some c) : closureFor scope env = pure (clo env.cells scope.names []) := by
  have go : ∀ (names : List (Str × NameKind)) (acc : List (Str × Addr)), (∀ y ∈ names, y.2 = .free → ∃ c, env.cells.lookup y.1 = some c) →
      (forIn names acc fun (x : Str × NameKind) (cs : List (Str × Addr)) => (do
        if x.2 == .free then
          let c ← cellOf env x.1
          pure (ForInStep.yield ((x.1, c) :: cs))
        else pure (ForInStep.yield cs) : Sem (ForInStep (List (Str × Addr))))) = pure (clo env.cells names acc) := by
    intro names
    induction names with
    | nil => intro acc _; rfl
    | cons y r ih =>
      intro acc h
      obtain ⟨n, k⟩ := y
      have hr : ∀ y ∈ r, y.2 = .free → ∃ c, env.cells.lookup y.1 = some c := fun y hy => h y (List.mem_cons_of_mem _ hy)
      rw [List.forIn_cons]
      unfold clo
      by_cases hk : k = .free
      · subst hk
        obtain ⟨c, e⟩ := h (n, .free) List.mem_cons_self rfl
        have e' : env.cells.lookup n = some c := e
        have hc : cellOf env n = pure c := by
          unfold cellOf
          rw [e']
        simp only [beq_self_eq_true, if_true, hc, pure_bind, e', Option.getD_some]
        exact ih _ hr
      · have hb : (k == NameKind.free) = false := by simpa using hk
        simp only [hb, Bool.false_eq_true, if_false, pure_bind]
        exact ih _ hr
  have q := go scope.names [] ha
  unfold closureFor
  simp only [bind_pure]
  exact q
theorem relabel_lookup {scope : Scope} {env : Env} {x : Str} : ∀ {names : List (Str × NameKind)},
    (names.map fun (n, k) => if (k == NameKind.free && env.scope.kind == .function && env.kindOf n == some .cell) then (n, NameKind.cell) else (n, k)).lookup x =
      (names.lookup x).map fun k => if (k == NameKind.free && env.scope.kind == .function && env.kindOf x == some .cell) then NameKind.cell else k
  | [] => rfl
  | (n, k) :: r => by
    have ih := @relabel_lookup scope env x r
    show List.lookup x ((if (k == NameKind.free && env.scope.kind == .function && env.kindOf n == some .cell) = true then (n, NameKind.cell) else (n, k)) :: _) = _
    cases hx : x == n with
    | true =>
      have hx' : x = n := by simpa using hx
      subst hx'
      by_cases hc : (k == NameKind.free && env.scope.kind == .function && env.kindOf x == some .cell) = true
      · rw [if_pos hc]
        simp only [List.lookup_cons, hx, Option.map_some, hc, if_true]
      · rw [if_neg hc]
        simp only [List.lookup_cons, hx, Option.map_some, if_neg hc]
    | false =>
      by_cases hc : (k == NameKind.free && env.scope.kind == .function && env.kindOf n == some .cell) = true
      · rw [if_pos hc]
        simp only [List.lookup_cons, hx]
        exact ih
      · rw [if_neg hc]
        simp only [List.lookup_cons, hx]
        exact ih
theorem cells_app : ∀ (names : List (Str × NameKind)) (n : Nat) (acc : List (Str × Addr)), cellsFrom n names acc = cellsFrom n names [] ++ acc
  | [], _, _ => rfl
  | (x, k) :: r, n, acc => by
    unfold cellsFrom
    split
    · rw [cells_app r (n + 1) ((x, n) :: acc), cells_app r (n + 1) [(x, n)], List.append_assoc]
      rfl
    · exact cells_app r n acc
theorem cells_mem : ∀ {names : List (Str × NameKind)} {n : Nat} {x : Str} {c : Addr}, (x, c) ∈ cellsFrom n names [] → (x, NameKind.cell) ∈ names ∧ n ≤ c
  | [], _, _, _, h => by cases h
  | (y, k) :: r, n, x, c, h => by
    unfold cellsFrom at h
    split at h
    · rename_i hk
      rw [cells_app] at h
      rcases List.mem_append.mp h with q | q
      · obtain ⟨h1, h2⟩ := cells_mem q
        exact ⟨List.mem_cons_of_mem _ h1, by omega⟩
      · cases List.mem_singleton.mp q
        have e : k = .cell := by simpa using hk
        rw [e]
        exact ⟨List.mem_cons_self, Nat.le_refl _⟩
    · obtain ⟨h1, h2⟩ := cells_mem h
      exact ⟨List.mem_cons_of_mem _ h1, h2⟩
theorem look_app {α : Type} {x : Str} : ∀ (l m : List (Str × α)), (l ++ m).lookup x = (l.lookup x).or (m.lookup x)
  | [], m => by simp
  | (k, v) :: r, m => by
    rw [List.cons_append, List.lookup_cons, List.lookup_cons]
    cases x == k with
    | true => rfl
    | false => exact look_app r m
theorem nd_kind : ∀ {names : List (Str × NameKind)} {x : Str} {k k' : NameKind}, (names.map (·.1)).Nodup → names.lookup x = some k → (x, k') ∈ names → k' = k
  | [], _, _, _, _, h, _ => by cases h
  | (y, j) :: r, x, k, k', hn, h, hm => by
    rw [List.map_cons] at hn
    obtain ⟨n1, n2⟩ := List.nodup_cons.mp hn
    rw [List.lookup_cons] at h
    rcases List.mem_cons.mp hm with e | e
    · cases e
      rw [show (y == y) = true by simp] at h
      exact Option.some.inj h
    · cases hx : x == y with
      | true =>
        have hx' : x = y := by simpa using hx
        subst hx'
        exact absurd (List.mem_map.mpr ⟨_, e, rfl⟩) n1
      | false =>
        rw [hx] at h
        exact nd_kind n2 h e
abbrev allC (C : Addr) (cells : List (Str × Addr)) (names : List (Str × NameKind)) : List (Str × Addr) := cellsFrom (C + 1) names (clo cells names [])
theorem allC_cases {C : Addr} {cells : List (Str × Addr)} {names : List (Str × NameKind)} {x : Str} {c : Addr} (h : (allC C cells names).lookup x = some c) :
    ((x, c) ∈ cellsFrom (C + 1) names [] ∧ (x, NameKind.cell) ∈ names ∧ C + 1 ≤ c) ∨ (clo cells names []).lookup x = some c := by
  unfold allC at h
  rw [cells_app, look_app] at h
  cases q : (cellsFrom (C + 1) names []).lookup x with
  | none =>
    rw [q] at h
    exact .inr h
  | some d =>
    rw [q] at h
    cases h
    have m := PySem.mem_of_lookup q
    exact .inl ⟨m, cells_mem m⟩
theorem allC_free {C : Addr} {cells : List (Str × Addr)} {names : List (Str × NameKind)} {x : Str} (hn : (names.map (·.1)).Nodup) (h : names.lookup x = some .free) : (allC C cells names).lookup x = (clo cells names []).lookup x := by
  unfold allC
  rw [cells_app, look_app]
  cases q : (cellsFrom (C + 1) names []).lookup x with
  | none => rfl
  | some d =>
    have m := (cells_mem (PySem.mem_of_lookup q)).1
    cases nd_kind hn h m
theorem newEnv_comp {M : Model} {A : Around} {E : Value → Shared → Prop} {s : Shared} {scope : Scope} {cl : List (Str × Addr)} {env : Env} {Q : Env → Shared → Prop}
    (hQ : ∀ h', h'.Ns s.heap.objs.size (fun _ => none) → (∀ b o, s.heap.get? b = some o → h'.get? b = some o) → CellsOk h' (s.heap.objs.size + 1) (cellsFrom (s.heap.objs.size + 1) scope.names []) →
      Q { scope := scope, locals := s.heap.objs.size, globals := env.globals, cells := cellsFrom (s.heap.objs.size + 1) scope.names cl, qual := env.qual, func := none, code := env.code, frame := env.frame, builtins := env.builtins } { s with heap := h' }) :
    wpAny M A (newFunctionEnv scope env.globals cl [] env.qual none .none (some env)) Q E s := by
  simp only [newFunctionEnv, Option.isSome_some, if_true]
  refine wpAny_bind (wpAny_alloc ?_)
  refine wpAny_bind (wpAny_layCells _ (fun name kind cells => by cases hkc : kind == NameKind.cell <;> simp [hkc]) _ _ _ _ ?_)
  have ok := cellsFrom_ok scope.names (s.heap.push { cls := .type "dict", data := .dict #[] }) (s.heap.objs.size + 1) [] ⟨fun _ _ hm => (nomatch hm), List.Pairwise.nil⟩ (by rw [Heap.size_push]; exact Nat.le_refl _)
  rw [Heap.size_push] at ok
  rw [show ({ s with heap := s.heap.push { cls := .type "dict", data := .dict #[] } } : Shared).heap.objs.size = s.heap.objs.size + 1 from Heap.size_push ..]
  refine wpAny_bind ?_
  rw [List.forIn_nil]
  exact wpAny_pure (wpAny_pure (hQ _ ((Heap.Ns.new s.heap (.type "dict")).keeps (pushCells_keeps _ _)) (fun b o e => pushCells_keeps _ _ b o (Heap.get?_push_of_some _ e)) ok))
def cxComp (X : Cx) (scope : Scope) (cl : List (Str × Addr)) (N : List Str) (C : Addr) (s₃ : Shared) (H₃ : Hp) (fp : List Addr) : Cx where
  prog := X.prog
  w := X.w
  K := X.K
  mg := X.mg
  base := X.base
  A := X.A
  N := N
  s₀ := s₃
  H₀ := H₃
  env := compEnvC scope cl C X.env
  outer := X.stack
  stack := X.stack
  ex := fp
  calm := X.calm
  fn := fun x => scope.names.lookup x == some .cell
  pn := []
  xe := fun _ _ => False
structure CompScope (X : Cx) (scope : Scope) (own : List Str) (fr : List Nat) (N : List Str) : Prop where
  kind : scope.kind = .function
  nodup : (scope.names.map (·.1)).Nodup
  names : ∀ y ∈ scope.names, y.2 = .local → scope.names.lookup y.1 = some .local
  free : ∀ y ∈ scope.names, y.2 = .free → X.env.kindOf y.1 = some .cell ∨ X.env.kindOf y.1 = some .free
  len : N.length = own.length + fr.length
  isfr : ∀ (j i : Nat), fr[j]? = some i → ∃ x, N[own.length + j]? = some x ∧ X.N[i]? = some x ∧ scope.names.lookup x = some .free
  frs : ∀ (j : Nat) (x : Str), N[j]? = some x → j < own.length → own[j]? = some x
def frv (σ : St) (fr : List Nat) : St := fr.map fun i => (σ[i]?).join
def PTs (X : Cx) (ifs : List Expr) (t : TT) : Prop :=
  ∀ (pins : List (Addr × Obj)) (s : Shared) (σ : St) (H : Hp) (Q : Bool → Hp → Prop), Inv X pins σ H s → t σ H Q →
    wpAny (model X.prog X.w) X.A (forIn ifs true fun c r => if r = true then do let ok ← isTrue c X.env (eval c X.env); pure (ForInStep.yield ok) else pure (ForInStep.yield r)) (TP X pins σ Q) X.xe s
def tYes : TT := fun _ H Q => Q true H
theorem pts_nil {X : Cx} : PTs X [] tYes := fun _ _ _ H _ I h => wpAny_tests_nil ⟨H, I, h⟩
theorem pts_one {X : Cx} {c : Expr} {t : TT} (h : PT X c t) : PTs X [c] t := fun pins s σ H Q I hq => wpAny_tests_one (h pins s σ H Q I hq)
theorem compLoop_any {prog : Program} {w : World} {A : Around} {R : Result → Shared → Prop} {s : Shared} {elt target iter : Expr} {ifs : List Expr} {scope : Scope} {pos : Pos} {it acc : Value} {env : Env} (I : Nat → Shared → Prop)
    (turn : ∀ n s, I n s → wpAny (model prog w) A (pyNext it) (fun r s₁ => match r with
      | none => R (.ok .next) s₁
      | some v => wpAny (model prog w) A (letOwnedTupleGo target it v) (fun _ s₁' => wpAny (model prog w) A (assign target env v) (fun _ s₂ =>
          wpAny (model prog w) A (forIn ifs true fun c r => if r = true then do let ok ← isTrue c env (eval c env); pure (ForInStep.yield ok) else pure (ForInStep.yield r)) (fun ok s₃ =>
            if ok = true then wpAny (model prog w) A (eval elt env) (fun x s₄ =>
              wpAny (model prog w) A (call (.builtin "list.append") [acc, x]) (fun _ s₅ => ∃ m, m < n ∧ I m s₅) (fun _ _ => False) s₄) (fun _ _ => False) s₃
            else ∃ m, m < n ∧ I m s₃) (fun _ _ => False) s₂) (fun _ _ => False) s₁') (fun _ _ => False) s₁) (fun _ _ => False) s)
    (n : Nat) (h : I n s) :
    codeAny (model prog w) A (.compLoop (.ListComp elt [⟨target, iter, ifs, 0⟩] scope pos) 0 it acc env) R s := by
  refine codeAny_loop rfl I (fun n s hI => ?_) n h
  show wpAny _ A ((compTurn (.ListComp elt [⟨target, iter, ifs, 0⟩] scope pos) 0 it acc env).onRaise (fun x => do noteFrame x env; theTreesLotGoes x)) _ _ s
  refine wpAny_noted ?_
  rw [compTurn_list]
  refine wpAny_bind (wpAny_standAt (wpAny_bind (wpAny_mono (turn n s hI) (fun r s₁ h₁ => ?_) fun _ _ h' => h'.elim)))
  cases r with
  | none => exact wpAny_pure h₁
  | some v =>
    refine wpAny_bind (wpAny_mono h₁ (fun _ s₁' h₁' => ?_) fun _ _ h' => h'.elim)
    refine wpAny_bind (wpAny_mono h₁' (fun _ s₂ h₂ => wpAny_bind (wpAny_mono h₂ (fun ok s₃ h₃ => ?_) fun _ _ h' => h'.elim)) fun _ _ h' => h'.elim)
    cases ok with
    | false => exact wpAny_pure ⟨rfl, h₃⟩
    | true =>
      exact wpAny_bind (wpAny_bind (wpAny_mono h₃ (fun x s₄ h₄ => wpAny_bind (wpAny_mono h₄ (fun _ s₅ h₅ => wpAny_pure (wpAny_pure ⟨rfl, h₅⟩)) fun _ _ h' => h'.elim)) fun _ _ h' => h'.elim))
section
variable {X : Cx} {scope : Scope} {own N : List Str} {fr : List Nat} {pins : List (Addr × Obj)} {σ : St} {H2 H3 : Hp} {s2 s3 : Shared}
theorem CompScope.clo (S : CompScope X scope own fr N) (ok : X.Ok) : ∀ y ∈ scope.names, y.2 = .free → ∃ c, X.env.cells.lookup y.1 = some c := fun y hy e => ok.has y.1 (S.free y hy e)
theorem CompScope.sub (S : CompScope X scope own fr N) (ok : X.Ok) {x : Str} {c : Addr} (h : (L2.clo X.env.cells scope.names []).lookup x = some c) : X.env.cells.lookup x = some c := by
  rcases clo_of (S.clo ok) h with q | q
  · exact q
  · simp at q
theorem CompScope.look (S : CompScope X scope own fr N) (ok : X.Ok) {x : Str} (h : scope.names.lookup x = some .free) {cl : List (Str × Addr)} {C : Addr} :
    (compEnvC scope cl C X.env).kindOf x = some .cell ∨ (compEnvC scope cl C X.env).kindOf x = some .free := by
  show ((relabel scope X.env).names.lookup x) = _ ∨ ((relabel scope X.env).names.lookup x) = _
  unfold relabel
  show List.lookup x (List.map _ _) = _ ∨ List.lookup x (List.map _ _) = _
  rw [relabel_lookup (scope := scope), h]
  simp only [Option.map_some]
  split
  · exact .inl rfl
  · exact .inr rfl
theorem comp_ok (S : CompScope X scope own fr N) (I : Inv X pins σ H3 s3) {fp : List Addr} (hf : ∀ b ∈ fp, FpOk X pins H3 b) (hlt : ∀ b ∈ fp, b < s3.heap.objs.size) :
    (cxComp X scope (allC s3.heap.objs.size X.env.cells scope.names) N s3.heap.objs.size s3 H3 fp).Ok where
  mod := I.ok.mod
  kind := S.kind
  glob := I.ok.glob
  blt := I.ok.blt
  above := Nat.le_refl _
  inj := fun x y c h1 h2 => by
    have old : ∀ {z : Str}, (L2.clo X.env.cells scope.names []).lookup z = some c → c < s3.heap.objs.size := fun {z} h => by
      obtain ⟨v, q⟩ := I.cell z c (S.sub I.ok h)
      exact q.lt
    have ap := (cellsFrom_ok scope.names (s3.heap.push { cls := .type "dict", data := .dict #[] }) (s3.heap.objs.size + 1) [] ⟨fun _ _ hm => (nomatch hm), List.Pairwise.nil⟩ (by rw [Heap.size_push]; exact Nat.le_refl _)).apart
    rw [Heap.size_push] at ap
    rcases allC_cases h1 with ⟨m1, _, l1⟩ | q1
    · rcases allC_cases h2 with ⟨m2, _, _⟩ | q2
      · exact name_of_addr ap m1 m2
      · exact absurd (Nat.lt_trans l1 (old q2)) (Nat.lt_irrefl _)
    · rcases allC_cases h2 with ⟨m2, _, l2⟩ | q2
      · exact absurd (Nat.lt_trans l2 (old q1)) (Nat.lt_irrefl _)
      · exact I.ok.inj x y c (S.sub I.ok q1) (S.sub I.ok q2)
  has := fun x hx => by
    have hx : (relabel scope X.env).names.lookup x = some .cell ∨ (relabel scope X.env).names.lookup x = some .free := hx
    unfold relabel at hx
    have hx : List.lookup x (scope.names.map _) = some NameKind.cell ∨ List.lookup x (scope.names.map _) = some NameKind.free := hx
    rw [relabel_lookup (scope := scope)] at hx
    cases e : scope.names.lookup x with
    | none => rw [e] at hx; simp at hx
    | some k =>
      have hm := PySem.mem_of_lookup e
      rw [e] at hx
      simp only [Option.map_some] at hx
      have hk : k = .free ∨ k = .cell := by
        by_cases hk : k = .free
        · exact .inl hk
        · have hb : (k == NameKind.free) = false := by simpa using hk
          simp only [hb, Bool.false_and, Bool.false_eq_true, if_false] at hx
          rcases hx with z | z
          · exact .inr (Option.some.inj z)
          · exact .inl (Option.some.inj z)
      rcases hk with hk | hk
      · subst hk
        obtain ⟨c, q⟩ := clo_has (cells := X.env.cells) (acc := []) hm
        exact ⟨c, (allC_free S.nodup e).trans q⟩
      · subst hk
        exact Option.isSome_iff_exists.mp (PySem.W.cellsFrom_some scope.names _ _ (.inl e))
  cab := fun x c h q => by
    have e : scope.names.lookup x = some .cell := beq_iff_eq.mp h
    show s3.heap.objs.size ≤ c
    have q' : (allC s3.heap.objs.size X.env.cells scope.names).lookup x = some c := q
    unfold allC at q'
    rw [cells_app, look_app] at q'
    obtain ⟨d, z⟩ := Option.isSome_iff_exists.mp (PySem.W.cellsFrom_some scope.names (s3.heap.objs.size + 1) [] (.inl e))
    rw [z] at q'
    cases q'
    have := (cells_mem (PySem.mem_of_lookup z)).2
    omega
  hd := I.ok.hd
  frames := I.ok.frames
  stk := .inl rfl
  exf := fun b hb => ⟨Nat.ne_of_lt (hlt b hb), fun x c e => by
    rcases allC_cases e with ⟨_, _, l⟩ | q
    · exact Nat.ne_of_gt (Nat.lt_trans (hlt b hb) l)
    · exact (hf b hb).2.2.2.2.1 x c (S.sub I.ok q)⟩
  bs := I.bs
  bsz := Nat.le_trans I.ok.bsz I.sz
  noex := fun b o e hb => by
    rcases (hf b hb).2.2.2.1 with z | z
    · exact I.ok.noex b o e z
    · exact absurd (Nat.lt_of_lt_of_le (Nat.lt_of_lt_of_le (Heap.lt_size e) I.ok.bsz) z) (Nat.lt_irrefl _)
  exfs := fun b hb hm => by
    rcases List.mem_cons.mp (I.stkSub b hm) with z | z
    · exact (hf b hb).2.1 z
    · exact (hf b hb).2.2.1 z
  funs := I.stack
  frf := I.stkFree
theorem comp_inv (S : CompScope X scope own fr N) (I : Inv X pins σ H3 s3) {fp : List Addr} (hf : ∀ b ∈ fp, FpOk X pins H3 b) (hlt : ∀ b ∈ fp, b < s3.heap.objs.size) {h1 : Heap} {t : Nat} {m : Str → Option Value}
    (hn : h1.Ns s3.heap.objs.size m) (hk : ∀ b o, s3.heap.get? b = some o → h1.get? b = some o) (hco : CellsOk h1 (s3.heap.objs.size + 1) (cellsFrom (s3.heap.objs.size + 1) scope.names [])) :
    Inv (cxComp X scope (allC s3.heap.objs.size X.env.cells scope.names) N s3.heap.objs.size s3 H3 fp) [] (List.replicate own.length none ++ frv σ fr) H3 { s3 with heap := h1, toks := t } where
  ok := comp_ok S I hf hlt
  os := rfl
  bare := I.bare
  base := Un.kept hk
  loc := by
    refine ⟨m, hn, fun j x v e1 e2 e3 => ?_⟩
    have e1 : N[j]? = some x := e1
    by_cases hj : j < own.length
    · rw [List.getElem?_append_left (by simpa using hj), List.getElem?_replicate] at e2
      split at e2 <;> cases e2
    · rw [List.getElem?_append_right (by simpa using hj), List.length_replicate] at e2
      unfold frv at e2
      rw [List.getElem?_map] at e2
      cases ef : fr[j - own.length]? with
      | none => rw [ef] at e2; cases e2
      | some i =>
        rw [ef] at e2
        obtain ⟨x', n1, n2, n3⟩ := S.isfr _ _ ef
        rw [show own.length + (j - own.length) = j by omega, e1] at n1
        cases n1
        have e4 : (σ[i]?).join = some v := by simpa using e2
        have e5 : σ[i]? = some (some v) := by
          cases q : σ[i]? with
          | none => rw [q] at e4; cases e4
          | some z => rw [q] at e4; have e4 : z = some v := e4; rw [e4]
        have hfree := S.free _ (PySem.mem_of_lookup n3) rfl
        obtain ⟨mX, hnX, hl⟩ := I.loc
        have hv : Vis X.env.scope x := by
          rcases hfree with z | z
          · exact .inr (.inl z)
          · exact .inr (.inr z)
        obtain ⟨u, r, l⟩ := hl i x v n2 e5 hv
        refine ⟨u, r, .inr ⟨S.look I.ok n3, ?_⟩⟩
        rcases l with ⟨z, _⟩ | ⟨_, c, ec, hc⟩
        · rcases hfree with y | y
          · rw [z] at y; cases y
          · rw [z] at y; cases y
        · obtain ⟨c', e'⟩ := clo_has (cells := X.env.cells) (acc := []) (PySem.mem_of_lookup n3)
          have := S.sub I.ok e'
          rw [ec] at this
          cases this
          exact ⟨c, (allC_free S.nodup n3).trans e', hc.keeps hk⟩
  cell := fun x c e => by
    rcases allC_cases e with ⟨mm, _, _⟩ | q
    · exact ⟨none, (hco.empty x c mm).1⟩
    · obtain ⟨v, z⟩ := I.cell x c (S.sub I.ok q)
      exact ⟨v, z.keeps hk⟩
  free := I.hok.fresh (Nat.le_refl _)
  freeC := fun x c e => by
    rcases allC_cases e with ⟨_, _, l⟩ | q
    · exact I.hok.fresh (Nat.le_of_lt l)
    · exact I.freeC x c (S.sub I.ok q)
  pin := fun p hp => by
    have hp : p ∈ ([] : List (Addr × Obj)) := hp
    simp at hp
  hok := I.hok.kept hk
  len := by
    show _ = N.length
    rw [S.len, List.length_append, List.length_replicate]
    unfold frv
    rw [List.length_map]
end
def CompB (own : Nat) (fr : List Nat) (g : TG) (tc : TT) (te : TE) (σ : St) (Q : VK) (J : It) (D : Addr) (H0 : Hp) : Prop := ∃ W : Nat → Nat → List V → Hp → Prop, (∃ m, W 0 m [] H0) ∧
  ∀ i m ys H, W i m ys H → (J.stop i H ∧ Q (.ref D) H) ∨ (J.go i H ∧ ∀ x H', J.yld i H x H' → ∀ σo : St, σo.length = own → g x (σo ++ frv σ fr) H' fun σ2 H2 => (∃ σo' : St, σo'.length = own ∧ σ2 = σo' ++ frv σ fr) ∧
    tc σ2 H2 fun b H3 => if b = true then te σ2 H3 fun y H4 => ys.length < sizeLine ∧ H4 D = some (.lst ys) ∧ ∃ m', m' < m ∧ W (i + 1) m' (ys ++ [y]) (upd H4 D (.lst (ys ++ [y]))) else ∃ m', m' < m ∧ W (i + 1) m' ys H3)
def tComp (own : Nat) (fr : List Nat) (wi : TI) (g : TG) (tc : TT) (te : TE) : TE := fun σ H Q => wi σ H fun J H1 => ∀ D, H1 D = none → CompB own fr g tc te σ Q J D (upd H1 D (.lst []))
structure CompParts (X : Cx) (scope : Scope) (N : List Str) (tg elt : Expr) (ifs : List Expr) (g : TG) (tc : TT) (te : TE) : Prop where
  tg : ∀ (cl : List (Str × Addr)) (C : Addr) (s₃ : Shared) (H₃ : Hp) (fp : List Addr), PG (cxComp X scope cl N C s₃ H₃ fp) tg g
  ifs : ∀ (cl : List (Str × Addr)) (C : Addr) (s₃ : Shared) (H₃ : Hp) (fp : List Addr), PTs (cxComp X scope cl N C s₃ H₃ fp) ifs tc
  elt : ∀ (cl : List (Str × Addr)) (C : Addr) (s₃ : Shared) (H₃ : Hp) (fp : List Addr), PE (cxComp X scope cl N C s₃ H₃ fp) elt te
section
variable {X : Cx} {scope : Scope} {own N : List Str} {fr : List Nat} {tg elt iter : Expr} {ifs : List Expr} {g : TG} {tc : TT} {te : TE} {wi : TI} {pos : Pos}
theorem comp_run (hc : X.calm = true) (S : CompScope X scope own fr N) (CP : CompParts X scope N tg elt ifs g tc te) {pins : List (Addr × Obj)} {σ : St} {H2 : Hp} {s2 : Shared} (I2 : Inv X pins σ H2 s2) {it : Addr} {fp : List Addr} {tn : Nat → Heap → Prop} {J : It}
    (T : Turn X.prog X.w X.K tg J fp it tn) (st2 : tn 0 s2.heap) (f2 : ∀ b ∈ fp, FpOk X pins H2 b) {Q : VK} {E : Value → Shared → Prop} {RR : Value → Addr → Result → Shared → Prop}
    (hw : ∀ D, H2 D = none → CompB own.length fr g tc te σ Q J D (upd H2 D (.lst [])))
    (hR : ∀ D C s' H' m, Inv X pins σ H' s' → FpOk X pins H' C → s'.heap.Ns C m → Q (.ref D) H' → RR (.ref D) C (.ok .next) s') :
    wpAny (model X.prog X.w) X.A (newList []) (fun acc s₃ => wpAny (model X.prog X.w) X.A (newFunctionEnv scope X.env.globals (clo X.env.cells scope.names []) [] X.env.qual none .none (some X.env)) (fun cenv s₄ =>
      codeAny (model X.prog X.w) X.A (.compStart (.ListComp elt [⟨tg, iter, ifs, 0⟩] scope pos) 0 (.ref it) acc { cenv with scope := relabel scope X.env }) (RR acc cenv.locals) s₄) E s₃) E s2 := by
  have hD : H2 s2.heap.objs.size = none := I2.hok.fresh (Nat.le_refl _)
  have I3 : Inv X pins σ (upd H2 s2.heap.objs.size (.lst [])) { s2 with heap := s2.heap.push { cls := .type "list", data := .seq ([] : List Value).toArray } } :=
    I2.lnew (t' := s2.toks) (ys := []) (its := []) .nil (Nat.zero_le _)
  have hltf : ∀ b ∈ fp, b < s2.heap.objs.size := fun b hb => by
    obtain ⟨o, e, _⟩ := T.obj _ _ st2 b hb
    exact Heap.lt_size e
  have f3 : ∀ b ∈ fp, FpOk X pins (upd H2 s2.heap.objs.size (.lst [])) b := fun b hb => ⟨by rw [upd_ne (Nat.ne_of_lt (hltf b hb))]; exact (f2 b hb).1, (f2 b hb).2⟩
  obtain ⟨W, ⟨m0, w0⟩, turn⟩ := hw _ hD
  refine wpAny_newObj_type (newEnv_comp fun h₁ hns₁ old₁ hco₁ => ?_)
  suffices main : ∀ s3 : Shared, s3 = { s2 with heap := s2.heap.push { cls := .type "list", data := .seq ([] : List Value).toArray } } → Inv X pins σ (upd H2 s2.heap.objs.size (.lst [])) s3 → ∀ m : Str → Option Value, h₁.Ns s3.heap.objs.size m →
      (∀ b o, s3.heap.get? b = some o → h₁.get? b = some o) → CellsOk h₁ (s3.heap.objs.size + 1) (cellsFrom (s3.heap.objs.size + 1) scope.names []) → codeAny (model X.prog X.w) X.A (.compStart (.ListComp elt [⟨tg, iter, ifs, 0⟩] scope pos) 0 (.ref it) (.ref s2.heap.objs.size) (compEnvC scope (allC s3.heap.objs.size X.env.cells scope.names) s3.heap.objs.size X.env))
        (RR (.ref s2.heap.objs.size) s3.heap.objs.size) { s3 with heap := h₁, toks := s3.toks } from
    main _ rfl I3 _ hns₁ old₁ hco₁
  clear hns₁ old₁ hco₁
  intro s3 hH3 I3 m3 hns₁ old hco
  have e3 : s3.heap = s2.heap.push { cls := .type "list", data := .seq ([] : List Value).toArray } := by rw [hH3]
  have hs3 : s2.heap.objs.size < s3.heap.objs.size := by rw [e3, Heap.size_push]; exact Nat.lt_succ_self _
  have hlt3 : ∀ b ∈ fp, b < s3.heap.objs.size := fun b hb => Nat.lt_trans (hltf b hb) hs3
  have I4 := comp_inv S I3 f3 hlt3 (t := s3.toks) hns₁ old hco
  have ok' := comp_ok S I3 f3 hlt3
  have st4 : tn 0 h₁ := T.keep 0 s2.heap h₁ st2 fun b hb o e => old b o (by rw [e3]; exact Heap.get?_push_of_some _ e)
  have stat : ∀ {H' : Hp}, (∀ b ∈ fp, H' b = none) → ∀ b ∈ fp, FpOk (cxComp X scope (allC s3.heap.objs.size X.env.cells scope.names) N s3.heap.objs.size s3 (upd H2 s2.heap.objs.size (.lst [])) fp) [] H' b := fun {H'} hn b hb =>
    ⟨hn b hb, Nat.ne_of_lt (hlt3 b hb), ok'.exfs b hb, .inl hb, (ok'.exf b hb).2, fun p hp => by
      have hp : p ∈ ([] : List (Addr × Obj)) := hp
      simp at hp⟩
  have loop : ∀ s₄ : Shared, s₄ = { s3 with heap := h₁, toks := s3.toks } →
      codeAny (model X.prog X.w) X.A (.compLoop (.ListComp elt [⟨tg, iter, ifs, 0⟩] scope pos) 0 (.ref it) (.ref s2.heap.objs.size) (compEnvC scope (allC s3.heap.objs.size X.env.cells scope.names) s3.heap.objs.size X.env))
        (RR (.ref s2.heap.objs.size) s3.heap.objs.size) s₄ := by
    rintro s₄ rfl
    refine compLoop_any (fun n s' => ∃ i ys σo H', σo.length = own.length ∧ Inv (cxComp X scope (allC s3.heap.objs.size X.env.cells scope.names) N s3.heap.objs.size s3 (upd H2 s2.heap.objs.size (.lst [])) fp) [] (σo ++ frv σ fr) H' s' ∧
      tn i s'.heap ∧ (∀ b ∈ fp, H' b = none) ∧ W i n ys H') ?_ m0 ⟨0, [], List.replicate own.length none, _, List.length_replicate, I4, st4, fun b hb => (f3 b hb).1, w0⟩
    rintro n s5 ⟨i, ys, σo, H5, hσ, I5, st5, fr5, w5⟩
    rcases turn i n ys H5 w5 with ⟨stop, qn⟩ | ⟨go, step⟩
    · refine thn (T.done (cxComp X scope (allC s3.heap.objs.size X.env.cells scope.names) N s3.heap.objs.size s3 (upd H2 s2.heap.objs.size (.lst [])) fp) rfl rfl rfl hc i [] s5 (σo ++ frv σ fr) H5 _ I5 (stat fr5) st5 stop) fun r s6 ⟨hr, I6⟩ => ?_
      subst hr
      obtain ⟨m, hn6, _⟩ := I6.loc
      refine hR _ _ s6 H5 m (I3.call' (ch := fp) I6.os I6.base I6.hok I6.bare fun b hb => ⟨(f3 b hb).2.2.2.1, (f3 b hb).2.1, (f3 b hb).2.2.2.2.1, (f3 b hb).2.2.2.2.2⟩) (I3.fpOk (Nat.le_refl _) I6.free) hn6 qn
    · refine thn (T.item (cxComp X scope (allC s3.heap.objs.size X.env.cells scope.names) N s3.heap.objs.size s3 (upd H2 s2.heap.objs.size (.lst [])) fp) rfl rfl rfl hc i [] s5 (σo ++ frv σ fr) H5 _ I5 (stat fr5) st5 go) fun r s6 ⟨u, hr, h6⟩ => ?_
      subst hr
      refine thn h6 fun _ s7 ⟨x, H7, I7, r7, y7, st7, fr7⟩ => ?_
      have I7' := I7.pinned (stat fr7) (T.obj _ _ st7)
      have again : ∀ {σ8 : St} {H8 : Hp} {s8 : Shared} {zs : List V}, Inv (cxComp X scope (allC s3.heap.objs.size X.env.cells scope.names) N s3.heap.objs.size s3 (upd H2 s2.heap.objs.size (.lst [])) fp) ([] ++ pinsAt fp s7.heap) (σ8 ++ frv σ fr) H8 s8 → σ8.length = own.length →
          (∃ m', m' < n ∧ W (i + 1) m' zs H8) → ∃ m, m < n ∧ ∃ i ys σo H', σo.length = own.length ∧ Inv (cxComp X scope (allC s3.heap.objs.size X.env.cells scope.names) N s3.heap.objs.size s3 (upd H2 s2.heap.objs.size (.lst [])) fp) [] (σo ++ frv σ fr) H' s8 ∧
            tn i s8.heap ∧ (∀ b ∈ fp, H' b = none) ∧ W i m ys H' := fun {σ8 H8 s8 zs} I8 h8 ⟨m', hm, w8⟩ => by
        refine ⟨m', hm, i + 1, zs, σ8, H8, h8, I8.unpinned, T.keep _ _ _ st7 fun b hb o e => (I8.pin (b, o) (List.mem_append_right _ (List.mem_append_right _ (mem_pinsAt hb e)))).1, fun b hb => ?_, w8⟩
        obtain ⟨o, e, d⟩ := T.obj _ _ st7 b hb
        exact (I8.pin (b, o) (List.mem_append_right _ (List.mem_append_right _ (mem_pinsAt hb e)))).2.1
      refine thn (CP.tg _ _ _ _ _ _ s7 _ H7 x u _ I7' r7 (step x H7 y7 σo hσ)) fun _ s8 ⟨σ8, H8, I8, ⟨σo', hσ', eσ⟩, q8⟩ => ?_
      subst eσ
      refine thn (CP.ifs _ _ _ _ _ _ s8 _ H8 _ I8 q8) fun b s9 ⟨H9, I9, q9⟩ => ?_
      cases b with
      | false =>
        rw [if_neg Bool.false_ne_true] at q9 ⊢
        exact again I9 hσ' q9
      | true =>
        rw [if_pos rfl] at q9 ⊢
        refine thn (CP.elt _ _ _ _ _ _ s9 _ H9 _ I9 q9) fun z s10 ⟨y, H10, I10, r10, hz, hD10, q10⟩ => ?_
        exact thn (mt_append _ s10 _ H10 (.ref s2.heap.objs.size) [y] (.ref s2.heap.objs.size) [z] (fun _ H => ∃ m', m' < n ∧ W (i + 1) m' (ys ++ [y]) H) I10 rfl (.cons r10 .nil) ⟨_, ys, y, rfl, rfl, hD10, hz, q10⟩)
          fun _ s11 ⟨_, H11, I11, _, q11⟩ => again I11 hσ' q11
  exact codeAny_compStart_list (loop _ rfl) (T.self _ 0 _ _ _ st4 (loop _ rfl))
theorem pe_comp (hc : X.calm = true) (S : CompScope X scope own fr N) (CP : CompParts X scope N tg elt ifs g tc te) (hi : PI X tg iter wi) (hs : ∀ x, foldedSetIterable iter X.env x = pure x := by intro _; rfl) :
    PE X (.ListComp elt [⟨tg, iter, ifs, 0⟩] scope pos) (tComp own.length fr wi g tc te) := by
  intro pins s σ H Q I h
  rw [eval_ListComp]
  refine wpAny_comprehension_free (use := none) (g := ⟨tg, iter, ifs, 0⟩) (gs := []) rfl hs (closure_go (S.clo I.ok)) S.kind S.names (thn (hi pins s σ H _ I h) fun v s1 h1 => thn h1 fun itv s2 h2 => ?_)
  obtain ⟨it, fp, tn, J, H2, e, I2, T, st2, f2, hw⟩ := h2
  subst e
  exact comp_run (RR := fun acc C => compPost (model X.prog X.w) X.A X.xe none (EP X pins σ Q) acc C) hc S CP I2 T st2 f2 hw fun D C s' H' m I' fC hn q =>
    ⟨m, hn, fun h' hb => ⟨.ref D, H', I'.turned (t' := s'.toks) (fun b o hne e => hb.extBut b o hne e) fC.1 fC.2.1 fC.2.2.2.1 fC.2.2.2.2.1 fC.2.2.2.2.2, rfl, q⟩⟩
theorem ps_setc {i : Nat} {x : Str} {posc pos' : Pos} (hc : X.calm = true) (hN : X.N.Nodup) (hi' : X.N[i]? = some x) (hx : Loc X.env.scope x) (S : CompScope X scope own fr N) (CP : CompParts X scope N tg elt ifs g tc te) (hi : PI X tg iter wi)
    (hsw : swapsWith (.ListComp elt [⟨tg, iter, ifs, 0⟩] scope posc) (some (.Name x pos')) pos.line X.env = pure true := by rfl)
    (hf : X.fn x = true ∨ X.env.scope.names.lookup x = some .local := by first | exact .inl rfl | exact .inr rfl | assumption) (hs : ∀ x, foldedSetIterable iter X.env x = pure x := by intro _; rfl) :
    PS X (.Assign [.Name x pos'] (.ListComp elt [⟨tg, iter, ifs, 0⟩] scope posc) pos) (tAsg (tComp own.length fr wi g tc te) (gName i)) := by
  intro pins s σ H D I h
  rw [exec_Assign_Name_used _ _ _ _ hsw]
  refine wpAny_bind (wpAny_standAt (wpAny_bind ?_))
  show wpAny _ X.A (do let _ ← comprehension (.ListComp elt [⟨tg, iter, ifs, 0⟩] scope posc) scope X.env _ (newList []) false (eval iter X.env) (some (assign (.Name x pos') X.env))) _ _ s
  refine wpAny_bind (wpAny_mono (wpAny_comprehension_free (use := some (assign (.Name x pos') X.env)) (g := ⟨tg, iter, ifs, 0⟩) (gs := []) (Q := fun _ s' => SP X pins D .next s') rfl hs (closure_go (S.clo I.ok)) S.kind S.names
    (thn (hi pins s σ H _ I h) fun v s1 h1 => thn h1 fun itv s2 h2 => ?_)) (fun _ _ q => wpAny_pure (wpAny_pure q)) fun _ _ e => e)
  obtain ⟨it, fp, tn, J, H2, e, I2, T, st2, f2, hw⟩ := h2
  subst e
  refine comp_run (Q := fun x H1 => gName i x σ H1 D.nx) (RR := fun acc C => compPost (model X.prog X.w) X.A X.xe (some (assign (.Name x pos') X.env)) (fun _ s' => SP X pins D .next s') acc C) hc S CP I2 T st2 f2 hw fun Dd C s' H' m I' fC hn q => ?_
  refine wpAny_assign_Name (store_ok2 I' hN hi' hx (show RelV (.ref Dd) (.ref Dd) from rfl) (fun s'' I'' ⟨a, hsb, ha⟩ => ?_) hf)
  have hCa : C ≠ a := by
    rcases ha with z | z
    · rw [z]; exact fC.2.1
    · exact fun e => fC.2.2.2.2.1 x a z e.symm
  refine ⟨m, hn.sameBut hsb hCa, fun h' hb => ?_⟩
  exact ⟨_, H', I''.turned (t' := s''.toks) (fun b o hne e => hb.extBut b o hne e) fC.1 fC.2.1 fC.2.2.2.1 fC.2.2.2.2.1 fC.2.2.2.2.2, q⟩
end
end L2
end
section
set_option autoImplicit false
namespace L2
open PySem PySem.Spec PyProof.Rows
inductive T where
  | non | int (i : Int) | str (x : Str) | tup (ts : List T)
mutual
def Dp (H : Hp) : T → V → Prop
  | .non, v => v = V.non
  | .int i, v => v = V.int i
  | .str x, v => v = V.str x
  | .tup ts, v => ∃ a xs, v = V.ref a ∧ H a = some (.tup xs) ∧ DpL H ts xs
def DpL (H : Hp) : List T → List V → Prop
  | [], xs => xs = []
  | t :: ts, xs => ∃ x r, xs = x :: r ∧ Dp H t x ∧ DpL H ts r
end
def Tups (H H' : Hp) : Prop := ∀ a xs, H a = some (.tup xs) → H' a = some (.tup xs)
theorem Tups.refl (H : Hp) : Tups H H := fun _ _ h => h
theorem Tups.trans {H H1 H2 : Hp} (a : Tups H H1) (b : Tups H1 H2) : Tups H H2 := fun c o h => b c o (a c o h)
theorem Same.tups {H H' : Hp} (h : Same H H') : Tups H H' := fun a xs e => h a _ e
mutual
theorem Dp.mono {H H' : Hp} (h : Tups H H') : ∀ {t : T} {v : V}, Dp H t v → Dp H' t v
  | .non, _, e => by rw [Dp] at e ⊢; exact e
  | .int _, _, e => by rw [Dp] at e ⊢; exact e
  | .str _, _, e => by rw [Dp] at e ⊢; exact e
  | .tup ts, v, e => by
    rw [Dp] at e ⊢
    obtain ⟨a, xs, e, ha, hl⟩ := e
    exact ⟨a, xs, e, h a xs ha, DpL.mono h hl⟩
theorem DpL.mono {H H' : Hp} (h : Tups H H') : ∀ {ts : List T} {xs : List V}, DpL H ts xs → DpL H' ts xs
  | [], _, e => by rw [DpL] at e ⊢; exact e
  | t :: ts, xs, e => by
    rw [DpL] at e ⊢
    obtain ⟨x, r, e, h1, h2⟩ := e
    exact ⟨x, r, e, Dp.mono h h1, DpL.mono h h2⟩
end
theorem DpL.nil {H : Hp} : DpL H [] [] := by rw [DpL]
theorem DpL.cons {H : Hp} {t : T} {ts : List T} {x : V} {xs : List V} (h : Dp H t x) (r : DpL H ts xs) : DpL H (t :: ts) (x :: xs) := by
  rw [DpL]
  exact ⟨x, xs, rfl, h, r⟩
theorem DpL.cases {H : Hp} {t : T} {ts : List T} {xs : List V} (h : DpL H (t :: ts) xs) : ∃ x r, xs = x :: r ∧ Dp H t x ∧ DpL H ts r := by
  rw [DpL] at h
  exact h
theorem DpL.of_nil {H : Hp} {xs : List V} (h : DpL H [] xs) : xs = [] := by
  rw [DpL] at h
  exact h
theorem Dp.int {H : Hp} (i : Int) : Dp H (.int i) (.int i) := by rw [Dp]
theorem Dp.str {H : Hp} (x : Str) : Dp H (.str x) (.str x) := by rw [Dp]
theorem Dp.of_int {H : Hp} {i : Int} {v : V} (h : Dp H (.int i) v) : v = .int i := by
  rw [Dp] at h
  exact h
theorem Dp.of_str {H : Hp} {x : Str} {v : V} (h : Dp H (.str x) v) : v = .str x := by
  rw [Dp] at h
  exact h
theorem Dp.of_tup {H : Hp} {ts : List T} {v : V} (h : Dp H (.tup ts) v) : ∃ a xs, v = V.ref a ∧ H a = some (.tup xs) ∧ DpL H ts xs := by
  rw [Dp] at h
  exact h
theorem Dp.tup {H : Hp} {ts : List T} {a : Addr} {xs : List V} (h : H a = some (.tup xs)) (r : DpL H ts xs) : Dp H (.tup ts) (.ref a) := by
  rw [Dp]
  exact ⟨a, xs, rfl, h, r⟩
theorem DpL.length {H : Hp} : ∀ {ts : List T} {xs : List V}, DpL H ts xs → xs.length = ts.length
  | [], xs, h => by rw [h.of_nil]; rfl
  | t :: ts, xs, h => by
    obtain ⟨x, r, rfl, _, h2⟩ := h.cases
    rw [List.length_cons, List.length_cons, h2.length]
theorem DpL.get {H : Hp} : ∀ {ts : List T} {xs : List V} {i : Nat} {t : T}, DpL H ts xs → ts[i]? = some t → ∃ x, xs[i]? = some x ∧ Dp H t x
  | [], _, _, _, _, e => by simp at e
  | t :: ts, xs, 0, t', h, e => by
    obtain ⟨x, r, rfl, h1, _⟩ := h.cases
    simp at e
    subst e
    exact ⟨x, rfl, h1⟩
  | t :: ts, xs, i + 1, t', h, e => by
    obtain ⟨x, r, rfl, _, h2⟩ := h.cases
    obtain ⟨y, e1, e2⟩ := h2.get (i := i) (t := t') (by simpa using e)
    exact ⟨y, by simpa using e1, e2⟩
theorem DpL.append {H : Hp} : ∀ {ts us : List T} {xs ys : List V}, DpL H ts xs → DpL H us ys → DpL H (ts ++ us) (xs ++ ys)
  | [], _, xs, _, h, g => by rw [h.of_nil]; exact g
  | t :: ts, us, xs, ys, h, g => by
    obtain ⟨x, r, rfl, h1, h2⟩ := h.cases
    exact .cons h1 (h2.append g)
theorem DpL.strs {H : Hp} : ∀ (ns : List Str), DpL H (ns.map T.str) (ns.map V.str)
  | [] => .nil
  | n :: ns => .cons (Dp.str n) (DpL.strs ns)
mutual
theorem Dp.fn {H : Hp} : ∀ {t t' : T} {v : V}, Dp H t v → Dp H t' v → t = t'
  | .non, t', v, h, g => by
    rw [Dp] at h
    subst h
    cases t' <;> rw [Dp] at g
    all_goals first | rfl | (cases g; done) | (obtain ⟨_, _, e, _⟩ := g; cases e)
  | .int i, t', v, h, g => by
    rw [Dp] at h
    subst h
    cases t' <;> rw [Dp] at g
    all_goals first | (cases g; rfl) | (cases g; done) | (obtain ⟨_, _, e, _⟩ := g; cases e)
  | .str i, t', v, h, g => by
    rw [Dp] at h
    subst h
    cases t' <;> rw [Dp] at g
    all_goals first | (cases g; rfl) | (cases g; done) | (obtain ⟨_, _, e, _⟩ := g; cases e)
  | .tup ts, t', v, h, g => by
    obtain ⟨a, xs, rfl, ha, hl⟩ := h.of_tup
    cases t' with
    | tup us =>
      obtain ⟨b, ys, e, hb, gl⟩ := g.of_tup
      cases e
      rw [ha] at hb
      cases hb
      rw [DpL.fn hl gl]
    | _ => rw [Dp] at g; cases g
theorem DpL.fn {H : Hp} : ∀ {ts us : List T} {xs : List V}, DpL H ts xs → DpL H us xs → ts = us
  | [], us, xs, h, g => by
    have e := h.of_nil
    subst e
    cases us with
    | nil => rfl
    | cons u us =>
      obtain ⟨_, _, e, _⟩ := g.cases
      cases e
  | t :: ts, us, xs, h, g => by
    obtain ⟨x, r, rfl, h1, h2⟩ := h.cases
    cases us with
    | nil =>
      have e := g.of_nil
      cases e
    | cons u us =>
      obtain ⟨_, _, e, g1, g2⟩ := g.cases
      cases e
      rw [Dp.fn h1 g1, DpL.fn h2 g2]
end
def Lv : Nat → T → Prop
  | _, .non => True
  | _, .int _ => True
  | _, .str _ => True
  | 0, .tup _ => False
  | n + 1, .tup ts => ∀ t ∈ ts, Lv n t
noncomputable def dcd (p : Prop) : Bool := @decide p (Classical.propDecidable p)
theorem dcd_t {p : Prop} (h : p) : dcd p = true := @decide_eq_true p (Classical.propDecidable p) h
theorem dcd_f {p : Prop} (h : ¬ p) : dcd p = false := @decide_eq_false p (Classical.propDecidable p) h
theorem dcd_iff {p : Prop} : dcd p = true ↔ p := ⟨fun h => @of_decide_eq_true p (Classical.propDecidable p) h, dcd_t⟩
theorem dcd_eq {p q : Prop} (h : p ↔ q) : dcd p = dcd q := by rw [propext h]
theorem dcd_of {p : Prop} {b : Bool} (h : b = true ↔ p) : b = dcd p := by
  by_cases hp : p
  · rw [dcd_t hp]
    exact h.mpr hp
  · rw [dcd_f hp]
    cases b with
    | false => rfl
    | true => exact absurd (h.mp rfl) hp
section
variable {X : Cx} {pins : List (Addr × Obj)} {σ : St} {H : Hp} {s : Shared}
theorem tup_at (I : Inv X pins σ H s) {a : Addr} {xs : List V} (h : H a = some (.tup xs)) : ∃ its : List Value, Vals xs its ∧ s.heap.IsTuple a its.toArray := by
  obtain ⟨its, r, p, _⟩ := I.tuple (SqT.of h)
  exact ⟨its, r, p⟩
theorem eqAt_T (I : Inv X pins σ H s) : ∀ (n : Nat) (A : Around) (t1 t2 : T) (v1 v2 : V) (u1 u2 : Value), Lv n t1 → A.units + n < cLine → Dp H t1 v1 → Dp H t2 v2 → RelV v1 u1 → RelV v2 u2 → SeqAt.EqAt A s u1 u2 (dcd (t1 = t2)) := by
  have flat : ∀ (A : Around) (t1 t2 : T) (v1 v2 : V) (u1 u2 : Value), flatV v1 = true → flatV v2 = true → Dp H t1 v1 → Dp H t2 v2 → RelV v1 u1 → RelV v2 u2 → eqV v1 v2 = dcd (t1 = t2) → SeqAt.EqAt A s u1 u2 (dcd (t1 = t2)) :=
    fun A t1 t2 v1 v2 u1 u2 f1 f2 _ _ r1 r2 e => by
      rw [← e]
      exact eqAt_V r1 r2 f1 f2
  intro n
  induction n with
  | zero =>
    intro A t1 t2 v1 v2 u1 u2 hn hu d1 d2 r1 r2
    have hu0 : A.units < cLine := by omega
    cases t1 with
    | tup ts => exact (show False from hn).elim
    | non =>
      rw [Dp] at d1
      subst d1
      cases t2 with
      | tup us =>
        obtain ⟨b, ys, rfl, hb, _⟩ := d2.of_tup
        obtain ⟨its, r, p⟩ := tup_at I hb
        cases r1
        cases r2
        rw [dcd_f (by intro h; cases h)]
        exact SeqAt.EqAt.none_tuple p hu0
      | non => rw [Dp] at d2; subst d2; exact flat A _ _ _ _ _ _ rfl rfl (by rw [Dp]) (by rw [Dp]) r1 r2 (dcd_t rfl).symm
      | int j => rw [Dp] at d2; subst d2; exact flat A _ _ _ _ _ _ rfl rfl (by rw [Dp]) (by rw [Dp]) r1 r2 (dcd_f (by intro h; cases h)).symm
      | str j => rw [Dp] at d2; subst d2; exact flat A _ _ _ _ _ _ rfl rfl (by rw [Dp]) (by rw [Dp]) r1 r2 (dcd_f (by intro h; cases h)).symm
    | int i =>
      rw [Dp] at d1
      subst d1
      cases t2 with
      | tup us =>
        obtain ⟨b, ys, rfl, hb, _⟩ := d2.of_tup
        obtain ⟨its, r, p⟩ := tup_at I hb
        obtain ⟨t, rfl⟩ := r1
        cases r2
        rw [dcd_f (by intro h; cases h)]
        exact SeqAt.EqAt.int_tuple i t p hu0
      | non => rw [Dp] at d2; subst d2; exact flat A _ _ _ _ _ _ rfl rfl (by rw [Dp]) (by rw [Dp]) r1 r2 (dcd_f (by intro h; cases h)).symm
      | int j =>
        rw [Dp] at d2
        subst d2
        exact flat A _ _ _ _ _ _ rfl rfl (by rw [Dp]) (by rw [Dp]) r1 r2 (dcd_of (by show (i == j) = true ↔ _; rw [beq_iff_eq]; exact ⟨fun h => by rw [h], fun h => by cases h; rfl⟩))
      | str j => rw [Dp] at d2; subst d2; exact flat A _ _ _ _ _ _ rfl rfl (by rw [Dp]) (by rw [Dp]) r1 r2 (dcd_f (by intro h; cases h)).symm
    | str i =>
      rw [Dp] at d1
      subst d1
      cases t2 with
      | tup us =>
        obtain ⟨b, ys, rfl, hb, _⟩ := d2.of_tup
        obtain ⟨its, r, p⟩ := tup_at I hb
        obtain ⟨t, rfl⟩ := r1
        cases r2
        rw [dcd_f (by intro h; cases h)]
        exact SeqAt.EqAt.str_tuple i t p hu0
      | non => rw [Dp] at d2; subst d2; exact flat A _ _ _ _ _ _ rfl rfl (by rw [Dp]) (by rw [Dp]) r1 r2 (dcd_f (by intro h; cases h)).symm
      | int j => rw [Dp] at d2; subst d2; exact flat A _ _ _ _ _ _ rfl rfl (by rw [Dp]) (by rw [Dp]) r1 r2 (dcd_f (by intro h; cases h)).symm
      | str j =>
        rw [Dp] at d2
        subst d2
        exact flat A _ _ _ _ _ _ rfl rfl (by rw [Dp]) (by rw [Dp]) r1 r2 (dcd_of (by show (i == j) = true ↔ _; rw [beq_iff_eq]; exact ⟨fun h => by rw [h], fun h => by cases h; rfl⟩))
  | succ n ih =>
    intro A t1 t2 v1 v2 u1 u2 hn hu d1 d2 r1 r2
    cases t1 with
    | non => exact (ih A .non t2 v1 v2 u1 u2 (by cases n <;> trivial) (by omega) d1 d2 r1 r2)
    | int i => exact (ih A (.int i) t2 v1 v2 u1 u2 (by cases n <;> trivial) (by omega) d1 d2 r1 r2)
    | str i => exact (ih A (.str i) t2 v1 v2 u1 u2 (by cases n <;> trivial) (by omega) d1 d2 r1 r2)
    | tup ts =>
      have hn : ∀ t ∈ ts, Lv n t := hn
      have hu0 : A.units < cLine := by omega
      obtain ⟨a, xs, rfl, ha, hl⟩ := d1.of_tup
      obtain ⟨its, r, p⟩ := tup_at I ha
      cases r1
      cases t2 with
      | non =>
        rw [Dp] at d2
        subst d2
        cases r2
        rw [dcd_f (by intro h; cases h)]
        exact SeqAt.EqAt.tuple_none p hu0
      | int j =>
        rw [Dp] at d2
        subst d2
        obtain ⟨t, rfl⟩ := r2
        rw [dcd_f (by intro h; cases h)]
        exact SeqAt.EqAt.tuple_int j t p hu0
      | str j =>
        rw [Dp] at d2
        subst d2
        obtain ⟨t, rfl⟩ := r2
        rw [dcd_f (by intro h; cases h)]
        exact SeqAt.EqAt.tuple_str j t p hu0
      | tup us =>
        obtain ⟨b, ys, rfl, hb, gl⟩ := d2.of_tup
        obtain ⟨its2, q, p2⟩ := tup_at I hb
        cases r2
        by_cases hab : a = b
        · subst hab
          rw [ha] at hb
          cases hb
          rw [dcd_t (by rw [DpL.fn hl gl])]
          exact SeqAt.EqAt.same _
        · have l1 : its.toArray.size = ts.length := by rw [List.size_toArray, ← r.length, hl.length]
          have l2 : its2.toArray.size = us.length := by rw [List.size_toArray, ← q.length, gl.length]
          have key := SeqAt.RcAt.tuples (A := A) (s := s) (e := fun j => dcd (ts[j]? = us[j]?)) p p2 hu0 (fun j h1 h2 => by
            have j1 : j < ts.length := by omega
            have j2 : j < us.length := by omega
            have e1 : ts[j]? = some ts[j] := List.getElem?_eq_getElem j1
            have e2 : us[j]? = some us[j] := List.getElem?_eq_getElem j2
            obtain ⟨x1, f1, g1⟩ := hl.get e1
            obtain ⟨x2, f2, g2⟩ := gl.get e2
            obtain ⟨w1, k1, m1⟩ := r.get f1
            obtain ⟨w2, k2, m2⟩ := q.get f2
            have n1 : its.toArray[j] = w1 := by
              have : its.toArray[j]? = some w1 := by simpa using k1
              rw [Array.getElem?_eq_getElem h1] at this
              exact Option.some.inj this
            have n2 : its2.toArray[j] = w2 := by
              have : its2.toArray[j]? = some w2 := by simpa using k2
              rw [Array.getElem?_eq_getElem h2] at this
              exact Option.some.inj this
            rw [n1, n2]
            have := ih A.in1 ts[j] us[j] x1 x2 w1 w2 (hn _ (List.getElem_mem j1)) (by show A.units + 1 + n < cLine; omega) g1 g2 m1 m2
            rw [show dcd (ts[j]? = us[j]?) = dcd (ts[j] = us[j]) from dcd_eq (by rw [e1, e2]; exact ⟨fun h => Option.some.inj h, fun h => by rw [h]⟩)]
            exact this)
          have fin := SeqAt.EqAt.of_refs hab key
          have ee : ((List.range (min its.toArray.size its2.toArray.size)).all (fun j => dcd (ts[j]? = us[j]?)) && its.toArray.size == its2.toArray.size) = dcd (T.tup ts = T.tup us) := by
            refine dcd_of ?_
            rw [l1, l2, Bool.and_eq_true, List.all_eq_true, beq_iff_eq]
            constructor
            · rintro ⟨h1, h2⟩
              have : ts = us := by
                apply List.ext_getElem?
                intro j
                by_cases hj : j < ts.length
                · exact dcd_iff.mp (h1 j (List.mem_range.mpr (by omega)))
                · rw [List.getElem?_eq_none (by omega), List.getElem?_eq_none (by omega)]
              rw [this]
            · intro h
              cases h
              exact ⟨fun j _ => dcd_t rfl, rfl⟩
          rw [ee] at fin
          exact fin
noncomputable def isT (H : Hp) (t : T) (u : Value) : Bool := dcd (∃ v, RelV v u ∧ Dp H t v)
theorem isT_of {t t' : T} {v : V} {u : Value} (r : RelV v u) (d : Dp H t' v) : isT H t u = dcd (t' = t) := by
  refine dcd_eq ⟨?_, ?_⟩
  · rintro ⟨v', r', d'⟩
    rw [r'.inj r] at d'
    exact (d'.fn d).symm
  · intro h
    subst h
    exact ⟨v, r, d⟩
theorem items_T : ∀ {ts : List T} {xs : List V} {us : List Value}, DpL H ts xs → Vals xs us → ∀ u ∈ us, ∃ t ∈ ts, ∃ v, RelV v u ∧ Dp H t v
  | [], xs, us, h, r => by
    have e := h.of_nil
    subst e
    cases r
    exact fun u hu => by cases hu
  | t :: ts, xs, us, h, r => by
    obtain ⟨x, xr, rfl, h1, h2⟩ := h.cases
    cases r with
    | cons r1 r2 =>
      intro u hu
      rcases List.mem_cons.mp hu with e | e
      · rw [e]
        exact ⟨t, List.mem_cons_self, x, r1, h1⟩
      · obtain ⟨t', m, z⟩ := items_T h2 r2 u e
        exact ⟨t', List.mem_cons_of_mem _ m, z⟩
theorem any_T {t : T} : ∀ {ts : List T} {xs : List V} {us : List Value}, DpL H ts xs → Vals xs us → us.any (isT H t) = dcd (t ∈ ts)
  | [], xs, us, h, r => by
    have e := h.of_nil
    subst e
    cases r
    rw [dcd_f (by simp)]
    rfl
  | t' :: ts, xs, us, h, r => by
    obtain ⟨x, xr, rfl, h1, h2⟩ := h.cases
    cases r with
    | cons r1 r2 =>
      rw [List.any_cons, isT_of r1 h1, any_T h2 r2]
      refine dcd_of ?_
      rw [Bool.or_eq_true, dcd_iff, dcd_iff, List.mem_cons]
      exact ⟨fun h => h.imp (fun z => z.symm) id, fun h => h.imp (fun z => z.symm) id⟩
end
section
variable {X : Cx}
def rInT (neg : Bool) : R2 := fun x y H Q => ∃ p xs t ts, y = .ref p ∧ (H p = some (.lst xs) ∨ H p = some (.tup xs)) ∧ Dp H t x ∧ DpL H ts xs ∧ (∀ t ∈ ts, Lv 6 t) ∧ Q (.bl (if neg then !dcd (t ∈ ts) else dcd (t ∈ ts))) H
theorem op_inT (hu : X.A.units + 10 < cLine) : OpR X (compareOp .In) (rInT false) := by
  intro pins s σ H x y v u Q I rx ry h
  obtain ⟨p, xs, t, ts, rfl, hq, dx, dl, lv, q⟩ := h
  cases ry
  have fin : ∀ its : List Value, Vals xs its → (∀ w, w ∈ its.toArray → SeqAt.EqAt X.A.in1 s w v (isT H t w)) ∧ its.toArray.any (isT H t) = dcd (t ∈ ts) := fun its r => by
    refine ⟨fun w hw => ?_, by rw [show its.toArray.any (isT H t) = its.any (isT H t) by simp, any_T dl r]⟩
    obtain ⟨t', m, v', r', d'⟩ := items_T dl r w (by simpa using hw)
    rw [isT_of r' d']
    exact eqAt_T I 6 _ t' t v' x w v (lv t' m) (by show X.A.units + 1 + 6 < cLine; omega) d' dx r' rx
  rcases hq with hq | hq
  · obtain ⟨its, r, pl, hz⟩ := I.list (SqL.of hq)
    obtain ⟨f1, f2⟩ := fin its r
    refine SeqAt.in_listAt (isT H t) pl.isList f1 ⟨.bl _, H, I, rfl, ?_⟩
    rw [f2]
    exact q
  · obtain ⟨its, r, pl, hz⟩ := I.tuple (SqT.of hq)
    obtain ⟨f1, f2⟩ := fin its r
    refine SeqAt.in_tupleAt (isT H t) pl f1 ⟨.bl _, H, I, rfl, ?_⟩
    rw [f2]
    exact q
theorem op_notInT (hu : X.A.units + 10 < cLine) : OpR X (compareOp .NotIn) (rInT true) := by
  intro pins s σ H x y v u Q I rx ry h
  obtain ⟨p, xs, t, ts, rfl, hq, dx, dl, lv, q⟩ := h
  cases ry
  have fin : ∀ its : List Value, Vals xs its → (∀ w, w ∈ its.toArray → SeqAt.EqAt X.A.in1 s w v (isT H t w)) ∧ its.toArray.any (isT H t) = dcd (t ∈ ts) := fun its r => by
    refine ⟨fun w hw => ?_, by rw [show its.toArray.any (isT H t) = its.any (isT H t) by simp, any_T dl r]⟩
    obtain ⟨t', m, v', r', d'⟩ := items_T dl r w (by simpa using hw)
    rw [isT_of r' d']
    exact eqAt_T I 6 _ t' t v' x w v (lv t' m) (by show X.A.units + 1 + 6 < cLine; omega) d' dx r' rx
  rcases hq with hq | hq
  · obtain ⟨its, r, pl, hz⟩ := I.list (SqL.of hq)
    obtain ⟨f1, f2⟩ := fin its r
    refine SeqAt.notIn_listAt (isT H t) pl.isList f1 ⟨.bl _, H, I, rfl, ?_⟩
    rw [f2]
    exact q
  · obtain ⟨its, r, pl, hz⟩ := I.tuple (SqT.of hq)
    obtain ⟨f1, f2⟩ := fin its r
    refine SeqAt.notIn_tupleAt (isT H t) pl f1 ⟨.bl _, H, I, rfl, ?_⟩
    rw [f2]
    exact q
def rIndexT : V → List V → Hp → VK → Prop := fun x vs H Q => ∃ p y xs t ts j, x = .ref p ∧ vs = [y] ∧ H p = some (.lst xs) ∧ Dp H t y ∧ DpL H ts xs ∧ (∀ t ∈ ts, Lv 6 t) ∧ ts[j]? = some t ∧ (∀ m, m < j → ts[m]? ≠ some t) ∧ Q (.int (j : Nat)) H
theorem mt_indexT (hu : X.A.units + 10 < cLine) : MtM X "list.index" rIndexT := by
  intro pins s σ H x vs v us Q I rx rv h
  obtain ⟨p, y, xs, t, ts, j, rfl, rfl, hH, dy, dl, lv, hj, hno, q⟩ := h
  cases rx
  obtain ⟨u, rfl, ru⟩ := rv.one
  obtain ⟨z, its, n, r, hl, e⟩ := I.lstM hH
  have hjl : j < its.toArray.size := by
    have := (List.getElem?_eq_some_iff.mp hj).1
    rw [List.size_toArray, ← hl, dl.length]
    exact this
  have at_ : ∀ (m : Nat) (hm : m < its.toArray.size) (t' : T), ts[m]? = some t' → isT H t its.toArray[m] = dcd (t' = t) := fun m hm t' e' => by
    obtain ⟨x', f, g⟩ := dl.get e'
    obtain ⟨w, k, m'⟩ := r.get f
    have : its.toArray[m] = w := by
      have z : its.toArray[m]? = some w := by simpa using k
      rw [Array.getElem?_eq_getElem hm] at z
      exact Option.some.inj z
    rw [this]
    exact isT_of m' g
  have hn := line63
  refine call_meets F.slot_list_index ⟨_, e, rfl⟩ F.entry_list_index (F.args_list_index_2 _ _) (SeqAt.list_indexAt p its.toArray n none #[] u (isT H t) j hjl (by rw [List.size_toArray] at hjl; omega) ?_ ?_) ⟨e, ?_, ?_⟩
  · rw [at_ j hjl t hj]
    exact dcd_t rfl
  · intro m hm hlt
    have hm' : m < ts.length := by
      rw [List.size_toArray, ← hl, dl.length] at hm
      exact hm
    rw [at_ m hm _ (List.getElem?_eq_getElem hm')]
    refine dcd_f fun h => hno m hlt ?_
    rw [List.getElem?_eq_getElem hm', h]
  · intro w hw
    obtain ⟨t', m, v', r', d'⟩ := items_T dl r w (by simpa using hw)
    rw [isT_of r' d']
    exact eqAt_T I 6 _ t' t v' y w u (lv t' m) (by show X.A.units + 1 + 6 < cLine; omega) d' dy r' ru
  · exact ⟨.int j, H, I.tok _, ⟨_, rfl⟩, q⟩
end
end L2
end
section
set_option autoImplicit false
namespace L2
open PySem PySem.Spec PyProof.Rows
section
variable {X : Cx}
def rSlS : V → Option Int → Option Int → Hp → VK → Prop := fun x lo hi H Q => ∃ z, x = .str z ∧ z.length ≤ sizeLine ∧ Q (.str (Txt.slice z lo hi)) H
theorem sl_str : SlR X rSlS := by
  intro pins s σ H x v vl vu lo hi sl Q I rx hs pl pu h
  obtain ⟨z, rfl, hz, q⟩ := h
  obtain ⟨t, rfl⟩ := rx
  obtain ⟨o, ho, hc, hd⟩ := hs
  have fin : ∀ (t' : Tok) (k : Nat), EP X pins σ Q (.str (Txt.slice z lo hi) t') { s with toks := k } := fun t' k => ⟨.str _, H, I.tok k, ⟨_, rfl⟩, q⟩
  refine ⟨"str", _, F.slot_str_getitem.lookup, typeIs_str _ _ _, ?_⟩
  cases pl with
  | none =>
    cases pu with
    | none => exact wpAny_getItem_str_slice (l := none) (u := none) (st := none) ⟨o, ho, hc, hd⟩ rfl (post_val_or_str ⟨Nat.le_trans (Txt.slice_le z _ _) hz, fin⟩)
    | int j uj => exact wpAny_getItem_str_slice (l := none) (u := some (j, uj)) (st := none) ⟨o, ho, hc, hd⟩ rfl (post_val_or_str ⟨Nat.le_trans (Txt.slice_le z _ _) hz, fin⟩)
  | int i ui =>
    cases pu with
    | none => exact wpAny_getItem_str_slice (l := some (i, ui)) (u := none) (st := none) ⟨o, ho, hc, hd⟩ rfl (post_val_or_str ⟨Nat.le_trans (Txt.slice_le z _ _) hz, fin⟩)
    | int j uj => exact wpAny_getItem_str_slice (l := some (i, ui)) (u := some (j, uj)) (st := none) ⟨o, ho, hc, hd⟩ rfl (post_val_or_str ⟨Nat.le_trans (Txt.slice_le z _ _) hz, fin⟩)
end
end L2
end
section
set_option autoImplicit false
namespace L2
open PySem PySem.Spec PyProof.Rows
open AutoSeq1 (wpAny_loadPart') in
open MeetsSeq MeetsSeq2 MeetsSeq3 SeqRoads2 SeqAt in
section
variable {prog : Program} {w : World} {A : Around} {E : Value → Shared → Prop} {s : Shared}
theorem nextT_item {it t : Addr} {i : Nat} {items : Array Value} {x : Value} {Q : Value → Shared → Prop} (hit : s.heap.IsTupleIter it t i) (ht : s.heap.IsTuple t items) (hx : items[i]? = some x)
    (hQ : ∀ h', h'.IsTupleIter it t (i + 1) → Heap.SameBut it s.heap h' → Q x { s with heap := h' }) : wpAny (model prog w) A (Builtin.SmallTypes.nextOf (.ref it)) Q E s := by
  obtain ⟨ob, e1, e2, e3⟩ := id hit
  obtain ⟨ot, g1, _, nn, g2⟩ := ht
  unfold Builtin.SmallTypes.nextOf
  refine wpAny_bind (wpAny_callSpecial?_slot (name := Str.ofString "__next__") hit.typeIs F.slot_tuple_iterator_next (wpAny_call_entry F.slot_tuple_iterator_next hit.typeIs F.entry_tuple_iterator_next ?_ (F.args_tuple_iterator_next_1 _)))
  show wpAny _ _ (field (.ref it) 0 >>= _) _ _ s; refine wpAny_bind (wpAny_field e1 e3 (x := .ref t) rfl ?_)
  show wpAny _ _ (if (Value.ref t == Value.none) = true then _ else _) _ _ s; rw [if_neg (show ¬ ((Value.ref t == Value.none) = true) from Bool.false_ne_true)]
  show wpAny _ _ (field (.ref it) 1 >>= _) _ _ s; refine wpAny_bind (wpAny_field e1 e3 (x := .int i 0) rfl ?_)
  show wpAny _ _ (seqItems? (.ref t) >>= _) _ _ s; refine wpAny_bind (wpAny_seqItems g1 g2 ?_)
  simp only [Int.toNat_natCast, hx]
  refine wpAny_bind (wpAny_setField e1 e3 (by simp) (wpAny_pure ⟨x, rfl, wpAny_pure (hQ _ ⟨_, Heap.get?_update_self _ e1 (Obj.isFreed_of_fields (Obj.data_mapFields e3 _)), (Obj.cls_mapFields ..).trans e2, ?_⟩ (Heap.SameBut.update ..))⟩))
  rw [Obj.data_mapFields e3]; simp [rawInt]
theorem nextT_end {it t : Addr} {i : Nat} {items : Array Value} {Q : Value → Shared → Prop} (hh : A.handled = none) (hit : s.heap.IsTupleIter it t i) (ht : s.heap.IsTuple t items) (hx : items[i]? = none)
    (hE : ∀ h' e, Heap.ExtBut it s.heap h' → (∃ o, h'.get? e = some o ∧ o.cls = .type "StopIteration") → E (.ref e) { s with heap := h' }) : wpAny (model prog w) A (Builtin.SmallTypes.nextOf (.ref it)) Q E s := by
  obtain ⟨ob, e1, e2, e3⟩ := id hit
  obtain ⟨ot, g1, _, nn, g2⟩ := ht
  unfold Builtin.SmallTypes.nextOf
  refine wpAny_bind (wpAny_callSpecial?_slot (name := Str.ofString "__next__") hit.typeIs F.slot_tuple_iterator_next (wpAny_call_entry F.slot_tuple_iterator_next hit.typeIs F.entry_tuple_iterator_next ?_ (F.args_tuple_iterator_next_1 _)))
  show wpAny _ _ (field (.ref it) 0 >>= _) _ _ s; refine wpAny_bind (wpAny_field e1 e3 (x := .ref t) rfl ?_)
  show wpAny _ _ (if (Value.ref t == Value.none) = true then _ else _) _ _ s; rw [if_neg (show ¬ ((Value.ref t == Value.none) = true) from Bool.false_ne_true)]
  show wpAny _ _ (field (.ref it) 1 >>= _) _ _ s; refine wpAny_bind (wpAny_field e1 e3 (x := .int i 0) rfl ?_)
  show wpAny _ _ (seqItems? (.ref t) >>= _) _ _ s; refine wpAny_bind (wpAny_seqItems g1 g2 ?_)
  simp only [Int.toNat_natCast, hx]
  refine wpAny_bind (wpAny_rule (wpAny_bind (wpAny_setField e1 e3 (by simp) ?_)))
  show wpAny _ _ (newExc (.type "StopIteration") [] >>= _) _ _ _; refine wpAny_bind ?_
  simp only [newExc, newTuple]; refine wpAny_bind (wpAny_newObj_type ?_ (by size_fits))
  refine wpAny_bind (m := firstArgMember _ _) (wpAny_of_eq (a := Value.none) (by first | rfl | (simp only [firstArgMember]; rfl)) ?_)
  refine wpAny_newObj_type ?_ (by size_fits); simp only [raiseNew]; refine wpAny_bind (wpAny_handled ?_)
  first | rw [show A.in1.handled = none from hh] | rw [hh]
  refine wpAny_bind (wpAny_pure (wpAny_throw (hE _ _ (((Heap.SameBut.update ..).extBut.push _).push _) ⟨_, Heap.get?_push_size _ rfl, rfl⟩)))
structure ZA (z TI TO i1 i2 t1 t2 : Addr) : Prop where
  a1 : TI ≠ z
  a2 : TO ≠ z
  a3 : i1 ≠ z
  a4 : i2 ≠ z
  a5 : TI ≠ TO
  a6 : TI ≠ i1
  a7 : TI ≠ i2
  a8 : TO ≠ i1
  a9 : TO ≠ i2
  b1 : i1 ≠ i2
  b2 : t1 ≠ z
  b3 : t1 ≠ TO
  b4 : t1 ≠ i1
  b5 : t1 ≠ i2
  b6 : t2 ≠ z
  b7 : t2 ≠ TO
  b8 : t2 ≠ i1
  b9 : t2 ≠ i2
theorem zipT_item {z TI TO i1 i2 t1 t2 : Addr} {k : Nat} {xs ys : Array Value} {x y a b : Value} {Q : Value → Shared → Prop} (D : ZA z TI TO i1 i2 t1 t2)
    (hz : IsZip s.heap z TI TO .none) (hTI : IsPair s.heap TI (.ref i1) (.ref i2)) (hTO : IsPair s.heap TO a b) (h1 : s.heap.IsTupleIter i1 t1 k) (h2 : s.heap.IsTupleIter i2 t2 k)
    (hl1 : s.heap.IsTuple t1 xs) (hl2 : s.heap.IsTuple t2 ys) (hx : xs[k]? = some x) (hy : ys[k]? = some y)
    (hQ : ∀ h', IsZip h' z TI TO (rawInt s.heap.objs.size) → IsPair h' TO x y → h'.IsTupleIter i1 t1 (k + 1) → h'.IsTupleIter i2 t2 (k + 1) → IsPair h' s.heap.objs.size x y →
      (∀ c o, c ≠ z → c ≠ TO → c ≠ i1 → c ≠ i2 → s.heap.get? c = some o → h'.get? c = some o) → Q (.ref s.heap.objs.size) { s with heap := h' }) :
    wpAny (model prog w) A (Builtin.«zip.__next__» ⟨[.ref z], []⟩) (fun fin s' => ∃ v, fin = .done (.ret v) ∧ Q v s') E s := by
  show wpAny _ _ (field (.ref z) 2 >>= _) _ _ _; refine wpAny_bind (wpAny_field hz rfl (x := .bool false) rfl ?_)
  show wpAny _ _ (field (.ref z) 3 >>= _) _ _ _; refine wpAny_bind (wpAny_field hz rfl (x := .ref TI) rfl (wpAny_bind (wpAny_seqItems hTI rfl ?_)))
  show wpAny _ _ (Builtin.SmallTypes.ownedTupleIsFree (.ref z) >>= _) _ _ _
  unfold Builtin.SmallTypes.ownedTupleIsFree
  refine wpAny_bind (wpAny_bind (wpAny_field hz rfl (x := .none) rfl (wpAny_pure ?_)))
  simp only [if_true]
  refine wpAny_bind (wpAny_rule (wpAny_bind (wpAny_field hz rfl (x := .ref TO) rfl (wpAny_bind (wpAny_setField_rec hz (by simp) fun g1 z1 q1 => ?_)))))
  replace z1 : IsZip g1 z TI TO .ellipsis := z1
  simp only [List.zipIdx_cons, List.zipIdx_nil, List.forIn_cons, List.forIn_nil]
  refine wpAny_bind (wpAny_bind (wpAny_bind (wpAny_onRaise ?_)))
  show wpAny _ _ (Builtin.SmallTypes.nextOf (.ref i1) >>= _) _ _ _
  refine wpAny_bind (nextT_item (h1.extBut q1.extBut D.a3) (hl1.extBut q1.extBut D.b2) hx fun g2 j2 q2 => wpAny_pure ?_)
  have p2 : IsPair g2 TO a b := q2.extBut _ _ D.a8 (q1.extBut _ _ D.a2 hTO)
  refine wpAny_bind (wpAny_seqItems p2 rfl (wpAny_bind (wpAny_updateSeq_pair p2 fun g3 p3 q3 => wpAny_bind (wpAny_letGo (wpAny_pure ?_)))))
  replace p3 : IsPair g3 TO x b := p3
  refine wpAny_bind (wpAny_bind (wpAny_onRaise ?_))
  show wpAny _ _ (Builtin.SmallTypes.nextOf (.ref i2) >>= _) _ _ _
  refine wpAny_bind (nextT_item (((h2.extBut q1.extBut D.a4).extBut q2.extBut D.b1.symm).extBut q3.extBut D.a9.symm) (((hl2.extBut q1.extBut D.b6).extBut q2.extBut D.b8).extBut q3.extBut D.b7) hy fun g4 j4 q4 => wpAny_pure ?_)
  have p4 : IsPair g4 TO x b := q4.extBut _ _ D.a9 p3
  refine wpAny_bind (wpAny_seqItems p4 rfl (wpAny_bind (wpAny_updateSeq_pair p4 fun g5 p5 q5 => wpAny_bind (wpAny_letGo (wpAny_pure (wpAny_pure ?_))))))
  replace p5 : IsPair g5 TO x y := p5
  refine wpAny_bind (wpAny_seqItems p5 rfl (wpAny_bind (wpAny_newTuple ?_)))
  have sz : g5.objs.size = s.heap.objs.size := by rw [q5.1, q4.1, q3.1, q2.1, q1.1]
  have z5 : IsZip g5 z TI TO .ellipsis := q5.extBut _ _ D.a2.symm (q4.extBut _ _ D.a4.symm (q3.extBut _ _ D.a2.symm (q2.extBut _ _ D.a3.symm z1)))
  have k5 : ∀ c o, c ≠ z → c ≠ TO → c ≠ i1 → c ≠ i2 → s.heap.get? c = some o → g5.get? c = some o := fun c o c1 c2 c3 c4 e => q5.extBut _ _ c2 (q4.extBut _ _ c4 (q3.extBut _ _ c2 (q2.extBut _ _ c3 (q1.extBut _ _ c1 e))))
  have j5 : g5.IsTupleIter i1 t1 (k + 1) := ((j2.extBut q3.extBut D.a8.symm).extBut q4.extBut D.b1).extBut q5.extBut D.a8.symm
  have l5 : g5.IsTupleIter i2 t2 (k + 1) := j4.extBut q5.extBut D.a9.symm
  have zl : z < g5.objs.size := Heap.lt_size z5
  show wpAny _ _ (Builtin.SmallTypes.ownedTupleHandOut (.ref z) (.ref g5.objs.size) >>= _) _ _ _
  refine wpAny_bind ?_
  unfold Builtin.SmallTypes.ownedTupleHandOut
  have z6 : IsZip (g5.push { cls := .type "tuple", data := .seq #[x, y] }) z TI TO .ellipsis := Heap.get?_push_of_some _ z5
  refine wpAny_bind (wpAny_setField_rec z6 (by simp) fun g7 z7 q7 => ?_)
  replace z7 : IsZip g7 z TI TO (rawInt g5.objs.size) := z7
  refine wpAny_setField_rec z7 (by simp) fun g8 z8 q8 => ?_
  replace z8 : IsZip g8 z TI TO (rawInt g5.objs.size) := z8
  have up : ∀ c o, c ≠ z → g5.get? c = some o → g8.get? c = some o := fun c o c1 e => q8.extBut _ _ c1 (q7.extBut _ _ c1 (Heap.get?_push_of_some _ e))
  have n8 : IsPair g8 g5.objs.size x y := q8.extBut _ _ (Nat.ne_of_gt zl) (q7.extBut _ _ (Nat.ne_of_gt zl) (Heap.get?_push_size _ rfl))
  rw [sz] at z8 n8
  refine wpAny_pure ⟨_, rfl, ?_⟩
  show Q (.ref g5.objs.size) _
  rw [sz]
  refine hQ g8 z8 (up _ _ D.a2 p5) ?_ ?_ n8 fun c o c1 c2 c3 c4 e => up c o c1 (k5 c o c1 c2 c3 c4 e)
  · obtain ⟨o, e, r⟩ := j5; exact ⟨o, up _ o D.a3 e, r⟩
  · obtain ⟨o, e, r⟩ := l5; exact ⟨o, up _ o D.a4 e, r⟩
theorem zipT_end {z TI TO i1 i2 t1 t2 : Addr} {k : Nat} {xs : Array Value} {a b : Value} {Q : Fin → Shared → Prop} (hh : A.handled = none) (D : ZA z TI TO i1 i2 t1 t2)
    (hz : IsZip s.heap z TI TO .none) (hTI : IsPair s.heap TI (.ref i1) (.ref i2)) (hTO : IsPair s.heap TO a b) (h1 : s.heap.IsTupleIter i1 t1 k) (hl1 : s.heap.IsTuple t1 xs) (hx : xs[k]? = none)
    (hE : ∀ h' e, (∀ c o, c ≠ z → c ≠ TO → c ≠ i1 → c ≠ i2 → s.heap.get? c = some o → h'.get? c = some o) → (∃ o, h'.get? e = some o ∧ o.cls = .type "StopIteration") → E (.ref e) { s with heap := h' }) :
    wpAny (model prog w) A (Builtin.«zip.__next__» ⟨[.ref z], []⟩) Q E s := by
  show wpAny _ _ (field (.ref z) 2 >>= _) _ _ _; refine wpAny_bind (wpAny_field hz rfl (x := .bool false) rfl ?_)
  show wpAny _ _ (field (.ref z) 3 >>= _) _ _ _; refine wpAny_bind (wpAny_field hz rfl (x := .ref TI) rfl (wpAny_bind (wpAny_seqItems hTI rfl ?_)))
  show wpAny _ _ (Builtin.SmallTypes.ownedTupleIsFree (.ref z) >>= _) _ _ _
  unfold Builtin.SmallTypes.ownedTupleIsFree
  refine wpAny_bind (wpAny_bind (wpAny_field hz rfl (x := .none) rfl (wpAny_pure ?_)))
  simp only [if_true]
  refine wpAny_bind (wpAny_rule (wpAny_bind (wpAny_field hz rfl (x := .ref TO) rfl (wpAny_bind (wpAny_setField_rec hz (by simp) fun g1 z1 q1 => ?_)))))
  replace z1 : IsZip g1 z TI TO .ellipsis := z1
  simp only [List.zipIdx_cons, List.zipIdx_nil, List.forIn_cons, List.forIn_nil]
  refine wpAny_bind (wpAny_bind (wpAny_bind (wpAny_onRaise ?_)))
  show wpAny _ _ (Builtin.SmallTypes.nextOf (.ref i1) >>= _) _ _ _
  refine wpAny_bind (nextT_end hh (h1.extBut q1.extBut D.a3) (hl1.extBut q1.extBut D.b2) hx fun g2 e q2 ⟨oe, e1, e2⟩ => ?_)
  have z2 : IsZip g2 z TI TO .ellipsis := q2 _ _ D.a3.symm z1
  have hez : e ≠ z := fun x => by subst x; rw [z2] at e1; cases e1; simp at e2
  exact wpAny_setField_rec z2 (by simp) fun g3 _ q3 => hE g3 e (fun c o c1 _ c3 _ x => q3.extBut _ _ c1 (q2 _ _ c3 (q1.extBut _ _ c1 x))) ⟨oe, q3.extBut _ _ hez e1, e2⟩
end
theorem Inv.turnLaid {X : Cx} {pins : List (Addr × Obj)} {σ : St} {H : Hp} {s : Shared} {h' : Heap} {fp : List Addr} {a : Addr} {o : HO} {t' : Nat} (I : Inv X pins σ H s) (hf : ∀ b ∈ fp, FpOk X pins H b)
    (k : ∀ b u, b ∉ fp → s.heap.get? b = some u → h'.get? b = some u) (hp : s.heap.objs.size ≤ a) (new : ObjOk X.prog X.w (upd H a o) h' a o) : Inv X pins σ (upd H a o) { s with heap := h', toks := t' } := by
  have hn : H a = none := I.hok.fresh hp
  have nf : ∀ b u, H b = some u → b ∉ fp := fun b u e hb => by rw [(hf b hb).1] at e; cases e
  refine I.step (g' := s.gens) (d' := s.drawn) (ch := fp) (fun b hb => ⟨(hf b hb).2.2.2.1, (hf b hb).2.1, (hf b hb).2.2.2.2.1, (hf b hb).2.2.2.2.2⟩) (fun b u _ _ hc e _ => k b u hc e) (fun b u _ _ hc e _ => ⟨u.slots, k b u hc e⟩)
    (fun b u _ e n => by rw [upd_ne (Nat.ne_of_lt (Nat.lt_of_lt_of_le (Heap.lt_size e) hp))]; exact n) (fun b u hc e => ⟨u, k b u hc e⟩) (fun b xs e => by rw [upd_ne (ne_of_none e hn)]; exact e)
    (fun b u v e => by rw [upd_ne (ne_of_none e hn)]; exact e) (fun b ps e => ⟨#[], by rw [upd_ne (ne_of_none e hn), e]; simp⟩) (fun m hm => ?_) (fun b u e => ?_) I.bare
  · obtain ⟨ob, es, ep, ho, r⟩ := hm
    exact ⟨ob, es, ep, k _ ob (fun z => (hf _ z).2.1 rfl) ho, r⟩
  · by_cases hb : b = a
    · subst hb
      rw [upd_same] at e
      cases e
      exact new
    · rw [upd_ne hb] at e
      refine (I.hok b u e).stay (fun c v hc q => k c v ?_ q) (fun c q => by rw [upd_ne (ne_of_none q hn)]; exact q) fun c xs q => by rw [upd_ne (ne_of_none q hn)]; exact q
      rcases hc with z | z
      · rw [z]; exact nf b u e
      · exact nf c _ z
theorem Inv.turnedL {X : Cx} {pins : List (Addr × Obj)} {σ : St} {H : Hp} {s : Shared} {h' : Heap} {fp : List Addr} {t' : Nat} (I : Inv X pins σ H s) (hf : ∀ b ∈ fp, FpOk X pins H b)
    (k : ∀ b u, b ∉ fp → s.heap.get? b = some u → h'.get? b = some u) : Inv X pins σ H { s with heap := h', toks := t' } := by
  have nf : ∀ b u, H b = some u → b ∉ fp := fun b u e hb => by rw [(hf b hb).1] at e; cases e
  refine I.step (g' := s.gens) (d' := s.drawn) (ch := fp) (fun b hb => ⟨(hf b hb).2.2.2.1, (hf b hb).2.1, (hf b hb).2.2.2.2.1, (hf b hb).2.2.2.2.2⟩) (fun b u _ _ hc e _ => k b u hc e) (fun b u _ _ hc e _ => ⟨u.slots, k b u hc e⟩)
    (fun b u _ e n => n) (fun b u hc e => ⟨u, k b u hc e⟩) (fun b xs e => e) (fun b u v e => e) (fun b ps e => ⟨#[], by rw [e]; simp⟩) (fun m hm => ?_) (fun b u e => ?_) I.bare
  · obtain ⟨ob, es, ep, ho, r⟩ := hm
    exact ⟨ob, es, ep, k _ ob (fun z => (hf _ z).2.1 rfl) ho, r⟩
  · refine (I.hok b u e).stay (fun c v hc q => k c v ?_ q) (fun c q => q) fun c xs q => q
    rcases hc with z | z
    · rw [z]; exact nf b u e
    · exact nf c _ z
def Itz (K : PySem.W.Frag) (t1 t2 : Addr) : It :=
  ⟨fun i H => ∃ xs ys x y, SqT K H t1 xs ∧ SqT K H t2 ys ∧ xs[i]? = some x ∧ ys[i]? = some y, fun i H v H' => ∃ p, H p = none ∧ v = .ref p ∧ ∀ xs ys x y, SqT K H t1 xs → SqT K H t2 ys → xs[i]? = some x → ys[i]? = some y → H' = upd H p (.tup [x, y]),
    fun i H => ∃ xs, SqT K H t1 xs ∧ xs.length ≤ i⟩
theorem turn_zip {P : Program} {w : World} {K : PySem.W.Frag} {elts : List Expr} {x1 : Nat} {tpos : Pos} {z TI TO i1 i2 t1 t2 : Addr} (D : ZA z TI TO i1 i2 t1 t2) : Turn P w K (.Tuple elts x1 tpos) (Itz K t1 t2) [z, TI, TO, i1, i2] z
    (fun i h => IsZip h z TI TO .none ∧ IsPair h TI (.ref i1) (.ref i2) ∧ (∃ a b, IsPair h TO a b) ∧ h.IsTupleIter i1 t1 i ∧ h.IsTupleIter i2 t2 i) where
  mem := by simp
  obj := fun i h st b hb => by
    obtain ⟨hz, hTI, ⟨a, c, hTO⟩, ⟨o1, e1, _, d1⟩, ⟨o2, e2, _, d2⟩⟩ := st
    simp only [List.mem_cons, List.not_mem_nil, or_false] at hb
    rcases hb with rfl | rfl | rfl | rfl | rfl
    · exact ⟨_, hz, fun v q => nomatch q⟩
    · exact ⟨_, hTI, fun v q => nomatch q⟩
    · exact ⟨_, hTO, fun v q => nomatch q⟩
    · exact ⟨_, e1, fun v q => by rw [d1] at q; cases q⟩
    · exact ⟨_, e2, fun v q => by rw [d2] at q; cases q⟩
  keep := fun i h h' st k => by
    obtain ⟨hz, hTI, ⟨a, c, hTO⟩, ⟨o1, e1, r1⟩, ⟨o2, e2, r2⟩⟩ := st
    exact ⟨k z (by simp) _ hz, k TI (by simp) _ hTI, ⟨a, c, k TO (by simp) _ hTO⟩, ⟨o1, k i1 (by simp) _ e1, r1⟩, ⟨o2, k i2 (by simp) _ e2, r2⟩⟩
  item := by
    intro X hP hw hK hc i pins s σ H E I hf st hg
    subst hP hw hK
    obtain ⟨xs, ys, x, y, q1, q2, e1, e2⟩ := hg
    obtain ⟨its, rv, p, hz'⟩ := I.tuple q1
    obtain ⟨jts, rw', p', hz''⟩ := I.tuple q2
    obtain ⟨u, hu, ru⟩ := rv.get e1
    obtain ⟨u', hu', ru'⟩ := rw'.get e2
    obtain ⟨hz, hTI, ⟨a, c, hTO⟩, h1, h2⟩ := st
    have hT : s.TypeIs (.ref z) "zip" := ⟨_, hz, rfl⟩
    unfold pyNext
    refine wpAny_bind (wpAny_attempt (wpAny_callSpecial?_slot (name := Str.ofString "__next__") hT F.slot_zip_next (wpAny_call_entry F.slot_zip_next hT F.entry_zip_next
      (zipT_item D hz hTI hTO h1 h2 (show s.heap.IsTuple t1 its.toArray from p) (show s.heap.IsTuple t2 jts.toArray from p') (x := u) (y := u') (by simpa using hu) (by simpa using hu') fun h' a1 a2 a3 a4 a5 a6 => wpAny_pure ?_) (F.args_zip_next_1 _))))
    refine ⟨_, rfl, wpAny_letOwnedTupleGo_zip a1 fun h2' a1' q' => ?_⟩
    have hn : H s.heap.objs.size = none := I.hok.fresh (Nat.le_refl _)
    have zlt : z < s.heap.objs.size := Heap.lt_size hz
    have tlt : TO < s.heap.objs.size := Heap.lt_size hTO
    have i1lt : i1 < s.heap.objs.size := by obtain ⟨_, e, _⟩ := h1; exact Heap.lt_size e
    have i2lt : i2 < s.heap.objs.size := by obtain ⟨_, e, _⟩ := h2; exact Heap.lt_size e
    have kk : ∀ b ob, b ∉ [z, TI, TO, i1, i2] → s.heap.get? b = some ob → h2'.get? b = some ob := fun b ob hb e => by
      simp only [List.mem_cons, List.not_mem_nil, or_false, not_or] at hb
      exact q'.extBut _ _ hb.1 (a6 b ob hb.1 hb.2.2.1 hb.2.2.2.1 hb.2.2.2.2 e)
    have I1 : Inv X pins σ (upd H s.heap.objs.size (.tup [x, y])) { s with heap := h2' } := I.turnLaid (t' := s.toks) hf kk (Nat.le_refl _)
      ⟨⟨by show 2 ≤ sizeLine; decide, fun o e => by rw [q'.extBut _ _ (Nat.ne_of_gt zlt) a5] at e; cases e; rfl⟩, [u, u'], .cons ru (.cons ru' .nil), ⟨_, q'.extBut _ _ (Nat.ne_of_gt zlt) a5, rfl, _, rfl⟩⟩
    refine ⟨.ref s.heap.objs.size, _, I1, rfl, ⟨_, hn, rfl, fun xs' ys' x' y' k1 k2 k3 k4 => ?_⟩, ⟨a1', q'.extBut _ _ D.a1 (a6 _ _ D.a1 D.a5 D.a6 D.a7 hTI), ⟨_, _, q'.extBut _ _ D.a2 a2⟩, a3.extBut q'.extBut D.a3, a4.extBut q'.extBut D.a4⟩, fun b hb => ?_⟩
    · rw [I.tuple_inj k1 q1, e1] at k3
      rw [I.tuple_inj k2 q2, e2] at k4
      cases k3
      cases k4
      rfl
    · have hb' := hb
      simp only [List.mem_cons, List.not_mem_nil, or_false] at hb'
      have hlt : b < s.heap.objs.size := by
        rcases hb' with rfl | rfl | rfl | rfl | rfl
        · exact zlt
        · exact Heap.lt_size hTI
        · exact tlt
        · exact i1lt
        · exact i2lt
      rw [upd_ne (Nat.ne_of_lt hlt)]
      exact (hf b hb).1
  done := by
    intro X hP hw hK hc i pins s σ H E I hf st hg
    subst hP hw hK
    obtain ⟨xs, q1, e1⟩ := hg
    obtain ⟨its, rv, p, hz'⟩ := I.tuple q1
    obtain ⟨hz, hTI, ⟨a, c, hTO⟩, h1, h2⟩ := st
    have hT : s.TypeIs (.ref z) "zip" := ⟨_, hz, rfl⟩
    have hl := rv.length
    unfold pyNext
    refine wpAny_bind (wpAny_attempt (wpAny_callSpecial?_slot (name := Str.ofString "__next__") hT F.slot_zip_next (wpAny_call_entry F.slot_zip_next hT F.entry_zip_next
      (zipT_end (I.ok.hd hc) D hz hTI hTO h1 (show s.heap.IsTuple t1 its.toArray from p) (by simp; omega) fun h' e kk ⟨o, ho, hcl⟩ => ?_) (F.args_zip_next_1 _))))
    refine wpAny_bind (wpAny_isInstance (T := "StopIteration") (b := true) ⟨o, ho, hcl⟩ isSubtype_stop (wpAny_pure ⟨rfl, I.turnedL (t' := s.toks) hf fun b u hb q => ?_⟩))
    simp only [List.mem_cons, List.not_mem_nil, or_false, not_or] at hb
    exact kk b u hb.1 hb.2.2.1 hb.2.2.2.1 hb.2.2.2.2 q
  self := fun _ _ _ _ _ st h => wpAny_pyIter_zip st.1 h
abbrev zq1 (h : Heap) (l1 : Addr) : Heap := h.push { cls := .type "tuple_iterator", data := .fields #[.ref l1, .int 0 0] }
abbrev zq2 (h : Heap) (l1 l2 : Addr) : Heap := (zq1 h l1).push { cls := .type "tuple_iterator", data := .fields #[.ref l2, .int 0 0] }
abbrev zq3 (h : Heap) (l1 l2 : Addr) : Heap := (zq2 h l1 l2).push { cls := .type "tuple", data := .seq #[.ref h.objs.size, .ref (zq1 h l1).objs.size] }
abbrev zq4 (h : Heap) (l1 l2 : Addr) : Heap := (zq3 h l1 l2).push { cls := .type "tuple", data := .seq #[.none, .none] }
abbrev zq5 (h : Heap) (l1 l2 : Addr) : Heap := (zq4 h l1 l2).push { cls := .type "zip", data := .fields #[.none, .bool false, .bool false, .ref (zq2 h l1 l2).objs.size, .ref (zq3 h l1 l2).objs.size] }
theorem zq_new (l1 l2 : Addr) (xs ys : Array Value) : Meets (Builtin.«zip.__new__» ⟨[.type "zip", .ref l1, .ref l2], []⟩) (fun _ R s => s.heap.IsTuple l1 xs ∧ s.heap.IsTuple l2 ys ∧ R (.ok (.ret (.ref (zq4 s.heap l1 l2).objs.size))) { s with heap := zq5 s.heap l1 l2 }) :=
  .of_wp fun prog w A R s h => by
    obtain ⟨hp, g, d, tk, os⟩ := s
    obtain ⟨hl1, hl2, h⟩ := h
    have hsub := sub_zip
    have hL1 : Heap.IsTuple (Shared.heap ⟨hp, g, d, tk, os⟩) l1 xs := hl1
    have hL2 : Heap.IsTuple (Shared.heap ⟨hp.push { cls := .type "tuple_iterator", data := .fields #[.ref l1, .int 0 0] }, g, d, tk, os⟩) l2 ys := Heap.IsTuple.push hl2 _
    wp_walk using wpAny_pyIter_tuple hL1, wpAny_pyIter_tuple hL2
    exact ⟨_, rfl, h⟩
theorem zq_call {prog : Program} {w : World} {A : Around} {E : Value → Shared → Prop} {s : Shared} {l1 l2 : Addr} {xs ys : Array Value} {Q : Value → Shared → Prop} (hl1 : s.heap.IsTuple l1 xs) (hl2 : s.heap.IsTuple l2 ys)
    (h : Q (.ref (zq4 s.heap l1 l2).objs.size) { s with heap := zq5 s.heap l1 l2 }) : wpAny (model prog w) A (call (.type "zip") [.ref l1, .ref l2]) Q E s := by
  refine callType_new F.called_zip (by decide) (F.typeCall_zip_2 _ _) (F.newCall_zip_2 _ _) (fun obj => F.args_object_init_3 obj _ _) F.entry_zip_new (zq_new l1 l2 xs ys) ⟨hl1, hl2, ?_⟩
  show _ ∧ _
  exact ⟨⟨_, Heap.get?_push_size _ rfl, rfl⟩, h⟩
theorem za_of {n t1 t2 : Nat} (h1 : t1 < n) (h2 : t2 < n) : ZA (n + 4) (n + 2) (n + 3) n (n + 1) t1 t2 := by
  constructor <;> (change @Ne Nat _ _; omega)
section
variable {X : Cx}
def iZip (K : PySem.W.Frag) (ta : TA) : TI := fun σ H R => ta σ H fun vs H1 => ∃ a b xs ys, vs = [.ref a, .ref b] ∧ SqT K H1 a xs ∧ SqT K H1 b ys ∧ R (Itz K a b) H1
theorem pi_zip {elts : List Expr} {x1 : Nat} {tpos : Pos} {a b : Expr} {ta : TA} {p pos : Pos} (hg : Gl X "zip") (hm : X.mg "zip" = none) (ha : PA X [a, b] ta)
    (he : starEach [a, b] X.env = (false, eval a X.env) :: starEach [b] X.env := by rfl) (hpl : (backTo pos (starEach [b] X.env)).any (·.1) = false := by rfl) : PI X (.Tuple elts x1 tpos) (.Call (.Name "zip" p) [a, b] [] pos) (iZip X.K ta) := by
  intro pins s σ H R I h
  refine wpAny_Call_Name_kw (ld_blt I hg hm boot_zip ?_)
  refine PyProof.Rows.callWith_type1 (thn (ha pos pins s σ H _ I h) fun us s1 ⟨vs, H1, I1, r1, t1, t2, xs, ys, e, q1, q2, q⟩ => ?_) he hpl
  subst e
  obtain ⟨u, w', rfl, ru, rw'⟩ := vals2 r1
  cases ru
  cases rw'
  obtain ⟨its, rv, p1, hz1⟩ := I1.tuple q1
  obtain ⟨jts, rv2, p2, hz2⟩ := I1.tuple q2
  refine zq_call (show s1.heap.IsTuple t1 its.toArray from p1) (show s1.heap.IsTuple t2 jts.toArray from p2) ?_
  have b1 : (zq1 s1.heap t1).objs.size = s1.heap.objs.size + 1 := Heap.size_push ..
  have b2 : (zq2 s1.heap t1 t2).objs.size = s1.heap.objs.size + 2 := by rw [Heap.size_push, b1]
  have b3 : (zq3 s1.heap t1 t2).objs.size = s1.heap.objs.size + 3 := by rw [Heap.size_push, b2]
  have b4 : (zq4 s1.heap t1 t2).objs.size = s1.heap.objs.size + 4 := by rw [Heap.size_push, b3]
  have c1 : t1 < s1.heap.objs.size := p1.lt
  have c2 : t2 < s1.heap.objs.size := p2.lt
  have hz : IsZip (zq5 s1.heap t1 t2) (zq4 s1.heap t1 t2).objs.size (zq2 s1.heap t1 t2).objs.size (zq3 s1.heap t1 t2).objs.size .none := Heap.get?_push_size _ rfl
  have DD : ZA (zq4 s1.heap t1 t2).objs.size (zq2 s1.heap t1 t2).objs.size (zq3 s1.heap t1 t2).objs.size s1.heap.objs.size (zq1 s1.heap t1).objs.size t1 t2 := by
    rw [b4, b2, b3, b1]
    exact za_of c1 c2
  refine wpAny_pyIter_zip hz ?_
  have I2 : Inv X pins σ H1 { s1 with heap := zq5 s1.heap t1 t2 } := I1.kept (t' := s1.toks) fun b o e => Heap.get?_push_of_some _ (Heap.get?_push_of_some _ (Heap.get?_push_of_some _ (Heap.get?_push_of_some _ (Heap.get?_push_of_some _ e))))
  refine ⟨(zq4 s1.heap t1 t2).objs.size, [(zq4 s1.heap t1 t2).objs.size, (zq2 s1.heap t1 t2).objs.size, (zq3 s1.heap t1 t2).objs.size, s1.heap.objs.size, (zq1 s1.heap t1).objs.size], _, Itz X.K t1 t2, H1, rfl, I2,
    turn_zip DD, ⟨hz, ?_, ⟨.none, .none, ?_⟩, ?_, ?_⟩, fun b hb => ?_, q⟩
  · exact Heap.get?_push_of_some _ (Heap.get?_push_of_some _ (Heap.get?_push_size _ rfl))
  · exact Heap.get?_push_of_some _ (Heap.get?_push_size _ rfl)
  · exact ⟨_, Heap.get?_push_of_some _ (Heap.get?_push_of_some _ (Heap.get?_push_of_some _ (Heap.get?_push_of_some _ (Heap.get?_push_size _ rfl)))), rfl, rfl⟩
  · exact ⟨_, Heap.get?_push_of_some _ (Heap.get?_push_of_some _ (Heap.get?_push_of_some _ (Heap.get?_push_size _ rfl))), rfl, rfl⟩
  · have hle : s1.heap.objs.size ≤ b := by
      rw [b4, b2, b3, b1] at hb
      simp only [List.mem_cons, List.not_mem_nil, or_false] at hb
      rcases hb with h | h | h | h | h <;> rw [h] <;> first | exact Nat.le_refl _ | exact Nat.le_add_right _ _
    exact I1.fpOk hle (I1.hok.fresh hle)
def tPar3 (i j k : Nat) (ta : TA) : TS := fun D σ H => ta σ H fun vs H1 => ∃ v w y, vs = [v, w, y] ∧ D.nx (((σ.set k (some y)).set j (some w)).set i (some v)) H1
theorem ps_par3 {i j k : Nat} {x y z : Str} {a b c : Expr} {ta : TA} {px py pz pt : Pos} {kt k2 pt2} {pos : Pos} (hc : X.calm = true) (hN : X.N.Nodup) (hi : X.N[i]? = some x) (hj : X.N[j]? = some y) (hk : X.N[k]? = some z) (_ : i ≠ j) (_ : i ≠ k) (_ : j ≠ k)
    (hx : X.env.scope.names.lookup x = some .local) (hy : X.env.scope.names.lookup y = some .local) (hz : X.env.scope.names.lookup z = some .local) (ha : PA X [a, b, c] ta)
    (hw : swappedStores [.Tuple [.Name x px, .Name y py, .Name z pz] kt pt] (.Tuple [a, b, c] k2 pt2) X.env = pure (some [x, y, z]))
    (hs : swapsWithSole [.Tuple [.Name x px, .Name y py, .Name z pz] kt pt] (.Tuple [a, b, c] k2 pt2) pos.line X.env = pure false := by rfl) :
    PS X (.Assign [.Tuple [.Name x px, .Name y py, .Name z pz] kt pt] (.Tuple [a, b, c] k2 pt2) pos) (tPar3 i j k ta) := by
  intro pins s σ H D I h
  rw [exec_Assign_arm]; refine wpAny_bind (wpAny_standAt ?_)
  rw [hs]; refine wpAny_bind (wpAny_pure ?_)
  rw [if_neg (by decide)]; refine wpAny_bind (Tuple_ (thn (ha _ pins s σ H _ I h) fun us s1 ⟨vs, H1, I1, r1, v, w, y', e1, q1⟩ => ?_))
  subst e1
  obtain ⟨u1, u2, u3, rfl, m1, m2, m3⟩ : ∃ u1 u2 u3, us = [u1, u2, u3] ∧ RelV v u1 ∧ RelV w u2 ∧ RelV y' u3 := by
    cases r1 with
    | cons p q =>
      cases q with
      | cons p' q' =>
        cases q' with
        | cons p'' q'' => cases q''; exact ⟨_, _, _, rfl, p, p', p''⟩
  refine wpAny_newObj_type ?_ (by show 3 ≤ sizeLine; decide)
  have I2 : Inv X pins σ H1 { s1 with heap := s1.heap.push { cls := .type "tuple", data := .seq [u1, u2, u3].toArray } } := I1.kept (t' := s1.toks) fun b o e => Heap.get?_push_of_some _ e
  rw [hw]; refine wpAny_bind (wpAny_pure ?_)
  show wpAny (model X.prog X.w) X.A (do rule "assign.swapped-stores"; let items ← unpackItems (.ref s1.heap.objs.size) 3 none; assignInOrder [fun v => bindName X.env z v, fun v => bindName X.env y v, fun v => bindName X.env x v] items.reverse; pure Flow.next) _ _ _
  refine wpAny_bind (wpAny_rule (wpAny_bind (unpackItems_tuple (items := #[u1, u2, u3]) (I.ok.hd hc) (IsTup.new s1.heap _) fun h' hx' => ?_)))
  have I3 := I2.kept (h' := h') (t' := s1.toks) fun b o e => hx' b o (Nat.ne_of_lt (Heap.lt_size e)) e
  show wpAny _ _ (assignInOrder [fun v => bindName X.env z v, fun v => bindName X.env y v, fun v => bindName X.env x v] [u3, u2, u1] >>= fun _ => pure Flow.next) _ _ _
  refine wpAny_bind (assignInOrder_cons (wpAny_bindName (store_ok I3 hN hk (.inl hz) m3 (fun s2 I4 => ?_) (.inr hz))))
  refine assignInOrder_cons (wpAny_bindName (store_ok I4 hN hj (.inl hy) m2 (fun s3 I5 => ?_) (.inr hy)))
  exact assignInOrder_cons (wpAny_bindName (store_ok I5 hN hi (.inl hx) m1 (fun s4 I6 => assignInOrder_nil (wpAny_pure ⟨_, H1, I6, q1⟩)) (.inr hx)))
theorem call_all (hc : X.calm = true) : CallR X (.builtin "all") (fun xs H Q => ∃ (p : Addr) (bs : List Bool), xs = [.ref p] ∧ SqL X.K H p (bs.map V.bl) ∧ Q (.bl (bs.all id)) H) := by
  intro pins s σ H xs us Q I r h
  obtain ⟨p, bs, rfl, hq, q⟩ := h
  obtain ⟨u, rfl, ru⟩ := vals1 r
  cases ru
  obtain ⟨its, rv, pl, hz⟩ := I.list hq
  have hl := rv.length
  rw [List.length_map] at hl
  refine call_all_walk (wpAny_pyIter_list pl.isList ?_)
  have plt : p < s.heap.objs.size := by obtain ⟨o, e, _⟩ := pl.isList; exact Heap.lt_size e
  refine ⟨s.heap.objs.size, _, _, _, _, _, fun i => bs.getD i true, rfl, Walks.list (A := X.A.in1) (I.ok.hd hc) s.heap.objs.size p (Nat.ne_of_lt plt) its.toArray, ⟨⟨_, Heap.get?_push_size _ rfl, rfl, rfl⟩, pl.isList.push _⟩, fun i v s' Q' E' hv hQ => ?_, fun h' tk kk => ?_⟩
  · have hi : i < bs.length := by
      have := (Array.getElem?_eq_some_iff.mp hv).1
      rw [List.size_toArray] at this
      omega
    obtain ⟨u, hu, ru⟩ := rv.get (i := i) (x := V.bl bs[i]) (by simp [hi])
    have hv' : its[i]? = some v := by simpa using hv
    rw [hv'] at hu
    cases hu
    cases ru
    refine wpAny_truthy_bool ?_
    simpa [hi] using hQ
  · have ee : ((List.range its.toArray.size).all fun i => bs.getD i true) = bs.all id := by
      rw [List.size_toArray, ← hl]
      apply Bool.eq_iff_iff.mpr
      rw [List.all_eq_true, List.all_eq_true]
      constructor
      · intro h b hb
        obtain ⟨i, hi, rfl⟩ := List.getElem_of_mem hb
        have := h i (List.mem_range.mpr hi)
        simpa [hi] using this
      · intro h i hi
        have hi' := List.mem_range.mp hi
        have := h bs[i] (List.getElem_mem hi')
        simpa [hi'] using this
    rw [ee]
    have I1 : Inv X pins σ H { s with heap := s.heap.push { cls := .type "list_iterator", data := .fields #[.ref p, .int 0 0] } } := I.kept (t' := s.toks) fun b o e => Heap.get?_push_of_some _ e
    refine ⟨.bl _, H, I1.turned (t' := tk) (it := s.heap.objs.size) (fun b o hb e => kk b o (by simpa using hb) e) (I.hok.fresh (Nat.le_refl _)) (Nat.ne_of_gt I.lt) (.inr I.sz) ?_ ?_, rfl, q⟩
    · exact (I.fpOk (Nat.le_refl _) (I.hok.fresh (Nat.le_refl _))).2.2.2.2.1
    · exact (I.fpOk (Nat.le_refl _) (I.hok.fresh (Nat.le_refl _))).2.2.2.2.2
def Its (x : Str) : It := ⟨fun i _ => i < x.cps.size, fun i H v H' => H' = H ∧ ∃ c, x.cps[i]? = some c ∧ v = .str ⟨#[c]⟩, fun i _ => x.cps.size ≤ i⟩
theorem turn_str {P : Program} {w : World} {K : PySem.W.Frag} {tg : Expr} (x : Str) (t : Tok) (it : Addr) : Turn P w K tg (Its x) [it] it (fun i h => h.IsStrIter it "str_ascii_iterator" x t i) where
  mem := by simp
  obj := fun i h st b hb => by
    have e : b = it := by simpa using hb
    subst e
    obtain ⟨o, e, c, d⟩ := st
    exact ⟨o, e, fun v z => by rw [d] at z; cases z⟩
  keep := fun i h h' st k => by
    obtain ⟨o, e, r⟩ := st
    exact ⟨o, k it (by simp) o e, r⟩
  item := by
    intro X hP hw hK hc i pins s σ H E I hf st hg
    subst hP hw hK
    have hg : i < x.cps.size := hg
    obtain ⟨f0, f1, f2, f3, f4, f5⟩ := hf it (by simp)
    refine wpAny_pyNext_ascii_item st (c := x.cps[i]) (by simp [hg]) fun h' st' sb => ?_
    have I1 : Inv X pins σ H { s with heap := h', toks := s.toks + 1 } := I.turned (fun b o hb e => (sb.2 b hb).trans e) f0 f1 f3 f4 f5
    obtain ⟨o, e, c, d⟩ := id st'
    exact ⟨_, rfl, go_of (s := { s with heap := h', toks := s.toks + 1 }) e c d (by decide) ⟨.str ⟨#[x.cps[i]]⟩, H, I1, ⟨_, rfl⟩, ⟨rfl, _, by simp [hg], rfl⟩, st', fun b hb => (hf b hb).1⟩⟩
  done := by
    intro X hP hw hK hc i pins s σ H E I hf st hg
    subst hP hw hK
    have hg : x.cps.size ≤ i := hg
    obtain ⟨f0, f1, f2, f3, f4, f5⟩ := hf it (by simp)
    exact wpAny_pyNext_ascii_end (I.ok.hd hc) st (by simp [hg]) fun h' eb => ⟨rfl, I.turned (t' := s.toks) (fun b o hb e => eb b o hb e) f0 f1 f3 f4 f5⟩
  self := fun _ _ _ _ _ st h => wpAny_pyIter_striter_ascii st h
def iStr (te : TE) : TI := fun σ H R => te σ H fun v H1 => ∃ x, v = .str x ∧ x.cps.all (· < 128) = true ∧ R (Its x) H1
theorem pi_str {tg e : Expr} {te : TE} (he : PE X e te) : PI X tg e (iStr te) := by
  intro pins s σ H R I h
  refine thn (he pins s σ H _ I h) fun v s1 ⟨y, H1, I1, r1, x, e, hx, q⟩ => ?_
  subst e
  obtain ⟨t, rfl⟩ := r1
  refine wpAny_pyIter_ascii hx ?_
  refine ⟨s1.heap.objs.size, [s1.heap.objs.size], _, _, H1, rfl, I1.kept (t' := s1.toks) fun b o e => Heap.get?_push_of_some _ e, turn_str x t _, ⟨_, Heap.get?_push_size _ rfl, rfl, rfl⟩, fun b hb => ?_, q⟩
  have e : b = s1.heap.objs.size := by simpa using hb
  subst e
  exact I1.fpOk (Nat.le_refl _) (I1.hok.fresh (Nat.le_refl _))
theorem call_isinst : CallR X (.builtin "isinstance") (fun xs H Q => ∃ x n t b, xs = [x, .ty n] ∧ TyOf X.K H x t ∧ PySem.W.kitOne X.K t (.type n) = some b ∧ Q (.bl b) H) := by
  intro pins s σ H xs us Q I r h
  obtain ⟨x, n, t, b, rfl, ty, e, q⟩ := h
  obtain ⟨u, w', rfl, ru, rw'⟩ := vals2 r
  cases rw'
  exact isinst_ok I ru ty e fun tk => ⟨.bl b, H, I.tok _, rfl, q⟩
theorem kit_same (K : PySem.W.Frag) (n : String) : PySem.W.kitOne K (.type n) (.type n) = some true := by
  unfold PySem.W.kitOne
  rw [if_pos (by simp)]
end
end L2
end
section
set_option autoImplicit false
namespace L2
open PySem PySem.Spec PyProof.Rows
structure Flies (P : Program) (w : World) (outer : List Env) (H : Hp) (s : Shared) (e : Addr) (cls : Value) (H' : Hp) (B : Heap) (a0 : Value) (s' : Shared) : Prop where
  os : s'.os = s.os
  bare : AllBare s'.gens
  un : Un (frs outer) [] H H' s.heap s'.heap
  hok : HOk P w H' s'.heap
  fl : Heap.FlyingW B outer e cls a0 s'.heap
  covH : ∀ b, H' b ≠ none → ∃ o, B.get? b = some o
  covS : ∀ b o, s.heap.get? b = some o → b ∉ frs outer → ∃ o, B.get? b = some o
section
variable {P : Program} {w : World} {outer : List Env} {H H' : Hp} {s s' : Shared} {e : Addr} {cls a0 : Value} {B h2 : Heap}
end
section
variable {X : Cx} {pins : List (Addr × Obj)} {σ : St} {H H' : Hp} {s s' : Shared} {e : Addr} {cls a0 : Value} {B h2 : Heap}
end
section
variable {P : Program} {w : World} {K : PySem.W.Frag} {mg : Str → Option Value} {base : Heap} {N : List Str} {qual : Str} {scope : Scope} {f : Addr} {cd : Value} {A : Around} {outer : List Env} {s : Shared} {H : Hp} {E : XK}
end
end L2
end
section
set_option autoImplicit false
namespace L2
open PySem PySem.Spec PyProof.Rows
def ExAt (ea C : Addr) (h : Heap) : Prop := ∃ ob, h.get? ea = some ob ∧ ob.cls = .ref C
structure XIn (K : PySem.W.Frag) (C : Addr) : Prop where
  ga : PySem.W.findIn K (.ref C) "__getattribute__" = some (some (.builtin "BaseException.__getattribute__"))
  hk : PySem.W.findIn K (.ref C) "__getattr__" = some none
  ca : PySem.W.findIn K (.ref C) "__class__" = some (some (.builtin "object.__class__"))
  gt : PySem.W.specialIn K (.builtin "object.__class__") "__get__" = some (some (.builtin "getset_descriptor.__get__"))
  tk : PySem.W.takesIn K (.builtin "object.__class__") = some true
  ob : PySem.W.mroIn K C (.type "object") = some true
  be : PySem.W.mroIn K C (.type "BaseException") = some true
  cl : (PySem.W.clsIn K C).isSome = true
section
open Builtin Builtin.ObjectAttr Builtin.Getset_descriptor PySem.W
variable {prog : Program} {w : World} {K : PySem.W.Frag} {ea C : Addr}
end
end L2
end
section
set_option autoImplicit false
namespace L2
open PySem PySem.Spec PyProof.Rows
def ExcO (ea C : Addr) : HO := .ext (ExAt ea C)
section
variable {X : Cx}
end
structure XCls (K : PySem.W.Frag) (mg : Str → Option Value) (x : Str) (C : Addr) : Prop where
  m : mg x = some (.ref C)
  ex : PySem.W.excIn K C [.type "ValueError", .type "Exception", .type "BaseException", .type "object"] "ValueError.__new__" = true
  i : XIn K C
end L2
end
section
set_option autoImplicit false
namespace L2
open PySem PySem.Spec PyProof.Rows
structure Fnd (K : PySem.W.Frag) (mg : Str → Option Value) (x : Str) (st : Stmt) (ps : List Str) (f : Addr) (fd : FuncData) : Prop where
  fn : Fun K x x st f fd
  b : Binds K fd ps []
  m : mg x = some (.ref f)
theorem pe_callF {X : Cx} {x : Str} {st : Stmt} {ps : List Str} {f : Addr} {fd : FuncData} {k : Nat} {sp : Sp} {e : Expr} {es : List Expr} {t : TA} {p pos : Pos} (D : Fnd X.K X.mg x st ps f fd) (G : FnOk X.prog X.w X.K X.mg X.base CX0 k f fd ps sp) (hr : Room k X.A) (hg : Gl X x) (ha : PA X (e :: es) t)
    (hdb : (x == ("__debug__" : Str)) = false := by decide) (he : starEach (e :: es) X.env = (false, eval e X.env) :: starEach es X.env := by rfl) (hpl : (backTo pos (starEach es X.env)).any (·.1) = false := by rfl) : PE X (.Call (.Name x p) (e :: es) [] pos) (tCall sp [] E0 t) :=
  pe_call G hr hg D.m D.fn.kp D.b .nil pass0 ha hdb he hpl
theorem bt_len : bootBuiltins "len" = some (.builtin "len") := by decide +kernel
theorem bt_isinstance : bootBuiltins "isinstance" = some (.builtin "isinstance") := by decide +kernel
theorem bt_int : bootBuiltins "int" = some (.type "int") := by decide +kernel
theorem bt_bool : bootBuiltins "bool" = some (.type "bool") := by decide +kernel
theorem bt_tuple : bootBuiltins "tuple" = some (.type "tuple") := by decide +kernel
theorem bt_abs : bootBuiltins "abs" = some (.builtin "abs") := by decide +kernel
theorem bt_all : bootBuiltins "all" = some (.builtin "all") := by decide +kernel
theorem bt_any : bootBuiltins "any" = some (.builtin "any") := by decide +kernel
theorem bt_max : bootBuiltins "max" = some (.builtin "max") := by decide +kernel
def tJoin (t u : TS) : TS := fun D σ H => ∃ M : St → Hp → Prop, t { D with nx := M } σ H ∧ ∀ σ' H', M σ' H' → u D σ' H'
theorem pss_join {X : Cx} {st : Stmt} {rest : List Stmt} {t u : TS} (h1 : PS X st t) (h2 : PSs X rest u) : PSs X (st :: rest) (tJoin t u) := by
  intro pins s σ H D I h
  obtain ⟨M, h, hM⟩ := h
  refine wpAny_execs_cons (thn (h1 pins s σ H _ I h) fun f s1 q => ?_)
  cases f with
  | next =>
    obtain ⟨σ1, H1, I1, m1⟩ := q
    exact h2 pins s1 σ1 H1 D I1 (hM σ1 H1 m1)
  | brk => exact q
  | cont => exact q
  | ret u => exact q
def Off (p : Addr) (H H' : Hp) : Prop := ∀ b o, b ≠ p → H b = some o → H' b = some o
theorem Off.trans {p : Addr} {H H1 H2 : Hp} (a : Off p H H1) (b : Off p H1 H2) : Off p H H2 := fun c o n e => b c o n (a c o n e)
theorem Off.upd {p : Addr} {H : Hp} {o : HO} : Off p H (upd H p o) := fun c u n e => by rw [upd_ne n]; exact e
theorem Off.new {p q : Addr} {H : Hp} {o : HO} (h : H q = none) : Off p H (L2.upd H q o) := fun c u _ e => by rw [upd_ne (ne_of_none e h)]; exact e
theorem Same.off {p : Addr} {H H' : Hp} (h : Same H H') : Off p H H' := fun c u _ e => h c u e
theorem Same.new {q : Addr} {H : Hp} {o : HO} (h : H q = none) : Same H (upd H q o) := fun c u e => by rw [upd_ne (ne_of_none e h)]; exact e
theorem atI_in {α : Type} {xs : List α} {i : Int} (h0 : 0 ≤ i) (h1 : i < xs.length) : ∃ v, atI xs i = some v ∧ v ∈ xs ∧ xs[i.toNat]? = some v := by
  have h : i.toNat < xs.length := by omega
  refine ⟨xs[i.toNat], ?_, List.getElem_mem h, List.getElem?_eq_getElem h⟩
  have := atI_nat (xs := xs) (j := i.toNat) (v := xs[i.toNat]) (List.getElem?_eq_getElem h)
  rw [Int.toNat_of_nonneg h0] at this
  exact this
theorem atI_strs {ns : List Str} {i : Int} (h0 : 0 ≤ i) (h1 : i < ns.length) : ∃ x, atI (ns.map V.str) i = some (.str x) ∧ x ∈ ns ∧ ns[i.toNat]? = some x := by
  obtain ⟨v, e, m, g⟩ := atI_in (xs := ns.map V.str) h0 (by rw [List.length_map]; exact h1)
  rw [List.getElem?_map] at g
  cases q : ns[i.toNat]? with
  | none => rw [q] at g; cases g
  | some x =>
    rw [q] at g
    cases g
    exact ⟨x, e, List.mem_of_getElem? q, rfl⟩
theorem strs_ne {as : List Str} {a b c : Int} : ¬ HO.lst [.int a, .int b, .int c] = HO.lst (as.map V.str) := by
  intro h
  cases as with
  | nil => cases h
  | cons x r =>
    injection h with h
    injection h with h
    cases h
theorem inV_strs {x : Str} {ns : List Str} : inV (.str x) (ns.map V.str) = decide (x ∈ ns) := by
  unfold inV
  rw [List.any_map]
  apply Bool.eq_iff_iff.mpr
  rw [List.any_eq_true, decide_eq_true_iff]
  constructor
  · rintro ⟨y, hy, e⟩
    have : (y == x) = true := e
    rw [beq_iff_eq] at this
    rw [← this]
    exact hy
  · intro h
    exact ⟨x, h, by show (x == x) = true; simp⟩
theorem flat_strs (ns : List Str) : (ns.map V.str).all flatV = true := by
  rw [List.all_map, List.all_eq_true]
  exact fun _ _ => rfl
def strsOf : List Expr → Option (List Str)
  | [] => some []
  | .Constant (.str x) _ _ :: r => (strsOf r).map (x :: ·)
  | _ => none
theorem pa_strs {X : Cx} : ∀ {es : List Expr} (ns : List Str), strsOf es = some ns → PA X es (fun _ H Q => Q (ns.map V.str) H)
  | [], ns, h => by
    have e : ns = [] := by
      unfold strsOf at h
      exact (Option.some.inj h).symm
    subst e
    exact pa_nil
  | e :: es, ns, h => by
    cases e with
    | Constant c j pos =>
      cases c with
      | str x =>
        unfold strsOf at h
        cases q : strsOf es with
        | none => rw [q] at h; cases h
        | some ms =>
          rw [q] at h
          have e : ns = x :: ms := (Option.some.inj h).symm
          subst e
          exact pa_cons pe_str (pa_strs ms q)
      | _ => unfold strsOf at h; cases h
    | _ => unfold strsOf at h; cases h
theorem op_notIn_K {X : Cx} {K : PySem.W.Frag} (h : X.K = K) : OpR X (compareOp .NotIn) (rIn K true) := by subst h; exact op_notIn_seq
theorem ix_list_K {X : Cx} {K : PySem.W.Frag} (h : X.K = K) : IxR X (rIxL K) := by subst h; exact ix_list
theorem ix_tup_K {X : Cx} {K : PySem.W.Frag} (h : X.K = K) : IxR X (rIxT K) := by subst h; exact ix_tup
theorem sl_tup_K {X : Cx} {K : PySem.W.Frag} (h : X.K = K) : SlR X (rSlT K) := by subst h; exact sl_tup
theorem pg_tup_K {X : Cx} {K : PySem.W.Frag} {es : List Expr} {k : Nat} {t : TGs} {n : Nat} {pos : Pos} (hk : X.K = K) (hc : X.calm = true) (h : PGs X es t) (hn : (assignEach es X.env).length = n := by rfl) (hst : (assignEach es X.env).findIdx? (·.1) = none := by rfl) :
    PG X (.Tuple es k pos) (gTup K n t) := by subst hk; exact pg_tup hc h hn hst
def okF (scope : Scope) (N0 N own : List Str) (fr : List Nat) (j : Nat) : Bool := match fr[j]? with
  | none => false
  | some i => match N[own.length + j]?, N0[i]? with
    | some x, some y => (x == y) && (scope.names.lookup x == some .free)
    | _, _ => false
def CSc (scX : Scope) (N0 : List Str) (scope : Scope) (own : List Str) (fr : List Nat) (N : List Str) : Prop :=
  scope.kind = .function ∧ (scope.names.map (·.1)).Nodup ∧ (∀ y ∈ scope.names, y.2 = .local → scope.names.lookup y.1 = some .local) ∧ (∀ y ∈ scope.names, y.2 = .free → scX.names.lookup y.1 = some .cell ∨ scX.names.lookup y.1 = some .free) ∧
    N.length = own.length + fr.length ∧ (∀ j ∈ List.range fr.length, okF scope N0 N own fr j = true) ∧ N.take own.length = own
instance (scX : Scope) (N0 : List Str) (scope : Scope) (own : List Str) (fr : List Nat) (N : List Str) : Decidable (CSc scX N0 scope own fr N) := by
  unfold CSc
  infer_instance
theorem CompScope.of {X : Cx} {scope : Scope} (own : List Str) (fr : List Nat) (N : List Str) (scX : Scope) (N0 : List Str) (hsc : X.env.scope = scX) (hN : X.N = N0) (h : CSc scX N0 scope own fr N) : CompScope X scope own fr N where
  kind := h.1
  nodup := h.2.1
  names := h.2.2.1
  free := fun y hy e => by
    show X.env.scope.names.lookup y.1 = _ ∨ X.env.scope.names.lookup y.1 = _
    rw [hsc]
    exact h.2.2.2.1 y hy e
  len := h.2.2.2.2.1
  isfr := fun j i e => by
    have hj : j < fr.length := (List.getElem?_eq_some_iff.mp e).1
    have q := h.2.2.2.2.2.1 j (List.mem_range.mpr hj)
    unfold okF at q
    rw [e] at q
    simp only at q
    cases e1 : N[own.length + j]? with
    | none => rw [e1] at q; simp at q
    | some x =>
      cases e2 : N0[i]? with
      | none => rw [e1, e2] at q; simp at q
      | some y =>
        rw [e1, e2] at q
        simp only [Bool.and_eq_true, beq_iff_eq] at q
        exact ⟨x, rfl, by rw [hN, e2, q.1], q.2⟩
  frs := fun j x e hj => by
    rw [← h.2.2.2.2.2.2, List.getElem?_take_of_lt hj]
    exact e
end L2
end
section
set_option autoImplicit false
namespace L2
open PySem PySem.Spec PyProof.Rows
section
variable {X : Cx} {pins : List (Addr × Obj)} {σ : St} {H : Hp} {s : Shared}
abbrev Cx.suite (X : Cx) (ea : Addr) : Cx := { X with A := X.A.mark (some (.ref ea)), calm := false, xe := fun _ _ => False }
end
def XP (X : Cx) (pins : List (Addr × Obj)) (σ : St) (E : XK) (e : Value) (s' : Shared) : Prop := ∃ ea C H s H' B a0, e = .ref ea ∧ Inv X pins σ H s ∧ Flies X.prog X.w X.stack H s ea (.ref C) H' B a0 s' ∧ E (.ref C) none H'
end L2
end
section
set_option autoImplicit false
namespace L2
open PySem PySem.Spec PyProof.Rows
structure RoomS (k : Nat) (A : Around) : Prop where
  dp : A.depth + 3 * k + 5 < recursionLimit
  un : A.units + 16 * k + 200 < cLine
structure FnOkS (P : Program) (w : World) (K : PySem.W.Frag) (mg : Str → Option Value) (base : Heap) (k : Nat) (f : Addr) (fd : FuncData) (ps : List Str) (sp : Sp) : Prop where
  len : ∀ vs H Q E, sp vs H Q E → vs.length = ps.length
  run : ∀ (A : Around) (outer : List Env) (s : Shared) (H : Hp) (args : Args) (us : List Value) (vs : List V) (Q : VK), RoomS k A → Env0 P w K mg base A outer s H → BindsTo s fd args (ps.zip us) → Vals vs us → sp vs H Q E0 →
    codeAny (model P w) A (.call (.ref f) args) (CR CX0 outer P w H s Q E0) s
end L2
end
section
set_option autoImplicit false
namespace L2
open PySem PySem.Spec PyProof.Rows
def CDivL (_ j : Int) : Prop := 0 < j ∧ j < 1606938044258990275541962092341162602522202993782792835301376
theorem op_fdivL {X : Cx} : OpR X (binaryOp .FloorDiv) (rI CDivL fun i j => .int (i / j)) := opI fun i j _ _ _ _ _ hc q => by
  have h1 : (0 : Int) < j := hc.1
  have h2 : j < 1606938044258990275541962092341162602522202993782792835301376 := hc.2
  refine floordiv_int (by omega) (by rw [Int.fdiv_eq_ediv_of_nonneg i (by omega)]; exact q) (.inl (PyProof.noPylong_of_log2 ?_))
  have h3 : j.natAbs ≠ 0 := by omega
  have h4 : j.natAbs < 2 ^ 200 := by
    have e : (2 : Nat) ^ 200 = 1606938044258990275541962092341162602522202993782792835301376 := by decide +kernel
    rw [e]
    omega
  exact Nat.lt_trans ((Nat.log2_lt h3).mpr h4) (by decide)
def rCatT0 : R2 := fun x y H Q => ∃ (a b : Addr) (ys : List V), x = .ref a ∧ y = .ref b ∧ H a = some (.tup []) ∧ H b = some (.tup ys) ∧ Q (.ref b) H
theorem op_catT0 {X : Cx} : OpR X (binaryOp .Add) rCatT0 := by
  intro pins s σ H x y v u Q I rx ry h
  obtain ⟨a, b, ys, rfl, rfl, ha, hb, q⟩ := h
  cases rx
  cases ry
  obtain ⟨its, r, p⟩ := tup_at I ha
  obtain ⟨its2, r2, p2⟩ := tup_at I hb
  have e0 : its = [] := r.nil_iff.mpr rfl
  subst e0
  obtain ⟨⟨cls, dd, data, sl⟩, ho, hc, n, hd⟩ := id p
  obtain ⟨⟨cls2, dd2, data2, sl2⟩, ho2, hc2, n2, hd2⟩ := id p2
  simp only at hc hd hc2 hd2
  subst hc hd hc2 hd2
  exact concat_meets ⟨_, ho, rfl⟩ ⟨_, ho2, rfl⟩ noFill_tuple_add seq_tuple_add PySem.F.slot_tuple_add PySem.F.entry_tuple_add (PySem.F.args_tuple_add_2 _ _) (tuple_addW0 a b [].toArray its2.toArray n n2 dd dd2 sl sl2 rfl) ⟨ho, ho2, ⟨.ref b, H, I, rfl, q⟩⟩
theorem draw_lst {prog : Program} {w : World} {A : Around} {E : Value → Shared → Prop} {it l : Addr} {items : Array Value} (hne : l ≠ it) : ∀ (n i : Nat) (s : Shared) (Q : List Value → Shared → Prop), s.heap.IsListIter it l i → s.heap.IsList l items → i + n ≤ items.size →
    (∀ h', h'.IsListIter it l (i + n) → Heap.SameBut it s.heap h' → Q ((items.toList.drop i).take n) { s with heap := h' }) → wpAny (model prog w) A (draw (.ref it) n) Q E s
  | 0, i, s, Q, hit, _, _, hQ => by
    refine wpAny_pure ?_
    have := hQ s.heap hit (Heap.SameBut.refl ..)
    simpa using this
  | n + 1, i, s, Q, hit, ht, hle, hQ => by
    have hlt : i < items.size := by omega
    have hd : items.toList.drop i = items[i] :: items.toList.drop (i + 1) := by simp [List.drop_eq_getElem_cons, hlt]
    refine wpAny_bind (m := pyNext (.ref it)) (wpAny_pyNext_list_item hit ht (x := items[i]) (by simp [hlt]) fun h1 st1 sb1 => ?_)
    refine wpAny_bind (wpAny_holding (draw_lst hne n (i + 1) _ _ st1 (ht.extBut sb1.extBut hne) (by omega) fun h2 st2 sb2 => wpAny_pure ?_))
    have z := hQ h2 (by rw [show i + (n + 1) = i + 1 + n by omega]; exact st2) (sb1.trans sb2)
    rw [hd, List.take_succ_cons] at z
    exact z
def gLst (K : PySem.W.Frag) (n : Nat) (t : TGs) : TG := fun v σ H Q => ∃ a xs, v = .ref a ∧ SqL K H a xs ∧ xs.length = n ∧ t xs σ H Q
theorem pg_lst {X : Cx} {es : List Expr} {k : Nat} {t : TGs} {n : Nat} {pos : Pos} (hc : X.calm = true) (h : PGs X es t)
    (hn : (assignEach es X.env).length = n := by rfl) (hst : (assignEach es X.env).findIdx? (·.1) = none := by rfl) : PG X (.Tuple es k pos) (gLst X.K n t) := by
  intro pins s σ H v u Q I r hw
  obtain ⟨a, xs, e1, hq, hl, hw⟩ := hw
  subst e1
  cases r
  obtain ⟨its, rv, p, hz⟩ := I.list hq
  have hh := I.ok.hd hc
  have hlt : a ≠ s.heap.objs.size := by
    obtain ⟨o, ho, _⟩ := p.isList
    exact Nat.ne_of_lt (Heap.lt_size ho)
  rw [assign_Tuple]
  refine wpAny_bind (wpAny_standAt ?_)
  unfold unpack
  have hs : (assignEach es X.env).length = its.toArray.size := by simp [hn, ← hl, rv.length]
  rw [hs, hst]
  refine wpAny_bind (wpAny_holding ?_)
  unfold unpackItems notIterableAtAll
  refine wpAny_bind (wpAny_bind (wpAny_specialOf p.isList.typeIs PySem.F.slot_list_iter.lookup ?_))
  refine wpAny_pure ?_
  simp only [Bool.false_eq_true, if_false]
  refine wpAny_bind (wpAny_holding (wpAny_pyIter_list p.isList ?_))
  refine wpAny_bind (wpAny_holding (draw_lst hlt its.toArray.size 0 _ _ ⟨_, Heap.get?_push_size _ rfl, rfl, rfl⟩ (p.isList.push _) (by omega) fun h1 st1 sb1 => ?_))
  have hall : List.take its.toArray.size (List.drop 0 its.toArray.toList) = its.toArray.toList := by
    rw [List.drop_zero]
    exact List.take_of_length_le (by simp)
  rw [hall, if_neg (by simp)]
  have p1 : h1.IsList a its.toArray := (p.isList.push _).extBut sb1.extBut hlt
  refine wpAny_bind (wpAny_holding (wpAny_pyNext_list_end hh st1 p1 (by simp) fun h2 eb2 => ?_))
  simp only [Option.isSome_none, Bool.false_eq_true, if_false]
  refine wpAny_pure ?_
  have I1 : Inv X pins σ H { s with heap := h2 } := I.kept (t' := s.toks) fun b o e => eb2 b o (Nat.ne_of_lt (Heap.lt_size e)) (sb1.extBut b o (Nat.ne_of_lt (Heap.lt_size e)) (Heap.get?_push_of_some _ e))
  exact h pins _ σ H xs _ Q I1 (by simpa using rv) hw
end L2
end
section
set_option autoImplicit false
namespace L2
open PySem PySem.Spec PyProof.Rows
section
variable {X : Cx} {pins : List (Addr × Obj)} {σ : St} {H : Hp} {s : Shared} {d : Addr} {u u' : HO}
end
section
variable {X : Cx}
theorem call_any (hc : X.calm = true) : CallR X (.builtin "any") (fun xs H Q => ∃ (p : Addr) (bs : List Bool), xs = [.ref p] ∧ SqL X.K H p (bs.map V.bl) ∧ Q (.bl (bs.any id)) H) := by
  intro pins s σ H xs us Q I r h
  obtain ⟨p, bs, rfl, hq, q⟩ := h
  obtain ⟨u, rfl, ru⟩ := vals1 r
  cases ru
  obtain ⟨its, rv, pl, hz⟩ := I.list hq
  have hl := rv.length
  rw [List.length_map] at hl
  refine call_any_walk (wpAny_pyIter_list pl.isList ?_)
  have plt : p < s.heap.objs.size := by obtain ⟨o, e, _⟩ := pl.isList; exact Heap.lt_size e
  refine ⟨s.heap.objs.size, _, _, _, _, _, fun i => bs.getD i false, rfl, Walks.list (A := X.A.in1) (I.ok.hd hc) s.heap.objs.size p (Nat.ne_of_lt plt) its.toArray, ⟨⟨_, Heap.get?_push_size _ rfl, rfl, rfl⟩, pl.isList.push _⟩, fun i v s' Q' E' hv hQ => ?_, fun h' tk kk => ?_⟩
  · have hi : i < bs.length := by
      have := (Array.getElem?_eq_some_iff.mp hv).1
      rw [List.size_toArray] at this
      omega
    obtain ⟨u, hu, ru⟩ := rv.get (i := i) (x := V.bl bs[i]) (by simp [hi])
    have hv' : its[i]? = some v := by simpa using hv
    rw [hv'] at hu
    cases hu
    cases ru
    refine wpAny_truthy_bool ?_
    simpa [hi] using hQ
  · have ee : ((List.range its.toArray.size).any fun i => bs.getD i false) = bs.any id := by
      rw [List.size_toArray, ← hl]
      apply Bool.eq_iff_iff.mpr
      rw [List.any_eq_true, List.any_eq_true]
      constructor
      · rintro ⟨i, hi, h⟩
        have hi' := List.mem_range.mp hi
        exact ⟨bs[i], List.getElem_mem hi', by simpa [hi'] using h⟩
      · rintro ⟨b, hb, h⟩
        obtain ⟨i, hi, rfl⟩ := List.getElem_of_mem hb
        exact ⟨i, List.mem_range.mpr hi, by simpa [hi] using h⟩
    rw [ee]
    have I1 : Inv X pins σ H { s with heap := s.heap.push { cls := .type "list_iterator", data := .fields #[.ref p, .int 0 0] } } := I.kept (t' := s.toks) fun b o e => Heap.get?_push_of_some _ e
    refine ⟨.bl _, H, I1.turned (t' := tk) (it := s.heap.objs.size) (fun b o hb e => kk b o (by simpa using hb) e) (I.hok.fresh (Nat.le_refl _)) (Nat.ne_of_gt I.lt) (.inr I.sz) ?_ ?_, rfl, q⟩
    · exact (I.fpOk (Nat.le_refl _) (I.hok.fresh (Nat.le_refl _))).2.2.2.2.1
    · exact (I.fpOk (Nat.le_refl _) (I.hok.fresh (Nat.le_refl _))).2.2.2.2.2
end
end L2
end
section
set_option autoImplicit false
namespace L2
open PySem PySem.Spec PyProof.Rows
section
variable {X : Cx}
end
end L2
end
section
set_option autoImplicit false
namespace L2
open PySem PySem.Spec PyProof.Rows
section
variable {prog : Program} {w : World} {A : Around} {E : Value → Shared → Prop} {s : Shared}
end
end L2
end
section
set_option autoImplicit false
namespace L2
open PySem PySem.Spec PyProof.Rows
section
variable {X : Cx} {pins : List (Addr × Obj)} {σ : St} {A : Around}
end
end L2
end
section
set_option autoImplicit false
namespace L2
open PySem PySem.Spec PyProof.Rows
section
variable {X : Cx}
end
end L2
end
section
set_option autoImplicit false
namespace L2
open PySem PySem.Spec PyProof.Rows
section
variable {X : Cx}
end
end L2
end
section
set_option autoImplicit false
namespace L2
open PySem PySem.Spec PyProof.Rows PySem.W
def KOk {α : Type} (n : Nat) (P : α → Prop) : KasT α → Prop
  | .ret a => P a
  | .ask i j k => i < n ∧ j < n ∧ ∀ b, KOk n P (k b)
def Pm (n : Nat) (p : Array Nat) : Prop := p.Perm (List.range n).toArray
section
variable {n : Nat} (h0 : 0 < n)
include h0
end
section
variable {prog : Program} {w : World} {A : Around} {E : Value → Shared → Prop} {s : Shared}
structure Cmps (prog : Program) (w : World) (A : Around) (κ : SortKind) (vs : List Value) (h : Heap) : Prop where
  kind : ∀ (s' : Shared) (Q : SortKind → Shared → Prop) (E : Value → Shared → Prop), (∀ b o, h.get? b = some o → s'.heap.get? b = some o) → Q κ s' → wpAny (model prog w) A (keyKind' vs.toArray) Q E s'
  lt : ∀ x ∈ vs, ∀ y ∈ vs, ∀ (s' : Shared) (C : Bool → Shared → Prop), (∀ b o, h.get? b = some o → s'.heap.get? b = some o) → (∀ b, C b s') → wpAny (model prog w) A (keyLt' κ x y) C (fun _ _ => False) s'
end
section
variable {X : Cx}
end
end L2
end
section
set_option autoImplicit false
namespace L2
open PySem PySem.Spec PyProof.Rows
section
variable {X : Cx} {K : PySem.W.Frag}
end
end L2
end
section
set_option autoImplicit false
namespace L2
open PySem PyProof.Rows
theorem comp_by {J : It} {n own : Nat} {fr : List Nat} {g : TG} {tc : TT} {te : TE} {σ : St} {Q : VK} {D : Addr} {H0 : Hp} (Pv : Nat → List V → Hp → Prop) (h0 : Pv 0 [] H0) (stop : ∀ ys H, Pv n ys H → J.stop n H ∧ Q (.ref D) H)
    (go : ∀ i ys H, i < n → Pv i ys H → J.go i H ∧ ∀ x H', J.yld i H x H' → ∀ σo : St, σo.length = own → g x (σo ++ frv σ fr) H' fun σ2 H2 => (∃ σo' : St, σo'.length = own ∧ σ2 = σo' ++ frv σ fr) ∧
      tc σ2 H2 fun b H3 => if b = true then te σ2 H3 fun y H4 => ys.length < sizeLine ∧ H4 D = some (.lst ys) ∧ ∃ m', m' < n - i ∧ (m' = n - (i + 1) ∧ i + 1 ≤ n ∧ Pv (i + 1) (ys ++ [y]) (upd H4 D (.lst (ys ++ [y])))) else ∃ m', m' < n - i ∧ (m' = n - (i + 1) ∧ i + 1 ≤ n ∧ Pv (i + 1) ys H3)) :
    CompB own fr g tc te σ Q J D H0 := by
  refine ⟨fun i m ys H => m = n - i ∧ i ≤ n ∧ Pv i ys H, ⟨n, by simp, Nat.zero_le _, h0⟩, ?_⟩
  rintro i m ys H ⟨rfl, hi, p⟩
  by_cases hlt : i < n
  · exact .inr (go i ys H hlt p)
  · have e : i = n := by omega
    subst e
    exact .inl (stop ys H p)
theorem less_by {n i : Nat} (h : i < n) {P : Prop} (p : P) : ∃ m', m' < n - i ∧ (m' = n - (i + 1) ∧ i + 1 ≤ n ∧ P) := ⟨n - (i + 1), by omega, rfl, h, p⟩
theorem own1 {σo : St} (h : σo.length = 1) : ∃ o, σo = [o] := by
  cases σo with
  | nil => cases h
  | cons o r =>
    cases r with
    | nil => exact ⟨o, rfl⟩
    | cons _ _ => cases h
theorem own2 {σo : St} (h : σo.length = 2) : ∃ o o', σo = [o, o'] := by
  cases σo with
  | nil => cases h
  | cons o r =>
    cases r with
    | nil => cases h
    | cons o' r =>
      cases r with
      | nil => exact ⟨o, o', rfl⟩
      | cons _ _ => cases h
theorem nodup_map {α β : Type} {f : α → β} : ∀ {l : List α}, (∀ a ∈ l, ∀ b ∈ l, f a = f b → a = b) → l.Nodup → (l.map f).Nodup
  | [], _, _ => List.nodup_nil
  | a :: r, hi, hn => by
    obtain ⟨h1, h2⟩ := List.nodup_cons.mp hn
    rw [List.map_cons]
    refine List.nodup_cons.mpr ⟨fun m => ?_, nodup_map (fun x hx y hy => hi x (List.mem_cons_of_mem _ hx) y (List.mem_cons_of_mem _ hy)) h2⟩
    obtain ⟨b, hb, e⟩ := List.mem_map.mp m
    exact h1 (hi b (List.mem_cons_of_mem _ hb) a List.mem_cons_self e ▸ hb)
theorem nodup_le {α : Type} [DecidableEq α] : ∀ {l m : List α}, l.Nodup → (∀ x ∈ l, x ∈ m) → l.length ≤ m.length
  | [], _, _, _ => Nat.zero_le _
  | a :: r, m, hn, hs => by
    obtain ⟨h1, h2⟩ := List.nodup_cons.mp hn
    have hm : a ∈ m := hs a List.mem_cons_self
    have := nodup_le (l := r) (m := m.erase a) h2 fun x hx => by
      have ne : x ≠ a := fun e => h1 (e ▸ hx)
      exact (List.mem_erase_of_ne ne).mpr (hs x (List.mem_cons_of_mem _ hx))
    have e := List.length_erase_of_mem hm
    have p : 0 < m.length := List.length_pos_of_mem hm
    rw [List.length_cons]
    omega
theorem hu10 {A : Around} {k : Nat} (hr : Room k A) : A.units + 10 < cLine := by
  have := hr.units
  omega
def Pu (H : Hp) (p : Addr) : Prop := ∃ a b c : Int, H p = some (.lst [.int a, .int b, .int c])
theorem Pu.ne {H : Hp} {p u : Addr} {us : List Str} (h : Pu H p) (g : H u = some (.lst (us.map V.str))) : u ≠ p := by
  obtain ⟨a, b, c, e⟩ := h
  exact (ne_of e g strs_ne).symm
theorem Pu.upd {H : Hp} {p : Addr} {a b c : Int} : Pu (upd H p (.lst [.int a, .int b, .int c])) p := ⟨a, b, c, upd_same⟩
theorem Pu.same {H H' : Hp} {p : Addr} (h : Pu H p) (s : Same H H') : Pu H' p := by
  obtain ⟨a, b, c, e⟩ := h
  exact ⟨a, b, c, s p _ e⟩
theorem Pu.neN {H : Hp} {p q : Addr} (h : Pu H p) (g : H q = none) : p ≠ q := by
  obtain ⟨a, b, c, e⟩ := h
  exact ne_of_none e g
theorem Pu.upd_ne {H : Hp} {p q : Addr} {o : HO} (h : Pu H p) (g : p ≠ q) : Pu (L2.upd H q o) p := by
  obtain ⟨a, b, c, e⟩ := h
  exact ⟨a, b, c, by rw [L2.upd_ne g]; exact e⟩
theorem itePos {c A B : Prop} [Decidable c] (h : c) (a : A) : if c then A else B := by
  rw [if_pos h]
  exact a
theorem iteNeg {c A B : Prop} [Decidable c] (h : ¬ c) (b : B) : if c then A else B := by
  rw [if_neg h]
  exact b
def abc : Str := "abcdefghijklmnopqrstuvwxyz"
def letters : List Str := abc.cps.toList.map fun c => ⟨#[c]⟩
theorem letters_len : letters.length = 26 := by decide +kernel
theorem abc_len : abc.cps.size = 26 := by decide +kernel
theorem letters_one : ∀ x ∈ letters, x.length = 1 := by
  intro x hx
  obtain ⟨c, _, rfl⟩ := List.mem_map.mp hx
  rfl
theorem letters_nodup : letters.Nodup := by decide +kernel
theorem str_app_inj {a b z : Str} (ha : a.length = 1) (hb : b.length = 1) (h : a ++ z = b ++ z) : a = b := by
  obtain ⟨⟨a⟩⟩ := a
  obtain ⟨⟨b⟩⟩ := b
  have h' : (a ++ z.cps.toList) = (b ++ z.cps.toList) := by
    have e : ∀ y : List Nat, ((⟨⟨y⟩⟩ : Str) ++ z).cps.toList = y ++ z.cps.toList := fun y => by
      show ((⟨y⟩ : Array Nat) ++ z.cps).toList = _
      rw [Array.toList_append]
    rw [← e, ← e, h]
  have := List.append_cancel_right h'
  rw [this]
theorem str_len_app (a b : Str) : (a ++ b).length = a.length + b.length := by
  show (a.cps ++ b.cps).size = _
  rw [Array.size_append]
  rfl
theorem some_letter {us : List Str} (h : us.length ≤ 25) (z : Str) : ∃ c ∈ letters, ¬ (c ++ z) ∈ us := by
  apply Classical.byContradiction
  intro hn
  have all : ∀ c ∈ letters, (c ++ z) ∈ us := fun c hc => Classical.byContradiction fun hx => hn ⟨c, hc, hx⟩
  have nd : (letters.map (· ++ z)).Nodup := by
    exact nodup_map (fun a ha b hb e => str_app_inj (letters_one a ha) (letters_one b hb) e) letters_nodup
  have := nodup_le nd fun x hx => by
    obtain ⟨c, hc, rfl⟩ := List.mem_map.mp hx
    exact all c hc
  rw [List.length_map, letters_len] at this
  omega
theorem slice_len (z : Str) (lo hi : Option Int) : (Txt.slice z lo hi).length ≤ z.length := Txt.slice_le z lo hi
end L2
end
section
set_option autoImplicit false
namespace L2
open PySem PySem.Spec PyProof.Rows
section
variable {X : Cx} {K : PySem.W.Frag}
def rEqE (K : PySem.W.Frag) : R2 := fun x y H Q => ∃ (a b : Addr) (xs : List V), x = .ref a ∧ y = .ref b ∧ SqL K H a xs ∧ SqL K H b [] ∧ Q (.bl xs.isEmpty) H
theorem op_eqE (hK : X.K = K) (hu : X.A.units < cLine) : OpR X (compareOp .Eq) (rEqE K) := by
  subst hK
  intro pins s σ H x y v u Q I rx ry h
  obtain ⟨a, b, xs, rfl, rfl, ha, hb, q⟩ := h
  cases rx
  cases ry
  obtain ⟨its, r, p, _⟩ := I.list ha
  obtain ⟨its2, r2, p2, _⟩ := I.list hb
  have e2 : its2 = [] := r2.nil_iff.mpr rfl
  subst e2
  cases xs with
  | nil =>
    have e1 : its = [] := r.nil_iff.mpr rfl
    subst e1
    exact SeqAt.RcAt.lists (A := X.A) (s := s) (e := fun _ => true) p.isList p2.isList rfl hu (fun j h1 _ => by simp at h1) X.prog X.w X.xe _ ⟨.bl true, H, I, rfl, q⟩
  | cons x0 xr =>
    have hl := r.length
    refine SeqAt.RcAt.lists_lengths (A := X.A) (s := s) p.isList p2.isList ?_ hu X.prog X.w X.xe _ ⟨.bl false, H, I, rfl, q⟩
    rw [List.length_cons] at hl
    have : its.length ≠ 0 := by omega
    simpa using this
end
end L2
end
section
set_option autoImplicit false
namespace K47
open PySem L2
def top (i : Nat) : Stmt := PySem.Challenge.pw_warmrows_k47_whole_rows_of_asks.main.body.getD i (.Pass ⟨0, 0, 0, 0⟩)
structure Adr where
  is_whole : Addr × FuncData
  is_tuple_of : Addr × FuncData
  check_warming : Addr × FuncData
  record_for : Addr × FuncData
  asked : Addr × FuncData
  tally_with : Addr × FuncData
  cold_behind : Addr × FuncData
  wild_behind : Addr × FuncData
  warm_behind : Addr × FuncData
  _law_cell : Addr × FuncData
  _law_purse : Addr × FuncData
  _law_take : Addr × FuncData
  _law_word : Addr × FuncData
  _law_words : Addr × FuncData
  _law_is_whole : Addr × FuncData
  _law_same : Addr × FuncData
  _law_whos : Addr × FuncData
  _law_answer : Addr × FuncData
  _law_asks : Addr × FuncData
  _law_is_place : Addr × FuncData
  _law_kept : Addr × FuncData
  _law_word_due : Addr × FuncData
  _law_counted : Addr × FuncData
  _law_step : Addr × FuncData
  law : Addr × FuncData
  cWORDS : Addr
  cLEASTS : Addr
structure Defs (K : PySem.W.Frag) (mg : Str → Option Value) (t : Adr) : Prop where
  is_whole : Fnd K mg "is_whole" (top 4) ["thing"] t.is_whole.1 t.is_whole.2
  is_tuple_of : Fnd K mg "is_tuple_of" (top 5) ["thing", "many"] t.is_tuple_of.1 t.is_tuple_of.2
  check_warming : Fnd K mg "check_warming" (top 10) ["thing"] t.check_warming.1 t.check_warming.2
  record_for : Fnd K mg "record_for" (top 11) ["place", "who", "number"] t.record_for.1 t.record_for.2
  asked : Fnd K mg "asked" (top 12) ["warming", "place", "who", "number", "answer"] t.asked.1 t.asked.2
  tally_with : Fnd K mg "tally_with" (top 13) ["place", "word"] t.tally_with.1 t.tally_with.2
  cold_behind : Fnd K mg "cold_behind" (top 14) ["warming", "place", "record"] t.cold_behind.1 t.cold_behind.2
  wild_behind : Fnd K mg "wild_behind" (top 15) ["warming", "place"] t.wild_behind.1 t.wild_behind.2
  warm_behind : Fnd K mg "warm_behind" (top 16) ["warming", "place", "record"] t.warm_behind.1 t.warm_behind.2
  _law_cell : Fnd K mg "_law_cell" (top 18) ["_law_script", "_law_k"] t._law_cell.1 t._law_cell.2
  _law_purse : Fnd K mg "_law_purse" (top 19) ["_law_cell_here"] t._law_purse.1 t._law_purse.2
  _law_take : Fnd K mg "_law_take" (top 20) ["_law_purse_here", "_law_many"] t._law_take.1 t._law_take.2
  _law_word : Fnd K mg "_law_word" (top 21) ["_law_purse_here", "_law_used"] t._law_word.1 t._law_word.2
  _law_words : Fnd K mg "_law_words" (top 22) ["_law_purse_here", "_law_many", "_law_used"] t._law_words.1 t._law_words.2
  _law_is_whole : Fnd K mg "_law_is_whole" (top 23) ["_law_thing"] t._law_is_whole.1 t._law_is_whole.2
  _law_same : Fnd K mg "_law_same" (top 24) ["_law_one", "_law_other"] t._law_same.1 t._law_same.2
  _law_whos : Fnd K mg "_law_whos" (top 25) ["_law_purse_here", "_law_sort"] t._law_whos.1 t._law_whos.2
  _law_answer : Fnd K mg "_law_answer" (top 26) ["_law_purse_here", "_law_sort", "_law_whos_here"] t._law_answer.1 t._law_answer.2
  _law_asks : Fnd K mg "_law_asks" (top 27) ["_law_script", "_law_many", "_law_head", "_law_sort"] t._law_asks.1 t._law_asks.2
  _law_is_place : Fnd K mg "_law_is_place" (top 28) ["_law_place", "_law_few"] t._law_is_place.1 t._law_is_place.2
  _law_kept : Fnd K mg "_law_kept" (top 29) ["_law_records", "_law_query"] t._law_kept.1 t._law_kept.2
  _law_word_due : Fnd K mg "_law_word_due" (top 30) ["_law_place", "_law_records", "_law_query"] t._law_word_due.1 t._law_word_due.2
  _law_counted : Fnd K mg "_law_counted" (top 31) ["_law_place", "_law_told", "_law_word_here"] t._law_counted.1 t._law_counted.2
  _law_step : Fnd K mg "_law_step" (top 32) ["_law_warming", "_law_place", "_law_records", "_law_query", "_law_spell", "_law_steady"] t._law_step.1 t._law_step.2
  law : Fnd K mg "law" (top 33) ["_law_script"] t.law.1 t.law.2
  b_abs : mg "abs" = none
  b_all : mg "all" = none
  b_any : mg "any" = none
  b_bool : mg "bool" = none
  b_int : mg "int" = none
  b_isinstance : mg "isinstance" = none
  b_len : mg "len" = none
  b_max : mg "max" = none
  b_range : mg "range" = none
  b_sum : mg "sum" = none
  b_tuple : mg "tuple" = none
  b_zip : mg "zip" = none
structure Glb (K : PySem.W.Frag) (mg : Str → Option Value) (t : Adr) : Prop where
  g_WORDS : mg "WORDS" = some (.ref t.cWORDS)
  s_WORDS : ∀ H : Hp, SqT K H t.cWORDS [.str "cold", .str "hit", .str "miss", .str "wild"]
  g_LEASTS : mg "LEASTS" = some (.ref t.cLEASTS)
  s_LEASTS : ∀ H : Hp, SqT K H t.cLEASTS [.int 0, .int 1, .int 1, .int 0]
  g_MOST : ∃ tk, mg "MOST" = some (.int 9 tk)
theorem sc_is_whole : FnScope ["thing"] ["thing"] (defScope (top 4)) := ⟨rfl, rfl, rfl, by decide +kernel, rfl, by decide +kernel, by decide +kernel⟩
theorem sc_is_tuple_of : FnScope ["thing", "many"] ["thing", "many"] (defScope (top 5)) := ⟨rfl, rfl, rfl, by decide +kernel, rfl, by decide +kernel, by decide +kernel⟩
theorem sc_check_warming : FnScope ["thing"] ["thing"] (defScope (top 10)) := ⟨rfl, rfl, rfl, by decide +kernel, rfl, by decide +kernel, by decide +kernel⟩
theorem sc_record_for : FnScope ["place", "who", "number", "record"] ["place", "who", "number"] (defScope (top 11)) := ⟨rfl, rfl, rfl, by decide +kernel, rfl, by decide +kernel, by decide +kernel⟩
theorem sc_asked : FnScope ["warming", "place", "who", "number", "answer", "record"] ["warming", "place", "who", "number", "answer"] (defScope (top 12)) := ⟨rfl, rfl, rfl, by decide +kernel, rfl, by decide +kernel, by decide +kernel⟩
theorem sc_tally_with : FnScope ["place", "word"] ["place", "word"] (defScope (top 13)) := ⟨rfl, rfl, rfl, by decide +kernel, rfl, by decide +kernel, by decide +kernel⟩
theorem sc_cold_behind : FnScope ["warming", "place", "record", "count", "tally"] ["warming", "place", "record"] (defScope (top 14)) := ⟨rfl, rfl, rfl, by decide +kernel, rfl, by decide +kernel, by decide +kernel⟩
theorem sc_wild_behind : FnScope ["warming", "place", "count", "tally"] ["warming", "place"] (defScope (top 15)) := ⟨rfl, rfl, rfl, by decide +kernel, rfl, by decide +kernel, by decide +kernel⟩
theorem sc_warm_behind : FnScope ["warming", "place", "record", "tally", "records"] ["warming", "place", "record"] (defScope (top 16)) := ⟨rfl, rfl, rfl, by decide +kernel, rfl, by decide +kernel, by decide +kernel⟩
theorem sc__law_cell : FnScope ["_law_script", "_law_k", "_law_state", "_law_cell_here"] ["_law_script", "_law_k"] (defScope (top 18)) := ⟨rfl, rfl, rfl, by decide +kernel, rfl, by decide +kernel, by decide +kernel⟩
theorem sc__law_purse : FnScope ["_law_cell_here", "_law_digits"] ["_law_cell_here"] (defScope (top 19)) := ⟨rfl, rfl, rfl, by decide +kernel, rfl, by decide +kernel, by decide +kernel⟩
theorem sc__law_take : FnScope ["_law_purse_here", "_law_many", "_law_state", "_law_taken"] ["_law_purse_here", "_law_many"] (defScope (top 20)) := ⟨rfl, rfl, rfl, by decide +kernel, rfl, by decide +kernel, by decide +kernel⟩
theorem sc__law_word : FnScope ["_law_purse_here", "_law_used", "_law_menu", "_law_word_here", "_law_k", "_law_first"] ["_law_purse_here", "_law_used"] (defScope (top 21)) := ⟨rfl, rfl, rfl, by decide +kernel, rfl, by decide +kernel, by decide +kernel⟩
theorem sc__law_words : FnScope ["_law_purse_here", "_law_many", "_law_used", "_law_words_here", "_law_k"] ["_law_purse_here", "_law_many", "_law_used"] (defScope (top 22)) := ⟨rfl, rfl, rfl, by decide +kernel, rfl, by decide +kernel, by decide +kernel⟩
theorem sc__law_is_whole : FnScope ["_law_thing"] ["_law_thing"] (defScope (top 23)) := ⟨rfl, rfl, rfl, by decide +kernel, rfl, by decide +kernel, by decide +kernel⟩
theorem sc__law_same : FnScope ["_law_one", "_law_other"] ["_law_one", "_law_other"] (defScope (top 24)) := ⟨rfl, rfl, rfl, by decide +kernel, rfl, by decide +kernel, by decide +kernel⟩
theorem sc__law_whos : FnScope ["_law_purse_here", "_law_sort", "_law_words_here", "_law_homes", "_law_whos_here", "_law_k", "_law_who"] ["_law_purse_here", "_law_sort"] (defScope (top 25)) := ⟨rfl, rfl, rfl, by decide +kernel, rfl, by decide +kernel, by decide +kernel⟩
theorem sc__law_answer : FnScope ["_law_purse_here", "_law_sort", "_law_whos_here", "_law_home"] ["_law_purse_here", "_law_sort", "_law_whos_here"] (defScope (top 26)) := ⟨rfl, rfl, rfl, by decide +kernel, rfl, by decide +kernel, by decide +kernel⟩
theorem sc__law_asks : FnScope ["_law_script", "_law_many", "_law_head", "_law_sort", "_law_whos_here", "_law_steady", "_law_numbers", "_law_known", "_law_asks_here", "_law_k", "_law_purse_here", "_law_who", "_law_key"] ["_law_script", "_law_many", "_law_head", "_law_sort"] (defScope (top 27)) := ⟨rfl, rfl, rfl, by decide +kernel, rfl, by decide +kernel, by decide +kernel⟩
theorem sc__law_is_place : FnScope ["_law_place", "_law_few"] ["_law_place", "_law_few"] (defScope (top 28)) := ⟨rfl, rfl, rfl, by decide +kernel, rfl, by decide +kernel, by decide +kernel⟩
theorem sc__law_kept : FnScope ["_law_records", "_law_query", "_law_spots"] ["_law_records", "_law_query"] (defScope (top 29)) := ⟨rfl, rfl, rfl, by decide +kernel, rfl, by decide +kernel, by decide +kernel⟩
theorem sc__law_word_due : FnScope ["_law_place", "_law_records", "_law_query"] ["_law_place", "_law_records", "_law_query"] (defScope (top 30)) := ⟨rfl, rfl, rfl, by decide +kernel, rfl, by decide +kernel, by decide +kernel⟩
theorem sc__law_counted : FnScope ["_law_place", "_law_told", "_law_word_here", "_law_at", "_law_k"] ["_law_place", "_law_told", "_law_word_here"] (defScope (top 31)) := ⟨rfl, rfl, rfl, by decide +kernel, rfl, by decide +kernel, by decide +kernel⟩
theorem sc__law_step : FnScope ["_law_warming", "_law_place", "_law_records", "_law_query", "_law_spell", "_law_steady", "_law_answer_here", "_law_word_here", "_law_told", "_law_due", "_law_full"] ["_law_warming", "_law_place", "_law_records", "_law_query", "_law_spell", "_law_steady"] (defScope (top 32)) := ⟨rfl, rfl, rfl, by decide +kernel, rfl, by decide +kernel, by decide +kernel⟩
theorem sc_law : FnScope ["_law_script", "_law_head", "_law_sort", "_law_warming", "_law_many", "_law_start", "_law_steady", "_law_asks_here", "_law_place", "_law_records", "_law_spell", "_law_middle", "_law_k", "_law_step_here", "_law_told"] ["_law_script"] (defScope (top 33)) := ⟨rfl, rfl, rfl, by decide +kernel, rfl, by decide +kernel, by decide +kernel⟩
end K47
end
section
set_option autoImplicit false
namespace L2
open PySem PyProof.Rows
def heldIn (rows : List (List Str)) (x : Str) : Bool := rows.any fun o => decide (x ∈ o.drop 1)
def freeOf (rows : List (List Str)) : List Str → List Str
  | [] => []
  | x :: _ => if heldIn rows x = true then [] else [x]
def frees (rows : List (List Str)) : List Str := rows.flatMap (freeOf rows)
def outOf (x : Str) (r : List Str) : List Str := r.filter fun y => decide (y ≠ x)
def full (rows : List (List Str)) : List (List Str) := rows.filter fun r => !r.isEmpty
inductive Mg : List (List Str) → Option (List Str) → Prop where
  | nil : Mg [] (some [])
  | stuck {rows : List (List Str)} : rows ≠ [] → frees rows = [] → Mg rows none
  | step {rows : List (List Str)} {x : Str} {more : List Str} {r : Option (List Str)} : frees rows = x :: more → Mg (full (rows.map (outOf x))) r → Mg rows (r.map (x :: ·))
def RowsT (H : Hp) (vs : List V) (rows : List (List Str)) : Prop := Paired (fun (v : V) (r : List Str) => ∃ a, v = .ref a ∧ H a = some (.tup (r.map V.str))) vs rows
def RowsL (H : Hp) (vs : List V) (rows : List (List Str)) : Prop := Paired (fun (v : V) (r : List Str) => ∃ a, v = .ref a ∧ H a = some (.lst (r.map V.str))) vs rows
def RowsX (H : Hp) (D : Addr) (vs : List V) (rows : List (List Str)) : Prop := Paired (fun (v : V) (r : List Str) => ∃ a, v = .ref a ∧ a ≠ D ∧ H a = some (.lst (r.map V.str))) vs rows
def RowsY (H : Hp) (D E : Addr) (vs : List V) (rows : List (List Str)) : Prop := Paired (fun (v : V) (r : List Str) => ∃ a, v = .ref a ∧ a ≠ D ∧ a ≠ E ∧ H a = some (.lst (r.map V.str))) vs rows
theorem take_snoc {α : Type} {l : List α} {i : Nat} (h : i < l.length) : l.take (i + 1) = l.take i ++ [l[i]] := by
  rw [List.take_succ, List.getElem?_eq_getElem h]
  rfl
theorem yes_by {σ : L2.St} {H : Hp} {A B : Hp → Prop} (h : A H) : tYes σ H (fun b H3 => if b = true then A H3 else B H3) := by
  show (if true = true then A H else B H)
  rw [if_pos rfl]
  exact h
end L2
end
section
set_option autoImplicit false
namespace K47
open PySem PyProof.Rows L2
section
variable {P : Program} {w : World} {K : PySem.W.Frag} {mg : Str → Option Value} {base : Heap} {t : Adr}
def spTake : Sp := fun vs H Q _ => ∃ (p : Addr) (n : Int), vs = [.ref p, .int n] ∧ Pu H p ∧ 0 < n ∧ n < 1606938044258990275541962092341162602522202993782792835301376 ∧ ∀ (r a b c : Int), 0 ≤ r → r < n → Q (.int r) (upd H p (.lst [.int a, .int b, .int c]))
theorem ok_take (D : Defs K mg t) : FnOk P w K mg base CX0 1 t._law_take.1 t._law_take.2 ["_law_purse_here", "_law_many"] spTake := by
  refine D._law_take.fn.ok sc__law_take (fun vs H Q E h => ?_) (fun cdv A outer s H vs Q E hr h => ?_)
  · obtain ⟨p, n, rfl, _⟩ := h
    rfl
  · obtain ⟨p, n, rfl, ⟨a, b, c, hp⟩, h0, h1, k⟩ := h
    refine ⟨_, (pss_cons (ps_asg (pe_op op_add (pe_ix ix_list (pv 0) pe_int (fun _ _ => rfl)) pe_int) (pg_sub (pv 0) pe_int set_list))
      (pss_cons (ps_set (i := 2) sc__law_take.nd rfl (Or.inl rfl) (pe_ix ix_list (pv 0) pe_int (fun _ _ => rfl)))
      (pss_cons (ps_asg (pe_op op_mod (pe_op op_add (pe_op op_mul (pv 2) (pe_op op_add (pe_op op_mod (pv 2) pe_int) pe_int)) (pe_op op_mul pe_int (pe_ix ix_list (pv 0) pe_int (fun _ _ => rfl)))) pe_int) (pg_sub (pv 0) pe_int set_list))
      (pss_cons (ps_if (pt_cmpR op_gt (pe_ix ix_list (pv 0) pe_int (fun _ _ => rfl)) pe_int (nomark _))
      (pss_cons (ps_set (i := 3) sc__law_take.nd rfl (Or.inl rfl) (pe_op op_mod (pe_ix ix_list (pv 0) pe_int (fun _ _ => rfl)) (pv 1)))
      (pss_cons (ps_asg (pe_op op_fdivL (pe_ix ix_list (pv 0) pe_int (fun _ _ => rfl)) (pv 1)) (pg_sub (pv 0) pe_int set_list))
      (pss_one (ps_ret (pv 3)))))
      pss_nil)
      (pss_one (ps_ret (pe_op op_mod (pe_op op_fdiv (pe_ix ix_list (pv 0) pe_int (fun _ _ => rfl)) pe_int) (pv 1)))))))), ?_⟩
    refine ⟨_, rfl, p, _, _, _, rfl, rfl, SqL.of hp, rfl, _, _, rfl, rfl, _, rfl, p, _, _, 2, rfl, rfl, hp, rfl, ?_⟩
    refine ⟨_, rfl, p, _, _, _, rfl, rfl, SqL.of upd_same, rfl, ?_⟩
    refine ⟨_, rfl, _, rfl, _, _, rfl, rfl, (by show (0 : Int) < 46337; decide), _, _, rfl, rfl, _, _, rfl, rfl, .inr ⟨?_, ?_⟩, _, rfl, p, _, _, _, rfl, rfl, SqL.of upd_same, rfl, _, _, rfl, rfl, .inl ⟨by decide, by decide⟩, _, _, rfl, rfl, _, _, rfl, rfl,
      (by show (0 : Int) < 2147483587; decide), _, rfl, p, _, _, 0, rfl, rfl, upd_same, rfl, ?_⟩
    · have := Int.emod_nonneg a (show (46337 : Int) ≠ 0 by decide)
      omega
    · have := Int.emod_lt_of_pos a (show (0 : Int) < 46337 by decide)
      omega
    rw [upd_upd]
    refine ⟨_, rfl, p, _, _, _, rfl, rfl, SqL.of upd_same, rfl, _, _, rfl, rfl, _, rfl, ite2 (fun hb => ?_) (fun hb => ?_)⟩
    · refine ⟨_, rfl, p, _, _, _, rfl, rfl, SqL.of upd_same, rfl, _, rfl, _, _, rfl, rfl, h0, _, rfl, p, _, _, _, rfl, rfl, SqL.of upd_same, rfl, _, rfl, _, _, rfl, rfl, ⟨h0, h1⟩, _, rfl, p, _, _, 1, rfl, rfl, upd_same, rfl, _, rfl, ?_⟩
      rw [upd_upd]
      exact k _ _ _ _ (Int.emod_nonneg _ (by omega)) (Int.emod_lt_of_pos _ h0)
    · refine ⟨_, rfl, p, _, _, _, rfl, rfl, SqL.of upd_same, rfl, _, _, rfl, rfl, ⟨by decide, by decide⟩, _, rfl, _, _, rfl, rfl, h0, ?_⟩
      exact k _ _ _ _ (Int.emod_nonneg _ (by omega)) (Int.emod_lt_of_pos _ h0)
def spPurse : Sp := fun vs H Q _ => ∃ (n : Int), vs = [.int n] ∧ ∀ (p : Addr) (a b c : Int), H p = none → Q (.ref p) (upd H p (.lst [.int a, .int b, .int c]))
theorem ok_purse (D : Defs K mg t) : FnOk P w K mg base CX0 1 t._law_purse.1 t._law_purse.2 ["_law_cell_here"] spPurse := by
  refine D._law_purse.fn.ok sc__law_purse (fun vs H Q E h => ?_) (fun cdv A outer s H vs Q E hr h => ?_)
  · obtain ⟨n, rfl, _⟩ := h
    rfl
  · obtain ⟨n, rfl, k⟩ := h
    refine ⟨_, (pss_cons (ps_set (i := 1) sc__law_purse.nd rfl (Or.inl rfl) pe_int)
      (pss_join (ps_if (PW.pt (pw_or (pt_cmpR op_lt (pv 0) pe_int (nomark _)) (pw_or1 (pt_cmpR op_ge (pv 0) (pe_op op_pow pe_int pe_int) (nomark _)))))
      (pss_one (ps_set (i := 1) sc__law_purse.nd rfl (Or.inl rfl) (pe_callB call_abs (by rfl) D.b_abs bt_abs (pa_cons (pv 0) pa_nil))))
      pss_nil)
      (pss_one (ps_ret (pe_lst (pa_cons (pe_op op_mod (pv 0) pe_int) (pa_cons (pv 1) (pa_cons pe_int pa_nil)))))))), ?_⟩
    refine ⟨fun σ' H' => ∃ d : Int, σ' = [some (.int n), some (.int d)] ∧ H' = H, ?_, ?_⟩
    · refine ⟨_, rfl, _, _, rfl, rfl, _, rfl, ite2 (fun hb => ?_) (fun hb => ?_)⟩
      · exact iteT ⟨_, rfl, _, rfl, _, rfl, rfl⟩
      · refine ⟨_, rfl, _, _, rfl, rfl, ⟨by decide, by decide, by decide⟩, _, _, rfl, rfl, _, rfl, ite2 (fun hc => ?_) (fun hc => ?_)⟩
        · exact ⟨_, rfl, _, rfl, _, rfl, rfl⟩
        · exact ⟨_, rfl, rfl⟩
    · rintro σ' H' ⟨d, rfl, rfl⟩
      exact ⟨_, rfl, _, _, rfl, rfl, (by show (0 : Int) < 2147483587; decide), _, rfl, (by show 3 ≤ sizeLine; decide), fun p hp => k p _ _ _ hp⟩
def spCell (K : PySem.W.Frag) : Sp := fun vs H Q _ => ∃ (a : Addr) (ns : List Int) (k : Int), vs = [.ref a, .int k] ∧ SqL K H a (ns.map V.int) ∧ ns.length ≤ 63 ∧ 0 ≤ k ∧ k ≤ 1000 ∧ ∀ (n : Int) H', Same H H' → Q (.int n) H'
theorem ok_cell (D : Defs K mg t) : FnOk P w K mg base CX0 1 t._law_cell.1 t._law_cell.2 ["_law_script", "_law_k"] (spCell K) := by
  refine D._law_cell.fn.ok sc__law_cell (fun vs H Q E h => ?_) (fun cdv A outer s H vs Q E hr h => ?_)
  · obtain ⟨a, ns, k, rfl, _⟩ := h
    rfl
  · obtain ⟨a, ns, k, rfl, hS, hl, h0, h1, q⟩ := h
    refine ⟨_, (pss_cons (ps_if (pt_cmpR op_lt (pv 1) (pe_callB call_len_seq (by rfl) D.b_len bt_len (pa_cons (pv 0) pa_nil)) (nomark _))
      (pss_one (ps_ret (pe_ix ix_list (pv 0) (pv 1) (fun _ _ => rfl))))
      pss_nil)
      (pss_cons (ps_set (i := 2) sc__law_cell.nd rfl (Or.inl rfl) (pe_op op_mul (pe_op op_mul pe_int (pe_op op_add (pv 1) pe_int)) (pe_op op_add (pv 1) pe_int)))
      (pss_cons (ps_for PassesOwn.never rfl (pi_list (pe_slice sl_list (pv 0) po_none (po_some pe_int))) (pg_name (i := 3) sc__law_cell.nd rfl (Or.inl rfl))
      (pss_one (ps_set (i := 2) sc__law_cell.nd rfl (Or.inl rfl) (pe_op op_mod (pe_op op_add (pe_op op_mul (pv 2) pe_int) (pv 3)) pe_int))))
      (pss_one (ps_ret (pv 2)))))), ?_⟩
    refine ⟨_, rfl, _, rfl, a, _, rfl, .inl hS, _, _, rfl, rfl, _, rfl, ite2 (fun hb => ?_) (fun hb => ?_)⟩
    · have hk : k < (ns.map V.int).length := of_decide_eq_true hb
      obtain ⟨v, e, m, _⟩ := atI_in h0 hk
      obtain ⟨z, _, rfl⟩ := List.mem_map.mp m
      exact ⟨_, rfl, _, rfl, a, _, _, _, rfl, rfl, hS, e, q z H (Same.refl H)⟩
    · refine ⟨_, rfl, _, _, rfl, rfl, _, _, rfl, rfl, .inl ⟨by decide, by decide⟩, _, rfl, _, _, rfl, rfl, _, _, rfl, rfl, .inr ⟨by omega, by omega⟩, ?_⟩
      refine ⟨_, rfl, _, rfl, a, _, rfl, hS, fun p hp => ⟨p, rfl, ⟨_, SqL.of upd_same⟩, for_list (K := K) (a := p) (xs := cutV (ns.map V.int) none (some 4)) (fun i σ H2 => ∃ (st : Int) (v : Option V), σ = [some (.ref a), some (.int k), some (.int st), v] ∧ H2 = upd H p (.lst (cutV (ns.map V.int) none (some 4))))
        ⟨_, _, rfl, rfl⟩ (fun i σ H2 _ ⟨_, _, _, e⟩ => by rw [e]; exact SqL.of upd_same) ?_ ?_⟩⟩
      · rintro i x σ H2 hi ⟨st, v, rfl, rfl⟩
        have m : x ∈ ns.map V.int := List.mem_of_mem_drop (List.mem_of_mem_take (List.mem_of_getElem? hi))
        obtain ⟨z, _, rfl⟩ := List.mem_map.mp m
        exact ⟨_, rfl, _, _, rfl, rfl, .inr ⟨by decide, by decide⟩, _, rfl, _, _, rfl, rfl, _, _, rfl, rfl, (by show (0 : Int) < 2147483587; decide), _, _, rfl, rfl⟩
      · rintro σ H2 ⟨st, v, rfl, rfl⟩
        exact ⟨_, rfl, q st _ (Same.new hp)⟩
end
end K47
end
section
set_option autoImplicit false
namespace K47
open PySem PyProof.Rows L2
section
variable {P : Program} {w : World} {K : PySem.W.Frag} {mg : Str → Option Value} {base : Heap} {t : Adr}
def spWord : Sp := fun vs H Q _ => ∃ (p u : Addr) (us : List Str), vs = [.ref p, .ref u] ∧ Pu H p ∧ H u = some (.lst (us.map V.str)) ∧ us.length ≤ 25 ∧ ∀ (x : Str) H', x.length ≤ 100 → ¬ x ∈ us → Off p H H' → Pu H' p → Q (.str x) H'
def menu : List Str := ["mark", "go", "keep", "tell", "round", "put", "drop", "none", "me", "ask", "thing", "end"]
theorem menu_len : ∀ x ∈ menu, x.length ≤ 6 := by decide +kernel
theorem ok_word (D : Defs K mg t) : FnOk P w K mg base CX0 2 t._law_word.1 t._law_word.2 ["_law_purse_here", "_law_used"] spWord := by
  have G__law_take : FnOk P w K mg base CX0 1 t._law_take.1 t._law_take.2 _ spTake := ok_take D
  have hz : sizeLine = 16777216 := sizeLine_eq
  refine D._law_word.fn.ok sc__law_word (fun vs H Q E h => ?_) (fun cdv A outer s H vs Q E hr h => ?_)
  · obtain ⟨p, u, us, rfl, _⟩ := h
    rfl
  · obtain ⟨p, u, us, rfl, hp, hu, hl, k⟩ := h
    have up : u ≠ p := hp.ne hu
    refine ⟨_, (@pss_cons _ _ _ _ _ (@ps_set _ _ 2 _ _ _ _ sc__law_word.nd rfl (Or.inl rfl) (@pe_lst _ _ _ _ (@pa_strs _ _ ["mark", "go", "keep", "tell", "round", "put", "drop", "none", "me", "ask", "thing", "end"] (by rfl))) (by rfl) (by first | exact .inl rfl | exact .inr rfl))
      (pss_cons (ps_set (i := 3) sc__law_word.nd rfl (Or.inr rfl) (pe_ix ix_list (pv 2) (pe_callF D._law_take G__law_take (hr.mono (by omega)) (by rfl) (pa_cons (pv 0) (pa_cons pe_int pa_nil))) (fun _ _ => rfl)))
      (pss_join (ps_if (pt_cmpR op_gt (pe_callF D._law_take G__law_take (hr.mono (by omega)) (by rfl) (pa_cons (pv 0) (pa_cons pe_int pa_nil))) pe_int (nomark _))
      (pss_cons (ps_set (i := 3) sc__law_word.nd rfl (Or.inr rfl) pe_str)
      (pss_one (ps_for PassesOwn.never rfl (pi_range1 rfl D.b_range (pa_cons (pe_op op_add pe_int (pe_callF D._law_take G__law_take (hr.mono (by omega)) (by rfl) (pa_cons (pv 0) (pa_cons pe_int pa_nil)))) pa_nil)) (pg_name (i := 4) sc__law_word.nd rfl (Or.inl rfl))
      (pss_one (ps_set (i := 3) sc__law_word.nd rfl (Or.inr rfl) (pe_op op_add_str (pv 3) (pe_ix ix_str pe_str (pe_callF D._law_take G__law_take (hr.mono (by omega)) (by rfl) (pa_cons (pv 0) (pa_cons pe_int pa_nil))) (fun _ _ => rfl))))))))
      pss_nil)
      (pss_cons (ps_if (pt_cmpR op_notIn_seq (pv 3) (pv 1) (by with_unfolding_all rfl))
      (pss_one (ps_ret (pv 3)))
      pss_nil)
      (pss_cons (ps_setc (i := 5) rfl sc__law_word.nd rfl (Or.inl rfl) (CompScope.of ["_law_a"] [1, 3] ["_law_a", "_law_used", "_law_word_here"] (defScope (top 21)) ["_law_purse_here", "_law_used", "_law_menu", "_law_word_here", "_law_k", "_law_first"] rfl rfl (by decide +kernel)) ⟨fun _ _ _ _ _ => (pg_name (i := 0) (show List.Nodup [("_law_a" : Str), ("_law_used" : Str), ("_law_word_here" : Str)] by decide +kernel) rfl (Or.inl (lookup_relabel_local rfl)) (.inr (lookup_relabel_local rfl))), fun _ _ _ _ _ => (pts_one (pt_cmpR (op_notIn_K (K := K) rfl) (pe_op op_add_str (pv 0) (pe_slice sl_str (pv 2) po_none (po_some pe_int))) (pv 1) (by with_unfolding_all rfl))), fun _ _ _ _ _ => (pv 0)⟩ (pi_str pe_str))
      (pss_one (ps_ret (pe_op op_add_str (pe_ix ix_list (pv 5) pe_int (fun _ _ => rfl)) (pe_slice sl_str (pv 3) po_none (po_some pe_int)))))))))), ?_⟩
    refine ⟨by show 12 ≤ sizeLine; decide, fun q hq => ?_⟩
    have pq : p ≠ q := by
      obtain ⟨a, b, c, e⟩ := hp
      exact ne_of_none e hq
    have o1 : Off p H (upd H q (.lst (menu.map V.str))) := Off.new hq
    have hp1 : Pu (upd H q (.lst (menu.map V.str))) p := by
      obtain ⟨a, b, c, e⟩ := hp
      exact ⟨a, b, c, by rw [upd_ne pq]; exact e⟩
    refine ⟨_, rfl, _, rfl, p, 12, rfl, hp1, by decide, by decide, fun r a b c h0 h1 => ?_⟩
    obtain ⟨x0, e0, m0, _⟩ := atI_strs (ns := menu) h0 h1
    refine ⟨q, menu.map V.str, _, _, rfl, rfl, SqL.of (by rw [upd_ne pq.symm, upd_same]; rfl), e0, ?_⟩
    refine ⟨fun σ' H' => ∃ (x : Str) (v : Option V), σ' = [some (.ref p), some (.ref u), some (.ref q), some (.str x), v, none] ∧ x.length ≤ 6 ∧ Off p H H' ∧ Pu H' p, ?_, ?_⟩
    · refine ⟨_, rfl, p, 5, rfl, Pu.upd, by decide, by decide, fun r a b c h0 h1 => ⟨_, _, rfl, rfl, _, rfl, ite2 (fun hb => ?_) (fun hb => ?_)⟩⟩
      · refine ⟨_, rfl, p, 6, rfl, Pu.upd, by decide, by decide, fun r2 a2 b2 c2 g0 g1 => ⟨_, _, rfl, rfl, _, rfl, by omega, by omega, ?_⟩⟩
        refine for_range (lo := 0) (n := (1 + r2).toNat) (fun i σ H2 => ∃ (x : Str) (v : Option V), σ = [some (.ref p), some (.ref u), some (.ref q), some (.str x), v, none] ∧ x.length ≤ i ∧ Off p H H2 ∧ Pu H2 p)
          ⟨_, _, rfl, by decide, ((o1.trans Off.upd).trans Off.upd).trans Off.upd, Pu.upd⟩ ?_ ?_
        · rintro i σ H2 hi ⟨x, v, rfl, hx, o2, p2⟩
          refine ⟨_, rfl, _, rfl, p, 26, rfl, p2, by decide, by decide, fun r3 a3 b3 c3 f0 f1 => ?_⟩
          obtain ⟨cc, ec, _, _⟩ := atI_in (xs := abc.cps.toList) f0 (by rw [Array.length_toList, abc_len]; exact f1)
          refine ⟨abc, _, cc, rfl, rfl, by decide +kernel, ec, _, _, rfl, rfl, ?_, _, _, rfl, ?_, o2.trans Off.upd, Pu.upd⟩
          · show x.length + 1 ≤ sizeLine
            omega
          · rw [str_len_app]
            show x.length + 1 ≤ i + 1
            omega
        · rintro σ H2 ⟨x, v, rfl, hx, o2, p2⟩
          exact ⟨x, v, rfl, by omega, o2, p2⟩
      · exact ⟨x0, none, rfl, menu_len x0 m0, (o1.trans Off.upd).trans Off.upd, Pu.upd⟩
    · rintro σ' H' ⟨x, v, rfl, hx, oh, ph⟩
      have hu' : H' u = some (.lst (us.map V.str)) := oh u _ up hu
      refine ⟨_, rfl, _, rfl, u, _, rfl, .inl (SqL.of hu'), rfl, flat_strs us, _, rfl, ite2 (fun hb => ?_) (fun hb => ?_)⟩
      · refine ⟨_, rfl, k x H' (by omega) ?_ oh ph⟩
        intro hm
        have hb : (!inV (.str x) (us.map V.str)) = true := hb
        rw [inV_strs, decide_eq_true hm] at hb
        cases hb
      · have s5 : (Txt.slice x none (some 5)).length ≤ 6 := Nat.le_trans (slice_len x _ _) hx
        refine ⟨_, rfl, by decide +kernel, fun Dd hD => ?_⟩
        have uD : u ≠ Dd := ne_of_none hu' hD
        have pD : p ≠ Dd := by
          obtain ⟨a, b, c, e⟩ := ph
          exact ne_of_none e hD
        refine comp_by (n := 26) (fun i ys H2 => ys = ((letters.take i).filter fun c => decide (¬ (c ++ Txt.slice x none (some 5)) ∈ us)).map V.str ∧ H2 = upd H' Dd (.lst ys)) ⟨rfl, rfl⟩ ?_ ?_
        · rintro ys H2 ⟨rfl, rfl⟩
          refine ⟨by show abc.cps.size ≤ 26; rw [abc_len]; exact Nat.le_refl _, ?_⟩
          rw [show letters.take 26 = letters from List.take_of_length_le (by rw [letters_len]; exact Nat.le_refl _)]
          obtain ⟨c, hc, hn⟩ := some_letter hl (Txt.slice x none (some 5))
          have hmem : c ∈ letters.filter fun c => decide (¬ (c ++ Txt.slice x none (some 5)) ∈ us) := List.mem_filter.mpr ⟨hc, decide_eq_true hn⟩
          obtain ⟨d, rest, ed⟩ := List.exists_cons_of_ne_nil (List.ne_nil_of_mem hmem)
          have hd : d ∈ letters.filter fun c => decide (¬ (c ++ Txt.slice x none (some 5)) ∈ us) := by rw [ed]; exact List.mem_cons_self
          obtain ⟨hd1, hd2⟩ := List.mem_filter.mp hd
          refine ⟨_, rfl, Dd, _, _, .str d, rfl, rfl, SqL.of upd_same, by rw [ed]; exact atI_nat (j := 0) rfl, _, rfl, _, rfl, x, rfl, by omega, _, _, rfl, rfl, ?_, ?_⟩
          · rw [letters_one d hd1]
            omega
          · refine k _ _ ?_ (of_decide_eq_true hd2) (oh.trans (Off.new hD)) ?_
            · rw [str_len_app, letters_one d hd1]
              omega
            · obtain ⟨a, b, c, e⟩ := ph
              exact ⟨a, b, c, by rw [upd_ne pD]; exact e⟩
        · rintro i ys H2 hi ⟨rfl, rfl⟩
          refine ⟨by show i < abc.cps.size; rw [abc_len]; exact hi, ?_⟩
          rintro y H3 ⟨rfl, c, ec, rfl⟩ σo ho
          obtain ⟨o, rfl⟩ := own1 ho
          have el : letters[i]? = some ⟨#[c]⟩ := by
            have ec' : abc.cps[i]? = some c := ec
            unfold letters
            rw [List.getElem?_map, Array.getElem?_toList, ec']
            rfl
          have et : letters.take (i + 1) = letters.take i ++ [⟨#[c]⟩] := by
            rw [List.take_succ, el]
            rfl
          have hlen : (((letters.take i).filter fun c => decide (¬ (c ++ Txt.slice x none (some 5)) ∈ us)).map V.str).length ≤ 26 := by
            rw [List.length_map]
            refine Nat.le_trans (List.length_filter_le _ _) ?_
            rw [List.length_take]
            omega
          refine ⟨⟨[_], rfl, rfl⟩, _, rfl, _, rfl, _, rfl, x, rfl, by omega, _, _, rfl, rfl, (by show 1 + _ ≤ sizeLine; omega), _, rfl, u, _, rfl, .inl (SqL.of (by rw [upd_ne uD]; exact hu')), rfl, flat_strs us, _, rfl, ite2 (fun hb => ?_) (fun hb => ?_)⟩
          · have hb : (!inV (.str (⟨#[c]⟩ ++ Txt.slice x none (some 5))) (us.map V.str)) = true := hb
            rw [inV_strs] at hb
            have hn : ¬ ((⟨#[c]⟩ : Str) ++ Txt.slice x none (some 5)) ∈ us := by simpa using hb
            refine ⟨_, rfl, by omega, upd_same, less_by hi ⟨?_, by rw [upd_upd]⟩⟩
            rw [et, List.filter_append, List.map_append]
            congr 1
            rw [List.filter_cons, if_pos (decide_eq_true hn)]
            rfl
          · have hb : ¬ (!inV (.str (⟨#[c]⟩ ++ Txt.slice x none (some 5))) (us.map V.str)) = true := hb
            rw [inV_strs] at hb
            have hn : ((⟨#[c]⟩ : Str) ++ Txt.slice x none (some 5)) ∈ us := by simpa using hb
            refine less_by hi ⟨?_, rfl⟩
            rw [et, List.filter_append]
            rw [show List.filter (fun c => decide (¬ (c ++ Txt.slice x none (some 5)) ∈ us)) [(⟨#[c]⟩ : Str)] = [] by rw [List.filter_cons, if_neg (by simpa using hn)]; rfl, List.append_nil]
end
end K47
end
section
set_option autoImplicit false
namespace K47
open PySem PyProof.Rows L2
section
variable {P : Program} {w : World} {K : PySem.W.Frag} {mg : Str → Option Value} {base : Heap} {t : Adr}
theorem nd_snoc {α : Type} {l : List α} {x : α} (h : l.Nodup) (hx : ¬ x ∈ l) : (l ++ [x]).Nodup := by
  rw [List.nodup_append]
  refine ⟨h, by simp, fun a ha b hb e => ?_⟩
  have : b = x := by simpa using hb
  rw [e, this] at ha
  exact hx ha
def spWords : Sp := fun vs H Q _ => ∃ (p u : Addr) (n : Int), vs = [.ref p, .int n, .ref u] ∧ Pu H p ∧ H u = some (.lst []) ∧ 0 ≤ n ∧ n ≤ 25 ∧ ∀ (l : Addr) (ws : List Str) H', H l = none → ws.length = n.toNat → ws.Nodup → H' l = some (.lst (ws.map V.str)) → Off p H H' → Pu H' p → Q (.ref l) H'
theorem ok_words (D : Defs K mg t) : FnOk P w K mg base CX0 3 t._law_words.1 t._law_words.2 ["_law_purse_here", "_law_many", "_law_used"] spWords := by
  have G__law_word : FnOk P w K mg base CX0 2 t._law_word.1 t._law_word.2 _ spWord := ok_word D
  have hz : sizeLine = 16777216 := sizeLine_eq
  refine D._law_words.fn.ok sc__law_words (fun vs H Q E h => ?_) (fun cdv A outer s H vs Q E hr h => ?_)
  · obtain ⟨p, u, n, rfl, _⟩ := h
    rfl
  · obtain ⟨p, u, n, rfl, hp, hu, h0, h1, k⟩ := h
    refine ⟨_, (pss_cons (ps_set (i := 3) sc__law_words.nd rfl (Or.inl rfl) (pe_lst pa_nil))
      (pss_cons (ps_for PassesOwn.never rfl (pi_range1 rfl D.b_range (pa_cons (pv 1) pa_nil)) (pg_name (i := 4) sc__law_words.nd rfl (Or.inl rfl))
      (pss_one (ps_expr (pe_bm PySem.F.plainAttrs_list PySem.F.slot_list_append PySem.F.type_list_append mt_append (pv 3) (pa_cons (pe_callF D._law_word G__law_word (hr.mono (by omega)) (by rfl) (pa_cons (pv 0) (pa_cons (pe_op op_cat (pv 2) (pv 3)) pa_nil))) pa_nil)))))
      (pss_one (ps_ret (pv 3))))), ?_⟩
    refine ⟨Nat.zero_le _, fun l hl => ?_⟩
    have ul : u ≠ l := ne_of_none hu hl
    have pl : p ≠ l := by
      obtain ⟨a, b, c, e⟩ := hp
      exact ne_of_none e hl
    have up : u ≠ p := by
      obtain ⟨a, b, c, e⟩ := hp
      exact (ne_of e hu (by intro z; cases z)).symm
    refine ⟨_, rfl, n, rfl, by omega, by omega, for_range (lo := 0) (n := n.toNat) (fun i σ H2 => ∃ (ws : List Str) (v : Option V), σ = [some (.ref p), some (.int n), some (.ref u), some (.ref l), v] ∧ ws.length = i ∧ ws.Nodup ∧ H2 l = some (.lst (ws.map V.str)) ∧ Off p H H2 ∧ Pu H2 p)
      ⟨[], _, rfl, rfl, List.nodup_nil, upd_same, Off.new hl, ?_⟩ ?_ ?_⟩
    · obtain ⟨a, b, c, e⟩ := hp
      exact ⟨a, b, c, by rw [upd_ne pl]; exact e⟩
    · rintro i σ H2 hi ⟨ws, v, rfl, hw, nd, hl2, o2, p2⟩
      have hu2 : H2 u = some (.lst []) := o2 u _ up hu
      refine ⟨_, rfl, .inl ⟨rfl, _, SqL.of hl2⟩, _, rfl, _, rfl, _, rfl, u, l, [], ws.map V.str, rfl, rfl, hu2, hl2, by rw [List.length_map]; show 0 + ws.length ≤ sizeLine; omega, fun q hq => ?_⟩
      have pq : p ≠ q := by
        obtain ⟨a, b, c, e⟩ := p2
        exact ne_of_none e hq
      have lq : l ≠ q := ne_of_none hl2 hq
      have p3 : Pu (upd H2 q (.lst ([] ++ ws.map V.str))) p := by
        obtain ⟨a, b, c, e⟩ := p2
        exact ⟨a, b, c, by rw [upd_ne pq]; exact e⟩
      refine ⟨p, q, ws, rfl, p3, upd_same, by omega, fun x H3 hx hn o3 p3 => ?_⟩
      have hl3 : H3 l = some (.lst (ws.map V.str)) := o3 l _ pl.symm (by rw [upd_ne lq]; exact hl2)
      refine ⟨l, ws.map V.str, .str x, rfl, rfl, hl3, by rw [List.length_map]; omega, ws ++ [x], _, rfl, by rw [List.length_append, hw]; rfl, nd_snoc nd hn, by rw [upd_same, List.map_append]; rfl, ?_, ?_⟩
      · intro b o hb e
        have bl : b ≠ l := ne_of_none e hl
        rw [upd_ne bl]
        exact o3 b o hb ((Off.new hq : Off p H2 _) b o hb (o2 b o hb e))
      · obtain ⟨a, b, c, e⟩ := p3
        exact ⟨a, b, c, by rw [upd_ne pl]; exact e⟩
    · rintro σ H2 ⟨ws, v, rfl, hw, nd, hl2, o2, p2⟩
      exact ⟨_, rfl, k l ws H2 hl hw nd hl2 o2 p2⟩
end
end K47
end
section
set_option autoImplicit false
namespace L2
open PySem PySem.Spec PyProof.Rows
section
variable {X : Cx} {K : PySem.W.Frag}
def SeqAt' (H : Hp) (v : V) (ys : List V) : Prop := ∃ p, v = .ref p ∧ (H p = some (.lst ys) ∨ H p = some (.tup ys))
end
end L2
end
section
set_option autoImplicit false
namespace L2
open PySem PySem.Spec PyProof.Rows
section
variable {X : Cx} {K : PySem.W.Frag}
end
end L2
end
section
set_option autoImplicit false
namespace L2
open PySem PySem.Spec PyProof.Rows PySem.W
section
variable {prog : Program} {w : World} {A : Around} {E : Value → Shared → Prop} {s : Shared} {T : String} {r d : Addr} {n : Nat} {P : Nat → Value → Prop} {OK : Heap → Prop}
end
end L2
end
section
set_option autoImplicit false
namespace L2
open PySem PySem.Spec PyProof.Rows
section
variable {X : Cx}
end
section
variable {prog : Program} {w : World} {A : Around} {E : Value → Shared → Prop} {s : Shared}
end
end L2
end
section
set_option autoImplicit false
namespace L2
open PySem PySem.Spec PyProof.Rows
section
variable {prog : Program} {w : World} {A : Around} {E : Value → Shared → Prop} {s : Shared}
end
end L2
end
section
set_option autoImplicit false
namespace L2
open PySem PySem.Spec PyProof.Rows
section
variable {X : Cx} {K : PySem.W.Frag}
end
end L2
end
section
set_option autoImplicit false
namespace L2
open PySem PyProof.Rows
def RowsS (H : Hp) (vs : List V) (rows : List (List Str)) : Prop := Paired (fun (v : V) (r : List Str) => SeqAt' H v (r.map V.str)) vs rows
end L2
end
section
set_option autoImplicit false
namespace L2
open PySem PySem.Spec PyProof.Rows
section
variable {X : Cx}
end
end L2
end
section
set_option autoImplicit false
namespace L2
open PySem PySem.Spec PyProof.Rows
def RowsI (H : Hp) (us : List V) (tbl : List (List Int)) : Prop := Paired (fun (v : V) (js : List Int) => ∃ a, v = .ref a ∧ H a = some (.tup (js.map V.int))) us tbl
end L2
end
section
set_option autoImplicit false
namespace L2
open PySem PySem.Spec PyProof.Rows
section
variable {prog : Program} {w : World} {A : Around} {E : Value → Shared → Prop} {s : Shared}
end
section
variable {X : Cx}
end
end L2
end
section
set_option autoImplicit false
namespace L2
open PySem PySem.Spec PyProof.Rows
section
variable {X : Cx}
end
end L2
end
section
set_option autoImplicit false
namespace L2
open PySem PySem.Spec PyProof.Rows
end L2
end
section
set_option autoImplicit false
namespace HT
open PySem PySem.Spec PyProof.Rows
section
variable {prog : Program} {w : World} {A : Around} {E : Value → Shared → Prop} {s : Shared}
theorem getItem_tuple_whole {t sl : Addr} {items : Array Value} {vl vu : Value} {lo hi : Option Int} {Q : Value → Shared → Prop} (ht : IsTup s.heap t items) (hs : s.heap.IsSliceOf sl vl vu .none) (pl : IsPart vl lo) (pu : IsPart vu hi)
    (hw : sIx items.size 0 lo = 0 ∧ sIx items.size items.size hi = items.size) (h : Q (.ref t) s) : wpAny (model prog w) A (getItem (.ref t) (.ref sl)) Q E s := by
  obtain ⟨os, hos, hcs, hds⟩ := id hs
  have hTs : s.TypeIs (.ref sl) "slice" := ⟨os, hos, hcs⟩
  unfold getItem
  try with_reducible refine wpAny_holding ?_
  first | refine wpAny_bind (wpAny_pure ?_) | skip
  refine wpAny_bind (wpAny_sequenceKey ht.typeIs (by decide) ?_)
  refine wpAny_bind (wpAny_callSpecial?_slot (name := Str.ofString "__getitem__") ht.typeIs PyProof.Rows.slot_tuple_getitem
    (wpAny_call_entry PyProof.Rows.slot_tuple_getitem ht.typeIs entry_tuple_getitem ?_ (args_tuple_getitem _ _)))
  show wpAny _ _ (Builtin.Tuple.tupleItemsOf (.ref t) >>= _) _ _ s
  refine wpAny_bind (tupleItemsOf_ ht ?_)
  refine wpAny_bind (wpAny_typeOf hTs ?_)
  rw [if_pos (by decide)]
  refine wpAny_bind (sliceApplied_gen hs pl pu ?_)
  have hyes : (((sIx items.size 0 lo : Nat) : Int) == 0 && (1 : Int) == 1 && (sIx items.size items.size hi - sIx items.size 0 lo) == items.size) = true := by
    rw [hw.1, hw.2]
    simp
  show wpAny _ _ (if (((sIx items.size 0 lo : Nat) : Int) == 0 && (1 : Int) == 1 && (sIx items.size items.size hi - sIx items.size 0 lo) == items.size) = true then _ else _) _ _ s
  rw [if_pos hyes]
  unfold Builtin.Tuple.tupleIsExact
  refine wpAny_bind (wpAny_bind (wpAny_typeOf ht.typeIs (wpAny_pure ?_)))
  rw [if_pos (by decide)]
  refine wpAny_bind (wpAny_rule ?_)
  exact wpAny_pure ⟨_, rfl, wpAny_pure h⟩
end
end HT
namespace L2
open PySem PySem.Spec PyProof.Rows
section
variable {X : Cx}
def rSlW (K : PySem.W.Frag) : V → Option Int → Option Int → Hp → VK → Prop := fun x lo hi H Q => ∃ a xs, x = .ref a ∧ H a = some (.tup xs) ∧
  ∀ p H', H' p = some (.tup (cutV xs lo hi)) → Same H H' → Q (.ref p) H'
theorem sl_tupW : SlR X (rSlW X.K) := by
  intro pins s σ H x v vl vu lo hi sl Q I rx hs pl pu h
  obtain ⟨a, xs, rfl, hx, q⟩ := h
  by_cases hw : HT.sIx xs.length 0 lo = 0 ∧ HT.sIx xs.length xs.length hi = xs.length
  · cases rx
    obtain ⟨its, r, ht, hz⟩ := I.tuple (SqT.of (K := X.K) hx)
    have hlen : its.toArray.size = xs.length := by rw [List.size_toArray]; exact r.length.symm
    refine ⟨"tuple", _, PyProof.Rows.slot_tuple_getitem.lookup, ht.typeIs, ?_⟩
    refine HT.getItem_tuple_whole ht hs pl pu (by rw [hlen]; exact hw) ?_
    have e : cutV xs lo hi = xs := by
      unfold cutV
      rw [hw.1, hw.2]
      simp
    exact ⟨.ref a, H, I, rfl, q a H (by rw [e]; exact hx) (Same.refl H)⟩
  · exact sl_tup pins s σ H (.ref a) v vl vu lo hi sl Q I rx hs pl pu ⟨a, xs, rfl, SqT.of hx, hw, fun p hp => q p _ upd_same (Same.new hp)⟩
def rCatW : R2 := fun x y H Q => ∃ a b xs ys, x = .ref a ∧ y = .ref b ∧ H a = some (.tup xs) ∧ H b = some (.tup ys) ∧ xs ≠ [] ∧ xs.length + ys.length ≤ sizeLine ∧ ∀ p H', H' p = some (.tup (xs ++ ys)) → Same H H' → Q (.ref p) H'
theorem op_catW : OpR X (binaryOp .Add) rCatW := by
  intro pins s σ H x y v u Q I rx ry h
  obtain ⟨a, b, xs, ys, rfl, rfl, ha, hb, hne, hz, q⟩ := h
  exact op_catT pins s σ H (.ref a) (.ref b) v u Q I rx ry ⟨a, b, xs, ys, rfl, rfl, SqT.of ha, SqT.of hb, hne, hz, fun e => q a H (by rw [e, List.append_nil]; exact ha) (Same.refl H), fun _ p hp => q p _ upd_same (Same.new hp)⟩
end
end L2
end
section
set_option autoImplicit false
namespace L2
open PySem PySem.Spec PyProof.Rows
section
variable {prog : Program} {w : World} {A : Around} {E : Value → Shared → Prop} {s : Shared}
theorem zipT_end2 {z TI TO i1 i2 t1 t2 : Addr} {k : Nat} {xs ys : Array Value} {x a b : Value} {Q : Fin → Shared → Prop} (hh : A.handled = none) (D : ZA z TI TO i1 i2 t1 t2)
    (hz : IsZip s.heap z TI TO .none) (hTI : IsPair s.heap TI (.ref i1) (.ref i2)) (hTO : IsPair s.heap TO a b) (h1 : s.heap.IsTupleIter i1 t1 k) (h2 : s.heap.IsTupleIter i2 t2 k) (hl1 : s.heap.IsTuple t1 xs) (hl2 : s.heap.IsTuple t2 ys) (hx : xs[k]? = some x) (hy : ys[k]? = none)
    (hE : ∀ h' e, (∀ c o, c ≠ z → c ≠ TO → c ≠ i1 → c ≠ i2 → s.heap.get? c = some o → h'.get? c = some o) → (∃ o, h'.get? e = some o ∧ o.cls = .type "StopIteration") → E (.ref e) { s with heap := h' }) :
    wpAny (model prog w) A (Builtin.«zip.__next__» ⟨[.ref z], []⟩) Q E s := by
  show wpAny _ _ (field (.ref z) 2 >>= _) _ _ _; refine wpAny_bind (wpAny_field hz rfl (x := .bool false) rfl ?_)
  show wpAny _ _ (field (.ref z) 3 >>= _) _ _ _; refine wpAny_bind (wpAny_field hz rfl (x := .ref TI) rfl (wpAny_bind (wpAny_seqItems hTI rfl ?_)))
  show wpAny _ _ (Builtin.SmallTypes.ownedTupleIsFree (.ref z) >>= _) _ _ _
  unfold Builtin.SmallTypes.ownedTupleIsFree
  refine wpAny_bind (wpAny_bind (wpAny_field hz rfl (x := .none) rfl (wpAny_pure ?_)))
  simp only [if_true]
  refine wpAny_bind (wpAny_rule (wpAny_bind (wpAny_field hz rfl (x := .ref TO) rfl (wpAny_bind (wpAny_setField_rec hz (by simp) fun g1 z1 q1 => ?_)))))
  replace z1 : IsZip g1 z TI TO .ellipsis := z1
  simp only [List.zipIdx_cons, List.zipIdx_nil, List.forIn_cons, List.forIn_nil]
  refine wpAny_bind (wpAny_bind (wpAny_bind (wpAny_onRaise ?_)))
  show wpAny _ _ (Builtin.SmallTypes.nextOf (.ref i1) >>= _) _ _ _
  refine wpAny_bind (nextT_item (h1.extBut q1.extBut D.a3) (hl1.extBut q1.extBut D.b2) hx fun g2 j2 q2 => wpAny_pure ?_)
  have p2 : IsPair g2 TO a b := q2.extBut _ _ D.a8 (q1.extBut _ _ D.a2 hTO)
  refine wpAny_bind (wpAny_seqItems p2 rfl (wpAny_bind (wpAny_updateSeq_pair p2 fun g3 p3 q3 => wpAny_bind (wpAny_letGo (wpAny_pure ?_)))))
  refine wpAny_bind (wpAny_bind (wpAny_onRaise ?_))
  show wpAny _ _ (Builtin.SmallTypes.nextOf (.ref i2) >>= _) _ _ _
  refine wpAny_bind (nextT_end hh (((h2.extBut q1.extBut D.a4).extBut q2.extBut D.b1.symm).extBut q3.extBut D.a9.symm) (((hl2.extBut q1.extBut D.b6).extBut q2.extBut D.b8).extBut q3.extBut D.b7) hy fun g4 e q4 ⟨oe, e1, e2⟩ => ?_)
  have z4 : IsZip g4 z TI TO .ellipsis := q4 _ _ D.a4.symm (q3.extBut _ _ D.a2.symm (q2.extBut _ _ D.a3.symm z1))
  have hez : e ≠ z := fun x => by subst x; rw [z4] at e1; cases e1; simp at e2
  exact wpAny_setField_rec z4 (by simp) fun g5 _ q5 => hE g5 e (fun c o c1 c2 c3 c4 x => q5.extBut _ _ c1 (q4 _ _ c4 (q3.extBut _ _ c2 (q2.extBut _ _ c3 (q1.extBut _ _ c1 x))))) ⟨oe, q5.extBut _ _ hez e1, e2⟩
end
def Itz2 (K : PySem.W.Frag) (t1 t2 : Addr) : It :=
  ⟨fun i H => ∃ xs ys x y, SqT K H t1 xs ∧ SqT K H t2 ys ∧ xs[i]? = some x ∧ ys[i]? = some y, fun i H v H' => ∃ p, H p = none ∧ v = .ref p ∧ ∀ xs ys x y, SqT K H t1 xs → SqT K H t2 ys → xs[i]? = some x → ys[i]? = some y → H' = upd H p (.tup [x, y]),
    fun i H => ∃ xs ys, SqT K H t1 xs ∧ SqT K H t2 ys ∧ (xs.length ≤ i ∨ ys.length ≤ i)⟩
theorem turn_zip2 {P : Program} {w : World} {K : PySem.W.Frag} {elts : List Expr} {x1 : Nat} {tpos : Pos} {z TI TO i1 i2 t1 t2 : Addr} (D : ZA z TI TO i1 i2 t1 t2) : Turn P w K (.Tuple elts x1 tpos) (Itz2 K t1 t2) [z, TI, TO, i1, i2] z
    (fun i h => IsZip h z TI TO .none ∧ IsPair h TI (.ref i1) (.ref i2) ∧ (∃ a b, IsPair h TO a b) ∧ h.IsTupleIter i1 t1 i ∧ h.IsTupleIter i2 t2 i) where
  mem := (turn_zip (P := P) (w := w) (K := K) (elts := elts) (x1 := x1) (tpos := tpos) D).mem
  obj := (turn_zip (P := P) (w := w) (K := K) (elts := elts) (x1 := x1) (tpos := tpos) D).obj
  keep := (turn_zip (P := P) (w := w) (K := K) (elts := elts) (x1 := x1) (tpos := tpos) D).keep
  item := (turn_zip (P := P) (w := w) (K := K) (elts := elts) (x1 := x1) (tpos := tpos) D).item
  done := by
    intro X hP hw hK hc i pins s σ H E I hf st hg
    subst hP hw hK
    obtain ⟨xs, ys, q1, q2, e1⟩ := hg
    by_cases hx : xs.length ≤ i
    · exact (turn_zip (P := X.prog) (w := X.w) (K := X.K) (elts := elts) (x1 := x1) (tpos := tpos) D).done X rfl rfl rfl hc i pins s σ H E I hf st ⟨xs, q1, hx⟩
    · have hy := e1.resolve_left hx
      obtain ⟨its, rv, p, hz'⟩ := I.tuple q1
      obtain ⟨jts, rw', p', hz''⟩ := I.tuple q2
      have hl := rv.length
      have hl2 := rw'.length
      have hxi : i < xs.length := by omega
      obtain ⟨u, hu, ru⟩ := rv.get (List.getElem?_eq_getElem hxi)
      obtain ⟨hz, hTI, ⟨a, c, hTO⟩, h1, h2⟩ := st
      have hT : s.TypeIs (.ref z) "zip" := ⟨_, hz, rfl⟩
      unfold pyNext
      refine wpAny_bind (wpAny_attempt (wpAny_callSpecial?_slot (name := Str.ofString "__next__") hT F.slot_zip_next (wpAny_call_entry F.slot_zip_next hT F.entry_zip_next
        (zipT_end2 (I.ok.hd hc) D hz hTI hTO h1 h2 (show s.heap.IsTuple t1 its.toArray from p) (show s.heap.IsTuple t2 jts.toArray from p') (x := u) (by simpa using hu) (by simp; omega) fun h' e kk ⟨o, ho, hcl⟩ => ?_) (F.args_zip_next_1 _))))
      refine wpAny_bind (wpAny_isInstance (T := "StopIteration") (b := true) ⟨o, ho, hcl⟩ isSubtype_stop (wpAny_pure ⟨rfl, I.turnedL (t' := s.toks) hf fun b u hb q => ?_⟩))
      simp only [List.mem_cons, List.not_mem_nil, or_false, not_or] at hb
      exact kk b u hb.1 hb.2.2.1 hb.2.2.2.1 hb.2.2.2.2 q
  self := (turn_zip (P := P) (w := w) (K := K) (elts := elts) (x1 := x1) (tpos := tpos) D).self
section
variable {X : Cx}
def iZip2 (K : PySem.W.Frag) (ta : TA) : TI := fun σ H R => ta σ H fun vs H1 => ∃ a b xs ys, vs = [.ref a, .ref b] ∧ SqT K H1 a xs ∧ SqT K H1 b ys ∧ R (Itz2 K a b) H1
theorem pi_zip2 {elts : List Expr} {x1 : Nat} {tpos : Pos} {a b : Expr} {ta : TA} {p pos : Pos} (hg : Gl X "zip") (hm : X.mg "zip" = none) (ha : PA X [a, b] ta)
    (he : starEach [a, b] X.env = (false, eval a X.env) :: starEach [b] X.env := by rfl) (hpl : (backTo pos (starEach [b] X.env)).any (·.1) = false := by rfl) : PI X (.Tuple elts x1 tpos) (.Call (.Name "zip" p) [a, b] [] pos) (iZip2 X.K ta) := by
  intro pins s σ H R I h
  refine wpAny_Call_Name_kw (ld_blt I hg hm boot_zip ?_)
  refine PyProof.Rows.callWith_type1 (thn (ha pos pins s σ H _ I h) fun us s1 ⟨vs, H1, I1, r1, t1, t2, xs, ys, e, q1, q2, q⟩ => ?_) he hpl
  subst e
  obtain ⟨u, w', rfl, ru, rw'⟩ := vals2 r1
  cases ru
  cases rw'
  obtain ⟨its, rv, p1, hz1⟩ := I1.tuple q1
  obtain ⟨jts, rv2, p2, hz2⟩ := I1.tuple q2
  refine zq_call (show s1.heap.IsTuple t1 its.toArray from p1) (show s1.heap.IsTuple t2 jts.toArray from p2) ?_
  have b1 : (zq1 s1.heap t1).objs.size = s1.heap.objs.size + 1 := Heap.size_push ..
  have b2 : (zq2 s1.heap t1 t2).objs.size = s1.heap.objs.size + 2 := by rw [Heap.size_push, b1]
  have b3 : (zq3 s1.heap t1 t2).objs.size = s1.heap.objs.size + 3 := by rw [Heap.size_push, b2]
  have b4 : (zq4 s1.heap t1 t2).objs.size = s1.heap.objs.size + 4 := by rw [Heap.size_push, b3]
  have c1 : t1 < s1.heap.objs.size := p1.lt
  have c2 : t2 < s1.heap.objs.size := p2.lt
  have hz : IsZip (zq5 s1.heap t1 t2) (zq4 s1.heap t1 t2).objs.size (zq2 s1.heap t1 t2).objs.size (zq3 s1.heap t1 t2).objs.size .none := Heap.get?_push_size _ rfl
  have DD : ZA (zq4 s1.heap t1 t2).objs.size (zq2 s1.heap t1 t2).objs.size (zq3 s1.heap t1 t2).objs.size s1.heap.objs.size (zq1 s1.heap t1).objs.size t1 t2 := by
    rw [b4, b2, b3, b1]
    exact za_of c1 c2
  refine wpAny_pyIter_zip hz ?_
  have I2 : Inv X pins σ H1 { s1 with heap := zq5 s1.heap t1 t2 } := I1.kept (t' := s1.toks) fun b o e => Heap.get?_push_of_some _ (Heap.get?_push_of_some _ (Heap.get?_push_of_some _ (Heap.get?_push_of_some _ (Heap.get?_push_of_some _ e))))
  refine ⟨(zq4 s1.heap t1 t2).objs.size, [(zq4 s1.heap t1 t2).objs.size, (zq2 s1.heap t1 t2).objs.size, (zq3 s1.heap t1 t2).objs.size, s1.heap.objs.size, (zq1 s1.heap t1).objs.size], _, Itz2 X.K t1 t2, H1, rfl, I2,
    turn_zip2 DD, ⟨hz, ?_, ⟨.none, .none, ?_⟩, ?_, ?_⟩, fun b hb => ?_, q⟩
  · exact Heap.get?_push_of_some _ (Heap.get?_push_of_some _ (Heap.get?_push_size _ rfl))
  · exact Heap.get?_push_of_some _ (Heap.get?_push_size _ rfl)
  · exact ⟨_, Heap.get?_push_of_some _ (Heap.get?_push_of_some _ (Heap.get?_push_of_some _ (Heap.get?_push_of_some _ (Heap.get?_push_size _ rfl)))), rfl, rfl⟩
  · exact ⟨_, Heap.get?_push_of_some _ (Heap.get?_push_of_some _ (Heap.get?_push_of_some _ (Heap.get?_push_size _ rfl))), rfl, rfl⟩
  · have hle : s1.heap.objs.size ≤ b := by
      rw [b4, b2, b3, b1] at hb
      simp only [List.mem_cons, List.not_mem_nil, or_false] at hb
      rcases hb with h | h | h | h | h <;> rw [h] <;> first | exact Nat.le_refl _ | exact Nat.le_add_right _ _
    exact I1.fpOk hle (I1.hok.fresh hle)
end
end L2
end
section
set_option autoImplicit false
namespace K47
open PySem PyProof.Rows L2
section
variable {P : Program} {w : World} {K : PySem.W.Frag} {mg : Str → Option Value} {base : Heap} {t : Adr}
theorem kit_ib (K : PySem.W.Frag) : PySem.W.kitOne K (.type "int") (.type "bool") = some false := by rfl
def Lz : Nat → T → Prop
  | _, .non => True
  | _, .int _ => True
  | _, .str _ => True
  | 0, .tup _ => False
  | n + 1, .tup ts => ts.length ≤ 10000 ∧ ∀ t ∈ ts, Lz n t
def spSame (n : Nat) : Sp := fun vs H Q _ => ∃ (v1 v2 : V) (T0 : T), vs = [v1, v2] ∧ Dp H T0 v1 ∧ Dp H T0 v2 ∧ Lz n T0 ∧ ∀ H', Same H H' → Q (.bl true) H'
theorem kit_it (K : PySem.W.Frag) : PySem.W.kitOne K (.type "int") (.type "tuple") = some false := by rfl
theorem kit_st (K : PySem.W.Frag) : PySem.W.kitOne K (.type "str") (.type "tuple") = some false := by rfl
theorem kit_nt (K : PySem.W.Frag) : PySem.W.kitOne K (.type "NoneType") (.type "tuple") = some false := by rfl
theorem kit_sb (K : PySem.W.Frag) : PySem.W.kitOne K (.type "str") (.type "bool") = some false := by rfl
theorem kit_nb (K : PySem.W.Frag) : PySem.W.kitOne K (.type "NoneType") (.type "bool") = some false := by rfl
theorem same_step (D : Defs K mg t) {n k : Nat} {sp' : Sp} (G__law_same : FnOk P w K mg base CX0 k t._law_same.1 t._law_same.2 ["_law_one", "_law_other"] sp')
    (hsp : ∀ (m : Nat) (v1 v2 : V) (T0 : T) (H : Hp) (Q : VK) (E : XK), n = m + 1 → Lz m T0 → Dp H T0 v1 → Dp H T0 v2 → (∀ H', Same H H' → Q (.bl true) H') → sp' [v1, v2] H Q E) : FnOk P w K mg base CX0 (k + 1) t._law_same.1 t._law_same.2 ["_law_one", "_law_other"] (spSame n) := by
  have hz : sizeLine = 16777216 := sizeLine_eq
  refine D._law_same.fn.ok sc__law_same (fun vs H Q E h => ?_) (fun cdv A outer s H vs Q E hr h => ?_)
  · obtain ⟨v1, v2, T0, rfl, _⟩ := h
    rfl
  · obtain ⟨v1, v2, T0, rfl, d1, d2, lv, q⟩ := h
    refine ⟨_, (pss_cons (ps_if (PW.pt (pw_or (pt_val (pe_callB call_isinst (by rfl) D.b_isinstance bt_isinstance (pa_cons (pv 0) (pa_cons (pe_bltn (v := V.ty "tuple") rfl D.b_tuple bt_tuple rfl) pa_nil)))) (pw_or1 (pt_val (pe_callB call_isinst (by rfl) D.b_isinstance bt_isinstance (pa_cons (pv 1) (pa_cons (pe_bltn (v := V.ty "tuple") rfl D.b_tuple bt_tuple rfl) pa_nil)))))))
      (pss_cons (ps_if (PW.pt (pw_or (pt_not (pt_val (pe_callB call_isinst (by rfl) D.b_isinstance bt_isinstance (pa_cons (pv 0) (pa_cons (pe_bltn (v := V.ty "tuple") rfl D.b_tuple bt_tuple rfl) pa_nil))))) (pw_or (pt_not (pt_val (pe_callB call_isinst (by rfl) D.b_isinstance bt_isinstance (pa_cons (pv 1) (pa_cons (pe_bltn (v := V.ty "tuple") rfl D.b_tuple bt_tuple rfl) pa_nil))))) (pw_or1 (pt_cmpR op_ne (pe_callB call_len_seq (by rfl) D.b_len bt_len (pa_cons (pv 0) pa_nil)) (pe_callB call_len_seq (by rfl) D.b_len bt_len (pa_cons (pv 1) pa_nil)) (nomark _))))))
      (pss_one (ps_ret pe_bl))
      pss_nil)
      (pss_one (ps_ret (pe_callB (call_all rfl) (by rfl) D.b_all bt_all (pa_cons (pe_comp rfl (CompScope.of ["_law_a", "_law_b"] [] ["_law_a", "_law_b"] (defScope (top 24)) ["_law_one", "_law_other"] rfl rfl (by decide +kernel)) ⟨fun _ _ _ _ _ => (pg_tup_K (K := K) (n := 2) rfl rfl (pgs_cons (pg_name (i := 0) (show List.Nodup [("_law_a" : Str), ("_law_b" : Str)] by decide +kernel) rfl (Or.inl (lookup_relabel_local rfl)) (.inr (lookup_relabel_local rfl))) (pgs_cons (pg_name (i := 1) (show List.Nodup [("_law_a" : Str), ("_law_b" : Str)] by decide +kernel) rfl (Or.inl (lookup_relabel_local rfl)) (.inr (lookup_relabel_local rfl))) pgs_nil))), fun _ _ _ _ _ => pts_nil, fun _ _ _ _ _ => (pe_callF D._law_same G__law_same (hr.mono (by omega)) (by rfl) (pa_cons (pv 0) (pa_cons (pv 1) pa_nil)))⟩ (pi_zip rfl D.b_zip (pa_cons (pv 0) (pa_cons (pv 1) pa_nil)))) pa_nil)))))
      pss_nil)
      (pss_cons (ps_if (PW.pt (pw_or (pt_val (pe_callB call_isinst (by rfl) D.b_isinstance bt_isinstance (pa_cons (pv 0) (pa_cons (pe_bltn (v := V.ty "bool") rfl D.b_bool bt_bool rfl) pa_nil)))) (pw_or1 (pt_val (pe_callB call_isinst (by rfl) D.b_isinstance bt_isinstance (pa_cons (pv 1) (pa_cons (pe_bltn (v := V.ty "bool") rfl D.b_bool bt_bool rfl) pa_nil)))))))
      (pss_one (ps_ret (pe_and (pe_callB call_isinst (by rfl) D.b_isinstance bt_isinstance (pa_cons (pv 0) (pa_cons (pe_bltn (v := V.ty "bool") rfl D.b_bool bt_bool rfl) pa_nil))) (pe_and (pe_callB call_isinst (by rfl) D.b_isinstance bt_isinstance (pa_cons (pv 1) (pa_cons (pe_bltn (v := V.ty "bool") rfl D.b_bool bt_bool rfl) pa_nil))) (pe_one (pe_cmpR op_eq (pv 0) (pv 1) (nomark _)))))))
      pss_nil)
      (pss_one (ps_ret (pe_cmpR op_eq (pv 0) (pv 1) (nomark _)))))), ?_⟩
    cases T0 with
    | non =>
      rw [Dp] at d1 d2
      subst d1 d2
      refine ⟨_, rfl, _, _, _, false, rfl, .non, kit_nt K, _, rfl, iteF ⟨_, rfl, _, _, _, false, rfl, .non, kit_nt K, _, rfl, iteF ?_⟩⟩
      refine ⟨_, rfl, _, _, _, false, rfl, .non, kit_nb K, _, rfl, iteF ⟨_, rfl, _, _, _, false, rfl, .non, kit_nb K, _, rfl, iteF ?_⟩⟩
      refine ⟨_, rfl, _, rfl, rfl, ?_⟩
      rw [decide_eq_true rfl]
      exact q H (Same.refl H)
    | int i =>
      rw [Dp] at d1 d2
      subst d1 d2
      refine ⟨_, rfl, _, _, _, false, rfl, .int i, kit_it K, _, rfl, iteF ⟨_, rfl, _, _, _, false, rfl, .int i, kit_it K, _, rfl, iteF ?_⟩⟩
      refine ⟨_, rfl, _, _, _, false, rfl, .int i, kit_ib K, _, rfl, iteF ⟨_, rfl, _, _, _, false, rfl, .int i, kit_ib K, _, rfl, iteF ?_⟩⟩
      refine ⟨_, rfl, _, rfl, rfl, ?_⟩
      rw [decide_eq_true rfl]
      exact q H (Same.refl H)
    | str i =>
      rw [Dp] at d1 d2
      subst d1 d2
      refine ⟨_, rfl, _, _, _, false, rfl, .str i, kit_st K, _, rfl, iteF ⟨_, rfl, _, _, _, false, rfl, .str i, kit_st K, _, rfl, iteF ?_⟩⟩
      refine ⟨_, rfl, _, _, _, false, rfl, .str i, kit_sb K, _, rfl, iteF ⟨_, rfl, _, _, _, false, rfl, .str i, kit_sb K, _, rfl, iteF ?_⟩⟩
      refine ⟨_, rfl, _, rfl, rfl, ?_⟩
      rw [decide_eq_true rfl]
      exact q H (Same.refl H)
    | tup ts =>
      obtain ⟨a, xs, rfl, ha, dl⟩ := d1.of_tup
      obtain ⟨b, ys, rfl, hb, el⟩ := d2.of_tup
      obtain ⟨m, rfl⟩ : ∃ m, n = m + 1 := by
        cases n with
        | zero => exact (show False from lv).elim
        | succ m => exact ⟨m, rfl⟩
      obtain ⟨lvs, lv⟩ : ts.length ≤ 10000 ∧ ∀ t ∈ ts, Lz m t := lv
      have l1 := dl.length
      have l2 := el.length
      refine ⟨_, rfl, _, _, _, true, rfl, .tup ha, kit_same K "tuple", _, rfl, iteT (iteT ?_)⟩
      refine ⟨_, rfl, _, _, _, true, rfl, .tup ha, kit_same K "tuple", _, rfl, iteF ⟨_, rfl, _, _, _, true, rfl, .tup hb, kit_same K "tuple", _, rfl, iteF ⟨_, rfl, a, xs, rfl, .inr (SqT.of ha), _, rfl, b, ys, rfl, .inr (SqT.of hb), rfl, _, rfl, iteNeg ?_ ?_⟩⟩⟩
      · rw [l1, l2, decide_eq_true rfl]
        exact Bool.false_ne_true
      refine ⟨_, rfl, _, rfl, a, b, xs, ys, rfl, SqT.of ha, SqT.of hb, fun Dd hD => ?_⟩
      refine comp_by (n := ts.length) (fun i zs H2 => zs = List.replicate i (V.bl true) ∧ H2 Dd = some (.lst zs) ∧ Same H H2) ⟨rfl, upd_same, Same.new hD⟩ ?_ ?_
      · rintro zs H2 ⟨rfl, hD2, s2⟩
        refine ⟨⟨xs, SqT.of (s2 a _ ha), by omega⟩, Dd, List.replicate ts.length true, rfl, SqL.of (by rw [hD2]; congr 2; rw [List.map_replicate]), ?_⟩
        rw [show (List.replicate ts.length true).all id = true by rw [List.all_eq_true]; intro b hb; exact (List.mem_replicate.mp hb).2]
        exact q H2 s2
      · rintro i zs H2 hi ⟨rfl, hD2, s2⟩
        obtain ⟨x, ex, dx⟩ := dl.get (List.getElem?_eq_getElem hi)
        obtain ⟨y, ey, dy⟩ := el.get (List.getElem?_eq_getElem hi)
        refine ⟨⟨xs, ys, x, y, SqT.of (s2 a _ ha), SqT.of (s2 b _ hb), ex, ey⟩, ?_⟩
        rintro v H3 ⟨p, hp, rfl, hy⟩ σo ho
        obtain ⟨o, o', rfl⟩ := own2 ho
        have e3 := hy xs ys x y (SqT.of (s2 a _ ha)) (SqT.of (s2 b _ hb)) ex ey
        subst e3
        have s3 := s2.trans (Same.new (o := .tup [x, y]) hp)
        have pD : Dd ≠ p := ne_of_none hD2 hp
        refine ⟨p, [x, y], rfl, SqT.of upd_same, rfl, x, [y], rfl, y, [], rfl, rfl, ⟨[some x, some y], rfl, rfl⟩, ?_⟩
        unfold tYes
        dsimp only
        try rw [if_pos rfl]
        refine ⟨_, rfl, _, rfl, ?_⟩
        refine hsp m x y ts[i] _ _ _ rfl (lv _ (List.getElem_mem hi)) (dx.mono (Same.tups s3)) (dy.mono (Same.tups s3)) fun H4 s4 => ?_
        have hD4 : H4 Dd = some (.lst (List.replicate i (V.bl true))) := s4 Dd _ (by rw [upd_ne pD]; exact hD2)
        have hil : i < sizeLine := by omega
        refine ⟨by rw [List.length_replicate]; exact hil, hD4, less_by hi ⟨by rw [List.replicate_succ'], upd_same, fun c o e => ?_⟩⟩
        rw [upd_ne (ne_of_none e hD)]
        exact s4 c o (s3 c o e)
theorem fn_false {f : Addr} {fd : FuncData} {ps : List Str} : FnOk P w K mg base CX0 0 f fd ps (fun _ _ _ _ => False) := ⟨fun _ _ _ _ h => h.elim, fun _ _ _ _ _ _ _ _ _ _ _ _ _ h => h.elim⟩
theorem ok_same (D : Defs K mg t) : ∀ n, FnOk P w K mg base CX0 (n + 1) t._law_same.1 t._law_same.2 ["_law_one", "_law_other"] (spSame n)
  | 0 => same_step D fn_false fun m _ _ _ _ _ _ h => by omega
  | n + 1 => same_step D (ok_same D n) fun m v1 v2 T0 H Q E h lv d1 d2 q => by
    have e : n = m := by omega
    subst e
    exact ⟨v1, v2, T0, rfl, d1, d2, lv, q⟩
end
end K47
end
section
set_option autoImplicit false
namespace L2
open PySem PySem.Spec PyProof.Rows
section
variable {X : Cx}
def rCatN : R2 := fun x y H Q => ∃ a b xs ys, x = .ref a ∧ y = .ref b ∧ H a = some (.tup xs) ∧ H b = some (.tup ys) ∧ xs.length + ys.length ≤ sizeLine ∧ ∀ p H', H' p = some (.tup (xs ++ ys)) → Same H H' → Q (.ref p) H'
theorem op_catN : OpR X (binaryOp .Add) rCatN := by
  intro pins s σ H x y v u Q I rx ry h
  obtain ⟨a, b, xs, ys, rfl, rfl, ha, hb, hz, q⟩ := h
  cases xs with
  | nil => exact op_catT0 pins s σ H (.ref a) (.ref b) v u Q I rx ry ⟨a, b, ys, rfl, rfl, ha, hb, q b H hb (Same.refl H)⟩
  | cons x0 xr => exact op_catW pins s σ H (.ref a) (.ref b) v u Q I rx ry ⟨a, b, x0 :: xr, ys, rfl, rfl, ha, hb, List.cons_ne_nil _ _, hz, q⟩
end
end L2
end
section
set_option autoImplicit false
namespace L2
open PySem PySem.Spec PyProof.Rows
section
variable {X : Cx}
def rEqT : R2 := fun x y H Q => ∃ (a b : Addr) (xs ys : List V) (ts us : List T), x = .ref a ∧ y = .ref b ∧ H a = some (.tup xs) ∧ H b = some (.tup ys) ∧ DpL H ts xs ∧ DpL H us ys ∧ (∀ t ∈ ts, Lv 5 t) ∧ Q (.bl (dcd (ts = us))) H
theorem op_eqT (hu : X.A.units + 10 < cLine) : OpR X (compareOp .Eq) rEqT := by
  intro pins s σ H x y v u Q I rx ry h
  obtain ⟨a, b, xs, ys, ts, us, rfl, rfl, ha, hb, d1, d2, lv, q⟩ := h
  cases rx
  cases ry
  obtain ⟨its, r, p⟩ := tup_at I ha
  obtain ⟨its2, r2, p2⟩ := tup_at I hb
  have l1 := r.length
  have l2 := r2.length
  have n1 := d1.length
  have n2 := d2.length
  have key := SeqAt.RcAt.tuples (A := X.A) (s := s) (e := fun j => dcd (ts[j]? = us[j]?)) p p2 (by omega) (fun j h1 h2 => by
    have h1' : j < its.length := by simpa using h1
    have h2' : j < its2.length := by simpa using h2
    have j1 : j < ts.length := by omega
    have j2 : j < us.length := by omega
    obtain ⟨v1, e1, dv1⟩ := d1.get (List.getElem?_eq_getElem j1)
    obtain ⟨v2, e2, dv2⟩ := d2.get (List.getElem?_eq_getElem j2)
    obtain ⟨w1, k1, m1⟩ := r.get e1
    obtain ⟨w2, k2, m2⟩ := r2.get e2
    have e3 : its.toArray[j] = w1 := by
      have : its.toArray[j]? = some w1 := by simpa using k1
      rw [Array.getElem?_eq_getElem h1] at this
      exact Option.some.inj this
    have e4 : its2.toArray[j] = w2 := by
      have : its2.toArray[j]? = some w2 := by simpa using k2
      rw [Array.getElem?_eq_getElem h2] at this
      exact Option.some.inj this
    rw [e3, e4]
    have := eqAt_T I 5 X.A.in1 ts[j] us[j] v1 v2 w1 w2 (lv _ (List.getElem_mem j1)) (by show X.A.units + 1 + 5 < cLine; omega) dv1 dv2 m1 m2
    rw [List.getElem?_eq_getElem j1, List.getElem?_eq_getElem j2]
    have e5 : dcd (some ts[j] = some us[j]) = dcd (ts[j] = us[j]) := dcd_eq ⟨fun h => Option.some.inj h, fun h => by rw [h]⟩
    rw [e5]
    exact this)
  have ee : ((List.range (min its.toArray.size its2.toArray.size)).all (fun j => dcd (ts[j]? = us[j]?)) && its.toArray.size == its2.toArray.size) = dcd (ts = us) := by
    apply dcd_of
    rw [Bool.and_eq_true, List.all_eq_true, beq_iff_eq]
    constructor
    · rintro ⟨h1, h2⟩
      have h2 : its.length = its2.length := by simpa using h2
      apply List.ext_getElem?
      intro j
      by_cases hj : j < ts.length
      · exact dcd_iff.mp (h1 j (List.mem_range.mpr (by simp; omega)))
      · rw [List.getElem?_eq_none (by omega), List.getElem?_eq_none (by omega)]
    · intro h
      refine ⟨fun j _ => dcd_t (by rw [h]), ?_⟩
      have : its.length = its2.length := by rw [← l1, ← l2, n1, n2, h]
      simpa using this
  rw [ee] at key
  exact key X.prog X.w X.xe _ ⟨.bl _, H, I, rfl, q⟩
end
end L2
end
section
set_option autoImplicit false
namespace K47
open PySem PyProof.Rows L2
structure Rec where
  who : T
  num : Int
  ans : T
structure Pl where
  st : Str
  cnt : Int
  recs : List Rec
  tal : List Int
def recT (r : Rec) : T := .tup [r.who, .int r.num, r.ans]
def plT (p : Pl) : T := .tup [.str p.st, .int p.cnt, .tup (p.recs.map recT), .tup (p.tal.map T.int)]
def wmT (a b c d : Int) : T := .tup [.int a, .int b, .int c, .int d]
def WhoS : Nat → T → Prop
  | 0, t => ∃ i, t = .int i
  | 1, t => ∃ x, t = .str x
  | _, t => ∃ x u, t = .tup [.str x, u] ∧ (u = .non ∨ ∃ y, u = .str y)
theorem DpL.one {H : Hp} {a : T} {xs : List V} (h : DpL H [a] xs) : ∃ x, xs = [x] ∧ Dp H a x := by
  obtain ⟨x, r, rfl, h1, h2⟩ := DpL.cases h
  rw [h2.of_nil]
  exact ⟨x, rfl, h1⟩
theorem DpL.three {H : Hp} {a b c : T} {xs : List V} (h : DpL H [a, b, c] xs) : ∃ x y z, xs = [x, y, z] ∧ Dp H a x ∧ Dp H b y ∧ Dp H c z := by
  obtain ⟨x, r, rfl, h1, h⟩ := DpL.cases h
  obtain ⟨y, r, rfl, h2, h⟩ := DpL.cases h
  obtain ⟨z, rfl, h3⟩ := DpL.one h
  exact ⟨x, y, z, rfl, h1, h2, h3⟩
theorem DpL.four {H : Hp} {a b c d : T} {xs : List V} (h : DpL H [a, b, c, d] xs) : ∃ x y z u, xs = [x, y, z, u] ∧ Dp H a x ∧ Dp H b y ∧ Dp H c z ∧ Dp H d u := by
  obtain ⟨x, r, rfl, h1, h⟩ := DpL.cases h
  obtain ⟨y, z, u, rfl, h2, h3, h4⟩ := DpL.three h
  exact ⟨x, y, z, u, rfl, h1, h2, h3, h4⟩
theorem Dp.of_rec {H : Hp} {r : Rec} {v : V} (d : Dp H (recT r) v) : ∃ a w n, v = .ref a ∧ H a = some (.tup [w, .int r.num, n]) ∧ Dp H r.who w ∧ Dp H r.ans n := by
  obtain ⟨a, xs, rfl, ha, dl⟩ := L2.Dp.of_tup d
  obtain ⟨x, y, z, rfl, h1, h2, h3⟩ := K47.DpL.three dl
  rw [h2.of_int] at ha
  exact ⟨a, x, z, rfl, ha, h1, h3⟩
theorem DpL.of_ints {H : Hp} : ∀ {ns : List Int} {xs : List V}, DpL H (ns.map T.int) xs → xs = ns.map V.int
  | [], _, h => h.of_nil
  | n :: ns, xs, h => by
    obtain ⟨x, r, rfl, h1, h2⟩ := L2.DpL.cases (t := T.int n) (ts := ns.map T.int) h
    rw [h1.of_int, K47.DpL.of_ints h2]
    rfl
theorem DpL.ints {H : Hp} : ∀ (ns : List Int), DpL H (ns.map T.int) (ns.map V.int)
  | [] => .nil
  | n :: ns => .cons (L2.Dp.int n) (K47.DpL.ints ns)
theorem Dp.of_pl {H : Hp} {p : Pl} {v : V} (d : Dp H (plT p) v) : ∃ a r l xs, v = .ref a ∧ H a = some (.tup [.str p.st, .int p.cnt, .ref r, .ref l]) ∧ H r = some (.tup xs) ∧ DpL H (p.recs.map recT) xs ∧ H l = some (.tup (p.tal.map V.int)) := by
  obtain ⟨a, xs, rfl, ha, dl⟩ := L2.Dp.of_tup d
  obtain ⟨x, y, z, u, rfl, h1, h2, h3, h4⟩ := K47.DpL.four dl
  obtain ⟨r, ys, rfl, hr, dr⟩ := L2.Dp.of_tup h3
  obtain ⟨l, zs, rfl, hl, dz⟩ := L2.Dp.of_tup h4
  rw [h1.of_str, h2.of_int] at ha
  rw [K47.DpL.of_ints dz] at hl
  exact ⟨a, r, l, ys, rfl, ha, hr, dr, hl⟩
theorem Dp.pl {H : Hp} {p : Pl} {a r l : Addr} {xs : List V} (ha : H a = some (.tup [.str p.st, .int p.cnt, .ref r, .ref l])) (hr : H r = some (.tup xs)) (dr : DpL H (p.recs.map recT) xs) (hl : H l = some (.tup (p.tal.map V.int))) : Dp H (plT p) (.ref a) :=
  L2.Dp.tup ha (.cons (L2.Dp.str _) (.cons (L2.Dp.int _) (.cons (L2.Dp.tup hr dr) (.cons (L2.Dp.tup hl (K47.DpL.ints _)) .nil))))
theorem Dp.of_wm {H : Hp} {a b c d : Int} {v : V} (h : Dp H (wmT a b c d) v) : ∃ q, v = .ref q ∧ H q = some (.tup [.int a, .int b, .int c, .int d]) := by
  obtain ⟨q, xs, rfl, hq, dl⟩ := L2.Dp.of_tup h
  obtain ⟨x, y, z, u, rfl, h1, h2, h3, h4⟩ := K47.DpL.four dl
  rw [h1.of_int, h2.of_int, h3.of_int, h4.of_int] at hq
  exact ⟨q, rfl, hq⟩
theorem who_lv {n : Nat} {t : T} (h : WhoS n t) : Lv 6 t := by
  match n, h with
  | 0, ⟨i, e⟩ => subst e; trivial
  | 1, ⟨x, e⟩ => subst e; trivial
  | n + 2, ⟨x, u, e, hu⟩ =>
    subst e
    intro t ht
    rcases List.mem_cons.mp ht with rfl | ht
    · trivial
    · rw [List.mem_singleton.mp ht]
      rcases hu with rfl | ⟨y, rfl⟩ <;> trivial
theorem who_eq {n : Nat} {t u : T} {x y : V} {H : Hp} {Q : VK} (ht : WhoS n t) (hu : WhoS n u) (dx : Dp H t x) (dy : Dp H u y) (q : Q (.bl (dcd (t = u))) H) : rEq x y H Q ∨ rEqT x y H Q := by
  match n, ht, hu with
  | 0, ⟨i, e⟩, ⟨j, f⟩ =>
    subst e f
    rw [dx.of_int, dy.of_int]
    refine .inl ⟨rfl, ?_⟩
    have : decide (V.int i = V.int j) = dcd (T.int i = T.int j) := dcd_of ⟨fun h => by have := of_decide_eq_true h; injection this with h; rw [h], fun h => decide_eq_true (by injection h with h; rw [h])⟩
    rw [this]
    exact q
  | 1, ⟨i, e⟩, ⟨j, f⟩ =>
    subst e f
    rw [dx.of_str, dy.of_str]
    refine .inl ⟨rfl, ?_⟩
    have : decide (V.str i = V.str j) = dcd (T.str i = T.str j) := dcd_of ⟨fun h => by have := of_decide_eq_true h; injection this with h; rw [h], fun h => decide_eq_true (by injection h with h; rw [h])⟩
    rw [this]
    exact q
  | n + 2, ⟨i, v, e, hv⟩, ⟨j, w, f, hw⟩ =>
    subst e f
    obtain ⟨a, xs, rfl, ha, da⟩ := L2.Dp.of_tup dx
    obtain ⟨b, ys, rfl, hb, db⟩ := L2.Dp.of_tup dy
    refine .inr ⟨a, b, xs, ys, _, _, rfl, rfl, ha, hb, da, db, fun t ht => ?_, ?_⟩
    · rcases List.mem_cons.mp ht with rfl | ht
      · trivial
      · rw [List.mem_singleton.mp ht]
        rcases hv with rfl | ⟨y, rfl⟩ <;> trivial
    · rw [dcd_eq (q := T.tup [.str i, v] = T.tup [.str j, w]) ⟨fun h => by rw [h], fun h => by injection h⟩]
      exact q
def wordsL : List Str := ["cold", "hit", "miss", "wild"]
def tally (tal : List Int) (w : Str) : List Int := (wordsL.zip tal).map fun p => if p.1 = w then p.2 + 1 else p.2
section
variable {P : Program} {w : World} {K : PySem.W.Frag} {mg : Str → Option Value} {base : Heap} {t : Adr}
def spWhole : Sp := fun vs H Q _ => ∃ n : Int, vs = [.int n] ∧ Q (.bl true) H
theorem ok_whole (D : Defs K mg t) : FnOk P w K mg base CX0 1 t.is_whole.1 t.is_whole.2 ["thing"] spWhole := by
  refine D.is_whole.fn.ok sc_is_whole (fun vs H Q E h => ?_) (fun cdv A outer s H vs Q E hr h => ?_)
  · obtain ⟨n, rfl, _⟩ := h
    rfl
  · obtain ⟨n, rfl, k⟩ := h
    refine ⟨_, (pss_one (ps_ret (pe_and (pe_callB call_isinst (by rfl) D.b_isinstance bt_isinstance (pa_cons (pv 0) (pa_cons (pe_bltn (v := V.ty "int") rfl D.b_int bt_int rfl) pa_nil))) (pe_one (pe_not (pe_callB call_isinst (by rfl) D.b_isinstance bt_isinstance (pa_cons (pv 0) (pa_cons (pe_bltn (v := V.ty "bool") rfl D.b_bool bt_bool rfl) pa_nil)))))))), ?_⟩
    refine ⟨_, rfl, _, _, _, true, rfl, .int n, kit_same K "int", _, rfl, iteT ?_⟩
    exact ⟨_, rfl, _, _, _, false, rfl, .int n, kit_ib K, _, rfl, k⟩
def spTupOf : Sp := fun vs H Q _ => ∃ (q : Addr) (xs : List V) (n : Nat), vs = [.ref q, .int n] ∧ H q = some (.tup xs) ∧ xs.length = n ∧ Q (.bl true) H
theorem ok_tupOf (D : Defs K mg t) : FnOk P w K mg base CX0 1 t.is_tuple_of.1 t.is_tuple_of.2 ["thing", "many"] spTupOf := by
  refine D.is_tuple_of.fn.ok sc_is_tuple_of (fun vs H Q E h => ?_) (fun cdv A outer s H vs Q E hr h => ?_)
  · obtain ⟨q, xs, n, rfl, _⟩ := h
    rfl
  · obtain ⟨q, xs, n, rfl, hq, hn, k⟩ := h
    refine ⟨_, (pss_one (ps_ret (pe_and (pe_callB call_isinst (by rfl) D.b_isinstance bt_isinstance (pa_cons (pv 0) (pa_cons (pe_bltn (v := V.ty "tuple") rfl D.b_tuple bt_tuple rfl) pa_nil))) (pe_one (pe_cmpR op_eq (pe_callB call_len_seq (by rfl) D.b_len bt_len (pa_cons (pv 0) pa_nil)) (pv 1) (nomark _)))))), ?_⟩
    refine ⟨_, rfl, _, _, _, true, rfl, .tup hq, kit_same K "tuple", _, rfl, iteT ?_⟩
    refine ⟨_, rfl, q, _, rfl, .inr (SqT.of hq), _, rfl, rfl, ?_⟩
    rw [hn, decide_eq_true rfl]
    exact k
def spCheck : Sp := fun vs H Q _ => ∃ (v : V) (a b c d : Int), vs = [v] ∧ Dp H (wmT a b c d) v ∧ 0 ≤ a ∧ a ≤ 9 ∧ 1 ≤ b ∧ b ≤ 9 ∧ 1 ≤ c ∧ c ≤ 9 ∧ 0 ≤ d ∧ d ≤ 9 ∧ ∀ H', Same H H' → Q .non H'
theorem ok_check (D : Defs K mg t) (GL : Glb K mg t) : FnOk P w K mg base CX0 2 t.check_warming.1 t.check_warming.2 ["thing"] spCheck := by
  have G_is_whole : FnOk P w K mg base CX0 1 t.is_whole.1 t.is_whole.2 _ spWhole := ok_whole D
  have G_is_tuple_of : FnOk P w K mg base CX0 1 t.is_tuple_of.1 t.is_tuple_of.2 _ spTupOf := ok_tupOf D
  obtain ⟨tk, hMOST⟩ := GL.g_MOST
  have hz : sizeLine = 16777216 := sizeLine_eq
  refine D.check_warming.fn.ok sc_check_warming (fun vs H Q E h => ?_) (fun cdv A outer s H vs Q E hr h => ?_)
  · obtain ⟨v, a, b, c, d, rfl, _⟩ := h
    rfl
  · obtain ⟨v, a, b, c, d, rfl, dv, ha0, ha, hb0, hb, hc0, hc, hd0, hd, k⟩ := h
    obtain ⟨q, rfl, hq⟩ := K47.Dp.of_wm dv
    refine ⟨_, (pss_cons (ps_if (PW.pt (pw_or (pt_not (pt_val (pe_callF D.is_tuple_of G_is_tuple_of (hr.mono (by omega)) (by rfl) (pa_cons (pv 0) (pa_cons pe_int pa_nil))))) (pw_or1 (pt_not (pt_val (pe_callB (call_all rfl) (by rfl) D.b_all bt_all (pa_cons (pe_comp rfl (CompScope.of ["part"] [] ["part"] (defScope (top 10)) ["thing"] rfl rfl (by decide +kernel)) ⟨fun _ _ _ _ _ => (pg_name (i := 0) (show List.Nodup [("part" : Str)] by decide +kernel) rfl (Or.inl (lookup_relabel_local rfl)) (.inr (lookup_relabel_local rfl))), fun _ _ _ _ _ => pts_nil, fun _ _ _ _ _ => (pe_callF D.is_whole G_is_whole (hr.mono (by omega)) (by rfl) (pa_cons (pv 0) pa_nil))⟩ (pi_tup (pv 0))) pa_nil)))))))
      (pss_one ps_never)
      pss_nil)
      (pss_one (ps_if (pt_not (pt_val (pe_callB (call_all rfl) (by rfl) D.b_all bt_all (pa_cons (pe_comp rfl (CompScope.of ["least", "part"] [] ["least", "part"] (defScope (top 10)) ["thing"] rfl rfl (by decide +kernel)) ⟨fun _ _ _ _ _ => (pg_tup_K (K := K) (n := 2) rfl rfl (pgs_cons (pg_name (i := 0) (show List.Nodup [("least" : Str), ("part" : Str)] by decide +kernel) rfl (Or.inl (lookup_relabel_local rfl)) (.inr (lookup_relabel_local rfl))) (pgs_cons (pg_name (i := 1) (show List.Nodup [("least" : Str), ("part" : Str)] by decide +kernel) rfl (Or.inl (lookup_relabel_local rfl)) (.inr (lookup_relabel_local rfl))) pgs_nil))), fun _ _ _ _ _ => pts_nil, fun _ _ _ _ _ => (pe_chain op_le op_le (pv 0) (pv 1) (pe_glob (v := V.int 9) (by rfl) hMOST ⟨_, rfl⟩))⟩ (pi_zip2 rfl D.b_zip (pa_cons (pe_glob (v := V.ref t.cLEASTS) (by rfl) GL.g_LEASTS rfl) (pa_cons (pv 0) pa_nil)))) pa_nil))))
      (pss_one ps_never)
      pss_nil))), ?_⟩
    refine ⟨_, rfl, q, _, 4, rfl, hq, rfl, _, rfl, iteF ?_⟩
    refine ⟨_, rfl, q, rfl, ⟨_, SqT.of hq⟩, fun D1 hD1 => ?_⟩
    have s1 : ∀ u, Same H (upd H D1 u) := fun u => Same.new hD1
    have hint : ∀ i : Nat, i < 4 → ∃ n : Int, [V.int a, V.int b, V.int c, V.int d][i]? = some (.int n) := fun i hi => by
      rcases (by omega : i = 0 ∨ i = 1 ∨ i = 2 ∨ i = 3) with rfl | rfl | rfl | rfl <;> exact ⟨_, rfl⟩
    refine comp_by (n := 4) (fun i ys H2 => ys = (List.replicate i true).map V.bl ∧ H2 = upd H D1 (.lst ys)) ⟨rfl, rfl⟩ ?_ ?_
    rotate_left
    · rintro i ys H2 hi ⟨rfl, rfl⟩
      obtain ⟨n, en⟩ := hint i hi
      refine ⟨⟨_, _, SqT.of (s1 _ q _ hq), en⟩, ?_⟩
      rintro y H3 ⟨rfl, yy⟩ σo ho
      obtain ⟨oo, rfl⟩ := own1 ho
      have ey := yy _ (SqT.of (s1 _ q _ hq))
      rw [en] at ey
      cases ey
      refine ⟨⟨[_], rfl, rfl⟩, yes_by ⟨_, rfl, n, rfl, by rw [List.length_map, List.length_replicate]; omega, upd_same, less_by hi ⟨?_, by rw [upd_upd]⟩⟩⟩
      rw [List.replicate_succ', List.map_append]
      rfl
    rintro ys H2 ⟨rfl, rfl⟩
    refine ⟨⟨_, SqT.of (s1 _ q _ hq), Nat.le_refl _⟩, D1, List.replicate 4 true, rfl, SqL.of upd_same, _, rfl, iteF ?_⟩
    have s2 := s1 (.lst ((List.replicate 4 true).map V.bl))
    have hq2 := s2 q _ hq
    generalize upd H D1 (.lst ((List.replicate 4 true).map V.bl)) = H2 at s2 hq2
    refine ⟨_, rfl, _, _, _, _, rfl, GL.s_LEASTS H2, SqT.of hq2, fun D2 hD2 => ?_⟩
    have hle : ∀ i : Nat, i < 4 → ∃ m n : Int, [V.int 0, V.int 1, V.int 1, V.int 0][i]? = some (.int m) ∧ [V.int a, V.int b, V.int c, V.int d][i]? = some (.int n) ∧ m ≤ n ∧ n ≤ 9 := fun i hi => by
      rcases (by omega : i = 0 ∨ i = 1 ∨ i = 2 ∨ i = 3) with rfl | rfl | rfl | rfl
      · exact ⟨_, _, rfl, rfl, ha0, ha⟩
      · exact ⟨_, _, rfl, rfl, hb0, hb⟩
      · exact ⟨_, _, rfl, rfl, hc0, hc⟩
      · exact ⟨_, _, rfl, rfl, hd0, hd⟩
    refine comp_by (n := 4) (fun i ys H3 => ys = (List.replicate i true).map V.bl ∧ H3 D2 = some (.lst ys) ∧ Same H2 H3) ⟨rfl, upd_same, Same.new hD2⟩ ?_ ?_
    · rintro ys H3 ⟨rfl, hD3, s3⟩
      refine ⟨⟨_, _, GL.s_LEASTS H3, SqT.of (s3 q _ hq2), .inl (Nat.le_refl _)⟩, D2, List.replicate 4 true, rfl, SqL.of hD3, _, rfl, iteF ?_⟩
      exact k H3 (s2.trans s3)
    · rintro i ys H3 hi ⟨rfl, hD3, s3⟩
      obtain ⟨m, n, em, en, h1, h2⟩ := hle i hi
      refine ⟨⟨_, _, _, _, GL.s_LEASTS H3, SqT.of (s3 q _ hq2), em, en⟩, ?_⟩
      rintro y H4 ⟨pp, hpp, rfl, yy⟩ σo ho
      obtain ⟨o, o', rfl⟩ := own2 ho
      have e4 := yy _ _ _ _ (GL.s_LEASTS H3) (SqT.of (s3 q _ hq2)) em en
      subst e4
      have s4 : Same H3 (upd H3 pp (.tup [.int m, .int n])) := Same.new hpp
      refine ⟨pp, _, rfl, SqT.of upd_same, rfl, _, _, rfl, _, _, rfl, rfl, ⟨[_, _], rfl, rfl⟩, yes_by ?_⟩
      refine ⟨_, rfl, _, rfl, _, _, rfl, rfl, ?_⟩
      refine ⟨_, rfl, itePos (decide_eq_true h1) ⟨_, _, rfl, rfl, ?_⟩⟩
      have e2 : ((fun i j => V.bl (decide (i ≤ j))) n 9 : V) = V.bl true := by show V.bl (decide (n ≤ 9)) = _; rw [decide_eq_true h2]
      rw [e2]
      refine ⟨by rw [List.length_map, List.length_replicate]; omega, s4 D2 _ hD3, less_by hi ⟨by rw [List.replicate_succ', List.map_append]; rfl, upd_same, fun bb u e => ?_⟩⟩
      rw [upd_ne (ne_of_none e hD2)]
      exact s4 bb u (s3 bb u e)
end
end K47
end
section
set_option autoImplicit false
namespace K47
open PySem PyProof.Rows L2
theorem tally_take {tal : List Int} {w : Str} {i : Nat} (h : tal.length = 4) (hi : i < 4) : (tally tal w).take (i + 1) = (tally tal w).take i ++ [if wordsL[i]'hi = w then tal[i] + 1 else tal[i]] := by
  have hl : i < (tally tal w).length := by unfold tally; rw [List.length_map, List.length_zip, h]; exact hi
  have e : (tally tal w)[i] = if wordsL[i]'hi = w then tal[i] + 1 else tal[i] := by
    exact (List.getElem_map _ (l := wordsL.zip tal) (h := hl)).trans (by rw [List.getElem_zip]; rfl)
  rw [take_snoc hl, e]
def RecOk (n : Nat) (r : Rec) : Prop := WhoS n r.who
noncomputable def recFor (rs : List Rec) (who : T) (num : Int) : Option Rec := rs.find? fun r => dcd (r.who = who) && decide (r.num = num)
theorem DpL.rec {H : Hp} {rs : List Rec} {xs : List V} {i : Nat} (d : DpL H (rs.map recT) xs) (hi : i < rs.length) : ∃ a w n, xs[i]? = some (.ref a) ∧ H a = some (.tup [w, .int rs[i].num, n]) ∧ Dp H rs[i].who w ∧ Dp H rs[i].ans n := by
  obtain ⟨x, ex, dx⟩ := d.get (i := i) (t := recT rs[i]) (by rw [List.getElem?_map, List.getElem?_eq_getElem hi]; rfl)
  obtain ⟨a, w, n, rfl, h⟩ := K47.Dp.of_rec dx
  exact ⟨a, w, n, ex, h⟩
section
variable {P : Program} {w : World} {K : PySem.W.Frag} {mg : Str → Option Value} {base : Heap} {t : Adr}
def spTally : Sp := fun vs H Q _ => ∃ (v : V) (p : Pl) (x : Str), vs = [v, .str x] ∧ Dp H (plT p) v ∧ p.tal.length = 4 ∧ ∀ (q : Addr) H', H' q = some (.tup ((tally p.tal x).map V.int)) → Same H H' → Q (.ref q) H'
theorem ok_tally (D : Defs K mg t) (GL : Glb K mg t) : FnOk P w K mg base CX0 1 t.tally_with.1 t.tally_with.2 ["place", "word"] spTally := by
  have hz : sizeLine = 16777216 := sizeLine_eq
  refine D.tally_with.fn.ok sc_tally_with (fun vs H Q E h => ?_) (fun cdv A outer s H vs Q E hr h => ?_)
  · obtain ⟨v, p, x, rfl, _⟩ := h
    rfl
  · obtain ⟨v, p, x, rfl, dv, h4, k⟩ := h
    obtain ⟨a, r, l, xs, rfl, ha, hr', dr, hl⟩ := K47.Dp.of_pl dv
    refine ⟨_, (pss_one (ps_ret (pe_callTy call_tuple_of (by rfl) D.b_tuple bt_tuple (pa_cons (pe_comp rfl (CompScope.of ["name", "many"] [1] ["name", "many", "word"] (defScope (top 13)) ["place", "word"] rfl rfl (by decide +kernel)) ⟨fun _ _ _ _ _ => (pg_tup_K (K := K) (n := 2) rfl rfl (pgs_cons (pg_name (i := 0) (show List.Nodup [("name" : Str), ("many" : Str), ("word" : Str)] by decide +kernel) rfl (Or.inl (lookup_relabel_local rfl)) (.inr (lookup_relabel_local rfl))) (pgs_cons (pg_name (i := 1) (show List.Nodup [("name" : Str), ("many" : Str), ("word" : Str)] by decide +kernel) rfl (Or.inl (lookup_relabel_local rfl)) (.inr (lookup_relabel_local rfl))) pgs_nil))), fun _ _ _ _ _ => pts_nil, fun _ _ _ _ _ => (pe_ifExp (pt_cmpR op_eq (pv 0) (pv 2) (nomark _)) (pe_op op_add (pv 1) pe_int) (pv 1))⟩ (pi_zip2 rfl D.b_zip (pa_cons (pe_glob (v := V.ref t.cWORDS) (by rfl) GL.g_WORDS rfl) (pa_cons (pe_ix ix_tup (pv 0) pe_int (fun _ _ => rfl)) pa_nil)))) pa_nil)))), ?_⟩
    refine ⟨_, rfl, a, _, _, _, rfl, rfl, SqT.of ha, atI_nat (j := 3) rfl, _, _, _, _, rfl, GL.s_WORDS H, SqT.of hl, fun D2 hD2 => ?_⟩
    refine comp_by (n := 4) (fun i ys H3 => ys = ((tally p.tal x).take i).map V.int ∧ H3 D2 = some (.lst ys) ∧ Same H H3) ⟨rfl, upd_same, Same.new hD2⟩ ?_ ?_
    · rintro ys H3 ⟨rfl, hD3, s3⟩
      have e4 : (tally p.tal x).take 4 = tally p.tal x := List.take_of_length_le (by unfold tally; rw [List.length_map, List.length_zip, h4]; exact Nat.le_refl _)
      rw [e4] at hD3
      refine ⟨⟨_, _, GL.s_WORDS H3, SqT.of (s3 l _ hl), .inl (Nat.le_refl _)⟩, D2, _, rfl, .inl ⟨SqL.of hD3, fun q hq => ?_⟩⟩
      exact k q _ upd_same (s3.trans (Same.new hq))
    · rintro i ys H3 hi ⟨rfl, hD3, s3⟩
      have hit : i < p.tal.length := by omega
      have em : [V.str "cold", V.str "hit", V.str "miss", V.str "wild"][i]? = some (.str (wordsL[i]'hi)) := by
        show (wordsL.map V.str)[i]? = _
        rw [List.getElem?_map, List.getElem?_eq_getElem (show i < wordsL.length from hi)]
        rfl
      have en : (p.tal.map V.int)[i]? = some (.int p.tal[i]) := by rw [List.getElem?_map, List.getElem?_eq_getElem hit]; rfl
      refine ⟨⟨_, _, _, _, GL.s_WORDS H3, SqT.of (s3 l _ hl), em, en⟩, ?_⟩
      rintro y H4 ⟨pp, hpp, rfl, yy⟩ σo ho
      obtain ⟨o, o', rfl⟩ := own2 ho
      have e4 := yy _ _ _ _ (GL.s_WORDS H3) (SqT.of (s3 l _ hl)) em en
      subst e4
      have s4 : Same H3 (upd H3 pp (.tup [.str (wordsL[i]'hi), .int p.tal[i]])) := Same.new hpp
      have hlen : (((tally p.tal x).take i).map V.int).length < sizeLine := by rw [List.length_map, List.length_take]; omega
      have key : ∀ z : Int, (if wordsL[i]'hi = x then p.tal[i] + 1 else p.tal[i]) = z → (((tally p.tal x).take i).map V.int) ++ [V.int z] = ((tally p.tal x).take (i + 1)).map V.int := fun z e => by
        rw [tally_take h4 hi, List.map_append, e]
        rfl
      refine ⟨pp, _, rfl, SqT.of upd_same, rfl, _, _, rfl, _, _, rfl, rfl, ⟨[_, _], rfl, rfl⟩, yes_by ?_⟩
      refine ⟨_, rfl, _, rfl, rfl, _, rfl, ite2 (fun hb => ?_) (fun hb => ?_)⟩
      · have hb : wordsL[i]'hi = x := by
          have := of_decide_eq_true hb
          injection this
        refine ⟨_, rfl, _, _, rfl, rfl, hlen, s4 D2 _ hD3, less_by hi ⟨key _ (if_pos hb), upd_same, fun bb u e => ?_⟩⟩
        rw [upd_ne (ne_of_none e hD2)]
        exact s4 bb u (s3 bb u e)
      · have hb : ¬ wordsL[i]'hi = x := fun e => hb (decide_eq_true (by rw [e]))
        refine ⟨_, rfl, hlen, s4 D2 _ hD3, less_by hi ⟨key _ (if_neg hb), upd_same, fun bb u e => ?_⟩⟩
        rw [upd_ne (ne_of_none e hD2)]
        exact s4 bb u (s3 bb u e)
def spRecFor (n : Nat) : Sp := fun vs H Q _ => ∃ (v vw : V) (p : Pl) (who : T) (num : Int), vs = [v, vw, .int num] ∧ Dp H (plT p) v ∧ Dp H who vw ∧ WhoS n who ∧ (∀ r ∈ p.recs, RecOk n r) ∧
  ((recFor p.recs who num = none → Q .non H) ∧ ∀ r u, recFor p.recs who num = some r → Dp H (recT r) u → Q u H)
theorem ok_recFor (D : Defs K mg t) (n : Nat) : FnOk P w K mg base CX0 1 t.record_for.1 t.record_for.2 ["place", "who", "number"] (spRecFor n) := by
  refine D.record_for.fn.ok sc_record_for (fun vs H Q E h => ?_) (fun cdv A outer s H vs Q E hr h => ?_)
  · obtain ⟨v, vw, p, who, num, rfl, _⟩ := h
    rfl
  · obtain ⟨v, vw, p, who, num, rfl, dv, dw, hw, hrec, kn, ks⟩ := h
    obtain ⟨a, r, l, xs, rfl, ha, hr', dr, hl⟩ := K47.Dp.of_pl dv
    have hxl : xs.length = p.recs.length := by have := dr.length; rwa [List.length_map] at this
    refine ⟨_, (pss_cons (ps_for PassesOwn.never rfl (pi_tup (pe_ix ix_tup (pv 0) pe_int (fun _ _ => rfl))) (pg_name (i := 3) sc_record_for.nd rfl (Or.inl rfl))
      (pss_one (ps_if (PW.pt (pw_and (pt_cmpR (op_eq.or (op_eqT (hu10 hr))) (pe_ix ix_tup (pv 3) pe_int (fun _ _ => rfl)) (pv 1) (nomark _)) (pw_and1 (pt_cmpR op_eq (pe_ix ix_tup (pv 3) pe_int (fun _ _ => rfl)) (pv 2) (nomark _)))))
      (pss_one (ps_ret (pv 3)))
      pss_nil)))
      (pss_one (ps_ret pe_non))), ?_⟩
    refine ⟨_, rfl, a, _, _, _, rfl, rfl, SqT.of ha, atI_nat (j := 2) rfl, r, rfl, ⟨_, SqT.of hr'⟩, ?_⟩
    refine for_tup (K := K) (a := r) (xs := xs) (fun i σ H2 => ∃ (v3 : Option V), σ = [some (.ref a), some vw, some (.int num), v3] ∧ H2 = H ∧ recFor p.recs who num = recFor (p.recs.drop i) who num)
      ⟨_, rfl, rfl, rfl⟩ (fun i σ H2 _ ⟨_, _, e, _⟩ => by rw [e]; exact SqT.of hr') ?_ ?_
    · rintro i x σ H2 hi ⟨v3, rfl, rfl, hf⟩
      have hir : i < p.recs.length := by
        have := (List.getElem?_eq_some_iff.mp hi).1
        omega
      obtain ⟨b, wv, nv, ex, hb, d1, d2⟩ := K47.DpL.rec dr hir
      rw [hi] at ex
      cases ex
      have dx : Dp H2 (recT p.recs[i]) (.ref b) := L2.Dp.tup hb (.cons d1 (.cons (L2.Dp.int _) (.cons d2 .nil)))
      rw [List.drop_eq_getElem_cons hir] at hf
      unfold recFor at hf
      rw [List.find?_cons] at hf
      refine ⟨_, rfl, b, _, _, _, rfl, rfl, SqT.of hb, atI_nat (j := 0) rfl, _, rfl, who_eq (hrec _ (List.getElem_mem hir)) hw d1 dw ⟨_, rfl, ?_⟩⟩
      by_cases e1 : p.recs[i].who = who
      · rw [dcd_t e1] at hf ⊢
        refine iteT ⟨_, rfl, b, _, _, _, rfl, rfl, SqT.of hb, atI_nat (j := 1) rfl, _, rfl, rfl, _, rfl, ite2 (fun hc => ?_) (fun hc => ?_)⟩
        · have hc : p.recs[i].num = num := by
            have := of_decide_eq_true hc
            injection this
          rw [decide_eq_true hc] at hf
          exact ⟨_, rfl, ks _ _ hf dx⟩
        · have hc : ¬ p.recs[i].num = num := fun e => hc (decide_eq_true (by rw [e]))
          rw [decide_eq_false hc] at hf
          exact ⟨_, rfl, rfl, hf⟩
      · rw [dcd_f e1] at hf ⊢
        exact iteF ⟨_, rfl, rfl, hf⟩
    · rintro σ H2 ⟨v3, rfl, rfl, hf⟩
      rw [List.drop_of_length_le (by omega)] at hf
      exact kn hf
end
end K47
end
section
set_option autoImplicit false
namespace K47
open PySem PyProof.Rows L2
noncomputable def coldF (w0 : Int) (p : Pl) (q : Rec) : Pl := if w0 < p.cnt + 1 ∧ dcd (q.ans = .non) = false then ⟨"warm", 0, [q], tally p.tal "cold"⟩ else ⟨"cold", p.cnt + 1, [], tally p.tal "cold"⟩
def wildF (w2 : Int) (p : Pl) : Pl := if w2 ≤ p.cnt + 1 then ⟨"cold", 0, [], tally p.tal "wild"⟩ else ⟨"wild", p.cnt + 1, [], tally p.tal "wild"⟩
noncomputable def swapR (q r : Rec) : Rec := if dcd (r.who = q.who) = true then q else r
noncomputable def warmF (w1 : Int) (p : Pl) (q : Rec) : Pl :=
  if dcd (q.ans = .non) = true then ⟨"warm", 0, p.recs, tally p.tal "miss"⟩
  else if dcd (q.who ∈ p.recs.map (·.who)) = true then ⟨"warm", 0, p.recs.map (swapR q), tally p.tal "miss"⟩
  else if (p.recs.length : Int) < w1 then ⟨"warm", 0, p.recs ++ [q], tally p.tal "miss"⟩
  else ⟨"wild", 0, [], tally p.tal "miss"⟩
noncomputable def lookedF (w1 : Int) (p : Pl) (q : Rec) : Option Rec → Pl × Str × T
  | some r => (⟨p.st, p.cnt, p.recs, tally p.tal "hit"⟩, "hit", r.ans)
  | none => (warmF w1 p q, "miss", q.ans)
noncomputable def askedF (w0 w1 w2 : Int) (p : Pl) (q : Rec) : Pl × Str × T :=
  if p.st = "cold" then (coldF w0 p q, "cold", q.ans)
  else if p.st = "wild" then (wildF w2 p, "wild", q.ans)
  else lookedF w1 p q (recFor p.recs q.who q.num)
def resT (r : Pl × Str × T) : T := .tup [plT r.1, .str r.2.1, r.2.2]
theorem Dp.non_iff {H : Hp} {t : T} {v : V} (d : Dp H t v) : decide (v = .non) = dcd (t = .non) := by
  refine dcd_of ⟨fun h => ?_, fun h => ?_⟩
  · have h := of_decide_eq_true h
    subst h
    cases t with
    | non => rfl
    | int i => have := d.of_int; cases this
    | str i => have := d.of_str; cases this
    | tup ts => obtain ⟨_, _, e, _⟩ := L2.Dp.of_tup d; cases e
  · subst h
    rw [Dp] at d
    exact decide_eq_true d
theorem Dp.rec {H : Hp} {q : Rec} {a : Addr} {x z : V} (ha : H a = some (.tup [x, .int q.num, z])) (d1 : Dp H q.who x) (d2 : Dp H q.ans z) : Dp H (recT q) (.ref a) := L2.Dp.tup ha (.cons d1 (.cons (L2.Dp.int _) (.cons d2 .nil)))
section
variable {P : Program} {w : World} {K : PySem.W.Frag} {mg : Str → Option Value} {base : Heap} {t : Adr}
def spCold : Sp := fun vs H Q _ => ∃ (vw v vr : V) (a b c d : Int) (p : Pl) (q : Rec), vs = [vw, v, vr] ∧ Dp H (wmT a b c d) vw ∧ Dp H (plT p) v ∧ Dp H (recT q) vr ∧ p.tal.length = 4 ∧ ∀ (u : V) H', Dp H' (plT (coldF a p q)) u → Same H H' → Q u H'
theorem ok_cold (D : Defs K mg t) (GL : Glb K mg t) : FnOk P w K mg base CX0 2 t.cold_behind.1 t.cold_behind.2 ["warming", "place", "record"] spCold := by
  have G_tally_with : FnOk P w K mg base CX0 1 t.tally_with.1 t.tally_with.2 _ spTally := ok_tally D GL
  have hz : sizeLine = 16777216 := sizeLine_eq
  refine D.cold_behind.fn.ok sc_cold_behind (fun vs H Q E h => ?_) (fun cdv A outer s H vs Q E hr h => ?_)
  · obtain ⟨vw, v, vr, a, b, c, d, p, q, rfl, _⟩ := h
    rfl
  · obtain ⟨vw, v, vr, a, b, c, d, p, q, rfl, dw, dv, dr, h4, k⟩ := h
    obtain ⟨wa, rfl, hwa⟩ := K47.Dp.of_wm dw
    obtain ⟨pa, r, l, xs, rfl, hpa, hr', drs, hl⟩ := K47.Dp.of_pl dv
    obtain ⟨ra, rw', rn, rfl, hra, d1, d2⟩ := K47.Dp.of_rec dr
    refine ⟨_, (pss_cons (ps_set (i := 3) sc_cold_behind.nd rfl (Or.inl rfl) (pe_op op_add (pe_ix ix_tup (pv 1) pe_int (fun _ _ => rfl)) pe_int))
      (pss_cons (ps_set (i := 4) sc_cold_behind.nd rfl (Or.inl rfl) (pe_callF D.tally_with G_tally_with (hr.mono (by omega)) (by rfl) (pa_cons (pv 1) (pa_cons pe_str pa_nil))))
      (pss_cons (ps_if (PW.pt (pw_and (pt_cmpR op_gt (pv 3) (pe_ix ix_tup (pv 0) pe_int (fun _ _ => rfl)) (nomark _)) (pw_and1 (pt_cmpR op_notN (pe_ix ix_tup (pv 2) pe_int (fun _ _ => rfl)) pe_non (nomark _)))))
      (pss_one (ps_ret (pe_tup (pa_cons pe_str (pa_cons pe_int (pa_cons (pe_tup (pa_cons (pv 2) pa_nil)) (pa_cons (pv 4) pa_nil)))))))
      pss_nil)
      (pss_one (ps_ret (pe_tup (pa_cons pe_str (pa_cons (pv 3) (pa_cons (pe_tup pa_nil) (pa_cons (pv 4) pa_nil)))))))))), ?_⟩
    refine ⟨_, rfl, pa, _, _, _, rfl, rfl, SqT.of hpa, atI_nat (j := 1) rfl, _, _, rfl, rfl, ?_⟩
    refine ⟨_, rfl, .ref pa, p, "cold", rfl, dv, h4, fun ta H1 hta s1 => ?_⟩
    have no : (¬ (a < p.cnt + 1 ∧ dcd (q.ans = .non) = false)) → ∀ (H2 : Hp), Same H H2 → H2 ta = some (.tup ((tally p.tal "cold").map V.int)) → ∀ (e0 : Addr), H2 e0 = none → ∀ (r0 : Addr), (upd H2 e0 (.tup [])) r0 = none → Q (.ref r0) (upd (upd H2 e0 (.tup [])) r0 (.tup [.str "cold", .int (p.cnt + 1), .ref e0, .ref ta])) := fun hn H2 s2 ht2 e0 he0 r0 hr0 => by
      refine k _ _ ?_ (s2.trans ((Same.new he0).trans (Same.new hr0)))
      unfold coldF
      rw [if_neg hn]
      refine K47.Dp.pl (r := e0) (l := ta) (xs := []) upd_same ?_ .nil ?_
      · rw [upd_ne (ne_of_none upd_same hr0), upd_same]
      · exact ((Same.new he0).trans (Same.new hr0)) ta _ ht2
    refine ⟨_, rfl, _, rfl, wa, _, _, _, rfl, rfl, SqT.of (s1 wa _ hwa), atI_nat (j := 0) rfl, _, _, rfl, rfl, _, rfl, ite2 (fun hb => ?_) (fun hb => ?_)⟩
    · have hb : a < p.cnt + 1 := of_decide_eq_true hb
      refine ⟨_, rfl, ra, _, _, _, rfl, rfl, SqT.of (s1 ra _ hra), atI_nat (j := 2) rfl, rfl, _, rfl, ?_⟩
      rw [K47.Dp.non_iff d2]
      by_cases hn : q.ans = .non
      · rw [dcd_t hn]
        refine iteF ⟨_, rfl, Nat.zero_le _, fun e0 he0 => ⟨_, rfl, by show 4 ≤ sizeLine; decide, fun r0 hr0 => ?_⟩⟩
        exact no (fun z => by have := z.2; rw [dcd_t hn] at this; cases this) H1 s1 hta e0 he0 r0 hr0
      · rw [dcd_f hn]
        refine iteT ⟨_, rfl, by show 1 ≤ sizeLine; decide, fun e0 he0 => ⟨_, rfl, by show 4 ≤ sizeLine; decide, fun r0 hr0 => ?_⟩⟩
        have s2 := s1.trans ((Same.new (o := .tup [.ref ra]) he0).trans (Same.new (o := .tup [.str "warm", .int 0, .ref e0, .ref ta]) hr0))
        refine k _ _ ?_ s2
        unfold coldF
        rw [if_pos ⟨hb, dcd_f hn⟩]
        refine K47.Dp.pl (r := e0) (l := ta) (xs := [.ref ra]) upd_same ?_ (.cons (dr.mono (Same.tups s2)) .nil) ?_
        · rw [upd_ne (ne_of_none upd_same hr0), upd_same]
        · exact ((Same.new he0).trans (Same.new hr0)) ta _ hta
    · have hb : ¬ a < p.cnt + 1 := fun h => hb (decide_eq_true h)
      refine ⟨_, rfl, Nat.zero_le _, fun e0 he0 => ⟨_, rfl, by show 4 ≤ sizeLine; decide, fun r0 hr0 => ?_⟩⟩
      exact no (fun z => hb z.1) H1 s1 hta e0 he0 r0 hr0
def spWild : Sp := fun vs H Q _ => ∃ (vw v : V) (a b c d : Int) (p : Pl), vs = [vw, v] ∧ Dp H (wmT a b c d) vw ∧ Dp H (plT p) v ∧ p.tal.length = 4 ∧ ∀ (u : V) H', Dp H' (plT (wildF c p)) u → Same H H' → Q u H'
theorem ok_wild (D : Defs K mg t) (GL : Glb K mg t) : FnOk P w K mg base CX0 2 t.wild_behind.1 t.wild_behind.2 ["warming", "place"] spWild := by
  have G_tally_with : FnOk P w K mg base CX0 1 t.tally_with.1 t.tally_with.2 _ spTally := ok_tally D GL
  have hz : sizeLine = 16777216 := sizeLine_eq
  refine D.wild_behind.fn.ok sc_wild_behind (fun vs H Q E h => ?_) (fun cdv A outer s H vs Q E hr h => ?_)
  · obtain ⟨vw, v, a, b, c, d, p, rfl, _⟩ := h
    rfl
  · obtain ⟨vw, v, a, b, c, d, p, rfl, dw, dv, h4, k⟩ := h
    obtain ⟨wa, rfl, hwa⟩ := K47.Dp.of_wm dw
    obtain ⟨pa, r, l, xs, rfl, hpa, hr', drs, hl⟩ := K47.Dp.of_pl dv
    refine ⟨_, (pss_cons (ps_set (i := 2) sc_wild_behind.nd rfl (Or.inl rfl) (pe_op op_add (pe_ix ix_tup (pv 1) pe_int (fun _ _ => rfl)) pe_int))
      (pss_cons (ps_set (i := 3) sc_wild_behind.nd rfl (Or.inl rfl) (pe_callF D.tally_with G_tally_with (hr.mono (by omega)) (by rfl) (pa_cons (pv 1) (pa_cons pe_str pa_nil))))
      (pss_cons (ps_if (pt_cmpR op_ge (pv 2) (pe_ix ix_tup (pv 0) pe_int (fun _ _ => rfl)) (nomark _))
      (pss_one (ps_ret (pe_tup (pa_cons pe_str (pa_cons pe_int (pa_cons (pe_tup pa_nil) (pa_cons (pv 3) pa_nil)))))))
      pss_nil)
      (pss_one (ps_ret (pe_tup (pa_cons pe_str (pa_cons (pv 2) (pa_cons (pe_tup pa_nil) (pa_cons (pv 3) pa_nil)))))))))), ?_⟩
    refine ⟨_, rfl, pa, _, _, _, rfl, rfl, SqT.of hpa, atI_nat (j := 1) rfl, _, _, rfl, rfl, ?_⟩
    refine ⟨_, rfl, .ref pa, p, "wild", rfl, dv, h4, fun ta H1 hta s1 => ?_⟩
    refine ⟨_, rfl, _, rfl, wa, _, _, _, rfl, rfl, SqT.of (s1 wa _ hwa), atI_nat (j := 2) rfl, _, _, rfl, rfl, _, rfl, ite2 (fun hb => ?_) (fun hb => ?_)⟩
    · have hb : c ≤ p.cnt + 1 := of_decide_eq_true hb
      refine ⟨Nat.zero_le _, fun e0 he0 => ⟨_, rfl, by show 4 ≤ sizeLine; decide, fun r0 hr0 => ?_⟩⟩
      refine k _ _ ?_ (s1.trans ((Same.new he0).trans (Same.new hr0)))
      unfold wildF
      rw [if_pos hb]
      refine K47.Dp.pl (r := e0) (l := ta) (xs := []) upd_same ?_ .nil ?_
      · rw [upd_ne (ne_of_none upd_same hr0), upd_same]
      · exact ((Same.new he0).trans (Same.new hr0)) ta _ hta
    · have hb : ¬ c ≤ p.cnt + 1 := fun h => hb (decide_eq_true h)
      refine ⟨_, rfl, Nat.zero_le _, fun e0 he0 => ⟨_, rfl, by show 4 ≤ sizeLine; decide, fun r0 hr0 => ?_⟩⟩
      refine k _ _ ?_ (s1.trans ((Same.new he0).trans (Same.new hr0)))
      unfold wildF
      rw [if_neg hb]
      refine K47.Dp.pl (r := e0) (l := ta) (xs := []) upd_same ?_ .nil ?_
      · rw [upd_ne (ne_of_none upd_same hr0), upd_same]
      · exact ((Same.new he0).trans (Same.new hr0)) ta _ hta
end
end K47
end
section
set_option autoImplicit false
namespace K47
open PySem PyProof.Rows L2
theorem DpL.whos {H : Hp} : ∀ {rs : List Rec} {ws : List V}, (∀ i (h : i < rs.length), ∃ x, ws[i]? = some x ∧ Dp H rs[i].who x) → ws.length = rs.length → DpL H (rs.map (·.who)) ws
  | [], ws, _, hl => by
    cases ws with
    | nil => exact .nil
    | cons _ _ => cases hl
  | r :: rs, ws, h, hl => by
    cases ws with
    | nil => cases hl
    | cons x ws =>
      obtain ⟨y, e, d⟩ := h 0 (Nat.succ_pos _)
      have e : x = y := by simpa using e
      subst e
      refine .cons d (K47.DpL.whos (fun i hi => ?_) (by simpa using hl))
      obtain ⟨y, e, d⟩ := h (i + 1) (Nat.succ_lt_succ hi)
      exact ⟨y, by simpa using e, by simpa using d⟩
section
variable {P : Program} {w : World} {K : PySem.W.Frag} {mg : Str → Option Value} {base : Heap} {t : Adr}
def spWarm (n : Nat) : Sp := fun vs H Q _ => ∃ (vw v vr : V) (a b c d : Int) (p : Pl) (q : Rec), vs = [vw, v, vr] ∧ Dp H (wmT a b c d) vw ∧ Dp H (plT p) v ∧ Dp H (recT q) vr ∧ p.tal.length = 4 ∧ p.recs.length ≤ 100 ∧ WhoS n q.who ∧ (∀ r ∈ p.recs, RecOk n r) ∧ ∀ (u : V) H', Dp H' (plT (warmF b p q)) u → Same H H' → Q u H'
theorem ok_warm (D : Defs K mg t) (GL : Glb K mg t) (n : Nat) : FnOk P w K mg base CX0 2 t.warm_behind.1 t.warm_behind.2 ["warming", "place", "record"] (spWarm n) := by
  have G_tally_with : FnOk P w K mg base CX0 1 t.tally_with.1 t.tally_with.2 _ spTally := ok_tally D GL
  have hz : sizeLine = 16777216 := sizeLine_eq
  refine D.warm_behind.fn.ok sc_warm_behind (fun vs H Q E h => ?_) (fun cdv A outer s H vs Q E hr h => ?_)
  · obtain ⟨vw, v, vr, a, b, c, d, p, q, rfl, _⟩ := h
    rfl
  · obtain ⟨vw, v, vr, a, b, c, d, p, q, rfl, dw, dv, dr, h4, h100, hq, hrec, k⟩ := h
    obtain ⟨wa, rfl, hwa⟩ := K47.Dp.of_wm dw
    obtain ⟨pa, r, l, xs, rfl, hpa, hr', drs, hl⟩ := K47.Dp.of_pl dv
    obtain ⟨ra, rwv, rn, rfl, hra, d1, d2⟩ := K47.Dp.of_rec dr
    have hxl : xs.length = p.recs.length := by have := drs.length; rwa [List.length_map] at this
    refine ⟨_, (pss_cons (ps_set (i := 3) sc_warm_behind.nd rfl (Or.inl rfl) (pe_callF D.tally_with G_tally_with (hr.mono (by omega)) (by rfl) (pa_cons (pv 1) (pa_cons pe_str pa_nil))))
      (pss_cons (ps_set (i := 4) sc_warm_behind.nd rfl (Or.inl rfl) (pe_ix ix_tup (pv 1) pe_int (fun _ _ => rfl)))
      (pss_cons (ps_if (pt_cmpR op_isN (pe_ix ix_tup (pv 2) pe_int (fun _ _ => rfl)) pe_non (nomark _))
      (pss_one (ps_ret (pe_tup (pa_cons pe_str (pa_cons pe_int (pa_cons (pv 4) (pa_cons (pv 3) pa_nil)))))))
      pss_nil)
      (pss_cons (ps_if (pt_cmpR (op_inT (hu10 hr)) (pe_ix ix_tup (pv 2) pe_int (fun _ _ => rfl)) (pe_comp rfl (CompScope.of ["each"] [] ["each"] (defScope (top 16)) ["warming", "place", "record", "tally", "records"] rfl rfl (by decide +kernel)) ⟨fun _ _ _ _ _ => (pg_name (i := 0) (show List.Nodup [("each" : Str)] by decide +kernel) rfl (Or.inl (lookup_relabel_local rfl)) (.inr (lookup_relabel_local rfl))), fun _ _ _ _ _ => pts_nil, fun _ _ _ _ _ => (pe_ix (ix_tup_K (K := K) rfl) (pv 0) pe_int (fun _ _ => rfl))⟩ (pi_tup (pv 4))) (by with_unfolding_all rfl))
      (pss_one (ps_ret (pe_tup (pa_cons pe_str (pa_cons pe_int (pa_cons (pe_callTy call_tuple_of (by rfl) D.b_tuple bt_tuple (pa_cons (pe_comp rfl (CompScope.of ["each"] [2] ["each", "record"] (defScope (top 16)) ["warming", "place", "record", "tally", "records"] rfl rfl (by decide +kernel)) ⟨fun _ _ _ _ _ => (pg_name (i := 0) (show List.Nodup [("each" : Str), ("record" : Str)] by decide +kernel) rfl (Or.inl (lookup_relabel_local rfl)) (.inr (lookup_relabel_local rfl))), fun _ _ _ _ _ => pts_nil, fun _ _ _ _ _ => (pe_ifExp (pt_cmpR (op_eq.or (op_eqT (hu10 hr))) (pe_ix (ix_tup_K (K := K) rfl) (pv 0) pe_int (fun _ _ => rfl)) (pe_ix (ix_tup_K (K := K) rfl) (pv 1) pe_int (fun _ _ => rfl)) (nomark _)) (pv 1) (pv 0))⟩ (pi_tup (pv 4))) pa_nil)) (pa_cons (pv 3) pa_nil)))))))
      pss_nil)
      (pss_cons (ps_if (pt_cmpR op_lt (pe_callB call_len_seq (by rfl) D.b_len bt_len (pa_cons (pv 4) pa_nil)) (pe_ix ix_tup (pv 0) pe_int (fun _ _ => rfl)) (nomark _))
      (pss_one (ps_ret (pe_tup (pa_cons pe_str (pa_cons pe_int (pa_cons (pe_op op_catN (pv 4) (pe_tup (pa_cons (pv 2) pa_nil))) (pa_cons (pv 3) pa_nil)))))))
      pss_nil)
      (pss_one (ps_ret (pe_tup (pa_cons pe_str (pa_cons pe_int (pa_cons (pe_tup pa_nil) (pa_cons (pv 3) pa_nil)))))))))))), ?_⟩
    refine ⟨_, rfl, .ref pa, p, "miss", rfl, dv, h4, fun ta H1 hta s1 => ?_⟩
    refine ⟨_, rfl, pa, _, _, _, rfl, rfl, SqT.of (s1 pa _ hpa), atI_nat (j := 2) rfl, ?_⟩
    refine ⟨_, rfl, ra, _, _, _, rfl, rfl, SqT.of (s1 ra _ hra), atI_nat (j := 2) rfl, rfl, _, rfl, ?_⟩
    rw [K47.Dp.non_iff d2]
    by_cases hn : q.ans = .non
    · rw [dcd_t hn]
      refine iteT ⟨_, rfl, _, rfl, by show 4 ≤ sizeLine; decide, fun r0 hr0 => ?_⟩
      have s2 := s1.trans (Same.new (o := .tup [.str "warm", .int 0, .ref r, .ref ta]) hr0)
      refine k _ _ ?_ s2
      unfold warmF
      rw [if_pos (dcd_t hn)]
      exact K47.Dp.pl (r := r) (l := ta) (xs := xs) upd_same (s2 r _ hr') (drs.mono (Same.tups s2)) ((Same.new hr0) ta _ hta)
    · rw [dcd_f hn]
      refine iteF ?_
      refine ⟨_, rfl, ra, _, _, _, rfl, rfl, SqT.of (s1 ra _ hra), atI_nat (j := 0) rfl, _, rfl, r, rfl, ⟨_, SqT.of (s1 r _ hr')⟩, fun D1 hD1 => ?_⟩
      have sd : ∀ u, Same H1 (upd H1 D1 u) := fun u => Same.new hD1
      refine comp_by (n := xs.length) (fun i ys H2 => ys.length = i ∧ (∀ j (h : j < p.recs.length), j < i → ∃ x, ys[j]? = some x ∧ Dp H p.recs[j].who x) ∧ H2 = upd H1 D1 (.lst ys)) ⟨rfl, fun j _ h => absurd h (Nat.not_lt_zero _), rfl⟩ ?_ ?_
      rotate_left
      · rintro i ys H2 hi ⟨hyl, hys, rfl⟩
        have hir : i < p.recs.length := by omega
        obtain ⟨ea, ew, en, ee, hea, de, _⟩ := K47.DpL.rec drs hir
        have srr := (s1.trans (sd (.lst ys)))
        refine ⟨⟨_, _, SqT.of (srr r _ hr'), ee⟩, ?_⟩
        rintro y H3 ⟨rfl, yy⟩ σo ho
        obtain ⟨oo, rfl⟩ := own1 ho
        have ey := yy _ (SqT.of (srr r _ hr'))
        rw [ee] at ey
        cases ey
        refine ⟨⟨[_], rfl, rfl⟩, yes_by ⟨_, rfl, ea, _, _, _, rfl, rfl, SqT.of (srr ea _ hea), atI_nat (j := 0) rfl, by omega, upd_same, less_by hi ⟨by rw [List.length_append, hyl]; rfl, fun j h1 h2 => ?_, by rw [upd_upd]⟩⟩⟩
        rcases Nat.lt_or_ge j i with h | h
        · obtain ⟨x, ex, dx⟩ := hys j h1 h
          exact ⟨x, by rw [List.getElem?_append_left (by omega)]; exact ex, dx⟩
        · have e : j = i := by omega
          subst e
          exact ⟨ew, by rw [List.getElem?_append_right (by omega), hyl, Nat.sub_self]; rfl, de⟩
      rintro ys H2 ⟨hyl, hys, rfl⟩
      have srr := (s1.trans (sd (.lst ys)))
      have dws : DpL H (p.recs.map (·.who)) ys := K47.DpL.whos (fun i h => hys i h (by omega)) (by omega)
      refine ⟨⟨_, SqT.of (srr r _ hr'), Nat.le_refl _⟩, D1, ys, q.who, p.recs.map (·.who), rfl, .inl upd_same, d1.mono (Same.tups srr), dws.mono (Same.tups srr), fun t ht => ?_, _, rfl, ?_⟩
      · obtain ⟨r', hr2, rfl⟩ := List.mem_map.mp ht
        exact who_lv (hrec r' hr2)
      have hta2 := sd (.lst ys) ta _ hta
      generalize upd H1 D1 (.lst ys) = H2 at srr hta2
      show if (if false = true then !dcd (q.who ∈ p.recs.map (·.who)) else dcd (q.who ∈ p.recs.map (·.who))) = true then _ else _
      rw [if_neg Bool.false_ne_true]
      by_cases hin : q.who ∈ p.recs.map (·.who)
      · rw [dcd_t hin]
        refine iteT ?_
        refine ⟨_, rfl, r, rfl, ⟨_, SqT.of (srr r _ hr')⟩, fun D2 hD2 => ?_⟩
        have se : ∀ u, Same H2 (upd H2 D2 u) := fun u => Same.new hD2
        refine comp_by (n := xs.length) (fun i zs H3 => DpL H (((p.recs.take i).map (swapR q)).map recT) zs ∧ H3 = upd H2 D2 (.lst zs)) ⟨.nil, rfl⟩ ?_ ?_
        · rintro zs H3 ⟨dz, rfl⟩
          rw [List.take_of_length_le (by omega)] at dz
          refine ⟨⟨_, SqT.of ((srr.trans (se _)) r _ hr'), Nat.le_refl _⟩, D2, _, rfl, .inl ⟨SqL.of upd_same, fun e0 he0 => ⟨_, rfl, by show 4 ≤ sizeLine; decide, fun r0 hr0 => ?_⟩⟩⟩
          have s4 := srr.trans ((se (.lst zs)).trans ((Same.new (o := .tup zs) he0).trans (Same.new (o := .tup [.str "warm", .int 0, .ref e0, .ref ta]) hr0)))
          refine k _ _ ?_ s4
          unfold warmF
          rw [if_neg (by rw [dcd_f hn]; exact Bool.false_ne_true), if_pos (dcd_t hin)]
          refine K47.Dp.pl (r := e0) (l := ta) (xs := zs) upd_same ?_ (dz.mono (Same.tups s4)) ?_
          · rw [upd_ne (ne_of_none upd_same hr0), upd_same]
          · exact ((se _).trans ((Same.new he0).trans (Same.new hr0))) ta _ hta2
        · rintro i zs H3 hi ⟨dz, rfl⟩
          have hir : i < p.recs.length := by omega
          obtain ⟨ea, ew, en, ee, hea, de, da⟩ := K47.DpL.rec drs hir
          have sr3 := srr.trans (se (.lst zs))
          refine ⟨⟨_, _, SqT.of (sr3 r _ hr'), ee⟩, ?_⟩
          rintro y H3 ⟨rfl, yy⟩ σo ho
          obtain ⟨oo, rfl⟩ := own1 ho
          have ey := yy _ (SqT.of (sr3 r _ hr'))
          rw [ee] at ey
          cases ey
          have hzl : zs.length = i := by
            have := dz.length
            rw [List.length_map, List.length_map, List.length_take] at this
            omega
          refine ⟨⟨[_], rfl, rfl⟩, yes_by ⟨_, rfl, ea, _, _, _, rfl, rfl, SqT.of (sr3 ea _ hea), atI_nat (j := 0) rfl, _, rfl, ra, _, _, _, rfl, rfl, SqT.of (sr3 ra _ hra), atI_nat (j := 0) rfl, who_eq (hrec _ (List.getElem_mem hir)) hq (de.mono (Same.tups sr3)) (d1.mono (Same.tups sr3)) ⟨_, rfl, ?_⟩⟩⟩
          by_cases e1 : p.recs[i].who = q.who
          · rw [dcd_t e1]
            refine iteT ⟨_, rfl, by omega, upd_same, less_by hi ⟨?_, by rw [upd_upd]⟩⟩
            rw [take_snoc hir, List.map_append, List.map_append]
            refine dz.append (.cons ?_ .nil)
            show Dp H (recT (swapR q p.recs[i])) _
            unfold swapR
            rw [if_pos (dcd_t e1)]
            exact dr
          · rw [dcd_f e1]
            refine iteF ⟨_, rfl, by omega, upd_same, less_by hi ⟨?_, by rw [upd_upd]⟩⟩
            rw [take_snoc hir, List.map_append, List.map_append]
            refine dz.append (.cons ?_ .nil)
            show Dp H (recT (swapR q p.recs[i])) _
            unfold swapR
            rw [if_neg (by rw [dcd_f e1]; exact Bool.false_ne_true)]
            exact K47.Dp.rec hea de da
      · rw [dcd_f hin]
        refine iteF ?_
        refine ⟨_, rfl, r, _, rfl, .inr (SqT.of (srr r _ hr')), _, rfl, wa, _, _, _, rfl, rfl, SqT.of (srr wa _ hwa), atI_nat (j := 1) rfl, _, _, rfl, rfl, _, rfl, ite2 (fun hb => ?_) (fun hb => ?_)⟩
        · have hb : (p.recs.length : Int) < b := by
            have := of_decide_eq_true hb
            rw [hxl] at this
            exact this
          refine ⟨_, rfl, _, rfl, by show 1 ≤ sizeLine; decide, fun e0 he0 => ⟨r, e0, xs, [.ref ra], rfl, rfl, (srr.trans (Same.new he0)) r _ hr', upd_same, by show xs.length + 1 ≤ sizeLine; omega, fun r1 H3 hr1 s3 => ?_⟩⟩
          have s4 := srr.trans ((Same.new he0).trans s3)
          refine ⟨_, rfl, by show 4 ≤ sizeLine; decide, fun r0 hr0 => ?_⟩
          have s5 := s4.trans (Same.new (o := .tup [.str "warm", .int 0, .ref r1, .ref ta]) hr0)
          refine k _ _ ?_ s5
          unfold warmF
          rw [if_neg (by rw [dcd_f hn]; exact Bool.false_ne_true), if_neg (by rw [dcd_f hin]; exact Bool.false_ne_true), if_pos hb]
          refine K47.Dp.pl (r := r1) (l := ta) (xs := xs ++ [.ref ra]) upd_same ((Same.new hr0) r1 _ hr1) ?_ ((Same.new hr0) ta _ (s3 ta _ ((Same.new he0) ta _ hta2)))
          show DpL _ ((p.recs ++ [q]).map recT) _
          rw [List.map_append]
          exact (drs.mono (Same.tups s5)).append (.cons (dr.mono (Same.tups s5)) .nil)
        · have hb : ¬ (p.recs.length : Int) < b := fun h => hb (decide_eq_true (by rw [hxl]; exact h))
          refine ⟨Nat.zero_le _, fun e0 he0 => ⟨_, rfl, by show 4 ≤ sizeLine; decide, fun r0 hr0 => ?_⟩⟩
          refine k _ _ ?_ (srr.trans ((Same.new he0).trans (Same.new hr0)))
          unfold warmF
          rw [if_neg (by rw [dcd_f hn]; exact Bool.false_ne_true), if_neg (by rw [dcd_f hin]; exact Bool.false_ne_true), if_neg hb]
          refine K47.Dp.pl (r := e0) (l := ta) (xs := []) upd_same ?_ .nil ?_
          · rw [upd_ne (ne_of_none upd_same hr0), upd_same]
          · exact ((Same.new he0).trans (Same.new hr0)) ta _ hta2
def spAsked (n : Nat) : Sp := fun vs H Q _ => ∃ (vw v vk va : V) (a b c d : Int) (p : Pl) (q : Rec), vs = [vw, v, vk, .int q.num, va] ∧ Dp H (wmT a b c d) vw ∧ 0 ≤ a ∧ a ≤ 9 ∧ 1 ≤ b ∧ b ≤ 9 ∧ 1 ≤ c ∧ c ≤ 9 ∧ 0 ≤ d ∧ d ≤ 9 ∧ Dp H (plT p) v ∧ Dp H q.who vk ∧ Dp H q.ans va ∧ p.tal.length = 4 ∧ p.recs.length ≤ 100 ∧ WhoS n q.who ∧ (∀ r ∈ p.recs, RecOk n r) ∧ ∀ (u : V) H', Dp H' (resT (askedF a b c p q)) u → Same H H' → Q u H'
theorem ok_asked (D : Defs K mg t) (GL : Glb K mg t) (n : Nat) : FnOk P w K mg base CX0 3 t.asked.1 t.asked.2 ["warming", "place", "who", "number", "answer"] (spAsked n) := by
  have G_check_warming : FnOk P w K mg base CX0 2 t.check_warming.1 t.check_warming.2 _ spCheck := ok_check D GL
  have G_cold_behind : FnOk P w K mg base CX0 2 t.cold_behind.1 t.cold_behind.2 _ spCold := ok_cold D GL
  have G_wild_behind : FnOk P w K mg base CX0 2 t.wild_behind.1 t.wild_behind.2 _ spWild := ok_wild D GL
  have G_warm_behind : FnOk P w K mg base CX0 2 t.warm_behind.1 t.warm_behind.2 _ (spWarm n) := ok_warm D GL n
  have G_record_for : FnOk P w K mg base CX0 1 t.record_for.1 t.record_for.2 _ (spRecFor n) := ok_recFor D n
  have G_tally_with : FnOk P w K mg base CX0 1 t.tally_with.1 t.tally_with.2 _ spTally := ok_tally D GL
  have hz : sizeLine = 16777216 := sizeLine_eq
  refine D.asked.fn.ok sc_asked (fun vs H Q E h => ?_) (fun cdv A outer s H vs Q E hr h => ?_)
  · obtain ⟨vw, v, vk, va, a, b, c, d, p, q, rfl, _⟩ := h
    rfl
  · obtain ⟨vw, v, vk, va, a, b, c, d, p, q, rfl, dw, ha0, ha, hb0, hb, hc0, hc, hd0, hd, dv, dk, da, h4, h100, hq, hrec, k⟩ := h
    refine ⟨_, (pss_cons (ps_expr (pe_callF D.check_warming G_check_warming (hr.mono (by omega)) (by rfl) (pa_cons (pv 0) pa_nil)))
      (pss_cons (ps_if (pt_cmpR op_eq (pe_ix ix_tup (pv 1) pe_int (fun _ _ => rfl)) pe_str (nomark _))
      (pss_one (ps_ret (pe_tup (pa_cons (pe_callF D.cold_behind G_cold_behind (hr.mono (by omega)) (by rfl) (pa_cons (pv 0) (pa_cons (pv 1) (pa_cons (pe_tup (pa_cons (pv 2) (pa_cons (pv 3) (pa_cons (pv 4) pa_nil)))) pa_nil)))) (pa_cons pe_str (pa_cons (pv 4) pa_nil))))))
      pss_nil)
      (pss_cons (ps_if (pt_cmpR op_eq (pe_ix ix_tup (pv 1) pe_int (fun _ _ => rfl)) pe_str (nomark _))
      (pss_one (ps_ret (pe_tup (pa_cons (pe_callF D.wild_behind G_wild_behind (hr.mono (by omega)) (by rfl) (pa_cons (pv 0) (pa_cons (pv 1) pa_nil))) (pa_cons pe_str (pa_cons (pv 4) pa_nil))))))
      pss_nil)
      (pss_cons (ps_set (i := 5) sc_asked.nd rfl (Or.inl rfl) (pe_callF D.record_for G_record_for (hr.mono (by omega)) (by rfl) (pa_cons (pv 1) (pa_cons (pv 2) (pa_cons (pv 3) pa_nil)))))
      (pss_cons (ps_if (pt_cmpR op_notN (pv 5) pe_non (nomark _))
      (pss_one (ps_ret (pe_tup (pa_cons (pe_op op_catW (pe_slice sl_tupW (pv 1) po_none (po_some pe_int)) (pe_tup (pa_cons (pe_callF D.tally_with G_tally_with (hr.mono (by omega)) (by rfl) (pa_cons (pv 1) (pa_cons pe_str pa_nil))) pa_nil))) (pa_cons pe_str (pa_cons (pe_ix ix_tup (pv 5) pe_int (fun _ _ => rfl)) pa_nil))))))
      pss_nil)
      (pss_one (ps_ret (pe_tup (pa_cons (pe_callF D.warm_behind G_warm_behind (hr.mono (by omega)) (by rfl) (pa_cons (pv 0) (pa_cons (pv 1) (pa_cons (pe_tup (pa_cons (pv 2) (pa_cons (pv 3) (pa_cons (pv 4) pa_nil)))) pa_nil)))) (pa_cons pe_str (pa_cons (pv 4) pa_nil))))))))))), ?_⟩
    refine ⟨_, rfl, vw, a, b, c, d, rfl, dw, ha0, ha, hb0, hb, hc0, hc, hd0, hd, fun H1 s1 => ?_⟩
    have dw1 := dw.mono (Same.tups s1)
    have dv1 := dv.mono (Same.tups s1)
    have dk1 := dk.mono (Same.tups s1)
    have da1 := da.mono (Same.tups s1)
    obtain ⟨pa, r, l, xs, rfl, hpa, hr', drs, hl⟩ := K47.Dp.of_pl dv1
    have hxl : xs.length = p.recs.length := by have := drs.length; rwa [List.length_map] at this
    have mkr : ∀ {H2 : Hp} {q2 : Addr}, Tups H1 H2 → H2 q2 = some (.tup [vk, .int q.num, va]) → Dp H2 (recT q) (.ref q2) := fun tu e => K47.Dp.rec e (dk1.mono tu) (da1.mono tu)
    refine ⟨_, rfl, pa, _, _, _, rfl, rfl, SqT.of hpa, atI_nat (j := 0) rfl, rfl, _, rfl, ite2 (fun hb => ?_) (fun hb => ?_)⟩
    · have hb : p.st = "cold" := by
        have := of_decide_eq_true hb
        injection this
      refine ⟨_, rfl, _, rfl, _, rfl, _, rfl, _, rfl, by show 3 ≤ sizeLine; decide, fun q2 hq2 => ?_⟩
      have s2 := Same.new (o := .tup [vk, .int q.num, va]) hq2
      refine ⟨vw, .ref pa, .ref q2, a, b, c, d, p, q, rfl, dw1.mono (Same.tups s2), dv1.mono (Same.tups s2), mkr (Same.tups s2) upd_same, h4, fun u H3 du s3 => ?_⟩
      refine ⟨_, rfl, by show 3 ≤ sizeLine; decide, fun q4 hq4 => ?_⟩
      have s14 := s2.trans (s3.trans (Same.new (o := .tup [u, .str "cold", va]) hq4))
      refine k _ _ ?_ (s1.trans s14)
      unfold askedF
      rw [if_pos hb]
      exact L2.Dp.tup upd_same (.cons (du.mono (Same.tups (Same.new hq4))) (.cons (L2.Dp.str _) (.cons (da1.mono (Same.tups s14)) .nil)))
    · have nb : ¬ p.st = "cold" := fun e => hb (decide_eq_true (by rw [e]))
      refine ⟨_, rfl, pa, _, _, _, rfl, rfl, SqT.of hpa, atI_nat (j := 0) rfl, rfl, _, rfl, ite2 (fun hb => ?_) (fun hb => ?_)⟩
      · have hb : p.st = "wild" := by
          have := of_decide_eq_true hb
          injection this
        refine ⟨_, rfl, _, rfl, vw, .ref pa, a, b, c, d, p, rfl, dw1, dv1, h4, fun u H3 du s3 => ?_⟩
        refine ⟨_, rfl, by show 3 ≤ sizeLine; decide, fun q4 hq4 => ?_⟩
        have s14 := s3.trans (Same.new (o := .tup [u, .str "wild", va]) hq4)
        refine k _ _ ?_ (s1.trans s14)
        unfold askedF
        rw [if_neg nb, if_pos hb]
        exact L2.Dp.tup upd_same (.cons (du.mono (Same.tups (Same.new hq4))) (.cons (L2.Dp.str _) (.cons (da1.mono (Same.tups s14)) .nil)))
      · have nw : ¬ p.st = "wild" := fun e => hb (decide_eq_true (by rw [e]))
        have ef : askedF a b c p q = lookedF b p q (recFor p.recs q.who q.num) := by
          unfold askedF
          rw [if_neg nb, if_neg nw]
        refine ⟨_, rfl, _, rfl, _, rfl, .ref pa, vk, p, q.who, q.num, rfl, dv1, dk1, hq, hrec, fun hf => ?_, fun rr u hf du => ?_⟩
        · rw [hf] at ef
          refine ⟨_, rfl, rfl, _, rfl, iteNeg (by simp) ?_⟩
          refine ⟨_, rfl, _, rfl, _, rfl, _, rfl, _, rfl, by show 3 ≤ sizeLine; decide, fun q2 hq2 => ?_⟩
          have s2 := Same.new (o := .tup [vk, .int q.num, va]) hq2
          refine ⟨vw, .ref pa, .ref q2, a, b, c, d, p, q, rfl, dw1.mono (Same.tups s2), dv1.mono (Same.tups s2), mkr (Same.tups s2) upd_same, h4, h100, hq, hrec, fun u H3 du s3 => ?_⟩
          refine ⟨_, rfl, by show 3 ≤ sizeLine; decide, fun q4 hq4 => ?_⟩
          have s14 := s2.trans (s3.trans (Same.new (o := .tup [u, .str "miss", va]) hq4))
          refine k _ _ ?_ (s1.trans s14)
          rw [ef]
          exact L2.Dp.tup upd_same (.cons (du.mono (Same.tups (Same.new hq4))) (.cons (L2.Dp.str _) (.cons (da1.mono (Same.tups s14)) .nil)))
        · rw [hf] at ef
          obtain ⟨ua, uw, un, rfl, hua, _, dun⟩ := K47.Dp.of_rec du
          refine ⟨_, rfl, rfl, _, rfl, itePos (by simp) ?_⟩
          refine ⟨_, rfl, _, rfl, pa, _, rfl, hpa, fun q5 H5 hq5 s5 => ?_⟩
          have hq5 : H5 q5 = some (.tup [.str p.st, .int p.cnt, .ref r]) := hq5
          refine ⟨_, rfl, .ref pa, p, "hit", rfl, dv1.mono (Same.tups s5), h4, fun ta H6 hta s6 => ⟨by show 1 ≤ sizeLine; decide, fun e0 he0 => ?_⟩⟩
          have s16 := s5.trans (s6.trans (Same.new (o := .tup [.ref ta]) he0))
          refine ⟨q5, e0, [.str p.st, .int p.cnt, .ref r], [.ref ta], rfl, rfl, (s6.trans (Same.new he0)) q5 _ hq5, upd_same, (fun z => nomatch z), by show 3 + 1 ≤ sizeLine; decide, fun q7 H7 hq7 s7 => ?_⟩
          have s17 := s16.trans s7
          refine ⟨_, rfl, ua, _, _, _, rfl, rfl, SqT.of (s17 ua _ hua), atI_nat (j := 2) rfl, by show 3 ≤ sizeLine; decide, fun q8 hq8 => ?_⟩
          have s78 := Same.new (o := .tup [.ref q7, .str "hit", un]) hq8
          have s18 := s17.trans s78
          refine k _ _ ?_ (s1.trans s18)
          rw [ef]
          refine L2.Dp.tup upd_same (.cons ?_ (.cons (L2.Dp.str _) (.cons (dun.mono (Same.tups s18)) .nil)))
          exact K47.Dp.pl (p := ⟨p.st, p.cnt, p.recs, tally p.tal "hit"⟩) (r := r) (l := ta) (xs := xs) (s78 q7 _ hq7) (s18 r _ hr') (drs.mono (Same.tups s18)) (((Same.new he0).trans (s7.trans s78)) ta _ hta)
end
end K47
end
section
set_option autoImplicit false
namespace L2
open PySem PySem.Spec PyProof.Rows
theorem vals_intP : ∀ {ns : List Int} {its : List Value}, Vals (ns.map V.int) its → ∃ ps : List (Int × Tok), its = ps.map (fun p => Value.int p.1 p.2) ∧ ps.map (·.1) = ns
  | [], its, h => by
    cases h
    exact ⟨[], rfl, rfl⟩
  | n :: ns, its, h => by
    cases h with
    | cons a r =>
      obtain ⟨t, rfl⟩ := a
      obtain ⟨ps, rfl, e⟩ := vals_intP r
      exact ⟨(n, t) :: ps, rfl, by rw [List.map_cons, e]⟩
section
variable {X : Cx}
theorem call_maxL (hc : X.calm = true) : CallR X (.builtin "max") (fun xs H Q => ∃ l ns, xs = [.ref l] ∧ H l = some (.lst (ns.map V.int)) ∧ ns ≠ [] ∧ ∀ M, M ∈ ns → (∀ a ∈ ns, a ≤ M) → Q (.int M) H) := by
  intro pins s σ H xs us Q I r h
  obtain ⟨l, ns, rfl, hl, hne, q⟩ := h
  obtain ⟨u, rfl, ru⟩ := vals1 r
  cases ru
  obtain ⟨its, rv, p1, hz1⟩ := I.list (SqL.of hl)
  obtain ⟨ps, rfl, rfl⟩ := vals_intP rv
  have hsz : 0 < ps.toArray.size := by
    cases ps with
    | nil => exact absurd rfl hne
    | cons _ _ => simp
  have ei : (ps.map (fun p => Value.int p.1 p.2)).toArray = intItems ps.toArray := by simp [intItems]
  have p2 := p1.isList
  rw [ei] at p2
  refine max_intList (I.ok.hd hc) p2 hsz fun v h' tk hv hk => ?_
  obtain ⟨t, rfl⟩ := intItems_at hv
  obtain ⟨h1, h2⟩ := argBest_gt (numAt ps.toArray) (ps.toArray.size - 1)
  refine ⟨.int _, H, I.kept hk, ⟨_, rfl⟩, q _ ?_ fun a ha => ?_⟩
  · rw [numAt_eq]
    refine getD_mem ?_
    rw [List.length_map, Array.length_toList]
    exact Nat.lt_of_le_of_lt h1 (Nat.sub_lt hsz Nat.one_pos)
  · obtain ⟨j, hj, rfl⟩ := mem_getD ha
    have := h2 j (by simp at hj ⊢; omega)
    rw [numAt_eq] at this
    exact this
end
end L2
end
section
set_option autoImplicit false
namespace K47
open PySem PyProof.Rows L2
def sortN (s : Int) : Nat := if s = 0 then 0 else if s = 3 then 2 else 1
structure Whos (H : Hp) (n : Nat) (ts : List T) (l : Addr) (xs : List V) : Prop where
  at_ : H l = some (.lst xs)
  dl : DpL H ts xs
  ten : ts.length = 10
  nd : ts.Nodup
  ok : ∀ t ∈ ts, WhoS n t
structure WhosL (H : Hp) (n : Nat) (ts : List T) (l : Addr) (xs : List V) : Prop where
  at_ : H l = some (.lst xs)
  dl : DpL H ts xs
  ten : 10 ≤ ts.length
  ok : ∀ t ∈ ts, WhoS n t
theorem tups_off {p : Addr} {H1 H2 : Hp} (o : L2.Off p H1 H2) (hp : Pu H1 p) : Tups H1 H2 := fun c zs e => by
  obtain ⟨x1, x2, x3, ep⟩ := hp
  exact o c _ (ne_of e ep (fun z => nomatch z)) e
theorem WhosL.ne {H : Hp} {n : Nat} {ts : List T} {l p : Addr} {xs : List V} (h : WhosL H n ts l xs) (hp : Pu H p) : l ≠ p := fun e => by
  obtain ⟨a, b, c, ep⟩ := hp
  have h1 := h.at_
  rw [e, ep] at h1
  injection h1 with h1
  injection h1 with h1
  have e1 := h.dl.length
  have e2 := h.ten
  rw [← h1] at e1
  change 3 = _ at e1
  omega
theorem WhosL.off {H H' : Hp} {n : Nat} {ts : List T} {l p : Addr} {xs : List V} (h : WhosL H n ts l xs) (hp : Pu H p) (o : L2.Off p H H') : WhosL H' n ts l xs := ⟨o l _ (h.ne hp) h.at_, h.dl.mono (tups_off o hp), h.ten, h.ok⟩
theorem WhosL.same {H H' : Hp} {n : Nat} {ts : List T} {l : Addr} {xs : List V} (h : WhosL H n ts l xs) (s : Same H H') : WhosL H' n ts l xs := ⟨s l _ h.at_, h.dl.mono (Same.tups s), h.ten, h.ok⟩
theorem WhosL.get {H : Hp} {n : Nat} {ts : List T} {l : Addr} {xs : List V} (h : WhosL H n ts l xs) {i : Nat} (hi : i < 10) : ∃ (x : V) (hh : i < ts.length), xs[i]? = some x ∧ Dp H ts[i] x ∧ WhoS n ts[i] := by
  have hh : i < ts.length := Nat.lt_of_lt_of_le hi h.ten
  obtain ⟨x, e, d⟩ := h.dl.get (i := i) (t := ts[i]) (List.getElem?_eq_getElem hh)
  exact ⟨x, hh, e, d, h.ok _ (List.getElem_mem hh)⟩
section
variable {P : Program} {w : World} {K : PySem.W.Frag} {mg : Str → Option Value} {base : Heap} {t : Adr}
def spAnswer : Sp := fun vs H Q _ => ∃ (p l : Addr) (sh : Int) (ts : List T) (xs : List V), vs = [.ref p, .int sh, .ref l] ∧ Pu H p ∧ 0 ≤ sh ∧ sh ≤ 3 ∧ WhosL H (sortN sh) ts l xs ∧ ∀ (v : V) (a : T) H', Dp H' a v → Lz 1 a → Off p H H' → Pu H' p → Q v H'
theorem ok_answer (D : Defs K mg t) : FnOk P w K mg base CX0 2 t._law_answer.1 t._law_answer.2 ["_law_purse_here", "_law_sort", "_law_whos_here"] spAnswer := by
  have G__law_take : FnOk P w K mg base CX0 1 t._law_take.1 t._law_take.2 _ spTake := ok_take D
  refine D._law_answer.fn.ok sc__law_answer (fun vs H Q E h => ?_) (fun cdv A outer s H vs Q E hr h => ?_)
  · obtain ⟨p, l, sh, ts, xs, rfl, _⟩ := h
    rfl
  · obtain ⟨p, l, sh, ts, xs, rfl, hp, hs0, hs3, hw, k⟩ := h
    refine ⟨_, (pss_cons (ps_if (pt_cmpR op_eq (pv 1) pe_int (nomark _))
      (pss_one (ps_ret (pe_tup (pa_cons (pe_callF D._law_take G__law_take (hr.mono (by omega)) (by rfl) (pa_cons (pv 0) (pa_cons pe_int pa_nil))) (pa_cons (pe_callF D._law_take G__law_take (hr.mono (by omega)) (by rfl) (pa_cons (pv 0) (pa_cons pe_int pa_nil))) pa_nil)))))
      pss_nil)
      (pss_cons (ps_if (pt_cmpR op_eq (pv 1) pe_int (nomark _))
      (pss_one (ps_ret (pe_op op_mul (pe_callF D._law_take G__law_take (hr.mono (by omega)) (by rfl) (pa_cons (pv 0) (pa_cons pe_int pa_nil))) (pe_callF D._law_take G__law_take (hr.mono (by omega)) (by rfl) (pa_cons (pv 0) (pa_cons pe_int pa_nil))))))
      pss_nil)
      (pss_cons (ps_set (i := 3) sc__law_answer.nd rfl (Or.inl rfl) (pe_ix ix_list (pv 2) (pe_callF D._law_take G__law_take (hr.mono (by omega)) (by rfl) (pa_cons (pv 0) (pa_cons pe_int pa_nil))) (fun _ _ => rfl)))
      (pss_join (ps_if (pt_cmpR op_eq (pv 1) pe_int (nomark _))
      (pss_one (ps_set (i := 3) sc__law_answer.nd rfl (Or.inl rfl) (pe_ix ix_tup (pv 3) pe_int (fun _ _ => rfl))))
      pss_nil)
      (pss_one (ps_ret (pe_tup (pa_cons (pv 3) (pa_cons (pe_op op_add pe_int (pe_callF D._law_take G__law_take (hr.mono (by omega)) (by rfl) (pa_cons (pv 0) (pa_cons pe_int pa_nil)))) pa_nil))))))))), ?_⟩
    refine ⟨_, rfl, rfl, _, rfl, ite2 (fun hb => ?_) (fun hb => ?_)⟩
    · refine ⟨_, rfl, p, 22, rfl, hp, by decide, by decide, fun r a1 b1 c1 l1 u1 => ⟨_, rfl, p, 400, rfl, Pu.upd, by decide, by decide, fun r2 a2 b2 c2 l2 u2 => ⟨by show 2 ≤ sizeLine; decide, fun q hq => ?_⟩⟩⟩
      rw [upd_upd] at hq ⊢
      have pq : p ≠ q := Pu.upd.neN hq
      exact k (.ref q) (.tup [.int r, .int r2]) _ (L2.Dp.tup upd_same (.cons (L2.Dp.int _) (.cons (L2.Dp.int _) .nil))) ⟨by show 2 ≤ 10000; decide, fun t ht => by rcases List.mem_cons.mp ht with rfl | ht; trivial; rw [List.mem_singleton.mp ht]; trivial⟩ (Off.upd.trans (Off.new hq)) (Pu.upd.upd_ne pq)
    · have n0 : ¬ sh = 0 := fun e => hb (decide_eq_true (by rw [e]))
      refine ⟨_, rfl, rfl, _, rfl, ite2 (fun hb => ?_) (fun hb => ?_)⟩
      · refine ⟨_, rfl, p, 400, rfl, hp, by decide, by decide, fun r a1 b1 c1 l1 u1 => ⟨_, rfl, p, 2, rfl, Pu.upd, by decide, by decide, fun r2 a2 b2 c2 l2 u2 => ?_⟩⟩
        rw [upd_upd]
        refine ⟨_, _, rfl, rfl, .inl ⟨by omega, by omega⟩, ?_⟩
        exact k _ (.int _) _ (L2.Dp.int _) trivial Off.upd Pu.upd
      · have n1 : ¬ sh = 1 := fun e => hb (decide_eq_true (by rw [e]))
        refine ⟨_, rfl, _, rfl, p, 10, rfl, hp, by decide, by decide, fun r a1 b1 c1 l1 u1 => ?_⟩
        have o1 : Off p H (upd H p (.lst [.int a1, .int b1, .int c1])) := Off.upd
        have p1 : Pu (upd H p (.lst [.int a1, .int b1, .int c1])) p := Pu.upd
        have hw1 := hw.off hp o1
        generalize upd H p (.lst [.int a1, .int b1, .int c1]) = H1 at o1 p1 hw1
        obtain ⟨j, rfl⟩ : ∃ j : Nat, r = (j : Int) := ⟨r.toNat, by omega⟩
        obtain ⟨x, hh, ex, dx, hwx⟩ := hw1.get (i := j) (by omega)
        refine ⟨l, _, _, _, rfl, rfl, SqL.of hw1.at_, atI_nat ex, ?_⟩
        refine ⟨fun σ' H' => ∃ y : Str, σ' = [some (.ref p), some (.int sh), some (.ref l), some (.str y)] ∧ H' = H1, ?_, ?_⟩
        · refine ⟨_, rfl, rfl, _, rfl, ite2 (fun hb => ?_) (fun hb => ?_)⟩
          · have e3 : sh = 3 := by
              have := of_decide_eq_true hb
              injection this
            subst e3
            obtain ⟨y, u, et, _⟩ : ∃ x u, ts[j] = .tup [.str x, u] ∧ (u = .non ∨ ∃ y, u = .str y) := hwx
            rw [et] at dx
            obtain ⟨q, ys, rfl, hq, dq⟩ := L2.Dp.of_tup dx
            obtain ⟨y1, r1, rfl, d1, _⟩ := L2.DpL.cases dq
            rw [d1.of_str] at hq
            exact ⟨_, rfl, q, _, _, _, rfl, rfl, SqT.of hq, atI_nat (j := 0) rfl, y, rfl, rfl⟩
          · have n3 : ¬ sh = 3 := fun e => hb (decide_eq_true (by rw [e]))
            have e1 : sortN sh = 1 := by unfold sortN; rw [if_neg n0, if_neg n3]
            rw [e1] at hwx
            obtain ⟨y, et⟩ : ∃ x, ts[j] = .str x := hwx
            rw [et] at dx
            rw [dx.of_str]
            exact ⟨y, rfl, rfl⟩
        · rintro σ' H' ⟨y, rfl, rfl⟩
          refine ⟨_, rfl, _, rfl, p, 99, rfl, p1, by decide, by decide, fun r2 a2 b2 c2 l2 u2 => ⟨_, _, rfl, rfl, by show 2 ≤ sizeLine; decide, fun q hq => ?_⟩⟩
          have pq : p ≠ q := Pu.upd.neN hq
          exact k (.ref q) (.tup [.str y, .int (1 + r2)]) _ (L2.Dp.tup upd_same (.cons (L2.Dp.str _) (.cons (L2.Dp.int _) .nil))) ⟨by show 2 ≤ 10000; decide, fun t ht => by rcases List.mem_cons.mp ht with rfl | ht; trivial; rw [List.mem_singleton.mp ht]; trivial⟩ (o1.trans (Off.upd.trans (Off.new hq))) (Pu.upd.upd_ne pq)
end
end K47
end
section
set_option autoImplicit false
namespace K47
open PySem PyProof.Rows L2
theorem DpL.snoc {H : Hp} {ts : List T} {xs : List V} {t : T} {x : V} (h : DpL H ts xs) (d : Dp H t x) : DpL H (ts ++ [t]) (xs ++ [x]) := h.append (.cons d .nil)
theorem inV_ints' (r : Int) (ns : List Int) : inV (.int r) (ns.map V.int) = decide (r ∈ ns) := by
  unfold inV
  rw [List.any_map]
  apply Bool.eq_iff_iff.mpr
  rw [List.any_eq_true, decide_eq_true_iff]
  constructor
  · rintro ⟨y, hy, e⟩
    have : (y == r) = true := e
    rw [beq_iff_eq] at this
    rw [← this]
    exact hy
  · intro h
    refine ⟨r, h, ?_⟩
    show (r == r) = true
    exact beq_self_eq_true r
section
variable {P : Program} {w : World} {K : PySem.W.Frag} {mg : Str → Option Value} {base : Heap} {t : Adr}
def spWhos : Sp := fun vs H Q _ => ∃ (p : Addr) (sh : Int), vs = [.ref p, .int sh] ∧ Pu H p ∧ 0 ≤ sh ∧ sh ≤ 3 ∧ ∀ (l : Addr) (ts : List T) (xs : List V) H', Whos H' (sortN sh) ts l xs → Off p H H' → Pu H' p → Q (.ref l) H'
theorem ok_whos (D : Defs K mg t) : FnOk P w K mg base CX0 4 t._law_whos.1 t._law_whos.2 ["_law_purse_here", "_law_sort"] spWhos := by
  have G__law_take : FnOk P w K mg base CX0 1 t._law_take.1 t._law_take.2 _ spTake := ok_take D
  have G__law_words : FnOk P w K mg base CX0 3 t._law_words.1 t._law_words.2 _ spWords := ok_words D
  have hz : sizeLine = 16777216 := sizeLine_eq
  refine D._law_whos.fn.ok sc__law_whos (fun vs H Q E h => ?_) (fun cdv A outer s H vs Q E hr h => ?_)
  · obtain ⟨p, sh, rfl, _⟩ := h
    rfl
  · obtain ⟨p, sh, rfl, hp, hs0, hs3, k⟩ := h
    refine ⟨_, (pss_cons (ps_set (i := 2) sc__law_whos.nd rfl (Or.inr rfl) (pe_callF D._law_words G__law_words (hr.mono (by omega)) (by rfl) (pa_cons (pv 0) (pa_cons pe_int (pa_cons (pe_lst pa_nil) pa_nil)))))
      (pss_cons (ps_if (pt_cmpR op_eq (pv 1) pe_int (nomark _))
      (pss_cons (ps_set (i := 3) sc__law_whos.nd rfl (Or.inr rfl) (pe_lst (pa_cons pe_non (pa_cons (pe_ix ix_list (pv 2) (pe_callF D._law_take G__law_take (hr.mono (by omega)) (by rfl) (pa_cons (pv 0) (pa_cons pe_int pa_nil))) (fun _ _ => rfl)) pa_nil))))
      (pss_one (ps_ret (pe_comp rfl (CompScope.of ["_law_k"] [2, 3] ["_law_k", "_law_words_here", "_law_homes"] (defScope (top 25)) ["_law_purse_here", "_law_sort", "_law_words_here", "_law_homes", "_law_whos_here", "_law_k", "_law_who"] rfl rfl (by decide +kernel)) ⟨fun _ _ _ _ _ => (pg_name (i := 0) (show List.Nodup [("_law_k" : Str), ("_law_words_here" : Str), ("_law_homes" : Str)] by decide +kernel) rfl (Or.inl (lookup_relabel_local rfl)) (.inr (lookup_relabel_local rfl))), fun _ _ _ _ _ => pts_nil, fun _ _ _ _ _ => (pe_tup (pa_cons (pe_ix (ix_list_K (K := K) rfl) (pv 1) (pe_op op_fdiv (pv 0) pe_int) (fun _ _ => rfl)) (pa_cons (pe_ix (ix_list_K (K := K) rfl) (pv 2) (pe_op op_mod (pv 0) pe_int) (fun _ _ => rfl)) pa_nil)))⟩ (pi_range1 rfl D.b_range (pa_cons pe_int pa_nil))))))
      pss_nil)
      (pss_cons (ps_if (pt_cmpR op_gt (pv 1) pe_int (nomark _))
      (pss_one (ps_ret (pv 2)))
      pss_nil)
      (pss_cons (ps_set (i := 4) sc__law_whos.nd rfl (Or.inl rfl) (pe_lst pa_nil))
      (pss_cons (ps_for PassesOwn.never rfl (pi_range1 rfl D.b_range (pa_cons pe_int pa_nil)) (pg_name (i := 5) sc__law_whos.nd rfl (Or.inl rfl))
      (pss_cons (ps_set (i := 6) sc__law_whos.nd rfl (Or.inl rfl) (pe_callF D._law_take G__law_take (hr.mono (by omega)) (by rfl) (pa_cons (pv 0) (pa_cons pe_int pa_nil))))
      (pss_join (ps_if (pt_cmpR op_in_seq (pv 6) (pv 4) (by with_unfolding_all rfl))
      (pss_one (ps_set (i := 6) sc__law_whos.nd rfl (Or.inl rfl) (pe_op op_add (pe_callB (call_maxL rfl) (by rfl) D.b_max bt_max (pa_cons (pv 4) pa_nil)) pe_int)))
      pss_nil)
      (pss_one (ps_expr (pe_bm PySem.F.plainAttrs_list PySem.F.slot_list_append PySem.F.type_list_append mt_append (pv 4) (pa_cons (pv 6) pa_nil)))))))
      (pss_one (ps_ret (pv 4)))))))), ?_⟩
    refine ⟨_, rfl, Nat.zero_le _, fun u hu => ⟨p, u, 10, rfl, hp.upd_ne (hp.neN hu), upd_same, by decide, by decide, fun wl ws H1 _ hwl nd hwl1 o1 p1 => ?_⟩⟩
    have o1 : Off p H H1 := (Off.new hu).trans o1
    have hw10 : ws.length = 10 := hwl
    have wp : wl ≠ p := p1.ne hwl1
    refine ⟨_, rfl, rfl, _, rfl, ite2 (fun hb => ?_) (fun hb => ?_)⟩
    · have e3 : sh = 3 := by
        have := of_decide_eq_true hb
        injection this
      subst e3
      refine ⟨_, rfl, _, rfl, p, 10, rfl, p1, by decide, by decide, fun r a1 b1 c1 l1 u1 => ?_⟩
      have o2 : Off p H1 (upd H1 p (.lst [.int a1, .int b1, .int c1])) := Off.upd
      have p2 : Pu (upd H1 p (.lst [.int a1, .int b1, .int c1])) p := Pu.upd
      have hwl2 := o2 wl _ wp hwl1
      generalize upd H1 p (.lst [.int a1, .int b1, .int c1]) = H2 at o2 p2 hwl2
      obtain ⟨j, rfl⟩ : ∃ j : Nat, r = (j : Int) := ⟨r.toNat, by omega⟩
      have hj : j < ws.length := by omega
      refine ⟨wl, _, _, _, rfl, rfl, SqL.of hwl2, atI_nat (show (ws.map V.str)[j]? = some (.str ws[j]) by rw [List.getElem?_map, List.getElem?_eq_getElem hj]; rfl), by show 2 ≤ sizeLine; decide, fun hl hhl => ?_⟩
      generalize ws[j] = hm
      have s3 : Same H2 (upd H2 hl (.lst [.non, .str hm])) := Same.new hhl
      have hh3 : (upd H2 hl (.lst [.non, .str hm])) hl = some (.lst [.non, .str hm]) := upd_same
      have hwl3 := s3 wl _ hwl2
      have p3 := p2.same s3
      generalize upd H2 hl (.lst [.non, .str hm]) = H3 at s3 hh3 hwl3 p3
      refine ⟨_, rfl, by decide, by decide, fun D1 hD1 => ?_⟩
      have wf : ∀ k : Nat, k < 10 → k / 2 < ws.length := fun k hk => by omega
      let f : Nat → T := fun k => .tup [.str (ws.getD (k / 2) ""), if k % 2 = 0 then .non else .str hm]
      refine comp_by (n := 10) (fun i ys H4 => DpL H4 ((List.range i).map f) ys ∧ H4 D1 = some (.lst ys) ∧ Same H3 H4) ⟨.nil, upd_same, Same.new hD1⟩ ?_ ?_
      · rintro ys H4 ⟨dl, hD4, s4⟩
        refine ⟨Nat.le_refl _, ?_⟩
        refine k D1 _ ys H4 ⟨hD4, dl, by rw [List.length_map, List.length_range], ?_, ?_⟩ (o1.trans (o2.trans (s3.off.trans s4.off))) (p3.same s4)
        · refine L2.nodup_map (fun a ha b hb e => ?_) List.nodup_range
          have ha := List.mem_range.mp ha
          have hb := List.mem_range.mp hb
          have e : T.tup [.str (ws.getD (a / 2) ""), if a % 2 = 0 then .non else .str hm] = T.tup [.str (ws.getD (b / 2) ""), if b % 2 = 0 then .non else .str hm] := e
          injection e with e
          injection e with e1 e2
          injection e1 with e1
          injection e2 with e2 _
          have h1 : a / 2 = b / 2 := by
            have q1 : ws.getD (a / 2) "" = ws[a / 2]'(wf a ha) := by simp [wf a ha]
            have q2 : ws.getD (b / 2) "" = ws[b / 2]'(wf b hb) := by simp [wf b hb]
            rw [q1, q2] at e1
            rcases Nat.lt_trichotomy (a / 2) (b / 2) with h | h | h
            · exact absurd e1 ((List.pairwise_iff_getElem.mp nd) _ _ _ _ h)
            · exact h
            · exact absurd e1.symm ((List.pairwise_iff_getElem.mp nd) _ _ _ _ h)
          have h2 : a % 2 = b % 2 := by
            by_cases c1 : a % 2 = 0
            · by_cases c2 : b % 2 = 0
              · omega
              · rw [if_pos c1, if_neg c2] at e2; cases e2
            · by_cases c2 : b % 2 = 0
              · rw [if_neg c1, if_pos c2] at e2; cases e2
              · omega
          omega
        · intro t ht
          obtain ⟨a, _, rfl⟩ := List.mem_map.mp ht
          refine ⟨_, _, rfl, ?_⟩
          by_cases c1 : a % 2 = 0
          · exact .inl (if_pos c1)
          · exact .inr ⟨hm, if_neg c1⟩
      · rintro i ys H4 hi ⟨dl, hD4, s4⟩
        refine ⟨hi, ?_⟩
        rintro x H5 ⟨rfl, rfl⟩ σo ho
        obtain ⟨oo, rfl⟩ := own1 ho
        have hyl : ys.length = i := by have := dl.length; rwa [List.length_map, List.length_range] at this
        have e1 : (0 + (i : Int)) / 2 = ((i / 2 : Nat) : Int) := by omega
        have e2 : (0 + (i : Int)) % 2 = ((i % 2 : Nat) : Int) := by omega
        have g1 : atI (ws.map V.str) ((0 + (i : Int)) / 2) = some (.str (ws.getD (i / 2) "")) := by
          rw [e1]
          refine atI_nat ?_
          rw [List.getElem?_map, List.getElem?_eq_getElem (wf i hi)]
          simp [wf i hi]
        obtain ⟨z, g2, dz⟩ : ∃ z, atI [V.non, V.str hm] ((0 + (i : Int)) % 2) = some z ∧ ∀ H : Hp, Dp H (if i % 2 = 0 then .non else .str hm) z := by
          rw [e2]
          rcases (by omega : i % 2 = 0 ∨ i % 2 = 1) with c | c
          · rw [c]
            exact ⟨_, atI_nat (j := 0) rfl, fun H => by rw [if_pos rfl, Dp]⟩
          · rw [c]
            exact ⟨_, atI_nat (j := 1) rfl, fun H => by rw [if_neg (by decide)]; exact L2.Dp.str _⟩
        refine ⟨⟨[_], rfl, rfl⟩, yes_by ⟨_, rfl, _, rfl, _, _, rfl, rfl, ⟨by decide, by decide⟩, wl, _, _, _, rfl, rfl, SqL.of (s4 wl _ hwl3), g1, _, rfl, _, rfl, _, _, rfl, rfl, (by show (0 : Int) < 2; decide), hl, _, _, _, rfl, rfl, SqL.of (s4 hl _ hh3), g2, by show 2 ≤ sizeLine; decide, fun q hq => ?_⟩⟩
        have s6 : Same H5 (upd H5 q (.tup [.str (ws.getD (i / 2) ""), z])) := Same.new hq
        have qD : q ≠ D1 := fun e => by rw [e, hD4] at hq; cases hq
        have tu : Tups (upd H5 q (.tup [.str (ws.getD (i / 2) ""), z])) (upd (upd H5 q (.tup [.str (ws.getD (i / 2) ""), z])) D1 (.lst (ys ++ [.ref q]))) := fun c zs e => by
          rw [upd_ne (ne_of e (s6 D1 _ hD4) (fun z => nomatch z))]
          exact e
        refine ⟨by omega, s6 D1 _ hD4, less_by hi ⟨?_, upd_same, fun b u e => ?_⟩⟩
        · rw [List.range_succ, List.map_append]
          refine K47.DpL.snoc (dl.mono ((Same.tups s6).trans tu)) (L2.Dp.tup (xs := [.str (ws.getD (i / 2) ""), z]) ?_ (.cons (L2.Dp.str _) (.cons (dz _) .nil)))
          rw [upd_ne qD, upd_same]
        · rw [upd_ne (ne_of_none e hD1)]
          exact s6 b u (s4 b u e)
    · have n3 : ¬ sh = 3 := fun e => hb (decide_eq_true (by rw [e]))
      refine ⟨_, rfl, _, _, rfl, rfl, _, rfl, ite2 (fun hb => ?_) (fun hb => ?_)⟩
      · have hb : 0 < sh := of_decide_eq_true hb
        have e1 : sortN sh = 1 := by unfold sortN; rw [if_neg (by omega), if_neg n3]
        refine ⟨_, rfl, k wl (ws.map T.str) (ws.map V.str) H1 ?_ o1 p1⟩
        rw [e1]
        refine ⟨hwl1, DpL.strs ws, by rw [List.length_map]; exact hw10, L2.nodup_map (fun a _ b _ e => by injection e) nd, fun t ht => ?_⟩
        obtain ⟨x, _, rfl⟩ := List.mem_map.mp ht
        exact ⟨x, rfl⟩
      · have e0 : sh = 0 := by
          have : ¬ 0 < sh := fun h => hb (decide_eq_true h)
          omega
        subst e0
        refine ⟨Nat.zero_le _, fun l hl => ?_⟩
        have pl : p ≠ l := p1.neN hl
        refine ⟨_, rfl, by decide, by decide, ?_⟩
        refine for_range (lo := 0) (n := (10 : Int).toNat) (fun i σ H2 => ∃ (ns : List Int) (v3 v5 v6 : Option V), σ = [some (.ref p), some (.int 0), some (.ref wl), v3, some (.ref l), v5, v6] ∧ ns.length = i ∧ ns.Nodup ∧ H2 l = some (.lst (ns.map V.int)) ∧ Off p H1 H2 ∧ Pu H2 p)
          ⟨[], _, _, _, rfl, rfl, List.nodup_nil, upd_same, Off.new hl, p1.upd_ne pl⟩ ?_ ?_
        · rintro i σ H2 hi ⟨ns, v3, v5, v6, rfl, hns, ndn, hl2, o2, p2⟩
          refine ⟨_, rfl, p, 40, rfl, p2, by decide, by decide, fun r a1 b1 c1 l1 u1 => ?_⟩
          have o3 : Off p H1 (upd H2 p (.lst [.int a1, .int b1, .int c1])) := o2.trans Off.upd
          have p3 : Pu (upd H2 p (.lst [.int a1, .int b1, .int c1])) p := Pu.upd
          have hl3 : (upd H2 p (.lst [.int a1, .int b1, .int c1])) l = some (.lst (ns.map V.int)) := by rw [upd_ne pl.symm]; exact hl2
          generalize upd H2 p (.lst [.int a1, .int b1, .int c1]) = H3 at o3 p3 hl3
          have fl : (ns.map V.int).all flatV = true := by
            rw [List.all_eq_true]
            intro x hx
            obtain ⟨z, _, rfl⟩ := List.mem_map.mp hx
            rfl
          refine ⟨fun σ' H' => ∃ (y : Int), σ' = [some (.ref p), some (.int 0), some (.ref wl), v3, some (.ref l), some (.int (0 + (i : Int))), some (.int y)] ∧ H' = H3 ∧ ¬ y ∈ ns, ?_, ?_⟩
          · refine ⟨_, rfl, _, rfl, l, _, rfl, .inl (SqL.of hl3), rfl, fl, _, rfl, ite2 (fun hb => ?_) (fun hb => ?_)⟩
            · have hne : ns ≠ [] := fun e => by rw [e] at hb; cases hb
              refine ⟨_, rfl, l, ns, rfl, hl3, hne, fun M hM hmax => ⟨_, _, rfl, rfl, M + 1, rfl, rfl, fun h => ?_⟩⟩
              have := hmax _ h
              omega
            · refine ⟨r, rfl, rfl, fun h => hb ?_⟩
              show inV (.int r) (ns.map V.int) = true
              rw [inV_ints']
              exact decide_eq_true h
          · rintro σ' H' ⟨y, rfl, rfl, hy⟩
            refine ⟨_, rfl, .inl ⟨rfl, _, SqL.of hl3⟩, _, rfl, l, ns.map V.int, .int y, rfl, rfl, hl3, by rw [List.length_map]; omega, ns ++ [y], _, _, _, rfl, by rw [List.length_append, hns]; rfl, nd_snoc ndn hy, by rw [upd_same, List.map_append]; rfl, ?_, p3.upd_ne pl⟩
            intro b o hb e
            rw [upd_ne (ne_of_none e hl)]
            exact o3 b o hb e
        · rintro σ H2 ⟨ns, v3, v5, v6, rfl, hns, ndn, hl2, o2, p2⟩
          refine ⟨_, rfl, k l (ns.map T.int) (ns.map V.int) H2 ⟨hl2, K47.DpL.ints ns, by rw [List.length_map]; exact hns, L2.nodup_map (fun a _ b _ e => by injection e) ndn, fun t ht => ?_⟩ (o1.trans o2) p2⟩
          obtain ⟨x, _, rfl⟩ := List.mem_map.mp ht
          exact ⟨x, rfl⟩
end
end K47
end
section
set_option autoImplicit false
namespace L2
open PySem PySem.Spec PyProof.Rows
abbrev KeyN := Option Key
def nIs : KeyN → Value → Bool
  | none, .none => true
  | none, _ => false
  | some k, v => keyIs k v
def nH (w : World) : KeyN → Int
  | none => reduceHash 0xFCA86420
  | some k => keyH w k
theorem nIs_shape : ∀ {k : KeyN} {v : Value}, nIs k v = true → (k = none ∧ v = .none) ∨ (∃ i t, k = some (.inl i) ∧ v = .int i t) ∨ ∃ x t, k = some (.inr x) ∧ v = .str x t
  | none, v, h => by cases v <;> first | exact .inl ⟨rfl, rfl⟩ | (simp [nIs] at h)
  | some k, v, h => by
    rcases keyIs_shape (k := k) (v := v) h with ⟨i, t, rfl, rfl⟩ | ⟨x, t, rfl, rfl⟩
    · exact .inr (.inl ⟨i, t, rfl, rfl⟩)
    · exact .inr (.inr ⟨x, t, rfl, rfl⟩)
theorem onEq (prog : Program) (w : World) {A : Around} {E : Value → Shared → Prop} {s : Shared} {a b : KeyN} {u v : Value} {Q : Bool → Shared → Prop} (hu : nIs a u = true) (hv : nIs b v = true) (h : Q (decide (a = b)) s) :
    wpAny (model prog w) A (PySem.eqBool u v) Q E s := by
  have ne : ∀ {a b : KeyN}, a ≠ b → decide (a = b) = false := fun h => decide_eq_false h
  rcases nIs_shape hu with ⟨rfl, rfl⟩ | ⟨i, t, rfl, rfl⟩ | ⟨x, t, rfl, rfl⟩
  · rcases nIs_shape hv with ⟨rfl, rfl⟩ | ⟨j, r, rfl, rfl⟩ | ⟨y, r, rfl, rfl⟩
    · exact SeqAt.EqAt.same .none _ _ _ _ h
    · rw [ne (by intro e; cases e)] at h
      exact SeqAt.EqAt.none_int j r _ _ _ _ h
    · rw [ne (by intro e; cases e)] at h
      exact SeqAt.EqAt.none_str y r _ _ _ _ h
  · rcases nIs_shape hv with ⟨rfl, rfl⟩ | ⟨j, r, rfl, rfl⟩ | ⟨y, r, rfl, rfl⟩
    · rw [ne (by intro e; cases e)] at h
      exact SeqAt.EqAt.int_none i t _ _ _ _ h
    · have e : decide ((some (.inl i) : KeyN) = some (.inl j)) = (i == j) := by
        rw [← key_ll]
        exact decide_eq_decide.mpr ⟨fun h => Option.some.inj h, fun h => by rw [h]⟩
      rw [e] at h
      exact wpAny_eqBool_int h
    · rw [ne (by intro e; cases e)] at h
      exact SeqAt.EqAt.int_str i t y r _ _ _ _ h
  · rcases nIs_shape hv with ⟨rfl, rfl⟩ | ⟨j, r, rfl, rfl⟩ | ⟨y, r, rfl, rfl⟩
    · rw [ne (by intro e; cases e)] at h
      exact SeqAt.EqAt.str_none x t _ _ _ _ h
    · rw [ne (by intro e; cases e)] at h
      exact SeqAt.EqAt.str_int x t j r _ _ _ _ h
    · have e : decide ((some (.inr x) : KeyN) = some (.inr y)) = decide (x = y) := by
        rw [← key_rr]
        exact decide_eq_decide.mpr ⟨fun h => Option.some.inj h, fun h => by rw [h]⟩
      rw [e] at h
      exact wpAny_eqBool_str h
def onKind (prog : Program) (w : World) : PySem.KeyKind prog w KeyN where
  is := nIs
  hash := nH w
  inj := fun v a b ha hb => by
    rcases nIs_shape ha with ⟨rfl, rfl⟩ | ⟨i, t, rfl, rfl⟩ | ⟨x, t, rfl, rfl⟩ <;> rcases nIs_shape hb with ⟨rfl, e⟩ | ⟨j, u, rfl, e⟩ | ⟨y, u, rfl, e⟩ <;> first | rfl | (cases e; done) | (cases e; rfl)
  byValue := fun k v h => by
    rcases nIs_shape h with ⟨rfl, rfl⟩ | ⟨i, t, rfl, rfl⟩ | ⟨x, t, rfl, rfl⟩ <;> rfl
  pyHash := fun hv h => by
    rcases nIs_shape hv with ⟨rfl, rfl⟩ | ⟨i, t, rfl, rfl⟩ | ⟨x, t, rfl, rfl⟩
    · exact PySem.W.pyHash_slot (T := "NoneType") rfl F.slot_NoneType_hash F.entry_NoneType_hash (F.args_NoneType_hash_1 _) (beq_builtin_none _) (.inl rfl) (wpAny_bind (wpAny_pure (wpAny_bind (wpAny_mkInt (wpAny_pure ⟨_, _, rfl, h⟩)))))
    · exact wpAny_pyHash_int h
    · exact wpAny_pyHash_str h
  eqBool := fun hu hv h => onEq _ _ hu hv h
  «strs» := fun k x t v h => by
    rcases nIs_shape h with ⟨rfl, e⟩ | ⟨i, u, rfl, e⟩ | ⟨y, u, rfl, e⟩
    · exact nomatch e
    · exact nomatch e
    · injection e with e1 _
      subst e1
      cases v <;> rfl
def IsPair (P : Program) (w : World) (h : Heap) (k : List KeyN × Int) (a : Addr) : Prop := ∃ o n b t, h.get? a = some o ∧ o.cls = .type "tuple" ∧ o.data = .seq #[.ref b, .int k.2 t] n ∧ IsTupleKey (onKind P w) h k.1 b
section
variable {P : Program} {w : World} {h h' : Heap} {k k' : List KeyN × Int} {a b d : Addr}
theorem IsPair.tuple (x : IsPair P w h k a) : ∃ b t, h.IsTuple a #[.ref b, .int k.2 t] ∧ IsTupleKey (onKind P w) h k.1 b :=
  let ⟨o, n, b, t, h1, h2, h3, h4⟩ := x; ⟨b, t, ⟨o, h1, h2, n, h3⟩, h4⟩
theorem IsPair.inj (x : IsPair P w h k a) (y : IsPair P w h k' a) : k = k' := by
  obtain ⟨o, n, b, t, h1, _, h3, h4⟩ := x
  obtain ⟨o', n', b', t', g1, _, g3, g4⟩ := y
  obtain rfl : o = o' := Option.some.inj (h1.symm.trans g1)
  rw [h3] at g3
  injection g3 with e _
  have e1 : Value.ref b = Value.ref b' ∧ Value.int k.2 t = Value.int k'.2 t' := by
    have := congrArg Array.toList e
    simpa using this
  obtain ⟨e1, e2⟩ := e1
  cases e1
  have e3 : k.2 = k'.2 := by injection e2
  exact Prod.ext (h4.inj g4) e3
theorem IsPair.keeps {o : Obj} {es ep} (x : IsPair P w h k a) (ho : h.get? d = some o) (hd : o.data = .dict es ep) (hs : Heap.SameBut d h h') : IsPair P w h' k a := by
  obtain ⟨o', n, b, t, h1, h2, h3, h4⟩ := x
  have hne : a ≠ d := by
    rintro rfl
    obtain rfl : o' = o := Option.some.inj (h1.symm.trans ho)
    rw [hd] at h3; exact nomatch h3
  exact ⟨o', n, b, t, (hs.2 a hne).trans h1, h2, h3, h4.keeps ho hd hs⟩
theorem quiet_tuple {A : Around} {E : Value → Shared → Prop} {s : Shared} {Q : Bool → Shared → Prop} (m : Nat) {a : Addr} {items : Array Value} (hp : s.heap.IsTuple a items)
    (hi : ∀ v ∈ items.toList, ∀ Q' : Bool → Shared → Prop, Q' true s → wpAny (model P w) A (eqIsQuiet m v) Q' E s) (hq : Q true s) : wpAny (model P w) A (eqIsQuiet (m + 1) (.ref a)) Q E s := by
  obtain ⟨o, ho, hc, n, hd⟩ := hp
  have hT : s.TypeIs (.ref a) "tuple" := ⟨o, ho, hc⟩
  unfold eqIsQuiet
  refine wpAny_bind (wpAny_specialOf hT F.slot_tuple_eq.lookup ?_)
  show wpAny _ _ (isInstance (.ref a) (.type "tuple") >>= _) _ _ s
  refine wpAny_bind (wpAny_isInstance hT isSubtype_tuple_tuple ?_)
  simp only [Bool.not_true, Bool.false_eq_true, if_false]
  refine wpAny_bind (wpAny_seqItems ho hd ?_)
  refine wpAny_bind ?_
  show wpAny _ _ (forIn items _ _) _ _ s
  rw [← Array.forIn_toList]
  refine wpAny_forIn_list _ (fun rest r s' => r.1 = none ∧ s' = s ∧ ∀ v ∈ rest, v ∈ items.toList) _ ?_ ?_ _ _ ⟨rfl, rfl, fun v h => h⟩
  · rintro v rest r s' ⟨hr, rfl, hall⟩
    refine wpAny_bind (hi v (hall v List.mem_cons_self) _ ?_)
    simp only [Bool.not_true, Bool.false_eq_true, if_false]
    exact wpAny_pure ⟨rfl, rfl, fun u hu' => hall u (List.mem_cons_of_mem _ hu')⟩
  · rintro ⟨r1, r2⟩ s' ⟨hr, rfl, _⟩
    simp only at hr
    subst hr
    exact wpAny_pure hq
theorem IsTupleKey.is_tuple {knd : KeyKind P w KeyN} {ks : List KeyN} (x : IsTupleKey knd h ks a) : ∃ items, h.IsTuple a items ∧ ItemsAre knd ks items.toList :=
  let ⟨o, items, n, h1, h2, h3, h4⟩ := x; ⟨items, ⟨o, h1, h2, n, h3⟩, h4⟩
theorem IsPair.quiet {A : Around} {E : Value → Shared → Prop} {s : Shared} {Q : Bool → Shared → Prop} (x : IsPair P w s.heap k a) (hq : Q true s) : wpAny (model P w) A (eqIsQuiet 8 (.ref a)) Q E s := by
  obtain ⟨b, t, hp, hb⟩ := x.tuple
  refine quiet_tuple 7 hp (fun v hv Q' hq' => ?_) hq
  rcases List.mem_cons.mp hv with rfl | hv
  · obtain ⟨its, hp2, hi⟩ := IsTupleKey.is_tuple hb
    refine quiet_tuple 6 hp2 (fun v hv Q2 hq2 => ?_) hq'
    rw [eqIsQuiet_byValue _ (hi.byValue v hv)]
    exact wpAny_pure hq2
  · rw [List.mem_singleton.mp hv, eqIsQuiet_byValue _ rfl]
    exact wpAny_pure hq'
theorem items_any (P' : Program) (w' : World) : ∀ {ks : List KeyN} {vs : List Value}, ItemsAre (onKind P w) ks vs → ItemsAre (onKind P' w') ks vs
  | _, _, .nil => .nil
  | _, _, .cons h r => .cons h (items_any P' w' r)
theorem key_any (P' : Program) (w' : World) {ks : List KeyN} (x : IsTupleKey (onKind P w) h ks a) : IsTupleKey (onKind P' w') h ks a :=
  let ⟨o, its, n, g1, g2, g3, g4⟩ := x; ⟨o, its, n, g1, g2, g3, items_any P' w' g4⟩
def pairH (w : World) (k : List KeyN × Int) : Int := reduceHash (Builtin.Tuple.tupleHashOf [reduceHash (Builtin.Tuple.tupleHashOf (k.1.map (nH w))), hashInt k.2])
theorem IsPair.hash {A : Around} {E : Value → Shared → Prop} {s : Shared} {Q : Int → Shared → Prop} (hu : A.units + 1 < cLine) (x : IsPair P w s.heap k a) (hq : Q (pairH w k) { s with toks := s.toks + (k.1.length + 3) }) :
    wpAny (model P w) A (PySem.pyHash (.ref a)) Q E s := by
  obtain ⟨o, n, b, t, ho, hc, hd, hb⟩ := x
  refine PySem.W.pyHash_slot (T := "tuple") ⟨o, ho, hc⟩ F.slot_tuple_hash F.entry_tuple_hash (F.args_tuple_hash_1 _) (beq_builtin_none _) (.inr (by omega)) ?_
  show wpAny _ _ (Builtin.Tuple.tupleItemsOf (.ref a) >>= _) _ _ s
  refine wpAny_bind (wpAny_tupleItemsOf ho hd ?_)
  refine wpAny_bind ?_
  rw [← Array.forIn_toList]
  show wpAny _ _ (forIn [Value.ref b, Value.int k.2 t] _ _) _ _ _
  rw [List.forIn_cons]
  refine wpAny_bind (wpAny_bind (wpAny_pyHash_tuple (knd := onKind P w) (by show A.units + 1 < cLine; exact hu) hb ?_))
  refine wpAny_pure ?_
  dsimp only
  rw [List.forIn_cons]
  refine wpAny_bind (wpAny_bind (wpAny_pyHash_int ?_))
  refine wpAny_pure ?_
  dsimp only
  rw [List.forIn_nil]
  refine wpAny_pure ?_
  refine wpAny_bind (wpAny_mkInt (wpAny_pure ⟨_, _, rfl, ?_⟩))
  exact hq
theorem IsPair.eq {A : Around} {E : Value → Shared → Prop} {s : Shared} {Q : Bool → Shared → Prop} (hu : A.units + 1 < cLine) (x : IsPair P w s.heap k a) (y : IsPair P w s.heap k' b) (hq : Q (decide (k = k')) s) :
    wpAny (model P w) A (PySem.eqBool (.ref a) (.ref b)) Q E s := by
  by_cases hab : a = b
  · subst hab
    obtain rfl := x.inj y
    rw [decide_eq_true rfl] at hq
    exact SeqAt.EqAt.same _ _ _ _ _ hq
  · obtain ⟨c, t, hp, hc⟩ := x.tuple
    obtain ⟨c', t', hp', hc'⟩ := y.tuple
    have key := SeqAt.RcAt.tuples (A := A) (s := s) (e := fun j => if j = 0 then decide (k.1 = k'.1) else k.2 == k'.2) hp hp' (by omega) (fun j h1 h2 => by
      have hj : j = 0 ∨ j = 1 := by
        have : j < 2 := h1
        omega
      rcases hj with rfl | rfl
      · intro prog w' E Q h
        exact wpAny_eqBool_tuple (by show A.units + 1 < cLine; exact hu) (key_any prog w' hc) (key_any prog w' hc') h
      · exact SeqAt.EqAt.int_int _ _ _ _)
    have ee : ((List.range (min 2 2)).all (fun j => if j = 0 then decide (k.1 = k'.1) else k.2 == k'.2) && (2 : Nat) == 2) = decide (k = k') := by
      obtain ⟨p, i⟩ := k
      obtain ⟨q, j⟩ := k'
      show ((decide (p = q) && ((i == j) && true)) && true) = _
      by_cases h1 : p = q
      · by_cases h2 : i = j
        · subst h1 h2
          simp
        · rw [decide_eq_false (fun e => h2 (Prod.mk.inj e).2), beq_eq_false_iff_ne.mpr h2]
          simp
      · rw [decide_eq_false (fun e => h1 (Prod.mk.inj e).1), decide_eq_false h1]
        rfl
    have key' : SeqAt.RcAt A s (.ref a) (.ref b) (decide (k = k')) := by
      rw [← ee]
      exact key
    exact (SeqAt.EqAt.of_refs hab key') _ _ _ _ hq
end
def pairKind (P : Program) (w : World) : PySem.HeapKind P w (List KeyN × Int) where
  is := IsPair P w
  hash := pairH w
  draws := fun k => k.1.length + 3
  room := fun A => A.units + 1 < cLine
  inj := fun x y => x.inj y
  keeps := fun x ho hd hs => x.keeps ho hd hs
  pyHash := fun hu x h => x.hash hu h
  eqBool := fun hu x y h => x.eq hu y h
  quiet := fun x h => x.quiet h
end L2
end
section
set_option autoImplicit false
namespace L2
open PySem PySem.Spec PyProof.Rows
def nT : KeyN → T
  | none => .non
  | some (.inl i) => .int i
  | some (.inr x) => .str x
def nV : KeyN → V
  | none => .non
  | some k => kV k
theorem nT_inj : ∀ {a b : KeyN}, nT a = nT b → a = b
  | none, none, _ => rfl
  | none, some (.inl _), h => by cases h
  | none, some (.inr _), h => by cases h
  | some (.inl _), none, h => by cases h
  | some (.inr _), none, h => by cases h
  | some (.inl _), some (.inl _), h => by cases h; rfl
  | some (.inr _), some (.inr _), h => by cases h; rfl
  | some (.inl _), some (.inr _), h => by cases h
  | some (.inr _), some (.inl _), h => by cases h
theorem nTs_inj : ∀ {a b : List KeyN}, a.map nT = b.map nT → a = b
  | [], [], _ => rfl
  | [], _ :: _, h => by cases h
  | _ :: _, [], h => by cases h
  | a :: as, b :: bs, h => by
    rw [List.map_cons, List.map_cons] at h
    injection h with h1 h2
    rw [nT_inj h1, nTs_inj h2]
theorem nT_dp {H : Hp} : ∀ {k : KeyN} {v : V}, Dp H (nT k) v → v = nV k
  | none, v, h => by
    change Dp H T.non v at h
    rw [Dp] at h
    exact h
  | some (.inl i), v, h => Dp.of_int (i := i) h
  | some (.inr x), v, h => Dp.of_str (x := x) h
theorem nTs_dp {H : Hp} : ∀ {ks : List KeyN} {vs : List V}, DpL H (ks.map nT) vs → vs = ks.map nV
  | [], _, h => h.of_nil
  | k :: ks, vs, h => by
    obtain ⟨x, r, rfl, h1, h2⟩ := DpL.cases (t := nT k) (ts := ks.map nT) h
    rw [nT_dp h1, nTs_dp h2]
    rfl
theorem nV_is {P : Program} {w : World} : ∀ {k : KeyN} {u : Value}, RelV (nV k) u → (onKind P w).is k u = true
  | none, u, r => by cases (show u = Value.none from r); rfl
  | some k, u, r => kV_is (P := P) (w := w) r
theorem nItems {P : Program} {w : World} : ∀ {ks : List KeyN} {us : List Value}, Vals (ks.map nV) us → ItemsAre (onKind P w) ks us
  | [], _, .nil => .nil
  | k :: ks, _, .cons r t => .cons (nV_is r) (nItems t)
structure TK (P : Program) (w : World) where
  K : Type
  dec : DecidableEq K
  knd : @HeapKind P w K dec
  enc : K → T
  inj : ∀ {a b : K}, enc a = enc b → a = b
  isOf : ∀ {H : Hp} {h : Heap} {k : K} {b : Addr}, HOk P w H h → Dp H (enc k) (.ref b) → knd.is h k b
  isTup : ∀ {k : K} {H : Hp} {y : V}, Dp H (enc k) y → ∃ b, y = .ref b
  room : ∀ {A : Around}, A.units + 2 < cLine → knd.room A.in1
def tk1 (P : Program) (w : World) : TK P w where
  K := List KeyN
  dec := inferInstance
  knd := tupleKind (onKind P w)
  enc := fun ks => .tup (ks.map nT)
  inj := fun h => by injection h with h; exact nTs_inj h
  isOf := fun {H h k b} ok d => by
    obtain ⟨a, xs, e, ha, hl⟩ := d.of_tup
    cases e
    rw [nTs_dp hl] at ha
    obtain ⟨_, its, r, o, h1, h2, n, h3⟩ := (show ObjOk P w H h b (.tup (k.map nV)) from ok b _ ha)
    exact ⟨o, its.toArray, n, h1, h2, h3, by simpa using nItems r⟩
  isTup := fun d => let ⟨a, _, e, _⟩ := d.of_tup; ⟨a, e⟩
  room := fun {A} h => by show A.units + 1 < cLine; omega
def tk2 (P : Program) (w : World) : TK P w where
  K := List KeyN × Int
  dec := inferInstance
  knd := pairKind P w
  enc := fun k => .tup [.tup (k.1.map nT), .int k.2]
  inj := fun {a b} h => by
    injection h with h
    injection h with h1 h2
    injection h1 with h1
    injection h2 with h2
    injection h2 with h2
    exact Prod.ext (nTs_inj h1) h2
  isOf := fun {H h k b} ok d => by
    obtain ⟨a, xs, e, ha, hl⟩ := d.of_tup
    cases e
    obtain ⟨x, r, rfl, d1, hl⟩ := hl.cases
    obtain ⟨y, r, rfl, d2, hl⟩ := hl.cases
    cases hl.of_nil
    cases d2.of_int
    obtain ⟨c, ys, rfl, hc, hl2⟩ := d1.of_tup
    obtain ⟨_, its, r, o, h1, h2, n, h3⟩ := (show ObjOk P w H h b (.tup [.ref c, .int k.2]) from ok b _ ha)
    cases r with
    | cons r1 r =>
      cases r with
      | cons r2 r =>
        cases r
        cases r1
        obtain ⟨t, rfl⟩ := r2
        exact ⟨o, n, c, t, h1, h2, h3, (tk1 P w).isOf (k := k.1) ok (Dp.tup hc hl2)⟩
  isTup := fun d => let ⟨a, _, e, _⟩ := d.of_tup; ⟨a, e⟩
  room := fun {A} h => by show A.units + 1 + 1 < cLine; omega
section
variable {P : Program} {w : World}
abbrev XR (Y : TK P w) : List (Y.K × Addr × V) → List (Y.K × Addr × Value) → Prop := Paired fun p q => p.1 = q.1 ∧ p.2.1 = q.2.1 ∧ RelV p.2.2 q.2.2
def DX (Y : TK P w) (a : Addr) (kvs : List (Y.K × Addr × V)) : HO := .ext fun h => (a == sysModules) = false ∧ ∃ (xs : List (Y.K × Addr × Value)) (o : Obj) (es : Array DictEntry) (ep : Nat), XR Y kvs xs ∧ h.get? a = some o ∧ o.ExactDict ∧ o.data = .dict es ep ∧ es.toList = xs.map (@entryOfKey P w Y.K Y.dec Y.knd) ∧ (xs.map (·.1)).Nodup
def atX (Y : TK P w) (kvs : List (Y.K × Addr × V)) (k : Y.K) : Option V := (kvs.find? fun x => (@decide (x.1 = k) (Y.dec _ _))).map (·.2.2)
def putX (Y : TK P w) (kvs : List (Y.K × Addr × V)) (k : Y.K) (b : Addr) (v : V) : List (Y.K × Addr × V) :=
  if (atX Y kvs k).isSome then kvs.map fun x => @ite _ (x.1 = k) (Y.dec _ _) (x.1, x.2.1, v) x else kvs ++ [(k, b, v)]
theorem XR.val (Y : TK P w) {kvs : List (Y.K × Addr × V)} {xs : List (Y.K × Addr × Value)} (r : XR Y kvs xs) (k : Y.K) : RelO (atX Y kvs k) ((@atKey Y.K Y.dec xs k).map (·.2)) := by
  letI := Y.dec
  induction r with
  | nil => exact True.intro
  | @cons p q ps qs h t ih =>
    obtain ⟨h1, _, h2⟩ := h
    by_cases e : p.1 = k
    · have e' : q.1 = k := h1.symm.trans e
      have b : atKey (q :: qs) k = some q.2 := by simp [atKey, List.find?_cons, e']
      have c : atX Y (p :: ps) k = some p.2.2 := by simp [atX, List.find?_cons, e]
      rw [b, c]; exact h2
    · have e' : ¬ q.1 = k := fun z => e (h1.trans z)
      have b : atKey (q :: qs) k = atKey qs k := by simp [atKey, List.find?_cons, e']
      have c : atX Y (p :: ps) k = atX Y ps k := by simp [atX, List.find?_cons, e]
      rw [b, c]; exact ih
theorem XR.put (Y : TK P w) {kvs : List (Y.K × Addr × V)} {xs : List (Y.K × Addr × Value)} (r : XR Y kvs xs) (k : Y.K) (b : Addr) {y : V} {u : Value} (ry : RelV y u) : XR Y (putX Y kvs k b y) (@storedH Y.K Y.dec xs k b u) := by
  letI := Y.dec
  have e : (atX Y kvs k).isSome = (atKey xs k).isSome := by
    have := (XR.val Y r k).isSome_eq
    rwa [Option.isSome_map] at this
  unfold putX storedH
  rw [e]
  by_cases q : (atKey xs k).isSome = true
  · rw [if_pos q, if_pos q]
    clear q e
    induction r with
    | nil => exact .nil
    | @cons p q ps qs h t ih =>
      rw [List.map_cons, List.map_cons]
      refine .cons ?_ ih
      obtain ⟨h1, h2, h3⟩ := h
      unfold putAt
      by_cases e : p.1 = k
      · rw [if_pos e, if_pos (h1.symm.trans e)]; exact ⟨h1, h2, ry⟩
      · rw [if_neg e, if_neg (fun z => e (h1.trans z))]; exact ⟨h1, h2, h3⟩
  · rw [if_neg q, if_neg q]; exact Paired.snoc r ⟨rfl, rfl, ry⟩
theorem atX_put (Y : TK P w) (kvs : List (Y.K × Addr × V)) (k j : Y.K) (b : Addr) (v : V) : atX Y (putX Y kvs k b v) j = @ite _ (j = k) (Y.dec _ _) (some v) (atX Y kvs j) := by
  letI := Y.dec
  unfold putX
  by_cases q : (atX Y kvs k).isSome = true
  · rw [if_pos q]
    induction kvs with
    | nil => simp [atX] at q
    | cons p ps ih =>
      rw [List.map_cons]
      by_cases e : p.1 = k
      · rw [if_pos e]
        by_cases ej : j = k
        · rw [if_pos ej]
          simp [atX, List.find?_cons, e, ej]
        · rw [if_neg ej]
          have n1 : ¬ p.1 = j := fun z => ej (z.symm.trans e)
          have c1 : atX Y (p :: ps) j = atX Y ps j := by simp [atX, List.find?_cons, n1]
          have c2 : atX Y ((p.1, p.2.1, v) :: ps.map fun x => if x.1 = k then (x.1, x.2.1, v) else x) j = atX Y (ps.map fun x => if x.1 = k then (x.1, x.2.1, v) else x) j := by simp [atX, List.find?_cons, n1]
          rw [c1, c2]
          clear ih q c1 c2
          induction ps with
          | nil => rfl
          | cons p' ps ih =>
            rw [List.map_cons]
            by_cases e2 : p'.1 = k
            · rw [if_pos e2]
              have n2 : ¬ p'.1 = j := fun z => ej (z.symm.trans e2)
              have c1 : atX Y (p' :: ps) j = atX Y ps j := by simp [atX, List.find?_cons, n2]
              have c2 : atX Y ((p'.1, p'.2.1, v) :: ps.map fun x => if x.1 = k then (x.1, x.2.1, v) else x) j = atX Y (ps.map fun x => if x.1 = k then (x.1, x.2.1, v) else x) j := by simp [atX, List.find?_cons, n2]
              rw [c1, c2, ih]
            · rw [if_neg e2]
              by_cases e3 : p'.1 = j
              · simp [atX, List.find?_cons, e3]
              · have c1 : atX Y (p' :: ps) j = atX Y ps j := by simp [atX, List.find?_cons, e3]
                have c2 : atX Y (p' :: ps.map fun x => if x.1 = k then (x.1, x.2.1, v) else x) j = atX Y (ps.map fun x => if x.1 = k then (x.1, x.2.1, v) else x) j := by simp [atX, List.find?_cons, e3]
                rw [c1, c2, ih]
      · rw [if_neg e]
        have q' : (atX Y ps k).isSome = true := by
          have c : atX Y (p :: ps) k = atX Y ps k := by simp [atX, List.find?_cons, e]
          rwa [c] at q
        by_cases ej : p.1 = j
        · have ne : ¬ j = k := fun z => e (ej.trans z)
          rw [if_neg ne]
          simp [atX, List.find?_cons, ej]
        · have c1 : atX Y (p :: ps) j = atX Y ps j := by simp [atX, List.find?_cons, ej]
          have c2 : atX Y (p :: ps.map fun x => if x.1 = k then (x.1, x.2.1, v) else x) j = atX Y (ps.map fun x => if x.1 = k then (x.1, x.2.1, v) else x) j := by simp [atX, List.find?_cons, ej]
          rw [c1, c2, ih q']
  · rw [if_neg q]
    have q0 : atX Y kvs k = none := by simpa using q
    clear q
    induction kvs with
    | nil =>
      by_cases e : j = k
      · simp [atX, List.find?_cons, e]
      · have e' : ¬ k = j := fun z => e z.symm
        simp [atX, List.find?_cons, e, e']
    | cons p ps ih =>
      have n0 : ¬ p.1 = k := fun z => by simp [atX, List.find?_cons, z] at q0
      have q1 : atX Y ps k = none := by
        have c : atX Y (p :: ps) k = atX Y ps k := by simp [atX, List.find?_cons, n0]
        rwa [c] at q0
      rw [List.cons_append]
      by_cases ej : p.1 = j
      · have ne : ¬ j = k := fun z => n0 (ej.trans z)
        rw [if_neg ne]
        simp [atX, List.find?_cons, ej]
      · have c1 : atX Y (p :: ps) j = atX Y ps j := by simp [atX, List.find?_cons, ej]
        have c2 : atX Y (p :: (ps ++ [(k, b, v)])) j = atX Y (ps ++ [(k, b, v)]) j := by simp [atX, List.find?_cons, ej]
        rw [c1, c2, ih q1]
theorem mem_put (Y : TK P w) {kvs : List (Y.K × Addr × V)} {k : Y.K} {b : Addr} {v : V} {x : Y.K × Addr × V} (h : x ∈ putX Y kvs k b v) : (x.1 = k ∧ x.2.1 = b) ∨ ∃ y ∈ kvs, y.1 = x.1 ∧ y.2.1 = x.2.1 := by
  letI := Y.dec
  unfold putX at h
  split at h
  · obtain ⟨y, hy, e⟩ := List.mem_map.mp h
    refine .inr ⟨y, hy, ?_⟩
    split at e
    · subst e; exact ⟨rfl, rfl⟩
    · subst e; exact ⟨rfl, rfl⟩
  · rcases List.mem_append.mp h with h | h
    · exact .inr ⟨x, h, rfl, rfl⟩
    · rw [List.mem_singleton.mp h]
      exact .inl ⟨rfl, rfl⟩
theorem len_put (Y : TK P w) (kvs : List (Y.K × Addr × V)) (k : Y.K) (b : Addr) (v : V) : (putX Y kvs k b v).length ≤ kvs.length + 1 := by
  unfold putX
  split
  · rw [List.length_map]; omega
  · rw [List.length_append]; exact Nat.le_refl _
inductive Kd (P : Program) (w : World) where
  | key
  | tup (Y : TK P w)
def emp : Kd P w → Addr → HO
  | .key, _ => .dK []
  | .tup Y, a => DX Y a []
def kT : Key → T
  | .inl i => .int i
  | .inr x => .str x
theorem kT_inj : ∀ {a b : Key}, kT a = kT b → a = b
  | .inl _, .inl _, h => by cases h; rfl
  | .inr _, .inr _, h => by cases h; rfl
  | .inl _, .inr _, h => by cases h
  | .inr _, .inl _, h => by cases h
theorem kT_dp {H : Hp} : ∀ {k : Key} {v : V}, Dp H (kT k) v → v = kV k
  | .inl i, v, h => Dp.of_int (i := i) h
  | .inr x, v, h => Dp.of_str (x := x) h
def Kd.G : Kd P w → T → Prop
  | .key, t => ∃ k, t = kT k
  | .tup Y, t => ∃ k, t = Y.enc k
def AMap (c : Kd P w) (H : Hp) (a : Addr) (n : Nat) (f : T → Option V) : Prop :=
  match c with
  | .key => ∃ kvs, H a = some (.dK kvs) ∧ kvs.length ≤ n ∧ ∀ k, f (kT k) = valV kvs k
  | .tup Y => ∃ kvs, H a = some (DX Y a kvs) ∧ kvs.length ≤ n ∧ (∀ x ∈ kvs, Dp H (Y.enc x.1) (.ref x.2.1)) ∧ ∀ k, f (Y.enc k) = atX Y kvs k
theorem AMap.new (c : Kd P w) (H : Hp) (a : Addr) : AMap c (upd H a (emp c a)) a 0 (fun _ => none) := by
  cases c with
  | key => exact ⟨[], upd_same, Nat.le_refl _, fun _ => rfl⟩
  | tup Y => exact ⟨[], upd_same, Nat.le_refl _, nofun, fun _ => rfl⟩
theorem AMap.mono {c : Kd P w} {H H' : Hp} {a : Addr} {n : Nat} {f : T → Option V} (m : AMap c H a n f) (t : Tups H H') (e : H' a = H a) : AMap c H' a n f := by
  cases c with
  | key =>
    obtain ⟨kvs, h1, h2⟩ := m
    exact ⟨kvs, e.trans h1, h2⟩
  | tup Y =>
    obtain ⟨kvs, h1, h2, h3, h4⟩ := m
    exact ⟨kvs, e.trans h1, h2, fun x hx => (h3 x hx).mono t, h4⟩
theorem AMap.not_tup {c : Kd P w} {H : Hp} {a : Addr} {n : Nat} {f : T → Option V} (m : AMap c H a n f) : ∃ o, H a = some o ∧ ∀ xs, o ≠ .tup xs := by
  cases c with
  | key => obtain ⟨kvs, h1, _⟩ := m; exact ⟨_, h1, fun _ h => nomatch h⟩
  | tup Y => obtain ⟨kvs, h1, _⟩ := m; exact ⟨_, h1, fun _ h => nomatch h⟩
noncomputable def fput (f : T → Option V) (t : T) (v : V) : T → Option V := fun u => if dcd (u = t) then some v else f u
theorem fput_same {f : T → Option V} {t : T} {v : V} : fput f t v t = some v := by unfold fput; rw [dcd_t rfl]; rfl
theorem fput_ne {f : T → Option V} {t u : T} {v : V} (h : u ≠ t) : fput f t v u = f u := by unfold fput; rw [dcd_f h]; rfl
end
section
variable {X : Cx} {pins : List (Addr × Obj)} {σ : St} {H : Hp} {s : Shared} {a : Addr} {y v d : V} {u r : Value} {A : Around} {E : Value → Shared → Prop} {c : Kd X.prog X.w} {n : Nat} {f : T → Option V} {t : T}
theorem dx_at {Y : TK X.prog X.w} {kvs : List (Y.K × Addr × V)} (I : Inv X pins σ H s) (e : H a = some (DX Y a kvs)) (k : ∀ x ∈ kvs, Dp H (Y.enc x.1) (.ref x.2.1)) :
    (a == sysModules) = false ∧ ∃ xs, XR Y kvs xs ∧ @Heap.DictOfH X.prog X.w Y.K Y.dec Y.knd s.heap a xs := by
  obtain ⟨⟨hd, xs, o, es, ep, r, h1, h2, h3, h4, h5⟩, hrest⟩ := I.hok a _ e
  refine ⟨hd, xs, r, o, es, ep, h1, h2, h3, h4, ?_, h5⟩
  clear h4 h5 e hrest
  induction r with
  | nil => exact nofun
  | @cons p q ps qs hq t ih =>
    intro x hx
    rcases List.mem_cons.mp hx with e | hx
    · subst e
      rw [← hq.1, ← hq.2.1]
      exact Y.isOf I.hok (k p List.mem_cons_self)
    · exact ih (fun x hx => k x (List.mem_cons_of_mem _ hx)) x hx
theorem m_dget (m : AMap c H a n f) (g : c.G t) (dy : Dp H t y) : c = .key → DGet H a y (f t) := by
  intro e
  subst e
  obtain ⟨kvs, h1, _, h3⟩ := m
  obtain ⟨k, rfl⟩ := g
  rw [kT_dp dy, h3]
  exact .k h1
theorem m_get {Q : Value → Shared → Prop} (hu : A.units + 2 < cLine) (I : Inv X pins σ H s) (m : AMap c H a n f) (g : c.G t) (dy : Dp H t y) (hv : f t = some v) (ry : RelV y u) (h : ∀ w' s', Inv X pins σ H s' → RelV v w' → Q w' s') :
    wpAny (model X.prog X.w) A (getItem (.ref a) u) Q E s := by
  cases c with
  | key => exact d_getItem (by omega) I (hv ▸ m_dget m g dy rfl) ry h
  | tup Y =>
    obtain ⟨kvs, h1, _, h3, h4⟩ := m
    obtain ⟨k, rfl⟩ := g
    obtain ⟨b, rfl⟩ := Y.isTup dy
    cases (show u = Value.ref b from ry)
    obtain ⟨hd, xs, rel, dd⟩ := dx_at I h1 h3
    obtain ⟨w', hw, rw'⟩ := RelO.some_of (v := v) (o := (@atKey Y.K Y.dec xs k).map (·.2)) (by rw [← hv, h4]; exact XR.val Y rel k)
    obtain ⟨p, hp, hp2⟩ := Option.map_eq_some_iff.mp hw
    letI := Y.dec
    refine wpAny_getItem_heap (Y.room hu) (Y.isOf I.hok dy) dd hp ?_
    rw [hp2]
    exact h w' _ (I.tok _) rw'
theorem m_notIn {Q : Value → Shared → Prop} (hu : A.units + 2 < cLine) (I : Inv X pins σ H s) (m : AMap c H a n f) (g : c.G t) (dy : Dp H t y) (ry : RelV y u) (h : ∀ s', Inv X pins σ H s' → Q (.bool (!(f t).isSome)) s') :
    wpAny (model X.prog X.w) A (compareOp .NotIn u (.ref a)) Q E s := by
  cases c with
  | key => exact d_notIn (by omega) I (m_dget m g dy rfl) ry h
  | tup Y =>
    obtain ⟨kvs, h1, _, h3, h4⟩ := m
    obtain ⟨k, rfl⟩ := g
    obtain ⟨b, rfl⟩ := Y.isTup dy
    cases (show u = Value.ref b from ry)
    obtain ⟨hd, xs, rel, dd⟩ := dx_at I h1 h3
    letI := Y.dec
    refine wpAny_notIn_heap (Y.room hu) (Y.isOf I.hok dy) hd dd ?_
    have q := (XR.val Y rel k).isSome_eq
    rw [Option.isSome_map] at q
    rw [← q, ← h4]
    exact h _ (I.tok _)
theorem m_get2 {Q : Value → Shared → Prop} (hu : A.units + 2 < cLine) (I : Inv X pins σ H s) (m : AMap c H a n f) (g : c.G t) (dy : Dp H t y) (ry : RelV y u) (rd : RelV d r) (h : ∀ w' s', Inv X pins σ H s' → RelV ((f t).getD d) w' → Q w' s') :
    wpAny (model X.prog X.w) A (call (.builtin "dict.get") [.ref a, u, r]) Q E s := by
  cases c with
  | key => exact d_get2 (by omega) I (m_dget m g dy rfl) ry rd h
  | tup Y =>
    obtain ⟨kvs, h1, _, h3, h4⟩ := m
    obtain ⟨k, rfl⟩ := g
    obtain ⟨b, rfl⟩ := Y.isTup dy
    cases (show u = Value.ref b from ry)
    obtain ⟨hd, xs, rel, dd⟩ := dx_at I h1 h3
    letI := Y.dec
    refine call_meetsIn PySem.F.slot_dict_get dd.typeIs PySem.F.entry_dict_get (PySem.F.args_dict_get_3 _ _ _) (meetsH_dict_get_default Y.knd a b hd r) ⟨Y.room hu, k, xs, Y.isOf I.hok dy, dd, h _ _ (I.tok _) ?_⟩
    rw [h4]
    exact (XR.val Y rel k).getD rd
theorem m_set {Q : Unit → Shared → Prop} (hu : A.units + 2 < cLine) (I : Inv X pins σ H s) (m : AMap c H a n f) (hn : n < 1000) (g : c.G t) (dy : Dp H t y) (ry : RelV y u) (rv : RelV v r)
    (h : ∀ o s', Inv X pins σ (upd H a o) s' → AMap c (upd H a o) a (n + 1) (fput f t v) → Q () s') : wpAny (model X.prog X.w) A (setItem (.ref a) u r) Q E s := by
  have big : (1000 : Nat) < sizeLine := by decide
  cases c with
  | key =>
    obtain ⟨kvs, h1, h2, h3⟩ := m
    obtain ⟨k, rfl⟩ := g
    rw [kT_dp dy] at ry
    refine d_setItem (by omega) I (.k (k := k) (v := v) h1 (by omega)) ry rv fun s' I' => h _ s' I' ⟨_, upd_same, ?_, fun j => ?_⟩
    · have := length_putK kvs k v
      omega
    · rw [valV_put, ← h3]
      by_cases e : j = k
      · rw [if_pos e, e, fput_same]
      · rw [if_neg e, fput_ne (fun z => e (kT_inj z))]
  | tup Y =>
    obtain ⟨kvs, h1, h2, h3, h4⟩ := m
    obtain ⟨k, rfl⟩ := g
    obtain ⟨b, rfl⟩ := Y.isTup dy
    cases (show u = Value.ref b from ry)
    obtain ⟨hd, xs, rel, dd⟩ := dx_at I h1 h3
    letI := Y.dec
    have hz : xs.length ≤ sizeLine := by have := Paired.length rel; omega
    refine wpAny_setItem_heap (hsz := hz) (Y.room hu) (Y.isOf I.hok dy) dd fun h' dd' hs => ?_
    obtain ⟨q, es, ep, hq, g2, g3, g4, _, g5⟩ := dd'
    refine h (DX Y a (putX Y kvs k b v)) _ (d_write I (by rw [h1]; exact True.intro) hs ⟨q, hq⟩ ⟨⟨hd, _, q, es, ep, XR.put Y rel k b rv, hq, g2, g3, g4, g5⟩, ⟨q, hq⟩, ?_⟩) ⟨_, upd_same, ?_, fun x hx => ?_, fun j => ?_⟩
    · rintro p1 p2 ⟨e1, xs', o', es', ep', e2, e3, e4⟩ kk
      exact ⟨e1, xs', o', es', ep', e2, kk _ e3, e4⟩
    · have := len_put Y kvs k b v
      omega
    · have nt : Tups H (upd H a (DX Y a (putX Y kvs k b v))) := fun c ys ec => by
        rw [upd_ne (ne_of ec h1 (fun z => nomatch z))]
        exact ec
      rcases mem_put Y hx with ⟨e1, e2⟩ | ⟨y', hy, e1, e2⟩
      · rw [e1, e2]
        exact dy.mono nt
      · rw [← e1, ← e2]
        exact (h3 y' hy).mono nt
    · rw [atX_put, ← h4]
      by_cases e : j = k
      · rw [if_pos e, e, fput_same]
      · rw [if_neg e, fput_ne (fun z => e (Y.inj z))]
theorem m_is (I : Inv X pins σ H s) (m : AMap c H a n f) : s.TypeIs (.ref a) "dict" ∧ (∀ b, Value.ref a = .ref b → ∃ ob, s.heap.get? b = some ob ∧ ob.dict = none) := by
  cases c with
  | key =>
    obtain ⟨kvs, h1, _⟩ := m
    obtain ⟨t1, t2, _⟩ := isD_at I (.inl ⟨kvs, .inl h1⟩)
    exact ⟨t1, t2⟩
  | tup Y =>
    obtain ⟨kvs, h1, _, h3, _⟩ := m
    obtain ⟨hd, xs, rel, dd⟩ := dx_at I h1 h3
    letI := Y.dec
    refine ⟨dd.typeIs, fun b q => ?_⟩
    cases q
    obtain ⟨ob, _, _, g1, g2, _⟩ := dd
    exact ⟨ob, g1, g2.2.1⟩
end
def tAGet (P : Program) (w : World) (td ty : TE) : TE := fun σ H Q => td σ H fun x H1 => ty σ H1 fun y H2 => ∃ a v, x = .ref a ∧ (∃ (c : Kd P w) (n : Nat) (f : T → Option V) (t : T), AMap c H2 a n f ∧ c.G t ∧ Dp H2 t y ∧ f t = some v) ∧ Q v H2
def tAGet2 (P : Program) (w : World) (td ty tx : TE) : TE := fun σ H Q => td σ H fun x H1 => ∃ a, x = .ref a ∧ (∃ (c : Kd P w) (n : Nat) (f : T → Option V), AMap c H1 a n f) ∧ ty σ H1 fun y H2 => tx σ H2 fun z H3 => ∃ o, (∃ (c : Kd P w) (n : Nat) (f : T → Option V) (t : T), AMap c H3 a n f ∧ c.G t ∧ Dp H3 t y ∧ f t = o) ∧ Q (o.getD z) H3
def tANotIn (P : Program) (w : World) (ty td : TE) : TE := fun σ H Q => ty σ H fun y H1 => td σ H1 fun x H2 => ∃ a o, x = .ref a ∧ (∃ (c : Kd P w) (n : Nat) (f : T → Option V) (t : T), AMap c H2 a n f ∧ c.G t ∧ Dp H2 t y ∧ f t = o) ∧ Q (.bl (!o.isSome)) H2
def sAPut (P : Program) (w : World) (td ty tv : TE) : TS := fun D σ H => tv σ H fun v H1 => td σ H1 fun x H2 => ty σ H2 fun y H3 => ∃ (a : Addr) (c : Kd P w) (n : Nat) (f : T → Option V) (t : T), x = .ref a ∧ AMap c H3 a n f ∧ n < 1000 ∧ c.G t ∧ Dp H3 t y ∧ ∀ o, AMap c (upd H3 a o) a (n + 1) (fput f t v) → D.nx σ (upd H3 a o)
def tANew (P : Program) (w : World) : TE := fun _ H Q => ∃ c : Kd P w, ∀ p, H p = none → Q (.ref p) (upd H p (emp c p))
section
variable {X : Cx} {o i e f value : Expr} {pos pos' tpos apos cpos : Pos} {td ty tv tx : TE}
theorem pe_aget (hu : X.A.units + 2 < cLine) (ho : PE X o td) (hi : PE X i ty) (hs : NoSl i) : PE X (.Subscript o i pos) (tAGet X.prog X.w td ty) := by
  intro pins s σ H Q I h
  refine subD_of PySem.F.slot_dict_getitem.lookup hs (thn (ho pins s σ H _ I h) fun u s1 ⟨x, H1, I1, rx, q1⟩ => thn (hi pins s1 σ H1 _ I1 q1) fun iv s2 ⟨y, H2, I2, ry, a, v, ex, ⟨c, n, f, t, m, g, dy, hv⟩, q2⟩ => ?_)
  subst ex
  obtain rfl : u = Value.ref a := rx
  exact ⟨(m_is I2 m).1, m_get hu I2 m g dy hv ry fun w' s3 I3 rw' => ⟨v, H2, I3, rw', q2⟩⟩
theorem pc_anotin (hu : X.A.units + 2 < cLine) (hi : PE X i ty) (ho : PE X o td) : PC X .NotIn i o (tANotIn X.prog X.w ty td) := by
  intro pins s σ H Q I h
  refine thn (hi pins s σ H _ I h) fun iv s1 ⟨y, H1, I1, ry, q1⟩ => thn (ho pins s1 σ H1 _ I1 q1) fun u s2 ⟨x, H2, I2, rx, a, ov, ex, ⟨c, n, f, t, m, g, dy, hv⟩, q2⟩ => ?_
  subst ex
  subst hv
  obtain rfl : u = Value.ref a := rx
  exact m_notIn hu I2 m g dy ry fun s3 I3 => ⟨.bl (!(f t).isSome), H2, I3, rfl, q2⟩
theorem ps_aput (hu : X.A.units + 2 < cLine) (ho : PE X o td) (hi : PE X i ty) (hv : PE X value tv) (hs : swapsWith value (some (.Subscript o i pos')) pos.line X.env = pure false) :
    PS X (.Assign [.Subscript o i pos'] value pos) (sAPut X.prog X.w td ty tv) := by
  intro pins s σ H D I h
  refine wpAny_Assign_Subscript (thn (hv pins s σ H _ I h) fun r s1 ⟨v, H1, I1, rv, q1⟩ => thn (ho pins s1 σ H1 _ I1 q1) fun u s2 ⟨x, H2, I2, rx, q2⟩ => thn (hi pins s2 σ H2 _ I2 q2) fun iv s3 ⟨y, H3, I3, ry, a, c, n, f, t, ex, m, hn, g, dy, q3⟩ => ?_) hs
  subst ex
  obtain rfl : u = Value.ref a := rx
  exact m_set hu I3 m hn g dy ry rv fun ob s4 I4 m4 => ⟨σ, _, I4, q3 ob m4⟩
theorem pe_aget2 (hu : X.A.units + 2 < cLine) (ho : PE X o td) (he : PE X e ty) (hf : PE X f tx) (m : M2 X o "get" apos e f cpos) : PE X (.Call (.Attribute o "get" apos) [e, f] [] cpos) (tAGet2 X.prog X.w td ty tx) := by
  intro pins s σ H Q I h
  refine wpAny_Call_method m.base m.few m.line PySem.F.plainAttrs_dict PySem.F.slot_dict_get PySem.F.type_dict_get (thn (ho pins s σ H _ I h) fun u s1 ⟨x, H1, I1, rx, a, ex, ⟨c, n, fm, m1⟩, q1⟩ => ?_)
  subst ex
  obtain rfl : u = Value.ref a := rx
  obtain ⟨t1, t2⟩ := m_is I1 m1
  refine ⟨t1, t2, ?_⟩
  rw [m.trees]
  refine Calls.callWith_builtin rfl (Calls.evalArgs_plain (Calls.spliced_cons (thn (he pins s1 σ H1 _ I1 q1) fun iv s2 ⟨y, H2, I2, ry, q2⟩ =>
    Calls.spliced_cons (thn (hf pins s2 σ H2 _ I2 q2) fun fv s3 ⟨z, H3, I3, rz, ov, ⟨c', n', f', t, m', g, dy, hv⟩, q3⟩ => Calls.spliced_nil ?_))))
  subst hv
  exact m_get2 hu I3 m' g dy ry rz fun w' s4 I4 rw' => ⟨_, H3, I4, rw', q3⟩
theorem pe_anew : PE X (.Dict [] [] pos) (tANew X.prog X.w) := fun pins s σ H Q I ⟨c, h⟩ => by
  have hb := I.big
  refine wpAny_Dict_empty ⟨.ref s.heap.objs.size, _, I.laid (a := s.heap.objs.size) (o := emp c s.heap.objs.size) (t' := s.toks) (fun _ _ q => Heap.get?_push_of_some _ q) (Nat.le_refl _) ?_, rfl, h _ (I.hok.fresh (Nat.le_refl _))⟩
  cases c with
  | key => exact dk_empty s.heap I.big
  | tup Y =>
    refine ⟨⟨beq_eq_false_iff_ne.mpr (Ne.symm (Nat.ne_of_lt hb)), [], _, #[], 0, .nil, Heap.get?_push_size _ rfl, ⟨rfl, rfl, rfl⟩, rfl, rfl, List.nodup_nil⟩, ⟨_, Heap.get?_push_size _ rfl⟩, ?_⟩
    rintro p1 p2 ⟨e1, xs', o', es', ep', e2, e3, e4⟩ kk
    exact ⟨e1, xs', o', es', ep', e2, kk _ e3, e4⟩
end
end L2
end
section
set_option autoImplicit false
namespace L2
open PySem PySem.Spec PyProof.Rows
theorem hu2 {A : Around} (h : A.units + 10 < cLine) : A.units + 2 < cLine := by omega
theorem preSum_take (ns : List Int) : ∀ k, k ≤ ns.length → preSum (fun i => ns.getD i 0) k = (ns.take k).sum
  | 0, _ => rfl
  | k + 1, h => by
    rw [take_sum_succ ns k h, ← preSum_take ns k (by omega)]
    rfl
section
variable {X : Cx}
theorem call_sumT (hc : X.calm = true) : CallR X (.builtin "sum") (fun xs H Q => ∃ (p : Addr) (ns : List Int), xs = [.ref p] ∧ H p = some (.tup (ns.map V.int)) ∧ Q (.int ns.sum) H) := by
  intro pins s σ H xs us Q I r h
  obtain ⟨p, ns, rfl, hq, q⟩ := h
  obtain ⟨u, rfl, ru⟩ := vals1 r
  cases ru
  obtain ⟨its, rv, pl⟩ := tup_at I hq
  have hl := rv.length
  rw [List.length_map] at hl
  refine call_sum_walkG (wpAny_pyIter_tuple pl ?_)
  have plt : p < s.heap.objs.size := by obtain ⟨o, e, _⟩ := pl; exact Heap.lt_size e
  refine ⟨s.heap.objs.size, _, _, _, _, _, fun i => ns.getD i 0, rfl, Walks.tuple (A := X.A.in1) (I.ok.hd hc) s.heap.objs.size p (Nat.ne_of_lt plt) its.toArray, ⟨⟨_, Heap.get?_push_size _ rfl, rfl, rfl⟩, Heap.IsTuple.push pl _⟩, fun b hb => ?_, fun i v hv => ?_, fun h' tk t' kk => ?_⟩
  · have e0 : ∀ o : Obj, (s.heap.push o).objs.size = s.heap.objs.size + 1 := fun o => Heap.size_push ..
    show b < (s.heap.push _).objs.size
    rw [e0]
    rcases List.mem_cons.mp hb with rfl | hb
    · exact Nat.lt_succ_self _
    · rw [List.mem_singleton.mp hb]
      exact Nat.lt_succ_of_lt plt
  · have hi : i < ns.length := by
      have := (Array.getElem?_eq_some_iff.mp hv).1
      rw [List.size_toArray] at this
      omega
    obtain ⟨u, hu, ru⟩ := rv.get (i := i) (x := V.int ns[i]) (by simp [hi])
    have hv' : its[i]? = some v := by simpa using hv
    rw [hv'] at hu
    cases hu
    obtain ⟨t, rfl⟩ := ru
    exact ⟨t, by simp [hi]⟩
  · have ee : preSum (fun i => ns.getD i 0) its.toArray.size = ns.sum := by
      rw [List.size_toArray, ← hl, preSum_take ns ns.length (Nat.le_refl _), List.take_length]
    rw [ee]
    have I1 : Inv X pins σ H { s with heap := s.heap.push { cls := .type "tuple_iterator", data := .fields #[.ref p, .int 0 0] } } := I.kept (t' := s.toks) fun b o e => Heap.get?_push_of_some _ e
    refine ⟨.int _, H, I1.turned (t' := tk) (it := s.heap.objs.size) (fun b o hb e => kk b o (by simpa using hb) e) (I.hok.fresh (Nat.le_refl _)) (Nat.ne_of_gt I.lt) (.inr I.sz) ?_ ?_, ⟨_, rfl⟩, q⟩
    · exact (I.fpOk (Nat.le_refl _) (I.hok.fresh (Nat.le_refl _))).2.2.2.2.1
    · exact (I.fpOk (Nat.le_refl _) (I.hok.fresh (Nat.le_refl _))).2.2.2.2.2
end
end L2
theorem L2.bt_sum : PySem.bootBuiltins "sum" = some (.builtin "sum") := by decide +kernel
end
section
set_option autoImplicit false
namespace K47
open PySem PyProof.Rows L2
theorem cutV_to (xs : List V) (k : Nat) (h : k ≤ xs.length) : cutV xs none (some (k : Int)) = xs.take k := by
  unfold cutV
  rw [HT.sIx_nat, Nat.min_eq_left h]
  rfl
theorem SqL.keep {K : PySem.W.Frag} {H H' : Hp} {a : Addr} {xs : List V} (h : SqL K H a xs) (k : ∀ o, H a = some o → H' a = some o) : SqL K H' a xs := by
  rcases h with (h | ⟨o, h⟩) | h
  · exact .inl (.inl (k _ h))
  · exact .inl (.inr ⟨o, k _ h⟩)
  · exact .inr h
theorem DpL.take {H : Hp} : ∀ {ts : List T} {xs : List V} (m : Nat), DpL H ts xs → DpL H (ts.take m) (xs.take m)
  | [], xs, m, h => by rw [h.of_nil]; simp; exact .nil
  | t :: ts, xs, 0, h => by simp; exact .nil
  | t :: ts, xs, m + 1, h => by
    obtain ⟨x, r, rfl, h1, h2⟩ := L2.DpL.cases h
    exact .cons h1 (K47.DpL.take m h2)
theorem DpL.rep {H : Hp} {ts : List T} {xs : List V} (h : DpL H ts xs) : ∀ (m : Nat), DpL H (List.replicate m ts).flatten (List.replicate m xs).flatten
  | 0 => .nil
  | m + 1 => by
    rw [List.replicate_succ, List.replicate_succ, List.flatten_cons, List.flatten_cons]
    exact h.append (K47.DpL.rep h m)
def keyT (q : Rec) : T := .tup [q.who, .int q.num]
def kd1 (P : Program) (w : World) : Nat → Kd P w
  | 0 => .key
  | 1 => .key
  | _ => .tup (tk1 P w)
def kd2 (P : Program) (w : World) : Nat → Kd P w
  | 0 => .tup (tk1 P w)
  | 1 => .tup (tk1 P w)
  | _ => .tup (tk2 P w)
theorem who_enc {x : Str} {u : T} (h : u = .non ∨ ∃ y, u = .str y) : ∃ ks : List KeyN, T.tup [.str x, u] = .tup (ks.map nT) := by
  rcases h with rfl | ⟨y, rfl⟩
  · exact ⟨[some (.inr x), none], rfl⟩
  · exact ⟨[some (.inr x), some (.inr y)], rfl⟩
theorem who_G {P : Program} {w : World} {n : Nat} {t : T} (h : WhoS n t) : (kd1 P w n).G t := by
  match n, h with
  | 0, ⟨i, e⟩ => exact ⟨.inl i, e⟩
  | 1, ⟨x, e⟩ => exact ⟨.inr x, e⟩
  | n + 2, ⟨x, u, e, hu⟩ =>
    obtain ⟨ks, ek⟩ := who_enc (x := x) hu
    exact ⟨ks, e.trans ek⟩
theorem key_G {P : Program} {w : World} {n : Nat} {q : Rec} (h : WhoS n q.who) : (kd2 P w n).G (keyT q) := by
  unfold keyT
  match n, h with
  | 0, ⟨i, e⟩ => exact ⟨[some (.inl i), some (.inl q.num)], by rw [e]; rfl⟩
  | 1, ⟨x, e⟩ => exact ⟨[some (.inr x), some (.inl q.num)], by rw [e]; rfl⟩
  | n + 2, ⟨x, u, e, hu⟩ =>
    obtain ⟨ks, ek⟩ := who_enc (x := x) hu
    exact ⟨(ks, q.num), by rw [e, ek]; rfl⟩
section
variable {P : Program} {w : World}
structure AI (c1 c2 : Kd P w) (H : Hp) (n : Nat) (wl dn dk al : Addr) (ts : List T) (xs : List V) (i j : Nat) (st : Bool) (f1 f2 : T → Option V) (qs : List Rec) (ys : List V) : Prop where
  ws : WhosL H n ts wl xs
  m1 : AMap c1 H dn i f1
  m2 : AMap c2 H dk j f2
  zs : ∀ t v, f1 t = some v → ∃ z, v = .int z
  ans : ∀ t v, f2 t = some v → ∃ a, Dp H a v ∧ Lz 1 a
  at_ : H al = some (.lst ys)
  dl : DpL H (qs.map recT) ys
  ok : ∀ q ∈ qs, WhoS n q.who ∧ Lz 1 q.ans
  sd : st = true → ∀ q ∈ qs, ∃ v, f2 (keyT q) = some v ∧ Dp H q.ans v
structure DI (wl dn dk al : Addr) : Prop where
  a : wl ≠ dn
  b : wl ≠ dk
  c : wl ≠ al
  d : dn ≠ dk
  e : dn ≠ al
  f : dk ≠ al
variable {c1 c2 : Kd P w} {H H' : Hp} {n : Nat} {wl dn dk al : Addr} {ts : List T} {xs : List V} {i j : Nat} {st : Bool} {f1 f2 : T → Option V} {qs : List Rec} {ys : List V}
theorem AI.keep (h : AI c1 c2 H n wl dn dk al ts xs i j st f1 f2 qs ys) (tu : Tups H H') (e : ∀ b, (b = wl ∨ b = dn ∨ b = dk ∨ b = al) → H' b = H b) : AI c1 c2 H' n wl dn dk al ts xs i j st f1 f2 qs ys :=
  ⟨⟨(e wl (.inl rfl)).trans h.ws.at_, h.ws.dl.mono tu, h.ws.ten, h.ws.ok⟩, h.m1.mono tu (e dn (.inr (.inl rfl))), h.m2.mono tu (e dk (.inr (.inr (.inl rfl)))), h.zs, fun t v hv => by
    obtain ⟨a, d, l⟩ := h.ans t v hv
    exact ⟨a, d.mono tu, l⟩, (e al (.inr (.inr (.inr rfl)))).trans h.at_, h.dl.mono tu, h.ok, fun s q hq => by
    obtain ⟨v, e, d⟩ := h.sd s q hq
    exact ⟨v, e, d.mono tu⟩⟩
theorem amap_some {c : Kd P w} {a : Addr} {n : Nat} {f : T → Option V} (m : AMap c H a n f) : ∃ o, H a = some o := let ⟨o, h, _⟩ := m.not_tup; ⟨o, h⟩
theorem AI.ex (h : AI c1 c2 H n wl dn dk al ts xs i j st f1 f2 qs ys) {b : Addr} (hb : b = wl ∨ b = dn ∨ b = dk ∨ b = al) : ∃ o, H b = some o := by
  rcases hb with rfl | rfl | rfl | rfl
  · exact ⟨_, h.ws.at_⟩
  · exact amap_some h.m1
  · exact amap_some h.m2
  · exact ⟨_, h.at_⟩
theorem AI.same (h : AI c1 c2 H n wl dn dk al ts xs i j st f1 f2 qs ys) (s : Same H H') : AI c1 c2 H' n wl dn dk al ts xs i j st f1 f2 qs ys :=
  h.keep (Same.tups s) fun b hb => by
    obtain ⟨o, e⟩ := h.ex hb
    rw [e, s b o e]
theorem AI.off (h : AI c1 c2 H n wl dn dk al ts xs i j st f1 f2 qs ys) {q : Addr} (o : Off q H H') (hp : Pu H q) (ne : ∀ b, (b = wl ∨ b = dn ∨ b = dk ∨ b = al) → b ≠ q) : AI c1 c2 H' n wl dn dk al ts xs i j st f1 f2 qs ys :=
  h.keep (tups_off o hp) fun b hb => by
    obtain ⟨u, e⟩ := h.ex hb
    rw [e, o b u (ne b hb) e]
theorem tups_put {c : Kd P w} {a : Addr} {n : Nat} {f : T → Option V} {o : HO} (m : AMap c H a n f) : Tups H (upd H a o) := fun b zs e => by
  obtain ⟨u, hu, nt⟩ := m.not_tup
  rw [upd_ne (fun z => by rw [z, hu] at e; exact nt _ (Option.some.inj e))]
  exact e
theorem AI.put1 (h : AI c1 c2 H n wl dn dk al ts xs i j st f1 f2 qs ys) (d : DI wl dn dk al) {o : HO} {t : T} {z : Int} (m : AMap c1 (upd H dn o) dn (i + 1) (fput f1 t (.int z))) : AI c1 c2 (upd H dn o) n wl dn dk al ts xs (i + 1) j st (fput f1 t (.int z)) f2 qs ys := by
  have tu : Tups H (upd H dn o) := tups_put h.m1
  refine ⟨⟨by rw [upd_ne d.a]; exact h.ws.at_, h.ws.dl.mono tu, h.ws.ten, h.ws.ok⟩, m, h.m2.mono tu (upd_ne d.d.symm), fun u v hv => ?_, fun u v hv => ?_, by rw [upd_ne d.e.symm]; exact h.at_, h.dl.mono tu, h.ok, fun s q hq => ?_⟩
  · by_cases e : u = t
    · rw [e, fput_same] at hv
      cases hv
      exact ⟨z, rfl⟩
    · rw [fput_ne e] at hv
      exact h.zs u v hv
  · obtain ⟨a, d, l⟩ := h.ans u v hv
    exact ⟨a, d.mono tu, l⟩
  · obtain ⟨v, e, d⟩ := h.sd s q hq
    exact ⟨v, e, d.mono tu⟩
theorem AI.put2 (h : AI c1 c2 H n wl dn dk al ts xs i j st f1 f2 qs ys) (d : DI wl dn dk al) {o : HO} {t : T} {v : V} {a : T} (m : AMap c2 (upd H dk o) dk (j + 1) (fput f2 t v)) (dv : Dp H a v) (lz : Lz 1 a) (hn : st = true → f2 t = none) :
    AI c1 c2 (upd H dk o) n wl dn dk al ts xs i (j + 1) st f1 (fput f2 t v) qs ys := by
  have tu : Tups H (upd H dk o) := tups_put h.m2
  refine ⟨⟨by rw [upd_ne d.b]; exact h.ws.at_, h.ws.dl.mono tu, h.ws.ten, h.ws.ok⟩, h.m1.mono tu (upd_ne d.d), m, h.zs, fun u x hv => ?_, by rw [upd_ne d.f.symm]; exact h.at_, h.dl.mono tu, h.ok, fun s q hq => ?_⟩
  · by_cases e : u = t
    · rw [e, fput_same] at hv
      cases hv
      exact ⟨a, dv.mono tu, lz⟩
    · rw [fput_ne e] at hv
      obtain ⟨a, d, l⟩ := h.ans u x hv
      exact ⟨a, d.mono tu, l⟩
  · obtain ⟨x, e, d⟩ := h.sd s q hq
    refine ⟨x, ?_, d.mono tu⟩
    rw [fput_ne (fun z => by rw [z, hn s] at e; cases e)]
    exact e
theorem AI.snoc (h : AI c1 c2 H n wl dn dk al ts xs i j st f1 f2 qs ys) (d : DI wl dn dk al) {q : Rec} {x : V} (hq : WhoS n q.who ∧ Lz 1 q.ans) (dx : Dp H (recT q) x) (hs : ∃ v, f2 (keyT q) = some v ∧ Dp H q.ans v) :
    AI c1 c2 (upd H al (.lst (ys ++ [x]))) n wl dn dk al ts xs i j st f1 f2 (qs ++ [q]) (ys ++ [x]) := by
  have tu : Tups H (upd H al (.lst (ys ++ [x]))) := fun b zs e => by
    rw [upd_ne (ne_of e h.at_ (fun z => nomatch z))]
    exact e
  refine ⟨⟨by rw [upd_ne d.c]; exact h.ws.at_, h.ws.dl.mono tu, h.ws.ten, h.ws.ok⟩, h.m1.mono tu (upd_ne d.e), h.m2.mono tu (upd_ne d.f), h.zs, fun u v hv => ?_, upd_same, ?_, fun r hr => ?_, fun s r hr => ?_⟩
  · obtain ⟨a, d, l⟩ := h.ans u v hv
    exact ⟨a, d.mono tu, l⟩
  · rw [List.map_append]
    exact K47.DpL.snoc (h.dl.mono tu) (dx.mono tu)
  · rcases List.mem_append.mp hr with hr | hr
    · exact h.ok r hr
    · rw [List.mem_singleton.mp hr]
      exact hq
  · rcases List.mem_append.mp hr with hr | hr
    · obtain ⟨v, e, d⟩ := h.sd s r hr
      exact ⟨v, e, d.mono tu⟩
    · rw [List.mem_singleton.mp hr]
      obtain ⟨v, e, d⟩ := hs
      exact ⟨v, e, d.mono tu⟩
end
section
variable {P : Program} {w : World} {K : PySem.W.Frag} {mg : Str → Option Value} {base : Heap} {t : Adr}
def spAsks (K : PySem.W.Frag) : Sp := fun vs H Q _ => ∃ (a p : Addr) (ns : List Int) (many : Nat) (sh : Int), vs = [.ref a, .int many, .ref p, .int sh] ∧ (∀ H', Off p H H' → SqL K H' a (ns.map V.int)) ∧ ns.length ≤ 63 ∧ many ≤ 60 ∧ Pu H p ∧ 0 ≤ sh ∧ sh ≤ 3 ∧
  ∀ (L l : Addr) (st : Bool) (qs : List Rec) (ys : List V) H', H' L = some (.lst [.bl st, .ref l]) → H' l = some (.lst ys) → DpL H' (qs.map recT) ys → qs.length = many → (∀ q ∈ qs, WhoS (sortN sh) q.who ∧ Lz 1 q.ans) → (st = true → ∀ q ∈ qs, ∀ r ∈ qs, q.who = r.who → q.num = r.num → q.ans = r.ans) → Tups H H' → Q (.ref L) H'
theorem ok_asks (D : Defs K mg t) : FnOk P w K mg base CX0 5 t._law_asks.1 t._law_asks.2 ["_law_script", "_law_many", "_law_head", "_law_sort"] (spAsks K) := by
  have G__law_take : FnOk P w K mg base CX0 1 t._law_take.1 t._law_take.2 _ spTake := ok_take D
  have G__law_purse : FnOk P w K mg base CX0 1 t._law_purse.1 t._law_purse.2 _ spPurse := ok_purse D
  have G__law_cell : FnOk P w K mg base CX0 1 t._law_cell.1 t._law_cell.2 _ (spCell K) := ok_cell D
  have G__law_whos : FnOk P w K mg base CX0 4 t._law_whos.1 t._law_whos.2 _ spWhos := ok_whos D
  have G__law_answer : FnOk P w K mg base CX0 2 t._law_answer.1 t._law_answer.2 _ spAnswer := ok_answer D
  have hz : sizeLine = 16777216 := sizeLine_eq
  refine D._law_asks.fn.ok sc__law_asks (fun vs H Q E h => ?_) (fun cdv A outer s H vs Q E hr h => ?_)
  · obtain ⟨a, p, ns, many, sh, rfl, _⟩ := h
    rfl
  · obtain ⟨a, p, ns, many, sh, rfl, hS, hns, hmany, hp, hs0, hs3, k⟩ := h
    refine ⟨_, (pss_cons (ps_set (i := 4) sc__law_asks.nd rfl (Or.inl rfl) (pe_slice sl_list (pe_callF D._law_whos G__law_whos (hr.mono (by omega)) (by rfl) (pa_cons (pv 2) (pa_cons (pv 3) pa_nil))) po_none (po_some (pe_op op_add pe_int (pe_callF D._law_take G__law_take (hr.mono (by omega)) (by rfl) (pa_cons (pv 2) (pa_cons pe_int pa_nil)))))))
      (pss_cons (ps_set (i := 4) sc__law_asks.nd rfl (Or.inl rfl) (pe_op op_cat (pv 4) (pe_op op_rep (pe_slice sl_list (pv 4) po_none (po_some pe_int)) pe_int)))
      (pss_cons (ps_set (i := 5) sc__law_asks.nd rfl (Or.inl rfl) (pe_cmpR op_gt (pe_callF D._law_take G__law_take (hr.mono (by omega)) (by rfl) (pa_cons (pv 2) (pa_cons pe_int pa_nil))) pe_int (nomark _)))
      (pss_cons (ps_par3 (i := 6) (j := 7) (k := 8) rfl sc__law_asks.nd rfl rfl rfl (by decide) (by decide) (by decide) rfl rfl rfl (pa_cons pe_anew (pa_cons pe_anew (pa_cons (pe_lst pa_nil) pa_nil))) rfl)
      (pss_cons (ps_for PassesOwn.never rfl (pi_range1 rfl D.b_range (pa_cons (pv 1) pa_nil)) (pg_name (i := 9) sc__law_asks.nd rfl (Or.inl rfl))
      (pss_cons (ps_set (i := 10) sc__law_asks.nd rfl (Or.inl rfl) (pe_callF D._law_purse G__law_purse (hr.mono (by omega)) (by rfl) (pa_cons (pe_callF D._law_cell G__law_cell (hr.mono (by omega)) (by rfl) (pa_cons (pv 0) (pa_cons (pe_op op_add pe_int (pv 9)) pa_nil))) pa_nil)))
      (pss_cons (ps_set (i := 11) sc__law_asks.nd rfl (Or.inl rfl) (pe_ix ix_list (pv 4) (pe_callF D._law_take G__law_take (hr.mono (by omega)) (by rfl) (pa_cons (pv 10) (pa_cons (pe_op op_sub (pe_callB call_len_seq (by rfl) D.b_len bt_len (pa_cons (pv 4) pa_nil)) pe_int) pa_nil))) (fun _ _ => rfl)))
      (pss_cons (ps_aput (hu2 (hu10 hr)) (pv 6) (pv 11) (pe_op op_add (pe_aget2 (hu2 (hu10 hr)) (pv 6) (pv 11) pe_int ⟨by rfl, by rfl, by rfl, by rfl⟩) (pe_ix ix_list (pe_lst (pa_cons pe_int (pa_cons pe_int (pa_cons pe_int (pa_cons pe_int (pa_cons pe_int pa_nil)))))) (pe_callF D._law_take G__law_take (hr.mono (by omega)) (by rfl) (pa_cons (pv 10) (pa_cons pe_int pa_nil))) (fun _ _ => rfl))) rfl)
      (pss_cons (ps_set (i := 12) sc__law_asks.nd rfl (Or.inl rfl) (pe_tup (pa_cons (pv 11) (pa_cons (pe_aget (hu2 (hu10 hr)) (pv 6) (pv 11) (fun _ _ => rfl)) pa_nil))))
      (pss_join (ps_if (PW.pt (pw_or (pt_not (pt_truth (pv 5) (by intro _; rfl))) (pw_or1 (pt_cmp (pc_anotin (hu2 (hu10 hr)) (pv 12) (pv 7))))))
      (pss_one (ps_aput (hu2 (hu10 hr)) (pv 7) (pv 12) (pe_ix ix_list (pe_lst (pa_cons (pe_callF D._law_answer G__law_answer (hr.mono (by omega)) (by rfl) (pa_cons (pv 10) (pa_cons (pv 3) (pa_cons (pv 4) pa_nil)))) (pa_cons pe_non pa_nil))) (pe_callTy call_int1 (by rfl) D.b_int bt_int (pa_cons (pe_cmpR op_eq (pe_callF D._law_take G__law_take (hr.mono (by omega)) (by rfl) (pa_cons (pv 10) (pa_cons pe_int pa_nil))) pe_int (nomark _)) pa_nil)) (fun _ _ => rfl)) rfl))
      pss_nil)
      (pss_one (ps_expr (pe_bm PySem.F.plainAttrs_list PySem.F.slot_list_append PySem.F.type_list_append mt_append (pv 8) (pa_cons (pe_tup (pa_cons (pv 11) (pa_cons (pe_aget (hu2 (hu10 hr)) (pv 6) (pv 11) (fun _ _ => rfl)) (pa_cons (pe_aget (hu2 (hu10 hr)) (pv 7) (pv 12) (fun _ _ => rfl)) pa_nil)))) pa_nil))))))))))
      (pss_one (ps_ret (pe_lst (pa_cons (pv 5) (pa_cons (pv 8) pa_nil)))))))))), ?_⟩
    refine ⟨_, rfl, _, rfl, p, sh, rfl, hp, hs0, hs3, fun l0 ts xs H1 hw1 o1 p1 => ?_⟩
    have l0p : l0 ≠ p := fun e => by
      obtain ⟨x, y, z, ep⟩ := p1
      have h1 := hw1.at_
      rw [e, ep] at h1
      injection h1 with h1
      injection h1 with h1
      have e1 := hw1.dl.length
      rw [← h1, hw1.ten] at e1
      cases e1
    refine ⟨_, rfl, p, 10, rfl, p1, by decide, by decide, fun r a1 b1 c1 l1 u1 => ⟨_, _, rfl, rfl, ?_⟩⟩
    obtain ⟨m, em⟩ : ∃ m : Nat, 1 + r = (m : Int) := ⟨(1 + r).toNat, by omega⟩
    have o2 : Off p H1 (upd H1 p (.lst [.int a1, .int b1, .int c1])) := Off.upd
    have p2 : Pu (upd H1 p (.lst [.int a1, .int b1, .int c1])) p := Pu.upd
    have hl2 := o2 l0 _ l0p hw1.at_
    have dl2 := hw1.dl.mono (tups_off o2 p1)
    generalize upd H1 p (.lst [.int a1, .int b1, .int c1]) = H2 at o2 p2 hl2 dl2
    have hxl : xs.length = 10 := by rw [hw1.dl.length, hw1.ten]
    refine ⟨(m : Int), (show V.int (1 + r) = _ by rw [em]), l0, _, rfl, SqL.of hl2, fun w0 hw0 => ?_⟩
    rw [cutV_to xs m (by omega)]
    have s3 : Same H2 (upd H2 w0 (.lst (xs.take m))) := Same.new hw0
    have h03 : (upd H2 w0 (.lst (xs.take m))) w0 = some (.lst (xs.take m)) := upd_same
    have p3 := p2.same s3
    generalize upd H2 w0 (.lst (xs.take m)) = H3 at s3 h03 p3
    refine ⟨_, rfl, _, rfl, _, rfl, w0, _, rfl, SqL.of h03, fun w1 hw1' => ?_⟩
    have e1 : cutV (xs.take m) none (some 1) = (xs.take m).take 1 := cutV_to (xs.take m) 1 (by rw [List.length_take]; omega)
    rw [e1]
    have hl1 : ((xs.take m).take 1).length = 1 := by rw [List.length_take, List.length_take]; omega
    refine ⟨w1, 9, _, rfl, rfl, upd_same, by decide, by decide, by rw [hl1]; decide, fun w2 hw2 => ?_⟩
    have s5 : Same H3 (upd (upd H3 w1 (.lst ((xs.take m).take 1))) w2 (.lst (List.replicate (9 : Int).toNat ((xs.take m).take 1)).flatten)) := (Same.new hw1').trans (Same.new hw2)
    have h25 : (upd (upd H3 w1 (.lst ((xs.take m).take 1))) w2 (.lst (List.replicate (9 : Int).toNat ((xs.take m).take 1)).flatten)) w2 = some (.lst (List.replicate (9 : Int).toNat ((xs.take m).take 1)).flatten) := upd_same
    generalize upd (upd H3 w1 (.lst ((xs.take m).take 1))) w2 (.lst (List.replicate (9 : Int).toNat ((xs.take m).take 1)).flatten) = H5 at s5 h25
    have hl9 : (List.replicate (9 : Int).toNat ((xs.take m).take 1)).flatten.length = 9 := by rw [len_rep, hl1]; rfl
    refine ⟨w0, w2, _, _, rfl, rfl, s5 w0 _ h03, h25, by rw [hl9, List.length_take]; omega, fun wl hwl => ?_⟩
    have s6 : Same H5 (upd H5 wl (.lst (xs.take m ++ (List.replicate (9 : Int).toNat ((xs.take m).take 1)).flatten))) := Same.new hwl
    have hwl6 : (upd H5 wl (.lst (xs.take m ++ (List.replicate (9 : Int).toNat ((xs.take m).take 1)).flatten))) wl = some (.lst (xs.take m ++ (List.replicate (9 : Int).toNat ((xs.take m).take 1)).flatten)) := upd_same
    have s26 := s3.trans (s5.trans s6)
    generalize upd H5 wl (.lst (xs.take m ++ (List.replicate (9 : Int).toNat ((xs.take m).take 1)).flatten)) = H6 at s6 hwl6 s26
    obtain ⟨zs, tz, ez, hzl, W6⟩ : ∃ (zs : List V) (tz : List T), xs.take m ++ (List.replicate (9 : Int).toNat ((xs.take m).take 1)).flatten = zs ∧ zs.length = m + 9 ∧ WhosL H6 (sortN sh) tz wl zs := by
      refine ⟨_, ts.take m ++ (List.replicate (9 : Int).toNat ((ts.take m).take 1)).flatten, rfl, by rw [List.length_append, hl9, List.length_take]; omega, hwl6, ?_, ?_, ?_⟩
      · have d6 := dl2.mono (Same.tups s26)
        exact (K47.DpL.take m d6).append (K47.DpL.rep (K47.DpL.take 1 (K47.DpL.take m d6)) _)
      · rw [List.length_append, len_rep, List.length_take, List.length_take, List.length_take, hw1.ten]
        have : (9 : Int).toNat = 9 := rfl
        rw [this]
        omega
      · intro u hu
        rcases List.mem_append.mp hu with hu | hu
        · exact hw1.ok u (List.mem_of_mem_take hu)
        · obtain ⟨v, hv, hu⟩ := List.mem_flatten.mp hu
          rw [(List.mem_replicate.mp hv).2] at hu
          exact hw1.ok u (List.mem_of_mem_take (List.mem_of_mem_take hu))
    have p6 := p2.same s26
    have o6 : Off p H H6 := o1.trans (o2.trans s26.off)
    clear hwl6 ez h25 s5 h03 s3 hl2 dl2
    refine ⟨_, rfl, p, 4, rfl, p6, by decide, by decide, fun r4 a4 b4 c4 l4 u4 => ⟨_, _, rfl, rfl, ?_⟩⟩
    have o7 : Off p H (upd H6 p (.lst [.int a4, .int b4, .int c4])) := o6.trans Off.upd
    have W7 := W6.off p6 (Off.upd (o := .lst [.int a4, .int b4, .int c4]))
    have hp7 : Pu (upd H6 p (.lst [.int a4, .int b4, .int c4])) p := Pu.upd
    generalize upd H6 p (.lst [.int a4, .int b4, .int c4]) = H7 at o7 W7 hp7
    refine ⟨kd1 P w (sortN sh), fun dn hdn => ⟨kd2 P w (sortN sh), fun dk hdk => ⟨Nat.zero_le _, fun al hal => ⟨_, _, _, rfl, ?_⟩⟩⟩⟩
    have p7 : Pu H7 p := hp7
    have n1 : dn ≠ dk := fun e => by rw [← e, upd_same] at hdk; cases hdk
    have n2 : dn ≠ al := ne_of_none (by rw [upd_ne n1, upd_same]) hal
    have n3 : dk ≠ al := ne_of_none upd_same hal
    have w1' : wl ≠ dn := ne_of_none W7.at_ hdn
    have w2' : wl ≠ dk := ne_of_none (by rw [upd_ne w1']; exact W7.at_) hdk
    have w3' : wl ≠ al := ne_of_none (by rw [upd_ne w2', upd_ne w1']; exact W7.at_) hal
    have di : DI wl dn dk al := ⟨w1', w2', w3', n1, n2, n3⟩
    have hdk7 : H7 dk = none := by rw [upd_ne n1.symm] at hdk; exact hdk
    have hal7 : H7 al = none := by rw [upd_ne n3.symm, upd_ne n2.symm] at hal; exact hal
    have st1 : Same H7 (upd H7 dn (emp (kd1 P w (sortN sh)) dn)) := Same.new hdn
    have st2 : Same (upd H7 dn (emp (kd1 P w (sortN sh)) dn)) (upd (upd H7 dn (emp (kd1 P w (sortN sh)) dn)) dk (emp (kd2 P w (sortN sh)) dk)) := Same.new hdk
    have st3 : Same (upd (upd H7 dn (emp (kd1 P w (sortN sh)) dn)) dk (emp (kd2 P w (sortN sh)) dk)) (upd (upd (upd H7 dn (emp (kd1 P w (sortN sh)) dn)) dk (emp (kd2 P w (sortN sh)) dk)) al (.lst [])) := Same.new hal
    have ai0 : AI (kd1 P w (sortN sh)) (kd2 P w (sortN sh)) (upd (upd (upd H7 dn (emp (kd1 P w (sortN sh)) dn)) dk (emp (kd2 P w (sortN sh)) dk)) al (.lst [])) (sortN sh) wl dn dk al tz zs 0 0 (decide (0 < r4)) (fun _ => none) (fun _ => none) [] [] :=
      ⟨W7.same (st1.trans (st2.trans st3)), ((AMap.new _ H7 dn).mono (Same.tups (st2.trans st3)) (by rw [upd_ne n2, upd_ne n1])), ((AMap.new _ _ dk).mono (Same.tups st3) (by rw [upd_ne n3])), fun _ _ h => (by cases h), fun _ _ h => (by cases h), upd_same, .nil, fun _ h => (by cases h), fun _ _ h => (by cases h)⟩
    have s10 := st1.trans (st2.trans st3)
    clear st1 st2 st3
    refine ⟨_, rfl, _, rfl, by omega, by omega, ?_⟩
    refine for_range (lo := 0) (n := (many : Int).toNat) (fun i σ H2 => ∃ (j : Nat) (f1 f2 : T → Option V) (qs : List Rec) (ys : List V) (v9 v10 v11 v12 : Option V), σ = [some (.ref a), some (.int many), some (.ref p), some (.int sh), some (.ref wl), some (.bl (decide (0 < r4))), some (.ref dn), some (.ref dk), some (.ref al), v9, v10, v11, v12] ∧ AI (kd1 P w (sortN sh)) (kd2 P w (sortN sh)) H2 (sortN sh) wl dn dk al tz zs i j (decide (0 < r4)) f1 f2 qs ys ∧ j ≤ i ∧ qs.length = i ∧ Same H7 H2)
      ⟨0, _, _, [], [], _, _, _, _, rfl, ai0, Nat.le_refl _, rfl, s10⟩ ?_ ?_
    rotate_left
    · rintro σ H2 ⟨j, f1, f2, qs, ys, v9, v10, v11, v12, rfl, ai, hj, hql, oH⟩
      refine ⟨_, rfl, _, rfl, by show 2 ≤ sizeLine; decide, fun L hL => ?_⟩
      have sL : Same H2 (upd H2 L (.lst [.bl (decide (0 < r4)), .ref al])) := Same.new hL
      refine k L al (decide (0 < r4)) qs ys _ upd_same (sL al _ ai.at_) (ai.dl.mono (Same.tups sL)) (by rw [hql]; omega) ai.ok (fun hs q hq r hr e1 e2 => ?_) (fun b zs' e => ?_)
      · obtain ⟨v, ev, dv⟩ := ai.sd hs q hq
        obtain ⟨v', ev', dv'⟩ := ai.sd hs r hr
        have : keyT q = keyT r := by unfold keyT; rw [e1, e2]
        rw [this, ev'] at ev
        cases ev
        exact Dp.fn dv dv'
      · refine sL b _ (oH b _ (o7 b _ (fun z => ?_) e))
        obtain ⟨x, y, u, ep⟩ := hp
        rw [z, ep] at e
        cases e
    rintro i σ H2 hi ⟨j, f1, f2, qs, ys, v9, v10, v11, v12, rfl, ai, hj, hql, oH⟩
    have hi60 : i < 60 := by omega
    refine ⟨_, rfl, _, rfl, _, _, rfl, rfl, a, ns, _, rfl, hS H2 (o7.trans oH.off), hns, by omega, by omega, fun z3 H3 s3 => ⟨z3, rfl, fun q a4 b4 c4 hq => ?_⟩⟩
    have ai3 := ai.same s3
    have neq : ∀ b, (b = wl ∨ b = dn ∨ b = dk ∨ b = al) → b ≠ q := fun b hb => by
      obtain ⟨o, e⟩ := ai3.ex hb
      exact ne_of_none e hq
    have s4 : Same H2 (upd H3 q (.lst [.int a4, .int b4, .int c4])) := s3.trans (Same.new hq)
    have p4 : Pu (upd H3 q (.lst [.int a4, .int b4, .int c4])) q := Pu.upd
    have qH : H7 q = none := by
      cases e : H7 q with
      | none => rfl
      | some o => rw [s3 q _ (oH q o e)] at hq; cases hq
    have ai4 := ai.same s4
    have o4 := oH.trans s4
    generalize upd H3 q (.lst [.int a4, .int b4, .int c4]) = H4 at s4 p4 ai4 o4
    have hm10 : m ≤ 10 := by omega
    have hm1 : 1 ≤ m := by omega
    refine ⟨_, rfl, _, rfl, _, rfl, wl, _, rfl, .inl (SqL.of ai4.ws.at_), _, _, rfl, rfl, q, _, rfl, p4, by rw [hzl]; omega, by rw [hzl]; omega, fun r5 a5 b5 c5 l5 u5 => ?_⟩
    have o5 : Off q H4 (upd H4 q (.lst [.int a5, .int b5, .int c5])) := Off.upd
    have p5 : Pu (upd H4 q (.lst [.int a5, .int b5, .int c5])) q := Pu.upd
    have ai5 := ai4.off o5 p4 neq
    have offS : ∀ {Ha Hb : Hp}, Same H7 Ha → Off q Ha Hb → Same H7 Hb := fun sa ob b o e => ob b o (ne_of_none e qH) (sa b o e)
    have s5 := offS o4 o5
    generalize upd H4 q (.lst [.int a5, .int b5, .int c5]) = H5 at o5 p5 ai5 s5
    obtain ⟨jj, rfl⟩ : ∃ jj : Nat, r5 = (jj : Int) := ⟨r5.toNat, by omega⟩
    obtain ⟨x, hh, ex, dx, hwx⟩ := ai5.ws.get (i := jj) (by rw [hzl] at u5; omega)
    refine ⟨wl, _, _, _, rfl, rfl, SqL.of ai5.ws.at_, atI_nat ex, ?_⟩
    generalize tz[jj] = wt at dx hwx
    obtain ⟨z1, hz1⟩ : ∃ z1, (f1 wt).getD (.int 0) = .int z1 := by
      cases e : f1 wt with
      | none => exact ⟨0, rfl⟩
      | some v =>
        obtain ⟨z, rfl⟩ := ai5.zs _ _ e
        exact ⟨z, rfl⟩
    refine ⟨_, rfl, dn, rfl, ⟨_, _, _, ai5.m1⟩, _, rfl, f1 wt, ⟨_, _, _, wt, ai5.m1, who_G hwx, dx, rfl⟩, by show 5 ≤ sizeLine; decide, fun m6 hm6 => ?_⟩
    have s6 : Same H5 (upd H5 m6 (.lst [.int 0, .int 0, .int 0, .int 1, .int 7])) := Same.new hm6
    have h6 : (upd H5 m6 (.lst [.int 0, .int 0, .int 0, .int 1, .int 7])) m6 = some (.lst [.int 0, .int 0, .int 0, .int 1, .int 7]) := upd_same
    have q6 : m6 ≠ q := (p5.neN hm6).symm
    have p6 := p5.same s6
    have ai6 := ai5.same s6
    have s76 := s5.trans s6
    have dx6 := dx.mono (Same.tups s6)
    generalize upd H5 m6 (.lst [.int 0, .int 0, .int 0, .int 1, .int 7]) = H6' at s6 h6 p6 ai6 s76 dx6
    refine ⟨_, rfl, q, 5, rfl, p6, by decide, by decide, fun r7 a7 b7 c7 l7 u7 => ?_⟩
    have o7' : Off q H6' (upd H6' q (.lst [.int a7, .int b7, .int c7])) := Off.upd
    have p7' : Pu (upd H6' q (.lst [.int a7, .int b7, .int c7])) q := Pu.upd
    have ai7 := ai6.off o7' p6 neq
    have s77 := offS s76 o7'
    have dx7 := dx6.mono (tups_off o7' p6)
    have h7 := o7' m6 _ q6 h6
    generalize upd H6' q (.lst [.int a7, .int b7, .int c7]) = H7' at o7' p7' ai7 s77 dx7 h7
    obtain ⟨z2, hz2⟩ : ∃ z : Int, atI [V.int 0, V.int 0, V.int 0, V.int 1, V.int 7] r7 = some (.int z) := by
      rcases (by omega : r7 = 0 ∨ r7 = 1 ∨ r7 = 2 ∨ r7 = 3 ∨ r7 = 4) with rfl | rfl | rfl | rfl | rfl
      · exact ⟨_, atI_nat (j := 0) rfl⟩
      · exact ⟨_, atI_nat (j := 1) rfl⟩
      · exact ⟨_, atI_nat (j := 2) rfl⟩
      · exact ⟨_, atI_nat (j := 3) rfl⟩
      · exact ⟨_, atI_nat (j := 4) rfl⟩
    refine ⟨m6, _, _, _, rfl, rfl, SqL.of h7, hz2, z1, z2, hz1, rfl, _, rfl, _, rfl, dn, _, _, _, wt, rfl, ai7.m1, by omega, who_G hwx, dx7, fun ob m8 => ?_⟩
    have m8 : AMap (kd1 P w (sortN sh)) (upd H7' dn ob) dn (i + 1) (fput f1 wt (.int (z1 + z2))) := m8
    have ai8 := ai7.put1 di m8
    have tu8 : Tups H7' (upd H7' dn ob) := tups_put ai7.m1
    have p8 : Pu (upd H7' dn ob) q := p7'.upd_ne (neq dn (.inr (.inl rfl))).symm
    have s8 : Same H7 (upd H7' dn ob) := fun b o e => by
      rw [upd_ne (ne_of_none e hdn)]
      exact s77 b o e
    have dx8 := dx7.mono tu8
    generalize upd H7' dn ob = H8 at m8 ai8 tu8 p8 s8 dx8
    generalize z1 + z2 = num at m8 ai8
    refine ⟨_, rfl, _, rfl, _, rfl, dn, .int num, rfl, ⟨_, _, _, wt, m8, who_G hwx, dx8, fput_same⟩, by show 2 ≤ sizeLine; decide, fun kq hkq => ?_⟩
    have s9 : Same H8 (upd H8 kq (.tup [x, .int num])) := Same.new hkq
    have ai9 := ai8.same s9
    have p9 := p8.same s9
    have s79 := s8.trans s9
    have dx9 := dx8.mono (Same.tups s9)
    have dk9 : Dp (upd H8 kq (.tup [x, .int num])) (keyT ⟨wt, num, .non⟩) (.ref kq) := L2.Dp.tup upd_same (.cons dx9 (.cons (L2.Dp.int _) .nil))
    generalize upd H8 kq (.tup [x, .int num]) = H9 at s9 ai9 p9 s79 dx9 dk9
    have kG : (kd2 P w (sortN sh)).G (keyT ⟨wt, num, .non⟩) := key_G hwx
    refine ⟨fun σ' H' => ∃ (j' : Nat) (f2' : T → Option V) (v : V), σ' = [some (.ref a), some (.int many), some (.ref p), some (.int sh), some (.ref wl), some (.bl (decide (0 < r4))), some (.ref dn), some (.ref dk), some (.ref al), some (.int (0 + (i : Int))), some (.ref q), some x, some (.ref kq)] ∧ AI (kd1 P w (sortN sh)) (kd2 P w (sortN sh)) H' (sortN sh) wl dn dk al tz zs (i + 1) j' (decide (0 < r4)) (fput f1 wt (.int num)) f2' qs ys ∧ f2' (keyT ⟨wt, num, .non⟩) = some v ∧ j' ≤ i + 1 ∧ Same H7 H' ∧ Tups H9 H', ?_, ?_⟩
    rotate_left
    · rintro σ' H' ⟨j', f2', v, rfl, ai', hf2, hj', s', tu'⟩
      have dxf := dx9.mono tu'
      have dkf := dk9.mono tu'
      obtain ⟨an, dan, lan⟩ := ai'.ans _ _ hf2
      refine ⟨_, rfl, .inl ⟨rfl, _, SqL.of ai'.at_⟩, _, rfl, _, rfl, _, rfl, dn, .int num, rfl, ⟨_, _, _, wt, ai'.m1, who_G hwx, dxf, fput_same⟩, _, rfl, _, rfl, dk, v, rfl, ⟨_, _, _, _, ai'.m2, kG, dkf, hf2⟩, by show 3 ≤ sizeLine; decide, fun tq htq => ?_⟩
      have sf : Same H' (upd H' tq (.tup [x, .int num, v])) := Same.new htq
      have aif := ai'.same sf
      have st' := s'.trans sf
      have dr : Dp (upd H' tq (.tup [x, .int num, v])) (recT ⟨wt, num, an⟩) (.ref tq) := K47.Dp.rec (q := ⟨wt, num, an⟩) upd_same (dxf.mono (Same.tups sf)) (dan.mono (Same.tups sf))
      have dan' := dan.mono (Same.tups sf)
      generalize upd H' tq (.tup [x, .int num, v]) = Hf at sf aif st' dr dan'
      have hyl : ys.length = i := by
        have := aif.dl.length
        rw [List.length_map, hql] at this
        exact this
      refine ⟨al, ys, .ref tq, rfl, rfl, aif.at_, by omega, j', _, f2', qs ++ [⟨wt, num, an⟩], _, _, _, _, _, rfl, aif.snoc di ⟨hwx, lan⟩ dr ⟨v, hf2, dan'⟩, hj', by rw [List.length_append, hql]; rfl, fun b o e => ?_⟩
      rw [upd_ne (ne_of_none e hal7)]
      exact st' b o e
    refine ⟨_, rfl, decide (0 < r4), rfl, ?_⟩
    cases hst : decide (0 < r4) with
    | false =>
      rw [hst] at ai9
      refine iteT (iteT ?_)
      refine ⟨_, rfl, _, rfl, _, rfl, q, wl, sh, tz, zs, rfl, p9, hs0, hs3, ai9.ws, fun va an Ha da lz oa pa => ⟨by show 2 ≤ sizeLine; decide, fun mb hmb => ?_⟩⟩
      have aia := ai9.off oa p9 neq
      have sa := offS s79 oa
      have tua := tups_off oa p9
      have sb : Same Ha (upd Ha mb (.lst [va, .non])) := Same.new hmb
      have hb : (upd Ha mb (.lst [va, .non])) mb = some (.lst [va, .non]) := upd_same
      have qb : mb ≠ q := (pa.neN hmb).symm
      have pb := pa.same sb
      have aib := aia.same sb
      have sab := sa.trans sb
      have tub := tua.trans (Same.tups sb)
      have dab := da.mono (Same.tups sb)
      generalize upd Ha mb (.lst [va, .non]) = Hb at sb hb pb aib sab tub dab
      refine ⟨_, rfl, q, 6, rfl, pb, by decide, by decide, fun rc ac bc cc lc uc => ?_⟩
      have oc : Off q Hb (upd Hb q (.lst [.int ac, .int bc, .int cc])) := Off.upd
      have aic := aib.off oc pb neq
      have sc := offS sab oc
      have tuc := tub.trans (tups_off oc pb)
      have hc := oc mb _ qb hb
      have dac := dab.mono (tups_off oc pb)
      generalize upd Hb q (.lst [.int ac, .int bc, .int cc]) = Hc at oc aic sc tuc hc dac
      obtain ⟨vv, av, hvv, dvv, lvv⟩ : ∃ (vv : V) (av : T), atI [va, V.non] (if decide (V.int rc = V.int 1) = true then 1 else 0) = some vv ∧ Dp Hc av vv ∧ Lz 1 av := by
        by_cases hb1 : decide (V.int rc = V.int 1) = true
        · rw [if_pos hb1]
          exact ⟨.non, .non, atI_nat (j := 1) rfl, by rw [Dp], trivial⟩
        · rw [if_neg hb1]
          exact ⟨va, an, atI_nat (j := 0) rfl, dac, lz⟩
      refine ⟨rfl, .inr ⟨_, rfl, mb, _, _, vv, rfl, rfl, SqL.of hc, hvv, _, rfl, _, rfl, dk, _, _, _, _, rfl, aic.m2, by omega, kG, dk9.mono tuc, fun od md => ?_⟩⟩
      refine ⟨_, _, vv, rfl, aic.put2 di md dvv lvv (fun h => by cases h), fput_same, by omega, fun b o e => ?_, tuc.trans (tups_put aic.m2)⟩
      rw [upd_ne (ne_of_none e hdk7)]
      exact sc b o e
    | true =>
      rw [hst] at ai9
      refine iteF ⟨_, rfl, _, rfl, dk, f2 (keyT ⟨wt, num, .non⟩), rfl, ⟨_, _, _, _, ai9.m2, kG, dk9, rfl⟩, _, rfl, ?_⟩
      cases hf : f2 (keyT ⟨wt, num, .non⟩) with
      | none =>
        refine iteT ?_
        refine ⟨_, rfl, _, rfl, _, rfl, q, wl, sh, tz, zs, rfl, p9, hs0, hs3, ai9.ws, fun va an Ha da lz oa pa => ⟨by show 2 ≤ sizeLine; decide, fun mb hmb => ?_⟩⟩
        have aia := ai9.off oa p9 neq
        have sa := offS s79 oa
        have tua := tups_off oa p9
        have sb : Same Ha (upd Ha mb (.lst [va, .non])) := Same.new hmb
        have hb : (upd Ha mb (.lst [va, .non])) mb = some (.lst [va, .non]) := upd_same
        have qb : mb ≠ q := (pa.neN hmb).symm
        have pb := pa.same sb
        have aib := aia.same sb
        have sab := sa.trans sb
        have tub := tua.trans (Same.tups sb)
        have dab := da.mono (Same.tups sb)
        generalize upd Ha mb (.lst [va, .non]) = Hb at sb hb pb aib sab tub dab
        refine ⟨_, rfl, q, 6, rfl, pb, by decide, by decide, fun rc ac bc cc lc uc => ?_⟩
        have oc : Off q Hb (upd Hb q (.lst [.int ac, .int bc, .int cc])) := Off.upd
        have aic := aib.off oc pb neq
        have sc := offS sab oc
        have tuc := tub.trans (tups_off oc pb)
        have hc := oc mb _ qb hb
        have dac := dab.mono (tups_off oc pb)
        generalize upd Hb q (.lst [.int ac, .int bc, .int cc]) = Hc at oc aic sc tuc hc dac
        obtain ⟨vv, av, hvv, dvv, lvv⟩ : ∃ (vv : V) (av : T), atI [va, V.non] (if decide (V.int rc = V.int 1) = true then 1 else 0) = some vv ∧ Dp Hc av vv ∧ Lz 1 av := by
          by_cases hb1 : decide (V.int rc = V.int 1) = true
          · rw [if_pos hb1]
            exact ⟨.non, .non, atI_nat (j := 1) rfl, by rw [Dp], trivial⟩
          · rw [if_neg hb1]
            exact ⟨va, an, atI_nat (j := 0) rfl, dac, lz⟩
        refine ⟨rfl, .inr ⟨_, rfl, mb, _, _, vv, rfl, rfl, SqL.of hc, hvv, _, rfl, _, rfl, dk, _, _, _, _, rfl, aic.m2, by omega, kG, dk9.mono tuc, fun od md => ?_⟩⟩
        refine ⟨_, _, vv, rfl, aic.put2 di md dvv lvv (fun _ => hf), fput_same, by omega, fun b o e => ?_, tuc.trans (tups_put aic.m2)⟩
        rw [upd_ne (ne_of_none e hdk7)]
        exact sc b o e
      | some v0 =>
        refine iteF ?_
        exact ⟨j, f2, v0, rfl, ai9, hf, by omega, s79, Tups.refl _⟩
end
end K47
end
section
set_option autoImplicit false
namespace K47
open PySem PyProof.Rows L2
noncomputable def anyF (rs : List Rec) (q : Rec) : Bool := rs.any fun r => dcd (r.who = q.who ∧ r.num = q.num)
noncomputable def wordD (p : Pl) (q : Rec) : Str := if p.st = "warm" then (if anyF p.recs q = true then ("hit" : Str) else ("miss" : Str)) else p.st
noncomputable def keptF (rs : List Rec) (q : Rec) : List Rec := if dcd (q.who ∈ rs.map (·.who)) = true then rs.map (swapR q) else rs ++ [q]
theorem who_lv5 {n : Nat} {t : T} (h : WhoS n t) : Lv 5 t := by
  match n, h with
  | 0, ⟨i, e⟩ => subst e; trivial
  | 1, ⟨x, e⟩ => subst e; trivial
  | n + 2, ⟨x, u, e, hu⟩ =>
    subst e
    intro t ht
    rcases List.mem_cons.mp ht with rfl | ht
    · trivial
    · rw [List.mem_singleton.mp ht]
      rcases hu with rfl | ⟨y, rfl⟩ <;> trivial
section
variable {P : Program} {w : World} {K : PySem.W.Frag} {mg : Str → Option Value} {base : Heap} {t : Adr}
def spIsWhole : Sp := fun vs H Q _ => ∃ n : Int, vs = [.int n] ∧ Q (.bl true) H
theorem ok_isWhole (D : Defs K mg t) : FnOk P w K mg base CX0 1 t._law_is_whole.1 t._law_is_whole.2 ["_law_thing"] spIsWhole := by
  refine D._law_is_whole.fn.ok sc__law_is_whole (fun vs H Q E h => ?_) (fun cdv A outer s H vs Q E hr h => ?_)
  · obtain ⟨n, rfl, _⟩ := h
    rfl
  · obtain ⟨n, rfl, k⟩ := h
    refine ⟨_, (pss_one (ps_ret (pe_and (pe_callB call_isinst (by rfl) D.b_isinstance bt_isinstance (pa_cons (pv 0) (pa_cons (pe_bltn (v := V.ty "int") rfl D.b_int bt_int rfl) pa_nil))) (pe_one (pe_not (pe_callB call_isinst (by rfl) D.b_isinstance bt_isinstance (pa_cons (pv 0) (pa_cons (pe_bltn (v := V.ty "bool") rfl D.b_bool bt_bool rfl) pa_nil)))))))), ?_⟩
    refine ⟨_, rfl, _, _, _, true, rfl, .int n, kit_same K "int", _, rfl, iteT ?_⟩
    exact ⟨_, rfl, _, _, _, false, rfl, .int n, kit_ib K, _, rfl, k⟩
def spCounted : Sp := fun vs H Q _ => ∃ (v u : V) (p p' : Pl) (i : Nat) (hi : i < 4), vs = [v, u, .str (wordsL[i]'hi)] ∧ Dp H (plT p) v ∧ Dp H (plT p') u ∧ p.tal.length = 4 ∧ p'.tal = tally p.tal (wordsL[i]'hi) ∧ ∀ H', Same H H' → Q (.bl true) H'
theorem ok_counted (D : Defs K mg t) : FnOk P w K mg base CX0 1 t._law_counted.1 t._law_counted.2 ["_law_place", "_law_told", "_law_word_here"] spCounted := by
  have hz : sizeLine = 16777216 := sizeLine_eq
  refine D._law_counted.fn.ok sc__law_counted (fun vs H Q E h => ?_) (fun cdv A outer s H vs Q E hr h => ?_)
  · obtain ⟨v, u, p, p', i, hi, rfl, _⟩ := h
    rfl
  · obtain ⟨v, u, p, p', i, hi, rfl, dv, du, h4, ht, k⟩ := h
    obtain ⟨a, r, l, xs, rfl, ha, hr', dr, hl⟩ := K47.Dp.of_pl dv
    obtain ⟨a', r', l', xs', rfl, ha', hr2, dr', hl'⟩ := K47.Dp.of_pl du
    refine ⟨_, (pss_cons (ps_set (i := 3) sc__law_counted.nd rfl (Or.inl rfl) (pe_bm PySem.F.plainAttrs_list PySem.F.slot_list_index PySem.F.type_list_index (mt_indexT (hu10 hr)) (pe_lst (pa_strs ["cold", "hit", "miss", "wild"] (by rfl))) (pa_cons (pv 2) pa_nil)))
      (pss_cons (ps_for PassesOwn.never rfl (pi_range1 rfl D.b_range (pa_cons pe_int pa_nil)) (pg_name (i := 4) sc__law_counted.nd rfl (Or.inl rfl))
      (pss_one (ps_if (pt_cmpR op_ne (pe_ix ix_tup (pe_ix ix_tup (pv 1) pe_int (fun _ _ => rfl)) (pv 4) (fun _ _ => rfl)) (pe_op op_add (pe_ix ix_tup (pe_ix ix_tup (pv 0) pe_int (fun _ _ => rfl)) (pv 4) (fun _ _ => rfl)) (pe_callTy call_int1 (by rfl) D.b_int bt_int (pa_cons (pe_cmpR op_eq (pv 4) (pv 3) (nomark _)) pa_nil))) (nomark _))
      (pss_one (ps_ret pe_bl))
      pss_nil)))
      (pss_one (ps_ret pe_bl)))), ?_⟩
    refine ⟨by show 4 ≤ sizeLine; decide, fun m hm => ?_⟩
    have s8 : Same H (upd H m (.lst (([("cold" : Str), "hit", "miss", "wild"]).map V.str))) := Same.new hm
    have hm8 : (upd H m (.lst (([("cold" : Str), "hit", "miss", "wild"]).map V.str))) m = some (.lst (wordsL.map V.str)) := upd_same
    generalize upd H m (.lst (([("cold" : Str), "hit", "miss", "wild"]).map V.str)) = H1 at s8 hm8
    refine ⟨.inl ⟨rfl, _, SqL.of hm8⟩, _, rfl, m, _, _, T.str (wordsL[i]'hi), wordsL.map T.str, i, rfl, rfl, hm8, L2.Dp.str _, DpL.strs wordsL, ?_, ?_, ?_, ?_⟩
    · intro t ht
      obtain ⟨x, _, rfl⟩ := List.mem_map.mp ht
      trivial
    · rw [List.getElem?_map, List.getElem?_eq_getElem (show i < wordsL.length from hi)]
      rfl
    · intro j hj e
      rw [List.getElem?_map, List.getElem?_eq_getElem (show j < wordsL.length from Nat.lt_trans hj hi)] at e
      injection e with e
      injection e with e
      have nd : wordsL.Nodup := by decide +kernel
      exact (List.pairwise_iff_getElem.mp nd) _ _ _ _ hj e
    refine ⟨_, rfl, by decide, by decide, ?_⟩
    refine for_range (lo := 0) (n := (4 : Int).toNat) (fun j σ H2 => ∃ v4 : Option V, σ = [some (.ref a), some (.ref a'), some (.str (wordsL[i]'hi)), some (.int (i : Int)), v4] ∧ H2 = H1) ⟨_, rfl, rfl⟩ ?_ ?_
    · rintro j σ H2 hj ⟨v4, rfl, rfl⟩
      have hj : j < 4 := hj
      have ez : (0 : Int) + (j : Int) = (j : Int) := by omega
      have g1 : atI (p'.tal.map V.int) (0 + (j : Int)) = some (.int (if wordsL[j]'hj = wordsL[i]'hi then p.tal[j] + 1 else p.tal[j])) := by
        rw [ez, ht]
        refine atI_nat ?_
        have hl : j < (tally p.tal (wordsL[i]'hi)).length := by unfold tally; rw [List.length_map, List.length_zip, h4]; exact hj
        have e : (tally p.tal (wordsL[i]'hi))[j] = if wordsL[j]'hj = wordsL[i]'hi then p.tal[j] + 1 else p.tal[j] := (List.getElem_map _ (l := wordsL.zip p.tal) (h := hl)).trans (by rw [List.getElem_zip]; rfl)
        rw [List.getElem?_map, List.getElem?_eq_getElem hl, e]
        rfl
      have g2 : atI (p.tal.map V.int) (0 + (j : Int)) = some (.int p.tal[j]) := by
        rw [ez]
        refine atI_nat ?_
        rw [List.getElem?_map, List.getElem?_eq_getElem (by omega)]
        rfl
      refine ⟨_, rfl, a', _, _, _, rfl, rfl, SqT.of (s8 a' _ ha'), atI_nat (j := 3) rfl, _, rfl, l', _, _, _, rfl, rfl, SqT.of (s8 l' _ hl'), g1, ?_⟩
      refine ⟨_, rfl, a, _, _, _, rfl, rfl, SqT.of (s8 a _ ha), atI_nat (j := 3) rfl, _, rfl, l, _, _, _, rfl, rfl, SqT.of (s8 l _ hl), g2, ?_⟩
      refine ⟨_, rfl, _, rfl, rfl, .inr ⟨_, rfl, _, _, rfl, rfl, rfl, _, rfl, ?_⟩⟩
      have nd : wordsL.Nodup := by decide +kernel
      have key : (if wordsL[j]'hj = wordsL[i]'hi then p.tal[j] + 1 else p.tal[j]) = p.tal[j] + (if decide (V.int (0 + (j : Int)) = V.int (i : Int)) = true then 1 else 0) := by
        by_cases e : j = i
        · subst e
          rw [if_pos rfl, if_pos (decide_eq_true (by rw [ez]))]
        · have ne : ¬ wordsL[j]'hj = wordsL[i]'hi := fun h => by
            rcases Nat.lt_or_gt_of_ne e with g | g
            · exact (List.pairwise_iff_getElem.mp nd) _ _ _ _ g h
            · exact (List.pairwise_iff_getElem.mp nd) _ _ _ _ g h.symm
          rw [if_neg ne, if_neg (fun h => e (by have := of_decide_eq_true h; injection this with this; omega))]
          omega
      refine iteNeg ?_ ⟨_, rfl, rfl⟩
      rw [key]
      simp
    · rintro σ H2 ⟨v4, rfl, rfl⟩
      exact k _ s8
def spIsPlace : Sp := fun vs H Q _ => ∃ (v : V) (p : Pl) (few : Int), vs = [v, .int few] ∧ Dp H (plT p) v ∧ (p.st = "warm" ∨ p.st = "cold" ∨ p.st = "wild") ∧ p.tal.length = 4 ∧ (p.recs.length : Int) ≤ few ∧ (0 < p.recs.length ↔ p.st = "warm") ∧ ∀ H', Same H H' → Q (.bl true) H'
theorem ok_isPlace (D : Defs K mg t) : FnOk P w K mg base CX0 2 t._law_is_place.1 t._law_is_place.2 ["_law_place", "_law_few"] spIsPlace := by
  have G__law_is_whole : FnOk P w K mg base CX0 1 t._law_is_whole.1 t._law_is_whole.2 _ spIsWhole := ok_isWhole D
  have hz : sizeLine = 16777216 := sizeLine_eq
  refine D._law_is_place.fn.ok sc__law_is_place (fun vs H Q E h => ?_) (fun cdv A outer s H vs Q E hr h => ?_)
  · obtain ⟨v, p, few, rfl, _⟩ := h
    rfl
  · obtain ⟨v, p, few, rfl, dv, hst, h4, hfew, hw, k⟩ := h
    obtain ⟨a, r, l, xs, rfl, ha, hr', dr, hl⟩ := K47.Dp.of_pl dv
    have hxl : xs.length = p.recs.length := by have := dr.length; rwa [List.length_map] at this
    refine ⟨_, (pss_cons (ps_if (PW.pt (pw_or (pt_not (pt_val (pe_callB call_isinst (by rfl) D.b_isinstance bt_isinstance (pa_cons (pv 0) (pa_cons (pe_bltn (v := V.ty "tuple") rfl D.b_tuple bt_tuple rfl) pa_nil))))) (pw_or (pt_cmpR op_ne (pe_callB call_len_seq (by rfl) D.b_len bt_len (pa_cons (pv 0) pa_nil)) pe_int (nomark _)) (pw_or1 (pt_cmpR op_notIn_seq (pe_ix ix_tup (pv 0) pe_int (fun _ _ => rfl)) (pe_tup (pa_cons pe_str (pa_cons pe_str (pa_cons pe_str pa_nil)))) (by with_unfolding_all rfl))))))
      (pss_one (ps_ret pe_bl))
      pss_nil)
      (pss_cons (ps_if (PW.pt (pw_or (pt_not (pt_val (pe_callF D._law_is_whole G__law_is_whole (hr.mono (by omega)) (by rfl) (pa_cons (pe_ix ix_tup (pv 0) pe_int (fun _ _ => rfl)) pa_nil)))) (pw_or (pt_not (pt_val (pe_callB call_isinst (by rfl) D.b_isinstance bt_isinstance (pa_cons (pe_ix ix_tup (pv 0) pe_int (fun _ _ => rfl)) (pa_cons (pe_bltn (v := V.ty "tuple") rfl D.b_tuple bt_tuple rfl) pa_nil))))) (pw_or1 (pt_not (pt_val (pe_callB call_isinst (by rfl) D.b_isinstance bt_isinstance (pa_cons (pe_ix ix_tup (pv 0) pe_int (fun _ _ => rfl)) (pa_cons (pe_bltn (v := V.ty "tuple") rfl D.b_tuple bt_tuple rfl) pa_nil)))))))))
      (pss_one (ps_ret pe_bl))
      pss_nil)
      (pss_cons (ps_if (PW.pt (pw_or (pt_cmpR op_ne (pe_callB call_len_seq (by rfl) D.b_len bt_len (pa_cons (pe_ix ix_tup (pv 0) pe_int (fun _ _ => rfl)) pa_nil)) pe_int (nomark _)) (pw_or1 (pt_not (pt_val (pe_callB (call_all rfl) (by rfl) D.b_all bt_all (pa_cons (pe_comp rfl (CompScope.of ["_law_many"] [] ["_law_many"] (defScope (top 28)) ["_law_place", "_law_few"] rfl rfl (by decide +kernel)) ⟨fun _ _ _ _ _ => (pg_name (i := 0) (show List.Nodup [("_law_many" : Str)] by decide +kernel) rfl (Or.inl (lookup_relabel_local rfl)) (.inr (lookup_relabel_local rfl))), fun _ _ _ _ _ => pts_nil, fun _ _ _ _ _ => (pe_callF D._law_is_whole G__law_is_whole (hr.mono (by omega)) (by rfl) (pa_cons (pv 0) pa_nil))⟩ (pi_tup (pe_ix ix_tup (pv 0) pe_int (fun _ _ => rfl)))) pa_nil)))))))
      (pss_one (ps_ret pe_bl))
      pss_nil)
      (pss_one (ps_ret (pe_and (pe_cmpR op_le (pe_callB call_len_seq (by rfl) D.b_len bt_len (pa_cons (pe_ix ix_tup (pv 0) pe_int (fun _ _ => rfl)) pa_nil)) (pv 1) (nomark _)) (pe_one (pe_cmpR op_eq (pe_cmpR op_gt (pe_callB call_len_seq (by rfl) D.b_len bt_len (pa_cons (pe_ix ix_tup (pv 0) pe_int (fun _ _ => rfl)) pa_nil)) pe_int (nomark _)) (pe_cmpR op_eq (pe_ix ix_tup (pv 0) pe_int (fun _ _ => rfl)) pe_str (nomark _)) (nomark _))))))))), ?_⟩
    refine ⟨_, rfl, _, _, _, true, rfl, .tup ha, kit_same K "tuple", _, rfl, iteF ?_⟩
    refine ⟨_, rfl, a, _, rfl, .inr (SqT.of ha), rfl, _, rfl, iteF ?_⟩
    refine ⟨_, rfl, a, _, _, _, rfl, rfl, SqT.of ha, atI_nat (j := 0) rfl, ?_⟩
    refine ⟨by show 3 ≤ sizeLine; decide, fun m hm => ⟨m, _, rfl, .inr (SqT.of upd_same), rfl, rfl, ?_⟩⟩
    have ein : inV (.str p.st) [.str "cold", .str "warm", .str "wild"] = true := by
      rcases hst with e | e | e <;> rw [e] <;> rfl
    refine ⟨false, (show V.bl (!inV (.str p.st) [.str "cold", .str "warm", .str "wild"]) = V.bl false by rw [ein]; rfl), iteF ?_⟩
    have s1 : Same H (upd H m (.tup [.str "cold", .str "warm", .str "wild"])) := Same.new hm
    generalize upd H m (.tup [.str "cold", .str "warm", .str "wild"]) = H1 at s1
    refine ⟨_, rfl, a, _, _, _, rfl, rfl, SqT.of (s1 a _ ha), atI_nat (j := 1) rfl, p.cnt, rfl, _, rfl, iteF ?_⟩
    refine ⟨_, rfl, a, _, _, _, rfl, rfl, SqT.of (s1 a _ ha), atI_nat (j := 2) rfl, _, _, _, true, rfl, .tup (s1 r _ hr'), kit_same K "tuple", _, rfl, iteF ?_⟩
    refine ⟨_, rfl, a, _, _, _, rfl, rfl, SqT.of (s1 a _ ha), atI_nat (j := 3) rfl, _, _, _, true, rfl, .tup (s1 l _ hl), kit_same K "tuple", _, rfl, iteF ?_⟩
    refine ⟨_, rfl, a, _, _, _, rfl, rfl, SqT.of (s1 a _ ha), atI_nat (j := 3) rfl, l, _, rfl, .inr (SqT.of (s1 l _ hl)), rfl, _, rfl, iteNeg (by rw [List.length_map, h4]; decide) ?_⟩
    refine ⟨_, rfl, a, _, _, _, rfl, rfl, SqT.of (s1 a _ ha), atI_nat (j := 3) rfl, l, rfl, ⟨_, SqT.of (s1 l _ hl)⟩, fun D1 hD1 => ?_⟩
    refine comp_by (n := 4) (fun i ys H2 => ys = (List.replicate i true).map V.bl ∧ H2 = upd H1 D1 (.lst ys)) ⟨rfl, rfl⟩ ?_ ?_
    rotate_left
    · rintro i ys H2 hi ⟨rfl, rfl⟩
      have sd : Same H1 (upd H1 D1 (.lst ((List.replicate i true).map V.bl))) := Same.new hD1
      have en : (p.tal.map V.int)[i]? = some (.int (p.tal[i]'(by omega))) := by rw [List.getElem?_map, List.getElem?_eq_getElem (by omega)]; rfl
      refine ⟨⟨_, _, SqT.of (sd l _ (s1 l _ hl)), en⟩, ?_⟩
      rintro y H3 ⟨rfl, yy⟩ σo ho
      obtain ⟨oo, rfl⟩ := own1 ho
      have ey := yy _ (SqT.of (sd l _ (s1 l _ hl)))
      rw [en] at ey
      cases ey
      refine ⟨⟨[_], rfl, rfl⟩, yes_by ⟨_, rfl, _, rfl, by rw [List.length_map, List.length_replicate]; omega, upd_same, less_by hi ⟨?_, by rw [upd_upd]⟩⟩⟩
      rw [List.replicate_succ', List.map_append]
      rfl
    rintro ys H2 ⟨rfl, rfl⟩
    have sd : Same H1 (upd H1 D1 (.lst ((List.replicate 4 true).map V.bl))) := Same.new hD1
    refine ⟨⟨_, SqT.of (sd l _ (s1 l _ hl)), by rw [List.length_map, h4]; exact Nat.le_refl _⟩, D1, List.replicate 4 true, rfl, SqL.of upd_same, _, rfl, iteF ?_⟩
    have s2 := s1.trans sd
    generalize upd H1 D1 (.lst ((List.replicate 4 true).map V.bl)) = H2 at s2
    refine ⟨_, rfl, a, _, _, _, rfl, rfl, SqT.of (s2 a _ ha), atI_nat (j := 2) rfl, r, _, rfl, .inr (SqT.of (s2 r _ hr')), _, rfl, _, _, rfl, rfl, _, rfl, itePos (decide_eq_true (by rw [hxl]; exact hfew)) ?_⟩
    refine ⟨_, rfl, a, _, _, _, rfl, rfl, SqT.of (s2 a _ ha), atI_nat (j := 2) rfl, r, _, rfl, .inr (SqT.of (s2 r _ hr')), _, _, rfl, rfl, ?_⟩
    refine ⟨_, rfl, a, _, _, _, rfl, rfl, SqT.of (s2 a _ ha), atI_nat (j := 0) rfl, rfl, rfl, ?_⟩
    have e : decide (V.bl (decide ((0 : Int) < (xs.length : Int))) = V.bl (decide (V.str p.st = V.str "warm"))) = true := by
      refine decide_eq_true ?_
      rw [hxl]
      by_cases h : p.st = "warm"
      · rw [decide_eq_true (by have := hw.mpr h; omega), decide_eq_true (by rw [h])]
      · rw [decide_eq_false (fun z => h (hw.mp (by omega))), decide_eq_false (fun z => h (by injection z))]
    show Q (V.bl (decide (V.bl (decide ((0 : Int) < (xs.length : Int))) = V.bl (decide (V.str p.st = V.str "warm"))))) H2
    rw [e]
    exact k H2 s2
def spWordDue (n : Nat) : Sp := fun vs H Q _ => ∃ (v vq : V) (rl : Addr) (xs : List V) (p : Pl) (q : Rec), vs = [v, .ref rl, vq] ∧ Dp H (plT p) v ∧ H rl = some (.lst xs) ∧ DpL H (p.recs.map recT) xs ∧ Dp H (recT q) vq ∧ p.recs.length ≤ 100 ∧ WhoS n q.who ∧ (∀ r ∈ p.recs, RecOk n r) ∧ ∀ H', Same H H' → Q (.str (wordD p q)) H'
theorem ok_wordDue (D : Defs K mg t) (n : Nat) : FnOk P w K mg base CX0 1 t._law_word_due.1 t._law_word_due.2 ["_law_place", "_law_records", "_law_query"] (spWordDue n) := by
  have hz : sizeLine = 16777216 := sizeLine_eq
  refine D._law_word_due.fn.ok sc__law_word_due (fun vs H Q E h => ?_) (fun cdv A outer s H vs Q E hr h => ?_)
  · obtain ⟨v, vq, rl, xs, p, q, rfl, _⟩ := h
    rfl
  · obtain ⟨v, vq, rl, xs, p, q, rfl, dv, hrl, drs, dq, h100, hq, hrec, k⟩ := h
    obtain ⟨a, r, l, rx, rfl, ha, hr', _, hl⟩ := K47.Dp.of_pl dv
    obtain ⟨qa, qw, qn, rfl, hqa, d1, d2⟩ := K47.Dp.of_rec dq
    have hxl : xs.length = p.recs.length := by have := drs.length; rwa [List.length_map] at this
    refine ⟨_, (pss_cons (ps_if (pt_cmpR op_ne (pe_ix ix_tup (pv 0) pe_int (fun _ _ => rfl)) pe_str (nomark _))
      (pss_one (ps_ret (pe_ix ix_tup (pv 0) pe_int (fun _ _ => rfl))))
      pss_nil)
      (pss_one (ps_ret (pe_ix ix_list (pe_lst (pa_cons pe_str (pa_cons pe_str pa_nil))) (pe_callTy call_int1 (by rfl) D.b_int bt_int (pa_cons (pe_callB (call_any rfl) (by rfl) D.b_any bt_any (pa_cons (pe_comp rfl (CompScope.of ["_law_record"] [2] ["_law_record", "_law_query"] (defScope (top 30)) ["_law_place", "_law_records", "_law_query"] rfl rfl (by decide +kernel)) ⟨fun _ _ _ _ _ => (pg_name (i := 0) (show List.Nodup [("_law_record" : Str), ("_law_query" : Str)] by decide +kernel) rfl (Or.inl (lookup_relabel_local rfl)) (.inr (lookup_relabel_local rfl))), fun _ _ _ _ _ => pts_nil, fun _ _ _ _ _ => (pe_cmpR (op_eqT (hu10 hr)) (pe_slice (sl_tup_K (K := K) rfl) (pv 0) po_none (po_some pe_int)) (pe_slice (sl_tup_K (K := K) rfl) (pv 1) po_none (po_some pe_int)) (nomark _))⟩ (pi_list (pv 1))) pa_nil)) pa_nil)) (fun _ _ => rfl))))), ?_⟩
    refine ⟨_, rfl, a, _, _, _, rfl, rfl, SqT.of ha, atI_nat (j := 0) rfl, rfl, _, rfl, ite2 (fun hb => ?_) (fun hb => ?_)⟩
    · have nw : ¬ p.st = "warm" := fun e => by rw [e] at hb; simp at hb
      refine ⟨_, rfl, a, _, _, _, rfl, rfl, SqT.of ha, atI_nat (j := 0) rfl, ?_⟩
      have := k H (Same.refl H)
      unfold wordD at this
      rw [if_neg nw] at this
      exact this
    · have ew : p.st = "warm" := by
        by_cases e : p.st = "warm"
        · exact e
        · exact absurd (by rw [decide_eq_false (fun z => e (by injection z))]; rfl) hb
      refine ⟨by show 2 ≤ sizeLine; decide, fun m hm => ?_⟩
      have s1 : Same H (upd H m (.lst [.str "miss", .str "hit"])) := Same.new hm
      have hm1 : (upd H m (.lst [.str "miss", .str "hit"])) m = some (.lst [.str "miss", .str "hit"]) := upd_same
      generalize upd H m (.lst [.str "miss", .str "hit"]) = H1 at s1 hm1
      refine ⟨_, rfl, rl, rfl, ⟨_, SqL.of (s1 rl _ hrl)⟩, fun D1 hD1 => ?_⟩
      let g : Rec → Bool := fun r => dcd (r.who = q.who ∧ r.num = q.num)
      refine comp_by (n := xs.length) (fun i ys H2 => ys = ((p.recs.take i).map g).map V.bl ∧ H2 D1 = some (.lst ys) ∧ Same H1 H2) ⟨rfl, upd_same, Same.new hD1⟩ ?_ ?_
      · rintro ys H2 ⟨rfl, hD2, s2⟩
        rw [List.take_of_length_le (by omega)] at hD2
        refine ⟨⟨_, SqL.of ((s1.trans s2) rl _ hrl), Nat.le_refl _⟩, D1, p.recs.map g, rfl, SqL.of hD2, .inr ⟨_, rfl, ?_⟩⟩
        have ea : (p.recs.map g).any id = anyF p.recs q := by unfold anyF; rw [List.any_map]; rfl
        rw [ea]
        have fin : ∀ b : Bool, anyF p.recs q = b → ∃ u, atI [V.str "miss", V.str "hit"] (if b = true then 1 else 0) = some u ∧ u = .str (wordD p q) := fun b eb => by
          unfold wordD
          rw [if_pos ew, eb]
          cases b with
          | true => exact ⟨_, atI_nat (j := 1) rfl, rfl⟩
          | false => exact ⟨_, atI_nat (j := 0) rfl, rfl⟩
        obtain ⟨u, e1, e2⟩ := fin _ rfl
        refine ⟨m, _, _, u, rfl, rfl, SqL.of (s2 m _ hm1), e1, ?_⟩
        rw [e2]
        exact k H2 (s1.trans s2)
      · rintro i ys H2 hi ⟨rfl, hD2, s2⟩
        have hir : i < p.recs.length := by omega
        obtain ⟨ea, ew', en, ee, hea, de, da⟩ := K47.DpL.rec drs hir
        have s12 := s1.trans s2
        refine ⟨⟨_, _, SqL.of (s12 rl _ hrl), ee⟩, ?_⟩
        rintro y H3 ⟨rfl, yy⟩ σo ho
        obtain ⟨oo, rfl⟩ := own1 ho
        have ey := yy _ (SqL.of (s12 rl _ hrl))
        rw [ee] at ey
        cases ey
        refine ⟨⟨[_], rfl, rfl⟩, yes_by ⟨_, rfl, _, rfl, ea, _, rfl, SqT.of (s12 ea _ hea), by show ¬ (HT.sIx 3 0 none = 0 ∧ HT.sIx 3 3 (some 2) = 3); decide, fun q1 hq1 => ?_⟩⟩
        have s3 : Same H3 (upd H3 q1 (.tup [ew', .int p.recs[i].num])) := Same.new hq1
        refine ⟨_, rfl, _, rfl, qa, _, rfl, SqT.of ((s12.trans s3) qa _ hqa), by show ¬ (HT.sIx 3 0 none = 0 ∧ HT.sIx 3 3 (some 2) = 3); decide, fun q2 hq2 => ?_⟩
        have s4 : Same (upd H3 q1 (.tup [ew', .int p.recs[i].num])) (upd (upd H3 q1 (.tup [ew', .int p.recs[i].num])) q2 (.tup [qw, .int q.num])) := Same.new hq2
        have s14 := s12.trans (s3.trans s4)
        refine ⟨q1, q2, [ew', .int p.recs[i].num], [qw, .int q.num], [p.recs[i].who, .int p.recs[i].num], [q.who, .int q.num], rfl, rfl, s4 q1 _ upd_same, upd_same, .cons (de.mono (Same.tups s14)) (.cons (L2.Dp.int _) .nil), .cons (d1.mono (Same.tups s14)) (.cons (L2.Dp.int _) .nil), fun u hu => ?_, ?_⟩
        · rcases List.mem_cons.mp hu with rfl | hu
          · exact who_lv5 (hrec _ (List.getElem_mem hir))
          · rw [List.mem_singleton.mp hu]; trivial
        have ed : dcd ([p.recs[i].who, T.int p.recs[i].num] = [q.who, T.int q.num]) = g p.recs[i] := dcd_eq ⟨fun h => by injection h with h1 h2; injection h2 with h2 _; injection h2 with h2; exact ⟨h1, h2⟩, fun h => by rw [h.1, h.2]⟩
        rw [ed]
        refine ⟨by rw [List.length_map, List.length_map, List.length_take]; omega, (s3.trans s4) D1 _ hD2, less_by hi ⟨?_, upd_same, fun bb u e => ?_⟩⟩
        · rw [take_snoc hir, List.map_append, List.map_append]
          rfl
        · rw [upd_ne (ne_of_none e hD1)]
          exact (s3.trans s4) bb u (s2 bb u e)
end
end K47
end
section
set_option autoImplicit false
namespace K47
open PySem PyProof.Rows L2
theorem cutV_from (xs : List V) (k : Nat) (h : k ≤ xs.length) : cutV xs (some (k : Int)) none = xs.drop k := by
  unfold cutV
  rw [HT.sIx_nat, Nat.min_eq_left h]
  show List.take (xs.length - k) (xs.drop k) = _
  rw [List.take_of_length_le]
  rw [List.length_drop]
  exact Nat.le_refl _
theorem DpL.drop {H : Hp} : ∀ {ts : List T} {xs : List V} (m : Nat), DpL H ts xs → DpL H (ts.drop m) (xs.drop m)
  | [], xs, m, h => by rw [h.of_nil]; simp; exact .nil
  | t :: ts, xs, 0, h => h
  | t :: ts, xs, m + 1, h => by
    obtain ⟨x, r, rfl, h1, h2⟩ := L2.DpL.cases h
    exact K47.DpL.drop m h2
theorem swap_ne {q r : Rec} (h : ¬ r.who = q.who) : swapR q r = r := by
  unfold swapR
  rw [if_neg (by rw [dcd_f h]; exact Bool.false_ne_true)]
theorem swap_all {q : Rec} : ∀ {rs : List Rec}, (∀ r ∈ rs, ¬ r.who = q.who) → rs.map (swapR q) = rs
  | [], _ => rfl
  | r :: rs, h => by rw [List.map_cons, swap_ne (h r List.mem_cons_self), swap_all fun x hx => h x (List.mem_cons_of_mem _ hx)]
theorem kept_at {q : Rec} : ∀ {rs : List Rec} {j : Nat} (hj : j < rs.length), (rs.map (·.who)).Nodup → rs[j].who = q.who → rs.map (swapR q) = rs.take j ++ [q] ++ rs.drop (j + 1)
  | [], _, hj, _, _ => by cases hj
  | r :: rs, 0, _, nd, e => by
    obtain ⟨n1, n2⟩ := List.nodup_cons.mp nd
    have e : r.who = q.who := e
    rw [List.map_cons, swap_all fun x hx z => n1 (List.mem_map.mpr ⟨x, hx, z.trans e.symm⟩)]
    unfold swapR
    rw [if_pos (dcd_t e)]
    rfl
  | r :: rs, j + 1, hj, nd, e => by
    obtain ⟨n1, n2⟩ := List.nodup_cons.mp nd
    have hj' : j < rs.length := Nat.lt_of_succ_lt_succ hj
    have e : rs[j].who = q.who := e
    rw [List.map_cons, swap_ne (fun z => n1 (List.mem_map.mpr ⟨rs[j], List.getElem_mem hj', e.trans z.symm⟩)), kept_at hj' n2 e]
    rfl
section
variable {P : Program} {w : World} {K : PySem.W.Frag} {mg : Str → Option Value} {base : Heap} {t : Adr}
def spKept (n : Nat) : Sp := fun vs H Q _ => ∃ (vq : V) (rl : Addr) (xs : List V) (rs : List Rec) (q : Rec), vs = [.ref rl, vq] ∧ H rl = some (.lst xs) ∧ DpL H (rs.map recT) xs ∧ Dp H (recT q) vq ∧ rs.length ≤ 100 ∧ (rs.map (·.who)).Nodup ∧ WhoS n q.who ∧ (∀ r ∈ rs, RecOk n r) ∧
  ∀ (l : Addr) (ys : List V) H', H' l = some (.lst ys) → DpL H' ((keptF rs q).map recT) ys → Same H H' → Q (.ref l) H'
theorem ok_kept (D : Defs K mg t) (n : Nat) : FnOk P w K mg base CX0 1 t._law_kept.1 t._law_kept.2 ["_law_records", "_law_query"] (spKept n) := by
  have hz : sizeLine = 16777216 := sizeLine_eq
  refine D._law_kept.fn.ok sc__law_kept (fun vs H Q E h => ?_) (fun cdv A outer s H vs Q E hr h => ?_)
  · obtain ⟨vq, rl, xs, rs, q, rfl, _⟩ := h
    rfl
  · obtain ⟨vq, rl, xs, rs, q, rfl, hrl, drs, dq, h100, nd, hq, hrec, k⟩ := h
    obtain ⟨qa, qw, qn, rfl, hqa, d1, d2⟩ := K47.Dp.of_rec dq
    have hxl : xs.length = rs.length := by have := drs.length; rwa [List.length_map] at this
    refine ⟨_, (pss_cons (ps_setc (i := 2) rfl sc__law_kept.nd rfl (Or.inl rfl) (CompScope.of ["_law_k"] [1, 0] ["_law_k", "_law_query", "_law_records"] (defScope (top 29)) ["_law_records", "_law_query", "_law_spots"] rfl rfl (by decide +kernel)) ⟨fun _ _ _ _ _ => (pg_name (i := 0) (show List.Nodup [("_law_k" : Str), ("_law_query" : Str), ("_law_records" : Str)] by decide +kernel) rfl (Or.inl (lookup_relabel_local rfl)) (.inr (lookup_relabel_local rfl))), fun _ _ _ _ _ => (pts_one (pt_cmpR (op_eq.or (op_eqT (hu10 hr))) (pe_ix (ix_tup_K (K := K) rfl) (pe_ix (ix_list_K (K := K) rfl) (pv 2) (pv 0) (fun _ _ => rfl)) pe_int (fun _ _ => rfl)) (pe_ix (ix_tup_K (K := K) rfl) (pv 1) pe_int (fun _ _ => rfl)) (nomark _))), fun _ _ _ _ _ => (pv 0)⟩ (pi_range1 rfl D.b_range (pa_cons (pe_callB call_len_seq (by rfl) D.b_len bt_len (pa_cons (pv 0) pa_nil)) pa_nil)))
      (pss_cons (ps_if (pt_cmpR (op_eqE rfl hr.units0) (pv 2) (pe_lst pa_nil) (nomark _))
      (pss_one (ps_ret (pe_op op_cat (pv 0) (pe_lst (pa_cons (pv 1) pa_nil)))))
      pss_nil)
      (pss_one (ps_ret (pe_op op_cat (pe_op op_cat (pe_slice sl_list (pv 0) po_none (po_some (pe_ix ix_list (pv 2) pe_int (fun _ _ => rfl)))) (pe_lst (pa_cons (pv 1) pa_nil))) (pe_slice sl_list (pv 0) (po_some (pe_op op_add (pe_ix ix_list (pv 2) pe_int (fun _ _ => rfl)) pe_int)) po_none)))))), ?_⟩
    refine ⟨_, rfl, rl, _, rfl, .inl (SqL.of hrl), _, rfl, by omega, by omega, fun D1 hD1 => ?_⟩
    refine comp_by (n := (xs.length : Int).toNat) (fun i ys H2 => ys.length ≤ i ∧ ((ys = [] ∧ ∀ j (h : j < rs.length), j < i → ¬ rs[j].who = q.who) ∨ ∃ (j : Nat) (h : j < rs.length) (r : List V), ys = .int (j : Int) :: r ∧ rs[j].who = q.who) ∧ H2 = upd H D1 (.lst ys)) ⟨Nat.le_refl _, .inl ⟨rfl, fun _ _ h => absurd h (Nat.not_lt_zero _)⟩, rfl⟩ ?_ ?_
    rotate_left
    · rintro i ys H2 hi ⟨hyl, hys, rfl⟩
      have hir : i < rs.length := by omega
      obtain ⟨ea, ew, en, ee, hea, de, da⟩ := K47.DpL.rec drs hir
      have sd : Same H (upd H D1 (.lst ys)) := Same.new hD1
      refine ⟨hi, ?_⟩
      rintro x H5 ⟨rfl, rfl⟩ σo ho
      obtain ⟨oo, rfl⟩ := own1 ho
      have ez : (0 : Int) + (i : Int) = (i : Int) := by omega
      refine ⟨⟨[_], rfl, rfl⟩, _, rfl, _, rfl, rl, _, _, _, rfl, rfl, SqL.of (sd rl _ hrl), by rw [ez]; exact atI_nat ee, ea, _, _, _, rfl, rfl, SqT.of (sd ea _ hea), atI_nat (j := 0) rfl, _, rfl, qa, _, _, _, rfl, rfl, SqT.of (sd qa _ hqa), atI_nat (j := 0) rfl, who_eq (hrec _ (List.getElem_mem hir)) hq (de.mono (Same.tups sd)) (d1.mono (Same.tups sd)) ⟨_, rfl, ?_⟩⟩
      by_cases e1 : rs[i].who = q.who
      · rw [dcd_t e1]
        refine iteT ⟨_, rfl, by omega, upd_same, less_by hi ⟨by rw [List.length_append, List.length_singleton]; omega, .inr ?_, by rw [upd_upd]⟩⟩
        rcases hys with ⟨rfl, _⟩ | ⟨j, hj, r, rfl, e⟩
        · exact ⟨i, hir, [], by rw [ez]; rfl, e1⟩
        · exact ⟨j, hj, _, rfl, e⟩
      · rw [dcd_f e1]
        refine iteF (less_by hi ⟨by omega, ?_, rfl⟩)
        rcases hys with ⟨rfl, h⟩ | h
        · refine .inl ⟨rfl, fun j hj hji => ?_⟩
          rcases Nat.lt_or_ge j i with g | g
          · exact h j hj g
          · have : j = i := by omega
            subst this
            exact e1
        · exact .inr h
    rintro ys H2 ⟨hyl, hys, rfl⟩
    refine ⟨Nat.le_refl _, ?_⟩
    have sd : Same H (upd H D1 (.lst ys)) := Same.new hD1
    have hD : (upd H D1 (.lst ys)) D1 = some (.lst ys) := upd_same
    generalize upd H D1 (.lst ys) = H2 at sd hD
    refine ⟨_, rfl, Nat.zero_le _, fun e0 he0 => ⟨D1, e0, ys, rfl, rfl, SqL.of ((Same.new he0) D1 _ hD), SqL.of upd_same, _, rfl, ?_⟩⟩
    have s3 : Same H (upd H2 e0 (.lst [])) := sd.trans (Same.new he0)
    have hD3 : (upd H2 e0 (.lst [])) D1 = some (.lst ys) := (Same.new he0) D1 _ hD
    generalize upd H2 e0 (.lst []) = H3 at s3 hD3
    rcases hys with ⟨rfl, h⟩ | ⟨j, hj, r, rfl, e⟩
    · refine iteT ⟨_, rfl, _, rfl, by show 1 ≤ sizeLine; decide, fun e1 he1 => ⟨rl, e1, _, _, rfl, rfl, (s3.trans (Same.new he1)) rl _ hrl, upd_same, by show xs.length + 1 ≤ sizeLine; omega, fun l hl => ?_⟩⟩
      have s4 := s3.trans ((Same.new (o := .lst [.ref qa]) he1).trans (Same.new (o := .lst (xs ++ [.ref qa])) hl))
      refine k l _ _ upd_same ?_ s4
      have en : ¬ q.who ∈ rs.map (·.who) := fun hm => by
        obtain ⟨r, hr1, hr2⟩ := List.mem_map.mp hm
        obtain ⟨j, hj, rfl⟩ := List.getElem_of_mem hr1
        exact h j hj (by omega) hr2
      unfold keptF
      rw [if_neg (by rw [dcd_f en]; exact Bool.false_ne_true), List.map_append]
      exact (drs.mono (Same.tups s4)).append (.cons (dq.mono (Same.tups s4)) .nil)
    · refine iteF ?_
      refine ⟨_, rfl, _, rfl, D1, _, _, _, rfl, rfl, SqL.of hD3, atI_nat (j := 0) rfl, (j : Int), rfl, rl, _, rfl, SqL.of (s3 rl _ hrl), fun l1 hl1 => ?_⟩
      rw [cutV_to xs j (by omega)]
      have s4 : Same H3 (upd H3 l1 (.lst (xs.take j))) := Same.new hl1
      have h14 : (upd H3 l1 (.lst (xs.take j))) l1 = some (.lst (xs.take j)) := upd_same
      generalize upd H3 l1 (.lst (xs.take j)) = H4 at s4 h14
      refine ⟨_, rfl, by show 1 ≤ sizeLine; decide, fun l2 hl2 => ⟨l1, l2, _, _, rfl, rfl, (Same.new hl2) l1 _ h14, upd_same, by rw [List.length_take]; show min j xs.length + 1 ≤ sizeLine; omega, fun l3 hl3 => ?_⟩⟩
      have s5 : Same H4 (upd (upd H4 l2 (.lst [.ref qa])) l3 (.lst (xs.take j ++ [.ref qa]))) := (Same.new hl2).trans (Same.new hl3)
      have h35 : (upd (upd H4 l2 (.lst [.ref qa])) l3 (.lst (xs.take j ++ [.ref qa]))) l3 = some (.lst (xs.take j ++ [.ref qa])) := upd_same
      generalize upd (upd H4 l2 (.lst [.ref qa])) l3 (.lst (xs.take j ++ [.ref qa])) = H5 at s5 h35
      have s35 := s4.trans s5
      refine ⟨_, rfl, _, rfl, D1, _, _, _, rfl, rfl, SqL.of (s35 D1 _ hD3), atI_nat (j := 0) rfl, _, _, rfl, rfl, ((j + 1 : Nat) : Int), (show V.int ((j : Int) + 1) = _ by rfl), rl, _, rfl, SqL.of ((s3.trans s35) rl _ hrl), fun l4 hl4 => ?_⟩
      rw [cutV_from xs (j + 1) (by omega)]
      have s6 : Same H5 (upd H5 l4 (.lst (xs.drop (j + 1)))) := Same.new hl4
      have h46 : (upd H5 l4 (.lst (xs.drop (j + 1)))) l4 = some (.lst (xs.drop (j + 1))) := upd_same
      have h36 := s6 l3 _ h35
      generalize upd H5 l4 (.lst (xs.drop (j + 1))) = H6 at s6 h46 h36
      refine ⟨l3, l4, _, _, rfl, rfl, h36, h46, by rw [List.length_append, List.length_take, List.length_drop, List.length_singleton]; omega, fun l hl => ?_⟩
      have s7 := s3.trans (s35.trans (s6.trans (Same.new (o := .lst (xs.take j ++ [.ref qa] ++ xs.drop (j + 1))) hl)))
      refine k l _ _ upd_same ?_ s7
      unfold keptF
      rw [if_pos (dcd_t (List.mem_map.mpr ⟨rs[j], List.getElem_mem hj, e⟩)), kept_at hj nd e, List.map_append, List.map_append]
      have d7 := drs.mono (Same.tups s7)
      refine L2.DpL.append (L2.DpL.append ?_ (.cons (dq.mono (Same.tups s7)) .nil)) ?_
      · rw [List.map_take]
        exact K47.DpL.take j d7
      · rw [List.map_drop]
        exact K47.DpL.drop (j + 1) d7
end
end K47
end
section
set_option autoImplicit false
namespace K47
open PySem PyProof.Rows L2
structure StOk (n : Nat) (b c : Int) (qs : List Rec) (p : Pl) (s : Int) : Prop where
  st : p.st = "warm" ∨ p.st = "cold" ∨ p.st = "wild"
  tal : p.tal.length = 4
  warm : p.st = "warm" → p.cnt = 0 ∧ 0 < p.recs.length
  cold : ¬ p.st = "warm" → p.recs = [] ∧ p.cnt = s
  nd : (p.recs.map (·.who)).Nodup
  whos : ∀ r ∈ p.recs, WhoS n r.who ∧ Lz 1 r.ans
  len : (p.recs.length : Int) ≤ b
  cool : p.st = "wild" → p.cnt < c
  sub : ∀ r ∈ p.recs, r ∈ qs
theorem nMW : ¬ ("warm" : Str) = "wild" := by decide +kernel
theorem nWM : ¬ ("wild" : Str) = "warm" := by decide +kernel
theorem nCM : ¬ ("cold" : Str) = "warm" := by decide +kernel
theorem nCW : ¬ ("cold" : Str) = "wild" := by decide +kernel
theorem tally_len (tal : List Int) (w : Str) (h : tal.length = 4) : (tally tal w).length = 4 := by
  unfold tally
  rw [List.length_map, List.length_zip, h]
  rfl
theorem anyF_for (q : Rec) : ∀ (rs : List Rec), anyF rs q = (recFor rs q.who q.num).isSome
  | [] => rfl
  | r :: rs => by
    have ih := anyF_for q rs
    unfold anyF recFor at ih ⊢
    rw [List.any_cons, List.find?_cons, ih]
    by_cases h1 : r.who = q.who
    · by_cases h2 : r.num = q.num
      · rw [dcd_t ⟨h1, h2⟩, dcd_t h1, decide_eq_true h2]; rfl
      · rw [dcd_f (fun z => h2 z.2), decide_eq_false h2, Bool.and_false]; rfl
    · rw [dcd_f (fun z => h1 z.1), dcd_f h1]; rfl
theorem swap_who {q : Rec} : ∀ (rs : List Rec), (rs.map (swapR q)).map (·.who) = rs.map (·.who)
  | [] => rfl
  | r :: rs => by
    rw [List.map_cons, List.map_cons, List.map_cons, swap_who rs]
    congr 1
    unfold swapR
    by_cases h : r.who = q.who
    · rw [if_pos (dcd_t h)]; exact h.symm
    · rw [if_neg (by rw [dcd_f h]; exact Bool.false_ne_true)]
theorem swap_mem {q r : Rec} {rs : List Rec} (h : r ∈ rs.map (swapR q)) : r = q ∨ r ∈ rs := by
  obtain ⟨x, hx, rfl⟩ := List.mem_map.mp h
  unfold swapR
  by_cases e : x.who = q.who
  · rw [if_pos (dcd_t e)]; exact .inl rfl
  · rw [if_neg (by rw [dcd_f e]; exact Bool.false_ne_true)]; exact .inr hx
structure Out (n : Nat) (a b c : Int) (qs : List Rec) (p : Pl) (q : Rec) (s : Int) (p' : Pl) (s' : Int) : Prop where
  ok : StOk n b c qs p' s'
  tal : p'.tal = tally p.tal (wordD p q)
  how : (wordD p q = "cold" ∧ p'.st = "warm" ∧ a < s + 1 ∧ ¬ q.ans = .non ∧ p'.recs = [q] ∧ s' = 0) ∨
    (wordD p q = "cold" ∧ p'.st = p.st ∧ p.st = "cold" ∧ ¬ (a < s + 1 ∧ ¬ q.ans = .non) ∧ p'.recs = p.recs ∧ s' = s + 1) ∨
    (wordD p q = "wild" ∧ p'.st = "cold" ∧ s + 1 = c ∧ p'.recs = [] ∧ s' = 0) ∨
    (wordD p q = "wild" ∧ p'.st = p.st ∧ p.st = "wild" ∧ s + 1 < c ∧ p'.recs = p.recs ∧ s' = s + 1) ∨
    (wordD p q = "hit" ∧ p'.st = p.st ∧ p.st = "warm" ∧ p'.recs = p.recs ∧ s' = s + 1) ∨
    (wordD p q = "miss" ∧ p'.st = "wild" ∧ ¬ q.ans = .non ∧ (p.recs.length : Int) = b ∧ ¬ q.who ∈ p.recs.map (·.who) ∧ p'.recs = [] ∧ s' = 0) ∨
    (wordD p q = "miss" ∧ p'.st = p.st ∧ p.st = "warm" ∧ q.ans = .non ∧ p'.recs = p.recs ∧ s' = s + 1) ∨
    (wordD p q = "miss" ∧ p'.st = p.st ∧ p.st = "warm" ∧ ¬ q.ans = .non ∧ p'.recs = keptF p.recs q ∧ s' = s + 1)
theorem ask_out {n : Nat} {a b c : Int} {qs : List Rec} {p : Pl} {q : Rec} {s : Int} (ok : StOk n b c qs p s) (hb : 1 ≤ b) (hc : 1 ≤ c) (hq : WhoS n q.who) (lq : Lz 1 q.ans) (mq : q ∈ qs) :
    (askedF a b c p q).2.1 = wordD p q ∧ ∃ s', Out n a b c qs p q s (askedF a b c p q).1 s' := by
  rcases ok.st with e | e | e
  · have nc : ¬ p.st = "cold" := by rw [e]; decide +kernel
    have nw : ¬ p.st = "wild" := by rw [e]; decide +kernel
    obtain ⟨c0, l0⟩ := ok.warm e
    have ef : askedF a b c p q = lookedF b p q (recFor p.recs q.who q.num) := by
      unfold askedF
      rw [if_neg nc, if_neg nw]
    have ew : wordD p q = if (recFor p.recs q.who q.num).isSome = true then ("hit" : Str) else ("miss" : Str) := by
      unfold wordD
      rw [if_pos e, anyF_for]
    rw [ef]
    cases hf : recFor p.recs q.who q.num with
    | some r =>
      rw [hf] at ew
      have ew : wordD p q = "hit" := ew
      refine ⟨ew.symm, s + 1, ⟨ok.st, tally_len _ _ ok.tal, fun _ => ⟨c0, l0⟩, fun h => absurd e h, ok.nd, ok.whos, ok.len, fun h => absurd h nw, ok.sub⟩, by rw [ew]; rfl, .inr (.inr (.inr (.inr (.inl ⟨ew, rfl, e, rfl, rfl⟩))))⟩
    | none =>
      rw [hf] at ew
      have ew : wordD p q = "miss" := ew
      refine ⟨ew.symm, ?_⟩
      show ∃ s', Out n a b c qs p q s (warmF b p q) s'
      unfold warmF
      by_cases hn : q.ans = .non
      · rw [if_pos (dcd_t hn)]
        exact ⟨s + 1, ⟨.inl rfl, tally_len _ _ ok.tal, fun _ => ⟨rfl, l0⟩, fun h => absurd rfl h, ok.nd, ok.whos, ok.len, fun h => absurd h nMW, ok.sub⟩, by rw [ew], .inr (.inr (.inr (.inr (.inr (.inr (.inl ⟨ew, e.symm, e, hn, rfl, rfl⟩))))))⟩
      · rw [if_neg (by rw [dcd_f hn]; exact Bool.false_ne_true)]
        by_cases hin : q.who ∈ p.recs.map (·.who)
        · rw [if_pos (dcd_t hin)]
          refine ⟨s + 1, ⟨.inl rfl, tally_len _ _ ok.tal, fun _ => ⟨rfl, by rw [List.length_map]; exact l0⟩, fun h => absurd rfl h, by rw [swap_who]; exact ok.nd, fun r hr => ?_, by rw [List.length_map]; exact ok.len, fun h => absurd h nMW, fun r hr => ?_⟩, by rw [ew], .inr (.inr (.inr (.inr (.inr (.inr (.inr ⟨ew, e.symm, e, hn, ?_, rfl⟩))))))⟩
          · rcases swap_mem hr with rfl | h
            · exact ⟨hq, lq⟩
            · exact ok.whos r h
          · rcases swap_mem hr with rfl | h
            · exact mq
            · exact ok.sub r h
          · unfold keptF
            rw [if_pos (dcd_t hin)]
        · rw [if_neg (by rw [dcd_f hin]; exact Bool.false_ne_true)]
          by_cases hl : (p.recs.length : Int) < b
          · rw [if_pos hl]
            refine ⟨s + 1, ⟨.inl rfl, tally_len _ _ ok.tal, fun _ => ⟨rfl, by rw [List.length_append]; exact Nat.succ_pos _⟩, fun h => absurd rfl h, ?_, fun r hr => ?_, by rw [List.length_append, List.length_singleton]; omega, fun h => absurd h nMW, fun r hr => ?_⟩, by rw [ew], .inr (.inr (.inr (.inr (.inr (.inr (.inr ⟨ew, e.symm, e, hn, ?_, rfl⟩))))))⟩
            · rw [List.map_append]
              exact nd_snoc ok.nd hin
            · rcases List.mem_append.mp hr with h | h
              · exact ok.whos r h
              · rw [List.mem_singleton.mp h]; exact ⟨hq, lq⟩
            · rcases List.mem_append.mp hr with h | h
              · exact ok.sub r h
              · rw [List.mem_singleton.mp h]; exact mq
            · unfold keptF
              rw [if_neg (by rw [dcd_f hin]; exact Bool.false_ne_true)]
          · rw [if_neg hl]
            have hl' := ok.len
            exact ⟨0, ⟨.inr (.inr rfl), tally_len _ _ ok.tal, fun h => absurd h nWM, fun _ => ⟨rfl, rfl⟩, List.nodup_nil, fun r hr => (by cases hr), by show ((0 : Nat) : Int) ≤ b; omega, fun _ => (by show (0 : Int) < c; omega), fun r hr => (by cases hr)⟩, by rw [ew], .inr (.inr (.inr (.inr (.inr (.inl ⟨ew, rfl, hn, by omega, hin, rfl, rfl⟩)))))⟩
  · have nw : ¬ p.st = "warm" := by rw [e]; decide +kernel
    obtain ⟨r0, cs⟩ := ok.cold nw
    have ew : wordD p q = "cold" := by
      unfold wordD
      rw [if_neg nw, e]
    have ef : askedF a b c p q = (coldF a p q, ("cold" : Str), q.ans) := by
      unfold askedF
      rw [if_pos e]
    rw [ef]
    refine ⟨ew.symm, ?_⟩
    show ∃ s', Out n a b c qs p q s (coldF a p q) s'
    unfold coldF
    rw [cs]
    by_cases h : a < s + 1 ∧ dcd (q.ans = .non) = false
    · rw [if_pos h]
      have hn : ¬ q.ans = .non := fun z => by have := h.2; rw [dcd_t z] at this; cases this
      refine ⟨0, ⟨.inl rfl, tally_len _ _ ok.tal, fun _ => ⟨rfl, Nat.succ_pos _⟩, fun h => absurd rfl h, by simp, fun r hr => ?_, by show ((1 : Nat) : Int) ≤ b; omega, fun h => absurd h nMW, fun r hr => ?_⟩, by rw [ew], .inl ⟨ew, rfl, h.1, hn, rfl, rfl⟩⟩
      · rw [List.mem_singleton.mp hr]; exact ⟨hq, lq⟩
      · rw [List.mem_singleton.mp hr]; exact mq
    · rw [if_neg h]
      have hn : ¬ (a < s + 1 ∧ ¬ q.ans = .non) := fun z => h ⟨z.1, dcd_f z.2⟩
      exact ⟨s + 1, ⟨.inr (.inl rfl), tally_len _ _ ok.tal, fun h => absurd h nCM, fun _ => ⟨rfl, rfl⟩, List.nodup_nil, fun r hr => (by cases hr), by show ((0 : Nat) : Int) ≤ b; omega, fun h => absurd h nCW, fun r hr => (by cases hr)⟩, by rw [ew], .inr (.inl ⟨ew, e.symm, e, hn, r0.symm, rfl⟩)⟩
  · have nw : ¬ p.st = "warm" := by rw [e]; decide +kernel
    have nc : ¬ p.st = "cold" := by rw [e]; decide +kernel
    obtain ⟨r0, cs⟩ := ok.cold nw
    have hcool := ok.cool e
    have ew : wordD p q = "wild" := by
      unfold wordD
      rw [if_neg nw, e]
    have ef : askedF a b c p q = (wildF c p, ("wild" : Str), q.ans) := by
      unfold askedF
      rw [if_neg nc, if_pos e]
    rw [ef]
    refine ⟨ew.symm, ?_⟩
    show ∃ s', Out n a b c qs p q s (wildF c p) s'
    unfold wildF
    rw [cs] at hcool ⊢
    by_cases h : c ≤ s + 1
    · rw [if_pos h]
      exact ⟨0, ⟨.inr (.inl rfl), tally_len _ _ ok.tal, fun h => absurd h nCM, fun _ => ⟨rfl, rfl⟩, List.nodup_nil, fun r hr => (by cases hr), by show ((0 : Nat) : Int) ≤ b; omega, fun h => absurd h nCW, fun r hr => (by cases hr)⟩, by rw [ew], .inr (.inr (.inl ⟨ew, rfl, by omega, rfl, rfl⟩))⟩
    · rw [if_neg h]
      exact ⟨s + 1, ⟨.inr (.inr rfl), tally_len _ _ ok.tal, fun h => absurd h nWM, fun _ => ⟨rfl, rfl⟩, List.nodup_nil, fun r hr => (by cases hr), by show ((0 : Nat) : Int) ≤ b; omega, fun _ => (by show s + 1 < c; omega), fun r hr => (by cases hr)⟩, by rw [ew], .inr (.inr (.inr (.inl ⟨ew, e.symm, e, by omega, r0.symm, rfl⟩)))⟩
end K47
end
section
set_option autoImplicit false
namespace K47
open PySem PyProof.Rows L2
theorem strT {x y : Str} {A B : Prop} (h : x = y) (a : A) : if decide (V.str x = V.str y) = true then A else B := by
  rw [if_pos (decide_eq_true (by rw [h]))]
  exact a
theorem strF {x y : Str} {A B : Prop} (h : ¬ x = y) (b : B) : if decide (V.str x = V.str y) = true then A else B := by
  rw [if_neg (fun z => h (by have := of_decide_eq_true z; injection this))]
  exact b
theorem word_in {n : Nat} {b c : Int} {qs : List Rec} {p : Pl} {q : Rec} {s : Int} (ok : StOk n b c qs p s) : ∃ (i : Nat) (hi : i < 4), wordD p q = wordsL[i]'hi := by
  unfold wordD
  rcases ok.st with e | e | e
  · rw [if_pos e]
    by_cases h : anyF p.recs q = true
    · rw [if_pos h]; exact ⟨1, by decide, rfl⟩
    · rw [if_neg h]; exact ⟨2, by decide, rfl⟩
  · rw [if_neg (by rw [e]; exact nCM), e]
    exact ⟨0, by decide, rfl⟩
  · rw [if_neg (by rw [e]; exact nWM), e]
    exact ⟨3, by decide, rfl⟩
theorem by_rest {G : Prop} (S : Hp → Prop) {NX : Hp → Prop} (use : (∀ H3, S H3 → NX H3) → G) (rest : ∀ H3, S H3 → NX H3) : G := use rest
theorem tally_tt {n : Nat} {b c : Int} {qs : List Rec} {p : Pl} {q : Rec} {s : Int} (ok : StOk n b c qs p s) : ∃ (i : Nat) (hi : i < 4), wordD p q = wordsL[i]'hi := word_in ok
theorem asked_ans {a b c : Int} {p : Pl} {q : Rec} (hp : p.st = "warm" ∨ p.st = "cold" ∨ p.st = "wild") : (p.st = "warm" ∧ ∃ r, recFor p.recs q.who q.num = some r ∧ (askedF a b c p q).2.2 = r.ans ∧ wordD p q = "hit") ∨ ((askedF a b c p q).2.2 = q.ans ∧ ¬ wordD p q = "hit") := by
  rcases hp with e | e | e
  · have nc : ¬ p.st = "cold" := by rw [e]; decide +kernel
    have nw : ¬ p.st = "wild" := by rw [e]; decide +kernel
    have ef : askedF a b c p q = lookedF b p q (recFor p.recs q.who q.num) := by
      unfold askedF
      rw [if_neg nc, if_neg nw]
    have ew : wordD p q = if (recFor p.recs q.who q.num).isSome = true then ("hit" : Str) else ("miss" : Str) := by
      unfold wordD
      rw [if_pos e, anyF_for]
    rw [ef]
    cases hf : recFor p.recs q.who q.num with
    | some r =>
      rw [hf] at ew
      exact .inl ⟨e, r, rfl, rfl, ew⟩
    | none =>
      rw [hf] at ew
      exact .inr ⟨rfl, fun h => absurd (ew.symm.trans h) (by show ¬ ("miss" : Str) = "hit"; decide +kernel)⟩
  · refine .inr ⟨by unfold askedF; rw [if_pos e], fun h => ?_⟩
    unfold wordD at h
    rw [e, if_neg nCM] at h
    exact absurd h (by decide +kernel)
  · refine .inr ⟨by unfold askedF; rw [if_neg (by rw [e]; decide +kernel), if_pos e], fun h => ?_⟩
    unfold wordD at h
    rw [e, if_neg nWM] at h
    exact absurd h (by decide +kernel)
theorem ask_lz {n : Nat} {a b c : Int} {qs : List Rec} {p : Pl} {q : Rec} {s : Int} (ok : StOk n b c qs p s) (lq : Lz 1 q.ans) : Lz 1 (askedF a b c p q).2.2 := by
  rcases asked_ans (a := a) (b := b) (c := c) (q := q) ok.st with ⟨_, r, hf, e, _⟩ | ⟨e, _⟩
  · rw [e]
    exact (ok.whos r (List.mem_of_find?_eq_some hf)).2
  · rw [e]
    exact lq
theorem ask_hit {n : Nat} {a b c : Int} {qs : List Rec} {p : Pl} {q : Rec} {s : Int} (ok : StOk n b c qs p s) (h : wordD p q = "hit") : ∃ r, recFor p.recs q.who q.num = some r ∧ (askedF a b c p q).2.2 = r.ans := by
  rcases asked_ans (a := a) (b := b) (c := c) (q := q) ok.st with ⟨_, r, hf, e, _⟩ | ⟨_, e⟩
  · exact ⟨r, hf, e⟩
  · exact absurd h e
theorem ask_not {n : Nat} {a b c : Int} {qs : List Rec} {p : Pl} {q : Rec} {s : Int} (ok : StOk n b c qs p s) (h : ¬ wordD p q = "hit") : (askedF a b c p q).2.2 = q.ans := by
  rcases asked_ans (a := a) (b := b) (c := c) (q := q) ok.st with ⟨_, r, hf, e, e'⟩ | ⟨e, _⟩
  · exact absurd e' h
  · exact e
section
variable {P : Program} {w : World} {K : PySem.W.Frag} {mg : Str → Option Value} {base : Heap} {t : Adr}
def spStep (n : Nat) : Sp := fun vs H Q _ => ∃ (vw v vq : V) (rl : Addr) (xs : List V) (a b c d : Int) (qs : List Rec) (p : Pl) (q : Rec) (s : Int) (sd : Bool), vs = [vw, v, .ref rl, vq, .int s, .bl sd] ∧ Dp H (wmT a b c d) vw ∧ 0 ≤ a ∧ a ≤ 9 ∧ 1 ≤ b ∧ b ≤ 9 ∧ 1 ≤ c ∧ c ≤ 9 ∧ 0 ≤ d ∧ d ≤ 9 ∧ Dp H (plT p) v ∧ H rl = some (.lst xs) ∧ DpL H (p.recs.map recT) xs ∧ Dp H (recT q) vq ∧ StOk n b c qs p s ∧ WhoS n q.who ∧ Lz 1 q.ans ∧ q ∈ qs ∧ (sd = true → (askedF a b c p q).2.2 = q.ans) ∧
  ∀ (L rl' : Addr) (u : V) (ys : List V) (s' : Int) H', H' L = some (.lst [u, .ref rl', .int s']) → Dp H' (plT (askedF a b c p q).1) u → H' rl' = some (.lst ys) → DpL H' ((askedF a b c p q).1.recs.map recT) ys → Out n a b c qs p q s (askedF a b c p q).1 s' → Same H H' → Q (.ref L) H'
theorem ok_step (D : Defs K mg t) (GL : Glb K mg t) (n : Nat) : FnOk P w K mg base CX0 4 t._law_step.1 t._law_step.2 ["_law_warming", "_law_place", "_law_records", "_law_query", "_law_spell", "_law_steady"] (spStep n) := by
  have G_asked : FnOk P w K mg base CX0 3 t.asked.1 t.asked.2 _ (spAsked n) := ok_asked D GL n
  have G__law_word_due : FnOk P w K mg base CX0 1 t._law_word_due.1 t._law_word_due.2 _ (spWordDue n) := ok_wordDue D n
  have G__law_same : FnOk P w K mg base CX0 2 t._law_same.1 t._law_same.2 _ (spSame 1) := ok_same D 1
  have G__law_is_place : FnOk P w K mg base CX0 2 t._law_is_place.1 t._law_is_place.2 _ spIsPlace := ok_isPlace D
  have G__law_counted : FnOk P w K mg base CX0 1 t._law_counted.1 t._law_counted.2 _ spCounted := ok_counted D
  have G__law_kept : FnOk P w K mg base CX0 1 t._law_kept.1 t._law_kept.2 _ (spKept n) := ok_kept D n
  have hz : sizeLine = 16777216 := sizeLine_eq
  refine D._law_step.fn.ok sc__law_step (fun vs H Q E h => ?_) (fun cdv A outer s0 H vs Q E hr h => ?_)
  · obtain ⟨vw, v, vq, rl, xs, a, b, c, d, qs, p, q, s, sd, rfl, _⟩ := h
    rfl
  · obtain ⟨vw, v, vq, rl, xs, a, b, c, d, qs, p, q, s, sd, rfl, dw, ha0, ha, hb0, hb, hc0, hc, hd0, hd, dv, hrl, drs, dq, ok, hq, lq, mq, hsd, k⟩ := h
    obtain ⟨wa, rfl, hwa⟩ := K47.Dp.of_wm dw
    obtain ⟨pa, pr, pt, px, rfl, hpa, hpr, _, hpt⟩ := K47.Dp.of_pl dv
    obtain ⟨qa, qw, qn, rfl, hqa, d1, d2⟩ := K47.Dp.of_rec dq
    have hxl : xs.length = p.recs.length := by have := drs.length; rwa [List.length_map] at this
    have h9 := ok.len
    obtain ⟨hword, s', out⟩ := ask_out (a := a) ok hb0 hc0 hq lq mq
    refine ⟨_, (pss_cons (ps_set (i := 6) sc__law_step.nd rfl (Or.inl rfl) (pe_callF D.asked G_asked (hr.mono (by omega)) (by rfl) (pa_cons (pv 0) (pa_cons (pv 1) (pa_cons (pe_ix ix_tup (pv 3) pe_int (fun _ _ => rfl)) (pa_cons (pe_ix ix_tup (pv 3) pe_int (fun _ _ => rfl)) (pa_cons (pe_ix ix_tup (pv 3) pe_int (fun _ _ => rfl)) pa_nil)))))))
      (pss_cons (ps_set (i := 7) sc__law_step.nd rfl (Or.inl rfl) (pe_callF D._law_word_due G__law_word_due (hr.mono (by omega)) (by rfl) (pa_cons (pv 1) (pa_cons (pv 2) (pa_cons (pv 3) pa_nil)))))
      (pss_cons (ps_if (PW.pt (pw_or (pt_not (pt_val (pe_callB call_isinst (by rfl) D.b_isinstance bt_isinstance (pa_cons (pv 6) (pa_cons (pe_bltn (v := V.ty "tuple") rfl D.b_tuple bt_tuple rfl) pa_nil))))) (pw_or (pt_cmpR op_ne (pe_callB call_len_seq (by rfl) D.b_len bt_len (pa_cons (pv 6) pa_nil)) pe_int (nomark _)) (pw_or1 (pt_cmpR op_ne (pe_ix ix_tup (pv 6) pe_int (fun _ _ => rfl)) (pv 7) (nomark _))))))
      (pss_one (ps_ret pe_non))
      pss_nil)
      (pss_cons (ps_if (PW.pt (pw_and (pt_truth (pv 5) (by intro _; rfl)) (pw_and1 (pt_not (pt_val (pe_callF D._law_same G__law_same (hr.mono (by omega)) (by rfl) (pa_cons (pe_ix ix_tup (pv 6) pe_int (fun _ _ => rfl)) (pa_cons (pe_ix ix_tup (pv 3) pe_int (fun _ _ => rfl)) pa_nil))))))))
      (pss_one (ps_ret pe_non))
      pss_nil)
      (pss_cons (ps_set (i := 8) sc__law_step.nd rfl (Or.inl rfl) (pe_ix ix_tup (pv 6) pe_int (fun _ _ => rfl)))
      (pss_cons (ps_set (i := 9) sc__law_step.nd rfl (Or.inl rfl) (pe_ix ix_tup (pv 3) pe_int (fun _ _ => rfl)))
      (pss_join (ps_if (pt_cmpR op_eq (pv 7) pe_str (nomark _))
      (pss_one (ps_set (i := 9) sc__law_step.nd rfl (Or.inl rfl) (pe_ix ix_list (pe_comp rfl (CompScope.of ["_law_record"] [3] ["_law_record", "_law_query"] (defScope (top 32)) ["_law_warming", "_law_place", "_law_records", "_law_query", "_law_spell", "_law_steady", "_law_answer_here", "_law_word_here", "_law_told", "_law_due", "_law_full"] rfl rfl (by decide +kernel)) ⟨fun _ _ _ _ _ => (pg_name (i := 0) (show List.Nodup [("_law_record" : Str), ("_law_query" : Str)] by decide +kernel) rfl (Or.inl (lookup_relabel_local rfl)) (.inr (lookup_relabel_local rfl))), fun _ _ _ _ _ => (pts_one (pt_cmpR (op_eqT (hu10 hr)) (pe_slice (sl_tup_K (K := K) rfl) (pv 0) po_none (po_some pe_int)) (pe_slice (sl_tup_K (K := K) rfl) (pv 1) po_none (po_some pe_int)) (nomark _))), fun _ _ _ _ _ => (pe_ix (ix_tup_K (K := K) rfl) (pv 0) pe_int (fun _ _ => rfl))⟩ (pi_list (pv 2))) pe_int (fun _ _ => rfl))))
      pss_nil)
      (pss_cons (ps_if (PW.pt (pw_or (pt_not (pt_val (pe_callF D._law_same G__law_same (hr.mono (by omega)) (by rfl) (pa_cons (pe_ix ix_tup (pv 6) pe_int (fun _ _ => rfl)) (pa_cons (pv 9) pa_nil))))) (pw_or (pt_not (pt_val (pe_callF D._law_is_place G__law_is_place (hr.mono (by omega)) (by rfl) (pa_cons (pv 8) (pa_cons (pe_ix ix_tup (pv 0) pe_int (fun _ _ => rfl)) pa_nil))))) (pw_or1 (pt_not (pt_val (pe_callF D._law_counted G__law_counted (hr.mono (by omega)) (by rfl) (pa_cons (pv 1) (pa_cons (pv 8) (pa_cons (pv 7) pa_nil))))))))))
      (pss_one (ps_ret pe_non))
      pss_nil)
      (pss_cons (ps_if (PW.pt (pw_and (pt_cmpR op_eq (pv 7) pe_str (nomark _)) (pw_and1 (pt_cmpR op_eq (pe_ix ix_tup (pv 8) pe_int (fun _ _ => rfl)) pe_str (nomark _)))))
      (pss_cons (ps_set (i := 10) sc__law_step.nd rfl (Or.inl rfl) (pe_and (pe_cmpR op_eq (pe_callB call_len_seq (by rfl) D.b_len bt_len (pa_cons (pv 2) pa_nil)) (pe_ix ix_tup (pv 0) pe_int (fun _ _ => rfl)) (nomark _)) (pe_one (pe_cmpR (op_notInT (hu10 hr)) (pe_ix ix_tup (pv 3) pe_int (fun _ _ => rfl)) (pe_comp rfl (CompScope.of ["_law_record"] [] ["_law_record"] (defScope (top 32)) ["_law_warming", "_law_place", "_law_records", "_law_query", "_law_spell", "_law_steady", "_law_answer_here", "_law_word_here", "_law_told", "_law_due", "_law_full"] rfl rfl (by decide +kernel)) ⟨fun _ _ _ _ _ => (pg_name (i := 0) (show List.Nodup [("_law_record" : Str)] by decide +kernel) rfl (Or.inl (lookup_relabel_local rfl)) (.inr (lookup_relabel_local rfl))), fun _ _ _ _ _ => pts_nil, fun _ _ _ _ _ => (pe_ix (ix_tup_K (K := K) rfl) (pv 0) pe_int (fun _ _ => rfl))⟩ (pi_list (pv 2))) (by with_unfolding_all rfl)))))
      (pss_one (ps_ret (pe_lst (pa_cons (pe_ix ix_list (pe_lst (pa_cons pe_non (pa_cons (pv 8) pa_nil))) (pe_callTy call_int1 (by rfl) D.b_int bt_int (pa_cons (pe_and (pv 10) (pe_one (pe_cmpR op_notN (pe_ix ix_tup (pv 3) pe_int (fun _ _ => rfl)) pe_non (nomark _)))) pa_nil)) (fun _ _ => rfl)) (pa_cons (pe_lst pa_nil) (pa_cons pe_int pa_nil)))))))
      pss_nil)
      (pss_cons (ps_if (PW.pt (pw_and (pt_cmpR op_eq (pv 7) pe_str (nomark _)) (pw_and1 (pt_cmpR op_eq (pe_ix ix_tup (pv 8) pe_int (fun _ _ => rfl)) pe_str (nomark _)))))
      (pss_one (ps_ret (pe_lst (pa_cons (pe_ix ix_list (pe_lst (pa_cons pe_non (pa_cons (pv 8) pa_nil))) (pe_callTy call_int1 (by rfl) D.b_int bt_int (pa_cons (pe_and (pe_cmpR op_gt (pe_op op_add (pv 4) pe_int) (pe_ix ix_tup (pv 0) pe_int (fun _ _ => rfl)) (nomark _)) (pe_one (pe_cmpR op_notN (pe_ix ix_tup (pv 3) pe_int (fun _ _ => rfl)) pe_non (nomark _)))) pa_nil)) (fun _ _ => rfl)) (pa_cons (pe_lst (pa_cons (pv 3) pa_nil)) (pa_cons pe_int pa_nil))))))
      pss_nil)
      (pss_cons (ps_if (PW.pt (pw_and (pt_cmpR op_eq (pv 7) pe_str (nomark _)) (pw_and1 (pt_cmpR op_eq (pe_ix ix_tup (pv 8) pe_int (fun _ _ => rfl)) pe_str (nomark _)))))
      (pss_one (ps_ret (pe_lst (pa_cons (pe_ix ix_list (pe_lst (pa_cons pe_non (pa_cons (pv 8) pa_nil))) (pe_callTy call_int1 (by rfl) D.b_int bt_int (pa_cons (pe_cmpR op_eq (pe_op op_add (pv 4) pe_int) (pe_ix ix_tup (pv 0) pe_int (fun _ _ => rfl)) (nomark _)) pa_nil)) (fun _ _ => rfl)) (pa_cons (pe_lst pa_nil) (pa_cons pe_int pa_nil))))))
      pss_nil)
      (pss_cons (ps_if (PW.pt (pw_or (pt_cmpR op_ne (pe_ix ix_tup (pv 8) pe_int (fun _ _ => rfl)) (pe_ix ix_tup (pv 1) pe_int (fun _ _ => rfl)) (nomark _)) (pw_or1 (PW.pt (pw_and (pt_cmpR op_eq (pv 7) pe_str (nomark _)) (pw_and (pt_cmpR op_gt (pe_op op_add (pv 4) pe_int) (pe_ix ix_tup (pv 0) pe_int (fun _ _ => rfl)) (nomark _)) (pw_and1 (pt_cmpR op_notN (pe_ix ix_tup (pv 3) pe_int (fun _ _ => rfl)) pe_non (nomark _)))))))))
      (pss_one (ps_ret pe_non))
      pss_nil)
      (pss_cons (ps_if (PW.pt (pw_and (pt_cmpR op_eq (pv 7) pe_str (nomark _)) (pw_and1 (pt_cmpR op_ge (pe_op op_add (pv 4) pe_int) (pe_ix ix_tup (pv 0) pe_int (fun _ _ => rfl)) (nomark _)))))
      (pss_one (ps_ret pe_non))
      pss_nil)
      (pss_join (ps_if (PW.pt (pw_and (pt_cmpR op_eq (pv 7) pe_str (nomark _)) (pw_and1 (pt_cmpR op_notN (pe_ix ix_tup (pv 3) pe_int (fun _ _ => rfl)) pe_non (nomark _)))))
      (pss_one (ps_set (i := 2) sc__law_step.nd rfl (Or.inl rfl) (pe_callF D._law_kept G__law_kept (hr.mono (by omega)) (by rfl) (pa_cons (pv 2) (pa_cons (pv 3) pa_nil)))))
      pss_nil)
      (pss_one (ps_ret (pe_lst (pa_cons (pv 8) (pa_cons (pv 2) (pa_cons (pe_op op_add (pv 4) pe_int) pa_nil)))))))))))))))))))), ?_⟩
    refine ⟨_, rfl, _, rfl, _, rfl, qa, _, _, _, rfl, rfl, SqT.of hqa, atI_nat (j := 0) rfl, _, rfl, qa, _, _, _, rfl, rfl, SqT.of hqa, atI_nat (j := 1) rfl, _, rfl, qa, _, _, _, rfl, rfl, SqT.of hqa, atI_nat (j := 2) rfl, ?_⟩
    refine ⟨.ref wa, .ref pa, qw, qn, a, b, c, d, p, q, rfl, dw, ha0, ha, hb0, hb, hc0, hc, hd0, hd, dv, d1, d2, ok.tal, by omega, hq, fun r hr => (ok.whos r hr).1, fun u H1 du s1 => ?_⟩
    refine ⟨_, rfl, _, rfl, _, rfl, .ref pa, .ref qa, rl, xs, p, q, rfl, dv.mono (Same.tups s1), s1 rl _ hrl, drs.mono (Same.tups s1), dq.mono (Same.tups s1), by omega, hq, fun r hr => (ok.whos r hr).1, fun H2 s2 => ?_⟩
    have lza : Lz 1 (askedF a b c p q).2.2 := ask_lz ok lq
    have hhit : wordD p q = "hit" → ∃ r, recFor p.recs q.who q.num = some r ∧ (askedF a b c p q).2.2 = r.ans := ask_hit ok
    have hnot : ¬ wordD p q = "hit" → (askedF a b c p q).2.2 = q.ans := ask_not ok
    have tt := tally_tt ok (q := q)
    obtain ⟨wi, hwi, ewi⟩ := tt
    generalize askedF a b c p q = R at du hword out lza hhit hnot hsd k
    obtain ⟨p', W, an⟩ := R
    dsimp only at du hword out lza hhit hnot hsd k
    subst hword
    have s12 := s1.trans s2
    have du := du.mono (Same.tups s2)
    obtain ⟨ua, us, rfl, hua, dus⟩ := L2.Dp.of_tup du
    obtain ⟨u1, u2, u3, rfl, e1, e2, e3⟩ := K47.DpL.three dus
    rw [e2.of_str] at hua
    obtain ⟨ta, tr, tl, tx, rfl, hta, htr, dtr, htl⟩ := K47.Dp.of_pl e1
    clear dus
    have d2' := d2.mono (Same.tups s12)
    have hqa2 := s12 qa _ hqa
    refine ⟨_, rfl, _, _, _, true, rfl, .tup hua, kit_same K "tuple", _, rfl, iteF ?_⟩
    refine ⟨_, rfl, ua, _, rfl, .inr (SqT.of hua), rfl, _, rfl, iteF ?_⟩
    refine ⟨_, rfl, ua, _, _, _, rfl, rfl, SqT.of hua, atI_nat (j := 1) rfl, _, rfl, rfl, _, rfl, iteNeg (by simp) ?_⟩
    apply by_rest (Same H2)
    case use =>
      intro rest
      refine ⟨_, rfl, sd, rfl, ite2 (fun hs => ?_) (fun hs => ?_)⟩
      · refine ⟨_, rfl, ua, _, _, _, rfl, rfl, SqT.of hua, atI_nat (j := 2) rfl, _, rfl, qa, _, _, _, rfl, rfl, SqT.of hqa2, atI_nat (j := 2) rfl, u3, qn, an, rfl, e3, by rw [hsd hs]; exact d2', lza, fun H3 s3 => ⟨true, rfl, iteF (rest H3 s3)⟩⟩
      · exact iteF (rest H2 (Same.refl _))
    case rest =>
    intro H3 s3
    have s13 := s12.trans s3
    refine ⟨_, rfl, ua, _, _, _, rfl, rfl, SqT.of (s3 ua _ hua), atI_nat (j := 0) rfl, ?_⟩
    refine ⟨_, rfl, qa, _, _, _, rfl, rfl, SqT.of (s13 qa _ hqa), atI_nat (j := 2) rfl, ?_⟩
    refine ⟨fun σ' H' => ∃ vd, σ' = [some (.ref wa), some (.ref pa), some (.ref rl), some (.ref qa), some (.int s), some (.bl sd), some (.ref ua), some (.str (wordD p q)), some (.ref ta), some vd, none] ∧ Dp H' an vd ∧ Same H3 H', ?_, ?_⟩
    · refine ⟨_, rfl, rfl, _, rfl, ite2 (fun hb => ?_) (fun hb => ?_)⟩
      · have hb : wordD p q = "hit" := by
          have := of_decide_eq_true hb
          injection this
        obtain ⟨r, hf, er⟩ := hhit hb
        refine ⟨_, rfl, rl, rfl, ⟨_, SqL.of (s13 rl _ hrl)⟩, fun D1 hD1 => ?_⟩
        let g : Rec → Bool := fun r => dcd (r.who = q.who) && decide (r.num = q.num)
        refine comp_by (n := xs.length) (fun i ys H4 => DpL H4 (((p.recs.take i).filter g).map (·.ans)) ys ∧ ys.length ≤ i ∧ H4 D1 = some (.lst ys) ∧ Same H3 H4) ⟨.nil, Nat.le_refl _, upd_same, Same.new hD1⟩ ?_ ?_
        · rintro ys H4 ⟨dy, hyl, hD4, s4⟩
          rw [List.take_of_length_le (by omega)] at dy
          refine ⟨⟨_, SqL.of ((s13.trans s4) rl _ hrl), Nat.le_refl _⟩, ?_⟩
          have hh : (p.recs.filter g).head? = some r := by rw [List.head?_filter]; exact hf
          cases hfl : p.recs.filter g with
          | nil => rw [hfl] at hh; cases hh
          | cons r0 l0 =>
            rw [hfl] at hh dy
            cases hh
            obtain ⟨y0, yr, rfl, dy0, _⟩ := L2.DpL.cases dy
            refine ⟨D1, _, _, y0, rfl, rfl, SqL.of hD4, atI_nat (j := 0) rfl, y0, rfl, ?_, s4⟩
            rw [er]
            exact dy0
        · rintro i ys H4 hi ⟨dy, hyl, hD4, s4⟩
          have hir : i < p.recs.length := by omega
          obtain ⟨ea, ew', en, ee, hea, de, da⟩ := K47.DpL.rec drs hir
          have s14 := s13.trans s4
          refine ⟨⟨_, _, SqL.of (s14 rl _ hrl), ee⟩, ?_⟩
          rintro y H5 ⟨rfl, yy⟩ σo ho
          obtain ⟨oo, rfl⟩ := own1 ho
          have ey := yy _ (SqL.of (s14 rl _ hrl))
          rw [ee] at ey
          cases ey
          refine ⟨⟨[_], rfl, rfl⟩, _, rfl, _, rfl, ea, _, rfl, SqT.of (s14 ea _ hea), by show ¬ (HT.sIx 3 0 none = 0 ∧ HT.sIx 3 3 (some 2) = 3); decide, fun q1 hq1 => ?_⟩
          have s5 : Same H5 (upd H5 q1 (.tup [ew', .int p.recs[i].num])) := Same.new hq1
          refine ⟨_, rfl, _, rfl, qa, _, rfl, SqT.of ((s14.trans s5) qa _ hqa), by show ¬ (HT.sIx 3 0 none = 0 ∧ HT.sIx 3 3 (some 2) = 3); decide, fun q2 hq2 => ?_⟩
          have s6 : Same (upd H5 q1 (.tup [ew', .int p.recs[i].num])) (upd (upd H5 q1 (.tup [ew', .int p.recs[i].num])) q2 (.tup [qw, .int q.num])) := Same.new hq2
          have s16 := s14.trans (s5.trans s6)
          refine ⟨q1, q2, [ew', .int p.recs[i].num], [qw, .int q.num], [p.recs[i].who, .int p.recs[i].num], [q.who, .int q.num], rfl, rfl, s6 q1 _ upd_same, upd_same, .cons (de.mono (Same.tups s16)) (.cons (L2.Dp.int _) .nil), .cons (d1.mono (Same.tups s16)) (.cons (L2.Dp.int _) .nil), fun u hu => ?_, _, rfl, ?_⟩
          · rcases List.mem_cons.mp hu with rfl | hu
            · exact who_lv5 (ok.whos _ (List.getElem_mem hir)).1
            · rw [List.mem_singleton.mp hu]; trivial
          have ed : dcd ([p.recs[i].who, T.int p.recs[i].num] = [q.who, T.int q.num]) = g p.recs[i] := by
            show _ = (dcd (p.recs[i].who = q.who) && decide (p.recs[i].num = q.num))
            by_cases h1 : p.recs[i].who = q.who
            · by_cases h2 : p.recs[i].num = q.num
              · rw [dcd_t h1, decide_eq_true h2, dcd_t (by rw [h1, h2])]; rfl
              · rw [decide_eq_false h2, Bool.and_false, dcd_f (fun z => h2 (by injection z with _ z; injection z with z _; injection z))]
            · rw [dcd_f h1, dcd_f (fun z => h1 (by injection z))]; rfl
          rw [ed]
          have etk : ((p.recs.take (i + 1)).filter g).map (·.ans) = ((p.recs.take i).filter g).map (·.ans) ++ (if g p.recs[i] = true then [p.recs[i].ans] else []) := by
            rw [take_snoc hir, List.filter_append, List.map_append, List.filter_cons]
            by_cases h : g p.recs[i] = true
            · rw [if_pos h, if_pos h]; rfl
            · rw [if_neg h, if_neg h]; rfl
          have s56 := s5.trans s6
          cases hg : g p.recs[i] with
          | true =>
            rw [hg, if_pos rfl] at etk
            refine iteT ⟨_, rfl, ea, _, _, _, rfl, rfl, SqT.of (s16 ea _ hea), atI_nat (j := 2) rfl, by omega, s56 D1 _ hD4, less_by hi ⟨?_, by rw [List.length_append, List.length_singleton]; omega, upd_same, fun bb u e => ?_⟩⟩
            · have tu : Tups (upd (upd H5 q1 (.tup [ew', .int p.recs[i].num])) q2 (.tup [qw, .int q.num])) (upd (upd (upd H5 q1 (.tup [ew', .int p.recs[i].num])) q2 (.tup [qw, .int q.num])) D1 (.lst (ys ++ [en]))) := fun c zs e => by
                rw [upd_ne (ne_of e (s56 D1 _ hD4) (fun z => nomatch z))]
                exact e
              rw [etk]
              exact K47.DpL.snoc (dy.mono ((Same.tups s56).trans tu)) (da.mono ((Same.tups s16).trans tu))
            · rw [upd_ne (ne_of_none e hD1)]
              exact s56 bb u (s4 bb u e)
          | false =>
            rw [hg, if_neg Bool.false_ne_true, List.append_nil] at etk
            refine iteF (less_by hi ⟨?_, by omega, s56 D1 _ hD4, s4.trans s56⟩)
            rw [etk]
            exact dy.mono (Same.tups s56)
      · have hb : ¬ wordD p q = "hit" := fun e => hb (decide_eq_true (by rw [e]))
        refine ⟨qn, rfl, ?_, Same.refl _⟩
        rw [hnot hb]
        exact d2.mono (Same.tups s13)
    rintro σ' H4 ⟨vd, rfl, dd, s4⟩
    have s14 := s13.trans s4
    have s34 := s3.trans s4
    have owi : 0 < p'.recs.length ↔ p'.st = "warm" := by
      refine ⟨fun h => ?_, fun h => (out.ok.warm h).2⟩
      by_cases e : p'.st = "warm"
      · exact e
      · rw [(out.ok.cold e).1] at h
        cases h
    refine ⟨_, rfl, ua, _, _, _, rfl, rfl, SqT.of (s34 ua _ hua), atI_nat (j := 2) rfl, _, rfl, u3, vd, an, rfl, e3.mono (Same.tups s34), dd, lza, fun H5 s5 => ⟨true, rfl, iteF ?_⟩⟩
    refine ⟨_, rfl, _, rfl, wa, _, _, _, rfl, rfl, SqT.of ((s14.trans s5) wa _ hwa), atI_nat (j := 1) rfl, .ref ta, p', b, rfl, e1.mono (Same.tups (s34.trans s5)), out.ok.st, out.ok.tal, out.ok.len, owi, fun H6 s6 => ⟨true, rfl, iteF ?_⟩⟩
    have s46 := s5.trans s6
    refine ⟨_, rfl, _, rfl, _, rfl, .ref pa, .ref ta, p, p', wi, hwi, (show [V.ref pa, V.ref ta, V.str (wordD p q)] = _ by rw [ewi]), dv.mono (Same.tups (s14.trans s46)), e1.mono (Same.tups (s34.trans s46)), ok.tal, by rw [← ewi]; exact out.tal, fun H8 s8' => ⟨true, rfl, iteF ?_⟩⟩
    have s8 := s14.trans (s46.trans s8')
    have s28 := s34.trans (s46.trans s8')
    have hta8 := s28 ta _ hta
    have e18 := e1.mono (Same.tups s28)
    have hwa8 := s8 wa _ hwa
    have hqa8 := s8 qa _ hqa
    have hpa8 := s8 pa _ hpa
    have hrl8 := s8 rl _ hrl
    have drs8 := drs.mono (Same.tups s8)
    have dq8 := dq.mono (Same.tups s8)
    have d18 := d1.mono (Same.tups s8)
    have d28 := d2.mono (Same.tups s8)
    clear s3 s13 s4 s14 s34 s5 s6 s46 s8' s28 s12 s1 s2 hta htr dtr htl e1 e2 e3 hua dd hqa2 d2'
    have out' := out
    rcases out.how with ⟨hW, hS, h1, h2, h3, h4⟩ | ⟨hW, hS, h0, h1, h3, h4⟩ | ⟨hW, hS, h1, h3, h4⟩ | ⟨hW, hS, h0, h1, h3, h4⟩ | ⟨hW, hS, h0, h3, h4⟩ | ⟨hW, hS, h1, h2, h5, h3, h4⟩ | ⟨hW, hS, h0, h1, h3, h4⟩ | ⟨hW, hS, h0, h1, h3, h4⟩
    · refine ⟨_, rfl, rfl, _, rfl, strF (by rw [hW]; decide +kernel) (iteF ?_)⟩
      refine ⟨_, rfl, rfl, _, rfl, strT hW ⟨_, rfl, ta, _, _, _, rfl, rfl, SqT.of hta8, atI_nat (j := 0) rfl, rfl, _, rfl, strT hS ?_⟩⟩
      refine ⟨_, rfl, by show 2 ≤ sizeLine; decide, fun m hm => ?_⟩
      have sm : Same H8 (upd H8 m (.lst [.non, .ref ta])) := Same.new hm
      have hm9 : (upd H8 m (.lst [.non, .ref ta])) m = some (.lst [.non, .ref ta]) := upd_same
      generalize upd H8 m (.lst [.non, .ref ta]) = H9 at sm hm9
      refine ⟨_, rfl, _, _, rfl, rfl, _, rfl, wa, _, _, _, rfl, rfl, SqT.of (sm wa _ hwa8), atI_nat (j := 0) rfl, _, _, rfl, rfl, _, rfl, itePos (decide_eq_true h1) ?_⟩
      refine ⟨_, rfl, qa, _, _, _, rfl, rfl, SqT.of (sm qa _ hqa8), atI_nat (j := 2) rfl, rfl, .inr ⟨_, rfl, m, _, _, .ref ta, rfl, rfl, SqL.of hm9, (by rw [K47.Dp.non_iff d28, dcd_f h2]; exact atI_nat (j := 1) rfl), _, rfl, by show 1 ≤ sizeLine; decide, fun l1 hl1 => ⟨by show 3 ≤ sizeLine; decide, fun L hL => ?_⟩⟩⟩
      have s1' : Same H9 (upd H9 l1 (.lst [.ref qa])) := Same.new hl1
      have s2' : Same (upd H9 l1 (.lst [.ref qa])) (upd (upd H9 l1 (.lst [.ref qa])) L (.lst [.ref ta, .ref l1, .int 0])) := Same.new hL
      have s3' := sm.trans (s1'.trans s2')
      rw [h4] at out'
      exact k L l1 (.ref ta) [.ref qa] 0 _ upd_same (e18.mono (Same.tups s3')) (s2' l1 _ upd_same) (by rw [h3]; exact .cons (dq8.mono (Same.tups s3')) .nil) out' (s8.trans s3')
    · refine ⟨_, rfl, rfl, _, rfl, strF (by rw [hW]; decide +kernel) (iteF ?_)⟩
      refine ⟨_, rfl, rfl, _, rfl, strT hW ⟨_, rfl, ta, _, _, _, rfl, rfl, SqT.of hta8, atI_nat (j := 0) rfl, rfl, _, rfl, strF (by rw [hS, h0]; decide +kernel) ?_⟩⟩
      refine ⟨_, rfl, rfl, _, rfl, strF (by rw [hW]; decide +kernel) (iteF ?_)⟩
      refine ⟨_, rfl, ta, _, _, _, rfl, rfl, SqT.of hta8, atI_nat (j := 0) rfl, _, rfl, pa, _, _, _, rfl, rfl, SqT.of hpa8, atI_nat (j := 0) rfl, rfl, _, rfl, iteNeg (by rw [hS]; simp) ?_⟩
      apply by_rest (fun H' => H8 = H')
      case use =>
        intro rest
        refine ⟨_, rfl, rfl, _, rfl, strT hW ⟨_, rfl, _, _, rfl, rfl, _, rfl, wa, _, _, _, rfl, rfl, SqT.of hwa8, atI_nat (j := 0) rfl, _, _, rfl, rfl, _, rfl, ite2 (fun hx => ?_) (fun hx => iteF (rest H8 rfl))⟩⟩
        have hx : a < s + 1 := of_decide_eq_true hx
        have hn : q.ans = .non := by
          by_cases e : q.ans = .non
          · exact e
          · exact absurd ⟨hx, e⟩ h1
        refine ⟨_, rfl, qa, _, _, _, rfl, rfl, SqT.of hqa8, atI_nat (j := 2) rfl, rfl, _, rfl, ?_⟩
        rw [K47.Dp.non_iff d28, dcd_t hn]
        exact iteF (rest H8 rfl)
      case rest =>
      intro H9' e9
      subst e9
      refine ⟨_, rfl, rfl, _, rfl, strF (by rw [hW]; decide +kernel) (iteF ?_)⟩
      refine ⟨fun σ' H' => ∃ (rl2 : Addr) (ys : List V), σ' = [some (.ref wa), some (.ref pa), some (.ref rl2), some (.ref qa), some (.int s), some (.bl sd), some (.ref ua), some (.str (wordD p q)), some (.ref ta), some vd, none] ∧ H' rl2 = some (.lst ys) ∧ DpL H' (p'.recs.map recT) ys ∧ Same H8 H', ?_, ?_⟩
      · refine ⟨_, rfl, rfl, _, rfl, strF (by rw [hW]; decide +kernel) (iteF ?_)⟩
        exact ⟨rl, xs, rfl, hrl8, by rw [h3]; exact drs8, Same.refl _⟩
      · rintro σ' H9 ⟨rl2, ys, rfl, hr2, dr2, s9⟩
        refine ⟨_, rfl, _, rfl, _, rfl, _, _, rfl, rfl, by show 3 ≤ sizeLine; decide, fun L hL => ?_⟩
        have sL : Same H9 (upd H9 L (.lst [.ref ta, .ref rl2, .int (s + 1)])) := Same.new hL
        rw [h4] at out'
        exact k L rl2 (.ref ta) ys (s + 1) _ upd_same (e18.mono (Same.tups (s9.trans sL))) (sL rl2 _ hr2) (dr2.mono (Same.tups sL)) out' (s8.trans (s9.trans sL))
    · refine ⟨_, rfl, rfl, _, rfl, strF (by rw [hW]; decide +kernel) (iteF ?_)⟩
      refine ⟨_, rfl, rfl, _, rfl, strF (by rw [hW]; decide +kernel) (iteF ?_)⟩
      refine ⟨_, rfl, rfl, _, rfl, strT hW ⟨_, rfl, ta, _, _, _, rfl, rfl, SqT.of hta8, atI_nat (j := 0) rfl, rfl, _, rfl, strT hS ?_⟩⟩
      refine ⟨_, rfl, by show 2 ≤ sizeLine; decide, fun m hm => ?_⟩
      have sm : Same H8 (upd H8 m (.lst [.non, .ref ta])) := Same.new hm
      have hm9 : (upd H8 m (.lst [.non, .ref ta])) m = some (.lst [.non, .ref ta]) := upd_same
      generalize upd H8 m (.lst [.non, .ref ta]) = H9 at sm hm9
      refine ⟨_, rfl, _, _, rfl, rfl, _, rfl, wa, _, _, _, rfl, rfl, SqT.of (sm wa _ hwa8), atI_nat (j := 2) rfl, rfl, ?_⟩
      refine .inr ⟨_, rfl, m, _, _, .ref ta, rfl, rfl, SqL.of hm9, (show atI [V.non, V.ref ta] (if decide (V.int (s + 1) = V.int c) = true then 1 else 0) = some (.ref ta) by rw [if_pos (decide_eq_true (by rw [h1]))]; exact atI_nat (j := 1) rfl), Nat.zero_le _, fun l1 hl1 => ⟨by show 3 ≤ sizeLine; decide, fun L hL => ?_⟩⟩
      have s1' : Same H9 (upd H9 l1 (.lst [])) := Same.new hl1
      have s2' : Same (upd H9 l1 (.lst [])) (upd (upd H9 l1 (.lst [])) L (.lst [.ref ta, .ref l1, .int 0])) := Same.new hL
      have s3' := sm.trans (s1'.trans s2')
      rw [h4] at out'
      exact k L l1 (.ref ta) [] 0 _ upd_same (e18.mono (Same.tups s3')) (s2' l1 _ upd_same) (by rw [h3]; exact .nil) out' (s8.trans s3')
    · refine ⟨_, rfl, rfl, _, rfl, strF (by rw [hW]; decide +kernel) (iteF ?_)⟩
      refine ⟨_, rfl, rfl, _, rfl, strF (by rw [hW]; decide +kernel) (iteF ?_)⟩
      refine ⟨_, rfl, rfl, _, rfl, strT hW ⟨_, rfl, ta, _, _, _, rfl, rfl, SqT.of hta8, atI_nat (j := 0) rfl, rfl, _, rfl, strF (by rw [hS, h0]; decide +kernel) ?_⟩⟩
      refine ⟨_, rfl, ta, _, _, _, rfl, rfl, SqT.of hta8, atI_nat (j := 0) rfl, _, rfl, pa, _, _, _, rfl, rfl, SqT.of hpa8, atI_nat (j := 0) rfl, rfl, _, rfl, iteNeg (by rw [hS]; simp) ?_⟩
      refine ⟨_, rfl, rfl, _, rfl, strF (by rw [hW]; decide +kernel) (iteF ?_)⟩
      refine ⟨_, rfl, rfl, _, rfl, strT hW ⟨_, rfl, _, _, rfl, rfl, _, rfl, wa, _, _, _, rfl, rfl, SqT.of hwa8, atI_nat (j := 2) rfl, _, _, rfl, rfl, _, rfl, iteNeg (fun z => by have := of_decide_eq_true z; omega) ?_⟩⟩
      refine ⟨fun σ' H' => ∃ (rl2 : Addr) (ys : List V), σ' = [some (.ref wa), some (.ref pa), some (.ref rl2), some (.ref qa), some (.int s), some (.bl sd), some (.ref ua), some (.str (wordD p q)), some (.ref ta), some vd, none] ∧ H' rl2 = some (.lst ys) ∧ DpL H' (p'.recs.map recT) ys ∧ Same H8 H', ?_, ?_⟩
      · refine ⟨_, rfl, rfl, _, rfl, strF (by rw [hW]; decide +kernel) (iteF ?_)⟩
        exact ⟨rl, xs, rfl, hrl8, by rw [h3]; exact drs8, Same.refl _⟩
      · rintro σ' H9 ⟨rl2, ys, rfl, hr2, dr2, s9⟩
        refine ⟨_, rfl, _, rfl, _, rfl, _, _, rfl, rfl, by show 3 ≤ sizeLine; decide, fun L hL => ?_⟩
        have sL : Same H9 (upd H9 L (.lst [.ref ta, .ref rl2, .int (s + 1)])) := Same.new hL
        rw [h4] at out'
        exact k L rl2 (.ref ta) ys (s + 1) _ upd_same (e18.mono (Same.tups (s9.trans sL))) (sL rl2 _ hr2) (dr2.mono (Same.tups sL)) out' (s8.trans (s9.trans sL))
    · refine ⟨_, rfl, rfl, _, rfl, strF (by rw [hW]; decide +kernel) (iteF ?_)⟩
      refine ⟨_, rfl, rfl, _, rfl, strF (by rw [hW]; decide +kernel) (iteF ?_)⟩
      refine ⟨_, rfl, rfl, _, rfl, strF (by rw [hW]; decide +kernel) (iteF ?_)⟩
      refine ⟨_, rfl, ta, _, _, _, rfl, rfl, SqT.of hta8, atI_nat (j := 0) rfl, _, rfl, pa, _, _, _, rfl, rfl, SqT.of hpa8, atI_nat (j := 0) rfl, rfl, _, rfl, iteNeg (by rw [hS]; simp) ?_⟩
      refine ⟨_, rfl, rfl, _, rfl, strF (by rw [hW]; decide +kernel) (iteF ?_)⟩
      refine ⟨_, rfl, rfl, _, rfl, strF (by rw [hW]; decide +kernel) (iteF ?_)⟩
      refine ⟨fun σ' H' => ∃ (rl2 : Addr) (ys : List V), σ' = [some (.ref wa), some (.ref pa), some (.ref rl2), some (.ref qa), some (.int s), some (.bl sd), some (.ref ua), some (.str (wordD p q)), some (.ref ta), some vd, none] ∧ H' rl2 = some (.lst ys) ∧ DpL H' (p'.recs.map recT) ys ∧ Same H8 H', ?_, ?_⟩
      · refine ⟨_, rfl, rfl, _, rfl, strF (by rw [hW]; decide +kernel) (iteF ?_)⟩
        exact ⟨rl, xs, rfl, hrl8, by rw [h3]; exact drs8, Same.refl _⟩
      · rintro σ' H9 ⟨rl2, ys, rfl, hr2, dr2, s9⟩
        refine ⟨_, rfl, _, rfl, _, rfl, _, _, rfl, rfl, by show 3 ≤ sizeLine; decide, fun L hL => ?_⟩
        have sL : Same H9 (upd H9 L (.lst [.ref ta, .ref rl2, .int (s + 1)])) := Same.new hL
        rw [h4] at out'
        exact k L rl2 (.ref ta) ys (s + 1) _ upd_same (e18.mono (Same.tups (s9.trans sL))) (sL rl2 _ hr2) (dr2.mono (Same.tups sL)) out' (s8.trans (s9.trans sL))
    · refine ⟨_, rfl, rfl, _, rfl, strT hW ⟨_, rfl, ta, _, _, _, rfl, rfl, SqT.of hta8, atI_nat (j := 0) rfl, rfl, _, rfl, strT hS ?_⟩⟩
      refine ⟨_, rfl, rl, _, rfl, .inl (SqL.of hrl8), _, rfl, wa, _, _, _, rfl, rfl, SqT.of hwa8, atI_nat (j := 1) rfl, rfl, _, rfl, itePos (decide_eq_true (by rw [hxl, h2])) ?_⟩
      refine ⟨_, rfl, qa, _, _, _, rfl, rfl, SqT.of hqa8, atI_nat (j := 0) rfl, _, rfl, rl, rfl, ⟨_, SqL.of hrl8⟩, fun D1 hD1 => ?_⟩
      have sd1 : ∀ u, Same H8 (upd H8 D1 u) := fun u => Same.new hD1
      refine comp_by (n := xs.length) (fun i ys H2 => ys.length = i ∧ (∀ j (h : j < p.recs.length), j < i → ∃ x, ys[j]? = some x ∧ Dp H8 p.recs[j].who x) ∧ H2 = upd H8 D1 (.lst ys)) ⟨rfl, fun j _ h => absurd h (Nat.not_lt_zero _), rfl⟩ ?_ ?_
      rotate_left
      · rintro i ys H2 hi ⟨hyl, hys, rfl⟩
        have hir : i < p.recs.length := by omega
        obtain ⟨ea, ew, en, ee, hea, de, _⟩ := K47.DpL.rec drs8 hir
        refine ⟨⟨_, _, SqL.of (sd1 (.lst ys) rl _ hrl8), ee⟩, ?_⟩
        rintro y H3 ⟨rfl, yy⟩ σo ho
        obtain ⟨oo, rfl⟩ := own1 ho
        have ey := yy _ (SqL.of (sd1 (.lst ys) rl _ hrl8))
        rw [ee] at ey
        cases ey
        refine ⟨⟨[_], rfl, rfl⟩, yes_by ⟨_, rfl, ea, _, _, _, rfl, rfl, SqT.of (sd1 (.lst ys) ea _ hea), atI_nat (j := 0) rfl, by omega, upd_same, less_by hi ⟨by rw [List.length_append, hyl]; rfl, fun j h1 h2 => ?_, by rw [upd_upd]⟩⟩⟩
        rcases Nat.lt_or_ge j i with h | h
        · obtain ⟨x, ex, dx⟩ := hys j h1 h
          exact ⟨x, by rw [List.getElem?_append_left (by omega)]; exact ex, dx⟩
        · have e : j = i := by omega
          subst e
          exact ⟨ew, by rw [List.getElem?_append_right (by omega), hyl, Nat.sub_self]; rfl, de⟩
      rintro ys H2 ⟨hyl, hys, rfl⟩
      have dws : DpL H8 (p.recs.map (·.who)) ys := K47.DpL.whos (fun i h => hys i h (by omega)) (by omega)
      have sy := sd1 (.lst ys)
      refine ⟨⟨_, SqL.of (sy rl _ hrl8), Nat.le_refl _⟩, D1, ys, q.who, p.recs.map (·.who), rfl, .inl upd_same, d18.mono (Same.tups sy), dws.mono (Same.tups sy), fun t ht => ?_, ?_⟩
      · obtain ⟨r', hr2, rfl⟩ := List.mem_map.mp ht
        exact who_lv (ok.whos r' hr2).1
      have ed : (if true = true then !dcd (q.who ∈ p.recs.map (·.who)) else dcd (q.who ∈ p.recs.map (·.who))) = true := by rw [if_pos rfl, dcd_f h5]; rfl
      rw [ed]
      generalize upd H8 D1 (.lst ys) = Hy at sy
      refine ⟨_, rfl, by show 2 ≤ sizeLine; decide, fun m hm => ?_⟩
      have sm : Same H8 (upd Hy m (.lst [.non, .ref ta])) := sy.trans (Same.new hm)
      have hm9 : (upd Hy m (.lst [.non, .ref ta])) m = some (.lst [.non, .ref ta]) := upd_same
      generalize upd Hy m (.lst [.non, .ref ta]) = H9 at sm hm9
      refine ⟨_, rfl, _, rfl, iteT ⟨_, rfl, qa, _, _, _, rfl, rfl, SqT.of (sm qa _ hqa8), atI_nat (j := 2) rfl, rfl, .inr ⟨_, rfl, m, _, _, .ref ta, rfl, rfl, SqL.of hm9, (by rw [K47.Dp.non_iff d28, dcd_f h1]; exact atI_nat (j := 1) rfl), Nat.zero_le _, fun l1 hl1 => ⟨by show 3 ≤ sizeLine; decide, fun L hL => ?_⟩⟩⟩⟩
      have s1' : Same H9 (upd H9 l1 (.lst [])) := Same.new hl1
      have s2' : Same (upd H9 l1 (.lst [])) (upd (upd H9 l1 (.lst [])) L (.lst [.ref ta, .ref l1, .int 0])) := Same.new hL
      have s3' := sm.trans (s1'.trans s2')
      rw [h4] at out'
      exact k L l1 (.ref ta) [] 0 _ upd_same (e18.mono (Same.tups s3')) (s2' l1 _ upd_same) (by rw [h3]; exact .nil) out' (s8.trans s3')
    · refine ⟨_, rfl, rfl, _, rfl, strT hW ⟨_, rfl, ta, _, _, _, rfl, rfl, SqT.of hta8, atI_nat (j := 0) rfl, rfl, _, rfl, strF (by rw [hS, h0]; decide +kernel) ?_⟩⟩
      refine ⟨_, rfl, rfl, _, rfl, strF (by rw [hW]; decide +kernel) (iteF ?_)⟩
      refine ⟨_, rfl, rfl, _, rfl, strF (by rw [hW]; decide +kernel) (iteF ?_)⟩
      refine ⟨_, rfl, ta, _, _, _, rfl, rfl, SqT.of hta8, atI_nat (j := 0) rfl, _, rfl, pa, _, _, _, rfl, rfl, SqT.of hpa8, atI_nat (j := 0) rfl, rfl, _, rfl, iteNeg (by rw [hS]; simp) ?_⟩
      refine ⟨_, rfl, rfl, _, rfl, strF (by rw [hW]; decide +kernel) (iteF ?_)⟩
      refine ⟨_, rfl, rfl, _, rfl, strF (by rw [hW]; decide +kernel) (iteF ?_)⟩
      refine ⟨fun σ' H' => ∃ (rl2 : Addr) (ys : List V), σ' = [some (.ref wa), some (.ref pa), some (.ref rl2), some (.ref qa), some (.int s), some (.bl sd), some (.ref ua), some (.str (wordD p q)), some (.ref ta), some vd, none] ∧ H' rl2 = some (.lst ys) ∧ DpL H' (p'.recs.map recT) ys ∧ Same H8 H', ?_, ?_⟩
      · refine ⟨_, rfl, rfl, _, rfl, strT hW ⟨_, rfl, qa, _, _, _, rfl, rfl, SqT.of hqa8, atI_nat (j := 2) rfl, rfl, _, rfl, ?_⟩⟩
        rw [K47.Dp.non_iff d28, dcd_t h1]
        refine iteF ?_
        exact ⟨rl, xs, rfl, hrl8, by rw [h3]; exact drs8, Same.refl _⟩
      · rintro σ' H9 ⟨rl2, ys, rfl, hr2, dr2, s9⟩
        refine ⟨_, rfl, _, rfl, _, rfl, _, _, rfl, rfl, by show 3 ≤ sizeLine; decide, fun L hL => ?_⟩
        have sL : Same H9 (upd H9 L (.lst [.ref ta, .ref rl2, .int (s + 1)])) := Same.new hL
        rw [h4] at out'
        exact k L rl2 (.ref ta) ys (s + 1) _ upd_same (e18.mono (Same.tups (s9.trans sL))) (sL rl2 _ hr2) (dr2.mono (Same.tups sL)) out' (s8.trans (s9.trans sL))
    · refine ⟨_, rfl, rfl, _, rfl, strT hW ⟨_, rfl, ta, _, _, _, rfl, rfl, SqT.of hta8, atI_nat (j := 0) rfl, rfl, _, rfl, strF (by rw [hS, h0]; decide +kernel) ?_⟩⟩
      refine ⟨_, rfl, rfl, _, rfl, strF (by rw [hW]; decide +kernel) (iteF ?_)⟩
      refine ⟨_, rfl, rfl, _, rfl, strF (by rw [hW]; decide +kernel) (iteF ?_)⟩
      refine ⟨_, rfl, ta, _, _, _, rfl, rfl, SqT.of hta8, atI_nat (j := 0) rfl, _, rfl, pa, _, _, _, rfl, rfl, SqT.of hpa8, atI_nat (j := 0) rfl, rfl, _, rfl, iteNeg (by rw [hS]; simp) ?_⟩
      refine ⟨_, rfl, rfl, _, rfl, strF (by rw [hW]; decide +kernel) (iteF ?_)⟩
      refine ⟨_, rfl, rfl, _, rfl, strF (by rw [hW]; decide +kernel) (iteF ?_)⟩
      refine ⟨fun σ' H' => ∃ (rl2 : Addr) (ys : List V), σ' = [some (.ref wa), some (.ref pa), some (.ref rl2), some (.ref qa), some (.int s), some (.bl sd), some (.ref ua), some (.str (wordD p q)), some (.ref ta), some vd, none] ∧ H' rl2 = some (.lst ys) ∧ DpL H' (p'.recs.map recT) ys ∧ Same H8 H', ?_, ?_⟩
      · refine ⟨_, rfl, rfl, _, rfl, strT hW ⟨_, rfl, qa, _, _, _, rfl, rfl, SqT.of hqa8, atI_nat (j := 2) rfl, rfl, _, rfl, ?_⟩⟩
        rw [K47.Dp.non_iff d28, dcd_f h1]
        refine iteT ⟨_, rfl, _, rfl, .ref qa, rl, xs, p.recs, q, rfl, hrl8, drs8, dq8, by omega, ok.nd, hq, fun r hr => (ok.whos r hr).1, fun l ys H9 hl dl s9 => ?_⟩
        exact ⟨l, ys, rfl, hl, by rw [h3]; exact dl, s9⟩
      · rintro σ' H9 ⟨rl2, ys, rfl, hr2, dr2, s9⟩
        refine ⟨_, rfl, _, rfl, _, rfl, _, _, rfl, rfl, by show 3 ≤ sizeLine; decide, fun L hL => ?_⟩
        have sL : Same H9 (upd H9 L (.lst [.ref ta, .ref rl2, .int (s + 1)])) := Same.new hL
        rw [h4] at out'
        exact k L rl2 (.ref ta) ys (s + 1) _ upd_same (e18.mono (Same.tups (s9.trans sL))) (sL rl2 _ hr2) (dr2.mono (Same.tups sL)) out' (s8.trans (s9.trans sL))
end
end K47
end
section
set_option autoImplicit false
namespace K47
open PySem PyProof.Rows L2
theorem who_lz {n : Nat} {t : T} (h : WhoS n t) : Lz 1 t := by
  match n, h with
  | 0, ⟨i, e⟩ => subst e; trivial
  | 1, ⟨x, e⟩ => subst e; trivial
  | n + 2, ⟨x, u, e, hu⟩ =>
    subst e
    refine ⟨by show 2 ≤ 10000; decide, fun t ht => ?_⟩
    rcases List.mem_cons.mp ht with rfl | ht
    · trivial
    · rw [List.mem_singleton.mp ht]
      rcases hu with rfl | ⟨y, rfl⟩ <;> trivial
theorem rec_lz {r : Rec} (h1 : Lz 1 r.who) (h2 : Lz 1 r.ans) : Lz 2 (recT r) := by
  refine ⟨by show 3 ≤ 10000; decide, fun t ht => ?_⟩
  rcases List.mem_cons.mp ht with rfl | ht
  · exact h1
  · rcases List.mem_cons.mp ht with rfl | ht
    · trivial
    · rw [List.mem_singleton.mp ht]
      exact h2
theorem recs_lz {rs : List Rec} (h : ∀ r ∈ rs, Lz 1 r.who ∧ Lz 1 r.ans) (hl : rs.length ≤ 100) : Lz 3 (.tup (rs.map recT)) := by
  refine ⟨by rw [List.length_map]; omega, fun t ht => ?_⟩
  obtain ⟨r, hr, rfl⟩ := List.mem_map.mp ht
  exact rec_lz (h r hr).1 (h r hr).2
theorem ints_lz {ns : List Int} (hl : ns.length ≤ 100) : Lz 3 (.tup (ns.map T.int)) := by
  refine ⟨by rw [List.length_map]; omega, fun t ht => ?_⟩
  obtain ⟨r, hr, rfl⟩ := List.mem_map.mp ht
  trivial
theorem pl_lz {p : Pl} (h : ∀ r ∈ p.recs, Lz 1 r.who ∧ Lz 1 r.ans) (hl : p.recs.length ≤ 100) (ht : p.tal.length ≤ 100) : Lz 4 (plT p) := by
  refine ⟨by show 4 ≤ 10000; decide, fun t hh => ?_⟩
  rcases List.mem_cons.mp hh with rfl | hh
  · trivial
  · rcases List.mem_cons.mp hh with rfl | hh
    · trivial
    · rcases List.mem_cons.mp hh with rfl | hh
      · exact recs_lz h hl
      · rw [List.mem_singleton.mp hh]
        exact ints_lz ht
def p0 : Pl := ⟨"cold", 0, [], [0, 0, 0, 0]⟩
noncomputable def plAt (a b c : Int) (qs : List Rec) : Nat → Pl
  | 0 => p0
  | k + 1 => match qs[k]? with
    | some q => (askedF a b c (plAt a b c qs k) q).1
    | none => plAt a b c qs k
theorem plAt_succ {a b c : Int} {qs : List Rec} {k : Nat} (hk : k < qs.length) : plAt a b c qs (k + 1) = (askedF a b c (plAt a b c qs k) qs[k]).1 := by
  show (match qs[k]? with
    | some q => (askedF a b c (plAt a b c qs k) q).1
    | none => plAt a b c qs k) = _
  rw [List.getElem?_eq_getElem hk]
theorem ok0 {n : Nat} {b c : Int} {qs : List Rec} (hb : 1 ≤ b) : StOk n b c qs p0 0 :=
  ⟨.inr (.inl rfl), rfl, fun h => absurd h nCM, fun _ => ⟨rfl, rfl⟩, List.nodup_nil, fun r hr => (by cases hr), (by show ((0 : Nat) : Int) ≤ b; omega), fun h => absurd h nCW, fun r hr => (by cases hr)⟩
theorem tally_sum {tal : List Int} (h : tal.length = 4) {i : Nat} (hi : i < 4) : (tally tal (wordsL[i]'hi)).sum = tal.sum + 1 := by
  match tal, h with
  | [a, b, c, d], _ =>
    have key : ∀ w : Str, tally [a, b, c, d] w = [if "cold" = w then a + 1 else a, if "hit" = w then b + 1 else b, if "miss" = w then c + 1 else c, if "wild" = w then d + 1 else d] := fun _ => rfl
    rcases (by omega : i = 0 ∨ i = 1 ∨ i = 2 ∨ i = 3) with rfl | rfl | rfl | rfl
    · show (tally [a, b, c, d] "cold").sum = _
      rw [key, if_pos rfl, if_neg (by decide +kernel), if_neg (by decide +kernel), if_neg (by decide +kernel)]
      simp; omega
    · show (tally [a, b, c, d] "hit").sum = _
      rw [key, if_neg (by decide +kernel), if_pos rfl, if_neg (by decide +kernel), if_neg (by decide +kernel)]
      simp; omega
    · show (tally [a, b, c, d] "miss").sum = _
      rw [key, if_neg (by decide +kernel), if_neg (by decide +kernel), if_pos rfl, if_neg (by decide +kernel)]
      simp; omega
    · show (tally [a, b, c, d] "wild").sum = _
      rw [key, if_neg (by decide +kernel), if_neg (by decide +kernel), if_neg (by decide +kernel), if_pos rfl]
      simp; omega
theorem steady_ans {n : Nat} {a b c : Int} {qs : List Rec} {p : Pl} {q : Rec} {s : Int} (ok : StOk n b c qs p s) (hs : ∀ q ∈ qs, ∀ r ∈ qs, q.who = r.who → q.num = r.num → q.ans = r.ans) (mq : q ∈ qs) : (askedF a b c p q).2.2 = q.ans := by
  rcases asked_ans (a := a) (b := b) (c := c) (q := q) ok.st with ⟨_, r, hf, e, _⟩ | ⟨e, _⟩
  · rw [e]
    have h1 := List.mem_of_find?_eq_some hf
    have h2 : (dcd (r.who = q.who) && decide (r.num = q.num)) = true := by
      have := List.find?_some (p := fun (r : Rec) => dcd (r.who = q.who) && decide (r.num = q.num)) hf
      exact this
    have h2 := Bool.and_eq_true_iff.mp h2
    exact hs r (ok.sub r h1) q mq (dcd_iff.mp h2.1) (of_decide_eq_true h2.2)
  · exact e
theorem pl_ok {n : Nat} {a b c : Int} {qs : List Rec} (hb : 1 ≤ b) (hc : 1 ≤ c) (hq : ∀ q ∈ qs, WhoS n q.who ∧ Lz 1 q.ans) : ∀ k, k ≤ qs.length → ∃ s, StOk n b c qs (plAt a b c qs k) s
  | 0, _ => ⟨0, ok0 hb⟩
  | k + 1, h => by
    obtain ⟨s, ok⟩ := pl_ok hb hc hq k (by omega)
    have m := List.getElem_mem (show k < qs.length by omega)
    obtain ⟨_, s', out⟩ := ask_out (a := a) ok hb hc (hq _ m).1 (hq _ m).2 m
    rw [plAt_succ (by omega)]
    exact ⟨s', out.ok⟩
theorem ok_lz {n : Nat} {b c : Int} {qs : List Rec} {p : Pl} {s : Int} (ok : StOk n b c qs p s) (hb : b ≤ 9) : Lz 4 (plT p) := by
  have := ok.len
  exact pl_lz (fun r hr => ⟨who_lz (ok.whos r hr).1, (ok.whos r hr).2⟩) (by omega) (by rw [ok.tal]; decide)
theorem fn_ex {P : Program} {w : World} {K : PySem.W.Frag} {mg : Str → Option Value} {base : Heap} {k : Nat} {f : Addr} {fd : FuncData} {ps : List Str} {sp : Nat → Sp} (F : ∀ n, FnOk P w K mg base CX0 k f fd ps (sp n)) : FnOk P w K mg base CX0 k f fd ps (fun vs H Q E => ∃ n, sp n vs H Q E) :=
  ⟨fun vs H Q E h => by obtain ⟨n, h⟩ := h; exact (F n).len vs H Q E h, fun A outer s H args us vs Q E hr he hb hv hs => by obtain ⟨n, hs⟩ := hs; exact (F n).run A outer s H args us vs Q E hr he hb hv hs⟩
theorem fn_up {P : Program} {w : World} {K : PySem.W.Frag} {mg : Str → Option Value} {base : Heap} {m : Nat} {f : Addr} {fd : FuncData} {ps : List Str} {sp : Nat → Sp} (F : ∀ n, FnOk P w K mg base CX0 (n + 1) f fd ps (sp n)) : FnOk P w K mg base CX0 (m + 1) f fd ps (fun vs H Q E => ∃ n, n ≤ m ∧ sp n vs H Q E) :=
  ⟨fun vs H Q E h => by obtain ⟨n, _, h⟩ := h; exact (F n).len vs H Q E h, fun A outer s H args us vs Q E hr he hb hv hs => by obtain ⟨n, hn, hs⟩ := hs; exact (F n).run A outer s H args us vs Q E (hr.mono (by omega)) he hb hv hs⟩
end K47
end
section
set_option autoImplicit false
namespace K47
open PySem PyProof.Rows L2
section
variable {P : Program} {w : World} {K : PySem.W.Frag} {mg : Str → Option Value} {base : Heap} {t : Adr}
def spLaw (K : PySem.W.Frag) : Sp := fun vs H Q _ => ∃ (a : Addr) (ns : List Int), vs = [.ref a] ∧ SqL K H a (ns.map V.int) ∧ ns.length ≤ 63 ∧ ∀ H', Q (.bl true) H'
theorem ok_law (D : Defs K mg t) (GL : Glb K mg t) : FnOk P w K mg base CX0 6 t.law.1 t.law.2 ["_law_script"] (spLaw K) := by
  have G__law_take : FnOk P w K mg base CX0 1 t._law_take.1 t._law_take.2 _ spTake := ok_take D
  have G__law_purse : FnOk P w K mg base CX0 1 t._law_purse.1 t._law_purse.2 _ spPurse := ok_purse D
  have G__law_cell : FnOk P w K mg base CX0 1 t._law_cell.1 t._law_cell.2 _ (spCell K) := ok_cell D
  have G__law_asks : FnOk P w K mg base CX0 5 t._law_asks.1 t._law_asks.2 _ (spAsks K) := ok_asks D
  have G__law_same : FnOk P w K mg base CX0 5 t._law_same.1 t._law_same.2 ["_law_one", "_law_other"] (fun vs H Q E => ∃ n, n ≤ 4 ∧ spSame n vs H Q E) := fn_up (m := 4) fun n => ok_same D n
  have G__law_step : FnOk P w K mg base CX0 4 t._law_step.1 t._law_step.2 ["_law_warming", "_law_place", "_law_records", "_law_query", "_law_spell", "_law_steady"] (fun vs H Q E => ∃ n, spStep n vs H Q E) := fn_ex fun n => ok_step D GL n
  have G_asked : FnOk P w K mg base CX0 3 t.asked.1 t.asked.2 ["warming", "place", "who", "number", "answer"] (fun vs H Q E => ∃ n, spAsked n vs H Q E) := fn_ex fun n => ok_asked D GL n
  have hz : sizeLine = 16777216 := sizeLine_eq
  refine D.law.fn.ok sc_law (fun vs H Q E h => ?_) (fun cdv A outer s0 H vs Q E hr h => ?_)
  · obtain ⟨a, ns, rfl, _⟩ := h
    rfl
  · obtain ⟨a, ns, rfl, hS, hl, k⟩ := h
    refine ⟨_, (@pss_cons _ _ _ _ _ (ps_set (i := 1) sc_law.nd rfl (Or.inl rfl) (@pe_callF _ _ _ _ _ _ _ _ _ _ _ _ _ D._law_purse G__law_purse (hr.mono (by omega)) (by rfl) (@pa_cons _ _ _ _ _ (@pe_callF _ _ _ _ _ _ _ _ _ _ _ _ _ D._law_cell G__law_cell (hr.mono (by omega)) (by rfl) (@pa_cons _ _ _ _ _ (pv 0) (@pa_cons _ _ _ _ _ pe_int pa_nil (by rfl)) (by rfl)) (by decide) (by rfl) (by rfl)) pa_nil (by rfl)) (by decide) (by rfl) (by rfl)))
      (@pss_cons _ _ _ _ _ (ps_set (i := 2) sc_law.nd rfl (Or.inl rfl) (@pe_callF _ _ _ _ _ _ _ _ _ _ _ _ _ D._law_take G__law_take (hr.mono (by omega)) (by rfl) (@pa_cons _ _ _ _ _ (pv 1) (@pa_cons _ _ _ _ _ pe_int pa_nil (by rfl)) (by rfl)) (by decide) (by rfl) (by rfl)))
      (@pss_cons _ _ _ _ _ (ps_set (i := 3) sc_law.nd rfl (Or.inl rfl) (@pe_tup _ _ _ _ _ (@pa_cons _ _ _ _ _ (@pe_callF _ _ _ _ _ _ _ _ _ _ _ _ _ D._law_take G__law_take (hr.mono (by omega)) (by rfl) (@pa_cons _ _ _ _ _ (pv 1) (@pa_cons _ _ _ _ _ pe_int pa_nil (by rfl)) (by rfl)) (by decide) (by rfl) (by rfl)) (@pa_cons _ _ _ _ _ (@pe_op _ _ _ _ _ _ _ _ op_add pe_int (@pe_callF _ _ _ _ _ _ _ _ _ _ _ _ _ D._law_take G__law_take (hr.mono (by omega)) (by rfl) (@pa_cons _ _ _ _ _ (pv 1) (@pa_cons _ _ _ _ _ pe_int pa_nil (by rfl)) (by rfl)) (by decide) (by rfl) (by rfl))) (@pa_cons _ _ _ _ _ (@pe_op _ _ _ _ _ _ _ _ op_add pe_int (@pe_callF _ _ _ _ _ _ _ _ _ _ _ _ _ D._law_take G__law_take (hr.mono (by omega)) (by rfl) (@pa_cons _ _ _ _ _ (pv 1) (@pa_cons _ _ _ _ _ pe_int pa_nil (by rfl)) (by rfl)) (by decide) (by rfl) (by rfl))) (@pa_cons _ _ _ _ _ (@pe_callF _ _ _ _ _ _ _ _ _ _ _ _ _ D._law_take G__law_take (hr.mono (by omega)) (by rfl) (@pa_cons _ _ _ _ _ (pv 1) (@pa_cons _ _ _ _ _ pe_int pa_nil (by rfl)) (by rfl)) (by decide) (by rfl) (by rfl)) pa_nil (by rfl)) (by rfl)) (by rfl)) (by rfl))))
      (@pss_join _ _ _ _ _ (@ps_if _ _ _ _ _ _ _ _ (pt_cmpR op_eq (@pe_callF _ _ _ _ _ _ _ _ _ _ _ _ _ D._law_take G__law_take (hr.mono (by omega)) (by rfl) (@pa_cons _ _ _ _ _ (pv 1) (@pa_cons _ _ _ _ _ pe_int pa_nil (by rfl)) (by rfl)) (by decide) (by rfl) (by rfl)) pe_int (nomark _))
      (@pss_one _ _ _ (ps_set (i := 3) sc_law.nd rfl (Or.inl rfl) (@pe_tup _ _ _ _ _ (@pa_cons _ _ _ _ _ (@pe_callF _ _ _ _ _ _ _ _ _ _ _ _ _ D._law_take G__law_take (hr.mono (by omega)) (by rfl) (@pa_cons _ _ _ _ _ (pv 1) (@pa_cons _ _ _ _ _ pe_int pa_nil (by rfl)) (by rfl)) (by decide) (by rfl) (by rfl)) (@pa_cons _ _ _ _ _ (@pe_ix _ _ _ _ _ _ _ ix_tup (pv 3) pe_int (fun _ _ => rfl)) (@pa_cons _ _ _ _ _ (@pe_ix _ _ _ _ _ _ _ ix_tup (pv 3) pe_int (fun _ _ => rfl)) (@pa_cons _ _ _ _ _ (@pe_ix _ _ _ _ _ _ _ ix_tup (pv 3) pe_int (fun _ _ => rfl)) pa_nil (by rfl)) (by rfl)) (by rfl)) (by rfl)))))
      pss_nil)
      (@pss_cons _ _ _ _ _ (ps_set (i := 4) sc_law.nd rfl (Or.inl rfl) (@pe_callF _ _ _ _ _ _ _ _ _ _ _ _ _ D._law_take G__law_take (hr.mono (by omega)) (by rfl) (@pa_cons _ _ _ _ _ (pv 1) (@pa_cons _ _ _ _ _ pe_int pa_nil (by rfl)) (by rfl)) (by decide) (by rfl) (by rfl)))
      (@pss_cons _ _ _ _ _ (ps_set (i := 5) sc_law.nd rfl (Or.inl rfl) (@pe_callF _ _ _ _ _ _ _ _ _ _ _ _ _ D._law_take G__law_take (hr.mono (by omega)) (by rfl) (@pa_cons _ _ _ _ _ (pv 1) (@pa_cons _ _ _ _ _ (@pe_op _ _ _ _ _ _ _ _ op_add (pv 4) pe_int) pa_nil (by rfl)) (by rfl)) (by decide) (by rfl) (by rfl)))
      (@pss_cons _ _ _ _ _ (ps_asg (@pe_callF _ _ _ _ _ _ _ _ _ _ _ _ _ D._law_asks G__law_asks (hr.mono (by omega)) (by rfl) (@pa_cons _ _ _ _ _ (pv 0) (@pa_cons _ _ _ _ _ (pv 4) (@pa_cons _ _ _ _ _ (pv 1) (@pa_cons _ _ _ _ _ (pv 2) pa_nil (by rfl)) (by rfl)) (by rfl)) (by rfl)) (by decide) (by rfl) (by rfl)) (pg_lst rfl (pgs_cons (pg_name (i := 6) sc_law.nd rfl (Or.inl rfl)) (pgs_cons (pg_name (i := 7) sc_law.nd rfl (Or.inl rfl)) pgs_nil))))
      (@pss_cons _ _ _ _ _ (ps_par3 (i := 8) (j := 9) (k := 10) rfl sc_law.nd rfl rfl rfl (by decide) (by decide) (by decide) rfl rfl rfl (@pa_cons _ _ _ _ _ (@pe_tup _ _ _ _ _ (@pa_cons _ _ _ _ _ pe_str (@pa_cons _ _ _ _ _ pe_int (@pa_cons _ _ _ _ _ (@pe_tup _ _ _ _ _ pa_nil) (@pa_cons _ _ _ _ _ (@pe_tup _ _ _ _ _ (@pa_cons _ _ _ _ _ pe_int (@pa_cons _ _ _ _ _ pe_int (@pa_cons _ _ _ _ _ pe_int (@pa_cons _ _ _ _ _ pe_int pa_nil (by rfl)) (by rfl)) (by rfl)) (by rfl))) pa_nil (by rfl)) (by rfl)) (by rfl)) (by rfl))) (@pa_cons _ _ _ _ _ (@pe_lst _ _ _ _ pa_nil) (@pa_cons _ _ _ _ _ pe_int pa_nil (by rfl)) (by rfl)) (by rfl)) rfl)
      (@pss_cons _ _ _ _ _ (ps_set (i := 11) sc_law.nd rfl (Or.inl rfl) (pv 8))
      (@pss_cons _ _ _ _ _ (ps_for PassesOwn.never rfl (pi_range1 rfl D.b_range (@pa_cons _ _ _ _ _ (pv 4) pa_nil (by rfl))) (pg_name (i := 12) sc_law.nd rfl (Or.inl rfl))
      (@pss_join _ _ _ _ _ (@ps_if _ _ _ _ _ _ _ _ (pt_cmpR op_eq (pv 12) (pv 5) (nomark _))
      (@pss_one _ _ _ (ps_set (i := 11) sc_law.nd rfl (Or.inl rfl) (pv 8)))
      pss_nil)
      (@pss_cons _ _ _ _ _ (ps_set (i := 13) sc_law.nd rfl (Or.inl rfl) (@pe_callF _ _ _ _ _ _ _ _ _ _ _ _ _ D._law_step G__law_step (hr.mono (by omega)) (by rfl) (@pa_cons _ _ _ _ _ (pv 3) (@pa_cons _ _ _ _ _ (pv 8) (@pa_cons _ _ _ _ _ (pv 9) (@pa_cons _ _ _ _ _ (@pe_ix _ _ _ _ _ _ _ ix_list (pv 7) (pv 12) (fun _ _ => rfl)) (@pa_cons _ _ _ _ _ (pv 10) (@pa_cons _ _ _ _ _ (pv 6) pa_nil (by rfl)) (by rfl)) (by rfl)) (by rfl)) (by rfl)) (by rfl)) (by decide) (by rfl) (by rfl)))
      (@pss_cons _ _ _ _ _ (@ps_if _ _ _ _ _ _ _ _ (PW.pt (pw_or (pt_cmpR op_isN (pv 13) pe_non (nomark _)) (pw_or1 (pt_cmpR op_isN (@pe_ix _ _ _ _ _ _ _ ix_list (pv 13) pe_int (fun _ _ => rfl)) pe_non (nomark _)))))
      (@pss_one _ _ _ (@ps_ret _ _ _ _ pe_bl))
      pss_nil)
      (@pss_cons _ _ _ _ _ (ps_asg (pv 13) (pg_lst rfl (pgs_cons (pg_name (i := 8) sc_law.nd rfl (Or.inl rfl)) (pgs_cons (pg_name (i := 9) sc_law.nd rfl (Or.inl rfl)) (pgs_cons (pg_name (i := 10) sc_law.nd rfl (Or.inl rfl)) pgs_nil)))))
      (@pss_cons _ _ _ _ _ (@ps_if _ _ _ _ _ _ _ _ (PW.pt (pw_or (pt_not (pt_val (@pe_callF _ _ _ _ _ _ _ _ _ _ _ _ _ D._law_same G__law_same (hr.mono (by omega)) (by rfl) (@pa_cons _ _ _ _ _ (@pe_ix _ _ _ _ _ _ _ ix_tup (pv 8) pe_int (fun _ _ => rfl)) (@pa_cons _ _ _ _ _ (pe_callTy call_tuple_of (by rfl) D.b_tuple bt_tuple (@pa_cons _ _ _ _ _ (pv 9) pa_nil (by rfl))) pa_nil (by rfl)) (by rfl)) (by decide) (by rfl) (by rfl)))) (pw_or1 (pt_cmpR op_ne (@pe_callB _ _ _ _ _ _ _ _ _ (call_sumT rfl) (by rfl) D.b_sum bt_sum (@pa_cons _ _ _ _ _ (@pe_ix _ _ _ _ _ _ _ ix_tup (pv 8) pe_int (fun _ _ => rfl)) pa_nil (by rfl)) (by decide) (by decide) (by rfl) (by rfl)) (@pe_op _ _ _ _ _ _ _ _ op_add (pv 12) pe_int) (nomark _)))))
      (@pss_one _ _ _ (@ps_ret _ _ _ _ pe_bl))
      pss_nil)
      (@pss_one _ _ _ (@ps_if _ _ _ _ _ _ _ _ (pt_cmpR op_ne (@pe_ix _ _ _ _ _ _ _ ix_tup (pv 8) pe_int (fun _ _ => rfl)) (@pe_ix _ _ _ _ _ _ _ ix_list (@pe_lst _ _ _ _ (@pa_cons _ _ _ _ _ (pv 10) (@pa_cons _ _ _ _ _ pe_int pa_nil (by rfl)) (by rfl))) (pe_callTy call_int1 (by rfl) D.b_int bt_int (@pa_cons _ _ _ _ _ (pe_cmpR op_eq (@pe_ix _ _ _ _ _ _ _ ix_tup (pv 8) pe_int (fun _ _ => rfl)) pe_str (nomark _)) pa_nil (by rfl))) (fun _ _ => rfl)) (nomark _))
      (@pss_one _ _ _ (@ps_ret _ _ _ _ pe_bl))
      pss_nil))))))))
      (@pss_cons _ _ _ _ _ (ps_for PassesOwn.never rfl (pi_range2 rfl D.b_range (@pa_cons _ _ _ _ _ (pv 5) (@pa_cons _ _ _ _ _ (pv 4) pa_nil (by rfl)) (by rfl))) (pg_name (i := 12) sc_law.nd rfl (Or.inl rfl))
      (@pss_cons _ _ _ _ _ (ps_set (i := 14) sc_law.nd rfl (Or.inl rfl) (@pe_callF _ _ _ _ _ _ _ _ _ _ _ _ _ D.asked G_asked (hr.mono (by omega)) (by rfl) (@pa_cons _ _ _ _ _ (pv 3) (@pa_cons _ _ _ _ _ (pv 11) (@pa_cons _ _ _ _ _ (@pe_ix _ _ _ _ _ _ _ ix_tup (@pe_ix _ _ _ _ _ _ _ ix_list (pv 7) (pv 12) (fun _ _ => rfl)) pe_int (fun _ _ => rfl)) (@pa_cons _ _ _ _ _ (@pe_ix _ _ _ _ _ _ _ ix_tup (@pe_ix _ _ _ _ _ _ _ ix_list (pv 7) (pv 12) (fun _ _ => rfl)) pe_int (fun _ _ => rfl)) (@pa_cons _ _ _ _ _ (@pe_ix _ _ _ _ _ _ _ ix_tup (@pe_ix _ _ _ _ _ _ _ ix_list (pv 7) (pv 12) (fun _ _ => rfl)) pe_int (fun _ _ => rfl)) pa_nil (by rfl)) (by rfl)) (by rfl)) (by rfl)) (by rfl)) (by decide) (by rfl) (by rfl)))
      (@pss_cons _ _ _ _ _ (@ps_if _ _ _ _ _ _ _ _ (PW.pt (pw_and (pt_truth (pv 6) (by intro _; rfl)) (pw_and1 (pt_not (pt_val (@pe_callF _ _ _ _ _ _ _ _ _ _ _ _ _ D._law_same G__law_same (hr.mono (by omega)) (by rfl) (@pa_cons _ _ _ _ _ (@pe_ix _ _ _ _ _ _ _ ix_tup (pv 14) pe_int (fun _ _ => rfl)) (@pa_cons _ _ _ _ _ (@pe_ix _ _ _ _ _ _ _ ix_tup (@pe_ix _ _ _ _ _ _ _ ix_list (pv 7) (pv 12) (fun _ _ => rfl)) pe_int (fun _ _ => rfl)) pa_nil (by rfl)) (by rfl)) (by decide) (by rfl) (by rfl)))))))
      (@pss_one _ _ _ (@ps_ret _ _ _ _ pe_bl))
      pss_nil)
      (@pss_one _ _ _ (ps_set (i := 11) sc_law.nd rfl (Or.inl rfl) (@pe_ix _ _ _ _ _ _ _ ix_tup (pv 14) pe_int (fun _ _ => rfl)))))))
      (@pss_one _ _ _ (@ps_ret _ _ _ _ (pe_or (pe_cmpR op_eq (pv 5) (pv 4) (nomark _)) (pe_one (@pe_callF _ _ _ _ _ _ _ _ _ _ _ _ _ D._law_same G__law_same (hr.mono (by omega)) (by rfl) (@pa_cons _ _ _ _ _ (pv 11) (@pa_cons _ _ _ _ _ (pv 8) pa_nil (by rfl)) (by rfl)) (by decide) (by rfl) (by rfl))))))))))))))))), ?_⟩
    refine ⟨_, rfl, a, ns, 0, rfl, hS, hl, by decide, by decide, fun z0 H1 s1 => ⟨z0, rfl, fun p a1 b1 c1 hp => ?_⟩⟩
    have ap : ∀ o, H a = some o → a ≠ p := fun o e => ne_of_none (s1 a o e) hp
    have s2 : Same H (upd H1 p (.lst [.int a1, .int b1, .int c1])) := s1.trans (Same.new hp)
    have p2 : Pu (upd H1 p (.lst [.int a1, .int b1, .int c1])) p := Pu.upd
    generalize upd H1 p (.lst [.int a1, .int b1, .int c1]) = H2 at s2 p2
    refine ⟨_, rfl, p, 4, rfl, p2, by decide, by decide, fun sh a5 b5 c5 hs0 hs4 => ?_⟩
    have o5 : Off p H (upd H2 p (.lst [.int a5, .int b5, .int c5])) := s2.off.trans Off.upd
    have p5 : Pu (upd H2 p (.lst [.int a5, .int b5, .int c5])) p := Pu.upd
    generalize upd H2 p (.lst [.int a5, .int b5, .int c5]) = H5 at o5 p5
    refine ⟨_, rfl, p, 10, rfl, p5, by decide, by decide, fun w0 a6 b6 c6 l6 u6 => ⟨_, rfl, p, 9, rfl, Pu.upd, by decide, by decide, fun w1 a7 b7 c7 l7 u7 => ⟨_, _, rfl, rfl, _, rfl, p, 9, rfl, Pu.upd, by decide, by decide, fun w2 a8 b8 c8 l8 u8 => ⟨_, _, rfl, rfl, _, rfl, p, 10, rfl, Pu.upd, by decide, by decide, fun w3 a9 b9 c9 l9w u9w => ?_⟩⟩⟩⟩
    rw [upd_upd, upd_upd, upd_upd]
    have o6 : Off p H (upd H5 p (.lst [.int a9, .int b9, .int c9])) := o5.trans Off.upd
    have p6 : Pu (upd H5 p (.lst [.int a9, .int b9, .int c9])) p := Pu.upd
    generalize upd H5 p (.lst [.int a9, .int b9, .int c9]) = H6 at o6 p6
    refine ⟨by show 4 ≤ sizeLine; decide, fun wa0 hwa0 => ?_⟩
    have s7 : Same H6 (upd H6 wa0 (.tup [.int w0, .int (1 + w1), .int (1 + w2), .int w3])) := Same.new hwa0
    have hwa7 : (upd H6 wa0 (.tup [.int w0, .int (1 + w1), .int (1 + w2), .int w3])) wa0 = some (.tup [.int w0, .int (1 + w1), .int (1 + w2), .int w3]) := upd_same
    have p7 := p6.same s7
    have o7 := o6.trans s7.off
    generalize upd H6 wa0 (.tup [.int w0, .int (1 + w1), .int (1 + w2), .int w3]) = H7 at s7 hwa7 p7 o7
    refine ⟨fun σ' H' => ∃ (wa : Addr) (a0 : Int), σ' = [some (.ref a), some (.ref p), some (.int sh), some (.ref wa), none, none, none, none, none, none, none, none, none, none, none] ∧ H' wa = some (.tup [.int a0, .int (1 + w1), .int (1 + w2), .int w3]) ∧ 0 ≤ a0 ∧ a0 ≤ 9 ∧ Off p H H' ∧ Pu H' p, ?_, ?_⟩
    · refine ⟨_, rfl, p, 2, rfl, p7, by decide, by decide, fun r8 a8 b8 c8 l8 u8 => ⟨rfl, _, rfl, ite2 (fun hb => ?_) (fun hb => ?_)⟩⟩
      · have o8 : Off p H7 (upd H7 p (.lst [.int a8, .int b8, .int c8])) := Off.upd
        have p8 : Pu (upd H7 p (.lst [.int a8, .int b8, .int c8])) p := Pu.upd
        have h8 := tups_off o8 p7 wa0 _ hwa7
        generalize upd H7 p (.lst [.int a8, .int b8, .int c8]) = H8 at o8 p8 h8
        refine ⟨_, rfl, p, 2, rfl, p8, by decide, by decide, fun r9 a9 b9 c9 l9 u9 => ?_⟩
        have o9 : Off p H8 (upd H8 p (.lst [.int a9, .int b9, .int c9])) := Off.upd
        have p9 : Pu (upd H8 p (.lst [.int a9, .int b9, .int c9])) p := Pu.upd
        have h9 := tups_off o9 p8 wa0 _ h8
        generalize upd H8 p (.lst [.int a9, .int b9, .int c9]) = H9 at o9 p9 h9
        refine ⟨_, rfl, wa0, _, _, _, rfl, rfl, SqT.of h9, atI_nat (j := 1) rfl, _, rfl, wa0, _, _, _, rfl, rfl, SqT.of h9, atI_nat (j := 2) rfl, _, rfl, wa0, _, _, _, rfl, rfl, SqT.of h9, atI_nat (j := 3) rfl, by show 4 ≤ sizeLine; decide, fun wb hwb => ?_⟩
        exact ⟨wb, r9, rfl, upd_same, l9, by omega, o7.trans (o8.trans (o9.trans (Off.new hwb))), p9.upd_ne (p9.neN hwb)⟩
      · exact ⟨wa0, w0, rfl, tups_off Off.upd p7 wa0 _ hwa7, l6, by omega, o7.trans Off.upd, Pu.upd⟩
    clear hwa7 s7
    rintro σ' H8 ⟨wa, a0, rfl, hwa, ha0, ha9, o8, p8⟩
    refine ⟨_, rfl, p, 61, rfl, p8, by decide, by decide, fun mz a9 b9 c9 l9 u9 => ?_⟩
    have o9 : Off p H (upd H8 p (.lst [.int a9, .int b9, .int c9])) := o8.trans Off.upd
    have p9 : Pu (upd H8 p (.lst [.int a9, .int b9, .int c9])) p := Pu.upd
    have hwa9 := tups_off (Off.upd (o := .lst [.int a9, .int b9, .int c9])) p8 wa _ hwa
    generalize upd H8 p (.lst [.int a9, .int b9, .int c9]) = H9 at o9 p9 hwa9
    obtain ⟨many, rfl⟩ : ∃ many : Nat, mz = (many : Int) := ⟨mz.toNat, by omega⟩
    refine ⟨_, rfl, _, rfl, _, _, rfl, rfl, p, _, rfl, p9, by omega, by omega, fun sz aa ba ca la ua => ?_⟩
    have oa : Off p H (upd H9 p (.lst [.int aa, .int ba, .int ca])) := o9.trans Off.upd
    have pa : Pu (upd H9 p (.lst [.int aa, .int ba, .int ca])) p := Pu.upd
    have hwaa := tups_off (Off.upd (o := .lst [.int aa, .int ba, .int ca])) p9 wa _ hwa9
    generalize upd H9 p (.lst [.int aa, .int ba, .int ca]) = Ha at oa pa hwaa
    obtain ⟨start, rfl⟩ : ∃ start : Nat, sz = (start : Int) := ⟨sz.toNat, by omega⟩
    have hsm : start ≤ many := by omega
    refine ⟨_, rfl, _, rfl, _, rfl, _, rfl, a, p, ns, many, sh, rfl, fun H' o' => SqL.keep hS (fun o e => (oa.trans o') a o (ap o e) e), hl, by omega, pa, hs0, by omega, fun L l st qs ys Hb hL hl' dl hql hqs hst tub => ?_⟩
    have hwab := tub wa _ hwaa
    refine ⟨L, _, rfl, SqL.of hL, rfl, _, _, rfl, _, _, rfl, rfl, ?_⟩
    refine ⟨Nat.zero_le _, fun e0 he0 => ⟨by show 4 ≤ sizeLine; decide, fun e1 he1 => ⟨by show 4 ≤ sizeLine; decide, fun pv0 hpv0 => ⟨Nat.zero_le _, fun r0 hr0 => ⟨_, _, _, rfl, ?_⟩⟩⟩⟩⟩
    have hb1 : (1 : Int) ≤ 1 + w1 := by omega
    have hc1 : (1 : Int) ≤ 1 + w2 := by omega
    have x1 : Same Hb (upd Hb e0 (.tup [])) := Same.new he0
    have x2 : Same (upd Hb e0 (.tup [])) (upd (upd Hb e0 (.tup [])) e1 (.tup [.int 0, .int 0, .int 0, .int 0])) := Same.new he1
    have x3 : Same (upd (upd Hb e0 (.tup [])) e1 (.tup [.int 0, .int 0, .int 0, .int 0])) (upd (upd (upd Hb e0 (.tup [])) e1 (.tup [.int 0, .int 0, .int 0, .int 0])) pv0 (.tup [.str "cold", .int 0, .ref e0, .ref e1])) := Same.new hpv0
    have x4 : Same (upd (upd (upd Hb e0 (.tup [])) e1 (.tup [.int 0, .int 0, .int 0, .int 0])) pv0 (.tup [.str "cold", .int 0, .ref e0, .ref e1])) (upd (upd (upd (upd Hb e0 (.tup [])) e1 (.tup [.int 0, .int 0, .int 0, .int 0])) pv0 (.tup [.str "cold", .int 0, .ref e0, .ref e1])) r0 (.lst [])) := Same.new hr0
    have dp0 : Dp (upd (upd (upd (upd Hb e0 (.tup [])) e1 (.tup [.int 0, .int 0, .int 0, .int 0])) pv0 (.tup [.str "cold", .int 0, .ref e0, .ref e1])) r0 (.lst [])) (plT p0) (.ref pv0) :=
      K47.Dp.pl (p := p0) (r := e0) (l := e1) (xs := []) (x4 pv0 _ upd_same) ((x2.trans (x3.trans x4)) e0 _ upd_same) .nil ((x3.trans x4) e1 _ upd_same)
    have hr0c : (upd (upd (upd (upd Hb e0 (.tup [])) e1 (.tup [.int 0, .int 0, .int 0, .int 0])) pv0 (.tup [.str "cold", .int 0, .ref e0, .ref e1])) r0 (.lst [])) r0 = some (.lst []) := upd_same
    have sc := x1.trans (x2.trans (x3.trans x4))
    clear x1 x2 x3 x4
    generalize upd (upd (upd (upd Hb e0 (.tup [])) e1 (.tup [.int 0, .int 0, .int 0, .int 0])) pv0 (.tup [.str "cold", .int 0, .ref e0, .ref e1])) r0 (.lst []) = Hc at dp0 hr0c sc
    have hwac := sc wa _ hwab
    have hlc := sc l _ hl'
    have dlc := dl.mono (Same.tups sc)
    have dwc : Dp Hc (wmT a0 (1 + w1) (1 + w2) w3) (.ref wa) := L2.Dp.tup hwac (.cons (L2.Dp.int _) (.cons (L2.Dp.int _) (.cons (L2.Dp.int _) (.cons (L2.Dp.int _) .nil))))
    have hsteady : ∀ {i : Nat} (hi : i < qs.length) {s : Int}, StOk (sortN sh) (1 + w1) (1 + w2) qs (plAt a0 (1 + w1) (1 + w2) qs i) s → st = true → (askedF a0 (1 + w1) (1 + w2) (plAt a0 (1 + w1) (1 + w2) qs i) qs[i]).2.2 = qs[i].ans := fun {i} hi {s} ok hs => steady_ans ok (hst hs) (List.getElem_mem hi)
    refine ⟨_, rfl, ?_⟩
    refine ⟨_, rfl, _, rfl, by omega, by omega, ?_⟩
    refine for_range (lo := 0) (n := (many : Int).toNat) (fun i σ H2 => ∃ (v vm : V) (rl : Addr) (xs : List V) (s : Int) (pm : Pl) (v12 v13 : Option V), σ = [some (.ref a), some (.ref p), some (.int sh), some (.ref wa), some (.int many), some (.int start), some (.bl st), some (.ref l), some v, some (.ref rl), some (.int s), some vm, v12, v13, none] ∧ Same Hc H2 ∧ Dp H2 (plT (plAt a0 (1 + w1) (1 + w2) qs i)) v ∧ H2 rl = some (.lst xs) ∧ DpL H2 ((plAt a0 (1 + w1) (1 + w2) qs i).recs.map recT) xs ∧ StOk (sortN sh) (1 + w1) (1 + w2) qs (plAt a0 (1 + w1) (1 + w2) qs i) s ∧ (plAt a0 (1 + w1) (1 + w2) qs i).tal.sum = (i : Int) ∧ Dp H2 (plT pm) vm ∧ (start < i → pm = plAt a0 (1 + w1) (1 + w2) qs start))
      ⟨.ref pv0, .ref pv0, r0, [], 0, p0, _, _, rfl, Same.refl _, dp0, hr0c, .nil, ok0 hb1, rfl, dp0, fun h => absurd h (Nat.not_lt_zero _)⟩ ?_ ?_
    · rintro i σ H2 hi ⟨v, vm, rl, xs, s, pm, v12, v13, rfl, s2, dv, hrl, drs, ok, hsum, dm, hm⟩
      have hiq : i < qs.length := by omega
      have ez : (0 : Int) + (i : Int) = (i : Int) := by omega
      obtain ⟨x, ex, dx⟩ := dlc.get (i := i) (t := recT qs[i]) (by rw [List.getElem?_map, List.getElem?_eq_getElem hiq]; rfl)
      have hq := hqs _ (List.getElem_mem hiq)
      refine ⟨fun σ' H' => ∃ (vm' : V) (pm' : Pl), σ' = [some (.ref a), some (.ref p), some (.int sh), some (.ref wa), some (.int many), some (.int start), some (.bl st), some (.ref l), some v, some (.ref rl), some (.int s), some vm', some (.int (0 + (i : Int))), v13, none] ∧ H' = H2 ∧ Dp H2 (plT pm') vm' ∧ (start < i + 1 → pm' = plAt a0 (1 + w1) (1 + w2) qs start), ?_, ?_⟩
      · refine ⟨_, rfl, _, rfl, rfl, _, rfl, ite2 (fun hb => ?_) (fun hb => ?_)⟩
        · have e : i = start := by
            have := of_decide_eq_true hb
            injection this with this
            omega
          exact ⟨_, rfl, v, _, rfl, rfl, dv, fun _ => by rw [e]⟩
        · have e : ¬ i = start := fun e => hb (decide_eq_true (by rw [e, Int.zero_add]))
          exact ⟨vm, pm, rfl, rfl, dm, fun h => hm (by omega)⟩
      rintro σ' H2' ⟨vm', pm', rfl, rfl, dm', hm'⟩
      refine ⟨_, rfl, _, rfl, _, rfl, _, rfl, _, rfl, l, _, _, _, rfl, rfl, SqL.of (s2 l _ hlc), by rw [ez]; exact atI_nat ex, _, rfl, _, rfl, sortN sh, .ref wa, v, x, rl, xs, a0, 1 + w1, 1 + w2, w3, qs, plAt a0 (1 + w1) (1 + w2) qs i, qs[i], s, st, rfl, dwc.mono (Same.tups s2), ha0, ha9, hb1, by omega, hc1, by omega, l9w, by omega, dv, hrl, drs, dx.mono (Same.tups s2), ok, hq.1, hq.2, List.getElem_mem hiq, hsteady hiq ok, fun Lq rl2 u ys2 s2' H3 hL2 du hrl2 dl2 out s3 => ?_⟩
      have ep := plAt_succ (a := a0) (b := 1 + w1) (c := 1 + w2) hiq
      rw [← ep] at du dl2 out
      have hsum' : (plAt a0 (1 + w1) (1 + w2) qs (i + 1)).tal.sum = ((i + 1 : Nat) : Int) := by
        obtain ⟨wi, hwi, ewi⟩ := word_in (q := qs[i]) ok
        rw [out.tal, ewi, tally_sum ok.tal hwi, hsum]
        rfl
      have okn := out.ok
      clear ep out
      generalize plAt a0 (1 + w1) (1 + w2) qs (i + 1) = p' at du dl2 hsum' okn
      obtain ⟨ua, ur, ul, ux, rfl, hua, hur, dur, hul⟩ := K47.Dp.of_pl du
      refine ⟨_, rfl, rfl, _, rfl, iteNeg (by simp) ?_⟩
      refine ⟨_, rfl, Lq, _, _, _, rfl, rfl, SqL.of hL2, atI_nat (j := 0) rfl, rfl, _, rfl, iteNeg (by simp) ?_⟩
      refine ⟨_, rfl, Lq, _, rfl, SqL.of hL2, rfl, _, _, rfl, _, _, rfl, _, _, rfl, rfl, ?_⟩
      refine ⟨_, rfl, ua, _, _, _, rfl, rfl, SqT.of hua, atI_nat (j := 2) rfl, _, rfl, rl2, _, rfl, .inl ⟨SqL.of hrl2, fun tq htq => ?_⟩⟩
      have s4 : Same H3 (upd H3 tq (.tup ys2)) := Same.new htq
      have len9 := okn.len
      refine ⟨3, by decide, .ref ur, .ref tq, .tup (p'.recs.map recT), rfl, L2.Dp.tup (s4 ur _ hur) (dur.mono (Same.tups s4)), L2.Dp.tup upd_same (dl2.mono (Same.tups s4)), recs_lz (fun r hr => ⟨who_lz (okn.whos r hr).1, (okn.whos r hr).2⟩) (by omega), fun H5 s5 => ⟨true, rfl, iteF ?_⟩⟩
      have s35 := s4.trans s5
      refine ⟨_, rfl, ua, _, _, _, rfl, rfl, SqT.of (s35 ua _ hua), atI_nat (j := 3) rfl, ul, p'.tal, rfl, s35 ul _ hul, _, rfl, _, _, rfl, rfl, rfl, _, rfl, iteNeg (by rw [hsum', ez]; simp) ?_⟩
      refine ⟨_, rfl, ua, _, _, _, rfl, rfl, SqT.of (s35 ua _ hua), atI_nat (j := 1) rfl, _, rfl, by show 2 ≤ sizeLine; decide, fun m hm9 => ?_⟩
      have s6 : Same H5 (upd H5 m (.lst [.int s2', .int 0])) := Same.new hm9
      have idx : atI [V.int s2', V.int 0] (if decide (V.str p'.st = V.str "warm") = true then 1 else 0) = some (.int p'.cnt) := by
        by_cases e : p'.st = "warm"
        · rw [if_pos (decide_eq_true (by rw [e])), (okn.warm e).1]
          exact atI_nat (j := 1) rfl
        · rw [if_neg (fun z => e (by have := of_decide_eq_true z; injection this)), (okn.cold e).2]
          exact atI_nat (j := 0) rfl
      have s36 := s35.trans s6
      refine ⟨_, rfl, ua, _, _, _, rfl, rfl, SqT.of (s36 ua _ hua), atI_nat (j := 0) rfl, rfl, .inr ⟨_, rfl, m, _, _, .int p'.cnt, rfl, rfl, SqL.of upd_same, idx, rfl, _, rfl, iteNeg (by simp) ?_⟩⟩
      exact ⟨_, _, _, _, _, pm', _, _, rfl, s2.trans (s3.trans s36), du.mono (Same.tups s36), s36 rl2 _ hrl2, dl2.mono (Same.tups s36), okn, hsum', dm'.mono (Same.tups (s3.trans s36)), hm'⟩
    · rintro σ H2 ⟨v, vm, rl, xs, s, pm, v12, v13, rfl, s2, dv, hrl, drs, ok, hsum, dm, hm⟩
      have emn : (many : Int).toNat = many := by omega
      rw [emn] at dv ok hm
      refine ⟨_, rfl, _, rfl, _, _, rfl, ⟨by omega, by omega, by omega, by omega⟩, ?_⟩
      refine for_range (lo := (start : Int)) (n := ((many : Int) - (start : Int)).toNat) (fun j σ H3 => ∃ (vm : V) (pm : Pl) (v12 v14 : Option V), σ = [some (.ref a), some (.ref p), some (.int sh), some (.ref wa), some (.int many), some (.int start), some (.bl st), some (.ref l), some v, some (.ref rl), some (.int s), some vm, v12, v13, v14] ∧ Same H2 H3 ∧ Dp H3 (plT pm) vm ∧ (start < many → pm = plAt a0 (1 + w1) (1 + w2) qs (start + j)))
        ⟨vm, pm, _, _, rfl, Same.refl _, dm, hm⟩ ?_ ?_
      · rintro j σ H3 hj ⟨vm, pm, v12, v14, rfl, s3, dm, hm⟩
        have hjq : start + j < qs.length := by omega
        have hm := hm (by omega)
        subst hm
        obtain ⟨sj, okj⟩ := pl_ok (a := a0) hb1 hc1 hqs (start + j) (by omega)
        have s23 := s2.trans s3
        have ez : (start : Int) + (j : Int) = ((start + j : Nat) : Int) := by omega
        obtain ⟨x, ex, dx⟩ := dlc.get (i := start + j) (t := recT qs[start + j]) (by rw [List.getElem?_map, List.getElem?_eq_getElem hjq]; rfl)
        obtain ⟨qa, qw, qn, rfl, hqa, dq1, dq2⟩ := K47.Dp.of_rec dx
        have hq := hqs _ (List.getElem_mem hjq)
        have hat : atI ys ((start : Int) + (j : Int)) = some (.ref qa) := by rw [ez]; exact atI_nat ex
        have h9 := okj.len
        refine ⟨_, rfl, _, rfl, _, rfl, _, rfl, l, _, _, _, rfl, rfl, SqL.of (s23 l _ hlc), hat, qa, _, _, _, rfl, rfl, SqT.of (s23 qa _ hqa), atI_nat (j := 0) rfl, _, rfl, _, rfl, l, _, _, _, rfl, rfl, SqL.of (s23 l _ hlc), hat, qa, _, _, _, rfl, rfl, SqT.of (s23 qa _ hqa), atI_nat (j := 1) rfl, _, rfl, _, rfl, l, _, _, _, rfl, rfl, SqL.of (s23 l _ hlc), hat, qa, _, _, _, rfl, rfl, SqT.of (s23 qa _ hqa), atI_nat (j := 2) rfl, ?_⟩
        refine ⟨sortN sh, .ref wa, vm, qw, qn, a0, 1 + w1, 1 + w2, w3, plAt a0 (1 + w1) (1 + w2) qs (start + j), qs[start + j], rfl, dwc.mono (Same.tups s23), ha0, ha9, hb1, by omega, hc1, by omega, l9w, by omega, dm, dq1.mono (Same.tups s23), dq2.mono (Same.tups s23), okj.tal, by omega, hq.1, fun r hr => (okj.whos r hr).1, fun u H4 du s4 => ?_⟩
        have hsd := hsteady hjq okj
        have ep := plAt_succ (a := a0) (b := 1 + w1) (c := 1 + w2) hjq
        obtain ⟨ua, us, rfl, hua, dus⟩ := L2.Dp.of_tup du
        obtain ⟨u1, u2, u3, rfl, g1, g2, g3⟩ := K47.DpL.three dus
        have lz2 : Lz 1 (askedF a0 (1 + w1) (1 + w2) (plAt a0 (1 + w1) (1 + w2) qs (start + j)) qs[start + j]).2.2 := ask_lz okj hq.2
        rw [← ep] at g1
        have s24 := s23.trans s4
        apply by_rest (Same H4)
        case use =>
          intro rest
          refine ⟨_, rfl, st, rfl, ite2 (fun hs => ?_) (fun hs => iteF (rest H4 (Same.refl _)))⟩
          refine ⟨_, rfl, ua, _, _, _, rfl, rfl, SqT.of hua, atI_nat (j := 2) rfl, _, rfl, _, rfl, l, _, _, _, rfl, rfl, SqL.of (s24 l _ hlc), hat, qa, _, _, _, rfl, rfl, SqT.of (s24 qa _ hqa), atI_nat (j := 2) rfl, 1, by decide, u3, qn, _, rfl, g3, by rw [hsd hs]; exact dq2.mono (Same.tups s24), lz2, fun H5 s5 => ⟨true, rfl, iteF (rest H5 s5)⟩⟩
        case rest =>
        intro H5 s5
        exact ⟨_, rfl, ua, _, _, _, rfl, rfl, SqT.of (s5 ua _ hua), atI_nat (j := 0) rfl, u1, _, _, _, rfl, s3.trans (s4.trans s5), g1.mono (Same.tups s5), fun _ => rfl⟩
      · rintro σ H3 ⟨vm, pm, v12, v14, rfl, s3, dm, hm⟩
        refine ⟨_, rfl, _, rfl, rfl, _, rfl, ite2 (fun hb => ?_) (fun hb => ?_)⟩
        · exact k H3
        · have ne : ¬ start = many := fun e => hb (decide_eq_true (by rw [e]))
          have hm := hm (by omega)
          have e2 : start + ((many : Int) - (start : Int)).toNat = many := by omega
          rw [e2] at hm
          subst hm
          refine ⟨_, rfl, _, rfl, 4, Nat.le_refl _, vm, v, plT (plAt a0 (1 + w1) (1 + w2) qs many), rfl, dm, dv.mono (Same.tups s3), ok_lz ok (by omega), fun H4 s4 => ?_⟩
          exact k H4
end
end K47
end
section
set_option autoImplicit false
namespace K47
open PySem PyProof.Rows L2
theorem el1 {α : Type} {C : List α → Prop} (h : ∀ v0, C [v0]) : ∀ us : List α, us.length = 1 → C us
  | [v0], _ => h v0
theorem el2 {α : Type} {C : List α → Prop} (h : ∀ v0 v1, C [v0, v1]) : ∀ us : List α, us.length = 2 → C us
  | [v0, v1], _ => h v0 v1
theorem el3 {α : Type} {C : List α → Prop} (h : ∀ v0 v1 v2, C [v0, v1, v2]) : ∀ us : List α, us.length = 3 → C us
  | [v0, v1, v2], _ => h v0 v1 v2
theorem el4 {α : Type} {C : List α → Prop} (h : ∀ v0 v1 v2 v3, C [v0, v1, v2, v3]) : ∀ us : List α, us.length = 4 → C us
  | [v0, v1, v2, v3], _ => h v0 v1 v2 v3
theorem el5 {α : Type} {C : List α → Prop} (h : ∀ v0 v1 v2 v3 v4, C [v0, v1, v2, v3, v4]) : ∀ us : List α, us.length = 5 → C us
  | [v0, v1, v2, v3, v4], _ => h v0 v1 v2 v3 v4
theorem el6 {α : Type} {C : List α → Prop} (h : ∀ v0 v1 v2 v3 v4 v5, C [v0, v1, v2, v3, v4, v5]) : ∀ us : List α, us.length = 6 → C us
  | [v0, v1, v2, v3, v4, v5], _ => h v0 v1 v2 v3 v4 v5
theorem all_mk {l : PySem.W.OpenLaw} {w : World} {K : PySem.W.Frag} {h : Heap} {mg : Str → Option Value} {fa f0 f1 f2 f3 f4 f5 f6 f7 f8 f9 f10 f11 f12 f13 f14 f15 f16 f17 f18 f19 f20 f21 f22 f23 f24 : Addr} (X : K.In h) (G : h.Ns mainGlobals mg) (hfa : mg "law" = some (.ref fa))
    {od0 an0 od1 an1 od2 an2 od3 an3 od4 an4 od5 an5 od6 an6 od7 an7 od8 an8 od9 an9 od10 an10 od11 an11 od12 an12 od13 an13 od14 an14 od15 an15 od16 an16 od17 an17 od18 an18 od19 an19 od20 an20 od21 an21 od22 an22 od23 an23 od24 an24 : Option Addr} {sl0 sl1 sl2 sl3 sl4 sl5 sl6 sl7 sl8 sl9 sl10 sl11 sl12 sl13 sl14 sl15 sl16 sl17 sl18 sl19 sl20 sl21 sl22 sl23 sl24 : Array (Option Value)} {oc0 kV0 dc0 pm0 cd0 ct0 oc1 kV1 dc1 pm1 cd1 ct1 oc2 kV2 dc2 pm2 cd2 ct2 oc3 kV3 dc3 pm3 cd3 ct3 oc4 kV4 dc4 pm4 cd4 ct4 oc5 kV5 dc5 pm5 cd5 ct5 oc6 kV6 dc6 pm6 cd6 ct6 oc7 kV7 dc7 pm7 cd7 ct7 oc8 kV8 dc8 pm8 cd8 ct8 oc9 kV9 dc9 pm9 cd9 ct9 oc10 kV10 dc10 pm10 cd10 ct10 oc11 kV11 dc11 pm11 cd11 ct11 oc12 kV12 dc12 pm12 cd12 ct12 oc13 kV13 dc13 pm13 cd13 ct13 oc14 kV14 dc14 pm14 cd14 ct14 oc15 kV15 dc15 pm15 cd15 ct15 oc16 kV16 dc16 pm16 cd16 ct16 oc17 kV17 dc17 pm17 cd17 ct17 oc18 kV18 dc18 pm18 cd18 ct18 oc19 kV19 dc19 pm19 cd19 ct19 oc20 kV20 dc20 pm20 cd20 ct20 oc21 kV21 dc21 pm21 cd21 ct21 oc22 kV22 dc22 pm22 cd22 ct22 oc23 kV23 dc23 pm23 cd23 ct23 oc24 kV24 dc24 pm24 cd24 ct24 : Value}
    (a0 : PySem.W.nsIn K mainGlobals "is_whole" = some (some (.ref f0))) (l0 : K.lookup f0 = some ⟨oc0, od0, .func (PySem.W.fnOf "is_whole" "is_whole" (defArgs (top 4)) (defBody (top 4)) (defScope (top 4)) .none kV0 dc0 pm0 an0 cd0 ct0), sl0⟩) (c0 : PySem.W.codeIn K cd0 "is_whole" = true) (k0 : PySem.W.keepIn K (.ref f0) = true)
    (a1 : PySem.W.nsIn K mainGlobals "is_tuple_of" = some (some (.ref f1))) (l1 : K.lookup f1 = some ⟨oc1, od1, .func (PySem.W.fnOf "is_tuple_of" "is_tuple_of" (defArgs (top 5)) (defBody (top 5)) (defScope (top 5)) .none kV1 dc1 pm1 an1 cd1 ct1), sl1⟩) (c1 : PySem.W.codeIn K cd1 "is_tuple_of" = true) (k1 : PySem.W.keepIn K (.ref f1) = true)
    (a2 : PySem.W.nsIn K mainGlobals "check_warming" = some (some (.ref f2))) (l2 : K.lookup f2 = some ⟨oc2, od2, .func (PySem.W.fnOf "check_warming" "check_warming" (defArgs (top 10)) (defBody (top 10)) (defScope (top 10)) .none kV2 dc2 pm2 an2 cd2 ct2), sl2⟩) (c2 : PySem.W.codeIn K cd2 "check_warming" = true) (k2 : PySem.W.keepIn K (.ref f2) = true)
    (a3 : PySem.W.nsIn K mainGlobals "record_for" = some (some (.ref f3))) (l3 : K.lookup f3 = some ⟨oc3, od3, .func (PySem.W.fnOf "record_for" "record_for" (defArgs (top 11)) (defBody (top 11)) (defScope (top 11)) .none kV3 dc3 pm3 an3 cd3 ct3), sl3⟩) (c3 : PySem.W.codeIn K cd3 "record_for" = true) (k3 : PySem.W.keepIn K (.ref f3) = true)
    (a4 : PySem.W.nsIn K mainGlobals "asked" = some (some (.ref f4))) (l4 : K.lookup f4 = some ⟨oc4, od4, .func (PySem.W.fnOf "asked" "asked" (defArgs (top 12)) (defBody (top 12)) (defScope (top 12)) .none kV4 dc4 pm4 an4 cd4 ct4), sl4⟩) (c4 : PySem.W.codeIn K cd4 "asked" = true) (k4 : PySem.W.keepIn K (.ref f4) = true)
    (a5 : PySem.W.nsIn K mainGlobals "tally_with" = some (some (.ref f5))) (l5 : K.lookup f5 = some ⟨oc5, od5, .func (PySem.W.fnOf "tally_with" "tally_with" (defArgs (top 13)) (defBody (top 13)) (defScope (top 13)) .none kV5 dc5 pm5 an5 cd5 ct5), sl5⟩) (c5 : PySem.W.codeIn K cd5 "tally_with" = true) (k5 : PySem.W.keepIn K (.ref f5) = true)
    (a6 : PySem.W.nsIn K mainGlobals "cold_behind" = some (some (.ref f6))) (l6 : K.lookup f6 = some ⟨oc6, od6, .func (PySem.W.fnOf "cold_behind" "cold_behind" (defArgs (top 14)) (defBody (top 14)) (defScope (top 14)) .none kV6 dc6 pm6 an6 cd6 ct6), sl6⟩) (c6 : PySem.W.codeIn K cd6 "cold_behind" = true) (k6 : PySem.W.keepIn K (.ref f6) = true)
    (a7 : PySem.W.nsIn K mainGlobals "wild_behind" = some (some (.ref f7))) (l7 : K.lookup f7 = some ⟨oc7, od7, .func (PySem.W.fnOf "wild_behind" "wild_behind" (defArgs (top 15)) (defBody (top 15)) (defScope (top 15)) .none kV7 dc7 pm7 an7 cd7 ct7), sl7⟩) (c7 : PySem.W.codeIn K cd7 "wild_behind" = true) (k7 : PySem.W.keepIn K (.ref f7) = true)
    (a8 : PySem.W.nsIn K mainGlobals "warm_behind" = some (some (.ref f8))) (l8 : K.lookup f8 = some ⟨oc8, od8, .func (PySem.W.fnOf "warm_behind" "warm_behind" (defArgs (top 16)) (defBody (top 16)) (defScope (top 16)) .none kV8 dc8 pm8 an8 cd8 ct8), sl8⟩) (c8 : PySem.W.codeIn K cd8 "warm_behind" = true) (k8 : PySem.W.keepIn K (.ref f8) = true)
    (a9 : PySem.W.nsIn K mainGlobals "_law_cell" = some (some (.ref f9))) (l9 : K.lookup f9 = some ⟨oc9, od9, .func (PySem.W.fnOf "_law_cell" "_law_cell" (defArgs (top 18)) (defBody (top 18)) (defScope (top 18)) .none kV9 dc9 pm9 an9 cd9 ct9), sl9⟩) (c9 : PySem.W.codeIn K cd9 "_law_cell" = true) (k9 : PySem.W.keepIn K (.ref f9) = true)
    (a10 : PySem.W.nsIn K mainGlobals "_law_purse" = some (some (.ref f10))) (l10 : K.lookup f10 = some ⟨oc10, od10, .func (PySem.W.fnOf "_law_purse" "_law_purse" (defArgs (top 19)) (defBody (top 19)) (defScope (top 19)) .none kV10 dc10 pm10 an10 cd10 ct10), sl10⟩) (c10 : PySem.W.codeIn K cd10 "_law_purse" = true) (k10 : PySem.W.keepIn K (.ref f10) = true)
    (a11 : PySem.W.nsIn K mainGlobals "_law_take" = some (some (.ref f11))) (l11 : K.lookup f11 = some ⟨oc11, od11, .func (PySem.W.fnOf "_law_take" "_law_take" (defArgs (top 20)) (defBody (top 20)) (defScope (top 20)) .none kV11 dc11 pm11 an11 cd11 ct11), sl11⟩) (c11 : PySem.W.codeIn K cd11 "_law_take" = true) (k11 : PySem.W.keepIn K (.ref f11) = true)
    (a12 : PySem.W.nsIn K mainGlobals "_law_word" = some (some (.ref f12))) (l12 : K.lookup f12 = some ⟨oc12, od12, .func (PySem.W.fnOf "_law_word" "_law_word" (defArgs (top 21)) (defBody (top 21)) (defScope (top 21)) .none kV12 dc12 pm12 an12 cd12 ct12), sl12⟩) (c12 : PySem.W.codeIn K cd12 "_law_word" = true) (k12 : PySem.W.keepIn K (.ref f12) = true)
    (a13 : PySem.W.nsIn K mainGlobals "_law_words" = some (some (.ref f13))) (l13 : K.lookup f13 = some ⟨oc13, od13, .func (PySem.W.fnOf "_law_words" "_law_words" (defArgs (top 22)) (defBody (top 22)) (defScope (top 22)) .none kV13 dc13 pm13 an13 cd13 ct13), sl13⟩) (c13 : PySem.W.codeIn K cd13 "_law_words" = true) (k13 : PySem.W.keepIn K (.ref f13) = true)
    (a14 : PySem.W.nsIn K mainGlobals "_law_is_whole" = some (some (.ref f14))) (l14 : K.lookup f14 = some ⟨oc14, od14, .func (PySem.W.fnOf "_law_is_whole" "_law_is_whole" (defArgs (top 23)) (defBody (top 23)) (defScope (top 23)) .none kV14 dc14 pm14 an14 cd14 ct14), sl14⟩) (c14 : PySem.W.codeIn K cd14 "_law_is_whole" = true) (k14 : PySem.W.keepIn K (.ref f14) = true)
    (a15 : PySem.W.nsIn K mainGlobals "_law_same" = some (some (.ref f15))) (l15 : K.lookup f15 = some ⟨oc15, od15, .func (PySem.W.fnOf "_law_same" "_law_same" (defArgs (top 24)) (defBody (top 24)) (defScope (top 24)) .none kV15 dc15 pm15 an15 cd15 ct15), sl15⟩) (c15 : PySem.W.codeIn K cd15 "_law_same" = true) (k15 : PySem.W.keepIn K (.ref f15) = true)
    (a16 : PySem.W.nsIn K mainGlobals "_law_whos" = some (some (.ref f16))) (l16 : K.lookup f16 = some ⟨oc16, od16, .func (PySem.W.fnOf "_law_whos" "_law_whos" (defArgs (top 25)) (defBody (top 25)) (defScope (top 25)) .none kV16 dc16 pm16 an16 cd16 ct16), sl16⟩) (c16 : PySem.W.codeIn K cd16 "_law_whos" = true) (k16 : PySem.W.keepIn K (.ref f16) = true)
    (a17 : PySem.W.nsIn K mainGlobals "_law_answer" = some (some (.ref f17))) (l17 : K.lookup f17 = some ⟨oc17, od17, .func (PySem.W.fnOf "_law_answer" "_law_answer" (defArgs (top 26)) (defBody (top 26)) (defScope (top 26)) .none kV17 dc17 pm17 an17 cd17 ct17), sl17⟩) (c17 : PySem.W.codeIn K cd17 "_law_answer" = true) (k17 : PySem.W.keepIn K (.ref f17) = true)
    (a18 : PySem.W.nsIn K mainGlobals "_law_asks" = some (some (.ref f18))) (l18 : K.lookup f18 = some ⟨oc18, od18, .func (PySem.W.fnOf "_law_asks" "_law_asks" (defArgs (top 27)) (defBody (top 27)) (defScope (top 27)) .none kV18 dc18 pm18 an18 cd18 ct18), sl18⟩) (c18 : PySem.W.codeIn K cd18 "_law_asks" = true) (k18 : PySem.W.keepIn K (.ref f18) = true)
    (a19 : PySem.W.nsIn K mainGlobals "_law_is_place" = some (some (.ref f19))) (l19 : K.lookup f19 = some ⟨oc19, od19, .func (PySem.W.fnOf "_law_is_place" "_law_is_place" (defArgs (top 28)) (defBody (top 28)) (defScope (top 28)) .none kV19 dc19 pm19 an19 cd19 ct19), sl19⟩) (c19 : PySem.W.codeIn K cd19 "_law_is_place" = true) (k19 : PySem.W.keepIn K (.ref f19) = true)
    (a20 : PySem.W.nsIn K mainGlobals "_law_kept" = some (some (.ref f20))) (l20 : K.lookup f20 = some ⟨oc20, od20, .func (PySem.W.fnOf "_law_kept" "_law_kept" (defArgs (top 29)) (defBody (top 29)) (defScope (top 29)) .none kV20 dc20 pm20 an20 cd20 ct20), sl20⟩) (c20 : PySem.W.codeIn K cd20 "_law_kept" = true) (k20 : PySem.W.keepIn K (.ref f20) = true)
    (a21 : PySem.W.nsIn K mainGlobals "_law_word_due" = some (some (.ref f21))) (l21 : K.lookup f21 = some ⟨oc21, od21, .func (PySem.W.fnOf "_law_word_due" "_law_word_due" (defArgs (top 30)) (defBody (top 30)) (defScope (top 30)) .none kV21 dc21 pm21 an21 cd21 ct21), sl21⟩) (c21 : PySem.W.codeIn K cd21 "_law_word_due" = true) (k21 : PySem.W.keepIn K (.ref f21) = true)
    (a22 : PySem.W.nsIn K mainGlobals "_law_counted" = some (some (.ref f22))) (l22 : K.lookup f22 = some ⟨oc22, od22, .func (PySem.W.fnOf "_law_counted" "_law_counted" (defArgs (top 31)) (defBody (top 31)) (defScope (top 31)) .none kV22 dc22 pm22 an22 cd22 ct22), sl22⟩) (c22 : PySem.W.codeIn K cd22 "_law_counted" = true) (k22 : PySem.W.keepIn K (.ref f22) = true)
    (a23 : PySem.W.nsIn K mainGlobals "_law_step" = some (some (.ref f23))) (l23 : K.lookup f23 = some ⟨oc23, od23, .func (PySem.W.fnOf "_law_step" "_law_step" (defArgs (top 32)) (defBody (top 32)) (defScope (top 32)) .none kV23 dc23 pm23 an23 cd23 ct23), sl23⟩) (c23 : PySem.W.codeIn K cd23 "_law_step" = true) (k23 : PySem.W.keepIn K (.ref f23) = true)
    (a24 : PySem.W.nsIn K mainGlobals "law" = some (some (.ref f24))) (l24 : K.lookup f24 = some ⟨oc24, od24, .func (PySem.W.fnOf "law" "law" (defArgs (top 33)) (defBody (top 33)) (defScope (top 33)) .none kV24 dc24 pm24 an24 cd24 ct24), sl24⟩) (c24 : PySem.W.codeIn K cd24 "law" = true) (k24 : PySem.W.keepIn K (.ref f24) = true)
    (z0 : PySem.W.nsIn K mainGlobals "abs" = some none) (z1 : PySem.W.nsIn K mainGlobals "all" = some none) (z2 : PySem.W.nsIn K mainGlobals "any" = some none) (z3 : PySem.W.nsIn K mainGlobals "bool" = some none) (z4 : PySem.W.nsIn K mainGlobals "int" = some none) (z5 : PySem.W.nsIn K mainGlobals "isinstance" = some none) (z6 : PySem.W.nsIn K mainGlobals "len" = some none) (z7 : PySem.W.nsIn K mainGlobals "max" = some none) (z8 : PySem.W.nsIn K mainGlobals "range" = some none) (z9 : PySem.W.nsIn K mainGlobals "sum" = some none) (z10 : PySem.W.nsIn K mainGlobals "tuple" = some none) (z11 : PySem.W.nsIn K mainGlobals "zip" = some none)
    {cWORDS cLEASTS : Addr} {odWORDS odLEASTS : Option Addr} {itsWORDS itsLEASTS : Array Value} {nWORDS nLEASTS : Nat} {slWORDS slLEASTS : Array (Option Value)} {tkMOST : Tok}
    (yWORDS : PySem.W.nsIn K mainGlobals "WORDS" = some (some (.ref cWORDS))) (luWORDS : K.lookup cWORDS = some ⟨.type "tuple", odWORDS, .seq itsWORDS nWORDS, slWORDS⟩) (vaWORDS : Vals [.str "cold", .str "hit", .str "miss", .str "wild"] itsWORDS.toList) (ziWORDS : itsWORDS.size ≤ sizeLine) (yLEASTS : PySem.W.nsIn K mainGlobals "LEASTS" = some (some (.ref cLEASTS))) (luLEASTS : K.lookup cLEASTS = some ⟨.type "tuple", odLEASTS, .seq itsLEASTS nLEASTS, slLEASTS⟩) (vaLEASTS : Vals [.int 0, .int 1, .int 1, .int 0] itsLEASTS.toList) (ziLEASTS : itsLEASTS.size ≤ sizeLine) (yMOST : PySem.W.nsIn K mainGlobals "MOST" = some (some (.int 9 tkMOST))) :
    ∃ fd : FuncData, (∀ (s : Shared) (v : Value), BindsTo s fd ⟨[v], []⟩ [("_law_script", v)]) ∧ ∀ base : Heap, K.In base → base.Ns mainGlobals mg → FnOk l.prog w K mg base CX0 6 fa fd ["_law_script"] (spLaw K) := by
  have e := hfa.symm.trans (PySem.W.mg_of X G a24)
  cases e
  have F0 := fun_mk (st := top 4) l0 c0 k0
  have b0 := F0.binds (ps := ["thing"]) fun _ _ _ _ _ _ => el1 fun _ => rfl
  have F1 := fun_mk (st := top 5) l1 c1 k1
  have b1 := F1.binds (ps := ["thing", "many"]) fun _ _ _ _ _ _ => el2 fun _ _ => rfl
  have F2 := fun_mk (st := top 10) l2 c2 k2
  have b2 := F2.binds (ps := ["thing"]) fun _ _ _ _ _ _ => el1 fun _ => rfl
  have F3 := fun_mk (st := top 11) l3 c3 k3
  have b3 := F3.binds (ps := ["place", "who", "number"]) fun _ _ _ _ _ _ => el3 fun _ _ _ => rfl
  have F4 := fun_mk (st := top 12) l4 c4 k4
  have b4 := F4.binds (ps := ["warming", "place", "who", "number", "answer"]) fun _ _ _ _ _ _ => el5 fun _ _ _ _ _ => rfl
  have F5 := fun_mk (st := top 13) l5 c5 k5
  have b5 := F5.binds (ps := ["place", "word"]) fun _ _ _ _ _ _ => el2 fun _ _ => rfl
  have F6 := fun_mk (st := top 14) l6 c6 k6
  have b6 := F6.binds (ps := ["warming", "place", "record"]) fun _ _ _ _ _ _ => el3 fun _ _ _ => rfl
  have F7 := fun_mk (st := top 15) l7 c7 k7
  have b7 := F7.binds (ps := ["warming", "place"]) fun _ _ _ _ _ _ => el2 fun _ _ => rfl
  have F8 := fun_mk (st := top 16) l8 c8 k8
  have b8 := F8.binds (ps := ["warming", "place", "record"]) fun _ _ _ _ _ _ => el3 fun _ _ _ => rfl
  have F9 := fun_mk (st := top 18) l9 c9 k9
  have b9 := F9.binds (ps := ["_law_script", "_law_k"]) fun _ _ _ _ _ _ => el2 fun _ _ => rfl
  have F10 := fun_mk (st := top 19) l10 c10 k10
  have b10 := F10.binds (ps := ["_law_cell_here"]) fun _ _ _ _ _ _ => el1 fun _ => rfl
  have F11 := fun_mk (st := top 20) l11 c11 k11
  have b11 := F11.binds (ps := ["_law_purse_here", "_law_many"]) fun _ _ _ _ _ _ => el2 fun _ _ => rfl
  have F12 := fun_mk (st := top 21) l12 c12 k12
  have b12 := F12.binds (ps := ["_law_purse_here", "_law_used"]) fun _ _ _ _ _ _ => el2 fun _ _ => rfl
  have F13 := fun_mk (st := top 22) l13 c13 k13
  have b13 := F13.binds (ps := ["_law_purse_here", "_law_many", "_law_used"]) fun _ _ _ _ _ _ => el3 fun _ _ _ => rfl
  have F14 := fun_mk (st := top 23) l14 c14 k14
  have b14 := F14.binds (ps := ["_law_thing"]) fun _ _ _ _ _ _ => el1 fun _ => rfl
  have F15 := fun_mk (st := top 24) l15 c15 k15
  have b15 := F15.binds (ps := ["_law_one", "_law_other"]) fun _ _ _ _ _ _ => el2 fun _ _ => rfl
  have F16 := fun_mk (st := top 25) l16 c16 k16
  have b16 := F16.binds (ps := ["_law_purse_here", "_law_sort"]) fun _ _ _ _ _ _ => el2 fun _ _ => rfl
  have F17 := fun_mk (st := top 26) l17 c17 k17
  have b17 := F17.binds (ps := ["_law_purse_here", "_law_sort", "_law_whos_here"]) fun _ _ _ _ _ _ => el3 fun _ _ _ => rfl
  have F18 := fun_mk (st := top 27) l18 c18 k18
  have b18 := F18.binds (ps := ["_law_script", "_law_many", "_law_head", "_law_sort"]) fun _ _ _ _ _ _ => el4 fun _ _ _ _ => rfl
  have F19 := fun_mk (st := top 28) l19 c19 k19
  have b19 := F19.binds (ps := ["_law_place", "_law_few"]) fun _ _ _ _ _ _ => el2 fun _ _ => rfl
  have F20 := fun_mk (st := top 29) l20 c20 k20
  have b20 := F20.binds (ps := ["_law_records", "_law_query"]) fun _ _ _ _ _ _ => el2 fun _ _ => rfl
  have F21 := fun_mk (st := top 30) l21 c21 k21
  have b21 := F21.binds (ps := ["_law_place", "_law_records", "_law_query"]) fun _ _ _ _ _ _ => el3 fun _ _ _ => rfl
  have F22 := fun_mk (st := top 31) l22 c22 k22
  have b22 := F22.binds (ps := ["_law_place", "_law_told", "_law_word_here"]) fun _ _ _ _ _ _ => el3 fun _ _ _ => rfl
  have F23 := fun_mk (st := top 32) l23 c23 k23
  have b23 := F23.binds (ps := ["_law_warming", "_law_place", "_law_records", "_law_query", "_law_spell", "_law_steady"]) fun _ _ _ _ _ _ => el6 fun _ _ _ _ _ _ => rfl
  have F24 := fun_mk (st := top 33) l24 c24 k24
  have b24 := F24.binds (ps := ["_law_script"]) fun _ _ _ _ _ _ => el1 fun _ => rfl
  have T : Defs K mg ⟨(f0, PySem.W.fnOf "is_whole" "is_whole" (defArgs (top 4)) (defBody (top 4)) (defScope (top 4)) .none kV0 dc0 pm0 an0 cd0 ct0), (f1, PySem.W.fnOf "is_tuple_of" "is_tuple_of" (defArgs (top 5)) (defBody (top 5)) (defScope (top 5)) .none kV1 dc1 pm1 an1 cd1 ct1), (f2, PySem.W.fnOf "check_warming" "check_warming" (defArgs (top 10)) (defBody (top 10)) (defScope (top 10)) .none kV2 dc2 pm2 an2 cd2 ct2), (f3, PySem.W.fnOf "record_for" "record_for" (defArgs (top 11)) (defBody (top 11)) (defScope (top 11)) .none kV3 dc3 pm3 an3 cd3 ct3), (f4, PySem.W.fnOf "asked" "asked" (defArgs (top 12)) (defBody (top 12)) (defScope (top 12)) .none kV4 dc4 pm4 an4 cd4 ct4), (f5, PySem.W.fnOf "tally_with" "tally_with" (defArgs (top 13)) (defBody (top 13)) (defScope (top 13)) .none kV5 dc5 pm5 an5 cd5 ct5), (f6, PySem.W.fnOf "cold_behind" "cold_behind" (defArgs (top 14)) (defBody (top 14)) (defScope (top 14)) .none kV6 dc6 pm6 an6 cd6 ct6), (f7, PySem.W.fnOf "wild_behind" "wild_behind" (defArgs (top 15)) (defBody (top 15)) (defScope (top 15)) .none kV7 dc7 pm7 an7 cd7 ct7), (f8, PySem.W.fnOf "warm_behind" "warm_behind" (defArgs (top 16)) (defBody (top 16)) (defScope (top 16)) .none kV8 dc8 pm8 an8 cd8 ct8), (f9, PySem.W.fnOf "_law_cell" "_law_cell" (defArgs (top 18)) (defBody (top 18)) (defScope (top 18)) .none kV9 dc9 pm9 an9 cd9 ct9), (f10, PySem.W.fnOf "_law_purse" "_law_purse" (defArgs (top 19)) (defBody (top 19)) (defScope (top 19)) .none kV10 dc10 pm10 an10 cd10 ct10), (f11, PySem.W.fnOf "_law_take" "_law_take" (defArgs (top 20)) (defBody (top 20)) (defScope (top 20)) .none kV11 dc11 pm11 an11 cd11 ct11), (f12, PySem.W.fnOf "_law_word" "_law_word" (defArgs (top 21)) (defBody (top 21)) (defScope (top 21)) .none kV12 dc12 pm12 an12 cd12 ct12), (f13, PySem.W.fnOf "_law_words" "_law_words" (defArgs (top 22)) (defBody (top 22)) (defScope (top 22)) .none kV13 dc13 pm13 an13 cd13 ct13), (f14, PySem.W.fnOf "_law_is_whole" "_law_is_whole" (defArgs (top 23)) (defBody (top 23)) (defScope (top 23)) .none kV14 dc14 pm14 an14 cd14 ct14), (f15, PySem.W.fnOf "_law_same" "_law_same" (defArgs (top 24)) (defBody (top 24)) (defScope (top 24)) .none kV15 dc15 pm15 an15 cd15 ct15), (f16, PySem.W.fnOf "_law_whos" "_law_whos" (defArgs (top 25)) (defBody (top 25)) (defScope (top 25)) .none kV16 dc16 pm16 an16 cd16 ct16), (f17, PySem.W.fnOf "_law_answer" "_law_answer" (defArgs (top 26)) (defBody (top 26)) (defScope (top 26)) .none kV17 dc17 pm17 an17 cd17 ct17), (f18, PySem.W.fnOf "_law_asks" "_law_asks" (defArgs (top 27)) (defBody (top 27)) (defScope (top 27)) .none kV18 dc18 pm18 an18 cd18 ct18), (f19, PySem.W.fnOf "_law_is_place" "_law_is_place" (defArgs (top 28)) (defBody (top 28)) (defScope (top 28)) .none kV19 dc19 pm19 an19 cd19 ct19), (f20, PySem.W.fnOf "_law_kept" "_law_kept" (defArgs (top 29)) (defBody (top 29)) (defScope (top 29)) .none kV20 dc20 pm20 an20 cd20 ct20), (f21, PySem.W.fnOf "_law_word_due" "_law_word_due" (defArgs (top 30)) (defBody (top 30)) (defScope (top 30)) .none kV21 dc21 pm21 an21 cd21 ct21), (f22, PySem.W.fnOf "_law_counted" "_law_counted" (defArgs (top 31)) (defBody (top 31)) (defScope (top 31)) .none kV22 dc22 pm22 an22 cd22 ct22), (f23, PySem.W.fnOf "_law_step" "_law_step" (defArgs (top 32)) (defBody (top 32)) (defScope (top 32)) .none kV23 dc23 pm23 an23 cd23 ct23), (fa, PySem.W.fnOf "law" "law" (defArgs (top 33)) (defBody (top 33)) (defScope (top 33)) .none kV24 dc24 pm24 an24 cd24 ct24), cWORDS, cLEASTS⟩ := ⟨⟨F0, b0, PySem.W.mg_of X G a0⟩, ⟨F1, b1, PySem.W.mg_of X G a1⟩, ⟨F2, b2, PySem.W.mg_of X G a2⟩, ⟨F3, b3, PySem.W.mg_of X G a3⟩, ⟨F4, b4, PySem.W.mg_of X G a4⟩, ⟨F5, b5, PySem.W.mg_of X G a5⟩, ⟨F6, b6, PySem.W.mg_of X G a6⟩, ⟨F7, b7, PySem.W.mg_of X G a7⟩, ⟨F8, b8, PySem.W.mg_of X G a8⟩, ⟨F9, b9, PySem.W.mg_of X G a9⟩, ⟨F10, b10, PySem.W.mg_of X G a10⟩, ⟨F11, b11, PySem.W.mg_of X G a11⟩, ⟨F12, b12, PySem.W.mg_of X G a12⟩, ⟨F13, b13, PySem.W.mg_of X G a13⟩, ⟨F14, b14, PySem.W.mg_of X G a14⟩, ⟨F15, b15, PySem.W.mg_of X G a15⟩, ⟨F16, b16, PySem.W.mg_of X G a16⟩, ⟨F17, b17, PySem.W.mg_of X G a17⟩, ⟨F18, b18, PySem.W.mg_of X G a18⟩, ⟨F19, b19, PySem.W.mg_of X G a19⟩, ⟨F20, b20, PySem.W.mg_of X G a20⟩, ⟨F21, b21, PySem.W.mg_of X G a21⟩, ⟨F22, b22, PySem.W.mg_of X G a22⟩, ⟨F23, b23, PySem.W.mg_of X G a23⟩, ⟨F24, b24, PySem.W.mg_of X G a24⟩, PySem.W.mg_none_of X G z0, PySem.W.mg_none_of X G z1, PySem.W.mg_none_of X G z2, PySem.W.mg_none_of X G z3, PySem.W.mg_none_of X G z4, PySem.W.mg_none_of X G z5, PySem.W.mg_none_of X G z6, PySem.W.mg_none_of X G z7, PySem.W.mg_none_of X G z8, PySem.W.mg_none_of X G z9, PySem.W.mg_none_of X G z10, PySem.W.mg_none_of X G z11⟩
  exact ⟨PySem.W.fnOf "law" "law" (defArgs (top 33)) (defBody (top 33)) (defScope (top 33)) .none kV24 dc24 pm24 an24 cd24 ct24, fun s v => .of_eq rfl, fun base _ _ => ok_law T ⟨PySem.W.mg_of X G yWORDS, fun _ => .inr ⟨_, _, _, luWORDS, rfl, rfl, ziWORDS, vaWORDS⟩, PySem.W.mg_of X G yLEASTS, fun _ => .inr ⟨_, _, _, luLEASTS, rfl, rfl, ziLEASTS, vaLEASTS⟩, ⟨_, PySem.W.mg_of X G yMOST⟩⟩⟩
theorem walk {l : PySem.W.OpenLaw} {q : Program} {loose : List Str} {XP : (Str → Option Value) → Heap → Prop} {YP : World → Heap → Prop} {d : DefRec} {K : Params → PySem.W.Frag} (hn : l.most = some 63) (hdf : d.params.defaults = [])
    (hY : ∀ (w : World) (h : Heap), YP w h → (K w.params).In h)
    (F : ∀ (w : World) (mg : Str → Option Value) (fa : Addr) (h : Heap), (K w.params).In h → h.Ns mainGlobals mg → mg d.name = some (.ref fa) →
      ∃ fd : FuncData, (∀ (s : Shared) (u : Value), BindsTo s fd ⟨[u], []⟩ [("_law_script", u)]) ∧ ∀ base : Heap, (K w.params).In base → base.Ns mainGlobals mg → FnOk l.prog w (K w.params) mg base CX0 6 fa fd ["_law_script"] (spLaw (K w.params))) :
    PySem.W.WalkO q loose XP YP l.row.toRowW d [] (fun f vs => PySem.call f vs) :=
  L2.walk_of (n := 63) (k := 6) (x := "_law_script") (CX := fun _ => CX0) (sp := fun w => spLaw (K w.params)) hn (by decide) hdf ⟨rfl, by decide, by decide⟩ hY F (fun _ _ a ns hl _ hS => ⟨a, ns, rfl, hS, hl, fun _ => rfl⟩) fun _ _ _ _ _ z => z
end K47
theorem PySem.W.Fast.tw18389625198504682388 : True := trivial
theorem PySem.W.Fast.tw10111095628407454243 : True := trivial
theorem PySem.W.Fast.tw16308236634553076761 : True := trivial
theorem PySem.W.Fast.tw12171378131511631878 : True := trivial
theorem PySem.W.Fast.tw2266532359379975957 : True := trivial
theorem PySem.W.Fast.tw14191063975102049801 : True := trivial
theorem PySem.W.Fast.tw17824799806724555322 : True := trivial
theorem PySem.W.Fast.tw16317066467618852775 : True := trivial
theorem PySem.W.Fast.tw4393465450398876297 : True := trivial
theorem PySem.W.Fast.tw13519258592521181200 : True := trivial
theorem PySem.W.Fast.tw13932391598757175812 : True := trivial
theorem PySem.W.Fast.tw1197446145514966565 : True := trivial
theorem PySem.W.Fast.tw14546567635993681587 : True := trivial
theorem PySem.W.Fast.tw4160261658984515758 : True := trivial
theorem PySem.W.Fast.tw6282522513685366867 : True := trivial
theorem PySem.W.Fast.tw16953627427692146390 : True := trivial
theorem PySem.W.Fast.tw16511179979304564164 : True := trivial
theorem PySem.W.Fast.tw4284526573605306570 : True := trivial
theorem PySem.W.Fast.tw12893131338829036120 : True := trivial
theorem PySem.W.Fast.tw7850127475002811221 : True := trivial
theorem PySem.W.Fast.tw2979320472603747834 : True := trivial
theorem PySem.W.Fast.tw2123327605715545604 : True := trivial
theorem PySem.W.Fast.tw2677577394402612032 : True := trivial
theorem PySem.W.Fast.tw15387317318341396449 : True := trivial
theorem PySem.W.Fast.tw5717040446313959622 : True := trivial
theorem PySem.W.Fast.tw6558767476205499167 : True := trivial
theorem PySem.W.Fast.tw14359251641535116662 : True := trivial
theorem PySem.W.Fast.tw15542884603798611754 : True := trivial
theorem PySem.W.Fast.tw6791001180015227697 : True := trivial
theorem PySem.W.Fast.tw13890852672577493141 : True := trivial
theorem PySem.W.Fast.tw6683541574925227844 : True := trivial
theorem PySem.W.Fast.tw2995199127421885831 : True := trivial
theorem PySem.W.Fast.tw8398925666114487779 : True := trivial
theorem PySem.W.Fast.tw13406846192385234319 : True := trivial
theorem PySem.W.Fast.tw12762023714613567454 : True := trivial
theorem PySem.W.Fast.tw3973112711282168479 : True := trivial
theorem PySem.W.Fast.tw16017700517150018059 : True := trivial
theorem PySem.W.Fast.tw675978621901229857 : True := trivial
theorem PySem.W.Fast.tw13176266802357145433 : True := trivial
theorem PySem.W.Fast.tw1865345744126410294 : True := trivial
theorem PySem.W.Fast.tw18154602150420865832 : True := trivial
theorem PySem.W.Fast.tw17692896486848420348 : True := trivial
theorem PySem.W.Fast.tw13984654522494089883 : True := trivial
theorem PySem.W.Fast.tw5063541781601469841 : True := trivial
theorem PySem.W.Fast.tw12788692538782613010 : True := trivial
theorem PySem.W.Fast.tw13753521268263787436 : True := trivial
theorem PySem.W.Fast.tw15069735257744426326 : True := trivial
theorem PySem.W.Fast.tw1360683137725296771 : True := trivial
theorem PySem.W.Fast.tw13626864148760091639 : True := trivial
theorem PySem.W.Fast.tw16564590670571088209 : True := trivial
theorem PySem.W.Fast.tw1045094506999514084 : True := trivial
theorem PySem.W.Fast.tw278512198748681018 : True := trivial
open PySem PySem.W PyProof.Rows
set_option maxRecDepth 100000 in
set_option maxHeartbeats 0 in
theorem PySem.Challenge.cw_warmrows_k47_whole_rows_of_asks_holds : PySem.Challenge.rw_warmrows_k47_whole_rows_of_asks.Holds := by
  w_on; o_law; k_head; (case hw => w_witness2)
  k_fill
  refine K47.walk (l := PySem.Challenge.rw_warmrows_k47_whole_rows_of_asks) rfl rfl (fun w h Y => PySem.W.kIn_of Y) ?F
  case F =>
    intro w mg fa h KX G hmg
    refine' K47.all_mk KX G hmg ?a0 ?l0 ?c0 ?k0 ?a1 ?l1 ?c1 ?k1 ?a2 ?l2 ?c2 ?k2 ?a3 ?l3 ?c3 ?k3 ?a4 ?l4 ?c4 ?k4 ?a5 ?l5 ?c5 ?k5 ?a6 ?l6 ?c6 ?k6 ?a7 ?l7 ?c7 ?k7 ?a8 ?l8 ?c8 ?k8 ?a9 ?l9 ?c9 ?k9 ?a10 ?l10 ?c10 ?k10 ?a11 ?l11 ?c11 ?k11 ?a12 ?l12 ?c12 ?k12 ?a13 ?l13 ?c13 ?k13 ?a14 ?l14 ?c14 ?k14 ?a15 ?l15 ?c15 ?k15 ?a16 ?l16 ?c16 ?k16 ?a17 ?l17 ?c17 ?k17 ?a18 ?l18 ?c18 ?k18 ?a19 ?l19 ?c19 ?k19 ?a20 ?l20 ?c20 ?k20 ?a21 ?l21 ?c21 ?k21 ?a22 ?l22 ?c22 ?k22 ?a23 ?l23 ?c23 ?k23 ?a24 ?l24 ?c24 ?k24 ?z0 ?z1 ?z2 ?z3 ?z4 ?z5 ?z6 ?z7 ?z8 ?z9 ?z10 ?z11 ?yWORDS ?luWORDS ?vaWORDS ?ziWORDS ?yLEASTS ?luLEASTS ?vaLEASTS ?ziLEASTS ?yMOST
    (case a0 => k_is); (case l0 => k_is); (case c0 => k_is); (case k0 => k_is)
    (case a1 => k_is); (case l1 => k_is); (case c1 => k_is); (case k1 => k_is)
    (case a2 => k_is); (case l2 => k_is); (case c2 => k_is); (case k2 => k_is)
    (case a3 => k_is); (case l3 => k_is); (case c3 => k_is); (case k3 => k_is)
    (case a4 => k_is); (case l4 => k_is); (case c4 => k_is); (case k4 => k_is)
    (case a5 => k_is); (case l5 => k_is); (case c5 => k_is); (case k5 => k_is)
    (case a6 => k_is); (case l6 => k_is); (case c6 => k_is); (case k6 => k_is)
    (case a7 => k_is); (case l7 => k_is); (case c7 => k_is); (case k7 => k_is)
    (case a8 => k_is); (case l8 => k_is); (case c8 => k_is); (case k8 => k_is)
    (case a9 => k_is); (case l9 => k_is); (case c9 => k_is); (case k9 => k_is)
    (case a10 => k_is); (case l10 => k_is); (case c10 => k_is); (case k10 => k_is)
    (case a11 => k_is); (case l11 => k_is); (case c11 => k_is); (case k11 => k_is)
    (case a12 => k_is); (case l12 => k_is); (case c12 => k_is); (case k12 => k_is)
    (case a13 => k_is); (case l13 => k_is); (case c13 => k_is); (case k13 => k_is)
    (case a14 => k_is); (case l14 => k_is); (case c14 => k_is); (case k14 => k_is)
    (case a15 => k_is); (case l15 => k_is); (case c15 => k_is); (case k15 => k_is)
    (case a16 => k_is); (case l16 => k_is); (case c16 => k_is); (case k16 => k_is)
    (case a17 => k_is); (case l17 => k_is); (case c17 => k_is); (case k17 => k_is)
    (case a18 => k_is); (case l18 => k_is); (case c18 => k_is); (case k18 => k_is)
    (case a19 => k_is); (case l19 => k_is); (case c19 => k_is); (case k19 => k_is)
    (case a20 => k_is); (case l20 => k_is); (case c20 => k_is); (case k20 => k_is)
    (case a21 => k_is); (case l21 => k_is); (case c21 => k_is); (case k21 => k_is)
    (case a22 => k_is); (case l22 => k_is); (case c22 => k_is); (case k22 => k_is)
    (case a23 => k_is); (case l23 => k_is); (case c23 => k_is); (case k23 => k_is)
    (case a24 => k_is); (case l24 => k_is); (case c24 => k_is); (case k24 => k_is)
    (case z0 => k_is); (case z1 => k_is); (case z2 => k_is); (case z3 => k_is); (case z4 => k_is); (case z5 => k_is); (case z6 => k_is); (case z7 => k_is); (case z8 => k_is); (case z9 => k_is); (case z10 => k_is); (case z11 => k_is)
    (case yWORDS => k_is); (case luWORDS => k_is); (case vaWORDS => exact (.cons ⟨_, rfl⟩ (.cons ⟨_, rfl⟩ (.cons ⟨_, rfl⟩ (.cons ⟨_, rfl⟩ .nil))))); (case ziWORDS => show 4 ≤ sizeLine; decide)
    (case yLEASTS => k_is); (case luLEASTS => k_is); (case vaLEASTS => exact (.cons ⟨_, rfl⟩ (.cons ⟨_, rfl⟩ (.cons ⟨_, rfl⟩ (.cons ⟨_, rfl⟩ .nil))))); (case ziLEASTS => show 4 ≤ sizeLine; decide)
    (case yMOST => k_is)
end
