import PyProof.Rows.All
import Wide.All
import OpenK.AllK
import Wide.FinOn
import Lean
import PyProof.EqAt
import PyProof.EqKinds
import PyProof.TupleCall
import KE.KTryMore
import PyProof.ExcAttrAll.ValueError
import PyProof.ExcBaseAll.ValueError
import PyProof.DictWalks
import PyProof.EnumIter
import PyProof.EnumFor
import PyProof.EnumMake
import PyProof.AttrMissHeap
import KE.KDictOf
import KE.KDictList
import PyProof.StrOps2
import KE.KSortTup
import PyProof.NeKinds
import PyProof.Rows.StrJoin2
import PySem.Challenge.RW_warmrows_k25_programs_written
import PyProof.Rows.SortStr
import PyProof.TupleOfSeq
import PyProof.ZipIter
set_option Elab.async false
set_option linter.all false
set_option maxRecDepth 100000
set_option maxHeartbeats 4000000
section
namespace L2
open PySem PySem.Spec PyProof.Rows
abbrev Key := Sum Int Str
def keyIs : Key → Value → Bool
  | .inl k, v => Value.isInt k v
  | .inr x, v => Value.isStrOf x v
def keyH (w : World) : Key → Int
  | .inl k => hashInt k
  | .inr x => hashStr w x
theorem keyIs_shape : ∀ {k : Key} {v : Value}, keyIs k v = true → (∃ i t, k = Sum.inl i ∧ v = Value.int i t) ∨ (∃ x t, k = Sum.inr x ∧ v = Value.str x t)
  | .inl i, v, h => by
    obtain ⟨t, e⟩ := Value.isInt_shape (k := i) (v := v) h
    exact .inl ⟨i, t, rfl, e⟩
  | .inr x, v, h => by
    obtain ⟨t, e⟩ := Value.isStrOf_shape (x := x) (v := v) h
    exact .inr ⟨x, t, rfl, e⟩
theorem keyIs_int (i : Int) (t : Tok) : keyIs (.inl i) (.int i t) = true := by simp [keyIs, Value.isInt]
theorem keyIs_str (x : Str) (t : Tok) : keyIs (.inr x) (.str x t) = true := by simp [keyIs, Value.isStrOf]
theorem key_ll (a b : Int) : decide ((Sum.inl a : Key) = Sum.inl b) = (a == b) := by
  by_cases e : a = b
  · subst e; simp
  · have h : ¬ (Sum.inl a : Key) = Sum.inl b := fun q => e (Sum.inl.inj q)
    rw [decide_eq_false h]
    exact (beq_eq_false_iff_ne.mpr e).symm
theorem key_rr (a b : Str) : decide ((Sum.inr a : Key) = Sum.inr b) = decide (a = b) := by
  by_cases e : a = b
  · subst e; simp
  · have h : ¬ (Sum.inr a : Key) = Sum.inr b := fun q => e (Sum.inr.inj q)
    rw [decide_eq_false h, decide_eq_false e]
theorem key_lr (a : Int) (b : Str) : decide ((Sum.inl a : Key) = Sum.inr b) = false := decide_eq_false (fun q => nomatch q)
theorem key_rl (a : Str) (b : Int) : decide ((Sum.inr a : Key) = Sum.inl b) = false := decide_eq_false (fun q => nomatch q)
def mixKind (prog : Program) (w : World) : PySem.KeyKind prog w Key where
  is := keyIs
  hash := keyH w
  inj := fun v a b ha hb => by
    rcases keyIs_shape ha with ⟨i, t, rfl, rfl⟩ | ⟨x, t, rfl, rfl⟩
    · rcases keyIs_shape hb with ⟨j, u, rfl, e⟩ | ⟨y, u, rfl, e⟩
      · injection e with e1 _; rw [e1]
      · exact nomatch e
    · rcases keyIs_shape hb with ⟨j, u, rfl, e⟩ | ⟨y, u, rfl, e⟩
      · exact nomatch e
      · injection e with e1 _; rw [e1]
  byValue := fun k v h => by
    rcases keyIs_shape h with ⟨i, t, rfl, rfl⟩ | ⟨x, t, rfl, rfl⟩ <;> rfl
  pyHash := fun hv h => by
    rcases keyIs_shape hv with ⟨i, t, rfl, rfl⟩ | ⟨x, t, rfl, rfl⟩
    · exact wpAny_pyHash_int h
    · exact wpAny_pyHash_str h
  eqBool := fun hu hv h => by
    rcases keyIs_shape hu with ⟨i, t, rfl, rfl⟩ | ⟨x, t, rfl, rfl⟩
    · rcases keyIs_shape hv with ⟨j, u, rfl, rfl⟩ | ⟨y, u, rfl, rfl⟩
      · rw [key_ll] at h; exact wpAny_eqBool_int h
      · rw [key_lr] at h; exact SeqAt.EqAt.int_str i t y u _ _ _ _ h
    · rcases keyIs_shape hv with ⟨j, u, rfl, rfl⟩ | ⟨y, u, rfl, rfl⟩
      · rw [key_rl] at h; exact SeqAt.EqAt.str_int x t j u _ _ _ _ h
      · rw [key_rr] at h; exact wpAny_eqBool_str h
  «strs» := fun k x t v h => by
    rcases keyIs_shape h with ⟨i, u, rfl, e⟩ | ⟨y, u, rfl, e⟩
    · exact nomatch e
    · injection e with e1 _
      subst e1
      cases v <;> rfl
theorem mixKind_int (prog : Program) (w : World) (i : Int) (t : Tok) : (mixKind prog w).is (.inl i) (.int i t) = true := keyIs_int i t
theorem mixKind_str (prog : Program) (w : World) (x : Str) (t : Tok) : (mixKind prog w).is (.inr x) (.str x t) = true := keyIs_str x t
end L2
namespace L2
open PySem PySem.Spec PyProof.Rows
inductive V where
  | non | bl (b : Bool) | int (i : Int) | str (x : Str) | byt (b : Array UInt8) | flt (b : UInt64) | ref (a : Addr) | ty (n : String)
  deriving DecidableEq
def RelV : V → Value → Prop
  | .non, u => u = Value.none
  | .bl b, u => u = Value.bool b
  | .int i, u => ∃ t, u = Value.int i t
  | .str x, u => ∃ t, u = Value.str x t
  | .byt b, u => ∃ t, u = Value.bytes b t
  | .flt b, u => ∃ t, u = Value.float b t
  | .ref a, u => u = Value.ref a
  | .ty n, u => u = Value.type n
abbrev Vals : List V → List Value → Prop := Paired RelV
theorem Vals.length {xs : List V} {us : List Value} (r : Vals xs us) : xs.length = us.length := Paired.length r
theorem Vals.get : ∀ {xs : List V} {us : List Value} {i : Nat} {x : V}, Vals xs us → xs[i]? = some x → ∃ u, us[i]? = some u ∧ RelV x u
  | _, _, _, _, .nil, e => by simp at e
  | _, _, 0, _, .cons r _, e => by simp at e; subst e; exact ⟨_, rfl, r⟩
  | _, _, i + 1, x, .cons _ t, e => by
    obtain ⟨u, h1, h2⟩ := Vals.get (i := i) (x := x) t (by simpa using e)
    exact ⟨u, by simpa using h1, h2⟩
theorem Vals.set {x : V} {u : Value} (r : RelV x u) : ∀ {xs : List V} {us : List Value} (i : Nat), Vals xs us → Vals (xs.set i x) (us.set i u)
  | _, _, _, .nil => .nil
  | _, _, 0, .cons _ t => .cons r t
  | _, _, i + 1, .cons q t => .cons q (Vals.set r i t)
theorem Vals.append : ∀ {xs ys : List V} {us ws : List Value}, Vals xs us → Vals ys ws → Vals (xs ++ ys) (us ++ ws)
  | _, _, _, _, .nil, s => s
  | _, _, _, _, .cons r t, s => .cons r (Vals.append t s)
theorem Vals.take : ∀ {xs : List V} {us : List Value} (n : Nat), Vals xs us → Vals (xs.take n) (us.take n)
  | _, _, 0, _ => .nil
  | _, _, _ + 1, .nil => .nil
  | _, _, n + 1, .cons r t => .cons r (Vals.take n t)
theorem Vals.drop : ∀ {xs : List V} {us : List Value} (n : Nat), Vals xs us → Vals (xs.drop n) (us.drop n)
  | _, _, 0, r => r
  | _, _, _ + 1, .nil => .nil
  | _, _, n + 1, .cons _ t => Vals.drop n t
def RelO : Option V → Option Value → Prop
  | some v, some u => RelV v u
  | none, none => True
  | _, _ => False
def KV {κ : Type} : List (κ × V) → List (κ × Value) → Prop := Paired fun (p : κ × V) (q : κ × Value) => p.1 = q.1 ∧ RelV p.2 q.2
def kV : Key → V
  | .inl i => .int i
  | .inr x => .str x
inductive HO where
  | lst (xs : List V)
  | tup (xs : List V)
  | dK (kvs : List (Key × V)) | dT (kvs : List (List Key × V))
  | set (S : Int → Bool) (n : Nat)
  | ins (C dx : Addr) (fs : List (Str × V))
  | own (x : Addr)
  | xd (fs : List (Str × V))
  | met (f x : Addr)
  | rng (lo hi : Int)
  | frz (o : Obj) (u : HO)
  | tbl (ps : Array Value)
  | ext (φ : Heap → Prop)
abbrev Hp := Addr → Option HO
def upd (H : Hp) (a : Addr) (o : HO) : Hp := fun b => if b = a then some o else H b
theorem upd_same {H : Hp} {a : Addr} {o : HO} : upd H a o a = some o := by unfold upd; rw [if_pos rfl]
theorem upd_ne {H : Hp} {a b : Addr} {o : HO} (h : b ≠ a) : upd H a o b = H b := by unfold upd; rw [if_neg h]
theorem upd_upd {H : Hp} {a : Addr} {o u : HO} : upd (upd H a o) a u = upd H a u := by
  funext b; unfold upd; split <;> rfl
theorem ne_of {H : Hp} {a b : Addr} {o u : HO} (h : H a = some o) (h' : H b = some u) (d : o ≠ u) : a ≠ b := by
  intro e; subst e; rw [h] at h'; exact d (Option.some.inj h')
theorem ne_of_none {H : Hp} {a b : Addr} {o : HO} (h : H a = some o) (h' : H b = none) : a ≠ b := by
  intro e; subst e; rw [h] at h'; cases h'
def NoD (h : Heap) (a : Addr) : Prop := ∀ o, h.get? a = some o → o.dict = none
theorem nod_push (h : Heap) (its : Array Value) : NoD (h.push { cls := .type "tuple", data := .seq its }) h.objs.size := fun o e => by
  rw [Heap.get?_push_size _ rfl] at e
  cases e
  rfl
section
variable (P : Program) (w : World)
def ObjOk (H : Hp) (h : Heap) (a : Addr) : HO → Prop
  | .lst xs => xs.length ≤ sizeLine ∧ ∃ (its : List Value) (n : Nat), Vals xs its ∧ h.get? a = some { cls := .type "list", data := .seq its.toArray n }
  | .tup xs => (xs.length ≤ sizeLine ∧ NoD h a) ∧ ∃ its : List Value, Vals xs its ∧ IsTup h a its.toArray
  | .dK kvs => kvs.length ≤ sizeLine ∧ (a == sysModules) = false ∧ ∃ vs, KV kvs vs ∧ h.DictOf (mixKind P w) a vs
  | .dT kvs => kvs.length ≤ sizeLine ∧ (a == sysModules) = false ∧ ∃ xs : List (List Key × Addr × Value),
      Paired (fun (p : List Key × V) (q : List Key × Addr × Value) => p.1 = q.1 ∧ H q.2.1 = some (.tup (p.1.map kV)) ∧ RelV p.2 q.2.2) kvs xs ∧
      ∃ o es ep, h.get? a = some o ∧ o.ExactDict ∧ o.data = .dict es ep ∧ es.toList = xs.map (entryOfKey (tupleKind (mixKind P w))) ∧ (xs.map (·.1)).Nodup
  | .set S n => h.SetOf (intKind P w) a S n
  | .ins C dx fs => H dx = some (.own a) ∧ fs.length ≤ 1000 ∧ dx ≠ a ∧ h.get? a = some (PySem.W.instObj C dx) ∧
      ∃ mA, h.Ns1 dx mA ∧ (∀ f, RelO (fs.lookup f) (mA f)) ∧ PySem.Within mA (fs.map (·.1))
  | .own _ => ∃ o, h.get? a = some o
  | .xd fs => ∃ mA, h.Ns1 a mA ∧ ∀ f, RelO (fs.lookup f) (mA f)
  | .rng lo hi => ∃ t u v, h.get? a = some { cls := .type "range", data := .fields #[.int lo t, .int hi u, .int 1 v] }
  | .frz o u => h.get? a = some o ∧ ObjOk H h a u
  | .tbl ps => h.get? a = some { cls := .none, data := .fields ps }
  | .met f x => h.get? a = some (PySem.W.methodObj (.ref f) (.ref x))
  | .ext φ => φ h ∧ (∃ o, h.get? a = some o) ∧ ∀ h1 h2 : Heap, φ h1 → (∀ o, h1.get? a = some o → h2.get? a = some o) → φ h2
def HOk (H : Hp) (h : Heap) : Prop := ∀ a o, H a = some o → ObjOk P w H h a o
end
section
variable {P : Program} {w : World} {H H' : Hp} {h h' : Heap} {a : Addr} {o : HO}
theorem ObjOk.lt (x : ObjOk P w H h a o) : a < h.objs.size := by
  cases o with
  | lst xs => obtain ⟨_, _, _, _, e⟩ := x; exact Heap.lt_size e
  | tup xs => obtain ⟨_, _, _, p⟩ := x; exact p.lt
  | dK kvs => obtain ⟨_, _, _, _, o, _, _, e, _⟩ := x; exact Heap.lt_size e
  | dT kvs => obtain ⟨_, _, _, _, o, _, _, e, _⟩ := x; exact Heap.lt_size e
  | set S n => obtain ⟨o, _, _, _, e, _⟩ := x; exact Heap.lt_size e
  | ins C dx fs => obtain ⟨_, _, _, e, _⟩ := x; exact Heap.lt_size e
  | own y => obtain ⟨_, e⟩ := x; exact Heap.lt_size e
  | xd fs => obtain ⟨_, ⟨_, _, _, e, _⟩, _⟩ := x; exact Heap.lt_size e
  | rng lo hi => obtain ⟨_, _, _, e⟩ := x; exact Heap.lt_size e
  | frz ob u => obtain ⟨e, _⟩ := x; exact Heap.lt_size e
  | tbl ps => exact Heap.lt_size (show h.get? a = some _ from x)
  | met f y => exact Heap.lt_size (show h.get? a = some _ from x)
  | ext φ => obtain ⟨_, ⟨_, e⟩, _⟩ := x; exact Heap.lt_size e
theorem Paired.mapP {α β : Type} {F G : α → β → Prop} : ∀ {l₁ : List α} {l₂ : List β}, Paired F l₁ l₂ → (∀ a b, F a b → G a b) → Paired G l₁ l₂
  | _, _, .nil, _ => .nil
  | _, _, .cons r t, f => .cons (f _ _ r) (Paired.mapP t f)
theorem ObjOk.stay (x : ObjOk P w H h a o) (k : ∀ b u, (b = a ∨ H b = some (.own a)) → h.get? b = some u → h'.get? b = some u)
    (ho : ∀ b, H b = some (.own a) → H' b = some (.own a)) (ht : ∀ b xs, H b = some (.tup xs) → H' b = some (.tup xs)) : ObjOk P w H' h' a o := by
  induction o with
  | lst xs => obtain ⟨z, its, n, r, e⟩ := x; exact ⟨z, its, n, r, k _ _ (.inl rfl) e⟩
  | tup xs =>
    obtain ⟨z, its, r, ob, e, c⟩ := x
    have e' := k _ _ (.inl rfl) e
    exact ⟨⟨z.1, fun o q => by rw [e'] at q; cases q; exact z.2 _ e⟩, its, r, ob, e', c⟩
  | dK kvs => obtain ⟨z, y, vs, r, ob, es, ep, e, c⟩ := x; exact ⟨z, y, vs, r, ob, es, ep, k _ _ (.inl rfl) e, c⟩
  | dT kvs =>
    obtain ⟨z, y, xs, r, ob, es, ep, e, c⟩ := x
    exact ⟨z, y, xs, Paired.mapP r fun p q z => ⟨z.1, ht _ _ z.2.1, z.2.2⟩, ob, es, ep, k _ _ (.inl rfl) e, c⟩
  | set S n => obtain ⟨ob, es, ep, t, e, c⟩ := x; exact ⟨ob, es, ep, t, k _ _ (.inl rfl) e, c⟩
  | ins C dx fs =>
    obtain ⟨d, z, ne, e, mA, ⟨od, es, ep, e2, c⟩, r⟩ := x
    exact ⟨ho _ d, z, ne, k _ _ (.inl rfl) e, mA, ⟨od, es, ep, k _ _ (.inr d) e2, c⟩, r⟩
  | own y => obtain ⟨ob, e⟩ := x; exact ⟨ob, k _ _ (.inl rfl) e⟩
  | xd fs => obtain ⟨mA, ⟨od, es, ep, e, c⟩, r⟩ := x; exact ⟨mA, ⟨od, es, ep, k _ _ (.inl rfl) e, c⟩, r⟩
  | rng lo hi => obtain ⟨t, u, v, e⟩ := x; exact ⟨t, u, v, k _ _ (.inl rfl) e⟩
  | frz ob u ih => obtain ⟨e, q⟩ := x; exact ⟨k _ _ (.inl rfl) e, ih q⟩
  | tbl ps =>
    have e : h.get? a = some { cls := .none, data := .fields ps } := x
    show h'.get? a = some { cls := .none, data := .fields ps }
    exact k a _ (.inl rfl) e
  | met f y =>
    have e : h.get? a = some (PySem.W.methodObj (.ref f) (.ref y)) := x
    show h'.get? a = some (PySem.W.methodObj (.ref f) (.ref y))
    exact k a _ (.inl rfl) e
  | ext φ => obtain ⟨p, ⟨o, e⟩, st⟩ := x; exact ⟨st _ _ p fun o q => k _ _ (.inl rfl) q, ⟨o, k _ _ (.inl rfl) e⟩, st⟩
theorem HOk.lt (x : HOk P w H h) (e : H a = some o) : a < h.objs.size := (x a o e).lt
theorem HOk.fresh (x : HOk P w H h) (e : h.objs.size ≤ a) : H a = none := by
  cases q : H a with
  | none => rfl
  | some u => exact absurd (Nat.lt_of_lt_of_le (x.lt q) e) (Nat.lt_irrefl _)
theorem HOk.kept (x : HOk P w H h) (k : ∀ b u, h.get? b = some u → h'.get? b = some u) : HOk P w H h' := fun a o e =>
  (x a o e).stay (fun b u _ q => k b u q) (fun _ q => q) fun _ _ q => q
theorem HOk.laid (x : HOk P w H h) (k : ∀ b u, h.get? b = some u → h'.get? b = some u) (hp : h.objs.size ≤ a) (new : ObjOk P w (upd H a o) h' a o) : HOk P w (upd H a o) h' := fun b u e => by
  have hn := x.fresh hp
  by_cases hb : b = a
  · subst hb; rw [upd_same] at e; cases e; exact new
  · rw [upd_ne hb] at e
    exact (x b u e).stay (fun c v _ q => k c v q) (fun c q => by rw [upd_ne (ne_of_none q hn)]; exact q) fun c xs q => by rw [upd_ne (ne_of_none q hn)]; exact q
end
def Rd (H : Hp) (a : Addr) (u : HO) : Prop := H a = some u ∨ ∃ o, H a = some (.frz o u)
theorem Rd.ok {P : Program} {w : World} {H : Hp} {h : Heap} {a : Addr} {u : HO} (r : Rd H a u) (x : HOk P w H h) : ObjOk P w H h a u := by
  rcases r with r | ⟨o, r⟩
  · exact x a u r
  · obtain ⟨_, q⟩ := x a _ r
    exact q
def Mut : Option HO → Prop
  | some (.lst _) => True
  | some (.dK _) => True
  | some (.dT _) => True
  | some (.set _ _) => True
  | some (.ins _ _ _) => True
  | some (.ext _) => True
  | _ => False
section
variable {P : Program} {w : World} {H : Hp} {h h' : Heap} {x e : Addr} {o' : HO}
theorem HOk.write (ok : HOk P w H h) (mu : Mut (H x)) (he : e = x ∨ H e = some (.own x)) (k : ∀ b u, b ≠ e → h.get? b = some u → h'.get? b = some u) (heo : ∃ u, h'.get? e = some u)
    (new : ObjOk P w (upd H x o') h' x o') : HOk P w (upd H x o') h' := fun b u q => by
  have nown : ∀ c y, H c = some (.own y) → c ≠ x := fun c y r z => by subst z; rw [r] at mu; exact mu
  have ntup : ∀ c xs, H c = some (.tup xs) → c ≠ x := fun c xs r z => by subst z; rw [r] at mu; exact mu
  by_cases hb : b = x
  · subst hb; rw [upd_same] at q; cases q; exact new
  · rw [upd_ne hb] at q
    by_cases hbe : b = e
    · have q' : H b = some (.own x) := by
        rcases he with z | z
        · exact absurd (hbe.trans z) hb
        · rw [hbe]; exact z
      rw [q] at q'; cases q'
      obtain ⟨v, hv⟩ := heo
      exact ⟨v, by rw [hbe]; exact hv⟩
    · refine (ok b u q).stay (fun c v hc r => k c v ?_ r) (fun c r => by rw [upd_ne (nown c b r)]; exact r) fun c xs r => by rw [upd_ne (ntup c xs r)]; exact r
      rcases hc with rfl | hc
      · exact hbe
      · rintro rfl
        rcases he with z | z
        · exact nown c b hc z
        · rw [hc] at z; cases z; exact hb rfl
end
structure Un (fs ex : List Addr) (H H' : Hp) (h h' : Heap) : Prop where
  keep : ∀ b o, h.get? b = some o → H b = none → b ∉ fs → b ∉ ex → h'.get? b = some o
  slot : ∀ b o, h.get? b = some o → H b = none → b ∈ fs → b ∉ ex → ∃ sl, h'.get? b = some { o with slots := sl }
  free : ∀ b o, h.get? b = some o → H b = none → b ∉ ex → H' b = none
  there : ∀ b o, h.get? b = some o → b ∉ ex → ∃ o', h'.get? b = some o'
  tups : ∀ b xs, H b = some (.tup xs) → H' b = some (.tup xs)
  frzs : ∀ b o u, H b = some (.frz o u) → H' b = some (.frz o u)
  tbls : ∀ b ps, H b = some (.tbl ps) → ∃ more, H' b = some (.tbl (ps ++ more))
section
variable {fs fs' ex ex' : List Addr} {H H1 H2 : Hp} {h h1 h2 h' : Heap} {a x e : Addr} {o : HO}
theorem Un.any (u : Un fs ex H H1 h h1) {b : Addr} {ob : Obj} (q : h.get? b = some ob) (n : H b = none) (hx : b ∉ ex) : ∃ sl, h1.get? b = some { ob with slots := sl } := by
  by_cases hb : b ∈ fs
  · exact u.slot b ob q n hb hx
  · exact ⟨ob.slots, u.keep b ob q n hb hx⟩
theorem Un.kept (k : ∀ b u, h.get? b = some u → h'.get? b = some u) : Un fs ex H H h h' :=
  ⟨fun b ob q _ _ _ => k b ob q, fun b ob q _ _ _ => ⟨ob.slots, k b ob q⟩, fun _ _ _ n _ => n, fun b ob q _ => ⟨ob, k b ob q⟩, fun _ _ q => q, fun _ _ _ q => q, fun _ ps q => ⟨#[], by rw [q]; simp⟩⟩
theorem Un.refl : Un fs ex H H h h := Un.kept fun _ _ q => q
theorem Un.laid (k : ∀ b u, h.get? b = some u → h'.get? b = some u) (hp : h.objs.size ≤ a) (hn : H a = none) : Un fs ex H (upd H a o) h h' where
  keep := fun b u q _ _ _ => k b u q
  slot := fun b u q _ _ _ => ⟨u.slots, k b u q⟩
  free := fun b u q n _ => by rw [upd_ne (Nat.ne_of_lt (Nat.lt_of_lt_of_le (Heap.lt_size q) hp))]; exact n
  there := fun b u q _ => ⟨u, k b u q⟩
  tups := fun b xs q => by rw [upd_ne (ne_of_none q hn)]; exact q
  frzs := fun b u xs q => by rw [upd_ne (ne_of_none q hn)]; exact q
  tbls := fun b ps q => ⟨#[], by rw [upd_ne (ne_of_none q hn), q]; simp⟩
theorem Un.write (mu : Mut (H x)) (he : e = x ∨ H e = some (.own x)) (k : ∀ b u, b ≠ e → h.get? b = some u → h'.get? b = some u) (heo : ∃ u, h'.get? e = some u) : Un fs ex H (upd H x o) h h' := by
  have hx : ∀ b, H b = none → b ≠ x := fun b n z => by subst z; rw [n] at mu; exact mu
  have hb : ∀ b, H b = none → b ≠ e := fun b n z => by
    subst z
    rcases he with r | r
    · exact hx b n r
    · rw [n] at r; cases r
  have hm : ∀ b u, H b = some u → ¬ Mut (some u) → b ≠ x := fun b u q nm z => by subst z; rw [q] at mu; exact nm mu
  refine ⟨fun b u q n _ _ => k b u (hb b n) q, fun b u q n _ _ => ⟨u.slots, k b u (hb b n) q⟩, fun b u q n _ => by rw [upd_ne (hx b n)]; exact n, fun b u q _ => ?_,
    fun b xs q => by rw [upd_ne (hm b _ q fun z => z)]; exact q, fun b u xs q => by rw [upd_ne (hm b _ q fun z => z)]; exact q, fun b ps q => ⟨#[], by rw [upd_ne (hm b _ q fun z => z), q]; simp⟩⟩
  by_cases hbe : b = e
  · subst hbe; exact heo
  · exact ⟨u, k b u hbe q⟩
end
def trk (h : Heap) (H : Hp) : List Addr := (List.range h.objs.size).filter fun a => (H a).isSome
def hidT (h : Heap) (H : Hp) : Heap := PySem.W.hideAll h (trk h H)
theorem hidT_size (h : Heap) (H : Hp) : (hidT h H).objs.size = h.objs.size := PySem.W.hideAll_size _ _
theorem hidT_get {h : Heap} {H : Hp} {b : Addr} {o : Obj} (e : h.get? b = some o) (n : H b = none) : (hidT h H).get? b = some o :=
  PySem.W.hideAll_get _ e fun hm => by
    have q : (H b).isSome = true := (List.mem_filter.mp hm).2
    rw [n] at q; simp at q
theorem of_hidT {h : Heap} {H : Hp} {b : Addr} {o : Obj} (e : (hidT h H).get? b = some o) : h.get? b = some o ∧ H b = none := by
  have e' : h.get? b = some o := PySem.W.of_hideAll (trk h H) e
  refine ⟨e', ?_⟩
  cases q : H b with
  | none => rfl
  | some x =>
    have hm : b ∈ trk h H := List.mem_filter.mpr ⟨List.mem_range.mpr (Heap.lt_size e'), by simp [q]⟩
    have z : (hidT h H).get? b = none := PySem.W.hideAll_none (trk h H) hm
    rw [z] at e; cases e
def allNews (g h : Heap) (L : Addr) : List (Addr × Obj) := (List.range h.objs.size).filterMap fun a => if a = L ∨ (g.get? a).isSome = true then none else (h.get? a).map fun o => (a, o)
def rest (g h : Heap) (L d : Addr) : List (Addr × Obj) := (allNews g h L).filter fun p => decide (p.1 ≠ d)
end L2
namespace L2
open PySem PySem.Spec PyProof.Rows
structure Mod (K : PySem.W.Frag) (mg : Str → Option Value) (base : Heap) : Prop where
  kin : K.In base
  glob : base.Ns mainGlobals mg
  blt : ∃ mb, base.Ns builtinsNs mb ∧ ∀ x : Str, x ≠ "__name__" → mb x = bootBuiltins x
  nolimit : base.NoLimit
/-- the context: a def's body (or a comprehension's block) running. base: fixed through the whole law; s₀, H₀: the entry; outer: the frames whose slots others may change (a def's callers); stack: all frames that run;
   ex: iterators that were made ahead of the entry and are walked here (a comprehension's); fn: the names whose cells were made at the entry (a def: all; a comprehension's block: its own); calm: not within an except suite; pn: pins that every state bears; xe: what is wanted of an exception that leaves the code -/
structure Cx where
  prog : Program
  w : World
  K : PySem.W.Frag
  mg : Str → Option Value
  base : Heap
  A : Around
  N : List Str
  s₀ : Shared
  H₀ : Hp
  env : Env
  outer : List Env
  stack : List Env
  ex : List Addr
  fn : Str → Bool
  calm : Bool
  pn : List (Addr × Obj)
  xe : Value → Shared → Prop
def frs (l : List Env) : List Addr := l.filterMap (·.frame)
abbrev Cx.fs (X : Cx) : List Addr := frs X.outer
def Vis (sc : Scope) (x : Str) : Prop := sc.names.lookup x = some .local ∨ sc.names.lookup x = some .cell ∨ sc.names.lookup x = some .free
def Loc (sc : Scope) (x : Str) : Prop := sc.names.lookup x = some .local ∨ sc.names.lookup x = some .cell
def Look (env : Env) (h : Heap) (m : Str → Option Value) (x : Str) (u : Value) : Prop :=
  (env.kindOf x = some .local ∧ m x = some u) ∨ ((env.kindOf x = some .cell ∨ env.kindOf x = some .free) ∧ ∃ c, env.cells.lookup x = some c ∧ h.IsCell c (some u))
structure Cx.Ok (X : Cx) : Prop where
  mod : Mod X.K X.mg X.base
  kind : X.env.scope.kind = .function
  glob : X.env.globals = mainGlobals
  blt : X.env.builtins = builtinsNs
  above : X.s₀.heap.objs.size ≤ X.env.locals
  inj : ∀ x y c, X.env.cells.lookup x = some c → X.env.cells.lookup y = some c → x = y
  has : ∀ x, (X.env.kindOf x = some .cell ∨ X.env.kindOf x = some .free) → ∃ c, X.env.cells.lookup x = some c
  cab : ∀ x c, X.fn x = true → X.env.cells.lookup x = some c → X.s₀.heap.objs.size ≤ c
  hd : X.calm = true → X.A.handled = none
  frames : X.A.frames = some X.stack
  stk : X.stack = X.outer ∨ (X.stack = X.env :: X.outer ∧ X.env.frame = some X.env.locals)
  exf : ∀ b ∈ X.ex, b ≠ X.env.locals ∧ ∀ x c, X.env.cells.lookup x = some c → c ≠ b
  bs : ∀ b o, X.base.get? b = some o → X.s₀.heap.get? b = some o ∧ X.H₀ b = none
  bsz : X.base.objs.size ≤ X.s₀.heap.objs.size
  noex : ∀ b o, X.base.get? b = some o → b ∉ X.ex
  exfs : ∀ b ∈ X.ex, b ∉ X.fs
  funs : X.s₀.heap.FunFrames X.base X.outer
  frf : ∀ b ∈ X.fs, X.H₀ b = none
structure Inv (X : Cx) (pins : List (Addr × Obj)) (σ : List (Option V)) (H : Hp) (s : Shared) : Prop where
  ok : X.Ok
  os : s.os = X.s₀.os
  bare : AllBare s.gens
  base : Un X.fs X.ex X.H₀ H X.s₀.heap s.heap
  loc : ∃ m, s.heap.Ns X.env.locals m ∧ ∀ (i : Nat) (x : Str) (v : V), X.N[i]? = some x → σ[i]? = some (some v) → Vis X.env.scope x → ∃ u, RelV v u ∧ Look X.env s.heap m x u
  cell : ∀ x c, X.env.cells.lookup x = some c → ∃ v, s.heap.IsCell c v
  free : H X.env.locals = none
  freeC : ∀ x c, X.env.cells.lookup x = some c → H c = none
  pin : ∀ p ∈ X.pn ++ pins, s.heap.get? p.1 = some p.2 ∧ H p.1 = none ∧ p.1 ≠ X.env.locals ∧ p.1 ∉ X.fs ∧ ∀ v, p.2.data ≠ .cell v
  hok : HOk X.prog X.w H s.heap
  len : σ.length = X.N.length
section
variable {X : Cx} {pins : List (Addr × Obj)} {σ : List (Option V)} {H H' : Hp} {s : Shared} {h' : Heap}
theorem Cx.Ok.nofr (ok : X.Ok) {b : Addr} {o : Obj} (e : X.base.get? b = some o) : b ∉ X.fs := fun hb => by
  have := (ok.funs.mem hb).1
  rw [e] at this; cases this
theorem Inv.bs (I : Inv X pins σ H s) : ∀ b o, X.base.get? b = some o → s.heap.get? b = some o ∧ H b = none := fun b o e =>
  ⟨I.base.keep b o (I.ok.bs b o e).1 (I.ok.bs b o e).2 (I.ok.nofr e) (I.ok.noex b o e), I.base.free b o (I.ok.bs b o e).1 (I.ok.bs b o e).2 (I.ok.noex b o e)⟩
theorem Inv.bk (I : Inv X pins σ H s) : ∀ b o, X.base.get? b = some o → s.heap.get? b = some o := fun b o e => (I.bs b o e).1
theorem Inv.mod (I : Inv X pins σ H s) : Mod X.K X.mg X.base := I.ok.mod
theorem Inv.kIn (I : Inv X pins σ H s) : X.K.In s.heap := I.ok.mod.kin.keeps I.bk
theorem Inv.lt (I : Inv X pins σ H s) : X.env.locals < s.heap.objs.size := let ⟨_, hn, _⟩ := I.loc; hn.lt
theorem Inv.sz (I : Inv X pins σ H s) : X.s₀.heap.objs.size ≤ s.heap.objs.size := Nat.le_trans I.ok.above (Nat.le_of_lt I.lt)
theorem Inv.nofs (I : Inv X pins σ H s) {a : Addr} (h : s.heap.objs.size ≤ a) : a ∉ X.fs := fun hb => by
  obtain ⟨_, o, ho, _⟩ := I.ok.funs.mem hb
  exact absurd (Nat.lt_of_lt_of_le (Heap.lt_size ho) (Nat.le_trans I.sz h)) (Nat.lt_irrefl _)
theorem Inv.cne (I : Inv X pins σ H s) : ∀ x c, X.env.cells.lookup x = some c → c ≠ X.env.locals := fun x c e z => by
  obtain ⟨v, o, ho, hd⟩ := I.cell x c e
  obtain ⟨m, ⟨o', es, ep, ho', hd', _⟩, _⟩ := I.loc
  rw [z, ho'] at ho; cases ho; rw [hd'] at hd; cases hd
theorem Inv.funs (I : Inv X pins σ H s) : s.heap.FunFrames X.base X.outer := by
  have all : ∀ (l : List Env), (∀ b ∈ frs l, b ∈ X.fs) → X.s₀.heap.FunFrames X.base l → s.heap.FunFrames X.base l := by
    intro l
    induction l with
    | nil => intro _ _; trivial
    | cons env r ih =>
      intro hs hl
      obtain ⟨hk, ⟨L, o, hf, hn, ho, hd⟩, hr⟩ := hl
      have hL : L ∈ X.fs := hs L (by unfold frs; rw [List.filterMap_cons, hf]; exact List.mem_cons_self)
      obtain ⟨sl, e⟩ := I.base.slot L o ho (I.ok.frf L hL) hL fun z => I.ok.exfs L z hL
      exact ⟨hk, ⟨L, _, hf, hn, e, hd⟩, ih (fun b hb => hs b (by unfold frs; rw [List.filterMap_cons, hf]; exact List.mem_cons_of_mem _ hb)) hr⟩
  exact all X.outer (fun _ hb => hb) I.ok.funs
theorem Inv.stack (I : Inv X pins σ H s) : s.heap.FunFrames X.base X.stack := by
  rcases I.ok.stk with e | ⟨e, hf⟩
  · rw [e]; exact I.funs
  · rw [e]
    obtain ⟨m, hn, _⟩ := I.loc
    refine .cons (by rw [I.ok.kind]; decide) hf hn ?_ I.funs
    exact Heap.get?_none_of_le (Nat.le_trans I.ok.bsz I.ok.above)
theorem Inv.stkSub (I : Inv X pins σ H s) : ∀ b ∈ frs X.stack, b ∈ X.env.locals :: X.fs := fun b hb => by
  rcases I.ok.stk with e | ⟨e, hf⟩
  · rw [e] at hb; exact List.mem_cons_of_mem _ hb
  · rw [e] at hb
    unfold frs at hb
    rw [List.filterMap_cons, hf] at hb
    exact hb
theorem Inv.stkFree (I : Inv X pins σ H s) : ∀ b ∈ frs X.stack, H b = none := fun b hb => by
  rcases List.mem_cons.mp (I.stkSub b hb) with e | hb
  · rw [e]; exact I.free
  · obtain ⟨_, o, ho, _⟩ := I.ok.funs.mem hb
    exact I.base.free b o ho (I.ok.frf b hb) fun z => I.ok.exfs b z hb
theorem Inv.step {g' : Array GenState} {t' : Nat} {d' : Drawn} {ch : List Addr} (I : Inv X pins σ H s)
    (hch : ∀ b ∈ ch, (b ∈ X.ex ∨ X.s₀.heap.objs.size ≤ b) ∧ b ≠ X.env.locals ∧ (∀ x c, X.env.cells.lookup x = some c → c ≠ b) ∧ ∀ p ∈ X.pn ++ pins, p.1 ≠ b)
    (keep : ∀ b o, b ≠ X.env.locals → b ∉ X.fs → b ∉ ch → s.heap.get? b = some o → H b = none → h'.get? b = some o)
    (slot : ∀ b o, b ≠ X.env.locals → b ∈ X.fs → b ∉ ch → s.heap.get? b = some o → H b = none → ∃ sl, h'.get? b = some { o with slots := sl }) (free : ∀ b o, b ∉ ch → s.heap.get? b = some o → H b = none → H' b = none)
    (there : ∀ b o, b ∉ ch → s.heap.get? b = some o → ∃ o', h'.get? b = some o')
    (tups : ∀ b xs, H b = some (.tup xs) → H' b = some (.tup xs)) (frzs : ∀ b o u, H b = some (.frz o u) → H' b = some (.frz o u)) (tbls : ∀ b ps, H b = some (.tbl ps) → ∃ more, H' b = some (.tbl (ps ++ more)))
    (ns : ∀ m, s.heap.Ns X.env.locals m → h'.Ns X.env.locals m) (hok : HOk X.prog X.w H' h') (hg : AllBare g') :
    Inv X pins σ H' { s with heap := h', gens := g', drawn := d', toks := t' } := by
  have neL : ∀ b o, X.s₀.heap.get? b = some o → b ≠ X.env.locals := fun b o e => Nat.ne_of_lt (Nat.lt_of_lt_of_le (Heap.lt_size e) I.ok.above)
  have neC : ∀ b o, X.s₀.heap.get? b = some o → b ∉ X.ex → b ∉ ch := fun b o e hx hb => by
    rcases (hch b hb).1 with z | z
    · exact hx z
    · exact absurd (Nat.lt_of_lt_of_le (Heap.lt_size e) z) (Nat.lt_irrefl _)
  have cellK : ∀ x c, X.env.cells.lookup x = some c → ∀ v, s.heap.IsCell c v → h'.IsCell c v := fun x c e v ⟨o, ho, hd⟩ => by
    have nch : c ∉ ch := fun z => (hch c z).2.2.1 x c e rfl
    by_cases hc : c ∈ X.fs
    · obtain ⟨sl, q⟩ := slot c o (I.cne x c e) hc nch ho (I.freeC x c e)
      exact ⟨_, q, hd⟩
    · exact ⟨o, keep c o (I.cne x c e) hc nch ho (I.freeC x c e), hd⟩
  refine ⟨I.ok, I.os, hg, ⟨fun b o e n hb hx => ?_, fun b o e n hb hx => ?_, fun b o e n hx => ?_, fun b o e hx => ?_, fun b xs e => tups b xs (I.base.tups b xs e), fun b o xs e => frzs b o xs (I.base.frzs b o xs e), fun b ps e => ?_⟩, ?_, fun x c e => ?_, ?_, fun x c e => ?_, fun p hp => ?_, hok, I.len⟩
  · exact keep b o (neL b o e) hb (neC b o e hx) (I.base.keep b o e n hb hx) (I.base.free b o e n hx)
  · obtain ⟨sl, e1⟩ := I.base.slot b o e n hb hx
    obtain ⟨sl', e2⟩ := slot b _ (neL b o e) hb (neC b o e hx) e1 (I.base.free b o e n hx)
    exact ⟨sl', e2⟩
  · obtain ⟨o', e1⟩ := I.base.there b o e hx
    exact free b o' (neC b o e hx) e1 (I.base.free b o e n hx)
  · obtain ⟨o', e1⟩ := I.base.there b o e hx
    exact there b o' (neC b o e hx) e1
  · obtain ⟨m1, e1⟩ := I.base.tbls b ps e
    obtain ⟨m2, e2⟩ := tbls b _ e1
    exact ⟨m1 ++ m2, by rw [e2, Array.append_assoc]⟩
  · obtain ⟨m, hn, hl⟩ := I.loc
    refine ⟨m, ns m hn, fun i x v e1 e2 e3 => ?_⟩
    obtain ⟨u, r, l⟩ := hl i x v e1 e2 e3
    refine ⟨u, r, ?_⟩
    rcases l with l | ⟨k, c, e, z⟩
    · exact .inl l
    · exact .inr ⟨k, c, e, cellK x c e _ z⟩
  · obtain ⟨v, z⟩ := I.cell x c e
    exact ⟨v, cellK x c e v z⟩
  · obtain ⟨m, ⟨o, _, _, ho, _⟩, _⟩ := I.loc
    exact free _ o (fun z => (hch _ z).2.1 rfl) ho I.free
  · obtain ⟨v, o, ho, hd⟩ := I.cell x c e
    exact free c o (fun z => (hch c z).2.2.1 x c e rfl) ho (I.freeC x c e)
  · obtain ⟨e, n, ne, nf, d⟩ := I.pin p hp
    have nch : p.1 ∉ ch := fun z => (hch p.1 z).2.2.2 p hp rfl
    exact ⟨keep p.1 p.2 ne nf nch e n, free p.1 p.2 nch e n, ne, nf, d⟩
theorem Inv.un {t' : Nat} (I : Inv X pins σ H s) (u : Un X.fs [] H H' s.heap h') (hok : HOk X.prog X.w H' h') : Inv X pins σ H' { s with heap := h', toks := t' } := by
  obtain ⟨m, ⟨o, es, ep, ho, r⟩, _⟩ := id I.loc
  obtain ⟨sl, hL⟩ := u.any ho I.free (by simp)
  exact I.step (g' := s.gens) (d' := s.drawn) (ch := []) (fun _ z => nomatch z) (fun b o _ hb _ e n => u.keep b o e n hb (by simp)) (fun b o _ hb _ e n => u.slot b o e n hb (by simp)) (fun b o _ e n => u.free b o e n (by simp)) (fun b o _ e => u.there b o e (by simp)) u.tups u.frzs u.tbls (fun m' hm => by
    obtain ⟨o', es', ep', ho', r'⟩ := hm
    rw [ho] at ho'; cases ho'
    exact ⟨_, es', ep', hL, r'⟩) hok I.bare
theorem Inv.call {g' : Array GenState} {t' : Nat} {d' : Drawn} {ch : List Addr} (I : Inv X pins σ H s) (u : Un (frs X.stack) ch H H' s.heap h') (hok : HOk X.prog X.w H' h') (hg : AllBare g')
    (hch : ∀ b ∈ ch, (b ∈ X.ex ∨ X.s₀.heap.objs.size ≤ b) ∧ b ≠ X.env.locals ∧ (∀ x c, X.env.cells.lookup x = some c → c ≠ b) ∧ ∀ p ∈ X.pn ++ pins, p.1 ≠ b) :
    Inv X pins σ H' { s with heap := h', gens := g', drawn := d', toks := t' } := by
  obtain ⟨m, ⟨o, es, ep, ho, r⟩, _⟩ := id I.loc
  obtain ⟨sl, hL⟩ := u.any ho I.free fun z => (hch _ z).2.1 rfl
  exact I.step (ch := ch) hch (fun b o hL hb hc e n => u.keep b o e n (fun z => (List.mem_cons.mp (I.stkSub b z)).elim hL hb) hc) (fun b o _ _ hc e n => u.any e n hc) (fun b o hc e n => u.free b o e n hc) (fun b o hc e => u.there b o e hc) u.tups u.frzs u.tbls (fun m' hm => by
    obtain ⟨o', es', ep', ho', r'⟩ := hm
    rw [ho] at ho'; cases ho'
    exact ⟨_, es', ep', hL, r'⟩) hok hg
theorem Inv.turned {t' : Nat} {it : Addr} (I : Inv X pins σ H s) (k : ∀ b o, b ≠ it → s.heap.get? b = some o → h'.get? b = some o) (hn : H it = none) (hL : it ≠ X.env.locals)
    (h1 : it ∈ X.ex ∨ X.s₀.heap.objs.size ≤ it) (h2 : ∀ x c, X.env.cells.lookup x = some c → c ≠ it) (h3 : ∀ p ∈ X.pn ++ pins, p.1 ≠ it) : Inv X pins σ H { s with heap := h', toks := t' } := by
  have nit : ∀ b u, H b = some u → b ≠ it := fun b u e z => by rw [z, hn] at e; cases e
  refine I.step (g' := s.gens) (d' := s.drawn) (ch := [it]) (fun b hb => ?_) (fun b o _ _ hc e _ => k b o (fun z => hc (by simp [z])) e) (fun b o _ _ hc e _ => ⟨o.slots, k b o (fun z => hc (by simp [z])) e⟩) (fun _ _ _ _ n => n)
    (fun b o hc e => ⟨o, k b o (fun z => hc (by simp [z])) e⟩) (fun _ _ e => e) (fun _ _ _ e => e) (fun b ps e => ⟨#[], by rw [e]; simp⟩) (fun m hm => ?_) (fun b u e => ?_) I.bare
  · have e : b = it := by simpa using hb
    subst e
    exact ⟨h1, hL, h2, h3⟩
  · obtain ⟨o, es, ep, ho, r⟩ := hm
    exact ⟨o, es, ep, k _ o (Ne.symm hL) ho, r⟩
  · refine (I.hok b u e).stay (fun c v hc q => k c v ?_ q) (fun _ q => q) fun _ _ q => q
    rcases hc with z | z
    · rw [z]; exact nit b u e
    · exact nit c _ z
theorem Inv.tok (I : Inv X pins σ H s) (t : Nat) : Inv X pins σ H { s with toks := t } := I.un (h' := s.heap) (t' := t) Un.refl I.hok
theorem Inv.kept {t' : Nat} (I : Inv X pins σ H s) (k : ∀ b u, s.heap.get? b = some u → h'.get? b = some u) : Inv X pins σ H { s with heap := h', toks := t' } := I.un (Un.kept k) (I.hok.kept k)
theorem Inv.laid {a : Addr} {o : HO} {t' : Nat} (I : Inv X pins σ H s) (k : ∀ b u, s.heap.get? b = some u → h'.get? b = some u) (hp : s.heap.objs.size ≤ a) (new : ObjOk X.prog X.w (upd H a o) h' a o) :
    Inv X pins σ (upd H a o) { s with heap := h', toks := t' } := I.un (Un.laid k hp (I.hok.fresh hp)) (I.hok.laid k hp new)
theorem Inv.write {x e : Addr} {o : HO} {t' : Nat} (I : Inv X pins σ H s) (mu : Mut (H x)) (he : e = x ∨ H e = some (.own x)) (k : ∀ b u, b ≠ e → s.heap.get? b = some u → h'.get? b = some u) (heo : ∃ u, h'.get? e = some u)
    (new : ObjOk X.prog X.w (upd H x o) h' x o) : Inv X pins σ (upd H x o) { s with heap := h', toks := t' } := I.un (Un.write mu he k heo) (I.hok.write mu he k heo new)
theorem Inv.pins_of {pins' : List (Addr × Obj)} (I : Inv X pins σ H s) (h : ∀ p ∈ pins', s.heap.get? p.1 = some p.2 ∧ H p.1 = none ∧ p.1 ≠ X.env.locals ∧ p.1 ∉ X.fs ∧ ∀ v, p.2.data ≠ .cell v) : Inv X pins' σ H s :=
  ⟨I.ok, I.os, I.bare, I.base, I.loc, I.cell, I.free, I.freeC, fun p hp => (List.mem_append.mp hp).elim (fun z => I.pin p (List.mem_append_left _ z)) (h p), I.hok, I.len⟩
theorem nodup_ix {N : List Str} (hN : N.Nodup) {i j : Nat} {x : Str} (a : N[i]? = some x) (b : N[j]? = some x) : i = j := by
  obtain ⟨h1, e1⟩ := List.getElem?_eq_some_iff.mp a
  obtain ⟨h2, e2⟩ := List.getElem?_eq_some_iff.mp b
  exact (List.getElem_inj hN).mp (e1.trans e2.symm)
theorem store_ok2 {M : Model} {A : Around} {E : Value → Shared → Prop} {i : Nat} {x : Str} {v : V} {u : Value} {Q : Unit → Shared → Prop} (I : Inv X pins σ H s) (hN : X.N.Nodup) (hi : X.N[i]? = some x) (hx : Loc X.env.scope x) (r : RelV v u)
    (h : ∀ s', Inv X pins (σ.set i (some v)) H s' → (∃ a, Heap.SameBut a s.heap s'.heap ∧ (a = X.env.locals ∨ X.env.cells.lookup x = some a)) → Q () s') (hf : X.fn x = true ∨ X.env.scope.names.lookup x = some .local := by first | exact .inl rfl | exact .inr rfl | assumption) : wpAny M A (storeName X.env x u) Q E s := by
  obtain ⟨m, hn, hl⟩ := id I.loc
  have hcls : (X.env.scope.kind == .class || (X.env.scope.kind == .module && X.env.locals != X.env.globals)) = false := by rw [I.ok.kind]; rfl
  have hiσ : i < σ.length := by rw [I.len]; exact (List.getElem?_eq_some_iff.mp hi).1
  have cne := I.cne
  have tracked : ∀ {a : Addr} {h' : Heap}, (∃ o, s.heap.get? a = some o ∧ H a = none) → Heap.SameBut a s.heap h' → HOk X.prog X.w H h' := fun {a h'} ha hs b ob e => by
    obtain ⟨_, _, hfree⟩ := ha
    refine (I.hok b ob e).stay (fun c w' hc q => (hs.2 c ?_).trans q) (fun _ q => q) fun _ _ q => q
    rintro rfl
    rcases hc with rfl | hc
    · rw [hfree] at e; cases e
    · rw [hfree] at hc; cases hc
  rcases hx with hk | hk
  · refine wpAny_storeName_local hk hn (fun h' hn' hs => ?_) hcls
    obtain ⟨oL, _, _, hoL, _⟩ := id hn
    refine h _ ⟨I.ok, I.os, I.bare, ⟨fun b o e n hb hx => ?_, fun b o e n hb hx => ?_, I.base.free, fun b o e hx => ?_, I.base.tups, I.base.frzs, I.base.tbls⟩, ⟨_, hn', fun j y v' e1 e2 e3 => ?_⟩, fun y c e => ?_, I.free, I.freeC, fun p hp => ?_, tracked ⟨oL, hoL, I.free⟩ hs, by simpa using I.len⟩ ⟨_, hs, .inl rfl⟩
    · exact (hs.2 b (Nat.ne_of_lt (Nat.lt_of_lt_of_le (Heap.lt_size e) I.ok.above))).trans (I.base.keep b o e n hb hx)
    · obtain ⟨sl, e1⟩ := I.base.slot b o e n hb hx
      exact ⟨sl, (hs.2 b (Nat.ne_of_lt (Nat.lt_of_lt_of_le (Heap.lt_size e) I.ok.above))).trans e1⟩
    · obtain ⟨o', e1⟩ := I.base.there b o e hx
      exact ⟨o', (hs.2 b (Nat.ne_of_lt (Nat.lt_of_lt_of_le (Heap.lt_size e) I.ok.above))).trans e1⟩
    · by_cases hj : j = i
      · subst hj
        rw [hi] at e1; cases e1
        rw [List.getElem?_set_self hiσ] at e2
        cases e2
        exact ⟨u, r, .inl ⟨hk, by simp⟩⟩
      · rw [List.getElem?_set_ne (Ne.symm hj)] at e2
        obtain ⟨u', r', q⟩ := hl j y v' e1 e2 e3
        refine ⟨u', r', ?_⟩
        rcases q with ⟨k, e⟩ | ⟨k, c, e, z⟩
        · refine .inl ⟨k, ?_⟩
          have : y ≠ x := fun e => hj (nodup_ix hN e1 (e ▸ hi))
          simp [this, e]
        · exact .inr ⟨k, c, e, z.sameBut hs (cne y c e)⟩
    · obtain ⟨w', z⟩ := I.cell y c e
      exact ⟨w', z.sameBut hs (cne y c e)⟩
    · obtain ⟨e, n, ne, nf, d⟩ := I.pin p hp
      exact ⟨(hs.2 p.1 ne).trans e, n, ne, nf, d⟩
  · have hfn : X.fn x = true := by
      rcases hf with z | z
      · exact z
      · rw [z] at hk; cases hk
    obtain ⟨c, hc⟩ := I.ok.has x (.inl hk)
    obtain ⟨w', z⟩ := I.cell x c hc
    refine wpAny_storeName_cell I.ok.kind hk hc z (fun h' hc' hs => ?_)
    obtain ⟨oc, hoc, hocd⟩ := id z
    refine h { s with heap := h' } ⟨I.ok, I.os, I.bare, ⟨fun b o e n hb hx => ?_, fun b o e n hb hx => ?_, I.base.free, fun b o e hx => ?_, I.base.tups, I.base.frzs, I.base.tbls⟩, ⟨m, hn.sameBut hs (Ne.symm (cne x c hc)), fun j y v' e1 e2 e3 => ?_⟩, fun y c' e => ?_, I.free, I.freeC, fun p hp => ?_, tracked ⟨oc, hoc, I.freeC x c hc⟩ hs, by simpa using I.len⟩ ⟨c, hs, .inr hc⟩
    · exact (hs.2 b (Nat.ne_of_lt (Nat.lt_of_lt_of_le (Heap.lt_size e) (I.ok.cab x c hfn hc)))).trans (I.base.keep b o e n hb hx)
    · obtain ⟨sl, e1⟩ := I.base.slot b o e n hb hx
      exact ⟨sl, (hs.2 b (Nat.ne_of_lt (Nat.lt_of_lt_of_le (Heap.lt_size e) (I.ok.cab x c hfn hc)))).trans e1⟩
    · obtain ⟨o', e1⟩ := I.base.there b o e hx
      exact ⟨o', (hs.2 b (Nat.ne_of_lt (Nat.lt_of_lt_of_le (Heap.lt_size e) (I.ok.cab x c hfn hc)))).trans e1⟩
    · by_cases hj : j = i
      · subst hj
        rw [hi] at e1; cases e1
        rw [List.getElem?_set_self hiσ] at e2
        cases e2
        exact ⟨u, r, .inr ⟨.inl hk, c, hc, hc'⟩⟩
      · rw [List.getElem?_set_ne (Ne.symm hj)] at e2
        obtain ⟨u', r', q⟩ := hl j y v' e1 e2 e3
        refine ⟨u', r', ?_⟩
        rcases q with q | ⟨k, c', e, z'⟩
        · exact .inl q
        · refine .inr ⟨k, c', e, z'.sameBut hs ?_⟩
          rintro rfl
          exact hj (nodup_ix hN e1 (I.ok.inj _ _ _ e hc ▸ hi))
    · by_cases hcc : c' = c
      · subst hcc; exact ⟨_, hc'⟩
      · obtain ⟨w2, z2⟩ := I.cell y c' e
        exact ⟨w2, z2.sameBut hs hcc⟩
    · obtain ⟨e, n, ne, nf, d⟩ := I.pin p hp
      refine ⟨(hs.2 p.1 ?_).trans e, n, ne, nf, d⟩
      intro q
      rw [q, hoc] at e
      have q' : oc = p.2 := Option.some.inj e
      exact d w' (by rw [← q']; exact hocd)
theorem store_ok {M : Model} {A : Around} {E : Value → Shared → Prop} {i : Nat} {x : Str} {v : V} {u : Value} {Q : Unit → Shared → Prop} (I : Inv X pins σ H s) (hN : X.N.Nodup) (hi : X.N[i]? = some x) (hx : Loc X.env.scope x) (r : RelV v u)
    (h : ∀ s', Inv X pins (σ.set i (some v)) H s' → Q () s') (hf : X.fn x = true ∨ X.env.scope.names.lookup x = some .local := by first | exact .inl rfl | exact .inr rfl | assumption) : wpAny M A (storeName X.env x u) Q E s :=
  store_ok2 I hN hi hx r (fun s' I' _ => h s' I') hf
theorem Inv.call' {s' : Shared} {ch : List Addr} (I : Inv X pins σ H s) (ho : s'.os = s.os) (u : Un (frs X.stack) ch H H' s.heap s'.heap) (hok : HOk X.prog X.w H' s'.heap) (hg : AllBare s'.gens)
    (hch : ∀ b ∈ ch, (b ∈ X.ex ∨ X.s₀.heap.objs.size ≤ b) ∧ b ≠ X.env.locals ∧ (∀ x c, X.env.cells.lookup x = some c → c ≠ b) ∧ ∀ p ∈ X.pn ++ pins, p.1 ≠ b) : Inv X pins σ H' s' := by
  obtain ⟨h', g', d', t', o'⟩ := s'
  have e : o' = s.os := ho
  subst e
  exact I.call (g' := g') (t' := t') (d' := d') u hok hg hch
end
abbrev XK := Value → Option Addr → Hp → Prop
abbrev St := List (Option V)
abbrev VK := V → Hp → Prop
abbrev TE := St → Hp → VK → Prop
abbrev TT := St → Hp → (Bool → Hp → Prop) → Prop
abbrev TA := St → Hp → (List V → Hp → Prop) → Prop
structure Ends where
  nx : St → Hp → Prop
  rt : VK
  bk : St → Hp → Prop := fun _ _ => False
  ct : St → Hp → Prop := fun _ _ => False
abbrev TS := Ends → St → Hp → Prop
def EP (X : Cx) (pins : List (Addr × Obj)) (σ : St) (Q : VK) (u : Value) (s' : Shared) : Prop := ∃ v H', Inv X pins σ H' s' ∧ RelV v u ∧ Q v H'
def TP (X : Cx) (pins : List (Addr × Obj)) (σ : St) (Q : Bool → Hp → Prop) (b : Bool) (s' : Shared) : Prop := ∃ H', Inv X pins σ H' s' ∧ Q b H'
def AP (X : Cx) (pins : List (Addr × Obj)) (σ : St) (Q : List V → Hp → Prop) (us : List Value) (s' : Shared) : Prop := ∃ vs H', Inv X pins σ H' s' ∧ Vals vs us ∧ Q vs H'
def SP (X : Cx) (pins : List (Addr × Obj)) (D : Ends) (f : Flow) (s' : Shared) : Prop :=
  match f with
  | .next => ∃ σ' H', Inv X pins σ' H' s' ∧ D.nx σ' H'
  | .brk => ∃ σ' H', Inv X pins σ' H' s' ∧ D.bk σ' H'
  | .cont => ∃ σ' H', Inv X pins σ' H' s' ∧ D.ct σ' H'
  | .ret u => ∃ v σ' H', Inv X pins σ' H' s' ∧ RelV v u ∧ D.rt v H'
def PE (X : Cx) (e : Expr) (t : TE) : Prop :=
  ∀ (pins : List (Addr × Obj)) (s : Shared) (σ : St) (H : Hp) (Q : VK), Inv X pins σ H s → t σ H Q → wpAny (model X.prog X.w) X.A (eval e X.env) (EP X pins σ Q) X.xe s
def PT (X : Cx) (e : Expr) (t : TT) : Prop :=
  ∀ (pins : List (Addr × Obj)) (s : Shared) (σ : St) (H : Hp) (Q : Bool → Hp → Prop), Inv X pins σ H s → t σ H Q → wpAny (model X.prog X.w) X.A (isTrue e X.env (eval e X.env)) (TP X pins σ Q) X.xe s
def PW (X : Cx) (e : Expr) (t : TT) : Prop :=
  ∀ (whole : Sem Value) (pins : List (Addr × Obj)) (s : Shared) (σ : St) (H : Hp) (Q : Bool → Hp → Prop), Inv X pins σ H s → t σ H Q → wpAny (model X.prog X.w) X.A (isTrue e X.env whole) (TP X pins σ Q) X.xe s
theorem PW.pt {X : Cx} {e : Expr} {t : TT} (h : PW X e t) : PT X e t := h _
def PA (X : Cx) (es : List Expr) (t : TA) : Prop :=
  ∀ (pos : Pos) (pins : List (Addr × Obj)) (s : Shared) (σ : St) (H : Hp) (Q : List V → Hp → Prop), Inv X pins σ H s → t σ H Q → wpAny (model X.prog X.w) X.A (spliced (backTo pos (starEach es X.env))) (AP X pins σ Q) X.xe s
def PS (X : Cx) (st : Stmt) (t : TS) : Prop :=
  ∀ (pins : List (Addr × Obj)) (s : Shared) (σ : St) (H : Hp) (D : Ends), Inv X pins σ H s → t D σ H → wpAny (model X.prog X.w) X.A (exec st X.env) (SP X pins D) X.xe s
def PSs (X : Cx) (st : List Stmt) (t : TS) : Prop :=
  ∀ (pins : List (Addr × Obj)) (s : Shared) (σ : St) (H : Hp) (D : Ends), Inv X pins σ H s → t D σ H → wpAny (model X.prog X.w) X.A (execs st X.env) (SP X pins D) X.xe s
theorem thn {α : Type} {t : Sem α} {Q Q' : α → Shared → Prop} {M : Model} {A : Around} {E : Value → Shared → Prop} {s : Shared} (h : wpAny M A t Q E s) (hQ : ∀ a s, Q a s → Q' a s) : wpAny M A t Q' E s := wpAny_mono h hQ fun _ _ x => x
end L2
namespace L2
open PySem PySem.Spec PyProof.Rows
section
variable {X : Cx}
theorem bin {a b : Expr} {ta tb : TE} (ha : PE X a ta) (hb : PE X b tb) {pins : List (Addr × Obj)} {s : Shared} {σ : St} {H : Hp} {R : V → V → Hp → Prop} (I : Inv X pins σ H s) (h : ta σ H fun x H1 => tb σ H1 fun y H2 => R x y H2)
    {α : Type} {Q : α → Shared → Prop} {f : Value → Value → Sem α}
    (hf : ∀ v u s2 x y H2, Inv X pins σ H2 s2 → RelV x v → RelV y u → R x y H2 → wpAny (model X.prog X.w) X.A (f v u) Q X.xe s2) :
    wpAny (model X.prog X.w) X.A (eval a X.env) (fun v s₁ => wpAny (model X.prog X.w) X.A (eval b X.env) (fun u s₂ => wpAny (model X.prog X.w) X.A (f v u) Q X.xe s₂) X.xe s₁) X.xe s := by
  refine thn (ha pins s σ H _ I h) fun v s1 ⟨x, H1, I1, r1, q1⟩ => ?_
  refine thn (hb pins s1 σ H1 _ I1 q1) fun u s2 ⟨y, H2, I2, r2, q2⟩ => ?_
  exact hf v u s2 x y H2 I2 r1 r2 q2
def tVar (i : Nat) : TE := fun σ H Q => ∃ v, σ[i]? = some (some v) ∧ Q v H
def tC (v : V) : TE := fun _ H Q => Q v H
theorem pe_var {i : Nat} {x : Str} {pos : Pos} (hN : X.N[i]? = some x) (hv : Vis X.env.scope x) (hd : (x == ("__debug__" : Str)) = false := by decide) (hcd : (x == ("__classdict__" : Str)) = false := by decide) : PE X (.Name x pos) (tVar i) := by
  intro pins s σ H Q I h
  obtain ⟨v, e, h⟩ := h
  obtain ⟨m, hn, hl⟩ := I.loc
  obtain ⟨u, r, l⟩ := hl i x v hN e hv
  have fin : EP X pins σ Q u s := ⟨v, H, I, r, h⟩
  rcases l with ⟨hk, hm⟩ | ⟨hk, c, hc, hcell⟩
  · exact wpAny_Name (wpAny_loadName_local I.ok.kind hk hn hm fin) hd
  · rcases hk with hk | hk
    · exact wpAny_Name (wpAny_loadName_cell I.ok.kind hk hc hcell fin) hd
    · exact wpAny_Name (wpAny_loadName_free I.ok.kind hk hc hcell fin hcd) hd
theorem pe_int {i j pos} : PE X (.Constant (.int i) j pos) (tC (.int i)) := fun _ _ _ H _ I h => wpAny_Constant_int ⟨.int i, H, I.tok _, ⟨_, rfl⟩, h⟩
theorem pe_bl {b j pos} : PE X (.Constant (.bool b) j pos) (tC (.bl b)) := fun _ _ _ H _ I h => Constant_bool ⟨.bl b, H, I, rfl, h⟩
theorem pe_non {j pos} : PE X (.Constant .none j pos) (tC .non) := fun _ _ _ H _ I h => Constant_none ⟨.non, H, I, rfl, h⟩
theorem pe_str {x j pos} : PE X (.Constant (.str x) j pos) (tC (.str x)) := fun _ _ _ H _ I h => Calls.Constant_str ⟨.str x, H, I.tok _, ⟨_, rfl⟩, h⟩
def Gl (X : Cx) (x : Str) : Prop := X.env.kindOf x = some .globalImplicit
theorem ld_glob {E : Value → Shared → Prop} {pins : List (Addr × Obj)} {s : Shared} {σ : St} {H : Hp} {x : Str} {u : Value} {pos : Pos} {Q : Value → Shared → Prop} (I : Inv X pins σ H s) (hg : Gl X x) (hm : X.mg x = some u) (h : Q u s)
    (hd : (x == ("__debug__" : Str)) = false := by decide) : wpAny (model X.prog X.w) X.A (eval (.Name x pos) X.env) Q E s :=
  Calls.Name_function_global I.ok.kind hg (Calls.loadGlobal_global (by rw [I.ok.glob]; exact I.mod.glob.keeps I.bk) hm h) hd
theorem ld_blt {E : Value → Shared → Prop} {pins : List (Addr × Obj)} {s : Shared} {σ : St} {H : Hp} {x : Str} {u : Value} {pos : Pos} {Q : Value → Shared → Prop} (I : Inv X pins σ H s) (hg : Gl X x) (hm : X.mg x = none) (hv : bootBuiltins x = some u) (h : Q u s)
    (hn : x ≠ "__name__" := by decide) (hd : (x == ("__debug__" : Str)) = false := by decide) : wpAny (model X.prog X.w) X.A (eval (.Name x pos) X.env) Q E s := by
  obtain ⟨mb, h1, h2⟩ := I.mod.blt
  exact Calls.Name_function_global I.ok.kind hg (Calls.loadGlobal_builtin (by rw [I.ok.glob]; exact I.mod.glob.keeps I.bk) hm (by rw [I.ok.blt]; exact h1.keeps I.bk) ((h2 x hn).trans hv) h) hd
theorem pe_glob {x : Str} {v : V} {u : Value} {pos : Pos} (hg : Gl X x) (hm : X.mg x = some u) (r : RelV v u) (hd : (x == ("__debug__" : Str)) = false := by decide) : PE X (.Name x pos) (tC v) :=
  fun _ _ _ H _ I h => ld_glob I hg hm ⟨v, H, I, r, h⟩ hd
theorem pe_bltn {x : Str} {v : V} {u : Value} {pos : Pos} (hg : Gl X x) (hm : X.mg x = none) (hv : bootBuiltins x = some u) (r : RelV v u) (hn : x ≠ "__name__" := by decide) (hd : (x == ("__debug__" : Str)) = false := by decide) : PE X (.Name x pos) (tC v) :=
  fun _ _ _ H _ I h => ld_blt I hg hm hv ⟨v, H, I, r, h⟩ hn hd
variable {a b : Expr} {ta tb : TE} {pos : Pos}
def tB (t : TE) : TT := fun σ H Q => t σ H fun x H1 => ∃ c, x = .bl c ∧ Q c H1
theorem pt_val {e : Expr} {t : TE} (h : PE X e t) (he : ∀ whole, isTrue e X.env whole = (do let v ← whole; standAt e.pos; holding [v] (truthy v)) := by intro _; rfl) : PT X e (tB t) := by
  intro pins s σ H Q I hw
  refine isTrue_plain (thn (h pins s σ H _ I hw) fun v s1 ⟨x, H1, I1, r1, q1⟩ => ?_) (he _)
  obtain ⟨d, rfl, q⟩ := q1
  cases r1
  exact wpAny_truthy_bool ⟨H1, I1, q⟩
variable {tA tB' : TT} {rest : List Expr}
def tAnd (t u : TT) : TT := fun σ H Q => t σ H fun c H1 => if c = true then u σ H1 Q else Q false H1
def tOr (t u : TT) : TT := fun σ H Q => t σ H fun c H1 => if c = true then Q true H1 else u σ H1 Q
def tNot (t : TT) : TT := fun σ H Q => t σ H fun c H1 => Q (!c) H1
theorem pw_and1 (ha : PT X a tA) : PW X (.BoolOp .And [a] pos) tA := by
  intro wh pins s σ H Q I h
  refine isTrue_and (thn (ha pins s σ H Q I h) fun c s1 e => ?_)
  cases c with
  | true => exact isTrue_and_nil e
  | false => exact e
theorem pw_or1 (ha : PT X a tA) : PW X (.BoolOp .Or [a] pos) tA := by
  intro wh pins s σ H Q I h
  refine isTrue_or (thn (ha pins s σ H Q I h) fun c s1 e => ?_)
  cases c with
  | false => exact isTrue_or_nil e
  | true => exact e
theorem pw_and (ha : PT X a tA) (hb : PW X (.BoolOp .And (b :: rest) pos) tB') : PW X (.BoolOp .And (a :: b :: rest) pos) (tAnd tA tB') := by
  intro wh pins s σ H Q I h
  refine isTrue_and (thn (ha pins s σ H _ I h) fun c s1 ⟨H1, I1, q1⟩ => ?_)
  cases c with
  | true => exact hb wh pins s1 σ H1 Q I1 q1
  | false => exact ⟨H1, I1, q1⟩
theorem pw_or (ha : PT X a tA) (hb : PW X (.BoolOp .Or (b :: rest) pos) tB') : PW X (.BoolOp .Or (a :: b :: rest) pos) (tOr tA tB') := by
  intro wh pins s σ H Q I h
  refine isTrue_or (thn (ha pins s σ H _ I h) fun c s1 ⟨H1, I1, q1⟩ => ?_)
  cases c with
  | true => exact ⟨H1, I1, q1⟩
  | false => exact hb wh pins s1 σ H1 Q I1 q1
theorem pt_not (ha : PT X a tA) : PT X (.UnaryOp .Not a pos) (tNot tA) := by
  intro pins s σ H Q I h
  exact isTrue_not (ha pins s σ H (fun c H1 => Q (!c) H1) I h)
def tAndV (ta tb : TE) : TE := fun σ H Q => ta σ H fun x H1 => ∃ c, x = .bl c ∧ if c = true then tb σ H1 Q else Q (.bl false) H1
theorem pe_one {op} {t : TE} (h : PE X a t) : PE X (.BoolOp op [a] pos) t := fun pins s σ H Q I hw => BoolOp_one (h pins s σ H Q I hw)
theorem pe_and (ha : PE X a ta) (hb : PE X (.BoolOp .And (b :: rest) pos) tb) : PE X (.BoolOp .And (a :: b :: rest) pos) (tAndV ta tb) := by
  intro pins s σ H Q I h
  refine BoolOp_and (thn (ha pins s σ H _ I h) fun v s1 ⟨x, H1, I1, r1, q1⟩ => ?_)
  obtain ⟨c, rfl, q1⟩ := q1
  cases r1
  refine wpAny_truthy_bool ?_
  cases c with
  | true => exact hb pins s1 σ H1 Q I1 q1
  | false => exact ⟨.bl false, H1, I1, rfl, q1⟩
end
end L2
namespace L2
open PySem PySem.Spec PyProof.Rows
def SqL (K : PySem.W.Frag) (H : Hp) (a : Addr) (xs : List V) : Prop :=
  Rd H a (.lst xs) ∨
    ∃ (o : Obj) (its : Array Value) (n : Nat), K.lookup a = some o ∧ o.cls = .type "list" ∧ o.dict = none ∧ o.data = .seq its n ∧ its.size ≤ sizeLine ∧ Vals xs its.toList
def SqT (K : PySem.W.Frag) (H : Hp) (a : Addr) (xs : List V) : Prop :=
  Rd H a (.tup xs) ∨
    ∃ (o : Obj) (its : Array Value) (n : Nat), K.lookup a = some o ∧ o.cls = .type "tuple" ∧ o.data = .seq its n ∧ its.size ≤ sizeLine ∧ Vals xs its.toList
def absV : Value → Option V
  | .none => some .non
  | .bool b => some (.bl b)
  | .int i _ => some (.int i)
  | .str x _ => some (.str x)
  | .bytes b _ => some (.byt b)
  | .float b _ => some (.flt b)
  | .ref a => some (.ref a)
  | .type n => some (.ty n)
  | _ => none
theorem RelV.abs {x : V} {u : Value} (r : RelV x u) : absV u = some x := by
  cases x with
  | non => cases r; rfl
  | bl _ => cases r; rfl
  | int _ => obtain ⟨t, rfl⟩ := r; rfl
  | str _ => obtain ⟨t, rfl⟩ := r; rfl
  | byt _ => obtain ⟨t, rfl⟩ := r; rfl
  | flt _ => obtain ⟨t, rfl⟩ := r; rfl
  | ref _ => cases r; rfl
  | ty _ => cases r; rfl
theorem RelV.inj {x y : V} {u : Value} (r : RelV x u) (q : RelV y u) : x = y := Option.some.inj (r.abs.symm.trans q.abs)
theorem Vals.inj : ∀ {xs ys : List V} {us : List Value}, Vals xs us → Vals ys us → xs = ys
  | _, _, _, .nil, .nil => rfl
  | _, _, _, .cons r t, .cons r' t' => by rw [r.inj r', Vals.inj t t']
section
variable {X : Cx} {pins : List (Addr × Obj)} {σ : St} {H : Hp} {s : Shared} {a : Addr} {xs ys : List V}
theorem SqL.of {K : PySem.W.Frag} (h : H a = some (.lst xs)) : SqL K H a xs := .inl (.inl h)
theorem SqT.of {K : PySem.W.Frag} (h : H a = some (.tup xs)) : SqT K H a xs := .inl (.inl h)
theorem Inv.list (I : Inv X pins σ H s) (h : SqL X.K H a xs) : ∃ its : List Value, Vals xs its ∧ PlainL s.heap a its.toArray ∧ xs.length ≤ sizeLine := by
  rcases h with h | ⟨o, its, n, hk, hc, hd, hs, hz, r⟩
  · obtain ⟨z, its, n, r, e⟩ := h.ok I.hok
    exact ⟨its, r, ⟨_, n, e, rfl, rfl, rfl⟩, z⟩
  · refine ⟨its.toList, r, ⟨o, n, I.kIn a o hk, hc, hd, by simpa using hs⟩, ?_⟩
    have e := r.length
    simp only [Array.length_toList] at e
    omega
theorem Inv.tuple (I : Inv X pins σ H s) (h : SqT X.K H a xs) : ∃ its : List Value, Vals xs its ∧ IsTup s.heap a its.toArray ∧ xs.length ≤ sizeLine := by
  rcases h with h | ⟨o, its, n, hk, hc, hs, hz, r⟩
  · obtain ⟨z, its, r, p⟩ := h.ok I.hok
    exact ⟨its, r, p, z.1⟩
  · refine ⟨its.toList, r, ⟨o, I.kIn a o hk, hc, n, by simpa using hs⟩, ?_⟩
    have e := r.length
    simp only [Array.length_toList] at e
    omega
theorem Inv.list_inj (I : Inv X pins σ H s) (h : SqL X.K H a xs) (h' : SqL X.K H a ys) : xs = ys := by
  obtain ⟨its, r, ⟨o, n, e, _, _, d⟩, _⟩ := I.list h
  obtain ⟨its', r', ⟨o', n', e', _, _, d'⟩, _⟩ := I.list h'
  rw [e] at e'; cases e'
  rw [d] at d'
  injection d' with d1 _
  have : its = its' := by simpa using congrArg Array.toList d1
  subst this
  exact r.inj r'
theorem Inv.tuple_inj (I : Inv X pins σ H s) (h : SqT X.K H a xs) (h' : SqT X.K H a ys) : xs = ys := by
  obtain ⟨its, r, ⟨o, e, _, n, d⟩, _⟩ := I.tuple h
  obtain ⟨its', r', ⟨o', e', _, n', d'⟩, _⟩ := I.tuple h'
  rw [e] at e'; cases e'
  rw [d] at d'
  injection d' with d1 _
  have : its = its' := by simpa using congrArg Array.toList d1
  subst this
  exact r.inj r'
end
abbrev Cx.wish (X : Cx) (E : Value → Shared → Prop) : Cx := { X with xe := E }
abbrev Cx.nox (X : Cx) : Cx := X.wish fun _ _ => False
theorem Cx.Ok.wish {X : Cx} (ok : X.Ok) (E : Value → Shared → Prop) : (X.wish E).Ok :=
  ⟨ok.mod, ok.kind, ok.glob, ok.blt, ok.above, ok.inj, ok.has, ok.cab, ok.hd, ok.frames, ok.stk, ok.exf, ok.bs, ok.bsz, ok.noex, ok.exfs, ok.funs, ok.frf⟩
theorem Cx.Ok.unwish {X : Cx} {E : Value → Shared → Prop} (ok : (X.wish E).Ok) : X.Ok :=
  ⟨ok.mod, ok.kind, ok.glob, ok.blt, ok.above, ok.inj, ok.has, ok.cab, ok.hd, ok.frames, ok.stk, ok.exf, ok.bs, ok.bsz, ok.noex, ok.exfs, ok.funs, ok.frf⟩
section
variable {X : Cx} {pins : List (Addr × Obj)} {σ : St} {H : Hp} {s : Shared} {E : Value → Shared → Prop}
theorem Inv.wish (I : Inv X pins σ H s) (E : Value → Shared → Prop) : Inv (X.wish E) pins σ H s := ⟨I.ok.wish E, I.os, I.bare, I.base, I.loc, I.cell, I.free, I.freeC, I.pin, I.hok, I.len⟩
theorem Inv.unwish (I : Inv (X.wish E) pins σ H s) : Inv X pins σ H s := ⟨I.ok.unwish, I.os, I.bare, I.base, I.loc, I.cell, I.free, I.freeC, I.pin, I.hok, I.len⟩
theorem SP.unwish {D : Ends} {f : Flow} {s' : Shared} (h : SP (X.wish E) pins D f s') : SP X pins D f s' := by
  cases f with
  | next => obtain ⟨σ', H', I, q⟩ := h; exact ⟨σ', H', I.unwish, q⟩
  | brk => obtain ⟨σ', H', I, q⟩ := h; exact ⟨σ', H', I.unwish, q⟩
  | cont => obtain ⟨σ', H', I, q⟩ := h; exact ⟨σ', H', I.unwish, q⟩
  | ret u => obtain ⟨v, σ', H', I, r, q⟩ := h; exact ⟨v, σ', H', I.unwish, r, q⟩
theorem PSs.nox {st : List Stmt} {t : TS} (h : PSs X.nox st t) : PSs X st t := fun pins s σ H D I hw =>
  wpAny_mono (h pins s σ H D (I.wish _) hw) (fun _ _ q => q.unwish) fun _ _ z => False.elim z
end
section
variable {X : Cx} {st : Stmt} {rest : List Stmt} {t u : TS} {e : Expr} {te : TE} {pos : Pos}
def tNext : TS := fun D σ H => D.nx σ H
def tSeq (t u : TS) : TS := fun D σ H => t { D with nx := u D } σ H
theorem pss_nil : PSs X [] tNext := fun _ _ σ H _ I h => wpAny_execs_nil ⟨σ, H, I, h⟩
theorem pss_cons (h1 : PS X st t) (h2 : PSs X rest u) : PSs X (st :: rest) (tSeq t u) := by
  intro pins s σ H D I h
  refine wpAny_execs_cons (thn (h1 pins s σ H { D with nx := u D } I h) fun f s1 q => ?_)
  cases f with
  | next =>
    obtain ⟨σ', H', I', q⟩ := q
    exact h2 pins s1 σ' H' D I' q
  | ret v => exact q
  | brk => exact q
  | cont => exact q
theorem pss_one (h1 : PS X st t) : PSs X [st] t := by
  intro pins s σ H D I h
  refine wpAny_execs_cons (thn (h1 pins s σ H D I h) fun f s1 q => ?_)
  cases f with
  | next => exact wpAny_execs_nil q
  | ret v => exact q
  | brk => exact q
  | cont => exact q
theorem Inv.quiet {pins : List (Addr × Obj)} {σ : St} {H : Hp} {s : Shared} (I : Inv X pins σ H s) : interactive X.env = false := by simp [interactive, I.ok.kind]
def tDrop (te : TE) : TS := fun D σ H => te σ H fun _ H1 => D.nx σ H1
theorem ps_expr (he : PE X e te) (hs : swapsWith e none pos.line X.env = pure false := by rfl) : PS X (.Expr e pos) (tDrop te) := by
  intro pins s σ H D I h
  exact wpAny_Expr_any (thn (he pins s σ H _ I h) fun v s1 ⟨x, H1, I1, r1, q1⟩ => ⟨σ, H1, I1, q1⟩) I.quiet hs
def tRet (te : TE) : TS := fun D σ H => te σ H D.rt
theorem ps_ret (he : PE X e te) : PS X (.Return (some e) pos) (tRet te) := by
  intro pins s σ H D I h
  exact wpAny_Return_some (thn (he pins s σ H _ I h) fun v s1 ⟨x, H1, I1, r1, q1⟩ => ⟨x, σ, H1, I1, r1, q1⟩)
def tIfS (c : TT) (t u : TS) : TS := fun D σ H => c σ H fun b H1 => if b = true then t D σ H1 else u D σ H1
theorem ps_if {c : Expr} {a b : List Stmt} {tc : TT} (hc : PT X c tc) (ha : PSs X a t) (hb : PSs X b u) : PS X (.If c a b pos) (tIfS tc t u) := by
  intro pins s σ H D I h
  refine wpAny_If (thn (hc pins s σ H _ I h) fun d s1 ⟨H1, I1, q1⟩ => ?_)
  cases d with
  | true => exact ha pins s1 σ H1 D I1 q1
  | false => exact hb pins s1 σ H1 D I1 q1
end
abbrev TG := V → St → Hp → (St → Hp → Prop) → Prop
abbrev TGs := List V → St → Hp → (St → Hp → Prop) → Prop
def PG (X : Cx) (target : Expr) (t : TG) : Prop :=
  ∀ (pins : List (Addr × Obj)) (s : Shared) (σ : St) (H : Hp) (v : V) (u : Value) (Q : St → Hp → Prop), Inv X pins σ H s → RelV v u → t v σ H Q →
    wpAny (model X.prog X.w) X.A (assign target X.env u) (fun _ s' => ∃ σ' H', Inv X pins σ' H' s' ∧ Q σ' H') X.xe s
def PGs (X : Cx) (ts : List Expr) (t : TGs) : Prop :=
  ∀ (pins : List (Addr × Obj)) (s : Shared) (σ : St) (H : Hp) (vs : List V) (us : List Value) (Q : St → Hp → Prop), Inv X pins σ H s → Vals vs us → t vs σ H Q →
    wpAny (model X.prog X.w) X.A (assignInOrder ((assignEach ts X.env).map (·.2)) us) (fun _ s' => ∃ σ' H', Inv X pins σ' H' s' ∧ Q σ' H') X.xe s
abbrev TSet := V → V → V → Hp → (Hp → Prop) → Prop
def PSet (X : Cx) (t : TSet) : Prop :=
  ∀ (pins : List (Addr × Obj)) (s : Shared) (σ : St) (H : Hp) (o i v : V) (ov iv u : Value) (Q : Hp → Prop), Inv X pins σ H s → RelV o ov → RelV i iv → RelV v u → t o i v H Q →
    wpAny (model X.prog X.w) X.A (setItem ov iv u) (fun _ s' => ∃ H', Inv X pins σ H' s' ∧ Q H') X.xe s
section
variable {X : Cx} {pos : Pos}
def gName (i : Nat) : TG := fun v σ H Q => Q (σ.set i (some v)) H
theorem pg_name {i : Nat} {x : Str} (hN : X.N.Nodup) (hi : X.N[i]? = some x) (hx : Loc X.env.scope x) (hf : X.fn x = true ∨ X.env.scope.names.lookup x = some .local := by first | exact .inl rfl | exact .inr rfl | assumption) : PG X (.Name x pos) (gName i) := by
  intro pins s σ H v u Q I r h
  exact wpAny_assign_Name (store_ok I hN hi hx r (fun s' I' => ⟨_, H, I', h⟩) hf)
def gNil : TGs := fun vs σ H Q => vs = [] ∧ Q σ H
def gCons (t : TG) (u : TGs) : TGs := fun vs σ H Q => ∃ v r, vs = v :: r ∧ t v σ H fun σ' H' => u r σ' H' Q
theorem pgs_nil : PGs X [] gNil := by
  intro pins s σ H vs us Q I r h
  obtain ⟨e, h⟩ := h
  subst e
  cases r
  exact assignInOrder_nil ⟨σ, H, I, h⟩
theorem pgs_cons {e : Expr} {es : List Expr} {t : TG} {u : TGs} (h1 : PG X e t) (h2 : PGs X es u)
    (hs : (assignEach (e :: es) X.env).map (·.2) = assign e X.env :: (assignEach es X.env).map (·.2) := by rfl) : PGs X (e :: es) (gCons t u) := by
  intro pins s σ H vs us Q I r h
  obtain ⟨v, vr, e1, h⟩ := h
  subst e1
  cases r with
  | cons r rr =>
    rw [hs]
    refine assignInOrder_cons (thn (h1 pins s σ H _ _ _ I r h) fun _ s1 ⟨σ1, H1, I1, q1⟩ => ?_)
    exact h2 pins s1 σ1 H1 _ _ Q I1 rr q1
def gTup (K : PySem.W.Frag) (n : Nat) (t : TGs) : TG := fun v σ H Q => ∃ a xs, v = .ref a ∧ SqT K H a xs ∧ xs.length = n ∧ t xs σ H Q
theorem pg_tup {es : List Expr} {k : Nat} {t : TGs} {n : Nat} (hc : X.calm = true) (h : PGs X es t)
    (hn : (assignEach es X.env).length = n := by rfl) (hst : (assignEach es X.env).findIdx? (·.1) = none := by rfl) : PG X (.Tuple es k pos) (gTup X.K n t) := by
  intro pins s σ H v u Q I r hw
  obtain ⟨a, xs, e1, hq, hl, hw⟩ := hw
  subst e1
  cases r
  obtain ⟨its, rv, ht, hz⟩ := I.tuple hq
  refine assign_Tuple_tuple (I.ok.hd hc) ht (by simp [hn, ← hl, rv.length]) hst fun h' hx => ?_
  have I1 : Inv X pins σ H { s with heap := h' } := I.kept (t' := s.toks) fun b o e => hx b o (Nat.ne_of_lt (Heap.lt_size e)) e
  exact h pins _ σ H xs _ Q I1 (by simpa using rv) hw
def gSub (to ti : TE) (t : TSet) : TG := fun v σ H Q => to σ H fun o H1 => ti σ H1 fun i H2 => t o i v H2 fun H3 => Q σ H3
theorem pg_sub {o i : Expr} {to ti : TE} {t : TSet} (ho : PE X o to) (hi : PE X i ti) (hs : PSet X t)
    (ha : ∀ v, assign (.Subscript o i pos) X.env v = (do
      let ov ← holding [v] (eval o X.env)
      let iv ← holding [v, ov] (eval i X.env)
      standAt pos
      holding [v, ov, iv] (setItem ov iv v)
      release [v, ov, iv] []) := by intro _; rfl) : PG X (.Subscript o i pos) (gSub to ti t) := by
  intro pins s σ H v u Q I r h
  rw [ha]
  refine wpAny_bind (wpAny_holding (thn (ho pins s σ H _ I h) fun ov s1 ⟨x, H1, I1, r1, q1⟩ => ?_))
  refine wpAny_bind (wpAny_holding (thn (hi pins s1 σ H1 _ I1 q1) fun iv s2 ⟨y, H2, I2, r2, q2⟩ => ?_))
  refine wpAny_bind (wpAny_standAt (wpAny_bind (wpAny_holding (thn (hs pins s2 σ H2 x y v ov iv u _ I2 r1 r2 r q2) fun _ s3 ⟨H3, I3, q3⟩ => ?_))))
  exact wpAny_release ⟨σ, H3, I3, q3⟩
def tAsg (te : TE) (g : TG) : TS := fun D σ H => te σ H fun x H1 => g x σ H1 D.nx
theorem ps_asg {tg e : Expr} {te : TE} {g : TG} (he : PE X e te) (hg : PG X tg g) (hs : swapsWithSole [tg] e pos.line X.env = pure false := by rfl) (hw : swappedStores [tg] e X.env = pure none := by rfl)
    (h1 : (assignEach [tg] X.env).map (·.2) = [assign tg X.env] := by rfl) : PS X (.Assign [tg] e pos) (tAsg te g) := by
  intro pins s σ H D I h
  refine wpAny_Assign_stores (thn (he pins s σ H _ I h) fun v s1 ⟨x, H1, I1, r1, q1⟩ => ?_) hs hw
  rw [h1]
  exact thn (hg pins s1 σ H1 x v _ I1 r1 q1) fun _ s2 q => q
theorem ps_set {i : Nat} {x : Str} {e : Expr} {te : TE} {pos' : Pos} (hN : X.N.Nodup) (hi : X.N[i]? = some x) (hx : Loc X.env.scope x) (he : PE X e te) (hs : swapsWith e (some (.Name x pos')) pos.line X.env = pure false := by rfl) (hf : X.fn x = true ∨ X.env.scope.names.lookup x = some .local := by first | exact .inl rfl | exact .inr rfl | assumption) :
    PS X (.Assign [.Name x pos'] e pos) (tAsg te (gName i)) := by
  intro pins s σ H D I h
  refine wpAny_Assign_Name (thn (he pins s σ H _ I h) fun v s1 ⟨y, H1, I1, r1, q1⟩ => ?_) hs
  exact store_ok I1 hN hi hx r1 (fun s2 I2 => ⟨_, H1, I2, q1⟩) hf
def tPar (i j : Nat) (ta : TA) : TS := fun D σ H => ta σ H fun vs H1 => ∃ v w, vs = [v, w] ∧ D.nx ((σ.set i (some v)).set j (some w)) H1
theorem ps_par {i j : Nat} {x y : Str} {a b : Expr} {ta : TA} {px py pt : Pos} {kt k2 pt2} (hc : X.calm = true) (hN : X.N.Nodup) (hi : X.N[i]? = some x) (hj : X.N[j]? = some y) (hij : i ≠ j)
    (hx : X.env.scope.names.lookup x = some .local) (hy : X.env.scope.names.lookup y = some .local) (ha : PA X [a, b] ta)
    (hw : swappedStores [.Tuple [.Name x px, .Name y py] kt pt] (.Tuple [a, b] k2 pt2) X.env = pure (some [x, y]))
    (hs : swapsWithSole [.Tuple [.Name x px, .Name y py] kt pt] (.Tuple [a, b] k2 pt2) pos.line X.env = pure false := by rfl) :
    PS X (.Assign [.Tuple [.Name x px, .Name y py] kt pt] (.Tuple [a, b] k2 pt2) pos) (tPar i j ta) := by
  intro pins s σ H D I h
  rw [exec_Assign_arm]
  refine wpAny_bind (wpAny_standAt ?_)
  rw [hs]
  refine wpAny_bind (wpAny_pure ?_)
  rw [if_neg (by decide)]
  refine wpAny_bind (Tuple_ (thn (ha _ pins s σ H _ I h) fun us s1 ⟨vs, H1, I1, r1, q1⟩ => ?_))
  obtain ⟨v, w, e1, q1⟩ := q1
  subst e1
  obtain ⟨u1, u2, rfl, rv, rw'⟩ : ∃ u1 u2, us = [u1, u2] ∧ RelV v u1 ∧ RelV w u2 := by
    cases r1 with
    | cons p q =>
      cases q with
      | cons p' q' =>
        cases q'
        exact ⟨_, _, rfl, p, p'⟩
  refine wpAny_newObj_type ?_ (by show 2 ≤ sizeLine; decide)
  have I2 : Inv X pins σ H1 { s1 with heap := s1.heap.push { cls := .type "tuple", data := .seq [u1, u2].toArray } } := I1.kept (t' := s1.toks) fun b o e => Heap.get?_push_of_some _ e
  rw [hw]
  refine wpAny_bind (wpAny_pure ?_)
  show wpAny (model X.prog X.w) X.A (do rule "assign.swapped-stores"; let items ← unpackItems (.ref s1.heap.objs.size) 2 none; assignInOrder [fun v => bindName X.env y v, fun v => bindName X.env x v] items.reverse; pure Flow.next) _ _ _
  refine wpAny_bind (wpAny_rule (wpAny_bind (unpackItems_tuple (items := #[u1, u2]) (I.ok.hd hc) (IsTup.new s1.heap _) fun h' hx' => ?_)))
  have I3 := I2.kept (h' := h') (t' := s1.toks) fun b o e => hx' b o (Nat.ne_of_lt (Heap.lt_size e)) e
  show wpAny _ _ (assignInOrder [fun v => bindName X.env y v, fun v => bindName X.env x v] [u2, u1] >>= fun _ => pure Flow.next) _ _ _
  refine wpAny_bind (assignInOrder_cons (wpAny_bindName (store_ok I3 hN hj (.inl hy) rw' (fun s2 I4 => ?_) (.inr hy))))
  refine assignInOrder_cons (wpAny_bindName (store_ok I4 hN hi (.inl hx) rv (fun s3 I5 => assignInOrder_nil (wpAny_pure ?_)) (.inr hx)))
  rw [List.set_comm _ _ (Ne.symm hij)] at I5
  exact ⟨_, H1, I5, q1⟩
end
section
variable {X : Cx} {pos : Pos}
def tWhile (c : TT) (tb : TS) : TS := fun D σ H => ∃ W : Nat → St → Hp → Prop, (∃ m, W m σ H) ∧ ∀ m σ H, W m σ H →
  c σ H fun b H1 => if b = true then ∃ N : St → Hp → Prop, (∀ σ' H', N σ' H' → ∃ m', m' < m ∧ W m' σ' H') ∧ tb { D with nx := N, ct := N, bk := D.nx } σ H1 else D.nx σ H1
theorem ps_while {c : Expr} {body : List Stmt} {tc : TT} {tb : TS} (hp : PassesOwn (model X.prog X.w) X.A X.env X.xe) (hc : PT X c tc) (hb : PSs X body tb) : PS X (.While c body [] pos) (tWhile tc tb) := by
  intro pins s σ H D I h
  obtain ⟨W, ⟨m0, w0⟩, turn⟩ := h
  refine wpAny_While (codeAny_whileLoop (fun n s' => ∃ σ' H', Inv X pins σ' H' s' ∧ W n σ' H') ?_ m0 ⟨σ, H, I, w0⟩)
  rintro n s1 ⟨σ1, H1, I1, w1⟩
  refine wpAny_passesOwn hp (thn (hc pins s1 σ1 H1 _ I1 (turn n σ1 H1 w1)) fun b s2 ⟨H2, I2, q2⟩ => ?_)
  cases b with
  | true =>
    obtain ⟨N, hN, q2⟩ := q2
    rw [if_pos rfl]
    refine wpAny_passesOwn hp (thn (hb pins s2 σ1 H2 _ I2 q2) fun f s3 q3 => ?_)
    cases f with
    | next =>
      obtain ⟨σ3, H3, I3, n3⟩ := q3
      obtain ⟨m', hm, w3⟩ := hN σ3 H3 n3
      exact ⟨m', hm, σ3, H3, I3, w3⟩
    | cont =>
      obtain ⟨σ3, H3, I3, n3⟩ := q3
      obtain ⟨m', hm, w3⟩ := hN σ3 H3 n3
      exact ⟨m', hm, σ3, H3, I3, w3⟩
    | brk => exact q3
    | ret v => exact q3
  | false =>
    rw [if_neg Bool.false_ne_true]
    exact wpAny_execs_nil ⟨σ1, H2, I2, q2⟩
end
structure It where
  go : Nat → Hp → Prop
  yld : Nat → Hp → V → Hp → Prop
  stop : Nat → Hp → Prop
def FpOk (X : Cx) (pins : List (Addr × Obj)) (H : Hp) (b : Addr) : Prop :=
  H b = none ∧ b ≠ X.env.locals ∧ b ∉ X.fs ∧ (b ∈ X.ex ∨ X.s₀.heap.objs.size ≤ b) ∧ (∀ x c, X.env.cells.lookup x = some c → c ≠ b) ∧ ∀ p ∈ X.pn ++ pins, p.1 ≠ b
theorem Inv.fpOk {X : Cx} {pins : List (Addr × Obj)} {σ : St} {H H' : Hp} {s : Shared} {b : Addr} (I : Inv X pins σ H s) (hb : s.heap.objs.size ≤ b) (hn : H' b = none) : FpOk X pins H' b := by
  refine ⟨hn, Nat.ne_of_gt (Nat.lt_of_lt_of_le I.lt hb), I.nofs hb, .inr (Nat.le_trans I.sz hb), fun x c e z => ?_, fun p hp z => ?_⟩
  · obtain ⟨v, q⟩ := I.cell x c e
    exact absurd (Nat.lt_of_lt_of_le q.lt (by rw [z]; exact hb)) (Nat.lt_irrefl _)
  · exact absurd (Nat.lt_of_lt_of_le (Heap.lt_size (I.pin p hp).1) (by rw [z]; exact hb)) (Nat.lt_irrefl _)
structure Turn (P : Program) (w : World) (K : PySem.W.Frag) (tg : Expr) (J : It) (fp : List Addr) (it : Addr) (tn : Nat → Heap → Prop) : Prop where
  mem : it ∈ fp
  obj : ∀ i h, tn i h → ∀ b ∈ fp, ∃ o, h.get? b = some o ∧ ∀ v, o.data ≠ .cell v
  keep : ∀ i h h', tn i h → (∀ b ∈ fp, ∀ o, h.get? b = some o → h'.get? b = some o) → tn i h'
  item : ∀ (X : Cx), X.prog = P → X.w = w → X.K = K → X.calm = true → ∀ (i : Nat) (pins : List (Addr × Obj)) (s : Shared) (σ : St) (H : Hp) (E : Value → Shared → Prop), Inv X pins σ H s → (∀ b ∈ fp, FpOk X pins H b) → tn i s.heap → J.go i H →
    wpAny (model P w) X.A (pyNext (.ref it)) (fun r s1 => ∃ u, r = some u ∧
      wpAny (model P w) X.A (letOwnedTupleGo tg (.ref it) u) (fun _ s2 => ∃ x H', Inv X pins σ H' s2 ∧ RelV x u ∧ J.yld i H x H' ∧ tn (i + 1) s2.heap ∧ ∀ b ∈ fp, H' b = none) E s1) E s
  done : ∀ (X : Cx), X.prog = P → X.w = w → X.K = K → X.calm = true → ∀ (i : Nat) (pins : List (Addr × Obj)) (s : Shared) (σ : St) (H : Hp) (E : Value → Shared → Prop), Inv X pins σ H s → (∀ b ∈ fp, FpOk X pins H b) → tn i s.heap → J.stop i H →
    wpAny (model P w) X.A (pyNext (.ref it)) (fun r s1 => r = none ∧ Inv X pins σ H s1) E s
  self : ∀ (A : Around) (i : Nat) (s : Shared) (Q : Value → Shared → Prop) (E : Value → Shared → Prop), tn i s.heap → Q (.ref it) s → wpAny (model P w) A (pyIter (.ref it)) Q E s
abbrev TI := St → Hp → (It → Hp → Prop) → Prop
def PIE (X : Cx) (pins : List (Addr × Obj)) (σ : St) (tg : Expr) (R : It → Hp → Prop) (itv : Value) (s2 : Shared) : Prop :=
  ∃ (it : Addr) (fp : List Addr) (tn : Nat → Heap → Prop) (J : It) (H' : Hp), itv = .ref it ∧ Inv X pins σ H' s2 ∧ Turn X.prog X.w X.K tg J fp it tn ∧ tn 0 s2.heap ∧ (∀ b ∈ fp, FpOk X pins H' b) ∧ R J H'
def PI (X : Cx) (tg iter : Expr) (wi : TI) : Prop :=
  ∀ (pins : List (Addr × Obj)) (s : Shared) (σ : St) (H : Hp) (R : It → Hp → Prop), Inv X pins σ H s → wi σ H R →
    wpAny (model X.prog X.w) X.A (eval iter X.env) (fun v s1 => wpAny (model X.prog X.w) X.A (pyIter v) (PIE X pins σ tg R) X.xe s1) X.xe s
theorem go_of {M : Model} {A : Around} {E : Value → Shared → Prop} {s : Shared} {tg : Expr} {it : Addr} {u : Value} {o : Obj} {n : String} {vs : Array Value} {Q : Unit → Shared → Prop} (ho : s.heap.get? it = some o) (hc : o.cls = .type n) (hd : o.data = .fields vs)
    (hn : ["enumerate", "zip", "dict_itemiterator", "dict_reverseitemiterator", "odict_iterator", "itertools.zip_longest", "itertools.pairwise"].contains n = false) (hQ : Q () s) : wpAny M A (letOwnedTupleGo tg (.ref it) u) Q E s := by
  unfold letOwnedTupleGo
  cases tg <;> first
    | exact wpAny_pure hQ
    | (cases u <;> first
        | exact wpAny_pure hQ
        | (refine wpAny_bind (wpAny_load ho ?_)
           rw [hc, hd]
           show wpAny M A (if (["enumerate", "zip", "dict_itemiterator", "dict_reverseitemiterator", "odict_iterator", "itertools.zip_longest", "itertools.pairwise"].contains n && vs[0]? == some (rawInt _)) = true then _ else _) Q E s
           rw [if_neg (by intro h; rw [hn, Bool.false_and] at h; cases h)]
           exact wpAny_pure hQ))
def Itl (K : PySem.W.Frag) (a : Addr) : It :=
  ⟨fun i H => ∃ xs x, SqL K H a xs ∧ xs[i]? = some x, fun i H x H' => H' = H ∧ ∀ xs, SqL K H a xs → xs[i]? = some x, fun i H => ∃ xs, SqL K H a xs ∧ xs.length ≤ i⟩
def Itt (K : PySem.W.Frag) (a : Addr) : It :=
  ⟨fun i H => ∃ xs x, SqT K H a xs ∧ xs[i]? = some x, fun i H x H' => H' = H ∧ ∀ xs, SqT K H a xs → xs[i]? = some x, fun i H => ∃ xs, SqT K H a xs ∧ xs.length ≤ i⟩
def Itr (lo : Int) (n : Nat) : It := ⟨fun i _ => i < n, fun i H x H' => H' = H ∧ x = .int (lo + i), fun i _ => n ≤ i⟩
theorem turn_list {P : Program} {w : World} {K : PySem.W.Frag} {tg : Expr} (a it : Addr) : Turn P w K tg (Itl K a) [it] it (fun i h => h.IsListIter it a i) where
  mem := by simp
  obj := fun i h st b hb => by
    have e : b = it := by simpa using hb
    subst e
    obtain ⟨o, e, c, d⟩ := st
    exact ⟨o, e, fun v z => by rw [d] at z; cases z⟩
  keep := fun i h h' st k => st.at fun o e => k it (by simp) o e
  item := by
    intro X hP hw hK hc i pins s σ H E I hf st hg
    subst hP hw hK
    obtain ⟨xs, x, hq, hx⟩ := hg
    obtain ⟨its, rv, p, hz⟩ := I.list hq
    obtain ⟨u, hu, ru⟩ := rv.get hx
    obtain ⟨f0, f1, f2, f3, f4, f5⟩ := hf it (by simp)
    refine wpAny_pyNext_list_item st p.isList (x := u) (by simpa using hu) fun h' st' sb => ?_
    have I1 : Inv X pins σ H { s with heap := h' } := I.turned (t' := s.toks) (fun b o hb e => (sb.2 b hb).trans e) f0 f1 f3 f4 f5
    obtain ⟨o, e, c, d⟩ := id st'
    exact ⟨u, rfl, go_of (s := { s with heap := h' }) e c d (by decide) ⟨x, H, I1, ru, ⟨rfl, fun ys hy => by rw [I.list_inj hy hq]; exact hx⟩, st', fun b hb => (hf b hb).1⟩⟩
  done := by
    intro X hP hw hK hc i pins s σ H E I hf st hg
    subst hP hw hK
    obtain ⟨xs, hq, hx⟩ := hg
    obtain ⟨its, rv, p, hz⟩ := I.list hq
    obtain ⟨f0, f1, f2, f3, f4, f5⟩ := hf it (by simp)
    have hl := rv.length
    exact wpAny_pyNext_list_end (I.ok.hd hc) st p.isList (by simp; omega) fun h' eb => ⟨rfl, I.turned (t' := s.toks) (fun b o hb e => eb b o hb e) f0 f1 f3 f4 f5⟩
  self := fun _ _ _ _ _ st h => wpAny_pyIter_listiter st h
theorem turn_tuple {P : Program} {w : World} {K : PySem.W.Frag} {tg : Expr} (a it : Addr) : Turn P w K tg (Itt K a) [it] it (fun i h => h.IsTupleIter it a i) where
  mem := by simp
  obj := fun i h st b hb => by
    have e : b = it := by simpa using hb
    subst e
    obtain ⟨o, e, c, d⟩ := st
    exact ⟨o, e, fun v z => by rw [d] at z; cases z⟩
  keep := fun i h h' st k => st.at fun o e => k it (by simp) o e
  item := by
    intro X hP hw hK hc i pins s σ H E I hf st hg
    subst hP hw hK
    obtain ⟨xs, x, hq, hx⟩ := hg
    obtain ⟨its, rv, p, hz⟩ := I.tuple hq
    obtain ⟨u, hu, ru⟩ := rv.get hx
    obtain ⟨f0, f1, f2, f3, f4, f5⟩ := hf it (by simp)
    refine wpAny_pyNext_tuple_item st (show s.heap.IsTuple a its.toArray from p) (x := u) (by simpa using hu) fun h' st' sb => ?_
    have I1 : Inv X pins σ H { s with heap := h' } := I.turned (t' := s.toks) (fun b o hb e => (sb.2 b hb).trans e) f0 f1 f3 f4 f5
    obtain ⟨o, e, c, d⟩ := id st'
    exact ⟨u, rfl, go_of (s := { s with heap := h' }) e c d (by decide) ⟨x, H, I1, ru, ⟨rfl, fun ys hy => by rw [I.tuple_inj hy hq]; exact hx⟩, st', fun b hb => (hf b hb).1⟩⟩
  done := by
    intro X hP hw hK hc i pins s σ H E I hf st hg
    subst hP hw hK
    obtain ⟨xs, hq, hx⟩ := hg
    obtain ⟨its, rv, p, hz⟩ := I.tuple hq
    obtain ⟨f0, f1, f2, f3, f4, f5⟩ := hf it (by simp)
    have hl := rv.length
    exact wpAny_pyNext_tuple_end (I.ok.hd hc) st (show s.heap.IsTuple a its.toArray from p) (by simp; omega) fun h' eb => ⟨rfl, I.turned (t' := s.toks) (fun b o hb e => eb b o hb e) f0 f1 f3 f4 f5⟩
  self := fun _ _ _ _ _ st h => wpAny_pyIter_tupleiter st h
theorem turn_range {P : Program} {w : World} {K : PySem.W.Frag} {tg : Expr} (it : Addr) (lo : Int) (n : Nat) : Turn P w K tg (Itr lo n) [it] it (fun i h => IsRangeIter h it (lo + (i : Nat) * 1) ((n : Int) - (i : Nat)) 1) where
  mem := by simp
  obj := fun i h st b hb => by
    have e : b = it := by simpa using hb
    subst e
    exact ⟨_, st, fun v z => by
      have z' : Data.fields _ = Data.cell v := z
      cases z'⟩
  keep := fun i h h' st k => k it (by simp) _ st
  item := by
    intro X hP hw hK hc i pins s σ H E I hf st hg
    subst hP hw hK
    obtain ⟨f0, f1, f2, f3, f4, f5⟩ := hf it (by simp)
    have W := Walks.range (prog := X.prog) (w := X.w) (I.ok.hd hc) it lo 1 n
    refine W.item i s _ _ hg st fun v h' tk hv st' kk => ?_
    obtain ⟨t, rfl⟩ := hv
    have I1 : Inv X pins σ H { s with heap := h', toks := tk } := I.turned (fun b o hb e => kk b o (by simpa using hb) e) f0 f1 f3 f4 f5
    refine ⟨_, rfl, go_of (s := { s with heap := h', toks := tk }) (n := "range_iterator") st' rfl rfl (by decide) ⟨.int (lo + i), H, I1, ⟨t, ?_⟩, ⟨rfl, rfl⟩, st', fun b hb => (hf b hb).1⟩⟩
    rw [Int.mul_one]
  done := by
    intro X hP hw hK hc i pins s σ H E I hf st hg
    subst hP hw hK
    obtain ⟨f0, f1, f2, f3, f4, f5⟩ := hf it (by simp)
    exact wpAny_pyNext_range_end (I.ok.hd hc) st (by have : n ≤ i := hg; omega) fun h' eb => ⟨rfl, I.turned (t' := s.toks) (fun b o hb e => eb b o hb e) f0 f1 f3 f4 f5⟩
  self := fun _ _ _ _ _ st h => wpAny_pyIter_rangeiter st h
end L2
namespace L2
open PySem PySem.Spec PyProof.Rows
section
variable {X : Cx} {tg : Expr}
def iList (K : PySem.W.Frag) (tl : TE) : TI := fun σ H R => tl σ H fun x H1 => ∃ a, x = .ref a ∧ (∃ xs, SqL K H1 a xs) ∧ R (Itl K a) H1
def iTup (K : PySem.W.Frag) (tl : TE) : TI := fun σ H R => tl σ H fun x H1 => ∃ a, x = .ref a ∧ (∃ xs, SqT K H1 a xs) ∧ R (Itt K a) H1
theorem pi_list {l : Expr} {tl : TE} (hl : PE X l tl) : PI X tg l (iList X.K tl) := by
  intro pins s σ H R I h
  refine thn (hl pins s σ H _ I h) fun v s1 ⟨x, H1, I1, r1, q1⟩ => ?_
  obtain ⟨a, e, ⟨xs, hq⟩, q⟩ := q1
  subst e
  cases r1
  obtain ⟨its, rv, p, hz⟩ := I1.list hq
  refine wpAny_pyIter_list p.isList ?_
  refine ⟨s1.heap.objs.size, [s1.heap.objs.size], _, _, H1, rfl, I1.kept (t' := s1.toks) fun b o e => Heap.get?_push_of_some _ e, turn_list a _, ⟨_, Heap.get?_push_size _ rfl, rfl, rfl⟩, fun b hb => ?_, q⟩
  have e : b = s1.heap.objs.size := by simpa using hb
  subst e
  exact I1.fpOk (Nat.le_refl _) (I1.hok.fresh (Nat.le_refl _))
theorem pi_tup {l : Expr} {tl : TE} (hl : PE X l tl) : PI X tg l (iTup X.K tl) := by
  intro pins s σ H R I h
  refine thn (hl pins s σ H _ I h) fun v s1 ⟨x, H1, I1, r1, q1⟩ => ?_
  obtain ⟨a, e, ⟨xs, hq⟩, q⟩ := q1
  subst e
  cases r1
  obtain ⟨its, rv, p, hz⟩ := I1.tuple hq
  refine wpAny_pyIter_tuple (show s1.heap.IsTuple a its.toArray from p) ?_
  refine ⟨s1.heap.objs.size, [s1.heap.objs.size], _, _, H1, rfl, I1.kept (t' := s1.toks) fun b o e => Heap.get?_push_of_some _ e, turn_tuple a _, ⟨_, Heap.get?_push_size _ rfl, rfl, rfl⟩, fun b hb => ?_, q⟩
  have e : b = s1.heap.objs.size := by simpa using hb
  subst e
  exact I1.fpOk (Nat.le_refl _) (I1.hok.fresh (Nat.le_refl _))
theorem range_it {pins : List (Addr × Obj)} {σ : St} {H : Hp} {s : Shared} {R : It → Hp → Prop} {E : Value → Shared → Prop} {lo hi : Int} {t u v : Tok} {tk : Nat} (I : Inv X pins σ H s) (h1 : -(2 ^ 62) ≤ lo) (h2 : lo < 2 ^ 62) (h3 : -(2 ^ 62) ≤ hi) (h4 : hi < 2 ^ 62)
    (q : R (Itr lo (hi - lo).toNat) H) : wpAny (model X.prog X.w) X.A (pyIter (.ref s.heap.objs.size)) (PIE X pins σ tg R) E { s with heap := s.heap.push { cls := .type "range", data := .fields #[.int lo t, .int hi u, .int 1 v] }, toks := tk } := by
  refine wpAny_pyIter_range (IsRange.new ..) (small_one h1 h2 h3 h4) ?_
  have I1 : Inv X pins σ H { s with heap := s.heap.push { cls := .type "range", data := .fields #[.int lo t, .int hi u, .int 1 v] }, toks := tk } := I.kept fun b o e => Heap.get?_push_of_some _ e
  refine ⟨(s.heap.push { cls := .type "range", data := .fields #[.int lo t, .int hi u, .int 1 v] }).objs.size, [(s.heap.push { cls := .type "range", data := .fields #[.int lo t, .int hi u, .int 1 v] }).objs.size], _, _, H, rfl,
    I1.kept (t' := tk) fun b o e => Heap.get?_push_of_some _ e, turn_range _ lo (hi - lo).toNat, ?_, fun b hb => ?_, q⟩
  · have e1 : lo + ((0 : Nat) : Int) * 1 = lo := by simp
    have e2 : (((hi - lo).toNat : Nat) : Int) - ((0 : Nat) : Int) = Builtin.Range.rangeSize lo hi 1 := by rw [rangeSize_one]; split <;> omega
    show IsRangeIter _ _ (lo + ((0 : Nat) : Int) * 1) ((((hi - lo).toNat : Nat) : Int) - ((0 : Nat) : Int)) 1
    rw [e1, e2]
    exact Heap.get?_push_size _ rfl
  · have e : b = (s.heap.push { cls := .type "range", data := .fields #[.int lo t, .int hi u, .int 1 v] }).objs.size := by simpa using hb
    subst e
    exact I1.fpOk (Nat.le_refl _) (I1.hok.fresh (Nat.le_refl _))
def iRng1 (ta : TA) : TI := fun σ H R => ta σ H fun vs H1 => ∃ j : Int, vs = [.int j] ∧ -(2 ^ 62) ≤ j ∧ j < 2 ^ 62 ∧ R (Itr 0 j.toNat) H1
theorem pi_range1 {a : Expr} {ta : TA} {p pos : Pos} (hg : Gl X "range") (hm : X.mg "range" = none) (ha : PA X [a] ta) (hs : starEach [a] X.env = [(false, eval a X.env)] := by rfl) : PI X tg (.Call (.Name "range" p) [a] [] pos) (iRng1 ta) := by
  intro pins s σ H R I h
  refine Call_ (ld_blt I hg hm boot_range (PyProof.Rows.callWith_type1 (thn (ha pos pins s σ H _ I h) fun us s1 ⟨vs, H1, I1, r1, q1⟩ => ?_) hs rfl))
  obtain ⟨j, e, q1, q2, q⟩ := q1
  subst e
  cases r1 with
  | cons r rr =>
    cases rr
    obtain ⟨t, rfl⟩ := r
    exact call_range_1 (range_it I1 (by omega) (by omega) q1 q2 (by simpa using q))
def tFor (wi : TI) (g : TG) (tb : TS) : TS := fun D σ H => wi σ H fun J H1 => ∃ W : Nat → Nat → St → Hp → Prop, (∃ m, W 0 m σ H1) ∧ ∀ i m σ H, W i m σ H →
  (J.stop i H ∧ D.nx σ H) ∨ (J.go i H ∧ ∃ N : St → Hp → Prop, (∀ σ' H', N σ' H' → ∃ m', m' < m ∧ W (i + 1) m' σ' H') ∧ ∀ x H', J.yld i H x H' → g x σ H' fun σ2 H2 => tb { D with nx := N, ct := N, bk := D.nx } σ2 H2)
def pinsAt (fp : List Addr) (h : Heap) : List (Addr × Obj) := fp.filterMap fun b => (h.get? b).map fun o => (b, o)
theorem mem_pinsAt {fp : List Addr} {h : Heap} {b : Addr} {o : Obj} (hb : b ∈ fp) (e : h.get? b = some o) : (b, o) ∈ pinsAt fp h := List.mem_filterMap.mpr ⟨b, hb, by rw [e]; rfl⟩
theorem of_pinsAt {fp : List Addr} {h : Heap} {p : Addr × Obj} (hp : p ∈ pinsAt fp h) : p.1 ∈ fp ∧ h.get? p.1 = some p.2 := by
  obtain ⟨b, hb, e⟩ := List.mem_filterMap.mp hp
  cases q : h.get? b with
  | none => rw [q] at e; cases e
  | some o =>
    rw [q] at e
    have e' : (b, o) = p := Option.some.inj e
    subst e'
    exact ⟨hb, q⟩
theorem Inv.pinned {pins : List (Addr × Obj)} {σ : St} {H : Hp} {s : Shared} {fp : List Addr} (I : Inv X pins σ H s) (hf : ∀ b ∈ fp, FpOk X pins H b) (ho : ∀ b ∈ fp, ∃ o, s.heap.get? b = some o ∧ ∀ v, o.data ≠ .cell v) : Inv X (pins ++ pinsAt fp s.heap) σ H s :=
  I.pins_of fun p hp => (List.mem_append.mp hp).elim (fun z => I.pin p (List.mem_append_right _ z)) fun z => by
    obtain ⟨hb, e⟩ := of_pinsAt z
    obtain ⟨f0, f1, f2, _⟩ := hf p.1 hb
    obtain ⟨o, e', d⟩ := ho p.1 hb
    rw [e] at e'; cases e'
    exact ⟨e, f0, f1, f2, d⟩
theorem Inv.unpinned {pins pl : List (Addr × Obj)} {σ : St} {H : Hp} {s : Shared} (I : Inv X (pins ++ pl) σ H s) : Inv X pins σ H s := I.pins_of fun p hp => I.pin p (List.mem_append_right _ (List.mem_append_left _ hp))
theorem ps_for {iter : Expr} {body : List Stmt} {wi : TI} {g : TG} {tb : TS} {pos : Pos} (hp : PassesOwn (model X.prog X.w) X.A X.env X.xe) (hc : X.calm = true) (hi : PI X tg iter wi) (hg : PG X tg g) (hb : PSs X body tb)
    (hs : ∀ x, foldedSetIterable iter X.env x = pure x := by intro _; rfl) : PS X (.For tg iter body [] pos) (tFor wi g tb) := by
  intro pins s σ H D I h
  refine wpAny_For (thn (hi pins s σ H _ I h) fun v s1 h1 => thn h1 fun itv s2 h2 => ?_) hs
  obtain ⟨it, fp, tn, J, H2, e, I2, T, st2, f2, W, ⟨m0, w0⟩, turn⟩ := h2
  subst e
  have stat : ∀ {H' : Hp}, (∀ b ∈ fp, H' b = none) → ∀ b ∈ fp, FpOk X pins H' b := fun hn b hb => ⟨hn b hb, (f2 b hb).2⟩
  refine codeAny_forLoop_any (fun n s' => ∃ i σ' H', Inv X pins σ' H' s' ∧ tn i s'.heap ∧ (∀ b ∈ fp, H' b = none) ∧ W i n σ' H') ?_ m0 ⟨0, σ, H2, I2, st2, fun b hb => (f2 b hb).1, w0⟩
  rintro n s3 ⟨i, σ3, H3, I3, st3, fr3, w3⟩
  rcases turn i n σ3 H3 w3 with ⟨stop, qn⟩ | ⟨go, N, hN, step⟩
  · refine wpAny_passesOwn hp (thn (T.done X rfl rfl rfl hc i pins s3 σ3 H3 X.xe I3 (stat fr3) st3 stop) fun r s4 ⟨hr, I4⟩ => ?_)
    subst hr
    exact wpAny_execs_nil ⟨σ3, H3, I4, qn⟩
  · refine wpAny_passesOwn hp (thn (T.item X rfl rfl rfl hc i pins s3 σ3 H3 X.xe I3 (stat fr3) st3 go) fun r s4 ⟨u, hr, h4⟩ => ?_)
    subst hr
    refine wpAny_passesOwn hp (thn h4 fun _ s5 ⟨x, H5, I5, r5, y5, st5, fr5⟩ => ?_)
    have I5' := I5.pinned (stat fr5) (T.obj _ _ st5)
    refine wpAny_passesOwn hp (thn (hg _ s5 σ3 H5 x u _ I5' r5 (step x H5 y5)) fun _ s6 ⟨σ6, H6, I6, q6⟩ => ?_)
    refine wpAny_passesOwn hp (thn (hb _ s6 σ6 H6 _ I6 q6) fun f s7 q7 => ?_)
    have again : ∀ {σ7 : St} {H7 : Hp}, Inv X (pins ++ pinsAt fp s5.heap) σ7 H7 s7 → N σ7 H7 → ∃ m, m < n ∧ ∃ i σ' H', Inv X pins σ' H' s7 ∧ tn i s7.heap ∧ (∀ b ∈ fp, H' b = none) ∧ W i m σ' H' := fun {σ7 H7} I7 n7 => by
      obtain ⟨m', hm, w7⟩ := hN σ7 H7 n7
      refine ⟨m', hm, i + 1, σ7, H7, I7.unpinned, T.keep _ _ _ st5 fun b hb o e => (I7.pin (b, o) (List.mem_append_right _ (List.mem_append_right _ (mem_pinsAt hb e)))).1, fun b hb => ?_, w7⟩
      obtain ⟨o, e, d⟩ := T.obj _ _ st5 b hb
      exact (I7.pin (b, o) (List.mem_append_right _ (List.mem_append_right _ (mem_pinsAt hb e)))).2.1
    cases f with
    | next => obtain ⟨σ7, H7, I7, n7⟩ := q7; exact again I7 n7
    | cont => obtain ⟨σ7, H7, I7, n7⟩ := q7; exact again I7 n7
    | brk => obtain ⟨σ7, H7, I7, q7⟩ := q7; exact ⟨σ7, H7, I7.unpinned, q7⟩
    | ret v => obtain ⟨x7, σ7, H7, I7, r7, q7⟩ := q7; exact ⟨x7, σ7, H7, I7.unpinned, r7, q7⟩
end
theorem for_list {K : PySem.W.Frag} {a : Addr} {xs : List V} {g : TG} {tb : TS} {D : Ends} {σ : St} {H : Hp} (Pv : Nat → St → Hp → Prop) (h0 : Pv 0 σ H) (hl : ∀ i σ H, i ≤ xs.length → Pv i σ H → SqL K H a xs)
    (hs : ∀ i x σ H, xs[i]? = some x → Pv i σ H → g x σ H fun σ2 H2 => tb { D with nx := Pv (i + 1), ct := Pv (i + 1), bk := D.nx } σ2 H2) (hd : ∀ σ H, Pv xs.length σ H → D.nx σ H) :
    ∃ W : Nat → Nat → St → Hp → Prop, (∃ m, W 0 m σ H) ∧ ∀ i m σ H, W i m σ H →
      ((Itl K a).stop i H ∧ D.nx σ H) ∨ ((Itl K a).go i H ∧ ∃ N : St → Hp → Prop, (∀ σ' H', N σ' H' → ∃ m', m' < m ∧ W (i + 1) m' σ' H') ∧ ∀ x H', (Itl K a).yld i H x H' → g x σ H' fun σ2 H2 => tb { D with nx := N, ct := N, bk := D.nx } σ2 H2) := by
  refine ⟨fun i m σ H => m = xs.length - i ∧ i ≤ xs.length ∧ Pv i σ H, ⟨xs.length, by simp, Nat.zero_le _, h0⟩, ?_⟩
  rintro i m σ H ⟨rfl, hi, p⟩
  have q := hl i σ H hi p
  by_cases hlt : i < xs.length
  · refine .inr ⟨⟨xs, xs[i], q, by simp [hlt]⟩, Pv (i + 1), fun σ' H' p' => ⟨xs.length - (i + 1), by omega, rfl, hlt, p'⟩, fun x H' y => ?_⟩
    obtain ⟨e, y⟩ := y
    subst e
    exact hs i x σ _ (y xs q) p
  · have e : i = xs.length := by omega
    subst e
    exact .inl ⟨⟨xs, q, Nat.le_refl _⟩, hd σ H p⟩
theorem for_tup {K : PySem.W.Frag} {a : Addr} {xs : List V} {g : TG} {tb : TS} {D : Ends} {σ : St} {H : Hp} (Pv : Nat → St → Hp → Prop) (h0 : Pv 0 σ H) (hl : ∀ i σ H, i ≤ xs.length → Pv i σ H → SqT K H a xs)
    (hs : ∀ i x σ H, xs[i]? = some x → Pv i σ H → g x σ H fun σ2 H2 => tb { D with nx := Pv (i + 1), ct := Pv (i + 1), bk := D.nx } σ2 H2) (hd : ∀ σ H, Pv xs.length σ H → D.nx σ H) :
    ∃ W : Nat → Nat → St → Hp → Prop, (∃ m, W 0 m σ H) ∧ ∀ i m σ H, W i m σ H →
      ((Itt K a).stop i H ∧ D.nx σ H) ∨ ((Itt K a).go i H ∧ ∃ N : St → Hp → Prop, (∀ σ' H', N σ' H' → ∃ m', m' < m ∧ W (i + 1) m' σ' H') ∧ ∀ x H', (Itt K a).yld i H x H' → g x σ H' fun σ2 H2 => tb { D with nx := N, ct := N, bk := D.nx } σ2 H2) := by
  refine ⟨fun i m σ H => m = xs.length - i ∧ i ≤ xs.length ∧ Pv i σ H, ⟨xs.length, by simp, Nat.zero_le _, h0⟩, ?_⟩
  rintro i m σ H ⟨rfl, hi, p⟩
  have q := hl i σ H hi p
  by_cases hlt : i < xs.length
  · refine .inr ⟨⟨xs, xs[i], q, by simp [hlt]⟩, Pv (i + 1), fun σ' H' p' => ⟨xs.length - (i + 1), by omega, rfl, hlt, p'⟩, fun x H' y => ?_⟩
    obtain ⟨e, y⟩ := y
    subst e
    exact hs i x σ _ (y xs q) p
  · have e : i = xs.length := by omega
    subst e
    exact .inl ⟨⟨xs, q, Nat.le_refl _⟩, hd σ H p⟩
theorem for_range {lo : Int} {n : Nat} {g : TG} {tb : TS} {D : Ends} {σ : St} {H : Hp} (Pv : Nat → St → Hp → Prop) (h0 : Pv 0 σ H)
    (hs : ∀ i σ H, i < n → Pv i σ H → g (.int (lo + i)) σ H fun σ2 H2 => tb { D with nx := Pv (i + 1), ct := Pv (i + 1), bk := D.nx } σ2 H2) (hd : ∀ σ H, Pv n σ H → D.nx σ H) :
    ∃ W : Nat → Nat → St → Hp → Prop, (∃ m, W 0 m σ H) ∧ ∀ i m σ H, W i m σ H →
      ((Itr lo n).stop i H ∧ D.nx σ H) ∨ ((Itr lo n).go i H ∧ ∃ N : St → Hp → Prop, (∀ σ' H', N σ' H' → ∃ m', m' < m ∧ W (i + 1) m' σ' H') ∧ ∀ x H', (Itr lo n).yld i H x H' → g x σ H' fun σ2 H2 => tb { D with nx := N, ct := N, bk := D.nx } σ2 H2) := by
  refine ⟨fun i m σ H => m = n - i ∧ i ≤ n ∧ Pv i σ H, ⟨n, by simp, Nat.zero_le _, h0⟩, ?_⟩
  rintro i m σ H ⟨rfl, hi, p⟩
  by_cases hlt : i < n
  · refine .inr ⟨hlt, Pv (i + 1), fun σ' H' p' => ⟨n - (i + 1), by omega, rfl, hlt, p'⟩, fun x H' y => ?_⟩
    obtain ⟨e, y⟩ := y
    subst e y
    exact hs i σ _ hlt p
  · have e : i = n := by omega
    subst e
    exact .inl ⟨Nat.le_refl _, hd σ H p⟩
end L2
namespace L2
open PySem PySem.Spec PyProof.Rows
abbrev R2 := V → V → Hp → VK → Prop
def OpR (X : Cx) (f : Value → Value → Sem Value) (r : R2) : Prop :=
  ∀ (pins : List (Addr × Obj)) (s : Shared) (σ : St) (H : Hp) (x y : V) (v u : Value) (Q : VK), Inv X pins σ H s → RelV x v → RelV y u → r x y H Q →
    wpAny (model X.prog X.w) X.A (f v u) (EP X pins σ Q) X.xe s
def UnR (X : Cx) (f : Value → Sem Value) (r : V → Hp → VK → Prop) : Prop :=
  ∀ (pins : List (Addr × Obj)) (s : Shared) (σ : St) (H : Hp) (x : V) (v : Value) (Q : VK), Inv X pins σ H s → RelV x v → r x H Q →
    wpAny (model X.prog X.w) X.A (f v) (EP X pins σ Q) X.xe s
def CallR (X : Cx) (f : Value) (r : List V → Hp → VK → Prop) : Prop :=
  ∀ (pins : List (Addr × Obj)) (s : Shared) (σ : St) (H : Hp) (xs : List V) (us : List Value) (Q : VK), Inv X pins σ H s → Vals xs us → r xs H Q →
    wpAny (model X.prog X.w) X.A (call f us) (EP X pins σ Q) X.xe s
def tOp (r : R2) (ta tb : TE) : TE := fun σ H Q => ta σ H fun x H1 => tb σ H1 fun y H2 => r x y H2 Q
def tUn (r : V → Hp → VK → Prop) (ta : TE) : TE := fun σ H Q => ta σ H fun x H1 => r x H1 Q
def rI (C : Int → Int → Prop) (g : Int → Int → V) : R2 := fun x y H Q => ∃ i j, x = .int i ∧ y = .int j ∧ C i j ∧ Q (g i j) H
def rI0 (g : Int → Int → V) : R2 := fun x y H Q => ∃ i j, x = .int i ∧ y = .int j ∧ Q (g i j) H
def rU (g : Int → V) : V → Hp → VK → Prop := fun x H Q => ∃ i, x = .int i ∧ Q (g i) H
section
variable {X : Cx} {a b c : Expr} {ta tb tc : TE} {pos : Pos}
theorem binT (ha : PE X a ta) (hb : PE X b tb) {pins : List (Addr × Obj)} {s : Shared} {σ : St} {H : Hp} {R : V → V → Hp → Prop} (I : Inv X pins σ H s)
    (h : ta σ H fun x H1 => tb σ H1 fun y H2 => R x y H2) {Q : Value → Shared → Prop} {f : Value → Value → Sem Value}
    (hf : ∀ v u s2 x y H2, Inv X pins σ H2 s2 → RelV x v → RelV y u → R x y H2 → wpAny (model X.prog X.w) X.A (f v u) Q X.xe s2) :
    wpAny (model X.prog X.w) X.A (eval a X.env) (fun v s₁ => wpAny (model X.prog X.w) X.A (eval b X.env) (fun u s₂ => wpAny (model X.prog X.w) X.A (f v u) Q X.xe s₂) X.xe s₁) X.xe s := by
  refine thn (ha pins s σ H _ I h) fun v s1 ⟨x, H1, I1, r1, q1⟩ => ?_
  refine thn (hb pins s1 σ H1 _ I1 q1) fun u s2 ⟨y, H2, I2, r2, q2⟩ => ?_
  exact hf v u s2 x y H2 I2 r1 r2 q2
theorem pe_op {op : Operator} {r : R2} (ho : OpR X (binaryOp op) r) (ha : PE X a ta) (hb : PE X b tb) : PE X (.BinOp a op b pos) (tOp r ta tb) := by
  intro pins s σ H Q I h
  exact wpAny_BinOp (binT ha hb I h fun v u s2 x y H2 I2 rx ry q => ho pins s2 σ H2 x y v u Q I2 rx ry q)
theorem pe_un {op : UnaryOp} {r : V → Hp → VK → Prop} (ho : UnR X (unaryOp op) r) (ha : PE X a ta) : PE X (.UnaryOp op a pos) (tUn r ta) := by
  intro pins s σ H Q I h
  exact UnaryOp_ (thn (ha pins s σ H _ I h) fun v s1 ⟨x, H1, I1, r1, q1⟩ => ho pins s1 σ H1 x v Q I1 r1 q1)
theorem opI {f : Value → Value → Sem Value} {C : Int → Int → Prop} {g : Int → Int → Int}
    (rule : ∀ (i j : Int) (t u : Tok) (s : Shared) (Q : Value → Shared → Prop) (E : Value → Shared → Prop), C i j → Q (.int (g i j) s.toks) { s with toks := s.toks + 1 } → wpAny (model X.prog X.w) X.A (f (.int i t) (.int j u)) Q E s) :
    OpR X f (rI C fun i j => .int (g i j)) := by
  intro pins s σ H x y v u Q I rx ry h
  obtain ⟨i, j, rfl, rfl, hc, q⟩ := h
  obtain ⟨t, rfl⟩ := rx
  obtain ⟨t', rfl⟩ := ry
  exact rule i j t t' s _ _ hc ⟨.int (g i j), H, I.tok _, ⟨_, rfl⟩, q⟩
theorem opI0 {f : Value → Value → Sem Value} {g : Int → Int → Int}
    (rule : ∀ (i j : Int) (t u : Tok) (s : Shared) (Q : Value → Shared → Prop) (E : Value → Shared → Prop), Q (.int (g i j) s.toks) { s with toks := s.toks + 1 } → wpAny (model X.prog X.w) X.A (f (.int i t) (.int j u)) Q E s) :
    OpR X f (rI0 fun i j => .int (g i j)) := by
  intro pins s σ H x y v u Q I rx ry h
  obtain ⟨i, j, rfl, rfl, q⟩ := h
  obtain ⟨t, rfl⟩ := rx
  obtain ⟨t', rfl⟩ := ry
  exact rule i j t t' s _ _ ⟨.int (g i j), H, I.tok _, ⟨_, rfl⟩, q⟩
theorem opB0 {f : Value → Value → Sem Value} {g : Int → Int → Bool}
    (rule : ∀ (i j : Int) (t u : Tok) (s : Shared) (Q : Value → Shared → Prop) (E : Value → Shared → Prop), Q (.bool (g i j)) s → wpAny (model X.prog X.w) X.A (f (.int i t) (.int j u)) Q E s) :
    OpR X f (rI0 fun i j => .bl (g i j)) := by
  intro pins s σ H x y v u Q I rx ry h
  obtain ⟨i, j, rfl, rfl, q⟩ := h
  obtain ⟨t, rfl⟩ := rx
  obtain ⟨t', rfl⟩ := ry
  exact rule i j t t' s _ _ ⟨.bl (g i j), H, I, rfl, q⟩
def CDiv (i j : Int) : Prop := 0 < j ∧ j < 1073741824
def CPow (i j : Int) : Prop := 0 ≤ j ∧ j ≤ 1000000 ∧ i.natAbs < 2 ^ 64
def CMul (i j : Int) : Prop := (-(2 ^ 64) < i ∧ i < 2 ^ 64) ∨ (-(2 ^ 64) < j ∧ j < 2 ^ 64)
theorem CMul.ok {i j : Int} (h : CMul i j) : IntMulOk i j := by
  rcases h with ⟨h1, h2⟩ | ⟨h1, h2⟩
  · exact .of_left (intBits_le_64 h1 h2)
  · exact .of_right (intBits_le_64 h1 h2)
theorem op_add : OpR X (binaryOp .Add) (rI0 fun i j => .int (i + j)) := opI0 fun _ _ _ _ _ _ _ q => add_int q
theorem op_sub : OpR X (binaryOp .Sub) (rI0 fun i j => .int (i - j)) := opI0 fun _ _ _ _ _ _ _ q => sub_int q
theorem op_mul : OpR X (binaryOp .Mult) (rI CMul fun i j => .int (i * j)) := opI fun _ _ _ _ _ _ _ hc q => mul_int q hc.ok
theorem op_fdiv : OpR X (binaryOp .FloorDiv) (rI CDiv fun i j => .int (i / j)) := opI fun i j _ _ _ _ _ hc q => by
  have h1 : (0 : Int) < j := hc.1
  have h2 : j < 1073741824 := hc.2
  exact floordiv_int (by omega) (by rw [Int.fdiv_eq_ediv_of_nonneg i (by omega)]; exact q) (.inl (PyProof.noPylong_small (by omega)))
theorem op_mod : OpR X (binaryOp .Mod) (rI (fun _ j => 0 < j) fun i j => .int (i % j)) := opI fun i j _ _ _ _ _ hc q => by
  have h1 : (0 : Int) < j := hc
  exact mod_int' (by omega) (by rw [Int.fmod_eq_emod_of_nonneg i (by omega)]; exact q)
theorem op_pow : OpR X (binaryOp .Pow) (rI CPow fun i j => .int (i ^ j.toNat)) := opI fun _ _ _ _ _ _ _ hc q => pow_int_small hc.1 hc.2.1 hc.2.2 q
theorem unI {f : Value → Sem Value} {g : Int → Int}
    (rule : ∀ (i : Int) (t : Tok) (s : Shared) (Q : Value → Shared → Prop) (E : Value → Shared → Prop), Q (.int (g i) s.toks) { s with toks := s.toks + 1 } → wpAny (model X.prog X.w) X.A (f (.int i t)) Q E s) :
    UnR X f (rU fun i => .int (g i)) := by
  intro pins s σ H x v Q I rx h
  obtain ⟨i, rfl, q⟩ := h
  obtain ⟨t, rfl⟩ := rx
  exact rule i t s _ _ ⟨.int (g i), H, I.tok _, ⟨_, rfl⟩, q⟩
theorem un_neg : UnR X (unaryOp .USub) (rU fun i => .int (-i)) := unI fun _ _ _ _ _ q => neg_int q
end
def scal : V → V → Bool
  | .non, .non => true | .non, .int _ => true | .int _, .non => true | .non, .bl _ => true | .bl _, .non => true | .non, .str _ => true | .str _, .non => true
  | .int _, .int _ => true | .bl _, .bl _ => true | .str _, .str _ => true | .byt _, .byt _ => true
  | .int _, .str _ => true | .str _, .int _ => true | .bl _, .str _ => true | .str _, .bl _ => true
  | _, _ => false
def rEq : R2 := fun x y H Q => scal x y = true ∧ Q (.bl (decide (x = y))) H
def rNe : R2 := fun x y H Q => scal x y = true ∧ Q (.bl (!decide (x = y))) H
theorem dec_int {i j : Int} : decide (V.int i = V.int j) = (i == j) := by
  rw [Bool.eq_iff_iff]
  simp
theorem dec_bl {i j : Bool} : decide (V.bl i = V.bl j) = (i == j) := by
  rw [Bool.eq_iff_iff]
  simp
theorem dec_str {i j : Str} : decide (V.str i = V.str j) = (i == j) := by
  rw [Bool.eq_iff_iff]
  simp
theorem dec_byt {i j : Array UInt8} : decide (V.byt i = V.byt j) = (i.toList == j.toList) := by
  rw [Bool.eq_iff_iff]
  cases i
  cases j
  simp
section
variable {X : Cx} {a b c : Expr} {ta tb tc : TE} {pos : Pos}
theorem fin_bl {pins : List (Addr × Obj)} {σ : St} {H : Hp} {s : Shared} {Q : VK} {k k' : Bool} (I : Inv X pins σ H s) (q : Q (.bl k) H) (e : k = k') : EP X pins σ Q (.bool k') s := by
  subst e
  exact ⟨.bl k, H, I, rfl, q⟩
theorem op_eq : OpR X (compareOp .Eq) rEq := by
  intro pins s σ H x y v u Q I rx ry h
  obtain ⟨hs, q⟩ := h
  cases x with
  | non =>
    cases rx
    cases y with
    | non => cases ry; exact PySem.EqNone.eq_none_none (fin_bl I q (by simp))
    | bl j => cases ry; exact PySem.EqNone.eq_none_bool (fin_bl I q (by simp))
    | int j => obtain ⟨t', rfl⟩ := ry; exact PySem.EqNone.eq_none_int (fin_bl I q (by simp))
    | str j => obtain ⟨t', rfl⟩ := ry; exact PySem.EqNone.eq_none_str (fin_bl I q (by simp))
    | _ => exact absurd (show false = true from hs) Bool.false_ne_true
  | bl i =>
    cases rx
    cases y with
    | non => cases ry; exact PySem.EqNone.eq_bool_none (fin_bl I q (by simp))
    | bl j => cases ry; exact eq_bool (fin_bl I q dec_bl)
    | str j => obtain ⟨t', rfl⟩ := ry; exact PySem.EqMixed.eq_bool_str (fin_bl I q (by simp))
    | _ => exact absurd (show false = true from hs) Bool.false_ne_true
  | int i =>
    obtain ⟨t, rfl⟩ := rx
    cases y with
    | non => cases ry; exact PySem.EqNone.eq_int_none (fin_bl I q (by simp))
    | int j => obtain ⟨t', rfl⟩ := ry; exact eq_int (fin_bl I q dec_int)
    | str j => obtain ⟨t', rfl⟩ := ry; exact PySem.EqMixed.eq_int_str (fin_bl I q (by simp))
    | _ => exact absurd (show false = true from hs) Bool.false_ne_true
  | str i =>
    obtain ⟨t, rfl⟩ := rx
    cases y with
    | non => cases ry; exact PySem.EqNone.eq_str_none (fin_bl I q (by simp))
    | bl j => cases ry; exact PySem.EqMixed.eq_str_bool (fin_bl I q (by simp))
    | int j => obtain ⟨t', rfl⟩ := ry; exact PySem.EqMixed.eq_str_int (fin_bl I q (by simp))
    | str j => obtain ⟨t', rfl⟩ := ry; exact eq_str (fin_bl I q dec_str)
    | _ => exact absurd (show false = true from hs) Bool.false_ne_true
  | byt i =>
    obtain ⟨t, rfl⟩ := rx
    cases y with
    | byt j => obtain ⟨t', rfl⟩ := ry; exact PySem.W.eq_bytes (fin_bl I q dec_byt)
    | _ => exact absurd (show false = true from hs) Bool.false_ne_true
  | _ => cases y <;> exact absurd (show false = true from hs) Bool.false_ne_true
theorem op_ne : OpR X (compareOp .NotEq) rNe := by
  intro pins s σ H x y v u Q I rx ry h
  obtain ⟨hs, q⟩ := h
  cases x with
  | non =>
    cases rx
    cases y with
    | non => cases ry; exact PySem.EqNone.ne_none_none (fin_bl I q (by simp))
    | bl j => cases ry; exact PySem.EqNone.ne_none_bool (fin_bl I q (by simp))
    | int j => obtain ⟨t', rfl⟩ := ry; exact PySem.EqNone.ne_none_int (fin_bl I q (by simp))
    | str j => obtain ⟨t', rfl⟩ := ry; exact PySem.EqNone.ne_none_str (fin_bl I q (by simp))
    | _ => exact absurd (show false = true from hs) Bool.false_ne_true
  | bl i =>
    cases rx
    cases y with
    | non => cases ry; exact PySem.EqNone.ne_bool_none (fin_bl I q (by simp))
    | bl j => cases ry; exact ne_bool (fin_bl I q (congrArg not dec_bl))
    | str j => obtain ⟨t', rfl⟩ := ry; exact PySem.EqMixed.ne_bool_str (fin_bl I q (by simp))
    | _ => exact absurd (show false = true from hs) Bool.false_ne_true
  | int i =>
    obtain ⟨t, rfl⟩ := rx
    cases y with
    | non => cases ry; exact PySem.EqNone.ne_int_none (fin_bl I q (by simp))
    | int j => obtain ⟨t', rfl⟩ := ry; exact ne_int (fin_bl I q (congrArg not dec_int))
    | str j => obtain ⟨t', rfl⟩ := ry; exact PySem.EqMixed.ne_int_str (fin_bl I q (by simp))
    | _ => exact absurd (show false = true from hs) Bool.false_ne_true
  | str i =>
    obtain ⟨t, rfl⟩ := rx
    cases y with
    | non => cases ry; exact PySem.EqNone.ne_str_none (fin_bl I q (by simp))
    | bl j => cases ry; exact PySem.EqMixed.ne_str_bool (fin_bl I q (by simp))
    | int j => obtain ⟨t', rfl⟩ := ry; exact PySem.EqMixed.ne_str_int (fin_bl I q (by simp))
    | str j => obtain ⟨t', rfl⟩ := ry; exact ne_str (fin_bl I q (congrArg not dec_str))
    | _ => exact absurd (show false = true from hs) Bool.false_ne_true
  | byt i =>
    obtain ⟨t, rfl⟩ := rx
    cases y with
    | byt j => obtain ⟨t', rfl⟩ := ry; exact PySem.W.ne_bytes (fin_bl I q (congrArg not dec_byt))
    | _ => exact absurd (show false = true from hs) Bool.false_ne_true
  | _ => cases y <;> exact absurd (show false = true from hs) Bool.false_ne_true
theorem op_lt : OpR X (compareOp .Lt) (rI0 fun i j => .bl (decide (i < j))) := opB0 fun _ _ _ _ _ _ _ q => lt_int q
theorem op_gt : OpR X (compareOp .Gt) (rI0 fun i j => .bl (decide (j < i))) := opB0 fun _ _ _ _ _ _ _ q => gt_int q
theorem op_ge : OpR X (compareOp .GtE) (rI0 fun i j => .bl (decide (j ≤ i))) := opB0 fun _ _ _ _ _ _ _ q => ge_int q
theorem op_isN : OpR X (compareOp .Is) (fun x y H Q => y = .non ∧ Q (.bl (decide (x = .non))) H) := by
  intro pins s σ H x y v u Q I rx ry h
  obtain ⟨rfl, q⟩ := h
  cases ry
  refine is_none_gen (fin_bl I q ?_)
  cases x <;> first
    | (cases rx; rfl)
    | (obtain ⟨t, rfl⟩ := rx; rfl)
theorem nomark (b : Expr) {op : CmpOp} (h : op ≠ .In := by decide) (h2 : op ≠ .NotIn := by decide) : behindInMarks op b = false := by
  have e1 : (op == CmpOp.In) = false := by cases op <;> first | rfl | exact absurd rfl h
  have e2 : (op == CmpOp.NotIn) = false := by cases op <;> first | rfl | exact absurd rfl h2
  cases b <;> simp [behindInMarks, e1, e2]
theorem pe_cmpR {op : CmpOp} {r : R2} (ho : OpR X (compareOp op) r) (ha : PE X a ta) (hb : PE X b tb) (hm : behindInMarks op b = false) : PE X (.Compare a [op] [b] pos) (tOp r ta tb) := by
  intro pins s σ H Q I h
  exact wpAny_Compare1 (binT ha hb I h fun v u s2 x y H2 I2 rx ry q => ho pins s2 σ H2 x y v u Q I2 rx ry q) hm
def tTest (t : TE) : TT := fun σ H Q => t σ H fun x H' => ∃ k, x = .bl k ∧ Q k H'
theorem pt_cmpR {op : CmpOp} {r : R2} (ho : OpR X (compareOp op) r) (ha : PE X a ta) (hb : PE X b tb) (hm : behindInMarks op b = false) : PT X (.Compare a [op] [b] pos) (tTest (tOp r ta tb)) := by
  intro pins s σ H Q I h
  refine wpAny_isTrue_Compare1 (thn (ha pins s σ H _ I h) fun v s1 ⟨x, H1, I1, r1, q1⟩ => thn (hb pins s1 σ H1 _ I1 q1) fun u s2 ⟨y, H2, I2, r2, q2⟩ =>
    thn (ho pins s2 σ H2 x y v u _ I2 r1 r2 q2) fun c s3 ⟨z, H3, I3, r3, k, e, q3⟩ => ?_) hm
  subst e
  cases r3
  exact wpAny_truthy_bool ⟨H3, I3, q3⟩
theorem line63 : (sizeLine : Nat) < 2 ^ 63 := by rw [sizeLine_eq]; decide
theorem op_add_str : OpR X (binaryOp .Add) (fun x y H Q => ∃ i j, x = .str i ∧ y = .str j ∧ i.length + j.length ≤ sizeLine ∧ Q (.str (i ++ j)) H) := by
  intro pins s σ H x y v u Q I rx ry h
  obtain ⟨i, j, rfl, rfl, hz, q⟩ := h
  obtain ⟨t, rfl⟩ := rx
  obtain ⟨t', rfl⟩ := ry
  exact add_str (fun t' tk => ⟨.str (i ++ j), H, I.tok _, ⟨_, rfl⟩, q⟩) hz
theorem vals1 {x : V} {us : List Value} (r : Vals [x] us) : ∃ u, us = [u] ∧ RelV x u := by
  cases r with
  | cons r1 r2 => cases r2; exact ⟨_, rfl, r1⟩
theorem vals2 {x y : V} {us : List Value} (r : Vals [x, y] us) : ∃ u w', us = [u, w'] ∧ RelV x u ∧ RelV y w' := by
  cases r with
  | cons r1 r2 =>
    cases r2 with
    | cons r3 r4 => cases r4; exact ⟨_, _, rfl, r1, r3⟩
theorem call_abs : CallR X (.builtin "abs") (fun xs H Q => ∃ i, xs = [.int i] ∧ Q (.int (if i < 0 then -i else i)) H) := by
  intro pins s σ H xs us Q I r h
  obtain ⟨i, rfl, q⟩ := h
  obtain ⟨u, rfl, t, rfl⟩ := vals1 r
  exact call_abs_int fun u tk => ⟨.int (if i < 0 then -i else i), H, I.tok _, ⟨_, rfl⟩, q⟩
theorem call_max2 (hc : X.calm = true) : CallR X (.builtin "max") (fun xs H Q => ∃ i j, xs = [.int i, .int j] ∧ Q (.int (if j > i then j else i)) H) := by
  intro pins s σ H xs us Q I r h
  obtain ⟨i, j, rfl, q⟩ := h
  obtain ⟨u, w', rfl, ⟨t, rfl⟩, ⟨t', rfl⟩⟩ := vals2 r
  refine max_two_ints (I.ok.hd hc) fun h' tk k => ⟨_, H, I.kept k, ?_, q⟩
  by_cases hj : j > i
  · rw [if_pos hj, if_pos hj]; exact ⟨_, rfl⟩
  · rw [if_neg hj, if_neg hj]; exact ⟨_, rfl⟩
theorem call_min2 (hc : X.calm = true) : CallR X (.builtin "min") (fun xs H Q => ∃ i j, xs = [.int i, .int j] ∧ Q (.int (if j < i then j else i)) H) := by
  intro pins s σ H xs us Q I r h
  obtain ⟨i, j, rfl, q⟩ := h
  obtain ⟨u, w', rfl, ⟨t, rfl⟩, ⟨t', rfl⟩⟩ := vals2 r
  refine min_two_ints (I.ok.hd hc) fun h' tk k => ⟨_, H, I.kept k, ?_, q⟩
  by_cases hj : j < i
  · rw [if_pos hj, if_pos hj]; exact ⟨_, rfl⟩
  · rw [if_neg hj, if_neg hj]; exact ⟨_, rfl⟩
theorem call_int1 : CallR X (.type "int") (fun xs H Q => (∃ i, xs = [.int i] ∧ Q (.int i) H) ∨ ∃ k, xs = [.bl k] ∧ Q (.int (if k then 1 else 0)) H) := by
  intro pins s σ H xs us Q I r h
  rcases h with ⟨i, rfl, q⟩ | ⟨k, rfl, q⟩
  · obtain ⟨u, rfl, t, rfl⟩ := vals1 r
    exact call_int_int ⟨.int i, H, I, ⟨_, rfl⟩, q⟩
  · obtain ⟨u, rfl, r1⟩ := vals1 r
    cases r1
    exact call_int_bool ⟨.int (if k then 1 else 0), H, I.tok _, ⟨_, rfl⟩, q⟩
theorem call_str_int : CallR X (.type "str") (fun xs H Q => ∃ i, xs = [.int i] ∧ i.natAbs.log2 < 1920 ∧ Q (.str (toString i)) H) := by
  intro pins s σ H xs us Q I r h
  obtain ⟨i, rfl, hz, q⟩ := h
  obtain ⟨u, rfl, t, rfl⟩ := vals1 r
  exact PySem.P.str_of_int hz ⟨.str _, H, I.tok _, ⟨_, rfl⟩, q⟩
end
end L2
namespace L2
open PySem PySem.Spec PyProof.Rows
structure ObjM (h : Heap) (x dx C : Addr) (mA : Str → Option Value) : Prop where
  obj : h.get? x = some (PySem.W.instObj C dx)
  ns : h.Ns1 dx mA
  ne : dx ≠ x
theorem lookIn_ns {h : Heap} {dx : Addr} {mA : Str → Option Value} (n : h.Ns1 dx mA) : ∃ od, h.get? dx = some od ∧ ∀ name, PySem.W.lookIn name od = some (mA name) := by
  obtain ⟨o, es, ep, ho, hd, hk, _, hm⟩ := n
  refine ⟨o, ho, fun name => ?_⟩
  have e := hm name
  unfold nsFind findBy at e
  rw [← Array.find?_toList] at e
  unfold PySem.W.lookIn
  rw [hd]
  dsimp only
  split
  · rename_i y q
    rw [q] at e
    exact congrArg some e
  · rename_i q
    rw [q] at e
    have a : es.toList.any (·.refKey) = false := by
      rw [List.any_eq_false]
      intro y hy
      obtain ⟨z, t, hkey⟩ := hk y (Array.mem_toList_iff.mp hy)
      simp [DictEntry.refKey, hkey]
    have a' : ¬ es.toList.any (·.refKey) = true := by rw [a]; exact Bool.false_ne_true
    rw [if_neg a']
    exact congrArg some e
theorem ObjM.look {h : Heap} {x dx C : Addr} {mA : Str → Option Value} (I : ObjM h x dx C mA) : ∃ od, PySem.W.InstAt h x (PySem.W.instObj C dx) C (some od) ∧ ∀ name, PySem.W.lookIn name od = some (mA name) :=
  let ⟨od, ho, hl⟩ := lookIn_ns I.ns
  ⟨od, ⟨I.obj, rfl, rfl, ho⟩, hl⟩
section
variable {prog : Program} {w : World} {A : Around} {E : Value → Shared → Prop} {s : Shared} {K : PySem.W.Frag} {x dx C f : Addr} {mA : Str → Option Value} {name : Str} {v : Value}
end
theorem RelO.some_of {v : V} {o : Option Value} (r : RelO (some v) o) : ∃ u, o = some u ∧ RelV v u := by
  cases o with
  | none => exact (show False from r).elim
  | some u => exact ⟨u, rfl, r⟩
section
variable {P : Program} {w : World} {H H' : Hp} {h h' : Heap} {a C dx : Addr} {fs fs' : List (Str × V)}
theorem ins_get (hok : HOk P w H h) (e : H a = some (.ins C dx fs)) : ∃ mA, ObjM h a dx C mA ∧ (∀ f, RelO (fs.lookup f) (mA f)) ∧ PySem.Within mA (fs.map (·.1)) ∧ fs.length ≤ 1000 ∧ H dx = some (.own a) := by
  obtain ⟨d, z, ne, ob, mA, n, r, q⟩ := (show ObjOk P w H h a (.ins C dx fs) from hok a _ e)
  exact ⟨mA, ⟨ob, n, ne⟩, r, q, z, d⟩
end
structure Cls (K : PySem.W.Frag) (C : Addr) : Prop where
  pg : PySem.W.plainGet K C Str.empty = true
  hd : PySem.W.hasDictIn K C = true
  po : PySem.W.plainOver K C = true
  sa : PySem.W.findIn K (.ref C) "__setattr__" = some (some (.builtin "object.__setattr__"))
theorem Cls.get {K : PySem.W.Frag} {C : Addr} (c : Cls K C) (f : Str) : PySem.W.plainGet K C f = true := c.pg
structure Con (K : PySem.W.Frag) (C : Addr) (f : Str) (v : V) (u : Value) : Prop where
  at_ : PySem.W.findIn K (.ref C) f = some (some u)
  rel : RelV v u
  get : PySem.W.specialIn K u "__get__" = some none
  cp : PySem.W.copiedNames.contains f = false
structure Meth (K : PySem.W.Frag) (C : Addr) (m : Str) (f : Addr) : Prop where
  at_ : PySem.W.findIn K (.ref C) m = some (some (.ref f))
  fn : PySem.W.isFn K (.ref f) = true
  kp : PySem.W.keepIn K (.ref f) = true
section
variable {X : Cx} {pins : List (Addr × Obj)} {σ : St} {H : Hp} {s : Shared} {a C dx : Addr} {fs : List (Str × V)} {f : Str} {v : V} {A : Around} {E : Value → Shared → Prop}
end
section
variable {X : Cx} {o e value : Expr} {f : Str} {pos pos' tpos : Pos} {ta tv : TE}
end
section
variable {X : Cx} {pins : List (Addr × Obj)} {σ : St} {H : Hp} {s : Shared} {A : Around} {E : Value → Shared → Prop} {Q : Value → Shared → Prop} {c : Value} {b : Bool}
inductive TyOf (K : PySem.W.Frag) (H : Hp) : V → Value → Prop where
  | non : TyOf K H .non (.type "NoneType")
  | bl (x : Bool) : TyOf K H (.bl x) (.type "bool")
  | int (i : Int) : TyOf K H (.int i) (.type "int")
  | str (x : Str) : TyOf K H (.str x) (.type "str")
  | flt (x : UInt64) : TyOf K H (.flt x) (.type "float")
  | lst {a : Addr} {xs : List V} (e : H a = some (.lst xs)) : TyOf K H (.ref a) (.type "list")
  | frz {a : Addr} {o : Obj} {xs : List V} (e : H a = some (.frz o (.lst xs))) : TyOf K H (.ref a) (.type "list")
  | tup {a : Addr} {xs : List V} (e : H a = some (.tup xs)) : TyOf K H (.ref a) (.type "tuple")
  | dK {a : Addr} {kvs : List (Key × V)} (e : H a = some (.dK kvs)) : TyOf K H (.ref a) (.type "dict")
  | dT {a : Addr} {kvs : List (List Key × V)} (e : H a = some (.dT kvs)) : TyOf K H (.ref a) (.type "dict")
  | ins {a C dx : Addr} {fs : List (Str × V)} (e : H a = some (.ins C dx fs)) (cl : Cls K C) (ha : PySem.W.findIn K (.ref C) "__class__" = some (some (.builtin "object.__class__")))
      (hn : PySem.W.specialIn K (.builtin "object.__class__") "__get__" = some (some (.builtin "getset_descriptor.__get__"))) (htk : PySem.W.takesIn K (.builtin "object.__class__") = some true)
      (hm : PySem.W.mroIn K C (.type "object") = some true) : TyOf K H (.ref a) (.ref C)
theorem isinst_ok {x : V} {u t : Value} (I : Inv X pins σ H s) (rx : RelV x u) (ty : TyOf X.K H x t) (e : PySem.W.kitOne X.K t c = some b) (h : ∀ tk, Q (.bool b) { s with toks := tk }) :
    wpAny (model X.prog X.w) A (call (.builtin "isinstance") [u, c]) Q E s := by
  cases ty with
  | non => cases (show u = Value.none from rx); exact PySem.W.kia_one PySem.W.kitx_none I.kIn True.intro e (fun z => nomatch z) h
  | bl y => cases (show u = Value.bool y from rx); exact PySem.W.kia_one PySem.W.kitx_bool I.kIn True.intro e (fun z => nomatch z) h
  | int i => obtain ⟨t, q⟩ := (show ∃ t, u = Value.int i t from rx); cases q; exact PySem.W.kia_one PySem.W.kitx_int I.kIn True.intro e (fun z => nomatch z) h
  | str y => obtain ⟨t, q⟩ := (show ∃ t, u = Value.str y t from rx); cases q; exact PySem.W.kia_one PySem.W.kitx_str I.kIn True.intro e (fun z => nomatch z) h
  | flt y => obtain ⟨t, q⟩ := (show ∃ t, u = Value.float y t from rx); cases q; exact PySem.W.kia_one PySem.W.kitx_float I.kIn True.intro e (fun z => nomatch z) h
  | @lst a xs ea =>
    cases (show u = Value.ref a from rx)
    obtain ⟨_, _, n, _, h1⟩ := (show ObjOk X.prog X.w H s.heap a (.lst xs) from I.hok a _ ea)
    exact PySem.W.kia_one PySem.W.kitx_list I.kIn ⟨_, h1, rfl⟩ e (fun z => nomatch z) h
  | @frz a ob xs ea =>
    cases (show u = Value.ref a from rx)
    obtain ⟨_, _, _, n, _, h1⟩ := (show ObjOk X.prog X.w H s.heap a (.frz ob (.lst xs)) from I.hok a _ ea)
    exact PySem.W.kia_one PySem.W.kitx_list I.kIn ⟨_, h1, rfl⟩ e (fun z => nomatch z) h
  | @tup a xs ea =>
    cases (show u = Value.ref a from rx)
    obtain ⟨_, _, _, p⟩ := (show ObjOk X.prog X.w H s.heap a (.tup xs) from I.hok a _ ea)
    obtain ⟨o, h1, h2, _⟩ := p
    exact PySem.W.kia_one PySem.W.kitx_tuple I.kIn ⟨o, h1, h2⟩ e (fun z => nomatch z) h
  | @dK a kvs ea =>
    cases (show u = Value.ref a from rx)
    obtain ⟨_, _, vs, _, p⟩ := (show ObjOk X.prog X.w H s.heap a (.dK kvs) from I.hok a _ ea)
    obtain ⟨o, es, ep, h1, h2, _⟩ := p
    exact PySem.W.kia_one PySem.W.kitx_dict I.kIn ⟨o, h1, h2.1⟩ e (fun z => nomatch z) h
  | @dT a kvs ea =>
    cases (show u = Value.ref a from rx)
    obtain ⟨_, _, xs, _, o, es, ep, h1, h2, _⟩ := (show ObjOk X.prog X.w H s.heap a (.dT kvs) from I.hok a _ ea)
    exact PySem.W.kia_one PySem.W.kitx_dict I.kIn ⟨o, h1, h2.1⟩ e (fun z => nomatch z) h
  | @ins a C dx fs ea cl ha hn htk hm =>
    cases (show u = Value.ref a from rx)
    obtain ⟨mA, O, _⟩ := ins_get I.hok ea
    obtain ⟨od, J, _⟩ := O.look
    exact PySem.W.kia_one (PySem.W.kitx_own (cl.get _) cl.hd ha hn htk hm) I.kIn J e (fun z => nomatch z) h
end
end L2
namespace L2
open PySem PySem.Spec PyProof.Rows
structure Room (k : Nat) (A : Around) : Prop where
  hd : A.handled = none
  dp : A.depth + 3 * k + 5 < recursionLimit
  un : A.units + 16 * k + 200 < cLine
theorem Room.mono {j k : Nat} {A : Around} (r : Room k A) (h : j ≤ k) : Room j A := ⟨r.hd, by have := r.dp; omega, by have := r.un; omega⟩
theorem Room.deeper {k : Nat} {A : Around} (r : Room (k + 1) A) (env : Env) : Room k (A.deeper env) :=
  ⟨r.hd, by have := r.dp; show A.depth + 1 + 3 * k + 5 < _; omega, by have := r.un; show A.units + 3 + 16 * k + 200 < _; omega⟩
theorem Room.depth {k : Nat} {A : Around} (r : Room k A) : A.depth < recursionLimit := by have := r.dp; omega
theorem Room.units {k : Nat} {A : Around} (r : Room k A) : A.units + 64 < cLine := by have := r.un; omega
theorem Room.units0 {k : Nat} {A : Around} (r : Room k A) : A.units < cLine := by have := r.un; omega
def tNil : TA := fun _ H Q => Q [] H
def tCons (ta : TE) (tr : TA) : TA := fun σ H Q => ta σ H fun x H1 => tr σ H1 fun xs H2 => Q (x :: xs) H2
section
variable {X : Cx} {e : Expr} {es : List Expr} {te : TE} {t : TA} {pos : Pos}
theorem pa_nil : PA X [] tNil := fun _ _ _ _ H Q I h => Calls.spliced_nil ⟨[], H, I, .nil, h⟩
theorem pa_cons (ha : PE X e te) (hr : PA X es t) (hs : starEach (e :: es) X.env = (false, eval e X.env) :: starEach es X.env := by rfl) : PA X (e :: es) (tCons te t) := by
  intro pos pins s σ H Q I h
  rw [hs]
  show wpAny _ _ (spliced ((false, eval e X.env) :: backTo pos (starEach es X.env))) _ _ s
  refine Calls.spliced_cons (thn (ha pins s σ H _ I h) fun u s1 ⟨x, H1, I1, r1, q1⟩ => ?_)
  exact thn (hr pos pins s1 σ H1 _ I1 q1) fun us s2 ⟨xs, H2, I2, r2, q2⟩ => ⟨x :: xs, H2, I2, .cons r1 r2, q2⟩
def tTup (t : TA) : TE := fun σ H Q => t σ H fun xs H1 => xs.length ≤ sizeLine ∧ ∀ p, H1 p = none → Q (.ref p) (upd H1 p (.tup xs))
def tLst (t : TA) : TE := fun σ H Q => t σ H fun xs H1 => xs.length ≤ sizeLine ∧ ∀ p, H1 p = none → Q (.ref p) (upd H1 p (.lst xs))
theorem pe_tup {x1} (h : PA X es t) : PE X (.Tuple es x1 pos) (tTup t) := by
  intro pins s σ H Q I hq
  refine wpAny_Tuple_spliced (thn (h pos pins s σ H _ I hq) fun us s1 ⟨xs, H1, I1, r, z, q⟩ => ⟨by rw [← r.length]; exact z, ?_⟩)
  have hf : H1 s1.heap.objs.size = none := I1.hok.fresh (Nat.le_refl _)
  refine ⟨.ref s1.heap.objs.size, upd H1 s1.heap.objs.size (.tup xs), I1.laid (t' := s1.toks) (fun b u e => Heap.get?_push_of_some _ e) (Nat.le_refl _) ?_, rfl, q _ hf⟩
  exact ⟨⟨z, nod_push _ _⟩, us, r, ⟨_, Heap.get?_push_size _ rfl, rfl, _, rfl⟩⟩
theorem pe_lst (h : PA X es t) : PE X (.List es pos) (tLst t) := by
  intro pins s σ H Q I hq
  refine wpAny_List_spliced (thn (h pos pins s σ H _ I hq) fun us s1 ⟨xs, H1, I1, r, z, q⟩ => ⟨by rw [← r.length]; exact z, ?_⟩)
  have hf : H1 s1.heap.objs.size = none := I1.hok.fresh (Nat.le_refl _)
  refine ⟨.ref s1.heap.objs.size, upd H1 s1.heap.objs.size (.lst xs), I1.laid (t' := s1.toks) (fun b u e => Heap.get?_push_of_some _ e) (Nat.le_refl _) ?_, rfl, q _ hf⟩
  exact ⟨z, us, 0, r, Heap.get?_push_size _ rfl⟩
end
abbrev Sp := List V → Hp → VK → XK → Prop
abbrev CXT := List Env → Hp → Shared → XK → Value → Shared → Prop
structure Env0 (P : Program) (w : World) (K : PySem.W.Frag) (mg : Str → Option Value) (base : Heap) (A : Around) (outer : List Env) (s : Shared) (H : Hp) : Prop where
  frames : A.frames = some outer
  mod : Mod K mg base
  bs : ∀ b o, base.get? b = some o → s.heap.get? b = some o ∧ H b = none
  bsz : base.objs.size ≤ s.heap.objs.size
  funs : s.heap.FunFrames base outer
  frf : ∀ b ∈ frs outer, H b = none
  hok : HOk P w H s.heap
  bare : AllBare s.gens
def CE (outer : List Env) (P : Program) (w : World) (H : Hp) (s : Shared) (Q : VK) (u : Value) (s' : Shared) : Prop :=
  ∃ v H', s'.os = s.os ∧ AllBare s'.gens ∧ Un (frs outer) [] H H' s.heap s'.heap ∧ HOk P w H' s'.heap ∧ RelV v u ∧ Q v H'
def CR (CX : CXT) (outer : List Env) (P : Program) (w : World) (H : Hp) (s : Shared) (Q : VK) (E : XK) (r : Result) (s' : Shared) : Prop :=
  match r with
  | .ok (.ret u) => CE outer P w H s Q u s'
  | .ok _ => False
  | .error e => CX outer H s E e s'
structure FnOk (P : Program) (w : World) (K : PySem.W.Frag) (mg : Str → Option Value) (base : Heap) (CX : CXT) (k : Nat) (f : Addr) (fd : FuncData) (ps : List Str) (sp : Sp) : Prop where
  len : ∀ vs H Q E, sp vs H Q E → vs.length = ps.length
  run : ∀ (A : Around) (outer : List Env) (s : Shared) (H : Hp) (args : Args) (us : List Value) (vs : List V) (Q : VK) (E : XK), Room k A → Env0 P w K mg base A outer s H → BindsTo s fd args (ps.zip us) → Vals vs us → sp vs H Q E →
    codeAny (model P w) A (.call (.ref f) args) (CR CX outer P w H s Q E) s
theorem FnOk.mono {P : Program} {w : World} {K : PySem.W.Frag} {mg : Str → Option Value} {base : Heap} {CX : CXT} {j k : Nat} {f : Addr} {fd : FuncData} {ps : List Str} {sp : Sp} (F : FnOk P w K mg base CX j f fd ps sp) (h : j ≤ k) :
    FnOk P w K mg base CX k f fd ps sp := ⟨F.len, fun A outer s H args us vs Q E hr => F.run A outer s H args us vs Q E (hr.mono h)⟩
theorem FnOk.imp {P : Program} {w : World} {K : PySem.W.Frag} {mg : Str → Option Value} {base : Heap} {CX : CXT} {k : Nat} {f : Addr} {fd : FuncData} {ps : List Str} {sp sp' : Sp} (F : FnOk P w K mg base CX k f fd ps sp)
    (h : ∀ vs H Q E, sp' vs H Q E → sp vs H Q E) : FnOk P w K mg base CX k f fd ps sp' :=
  ⟨fun vs H Q E q => F.len vs H Q E (h _ _ _ _ q), fun A outer s H args us vs Q E hr he hb hv hs => F.run A outer s H args us vs Q E hr he hb hv (h _ _ _ _ hs)⟩
section
variable {X : Cx} {pins : List (Addr × Obj)} {σ : St} {H : Hp} {s s' : Shared}
theorem Inv.env0 (I : Inv X pins σ H s) : Env0 X.prog X.w X.K X.mg X.base X.A X.stack s H :=
  ⟨I.ok.frames, I.ok.mod, I.bs, Nat.le_trans I.ok.bsz I.sz, I.stack, I.stkFree, I.hok, I.bare⟩
theorem Inv.after {Q : VK} {u : Value} (I : Inv X pins σ H s) (h : CE X.stack X.prog X.w H s Q u s') : EP X pins σ Q u s' := by
  obtain ⟨v, H', os, bare, un, hok, r, q⟩ := h
  obtain ⟨hh, g, d, t, os'⟩ := s'
  obtain rfl : os' = s.os := os
  exact ⟨v, H', I.call (h' := hh) (g' := g) (d' := d) (t' := t) (ch := []) un hok bare (fun b z => absurd z (by simp)), r, q⟩
end
def tCall (sp : Sp) (dvs : List V) (E : XK) (t : TA) : TE := fun σ H Q => t σ H fun vs H1 => sp (vs ++ dvs) H1 Q E
def Binds (K : PySem.W.Frag) (fd : FuncData) (ps : List Str) (ds : List Value) : Prop :=
  ∀ (s : Shared) (us : List Value), K.In s.heap → (us ++ ds).length = ps.length → BindsTo s fd ⟨us, []⟩ (ps.zip (us ++ ds))
theorem Binds.all {K : PySem.W.Frag} {fd : FuncData} {ps : List Str} (h : ∀ us : List Value, us.length = ps.length → bindArgs fd ⟨us, []⟩ = pure (ps.zip us)) : Binds K fd ps [] := fun s us _ hl => by
  rw [List.append_nil] at hl ⊢
  exact .of_eq (h us hl)
def Passes (CX : CXT) (X : Cx) (E : XK) : Prop := ∀ (pins : List (Addr × Obj)) (σ : St) (H : Hp) (s : Shared) (e : Value) (s' : Shared), Inv X pins σ H s → CX X.stack H s E e s' → X.xe e s'
section
variable {X : Cx} {CX : CXT} {k : Nat} {f C : Addr} {fd : FuncData} {ps : List Str} {sp : Sp} {dvs : List V} {ds : List Value} {E : XK} {x m : Str} {p pos apos : Pos} {e o : Expr} {es : List Expr} {ta : TE} {t : TA}
theorem run_fn {pins : List (Addr × Obj)} {σ : St} {H : Hp} {s : Shared} {Q : VK} {us : List Value} {vs : List V} (F : FnOk X.prog X.w X.K X.mg X.base CX k f fd ps sp) (hr : Room k X.A) (hb : Binds X.K fd ps ds) (hd : Vals dvs ds) (hx : Passes CX X E)
    (I : Inv X pins σ H s) (r : Vals vs us) (h : sp (vs ++ dvs) H Q E) : wpAny (model X.prog X.w) X.A (call (.ref f) us) (EP X pins σ Q) X.xe s := by
  have r2 : Vals (vs ++ dvs) (us ++ ds) := r.append hd
  have hl : (us ++ ds).length = ps.length := by rw [← r2.length]; exact F.len _ _ _ _ h
  refine wpAny_call (codeAny_mono (F.run X.A X.stack s H ⟨us, []⟩ (us ++ ds) (vs ++ dvs) Q E hr I.env0 (hb s us I.kIn hl) r2 h) fun r s' hq => ?_)
  cases r with
  | error e => exact hx pins σ H s e s' I hq
  | ok fl =>
    cases fl with
    | ret u => exact I.after hq
    | next => exact False.elim hq
    | brk => exact False.elim hq
    | cont => exact False.elim hq
theorem pe_call (F : FnOk X.prog X.w X.K X.mg X.base CX k f fd ps sp) (hr : Room k X.A) (hg : Gl X x) (hm : X.mg x = some (.ref f)) (hk : PySem.W.keepIn X.K (.ref f) = true) (hb : Binds X.K fd ps ds) (hd : Vals dvs ds) (hx : Passes CX X E)
    (ha : PA X (e :: es) t) (hdb : (x == ("__debug__" : Str)) = false := by decide) (he : starEach (e :: es) X.env = (false, eval e X.env) :: starEach es X.env := by rfl) (hpl : (backTo pos (starEach es X.env)).any (·.1) = false := by rfl) :
    PE X (.Call (.Name x p) (e :: es) [] pos) (tCall sp dvs E t) := by
  intro pins s σ H Q I h
  refine wpAny_Call_Name_kw (ld_glob I hg hm ?_ hdb)
  refine PySem.W.callWith_K (h₀ := X.base) I.ok.mod.kin hk (thn (ha pos pins s σ H _ I h) fun us s1 ⟨vs, H1, I1, r, q⟩ => ⟨I1.kIn, ?_⟩) he hpl
  exact run_fn F hr hb hd hx I1 r q
structure Mk (K : PySem.W.Frag) (C f : Addr) : Prop where
  makes : PySem.W.makesIn K C = true
  init : PySem.W.findIn K (.ref C) "__init__" = some (some (.ref f))
  fn : PySem.W.isFn K (.ref f) = true
  kp : PySem.W.keepIn K (.ref C) = true
end
section
variable {X : Cx} {CX : CXT} {k : Nat} {f C : Addr} {fd : FuncData} {ps ks : List Str} {sp : Sp} {E : XK} {x m : Str} {p pos apos kpos : Pos} {e o : Expr} {es : List Expr} {kws : List Keyword} {te ta : TE} {t tk : TA} {nm : Option Str}
structure KBinds (K : PySem.W.Frag) (fd : FuncData) (ps ks : List Str) (g : List Value → List Value → List Value) (gV : List V → List V → List V) : Prop where
  to : ∀ (s : Shared) (us ws : List Value), K.In s.heap → (g us ws).length = ps.length → BindsTo s fd ⟨us, ks.zip ws⟩ (ps.zip (g us ws))
  rel : ∀ {vs : List V} {us : List Value} {zs : List V} {ws : List Value}, Vals vs us → Vals zs ws → Vals (gV vs zs) (g us ws)
variable {g : List Value → List Value → List Value} {gV : List V → List V → List V}
end
structure FnScope (N P : List Str) (sc : Scope) : Prop where
  kind : sc.kind = .function
  co : sc.isCoroutine = false
  gen : sc.isGenerator = false
  nd : N.Nodup
  pre : N.take P.length = P
  par : ∀ x ∈ P, sc.names.lookup x = some .local ∨ sc.names.lookup x = some .cell
  nofree : ∀ y ∈ sc.names, y.2 ≠ .free
theorem bindL_out {kindOf : Str → Option NameKind} {x : Str} : ∀ {binds : List (Str × Value)} {m : Str → Option Value}, (∀ v, (x, v) ∉ binds) → bindL kindOf binds m x = m x
  | [], _, _ => rfl
  | (n, v) :: r, m, h => by
    unfold bindL
    rw [bindL_out fun w hw => h w (List.mem_cons_of_mem _ hw)]
    split
    · have : x ≠ n := by rintro rfl; exact h v List.mem_cons_self
      simp [this]
    · rfl
theorem bindC_out {kindOf : Str → Option NameKind} {x : Str} : ∀ {binds : List (Str × Value)} {m : Str → Option Value}, (∀ v, (x, v) ∉ binds) → bindC kindOf binds m x = m x
  | [], _, _ => rfl
  | (n, v) :: r, m, h => by
    unfold bindC
    rw [bindC_out fun w hw => h w (List.mem_cons_of_mem _ hw)]
    split
    · rfl
    · have : x ≠ n := by rintro rfl; exact h v List.mem_cons_self
      simp [this]
theorem bindL_get {kindOf : Str → Option NameKind} {x : Str} {v : Value} : ∀ {P : List Str} {vs : List Value} {i : Nat} {m : Str → Option Value}, P.Nodup → P[i]? = some x → vs[i]? = some v → kindOf x = some .local →
    bindL kindOf (P.zip vs) m x = some v
  | [], _, _, _, _, h, _, _ => by simp at h
  | _ :: _, [], _, _, _, _, h, _ => by simp at h
  | p :: P, w :: vs, 0, m, nd, h1, h2, hk => by
    simp at h1 h2; subst h1; subst h2
    show bindL kindOf ((p, w) :: P.zip vs) m p = _
    unfold bindL
    rw [bindL_out fun v hv => (List.nodup_cons.mp nd).1 (List.of_mem_zip hv).1, if_pos hk]
    simp
  | p :: P, w :: vs, i + 1, m, nd, h1, h2, hk => by
    show bindL kindOf ((p, w) :: P.zip vs) m x = _
    unfold bindL
    exact bindL_get (i := i) (List.nodup_cons.mp nd).2 (by simpa using h1) (by simpa using h2) hk
theorem bindC_get {kindOf : Str → Option NameKind} {x : Str} {v : Value} : ∀ {P : List Str} {vs : List Value} {i : Nat} {m : Str → Option Value}, P.Nodup → P[i]? = some x → vs[i]? = some v → kindOf x ≠ some .local →
    bindC kindOf (P.zip vs) m x = some v
  | [], _, _, _, _, h, _, _ => by simp at h
  | _ :: _, [], _, _, _, _, h, _ => by simp at h
  | p :: P, w :: vs, 0, m, nd, h1, h2, hk => by
    simp at h1 h2; subst h1; subst h2
    show bindC kindOf ((p, w) :: P.zip vs) m p = _
    unfold bindC
    rw [bindC_out fun v hv => (List.nodup_cons.mp nd).1 (List.of_mem_zip hv).1, if_neg hk]
    simp
  | p :: P, w :: vs, i + 1, m, nd, h1, h2, hk => by
    show bindC kindOf ((p, w) :: P.zip vs) m x = _
    unfold bindC
    exact bindC_get (i := i) (List.nodup_cons.mp nd).2 (by simpa using h1) (by simpa using h2) hk
def start (N : List Str) (vs : List V) : St := vs.map some ++ List.replicate (N.length - vs.length) none
def cxOf (CX : CXT) (P : Program) (w : World) (K : PySem.W.Frag) (mg : Str → Option Value) (base : Heap) (N : List Str) (qual : Str) (scope : Scope) (f : Addr) (cd : Value) (A : Around) (outer : List Env) (s : Shared) (H : Hp) (E : XK) : Cx where
  prog := P
  w := w
  K := K
  mg := mg
  base := base
  A := A.deeper (envOfC qual scope s.heap.objs.size f cd)
  N := N
  s₀ := s
  H₀ := H
  env := envOfC qual scope s.heap.objs.size f cd
  outer := outer
  stack := envOfC qual scope s.heap.objs.size f cd :: outer
  ex := []
  calm := true
  fn := fun _ => true
  pn := []
  xe := fun e s' => wpAny (model P w) (A.deeper (envOfC qual scope s.heap.objs.size f cd)) (leaving (envOfC qual scope s.heap.objs.size f cd) e) (fun _ s'' => CX outer H s E e s'') (fun e' s'' => CX outer H s E e' s'') s'
theorem cell_has {sc : Scope} {n : Nat} {x : Str} (h : sc.names.lookup x = some .cell) : ∃ c, (cellsFrom n sc.names []).lookup x = some c := by
  have q := PySem.W.cellsFrom_some sc.names n [] (.inl h)
  exact Option.isSome_iff_exists.mp q
theorem inv_start {CX : CXT} {P : Program} {w : World} {K : PySem.W.Frag} {mg : Str → Option Value} {base : Heap} {N ps : List Str} {qual : Str} {scope : Scope} {f : Addr} {cd : Value} {A : Around} {outer : List Env} {s s1 : Shared} {H : Hp} {E : XK} {us : List Value} {vs : List V}
    (S : FnScope N ps scope) (hd : A.handled = none) (e0 : Env0 P w K mg base A outer s H) (hl : vs.length = ps.length) (r : Vals vs us)
    (x : InCallC s s.heap.objs.size (bindL (envOfC qual scope s.heap.objs.size f cd).kindOf (ps.zip us) fun _ => none) (cellsFrom (s.heap.objs.size + 1) scope.names []) (bindC (envOfC qual scope s.heap.objs.size f cd).kindOf (ps.zip us) fun _ => none) s1) :
    Inv (cxOf CX P w K mg base N qual scope f cd A outer s H E) [] (start N vs) H s1 := by
  have hpl : ps.length ≤ N.length := by have := congrArg List.length S.pre; rw [List.length_take] at this; omega
  obtain ⟨h1, tk, rfl, hk⟩ := x.done
  have noA : ∀ b : Addr, b ∉ (cxOf CX P w K mg base N qual scope f cd A outer s H E).ex := fun b z => absurd (show b ∈ ([] : List Addr) from z) (by simp)
  refine ⟨⟨e0.mod, S.kind, rfl, rfl, Nat.le_refl _, fun y z c h1 h2 => ?_, fun y hy => ?_, fun y c _ h => ?_, fun _ => hd, Around.frames_deeper e0.frames, .inr ⟨rfl, rfl⟩, fun b z => absurd z (noA b), e0.bs, e0.bsz, fun b _ _ => noA b, fun b z => absurd z (noA b), e0.funs, e0.frf⟩,
    rfl, e0.bare, Un.kept hk, ⟨_, x.toInCall.ns, fun i y v h1 h2 h3 => ?_⟩, fun y c h => ⟨_, x.cell y c h⟩, e0.hok.fresh (Nat.le_refl _), fun y c h => ?_, fun p hp => absurd (show p ∈ ([] : List (Addr × Obj)) from hp) (by simp), e0.hok.kept hk, ?_⟩
  · exact name_of_addr x.apart (PySem.mem_of_lookup h1) (PySem.mem_of_lookup h2)
  · have hy : scope.names.lookup y = some .cell ∨ scope.names.lookup y = some .free := hy
    rcases hy with hy | hy
    · exact cell_has hy
    · exact absurd rfl (S.nofree _ (PySem.mem_of_lookup hy))
  · exact Nat.le_of_lt (x.above y c (PySem.mem_of_lookup h))
  · have hi : i < vs.length := by
      unfold start at h2
      by_cases hi : i < vs.length
      · exact hi
      · rw [List.getElem?_append_right (by simpa using hi)] at h2
        rw [List.getElem?_replicate] at h2
        split at h2 <;> cases h2
    have ha : vs[i]? = some v := by
      unfold start at h2
      rw [List.getElem?_append_left (by simpa using hi), List.getElem?_map] at h2
      cases e : vs[i]? with
      | none => rw [e] at h2; cases h2
      | some a => rw [e] at h2; cases h2; rfl
    obtain ⟨u, hu, rv⟩ := r.get ha
    have hp : ps[i]? = some y := by
      rw [← S.pre, List.getElem?_take_of_lt (by omega)]; exact h1
    have ndP : ps.Nodup := by rw [← S.pre]; exact S.nd.sublist (List.take_sublist _ _)
    refine ⟨u, rv, ?_⟩
    rcases S.par y (List.mem_of_getElem? hp) with k | k
    · exact .inl ⟨k, bindL_get ndP hp hu k⟩
    · obtain ⟨c, e⟩ := cell_has (n := s.heap.objs.size + 1) k
      refine .inr ⟨.inl k, c, e, ?_⟩
      have q := x.cell y c e
      rw [bindC_get ndP hp hu (by show scope.names.lookup y ≠ _; rw [k]; decide)] at q
      exact q
  · exact e0.hok.fresh (Nat.le_of_lt (x.above y c (PySem.mem_of_lookup h)))
  · unfold start
    show _ = N.length
    rw [List.length_append, List.length_map, List.length_replicate]
    omega
theorem fn_of {CX : CXT} {P : Program} {w : World} {K : PySem.W.Frag} {mg : Str → Option Value} {base : Heap} {k : Nat} {f : Addr} {name qual : Str} {params : Arguments} {body : List Stmt} {scope : Scope} {dV kV doc pm cdv ct oc : Value} {an od : Option Addr}
    {osl : Array (Option Value)} {N ps : List Str} {sp : Sp} (lk : K.lookup f = some ⟨oc, od, .func (PySem.W.fnOf name qual params body scope dV kV doc pm an cdv ct), osl⟩) (hcd : PySem.W.codeIn K cdv qual = true) (S : FnScope N ps scope)
    (len : ∀ vs H Q E, sp vs H Q E → vs.length = ps.length)
    (hbody : ∀ (A : Around) (outer : List Env) (s : Shared) (H : Hp) (vs : List V) (Q : VK) (E : XK), Room k (A.deeper (envOfC qual scope s.heap.objs.size f cdv)) → sp vs H Q E →
      ∃ t, PSs (cxOf CX P w K mg base N qual scope f cdv A outer s H E) body t ∧ t { nx := fun _ H' => Q .non H', rt := Q } (start N vs) H) :
    FnOk P w K mg base CX (k + 1) f (PySem.W.fnOf name qual params body scope dV kV doc pm an cdv ct) ps sp := by
  refine ⟨len, fun A outer s H args us vs Q E hr e0 hb r hsp => ?_⟩
  have hl := len _ _ _ _ hsp
  have KX : K.In s.heap := e0.mod.kin.keeps fun b o e => (e0.bs b o e).1
  have lim : s.heap.NoLimit := e0.mod.nolimit.keeps fun b o e => (e0.bs b o e).1
  have hkind : ∀ y ∈ ps.zip us, scope.names.lookup y.1 = some .local ∨ (scope.names.lookup y.1 = some .cell ∧ ((cellsFrom (s.heap.objs.size + 1) scope.names []).lookup y.1).isSome = true) := fun ⟨n, v⟩ hy => by
    rcases S.par n (List.of_mem_zip hy).1 with q | q
    · exact .inl q
    · exact .inr ⟨q, PySem.W.cellsFrom_some _ _ _ (.inl q)⟩
  refine codeAny_call_function hr.depth (KX _ _ lk) rfl S.co S.gen rfl (PySem.W.codeRec_of KX hcd) (hb _ _ _ _ ?_)
  refine wpAny_newFunctionEnv_cells S.kind hkind fun env he s1 x => ?_
  subst he
  refine ⟨lim.keeps x.toInCall.keep, codeAny_func ?_⟩
  obtain ⟨t, ht, hq⟩ := hbody A outer s H vs Q E (hr.deeper _) hsp
  have I : Inv (cxOf CX P w K mg base N qual scope f cdv A outer s H E) [] (start N vs) H s1 := inv_start S hr.hd e0 hl r x
  refine wpAny_mono (ht [] s1 (start N vs) H _ I hq) (fun fl s' hs => ?_) fun e s' hs => hs
  have fin : ∀ {σ' : St} {H' : Hp} {v : V} {u : Value}, Inv (cxOf CX P w K mg base N qual scope f cdv A outer s H E) [] σ' H' s' → RelV v u → Q v H' → CE outer P w H s Q u s' :=
    fun {σ' H' v u} J rv q => ⟨v, H', J.os, J.bare, J.base, J.hok, rv, q⟩
  cases fl with
  | ret u =>
    obtain ⟨v, σ', H', J, rv, q⟩ := hs
    exact fin J rv q
  | next =>
    obtain ⟨σ', H', J, q⟩ := hs
    exact fin (v := V.non) (u := Value.none) J rfl q
  | brk =>
    obtain ⟨_, _, _, q⟩ := hs
    exact False.elim q
  | cont =>
    obtain ⟨_, _, _, q⟩ := hs
    exact False.elim q
end L2
namespace L2
open PySem PySem.Spec PyProof.Rows
section
variable {X : Cx} {x : Str} {p pos : Pos} {e : Expr} {es : List Expr} {t : TA} {id T : String} {r : List V → Hp → VK → Prop}
def tCB (r : List V → Hp → VK → Prop) (t : TA) : TE := fun σ H Q => t σ H fun vs H1 => r vs H1 Q
theorem pe_callB (hc : CallR X (.builtin id) r) (hg : Gl X x) (hm : X.mg x = none) (hv : bootBuiltins x = some (.builtin id)) (ha : PA X (e :: es) t) (hn : x ≠ "__name__" := by decide) (hdb : (x == ("__debug__" : Str)) = false := by decide)
    (he : starEach (e :: es) X.env = (false, eval e X.env) :: starEach es X.env := by rfl) (hpl : (backTo pos (starEach es X.env)).any (·.1) = false := by rfl) : PE X (.Call (.Name x p) (e :: es) [] pos) (tCB r t) := by
  intro pins s σ H Q I h
  refine wpAny_Call_Name_kw (ld_blt I hg hm hv ?_ hn hdb)
  exact PyProof.Rows.callWith_builtin1 (thn (ha pos pins s σ H _ I h) fun us s1 ⟨vs, H1, I1, r1, q1⟩ => hc pins s1 σ H1 vs us Q I1 r1 q1) he hpl
theorem pe_callTy (hc : CallR X (.type T) r) (hg : Gl X x) (hm : X.mg x = none) (hv : bootBuiltins x = some (.type T)) (ha : PA X (e :: es) t) (hn : x ≠ "__name__" := by decide) (hdb : (x == ("__debug__" : Str)) = false := by decide)
    (he : starEach (e :: es) X.env = (false, eval e X.env) :: starEach es X.env := by rfl) (hpl : (backTo pos (starEach es X.env)).any (·.1) = false := by rfl) : PE X (.Call (.Name x p) (e :: es) [] pos) (tCB r t) := by
  intro pins s σ H Q I h
  refine wpAny_Call_Name_kw (ld_blt I hg hm hv ?_ hn hdb)
  exact PyProof.Rows.callWith_type1 (thn (ha pos pins s σ H _ I h) fun us s1 ⟨vs, H1, I1, r1, q1⟩ => hc pins s1 σ H1 vs us Q I1 r1 q1) he hpl
end
end L2
end
section
namespace HT
open PySem PyProof.Rows
section
open PySem.SeqAt
open PySem.AutoSeq1 (wpAny_loadPart')
open PySem.MeetsSeq PySem.MeetsSeq2 PySem.MeetsSeq3
end
section
variable {prog : Program} {w : World} {A : Around} {E : Value → Shared → Prop} {s : Shared}
theorem cat_tup {t b : Addr} {vs ws : List Value} {Q : Value → Shared → Prop} (ht : IsTup s.heap t vs.toArray) (hb : IsTup s.heap b ws.toArray) (hv : vs ≠ [])
    (h1 : ws = [] → Q (.ref t) s) (h2 : ws ≠ [] → Q (.ref s.heap.objs.size) { s with heap := s.heap.push { cls := .type "tuple", data := .seq (vs ++ ws).toArray } })
    (hsz : vs.length + ws.length ≤ sizeLine) : wpAny (model prog w) A (binaryOp .Add (.ref t) (.ref b)) Q E s := by
  obtain ⟨⟨cls, dd, data, sl⟩, ho, hc, n, hd⟩ := id ht
  obtain ⟨⟨cls2, dd2, data2, sl2⟩, ho2, hc2, n2, hd2⟩ := id hb
  simp only at hc hd hc2 hd2
  subst hc hd hc2 hd2
  have e : vs.toArray ++ ws.toArray = (vs ++ ws).toArray := by simp
  by_cases hw : ws = []
  · exact concat_meets ⟨_, ho, rfl⟩ ⟨_, ho2, rfl⟩ noFill_tuple_add seq_tuple_add PySem.F.slot_tuple_add PySem.F.entry_tuple_add (PySem.F.args_tuple_add_2 _ _)
      (tuple_addW1 t b vs.toArray ws.toArray n n2 dd dd2 sl sl2 (by simpa using hv) (by simp [hw])) ⟨ho, ho2, h1 hw⟩
  · refine concat_meets ⟨_, ho, rfl⟩ ⟨_, ho2, rfl⟩ noFill_tuple_add seq_tuple_add PySem.F.slot_tuple_add PySem.F.entry_tuple_add (PySem.F.args_tuple_add_2 _ _)
      (tuple_addW2 t b vs.toArray ws.toArray n n2 dd dd2 sl sl2 (by simpa using hv) (by simpa using hw) (by rw [List.size_toArray, List.size_toArray]; exact hsz)) ⟨ho, ho2, ?_⟩
    rw [e]
    exact h2 hw
def sIx (n d : Nat) : Option Int → Nat
  | none => d
  | some v => if v < 0 then (v + (n : Int)).toNat else min v.toNat n
theorem sIx_nat (n d k : Nat) : sIx n d (some (k : Int)) = min k n := by
  show (if (k : Int) < 0 then ((k : Int) + (n : Int)).toNat else min (k : Int).toNat n) = min k n
  rw [if_neg (by omega), Int.toNat_natCast]
theorem sIx_le (n d : Nat) (hd : d ≤ n) (o : Option Int) : sIx n d o ≤ n := by
  cases o with
  | none => exact hd
  | some v =>
    show (if v < 0 then (v + (n : Int)).toNat else min v.toNat n) ≤ n
    by_cases hv : v < 0
    · rw [if_pos hv]; omega
    · rw [if_neg hv]; exact Nat.min_le_right _ _
theorem clip_eq (v : Int) (n d : Nat) : (if v < 0 then max (v + (n : Int)) 0 else min v (n : Int)) = ((sIx n d (some v) : Nat) : Int) := by
  show (if v < 0 then max (v + (n : Int)) 0 else min v (n : Int)) = (((if v < 0 then (v + (n : Int)).toNat else min v.toNat n) : Nat) : Int)
  by_cases hv : v < 0
  · simp only [if_pos hv]; omega
  · simp only [if_neg hv]; omega
theorem adjust_gen (lo hi : Option Int) (n : Nat) : Builtin.Slice.sliceAdjust lo hi 1 (n : Int) = (((sIx n 0 lo : Nat) : Int), ((sIx n n hi : Nat) : Int)) := by
  have h1 : ¬ ((1 : Int) < 0) := by omega
  unfold Builtin.Slice.sliceAdjust
  simp only [h1, if_false]
  refine Prod.ext ?_ ?_
  · cases lo with
    | none => rfl
    | some v => exact clip_eq v n 0
  · cases hi with
    | none => rfl
    | some v => exact clip_eq v n n
theorem places_gen (i j : Nat) : Builtin.Slice.slicePlaces (i : Int) (j : Int) 1 = j - i := by
  unfold Builtin.Slice.slicePlaces
  have h1 : (1 : Int) > 0 := by omega
  simp only [h1, if_true, Int.ediv_one]
  split <;> omega
theorem slicePart_ {v : Value} {o : Option Int} {Q : Option Int → Shared → Prop} (p : IsPart v o) (h : Q o s) : wpAny (model prog w) A (Builtin.Slice.slicePartIndex v) Q E s := by
  cases p with
  | none => exact slicePart_none h
  | int i t => exact slicePart_int h
theorem sliceApplied_gen {sl : Addr} {vl vu : Value} {lo hi : Option Int} {n : Nat} {Q : Int × Int × Nat → Shared → Prop} (hs : s.heap.IsSliceOf sl vl vu .none) (pl : IsPart vl lo) (pu : IsPart vu hi)
    (h : Q (((sIx n 0 lo : Nat) : Int), 1, sIx n n hi - sIx n 0 lo) s) : wpAny (model prog w) A (Builtin.Slice.sliceApplied (.ref sl) (pure (n : Int))) Q E s := by
  obtain ⟨os, hos, hcs, hds⟩ := id hs
  unfold Builtin.Slice.sliceApplied Builtin.Slice.sliceFields
  refine wpAny_bind (wpAny_bind (wpAny_field hos hds (x := vl) rfl (wpAny_bind (wpAny_field hos hds (x := vu) rfl (wpAny_bind (wpAny_field hos hds (x := .none) rfl (wpAny_pure ?_)))))))
  refine wpAny_bind (slicePart_none ?_)
  show wpAny _ _ (if ((1 : Int) == 0) = true then _ else _) _ _ s
  rw [if_neg (by decide)]
  refine wpAny_bind (slicePart_ pl (wpAny_bind (slicePart_ pu (wpAny_bind (wpAny_pure ?_)))))
  show wpAny _ _ (match Builtin.Slice.sliceAdjust lo hi 1 (n : Int) with | (lo, hi) => pure (lo, (1 : Int), Builtin.Slice.slicePlaces lo hi 1)) _ _ s
  rw [adjust_gen lo hi n]
  show wpAny _ _ (pure (((sIx n 0 lo : Nat) : Int), (1 : Int), Builtin.Slice.slicePlaces ((sIx n 0 lo : Nat) : Int) ((sIx n n hi : Nat) : Int) 1)) _ _ s
  rw [places_gen]
  exact wpAny_pure h
theorem pick_gen (xs : Array Value) (i k : Nat) : ((List.range k).filterMap fun (m : Nat) => xs[((i : Int) + (m : Int) * 1).toNat]?).toArray = ((xs.toList.drop i).take k).toArray := by
  have e : (fun (m : Nat) => xs[((i : Int) + (m : Int) * 1).toNat]?) = fun m => xs[i + m]? := by
    funext m
    have : ((i : Int) + (m : Int) * 1).toNat = i + m := by omega
    rw [this]
  rw [e]
  have := pick_run xs i k
  rw [List.filterMap_map] at this
  have e2 : ((fun x => xs[x]?) ∘ fun x => i + x) = fun m => xs[i + m]? := rfl
  rw [e2] at this
  rw [this]
theorem getItem_tuple_cut {t sl : Addr} {items : Array Value} {vl vu : Value} {lo hi : Option Int} {Q : Value → Shared → Prop} (ht : IsTup s.heap t items) (hs : s.heap.IsSliceOf sl vl vu .none) (pl : IsPart vl lo) (pu : IsPart vu hi)
    (hw : ¬ (sIx items.size 0 lo = 0 ∧ sIx items.size items.size hi = items.size))
    (h : Q (.ref s.heap.objs.size) { s with heap := s.heap.push { cls := .type "tuple", data := .seq ((items.toList.drop (sIx items.size 0 lo)).take (sIx items.size items.size hi - sIx items.size 0 lo)).toArray } })
    (hsz : items.size ≤ sizeLine) : wpAny (model prog w) A (getItem (.ref t) (.ref sl)) Q E s := by
  have htake : sizeOk (.seq ((items.toList.drop (sIx items.size 0 lo)).take (sIx items.size items.size hi - sIx items.size 0 lo)).toArray) := by
    show ((items.toList.drop (sIx items.size 0 lo)).take (sIx items.size items.size hi - sIx items.size 0 lo)).toArray.size ≤ sizeLine
    rw [List.size_toArray, List.length_take, List.length_drop, Array.length_toList]
    omega
  have hj : sIx items.size items.size hi ≤ items.size := sIx_le _ _ (Nat.le_refl _) hi
  obtain ⟨os, hos, hcs, hds⟩ := id hs
  have hTs : s.TypeIs (.ref sl) "slice" := ⟨os, hos, hcs⟩
  unfold getItem
  try with_reducible refine wpAny_holding ?_
  first | refine wpAny_bind (wpAny_pure ?_) | skip
  refine wpAny_bind (wpAny_sequenceKey ht.typeIs (by decide) ?_)
  refine wpAny_bind (wpAny_callSpecial?_slot (name := Str.ofString "__getitem__") ht.typeIs PyProof.Rows.slot_tuple_getitem
    (wpAny_call_entry PyProof.Rows.slot_tuple_getitem ht.typeIs entry_tuple_getitem ?_ (args_tuple_getitem _ _)))
  show wpAny _ _ (Builtin.Tuple.tupleItemsOf (.ref t) >>= _) _ _ s
  refine wpAny_bind (tupleItemsOf_ ht ?_)
  refine wpAny_bind (wpAny_typeOf hTs ?_)
  rw [if_pos (by decide)]
  refine wpAny_bind (sliceApplied_gen hs pl pu ?_)
  have hno : ¬ ((((sIx items.size 0 lo : Nat) : Int) == 0 && (1 : Int) == 1 && (sIx items.size items.size hi - sIx items.size 0 lo) == items.size) = true) := by
    intro q
    rw [Bool.and_eq_true, Bool.and_eq_true] at q
    have q1 : ((sIx items.size 0 lo : Nat) : Int) = 0 := eq_of_beq q.1.1
    have q2 : sIx items.size items.size hi - sIx items.size 0 lo = items.size := eq_of_beq q.2
    exact hw ⟨by omega, by omega⟩
  show wpAny _ _ (if (((sIx items.size 0 lo : Nat) : Int) == 0 && (1 : Int) == 1 && (sIx items.size items.size hi - sIx items.size 0 lo) == items.size) = true then _ else _) _ _ s
  rw [if_neg hno, pick_gen]
  first
    | exact wpAny_bind (m := Builtin.Tuple.tupleExact _) (wpAny_newObj_type (wpAny_pure ⟨_, rfl, wpAny_pure h⟩) htake)
    | exact wpAny_bind (m := Builtin.Tuple.tupleExact _) (wpAny_newObj_type (wpAny_bind (wpAny_pure (wpAny_pure ⟨_, rfl, wpAny_pure h⟩))) htake)
    | exact wpAny_bind (wpAny_bind (m := Builtin.Tuple.tupleExact _) (wpAny_newObj_type (wpAny_pure (wpAny_pure ⟨_, rfl, wpAny_pure h⟩)) htake))
    | exact wpAny_bind (wpAny_bind (m := Builtin.Tuple.tupleExact _) (wpAny_newObj_type (wpAny_pure ⟨_, rfl, wpAny_pure h⟩) htake))
end
end HT
namespace L2
open PySem PySem.Spec PyProof.Rows
abbrev TO := St → Hp → (Option Int → Hp → Prop) → Prop
def PO (X : Cx) (e : Option Expr) (t : TO) : Prop :=
  ∀ (pins : List (Addr × Obj)) (s : Shared) (σ : St) (H : Hp) (Q : Option Int → Hp → Prop), Inv X pins σ H s → t σ H Q →
    wpAny (model X.prog X.w) X.A (evalPart e X.env) (fun u s' => ∃ o H', Inv X pins σ H' s' ∧ IsPart u o ∧ Q o H') X.xe s
def tNoPart : TO := fun _ H Q => Q none H
def tPart (t : TE) : TO := fun σ H Q => t σ H fun x H1 => ∃ i, x = .int i ∧ Q (some i) H1
section
variable {X : Cx} {e : Expr} {te : TE} {lo hi : Option Expr} {tl th : TO} {pos p2 : Pos}
theorem po_none : PO X none tNoPart := by
  intro pins s σ H Q I h
  rw [evalPart_none]
  exact wpAny_pure ⟨none, H, I, .none, h⟩
theorem po_some (h : PE X e te) : PO X (some e) (tPart te) := by
  intro pins s σ H Q I hw
  rw [evalPart_some]
  refine thn (h pins s σ H _ I hw) fun u s1 ⟨x, H1, I1, r1, q1⟩ => ?_
  obtain ⟨i, rfl, q⟩ := q1
  obtain ⟨t, rfl⟩ := r1
  exact ⟨some i, H1, I1, .int i t, q⟩
def SlR (X : Cx) (r : V → Option Int → Option Int → Hp → VK → Prop) : Prop :=
  ∀ (pins : List (Addr × Obj)) (s : Shared) (σ : St) (H : Hp) (x : V) (v vl vu : Value) (lo hi : Option Int) (sl : Addr) (Q : VK), Inv X pins σ H s → RelV x v → s.heap.IsSliceOf sl vl vu .none → IsPart vl lo → IsPart vu hi → r x lo hi H Q →
    ∃ T id, typeLookup (.type T) "__getitem__" = pure (some (.builtin id)) ∧ s.TypeIs v T ∧ wpAny (model X.prog X.w) X.A (getItem v (.ref sl)) (EP X pins σ Q) X.xe s
def tSl (r : V → Option Int → Option Int → Hp → VK → Prop) (te : TE) (tl th : TO) : TE := fun σ H Q => te σ H fun x H1 => tl σ H1 fun l H2 => th σ H2 fun u H3 => r x l u H3 Q
theorem pe_slice {r : V → Option Int → Option Int → Hp → VK → Prop} (hr : SlR X r) (he : PE X e te) (hl : PO X lo tl) (hu : PO X hi th) : PE X (.Subscript e (.Slice lo hi none p2) pos) (tSl r te tl th) := by
  intro pins s σ H Q I h
  refine Subscript_ (thn (he pins s σ H _ I h) fun v s1 ⟨x, H1, I1, r1, q1⟩ => ?_)
  refine wpAny_Slice (thn (hl pins s1 σ H1 _ I1 q1) fun vl s2 ⟨l, H2, I2, pl, q2⟩ => thn (hu pins s2 σ H2 _ I2 q2) fun vu s3 ⟨u, H3, I3, pu, q3⟩ => ?_)
  rw [evalPart_none]
  refine wpAny_pure ?_
  have I4 : Inv X pins σ H3 { s3 with heap := s3.heap.push { cls := .type "slice", data := .fields #[vl, vu, .none] } } := I3.kept (t' := s3.toks) fun b ob q => Heap.get?_push_of_some _ q
  obtain ⟨T, id, hT, ht, hg⟩ := hr pins { s3 with heap := s3.heap.push { cls := .type "slice", data := .fields #[vl, vu, .none] } } σ H3 x v vl vu l u s3.heap.objs.size Q I4 r1 (Heap.IsSliceOf.new ..) pl pu q3
  show wpAny (model X.prog X.w) X.A (subscriptTail e (.Slice lo hi none p2) v (.ref s3.heap.objs.size)) (EP X pins σ Q) X.xe { s3 with heap := s3.heap.push { cls := .type "slice", data := .fields #[vl, vu, .none] } }
  exact tail_any (ops := [.ref s3.heap.objs.size, v]) ht hT hg (by with_unfolding_all rfl)
def cutV (xs : List V) (lo hi : Option Int) : List V := (xs.drop (HT.sIx xs.length 0 lo)).take (HT.sIx xs.length xs.length hi - HT.sIx xs.length 0 lo)
theorem cutV_length (xs : List V) (lo hi : Option Int) : (cutV xs lo hi).length ≤ xs.length := by
  unfold cutV
  rw [List.length_take, List.length_drop]
  omega
def rSlT (K : PySem.W.Frag) : V → Option Int → Option Int → Hp → VK → Prop := fun x lo hi H Q => ∃ a xs, x = .ref a ∧ SqT K H a xs ∧
  ¬ (HT.sIx xs.length 0 lo = 0 ∧ HT.sIx xs.length xs.length hi = xs.length) ∧ ∀ p, H p = none → Q (.ref p) (upd H p (.tup (cutV xs lo hi)))
theorem sl_tup : SlR X (rSlT X.K) := by
  intro pins s σ H x v vl vu lo hi sl Q I rx hs pl pu h
  obtain ⟨a, xs, rfl, hx, hw, q⟩ := h
  cases rx
  obtain ⟨its, r, ht, hz⟩ := I.tuple hx
  have hlen : its.toArray.size = xs.length := by rw [List.size_toArray]; exact r.length.symm
  refine ⟨"tuple", _, PyProof.Rows.slot_tuple_getitem.lookup, ht.typeIs, ?_⟩
  refine HT.getItem_tuple_cut ht hs pl pu (by rw [hlen]; exact hw) ?_ (by rw [hlen]; exact hz)
  rw [hlen]
  refine ⟨.ref s.heap.objs.size, _, I.laid (t' := s.toks) (o := .tup (cutV xs lo hi)) (fun b ob q => Heap.get?_push_of_some _ q) (Nat.le_refl _) ?_, rfl, q _ (I.hok.fresh (Nat.le_refl _))⟩
  exact ⟨⟨Nat.le_trans (cutV_length xs lo hi) hz, nod_push _ _⟩, _, (r.drop (HT.sIx xs.length 0 lo)).take (HT.sIx xs.length xs.length hi - HT.sIx xs.length 0 lo), IsTup.new _ _⟩
def rCatT (K : PySem.W.Frag) : R2 := fun x y H Q => ∃ a b xs ys, x = .ref a ∧ y = .ref b ∧ SqT K H a xs ∧ SqT K H b ys ∧ xs ≠ [] ∧ xs.length + ys.length ≤ sizeLine ∧
  (ys = [] → Q (.ref a) H) ∧ (ys ≠ [] → ∀ p, H p = none → Q (.ref p) (upd H p (.tup (xs ++ ys))))
theorem Vals.nil_iff {xs : List V} {us : List Value} (r : Vals xs us) : us = [] ↔ xs = [] := by
  cases r with
  | nil => simp
  | cons _ _ => simp
theorem op_catT : OpR X (binaryOp .Add) (rCatT X.K) := by
  intro pins s σ H x y v u Q I rx ry h
  obtain ⟨a, b, xs, ys, rfl, rfl, ha, hb, hx, hz, q1, q2⟩ := h
  cases rx
  cases ry
  obtain ⟨its, r1, p1, _⟩ := I.tuple ha
  obtain ⟨its2, r2, p2, _⟩ := I.tuple hb
  refine HT.cat_tup p1 p2 (fun z => hx (r1.nil_iff.mp z)) (fun z => ⟨.ref a, H, I, rfl, q1 (r2.nil_iff.mp z)⟩) (fun z => ?_) (by rw [← r1.length, ← r2.length]; exact hz)
  refine ⟨.ref s.heap.objs.size, _, I.laid (t' := s.toks) (o := .tup (xs ++ ys)) (fun b ob q => Heap.get?_push_of_some _ q) (Nat.le_refl _) ?_, rfl, q2 (fun w => z (r2.nil_iff.mpr w)) _ (I.hok.fresh (Nat.le_refl _))⟩
  exact ⟨⟨by rw [List.length_append]; exact hz, nod_push _ _⟩, _, r1.append r2, IsTup.new _ _⟩
end
end L2
namespace L2
open PySem PySem.Spec PyProof.Rows
def ixN (n : Nat) (i : Int) : Option Nat := if 0 ≤ i then (if i < n then some i.toNat else none) else if -(n : Int) ≤ i then some (i + n).toNat else none
def atI {α : Type} (xs : List α) (i : Int) : Option α := (ixN xs.length i).bind fun j => xs[j]?
theorem ixN_seq {n : Nat} {i : Int} {j : Nat} (h : ixN n i = some j) : seqIndex? i n = some j ∧ j < n ∧ -(n : Int) ≤ i ∧ i < n := by
  unfold ixN at h
  by_cases h0 : 0 ≤ i
  · rw [if_pos h0] at h
    by_cases h1 : i < n
    · rw [if_pos h1] at h
      have e : i.toNat = j := Option.some.inj h
      exact ⟨by rw [seqIndex_of h0 h1, e], by omega, by omega, h1⟩
    · rw [if_neg h1] at h; cases h
  · rw [if_neg h0] at h
    by_cases h1 : -(n : Int) ≤ i
    · rw [if_pos h1] at h
      have e : (i + n).toNat = j := Option.some.inj h
      exact ⟨by rw [seqIndex_neg (by omega) h1, e], by omega, h1, by omega⟩
    · rw [if_neg h1] at h; cases h
theorem atI_get {α : Type} {xs : List α} {i : Int} {v : α} (h : atI xs i = some v) : ∃ j, seqIndex? i xs.length = some j ∧ xs[j]? = some v ∧ j < xs.length ∧ -(xs.length : Int) ≤ i ∧ i < xs.length := by
  unfold atI at h
  cases e : ixN xs.length i with
  | none => rw [e] at h; cases h
  | some j =>
    rw [e] at h
    obtain ⟨h1, h2, h3, h4⟩ := ixN_seq e
    exact ⟨j, h1, h, h2, h3, h4⟩
theorem atI_nat {α : Type} {xs : List α} {j : Nat} {v : α} (h : xs[j]? = some v) : atI xs (j : Int) = some v := by
  have hj : j < xs.length := (List.getElem?_eq_some_iff.mp h).1
  have e : ixN xs.length (j : Int) = some j := by
    unfold ixN
    rw [if_pos (by omega), if_pos (by omega)]; simp
  unfold atI; rw [e]; exact h
theorem atI_last {α : Type} (xs : List α) (v : α) : atI (xs ++ [v]) (-1) = some v := by
  have hl : (xs ++ [v]).length = xs.length + 1 := by simp
  have e : ixN (xs ++ [v]).length (-1) = some xs.length := by
    unfold ixN
    rw [hl, if_neg (by decide), if_pos (by omega)]
    congr 1
    omega
  unfold atI
  rw [e]
  show (xs ++ [v])[xs.length]? = some v
  simp
def PlainIx (b : Expr) : Prop := ∀ o i, subscripted b false o i = operate [o, i] (getItem o i)
def IxR (X : Cx) (r : R2) : Prop :=
  ∀ (value slice : Expr) (pins : List (Addr × Obj)) (s : Shared) (σ : St) (H : Hp) (x y : V) (v u : Value) (Q : VK), Inv X pins σ H s → RelV x v → RelV y u → r x y H Q →
    subscripted slice false v u = operate [v, u] (getItem v u) → wpAny (model X.prog X.w) X.A (subscriptTail value slice v u) (EP X pins σ Q) X.xe s
def MtR (X : Cx) (id : String) (r : V → List V → Hp → VK → Prop) : Prop :=
  ∀ (pins : List (Addr × Obj)) (s : Shared) (σ : St) (H : Hp) (x : V) (xs : List V) (v : Value) (us : List Value) (Q : VK), Inv X pins σ H s → RelV x v → Vals xs us → r x xs H Q →
    wpAny (model X.prog X.w) X.A (call (.builtin id) (v :: us)) (EP X pins σ Q) X.xe s
section
variable {X : Cx} {a b : Expr} {ta tb : TE} {pos : Pos}
theorem pe_ix {r : R2} (hr : IxR X r) (ha : PE X a ta) (hb : PE X b tb) (hs : PlainIx b) : PE X (.Subscript a b pos) (tOp r ta tb) := by
  intro pins s σ H Q I h
  exact Subscript_ (binT ha hb I h fun v u s2 x y H2 I2 rx ry q => hr a b pins s2 σ H2 x y v u Q I2 rx ry q (hs _ _))
def rIxL (K : PySem.W.Frag) : R2 := fun x y H Q => ∃ p xs i v, x = .ref p ∧ y = .int i ∧ SqL K H p xs ∧ atI xs i = some v ∧ Q v H
def rIxT (K : PySem.W.Frag) : R2 := fun x y H Q => ∃ p xs i v, x = .ref p ∧ y = .int i ∧ SqT K H p xs ∧ atI xs i = some v ∧ Q v H
def rIxS : R2 := fun x y H Q => ∃ z i c, x = .str z ∧ y = .int i ∧ z.length ≤ sizeLine ∧ atI z.cps.toList i = some c ∧ Q (.str ⟨#[c]⟩) H
theorem ix_list : IxR X (rIxL X.K) := by
  intro value slice pins s σ H x y v u Q I rx ry h hs
  obtain ⟨p, xs, i, z, rfl, rfl, hq, he, q⟩ := h
  cases rx
  obtain ⟨t, rfl⟩ := ry
  obtain ⟨its, r, pl, hz⟩ := I.list hq
  obtain ⟨j, h1, h2, h3, h4, h5⟩ := atI_get he
  obtain ⟨w, ew, rw'⟩ := r.get h2
  have hl := r.length
  have hn := line63
  have fin : EP X pins σ Q w s := ⟨z, H, I, rw', q⟩
  by_cases h0 : 0 ≤ i
  · have hj : i.toNat = j := by
      rw [seqIndex_of h0 h5] at h1
      exact Option.some.inj h1
    exact item_listR pl.isList h0 (by omega) (by rw [hj]; simpa using ew) fin hs
  · have hj : (i + (its.toArray.size : Int)).toNat = j := by
      rw [seqIndex_neg (by omega) h4] at h1
      rw [List.size_toArray, ← hl]
      exact Option.some.inj h1
    exact subscriptTail_builtinR (x := w) pl.isList.typeIs slot_list_getitem.lookup
      (wpAny_getItem_list_neg (Q := fun r s' => r = w ∧ EP X pins σ Q r s') pl.isList (by omega) (by rw [List.size_toArray] <;> omega) (by omega) (by rw [hj]; simpa using ew) ⟨rfl, fin⟩) hs
theorem ix_tup : IxR X (rIxT X.K) := by
  intro value slice pins s σ H x y v u Q I rx ry h hs
  obtain ⟨p, xs, i, z, rfl, rfl, hq, he, q⟩ := h
  cases rx
  obtain ⟨t, rfl⟩ := ry
  obtain ⟨its, r, pl, hz⟩ := I.tuple hq
  obtain ⟨j, h1, h2, h3, h4, h5⟩ := atI_get he
  obtain ⟨w, ew, rw'⟩ := r.get h2
  have hl := r.length
  have hn := line63
  have fin : EP X pins σ Q w s := ⟨z, H, I, rw', q⟩
  exact subscriptTail_builtinR (x := w) pl.typeIs slot_tuple_getitem.lookup
    (getItem_tuple (j := j) (Q := fun r s' => r = w ∧ EP X pins σ Q r s') pl (by omega) (by omega) (by rw [List.size_toArray, ← hl]; exact h1) (by simpa using ew) ⟨rfl, fin⟩) hs
theorem ix_str : IxR X rIxS := by
  intro value slice pins s σ H x y v u Q I rx ry h hs
  obtain ⟨z, i, c, rfl, rfl, hz, he, q⟩ := h
  obtain ⟨t, rfl⟩ := rx
  obtain ⟨t', rfl⟩ := ry
  obtain ⟨j, h1, h2, h3, h4, h5⟩ := atI_get he
  have hl : z.cps.toList.length = z.length := by simp [Str.length]
  rw [hl] at h1 h4 h5
  have hn := line63
  exact tail_any (typeIs_str s z t) slot_str_getitem.lookup (getItem_str (c := c) (by
    have e1 : decide (i < -(2 ^ 63 : Int)) = false := decide_eq_false (by omega)
    have e2 : decide (i ≥ 2 ^ 63) = false := decide_eq_false (by omega)
    rw [e1, e2, Bool.or_false]) (by rw [h1]; simpa using h2) ⟨.str ⟨#[c]⟩, H, I.tok _, ⟨_, rfl⟩, q⟩) hs
theorem mapSeq_set (its : List Value) (n j : Nat) (u : Value) : Obj.mapSeq (·.setIfInBounds j u) { cls := .type "list", data := .seq its.toArray n } = { cls := .type "list", data := .seq (its.set j u).toArray n } := by
  simp [Obj.mapSeq]
theorem Inv.lst {pins : List (Addr × Obj)} {σ : St} {H : Hp} {s : Shared} {p : Addr} {xs : List V} (I : Inv X pins σ H s) (h : H p = some (.lst xs)) :
    ∃ (its : List Value) (n : Nat), Vals xs its ∧ s.heap.get? p = some { cls := .type "list", data := .seq its.toArray n } ∧ xs.length ≤ sizeLine := by
  obtain ⟨z, its, n, r, e⟩ := I.hok p _ h
  exact ⟨its, n, r, e, z⟩
theorem Inv.lstUpd {pins : List (Addr × Obj)} {σ : St} {H : Hp} {s : Shared} {p : Addr} {xs ys : List V} {its its' : List Value} {n n' : Nat} {f : Obj → Obj} (I : Inv X pins σ H s) (h : H p = some (.lst xs))
    (ho : s.heap.get? p = some { cls := .type "list", data := .seq its.toArray n }) (hf : f { cls := .type "list", data := .seq its.toArray n } = { cls := .type "list", data := .seq its'.toArray n' }) (r : Vals ys its') (hz : ys.length ≤ sizeLine) (t : Nat) :
    Inv X pins σ (upd H p (.lst ys)) { s with heap := s.heap.update p f, toks := t } := by
  have e : (s.heap.update p f).get? p = some { cls := .type "list", data := .seq its'.toArray n' } := by
    rw [Heap.get?_update_self f ho (by rw [hf] <;> rfl), hf]
  refine I.write (x := p) (e := p) (by rw [h]; trivial) (.inl rfl) (fun b u hb q => (Heap.get?_update_other _ _ (Ne.symm hb)).trans q) ⟨_, e⟩ ?_
  exact ⟨hz, its', n', r, e⟩
def rSetL : V → V → V → Hp → (Hp → Prop) → Prop := fun o i v H Q => ∃ p xs k j, o = .ref p ∧ i = .int k ∧ H p = some (.lst xs) ∧ ixN xs.length k = some j ∧ Q (upd H p (.lst (xs.set j v)))
theorem set_list : PSet X rSetL := by
  intro pins s σ H o i v ov iv u Q I ro ri rv h
  obtain ⟨p, xs, k, j, rfl, rfl, hp, hj, q⟩ := h
  cases ro
  obtain ⟨t, rfl⟩ := ri
  obtain ⟨its, n, r, ho, hz⟩ := I.lst hp
  obtain ⟨h1, h2, h3, h4⟩ := ixN_seq hj
  have hl := r.length
  have hn := line63
  have I' : Inv X pins σ (upd H p (.lst (xs.set j v))) { s with heap := s.heap.update p (Obj.mapSeq (·.setIfInBounds j u)) } :=
    I.lstUpd hp ho (mapSeq_set its n j u) (r.set rv j) (by rw [List.length_set]; exact hz) s.toks
  by_cases h0 : 0 ≤ k
  · have hk : k.toNat = j := by
      rw [seqIndex_of h0 h4] at h1
      exact Option.some.inj h1
    exact PySem.W.ki_setAt ho h0 (by omega) (by rw [List.size_toArray, ← hl]; exact h4) (by rw [hk]; exact ⟨_, I', q⟩)
  · have hk : (k + (its.toArray.size : Int)).toNat = j := by
      rw [seqIndex_neg (by omega) h3] at h1
      rw [List.size_toArray, ← hl]
      exact Option.some.inj h1
    exact PySem.W.ki_setBack ho (by omega) (by rw [List.size_toArray, ← hl]; exact h3) (by omega) (by rw [hk]; exact ⟨_, I', q⟩)
theorem slice_bounds (lo hi : Option Int) (n : Nat) : (sliceBounds lo hi none n).1 = ((HT.sIx n 0 lo : Nat) : Int) ∧ (sliceBounds lo hi none n).2.1 = ((HT.sIx n n hi : Nat) : Int) ∧ (sliceBounds lo hi none n).2.2 = 1 := by
  refine ⟨?_, ?_, rfl⟩
  · cases lo with
    | none => simp [sliceBounds, HT.sIx]
    | some i =>
      simp only [sliceBounds, HT.sIx, Option.getD_none, show (1 : Int) > 0 by decide, if_true]
      by_cases h : i < 0
      · simp only [h, if_true] <;> omega
      · simp only [h, if_false] <;> omega
  · cases hi with
    | none => simp [sliceBounds, HT.sIx]
    | some i =>
      simp only [sliceBounds, HT.sIx, Option.getD_none, show (1 : Int) > 0 by decide, if_true]
      by_cases h : i < 0
      · simp only [h, if_true] <;> omega
      · simp only [h, if_false] <;> omega
theorem slicePick_cut (its : List Value) (lo hi : Option Int) : slicePick its.toArray lo hi none = ((its.drop (HT.sIx its.length 0 lo)).take (HT.sIx its.length its.length hi - HT.sIx its.length 0 lo)).toArray := by
  obtain ⟨h1, h2, h3⟩ := slice_bounds lo hi its.toArray.size
  unfold slicePick
  rw [h1, h2, h3]
  simp only [sliceRange_one, pick_run, List.size_toArray] <;> rfl
def rSlL (K : PySem.W.Frag) : V → Option Int → Option Int → Hp → VK → Prop := fun x lo hi H Q => ∃ a xs, x = .ref a ∧ SqL K H a xs ∧ ∀ p, H p = none → Q (.ref p) (upd H p (.lst (cutV xs lo hi)))
theorem sl_list : SlR X (rSlL X.K) := by
  intro pins s σ H x v vl vu lo hi sl Q I rx hs pl pu h
  obtain ⟨a, xs, rfl, hx, q⟩ := h
  cases rx
  obtain ⟨its, r, ht, hz⟩ := I.list hx
  have hlen := r.length
  refine ⟨"list", _, slot_list_getitem.lookup, ht.isList.typeIs, ?_⟩
  refine wpAny_getItem_list_slice ht.isList hs pl pu .none (by simp) ?_ (by rw [List.size_toArray] <;> omega)
  rw [slicePick_cut, ← hlen]
  refine ⟨.ref s.heap.objs.size, _, I.laid (t' := s.toks) (o := .lst (cutV xs lo hi)) (fun b ob q => Heap.get?_push_of_some _ q) (Nat.le_refl _) ?_, rfl, q _ (I.hok.fresh (Nat.le_refl _))⟩
  exact ⟨Nat.le_trans (cutV_length xs lo hi) hz, _, 0, (r.drop (HT.sIx xs.length 0 lo)).take (HT.sIx xs.length xs.length hi - HT.sIx xs.length 0 lo), Heap.get?_push_size _ rfl⟩
def flatV : V → Bool
  | .non => true
  | .bl _ => true
  | .int _ => true
  | .str _ => true
  | _ => false
def eqV : V → V → Bool
  | .non, .non => true
  | .bl a, .bl b => a == b
  | .bl a, .int b => (if a then 1 else 0) == b
  | .int a, .bl b => a == (if b then 1 else 0)
  | .int a, .int b => a == b
  | .str a, .str b => a == b
  | _, _ => false
theorem eqAt_V {A : Around} {s : Shared} {y x : V} {u v : Value} (ry : RelV y u) (rx : RelV x v) (fy : flatV y = true) (fx : flatV x = true) : SeqAt.EqAt A s u v (eqV y x) := by
  cases y with
  | non =>
    cases ry
    cases x with
    | non => cases rx; exact SeqAt.EqAt.same _
    | bl b => cases rx; exact SeqAt.EqAt.none_bool b
    | int b => obtain ⟨t, rfl⟩ := rx; exact SeqAt.EqAt.none_int b t
    | str b => obtain ⟨t, rfl⟩ := rx; exact SeqAt.EqAt.none_str b t
    | _ => exact absurd (show false = true from fx) Bool.false_ne_true
  | bl a =>
    cases ry
    cases x with
    | non => cases rx; exact SeqAt.EqAt.bool_none a
    | bl b => cases rx; exact SeqAt.EqAt.bool_bool a b
    | int b => obtain ⟨t, rfl⟩ := rx; exact SeqAt.EqAt.bool_int a b t
    | str b => obtain ⟨t, rfl⟩ := rx; exact SeqAt.EqAt.bool_str a b t
    | _ => exact absurd (show false = true from fx) Bool.false_ne_true
  | int a =>
    obtain ⟨t', rfl⟩ := ry
    cases x with
    | non => cases rx; exact SeqAt.EqAt.int_none a t'
    | bl b => cases rx; exact SeqAt.EqAt.int_bool a t' b
    | int b => obtain ⟨t, rfl⟩ := rx; exact SeqAt.EqAt.int_int a t' b t
    | str b => obtain ⟨t, rfl⟩ := rx; exact SeqAt.EqAt.int_str a t' b t
    | _ => exact absurd (show false = true from fx) Bool.false_ne_true
  | str a =>
    obtain ⟨t', rfl⟩ := ry
    cases x with
    | non => cases rx; exact SeqAt.EqAt.str_none a t'
    | bl b => cases rx; exact SeqAt.EqAt.str_bool a t' b
    | int b => obtain ⟨t, rfl⟩ := rx; exact SeqAt.EqAt.str_int a t' b t
    | str b => obtain ⟨t, rfl⟩ := rx; exact SeqAt.EqAt.str_str a t' b t
    | _ => exact absurd (show false = true from fx) Bool.false_ne_true
  | _ => exact absurd (show false = true from fy) Bool.false_ne_true
def eqU (x : V) (u : Value) : Bool := match u with
  | .none => eqV .non x
  | .bool b => eqV (.bl b) x
  | .int i _ => eqV (.int i) x
  | .str z _ => eqV (.str z) x
  | _ => false
theorem eqU_of {x y : V} {u : Value} (r : RelV y u) (f : flatV y = true) : eqU x u = eqV y x := by
  cases y with
  | non => cases r; rfl
  | bl b => cases r; rfl
  | int i => obtain ⟨t, rfl⟩ := r; rfl
  | str z => obtain ⟨t, rfl⟩ := r; rfl
  | _ => exact absurd (show false = true from f) Bool.false_ne_true
theorem any_eqU {x : V} : ∀ {xs : List V} {us : List Value}, Vals xs us → xs.all flatV = true → us.any (eqU x) = xs.any fun y => eqV y x
  | _, _, .nil, _ => rfl
  | y :: xs, u :: us, .cons r t, f => by
    rw [List.all_cons, Bool.and_eq_true] at f
    rw [List.any_cons, List.any_cons, eqU_of r f.1, any_eqU t f.2]
theorem mem_eqAt {A : Around} {s : Shared} {x : V} {v : Value} (rx : RelV x v) (fx : flatV x = true) : ∀ {xs : List V} {us : List Value}, Vals xs us → xs.all flatV = true → ∀ u ∈ us, SeqAt.EqAt A s u v (eqU x u)
  | _, _, .nil, _ => fun u hu => by cases hu
  | y :: xs, u :: us, .cons r t, f => fun u' hu => by
    rw [List.all_cons, Bool.and_eq_true] at f
    rcases List.mem_cons.mp hu with rfl | hu
    · rw [eqU_of r f.1]; exact eqAt_V r rx f.1 fx
    · exact mem_eqAt rx fx t f.2 u' hu
def inV (x : V) (xs : List V) : Bool := xs.any fun y => eqV y x
def rIn (K : PySem.W.Frag) (neg : Bool) : R2 := fun x y H Q => ∃ p xs, y = .ref p ∧ (SqL K H p xs ∨ SqT K H p xs) ∧ flatV x = true ∧ xs.all flatV = true ∧ Q (.bl (if neg then !inV x xs else inV x xs)) H
theorem op_in_seq : OpR X (compareOp .In) (rIn X.K false) := by
  intro pins s σ H x y v u Q I rx ry h
  obtain ⟨p, xs, rfl, hq, fx, fs, q⟩ := h
  cases ry
  rcases hq with hq | hq
  · obtain ⟨its, r, pl, hz⟩ := I.list hq
    refine SeqAt.in_listAt (eqU x) pl.isList (fun w hw => mem_eqAt rx fx r fs w (by simpa using hw)) ⟨.bl _, H, I, rfl, ?_⟩
    rw [show its.toArray.any (eqU x) = its.any (eqU x) by simp, any_eqU r fs]
    exact q
  · obtain ⟨its, r, pl, hz⟩ := I.tuple hq
    refine SeqAt.in_tupleAt (eqU x) pl (fun w hw => mem_eqAt rx fx r fs w (by simpa using hw)) ⟨.bl _, H, I, rfl, ?_⟩
    rw [show its.toArray.any (eqU x) = its.any (eqU x) by simp, any_eqU r fs]
    exact q
theorem op_notIn_seq : OpR X (compareOp .NotIn) (rIn X.K true) := by
  intro pins s σ H x y v u Q I rx ry h
  obtain ⟨p, xs, rfl, hq, fx, fs, q⟩ := h
  cases ry
  rcases hq with hq | hq
  · obtain ⟨its, r, pl, hz⟩ := I.list hq
    refine SeqAt.notIn_listAt (eqU x) pl.isList (fun w hw => mem_eqAt rx fx r fs w (by simpa using hw)) ⟨.bl _, H, I, rfl, ?_⟩
    rw [show its.toArray.any (eqU x) = its.any (eqU x) by simp, any_eqU r fs]
    exact q
  · obtain ⟨its, r, pl, hz⟩ := I.tuple hq
    refine SeqAt.notIn_tupleAt (eqU x) pl (fun w hw => mem_eqAt rx fx r fs w (by simpa using hw)) ⟨.bl _, H, I, rfl, ?_⟩
    rw [show its.toArray.any (eqU x) = its.any (eqU x) by simp, any_eqU r fs]
    exact q
theorem call_len_seq : CallR X (.builtin "len") (fun xs H Q => ∃ p ys, xs = [.ref p] ∧ (SqL X.K H p ys ∨ SqT X.K H p ys) ∧ Q (.int ys.length) H) := by
  intro pins s σ H xs us Q I r h
  obtain ⟨p, ys, rfl, hq, q⟩ := h
  obtain ⟨u, rfl, rx⟩ := vals1 r
  cases rx
  have hn := line63
  rcases hq with hq | hq
  · obtain ⟨its, r', pl, hz⟩ := I.list hq
    have hlen := r'.length
    exact Calls.call_len_list pl.isList (by simp only [List.size_toArray] <;> omega) ⟨.int ys.length, H, I.tok _, ⟨s.toks + 1, by rw [List.size_toArray, hlen]⟩, q⟩
  · obtain ⟨its, r', pl, hz⟩ := I.tuple hq
    have hlen := r'.length
    exact len_tuple pl (by simp only [List.size_toArray] <;> omega) ⟨.int ys.length, H, I.tok _, ⟨s.toks + 1, by rw [List.size_toArray, hlen]⟩, q⟩
theorem call_list_of : CallR X (.type "list") (fun xs H Q => ∃ p ys, xs = [.ref p] ∧ (SqL X.K H p ys ∨ SqT X.K H p ys) ∧ ∀ l, H l = none → Q (.ref l) (upd H l (.lst ys))) := by
  intro pins s σ H xs us Q I r h
  obtain ⟨p, ys, rfl, hq, q⟩ := h
  obtain ⟨u, rfl, rx⟩ := vals1 r
  cases rx
  have fin : ∀ (its : List Value), Vals ys its → ys.length ≤ sizeLine → ∀ (h' : Heap) (c' : Nat), (∀ b o', s.heap.get? b = some o' → h'.get? b = some o') →
      h'.get? s.heap.objs.size = some { cls := .type "list", dict := none, data := .seq its.toArray c', slots := #[] } → EP X pins σ Q (.ref s.heap.objs.size) { s with heap := h' } := fun its r' hz h' c' kp e =>
    ⟨.ref s.heap.objs.size, _, I.laid (t' := s.toks) kp (Nat.le_refl _) (show ObjOk X.prog X.w _ h' _ (.lst ys) from ⟨hz, its, c', r', e⟩), rfl, q _ (I.hok.fresh (Nat.le_refl _))⟩
  rcases hq with hq | hq
  · obtain ⟨its, r', pl, hz⟩ := I.list hq
    have hlen := r'.length
    obtain ⟨o, ho, hc, n, hd⟩ := pl.isList
    exact call_list_seq p (.inl rfl) ho hc hd (fun h' c' kp e => fin its r' hz h' c' kp e) (by simp only [List.size_toArray] <;> omega)
  · obtain ⟨its, r', pl, hz⟩ := I.tuple hq
    have hlen := r'.length
    obtain ⟨o, ho, hc, n, hd⟩ := pl
    exact call_list_seq p (.inr rfl) ho hc hd (fun h' c' kp e => fin its r' hz h' c' kp e) (by simp only [List.size_toArray] <;> omega)
theorem call_tuple_of : CallR X (.type "tuple") (fun xs H Q => ∃ p ys, xs = [.ref p] ∧ ((SqL X.K H p ys ∧ ∀ l, H l = none → Q (.ref l) (upd H l (.tup ys))) ∨ (SqT X.K H p ys ∧ Q (.ref p) H))) := by
  intro pins s σ H xs us Q I r h
  obtain ⟨p, ys, rfl, h⟩ := h
  obtain ⟨u, rfl, rx⟩ := vals1 r
  cases rx
  rcases h with ⟨hq, q⟩ | ⟨hq, q⟩
  · obtain ⟨its, r', pl, hz⟩ := I.list hq
    have hlen := r'.length
    refine call_tuple_list pl.isList (fun h' kp => ?_) (by simp only [List.size_toArray] <;> omega)
    have I1 : Inv X pins σ H { s with heap := h' } := I.kept (t' := s.toks) kp
    have I2 : Inv X pins σ (upd H h'.objs.size (.tup ys)) { s with heap := h'.push { cls := .type "tuple", data := .seq its.toArray } } :=
      I1.laid (t' := s.toks) (fun b o e => Heap.get?_push_of_some _ e) (Nat.le_refl _) (show ObjOk X.prog X.w _ _ _ (.tup ys) from ⟨⟨hz, nod_push _ _⟩, its, r', IsTup.new _ _⟩)
    exact ⟨.ref h'.objs.size, _, I2, rfl, q _ (I1.hok.fresh (Nat.le_refl _))⟩
  · obtain ⟨its, r', pl, hz⟩ := I.tuple hq
    exact call_tuple_same pl ⟨.ref p, H, I, rfl, q⟩
def tyV (K : PySem.W.Frag) (T : String) (x : V) (H : Hp) : Prop := match x with
  | .str _ => T = "str"
  | .int _ => T = "int"
  | .ref p => (T = "list" ∧ ∃ xs, SqL K H p xs) ∨ (T = "tuple" ∧ ∃ o, K.lookup p = some o ∧ o.cls = .type "tuple" ∧ o.dict = none) ∨
      (T = "dict" ∧ ((∃ kvs, H p = some (.dK kvs)) ∨ ∃ kvs, H p = some (.dT kvs))) ∨ (T = "set" ∧ ∃ S n, H p = some (.set S n))
  | _ => False
theorem tyV_is {pins : List (Addr × Obj)} {σ : St} {H : Hp} {s : Shared} {T : String} {x : V} {v : Value} (I : Inv X pins σ H s) (r : RelV x v) (ty : tyV X.K T x H) :
    s.TypeIs v T ∧ ∀ a, v = .ref a → ∃ ob, s.heap.get? a = some ob ∧ ob.dict = none := by
  cases x with
  | str z =>
    obtain ⟨t, rfl⟩ := r
    cases (show T = "str" from ty)
    exact ⟨typeIs_str s z t, fun _ e => nomatch e⟩
  | int i =>
    obtain ⟨t, rfl⟩ := r
    cases (show T = "int" from ty)
    exact ⟨typeIs_int s i t, fun _ e => nomatch e⟩
  | ref p =>
    cases r
    rcases ty with ⟨rfl, xs, hq⟩ | ⟨rfl, o, hk, hc, hd⟩ | ⟨rfl, hk⟩ | ⟨rfl, S, n, hk⟩
    · obtain ⟨its, _, pl, _⟩ := I.list hq
      refine ⟨pl.isList.typeIs, fun a e => ?_⟩
      cases e
      obtain ⟨o, n, e, c, hd, _⟩ := pl
      exact ⟨o, e, hd⟩
    · refine ⟨⟨o, I.kIn p o hk, hc⟩, fun a e => ?_⟩
      cases e
      exact ⟨o, I.kIn _ o hk, hd⟩
    · have z : ∃ o, s.heap.get? p = some o ∧ o.ExactDict := by
        rcases hk with ⟨kvs, hk⟩ | ⟨kvs, hk⟩
        · obtain ⟨_, _, _, _, o, _, _, e, ex, _⟩ := I.hok p _ hk
          exact ⟨o, e, ex⟩
        · obtain ⟨_, _, _, _, o, _, _, e, ex, _⟩ := I.hok p _ hk
          exact ⟨o, e, ex⟩
      obtain ⟨o, e, ex⟩ := z
      refine ⟨⟨o, e, ex.1⟩, fun a e2 => ?_⟩
      cases e2
      exact ⟨o, e, ex.2.1⟩
    · obtain ⟨o, _, _, _, e, ex, _⟩ := I.hok p _ hk
      refine ⟨⟨o, e, ex.1⟩, fun a e2 => ?_⟩
      cases e2
      exact ⟨o, e, ex.2.1⟩
  | _ => exact False.elim ty
def tBM (K : PySem.W.Frag) (T : String) (r : V → List V → Hp → VK → Prop) (to : TE) (t : TA) : TE := fun σ H Q => to σ H fun x H1 => tyV K T x H1 ∧ t σ H1 fun xs H2 => r x xs H2 Q
variable {o e : Expr} {es : List Expr} {to : TE} {t : TA} {name : Str} {apos cpos : Pos} {T id : String} {r : V → List V → Hp → VK → Prop}
theorem pe_bm (pa : PlainAttrs T) (slot : Slot T name id) (hty : typeOf (.builtin id) = pure (.type "method_descriptor")) (hm : MtR X id r) (ho : PE X o to) (ha : PA X (e :: es) t)
    (hbase : attributeBase o name X.env (eval o X.env) = eval o X.env := by rfl)
    (hfew : ((backTo cpos (starEach (e :: es) X.env)).all (fun x => !x.1) && (backToKw cpos (keywordEach [] X.env)).all (fun x => x.1.isSome)
      && decide ((e :: es).length + ([] : List Keyword).length + (if ([] : List Keyword).isEmpty then 0 else 1) < 30)) = true := by rfl)
    (hline : (apos.endLine == cpos.line) = true := by rfl) (hs : starEach (e :: es) X.env = (false, eval e X.env) :: starEach es X.env := by rfl) (hplain : (backTo cpos (starEach es X.env)).any (·.1) = false := by rfl) :
    PE X (.Call (.Attribute o name apos) (e :: es) [] cpos) (tBM X.K T r to t) := by
  intro pins s σ H Q I h
  refine wpAny_Call_method_late hbase hfew hline rfl (thn (ho pins s σ H _ I h) fun v s1 ⟨x, H1, I1, r1, ty, q1⟩ => ?_)
  obtain ⟨h1, h2⟩ := tyV_is I1 r1 ty
  refine ⟨T, id, pa, slot, hty, h1, h2, ?_⟩
  have hA := ha cpos pins s1 σ H1 _ I1 q1
  rw [hs] at hA ⊢
  refine Calls.callWith_builtin (by show (false || (backTo cpos (starEach es X.env)).any (·.1)) = false; rw [hplain] <;> rfl) (Calls.evalArgs_plain ?_)
  exact thn hA fun us s2 ⟨vs, H2, I2, r2, q2⟩ => hm pins s2 σ H2 x vs v us Q I2 r1 r2 q2
/- xs.append(e), list.index on a module's tuple .. are MtR facts of 06m -/
end
end L2
namespace L2
open PySem PySem.Spec PyProof.Rows
def MtM (X : Cx) (id : String) (r : V → List V → Hp → VK → Prop) : Prop :=
  ∀ (pins : List (Addr × Obj)) (s : Shared) (σ : St) (H : Hp) (x : V) (xs : List V) (v : Value) (us : List Value) (Q : VK), Inv X pins σ H s → RelV x v → Vals xs us → r x xs H Q →
    wpAny (model X.prog X.w) X.A (call (.builtin id) (v :: us)) (EP X pins σ Q) X.xe s
theorem Vals.one : ∀ {x : V} {us : List Value}, Vals [x] us → ∃ u, us = [u] ∧ RelV x u
  | _, _, .cons r .nil => ⟨_, rfl, r⟩
theorem Vals.eraseIdx : ∀ {xs : List V} {us : List Value} (i : Nat), Vals xs us → Vals (xs.eraseIdx i) (us.eraseIdx i)
  | _, _, _, .nil => .nil
  | _, _, 0, .cons _ t => t
  | _, _, i + 1, .cons r t => .cons r (Vals.eraseIdx i t)
theorem Vals.reverse {xs : List V} {us : List Value} (h : Vals xs us) : Vals xs.reverse us.reverse := by
  induction h with
  | nil => exact .nil
  | cons r t ih => rw [List.reverse_cons, List.reverse_cons]; exact Vals.append ih (.cons r .nil)
theorem Vals.rep {xs : List V} {us : List Value} (h : Vals xs us) : ∀ k : Nat, Vals (List.replicate k xs).flatten (List.replicate k us).flatten
  | 0 => .nil
  | k + 1 => by
    rw [List.replicate_succ, List.replicate_succ, List.flatten_cons, List.flatten_cons]
    exact Vals.append h (Vals.rep h k)
theorem len_erase {α : Type} : ∀ (l : List α) (i : Nat), (l.eraseIdx i).length ≤ l.length
  | [], _ => Nat.le_refl _
  | _ :: _, 0 => Nat.le_succ _
  | _ :: r, i + 1 => Nat.succ_le_succ (len_erase r i)
theorem foldl_rep (its : List Value) : ∀ (k : Nat) (acc : List Value),
    List.foldl (fun x1 x2 => x1 ++ x2) acc.toArray (List.replicate k its.toArray) = (acc ++ (List.replicate k its).flatten).toArray
  | 0, acc => by simp
  | k + 1, acc => by
    have e : acc.toArray ++ its.toArray = (acc ++ its).toArray := by simp
    have e2 : (acc ++ its) ++ (List.replicate k its).flatten = acc ++ (List.replicate (k + 1) its).flatten := by
      rw [List.replicate_succ, List.flatten_cons, List.append_assoc]
    rw [← e2, ← foldl_rep its k (acc ++ its), ← e, List.replicate_succ, List.foldl_cons]
section
variable {X : Cx} {pins : List (Addr × Obj)} {σ : St} {H : Hp} {s : Shared} {l b : Addr} {xs ys zs : List V}
theorem Inv.lset {its its' : List Value} {n : Nat} {f : Array Value → Array Value} {t' : Nat} (I : Inv X pins σ H s) (hH : H l = some (.lst xs))
    (e : s.heap.get? l = some { cls := .type "list", data := .seq its.toArray n }) (hf : f its.toArray = its'.toArray) (hv : Vals ys its') (hz : ys.length ≤ sizeLine) :
    Inv X pins σ (upd H l (.lst ys)) { s with heap := s.heap.update l (Obj.mapSeq f), toks := t' } := by
  have q := PySem.IsL.update e f
  rw [hf] at q
  refine I.write (x := l) (e := l) (by rw [hH]; exact trivial) (.inl rfl) (fun b' u hb hu => (Heap.get?_update_other s.heap (Obj.mapSeq f) (Ne.symm hb)).trans hu) ⟨_, q⟩ ?_
  exact ⟨hz, its', _, hv, q⟩
theorem Inv.lnew {its : List Value} {t' : Nat} (I : Inv X pins σ H s) (hv : Vals ys its) (hz : ys.length ≤ sizeLine) :
    Inv X pins σ (upd H s.heap.objs.size (.lst ys)) { s with heap := s.heap.push { cls := .type "list", data := .seq its.toArray }, toks := t' } :=
  I.laid (fun _ _ q => Heap.get?_push_of_some _ q) (Nat.le_refl _) ⟨hz, its, 0, hv, Heap.get?_push_size _ rfl⟩
theorem Inv.fresh (I : Inv X pins σ H s) : H s.heap.objs.size = none := I.hok.fresh (Nat.le_refl _)
theorem Inv.lstM (I : Inv X pins σ H s) (hH : H l = some (.lst xs)) : xs.length ≤ sizeLine ∧ ∃ (its : List Value) (n : Nat), Vals xs its ∧ xs.length = its.length ∧ s.heap.get? l = some { cls := .type "list", data := .seq its.toArray n } := by
  obtain ⟨z, its, n, r, e⟩ := I.hok l _ hH
  exact ⟨z, its, n, r, r.length, e⟩
theorem notLongL {n : Nat} (h : n ≤ sizeLine) : Builtin.List.listTooLong n = false := by
  unfold Builtin.List.listTooLong
  exact decide_eq_false (by omega)
end
section
variable {X : Cx}
def rAppend : V → List V → Hp → VK → Prop := fun x vs H Q => ∃ l xs y, x = .ref l ∧ vs = [y] ∧ H l = some (.lst xs) ∧ xs.length < sizeLine ∧ Q .non (upd H l (.lst (xs ++ [y])))
theorem mt_append : MtM X "list.append" rAppend := by
  intro pins s σ H x vs v us Q I rx rv h
  obtain ⟨l, xs, y, rfl, rfl, hH, hz, q⟩ := h
  cases rx
  obtain ⟨u, rfl, ru⟩ := rv.one
  obtain ⟨z, its, n, r, hl, e⟩ := I.lstM hH
  refine call_meets F.slot_list_append ⟨_, e, rfl⟩ F.entry_list_append (F.args_list_append_2 _ _) (PySem.list_append l its.toArray n u (by rw [List.size_toArray]; omega)) ⟨e, ?_⟩
  refine ⟨.non, _, I.lset (its' := its ++ [u]) hH e (by simp) (r.append (.cons ru .nil)) ?_, rfl, q⟩
  rw [List.length_append, List.length_singleton]
  omega
def rExtend : V → List V → Hp → VK → Prop := fun x vs H Q => ∃ l b xs zs, x = .ref l ∧ vs = [.ref b] ∧ H l = some (.lst xs) ∧ H b = some (.lst zs) ∧ xs.length + zs.length ≤ sizeLine ∧ Q .non (upd H l (.lst (xs ++ zs)))
theorem mt_extend : MtM X "list.extend" rExtend := by
  intro pins s σ H x vs v us Q I rx rv h
  obtain ⟨l, b, xs, zs, rfl, rfl, hH, hB, hz, q⟩ := h
  cases rx
  obtain ⟨u, rfl, ru⟩ := rv.one
  cases ru
  obtain ⟨z, its, n, r, hl, e⟩ := I.lstM hH
  obtain ⟨z2, its2, n2, r2, hl2, e2⟩ := I.lstM hB
  have hsz : its.toArray.size + its2.toArray.size ≤ sizeLine := by rw [List.size_toArray, List.size_toArray]; omega
  have hlong : ¬ (!its.toArray.isEmpty && Builtin.List.listTooLong (its.toArray.size + its2.toArray.size)) = true := by
    rw [notLongL hsz, Bool.and_false]
    exact Bool.false_ne_true
  refine call_meets F.slot_list_extend ⟨_, e, rfl⟩ F.entry_list_extend (F.args_list_extend_2 _ _)
    (AutoSeq1.list_extend_list_list_0 l its.toArray n b its2.toArray n2 hlong (by rw [List.size_toArray]; omega) (by omega)) ⟨e, e2, ?_⟩
  refine ⟨.non, _, I.lset (its' := its ++ its2) hH e (by simp) (r.append r2) ?_, rfl, q⟩
  rw [List.length_append]
  omega
def rPopAt : V → List V → Hp → VK → Prop := fun x vs H Q => ∃ l xs i k y, x = .ref l ∧ vs = [.int i] ∧ H l = some (.lst xs) ∧ -(2 ^ 63) ≤ i ∧ i < 2 ^ 63 ∧ seqIndex? i xs.length = some k ∧ xs[k]? = some y ∧ Q y (upd H l (.lst (xs.eraseIdx k)))
theorem mt_popAt : MtM X "list.pop" rPopAt := by
  intro pins s σ H x vs v us Q I rx rv h
  obtain ⟨l, xs, i, k, y, rfl, rfl, hH, h1, h2, hk, hy, q⟩ := h
  cases rx
  obtain ⟨u, rfl, ru⟩ := rv.one
  obtain ⟨t, rfl⟩ := ru
  obtain ⟨z, its, n, r, hl, e⟩ := I.lstM hH
  obtain ⟨w, hw, rw'⟩ := r.get hy
  refine call_meets F.slot_list_pop ⟨_, e, rfl⟩ F.entry_list_pop (F.args_list_pop_2 _ _)
    (MeetsSeq.list_pop_at l its.toArray n i t k w (fitsIndex_both h1 h2) (by rw [List.size_toArray, ← hl]; exact hk) (by rw [← Array.getElem?_toList]; exact hw) (by rw [List.size_toArray]; omega)) ⟨e, ?_⟩
  refine ⟨y, _, I.lset (its' := its.eraseIdx k) hH e ?_ (r.eraseIdx k) ?_, rw', q⟩
  · show its.toArray.eraseIdxIfInBounds k = (its.eraseIdx k).toArray
    rw [List.eraseIdxIfInBounds_toArray]
  · have := len_erase xs k
    omega
def rCat : R2 := fun x y H Q => ∃ l b xs zs, x = .ref l ∧ y = .ref b ∧ H l = some (.lst xs) ∧ H b = some (.lst zs) ∧ xs.length + zs.length ≤ sizeLine ∧ ∀ p, H p = none → Q (.ref p) (upd H p (.lst (xs ++ zs)))
theorem op_cat : OpR X (binaryOp .Add) rCat := by
  intro pins s σ H x y v u Q I rx ry h
  obtain ⟨l, b, xs, zs, rfl, rfl, hH, hB, hz, q⟩ := h
  cases rx
  cases ry
  obtain ⟨z, its, n, r, hl, e⟩ := I.lstM hH
  obtain ⟨z2, its2, n2, r2, hl2, e2⟩ := I.lstM hB
  refine PySem.P.add_list e e2 ?_ (by rw [List.size_toArray, List.size_toArray]; omega)
  have ea : its.toArray ++ its2.toArray = (its ++ its2).toArray := by simp
  rw [ea]
  exact ⟨.ref _, _, I.lnew (t' := s.toks) (r.append r2) (by rw [List.length_append]; omega), rfl, q _ I.fresh⟩
def rRep : R2 := fun x y H Q => ∃ l k xs, x = .ref l ∧ y = .int k ∧ H l = some (.lst xs) ∧ -(2 ^ 63) ≤ k ∧ k < 2 ^ 63 ∧ xs.length * k.toNat ≤ sizeLine ∧
  ∀ p, H p = none → Q (.ref p) (upd H p (.lst (List.replicate k.toNat xs).flatten))
theorem len_rep {α : Type} (xs : List α) (k : Nat) : (List.replicate k xs).flatten.length = k * xs.length := by
  induction k with
  | zero => simp
  | succ k ih => rw [List.replicate_succ, List.flatten_cons, List.length_append, ih, Nat.succ_mul, Nat.add_comm]
theorem op_rep : OpR X (binaryOp .Mult) rRep := by
  intro pins s σ H x y v u Q I rx ry h
  obtain ⟨l, k, xs, rfl, rfl, hH, h1, h2, hz, q⟩ := h
  cases rx
  obtain ⟨t, rfl⟩ := ry
  obtain ⟨z, its, n, r, hl, e⟩ := I.lstM hH
  have hlen : its.toArray.size * k.toNat ≤ sizeLine := by rw [List.size_toArray, ← hl]; exact hz
  have hcap : ¬ its.toArray.size * k.toNat > (2 ^ 63 - 1) / 8 := by
    have : (sizeLine : Nat) ≤ (2 ^ 63 - 1) / 8 := by decide
    omega
  have hfit : ¬ (!Builtin.List.listFitsIndex k) = true := by
    rw [fitsIndex_both h1 h2]
    exact Bool.false_ne_true
  have hlong : ¬ Builtin.List.listTooLong (its.toArray.size * k.toNat) = true := by
    rw [notLongL hlen]
    exact Bool.false_ne_true
  have hnew : List.foldl (fun x1 x2 => x1 ++ x2) #[] (List.replicate (if its.toArray.isEmpty = true then 0 else k.toNat) its.toArray) = (List.replicate k.toNat its).flatten.toArray := by
    have f0 : ∀ m : Nat, List.foldl (fun x1 x2 => x1 ++ x2) #[] (List.replicate m its.toArray) = (List.replicate m its).flatten.toArray := fun m => by
      have := foldl_rep its m []
      rw [List.nil_append] at this
      exact this
    rw [f0]
    cases its with
    | nil => simp
    | cons a r' => rw [if_neg (by simp)]
  refine wpAny_binaryOp_repeat_ref (T := "list") (U := "int") (by decide) ⟨_, e, rfl⟩ (fun s' => typeIs_int s' k t) noFill_list_mul F.fills_int_mul F.slot_int_rmul repeat_list F.slot_int_index.lookup
    (call_meets F.slot_int_rmul (typeIs_int s k t) F.entry_int_rmul (F.args_int_rmul_2 _ _) (int___rmul___int_list k t l its.toArray n)
      ⟨e, rfl, ⟨_, e, rfl⟩, call_meets F.slot_list_mul ⟨_, e, rfl⟩ F.entry_list_mul (F.args_list_mul_2 _ _) (AutoListH.list___mul___list_int_3 l its.toArray n k t hfit hcap hlong) ⟨e, ?_⟩⟩)
  rw [hnew]
  exact ⟨.ref _, _, I.lnew (t' := s.toks) (r.rep k.toNat) (by rw [len_rep, Nat.mul_comm]; exact hz), rfl, q _ I.fresh⟩
end
section
variable {prog : Program} {w : World} {A : Around} {E : Value → Shared → Prop} {s : Shared}
set_option maxRecDepth 100000 in
end
section
variable {X : Cx}
end
end L2
end
section
namespace L2
open PySem PySem.Spec PyProof.Rows
section
variable {κ : Type} [DecidableEq κ]
def valV (kvs : List (κ × V)) (k : κ) : Option V := (kvs.find? fun kv => decide (kv.1 = k)).map (·.2)
def putK (kvs : List (κ × V)) (k : κ) (v : V) : List (κ × V) :=
  if (kvs.any fun kv => decide (kv.1 = k)) = true then kvs.map (fun kv => if kv.1 = k then (kv.1, v) else kv) else kvs ++ [(k, v)]
def dropK (kvs : List (κ × V)) (k : κ) : List (κ × V) := kvs.filter fun kv => decide (kv.1 ≠ k)
theorem valV_pos {p : κ × V} {r : List (κ × V)} {k : κ} (e : p.1 = k) : valV (p :: r) k = some p.2 := by simp [valV, List.find?_cons, e]
theorem valV_neg {p : κ × V} {r : List (κ × V)} {k : κ} (e : ¬ p.1 = k) : valV (p :: r) k = valV r k := by simp [valV, List.find?_cons, e]
theorem valV_any (k : κ) : ∀ kvs : List (κ × V), (kvs.any fun kv => decide (kv.1 = k)) = (valV kvs k).isSome
  | [] => rfl
  | p :: r => by
    rw [List.any_cons]
    by_cases e : p.1 = k
    · simp only [valV_pos e, decide_eq_true e, Bool.true_or, Option.isSome_some]
    · rw [valV_neg e, decide_eq_false e, Bool.false_or]; exact valV_any k r
theorem valV_map (k j : κ) (y : V) : ∀ kvs : List (κ × V), valV (kvs.map fun kv => if kv.1 = k then (kv.1, y) else kv) j = (valV kvs j).map fun x => if j = k then y else x
  | [] => rfl
  | p :: r => by
    have ih := valV_map k j y r
    rw [List.map_cons]
    by_cases h : p.1 = k
    · rw [if_pos h]
      by_cases e : p.1 = j
      · rw [valV_pos (p := (p.1, y)) e, valV_pos e, Option.map_some, if_pos (e.symm.trans h)]
      · rw [valV_neg (p := (p.1, y)) e, valV_neg e, ih]
    · rw [if_neg h]
      by_cases e : p.1 = j
      · rw [valV_pos (p := p) e, valV_pos e, Option.map_some, if_neg (fun z => h (e.trans z))]
      · rw [valV_neg (p := p) e, valV_neg e, ih]
theorem valV_snoc (k j : κ) (y : V) : ∀ kvs : List (κ × V), valV kvs k = none → valV (kvs ++ [(k, y)]) j = if j = k then some y else valV kvs j
  | [], _ => by
    by_cases e : k = j
    · rw [if_pos e.symm]; exact valV_pos (p := (k, y)) e
    · rw [if_neg (fun z => e z.symm)]; exact valV_neg (p := (k, y)) e
  | p :: r, hn => by
    rw [List.cons_append]
    have hk : ¬ p.1 = k := fun z => by rw [valV_pos z] at hn; cases hn
    rw [valV_neg hk] at hn
    have ih := valV_snoc k j y r hn
    by_cases e : p.1 = j
    · rw [valV_pos e, valV_pos e, if_neg (fun z => hk (e.trans z))]
    · rw [valV_neg e, valV_neg e, ih]
theorem valV_put (kvs : List (κ × V)) (k j : κ) (y : V) : valV (putK kvs k y) j = if j = k then some y else valV kvs j := by
  unfold putK
  by_cases a : (kvs.any fun kv => decide (kv.1 = k)) = true
  · rw [if_pos a, valV_map]
    rw [valV_any] at a
    by_cases e : j = k
    · obtain ⟨x, hx⟩ := Option.isSome_iff_exists.mp a
      rw [if_pos e, e, hx, Option.map_some, if_pos rfl]
    · rw [if_neg e]
      cases valV kvs j with
      | none => rfl
      | some x => rw [Option.map_some, if_neg e]
  · rw [if_neg a]
    refine valV_snoc k j y kvs ?_
    rw [valV_any] at a
    cases q : valV kvs k with
    | none => rfl
    | some x => rw [q] at a; exact (a rfl).elim
theorem length_putK (kvs : List (κ × V)) (k : κ) (v : V) : (putK kvs k v).length ≤ kvs.length + 1 := by
  unfold putK
  split
  · rw [List.length_map]; omega
  · rw [List.length_append, List.length_cons, List.length_nil]; omega
theorem RelO.isSome_eq {o : Option V} {u : Option Value} (r : RelO o u) : o.isSome = u.isSome := by
  cases o with
  | none => cases u with
    | none => rfl
    | some _ => exact (show False from r).elim
  | some _ => cases u with
    | none => exact (show False from r).elim
    | some _ => rfl
theorem RelO.getD {o : Option V} {u : Option Value} {d : V} {d' : Value} (r : RelO o u) (rd : RelV d d') : RelV (o.getD d) (u.getD d') := by
  cases o with
  | none => cases u with
    | none => exact rd
    | some _ => exact (show False from r).elim
  | some _ => cases u with
    | none => exact (show False from r).elim
    | some _ => exact r
theorem KV.val {kvs : List (κ × V)} {vs : List (κ × Value)} (r : KV kvs vs) (k : κ) : RelO (valV kvs k) (valueAt vs k) := by
  unfold KV at r
  induction r with
  | nil => exact True.intro
  | @cons p q ps qs h t ih =>
    obtain ⟨h1, h2⟩ := h
    by_cases e : p.1 = k
    · have e' : q.1 = k := h1.symm.trans e
      have b : valueAt (q :: qs) k = some q.2 := by simp [valueAt, List.find?_cons, e']
      rw [valV_pos e, b]; exact h2
    · have e' : ¬ q.1 = k := fun z => e (h1.trans z)
      have b : valueAt (q :: qs) k = valueAt qs k := by simp [valueAt, List.find?_cons, e']
      rw [valV_neg e, b]; exact ih
theorem KV.any {kvs : List (κ × V)} {vs : List (κ × Value)} (r : KV kvs vs) (k : κ) : (kvs.any fun kv => decide (kv.1 = k)) = vs.any fun kv => decide (kv.1 = k) := by
  unfold KV at r
  induction r with
  | nil => rfl
  | cons h t ih => rw [List.any_cons, List.any_cons, ih, h.1]
theorem KV.repl {kvs : List (κ × V)} {vs : List (κ × Value)} (r : KV kvs vs) (k : κ) {y : V} {u : Value} (ry : RelV y u) :
    KV (kvs.map fun kv => if kv.1 = k then (kv.1, y) else kv) (vs.map fun kv => if kv.1 = k then (kv.1, u) else kv) := by
  unfold KV at r ⊢
  induction r with
  | nil => exact .nil
  | @cons p q ps qs h t ih =>
    rw [List.map_cons, List.map_cons]
    refine .cons ?_ ih
    obtain ⟨h1, h2⟩ := h
    by_cases e : p.1 = k
    · rw [if_pos e, if_pos (h1.symm.trans e)]; exact ⟨h1, ry⟩
    · rw [if_neg e, if_neg (fun z => e (h1.trans z))]; exact ⟨h1, h2⟩
theorem KV.put {kvs : List (κ × V)} {vs : List (κ × Value)} (r : KV kvs vs) (k : κ) {y : V} {u : Value} (ry : RelV y u) : KV (putK kvs k y) (stored vs k u) := by
  unfold putK stored
  rw [r.any k]
  by_cases e : (vs.any fun kv => decide (kv.1 = k)) = true
  · rw [if_pos e, if_pos e]; exact r.repl k ry
  · rw [if_neg e, if_neg e]; exact Paired.snoc r ⟨rfl, ry⟩
theorem KV.length {kvs : List (κ × V)} {vs : List (κ × Value)} (r : KV kvs vs) : kvs.length = vs.length := Paired.length r
end
theorem kV_is {P : Program} {w : World} {k : Key} {u : Value} (r : RelV (kV k) u) : (mixKind P w).is k u = true := by
  cases k with
  | inl i => obtain ⟨t, e⟩ := (show ∃ t, u = Value.int i t from r); subst e; exact mixKind_int P w i t
  | inr x => obtain ⟨t, e⟩ := (show ∃ t, u = Value.str x t from r); subst e; exact mixKind_str P w x t
theorem items_are {P : Program} {w : World} : ∀ {ks : List Key} {us : List Value}, Vals (ks.map kV) us → ItemsAre (mixKind P w) ks us
  | [], _, r => by rw [List.map_nil] at r; cases r; exact .nil
  | k :: ks, _, r => by
    rw [List.map_cons] at r
    cases r with
    | cons h t => exact .cons (kV_is h) (items_are t)
abbrev KT (H : Hp) : List (List Key × V) → List (List Key × Addr × Value) → Prop := Paired fun p q => p.1 = q.1 ∧ H q.2.1 = some (.tup (p.1.map kV)) ∧ RelV p.2 q.2.2
theorem KT.val {H : Hp} {kvs : List (List Key × V)} {xs : List (List Key × Addr × Value)} (r : KT H kvs xs) (k : List Key) : RelO (valV kvs k) ((atKey xs k).map (·.2)) := by
  induction r with
  | nil => exact True.intro
  | @cons p q ps qs h t ih =>
    obtain ⟨h1, _, h2⟩ := h
    by_cases e : p.1 = k
    · have e' : q.1 = k := h1.symm.trans e
      have b : atKey (q :: qs) k = some q.2 := by simp [atKey, List.find?_cons, e']
      rw [valV_pos e, b]; exact h2
    · have e' : ¬ q.1 = k := fun z => e (h1.trans z)
      have b : atKey (q :: qs) k = atKey qs k := by simp [atKey, List.find?_cons, e']
      rw [valV_neg e, b]; exact ih
theorem KT.repl {H : Hp} {kvs : List (List Key × V)} {xs : List (List Key × Addr × Value)} (r : KT H kvs xs) (k : List Key) {y : V} {u : Value} (ry : RelV y u) :
    KT H (kvs.map fun kv => if kv.1 = k then (kv.1, y) else kv) (xs.map (putAt k u)) := by
  induction r with
  | nil => exact .nil
  | @cons p q ps qs h t ih =>
    rw [List.map_cons, List.map_cons]
    refine .cons ?_ ih
    obtain ⟨h1, h2, h3⟩ := h
    unfold putAt
    by_cases e : p.1 = k
    · rw [if_pos e, if_pos (h1.symm.trans e)]; exact ⟨h1, h2, ry⟩
    · rw [if_neg e, if_neg (fun z => e (h1.trans z))]; exact ⟨h1, h2, h3⟩
theorem KT.put {H : Hp} {kvs : List (List Key × V)} {xs : List (List Key × Addr × Value)} (r : KT H kvs xs) (k : List Key) {b : Addr} {y : V} {u : Value} (hb : H b = some (.tup (k.map kV))) (ry : RelV y u) :
    KT H (putK kvs k y) (storedH xs k b u) := by
  have e : (kvs.any fun kv => decide (kv.1 = k)) = (atKey xs k).isSome := by
    rw [valV_any, (r.val k).isSome_eq, Option.isSome_map]
  unfold putK storedH
  rw [e]
  by_cases q : (atKey xs k).isSome = true
  · rw [if_pos q, if_pos q]; exact r.repl k ry
  · rw [if_neg q, if_neg q]; exact Paired.snoc r ⟨rfl, hb, ry⟩
theorem KT.keeps {H H' : Hp} {kvs : List (List Key × V)} {xs : List (List Key × Addr × Value)} (r : KT H kvs xs) (ht : ∀ b ys, H b = some (.tup ys) → H' b = some (.tup ys)) : KT H' kvs xs :=
  Paired.mapP r fun _ _ z => ⟨z.1, ht _ _ z.2.1, z.2.2⟩
section
variable {P : Program} {w : World} {H : Hp} {h : Heap} {a : Addr}
theorem rd_of {u : HO} (ok : HOk P w H h) (e : Rd H a u) : ObjOk P w H h a u := e.ok ok
theorem dk_rd {kvs : List (Key × V)} (ok : HOk P w H h) (e : Rd H a (.dK kvs)) : kvs.length ≤ sizeLine ∧ (a == sysModules) = false ∧ ∃ vs, KV kvs vs ∧ h.DictOf (mixKind P w) a vs :=
  show ObjOk P w H h a (.dK kvs) from rd_of ok e
theorem dk_of {kvs : List (Key × V)} (ok : HOk P w H h) (e : H a = some (.dK kvs)) : kvs.length ≤ sizeLine ∧ (a == sysModules) = false ∧ ∃ vs, KV kvs vs ∧ h.DictOf (mixKind P w) a vs := dk_rd ok (.inl e)
theorem key_of {ks : List Key} (ok : HOk P w H h) (e : H a = some (.tup (ks.map kV))) : (tupleKind (mixKind P w)).is h ks a := by
  obtain ⟨_, its, r, o, h1, h2, n, h3⟩ := (show ObjOk P w H h a (.tup (ks.map kV)) from ok a _ e)
  exact ⟨o, its.toArray, n, h1, h2, h3, by simpa using items_are r⟩
theorem dt_rd {kvs : List (List Key × V)} (ok : HOk P w H h) (e : Rd H a (.dT kvs)) : kvs.length ≤ sizeLine ∧ (a == sysModules) = false ∧
    ∃ xs, KT H kvs xs ∧ h.DictOfH (tupleKind (mixKind P w)) a xs := by
  obtain ⟨z, y, xs, r, o, es, ep, h1, h2, h3, h4, h5⟩ := (show ObjOk P w H h a (.dT kvs) from rd_of ok e)
  refine ⟨z, y, xs, r, o, es, ep, h1, h2, h3, h4, fun x hx => ?_, h5⟩
  have all : ∀ {l : List (List Key × V)} {m : List (List Key × Addr × Value)}, KT H l m → ∀ x ∈ m, (tupleKind (mixKind P w)).is h x.1 x.2.1 := by
    intro l m q
    induction q with
    | nil => intro x hx; exact nomatch hx
    | @cons p q ps qs hq t ih =>
      intro x hx
      rcases List.mem_cons.mp hx with e | hx
      · subst e
        exact key_of ok (by rw [← hq.1]; exact hq.2.1)
      · exact ih x hx
  exact all r x hx
theorem dt_of {kvs : List (List Key × V)} (ok : HOk P w H h) (e : H a = some (.dT kvs)) : kvs.length ≤ sizeLine ∧ (a == sysModules) = false ∧
    ∃ xs, KT H kvs xs ∧ h.DictOfH (tupleKind (mixKind P w)) a xs := dt_rd ok (.inl e)
end
def DGet (H : Hp) (a : Addr) (y : V) (r : Option V) : Prop :=
  (∃ kvs k, Rd H a (.dK kvs) ∧ y = kV k ∧ r = valV kvs k) ∨ ∃ kvs k b, Rd H a (.dT kvs) ∧ y = .ref b ∧ H b = some (.tup (k.map kV)) ∧ r = valV kvs k
def DPut (H : Hp) (a : Addr) (y v : V) (H' : Hp) : Prop :=
  (∃ kvs k, H a = some (.dK kvs) ∧ y = kV k ∧ kvs.length < sizeLine ∧ H' = upd H a (.dK (putK kvs k v))) ∨
  ∃ kvs k b, H a = some (.dT kvs) ∧ y = .ref b ∧ H b = some (.tup (k.map kV)) ∧ kvs.length < sizeLine ∧ H' = upd H a (.dT (putK kvs k v))
theorem DPut.k {H : Hp} {a : Addr} {kvs : List (Key × V)} {k : Key} {v : V} (e : H a = some (.dK kvs)) (hl : kvs.length < sizeLine) : DPut H a (kV k) v (upd H a (.dK (putK kvs k v))) := .inl ⟨kvs, k, e, rfl, hl, rfl⟩
section
variable {X : Cx} {pins : List (Addr × Obj)} {σ : St} {H : Hp} {s : Shared} {a : Addr} {y v : V} {u r : Value} {o : Option V} {A : Around} {E : Value → Shared → Prop}
theorem Inv.big (I : Inv X pins σ H s) : sysModules < s.heap.objs.size := by
  have h : mainGlobals < s.heap.objs.size := (I.mod.glob.keeps I.bk).lt
  exact Nat.lt_trans (by decide) h
theorem d_getItem {Q : Value → Shared → Prop} (hu : A.units + 1 < cLine) (I : Inv X pins σ H s) (g : DGet H a y (some v)) (ry : RelV y u) (h : ∀ w' s', Inv X pins σ H s' → RelV v w' → Q w' s') :
    wpAny (model X.prog X.w) A (getItem (.ref a) u) Q E s := by
  rcases g with ⟨kvs, k, e, ey, l⟩ | ⟨kvs, k, b, e, ey, eb, l⟩
  · subst ey
    obtain ⟨z, hd, vs, rel, dd⟩ := dk_rd I.hok e
    obtain ⟨w', hw, rw'⟩ := RelO.some_of (v := v) (o := valueAt vs k) (by rw [l]; exact rel.val k)
    exact wpAny_getItem_of (kV_is ry) dd.mapOf hw (h w' _ (I.tok _) rw')
  · subst ey
    cases (show u = Value.ref b from ry)
    obtain ⟨z, hd, xs, rel, dd⟩ := dt_rd I.hok e
    obtain ⟨w', hw, rw'⟩ := RelO.some_of (v := v) (o := (atKey xs k).map (·.2)) (by rw [l]; exact rel.val k)
    obtain ⟨p, hp, hp2⟩ := Option.map_eq_some_iff.mp hw
    refine wpAny_getItem_heap (tupleKind_room_in1 hu) (key_of I.hok eb) dd hp ?_
    rw [hp2]
    exact h w' _ (I.tok _) rw'
theorem d_write {h' : Heap} {t' : Nat} {ob : HO} (I : Inv X pins σ H s) (mu : Mut (H a)) (hs : Heap.SameBut a s.heap h') (he : ∃ q, h'.get? a = some q) (new : ObjOk X.prog X.w (upd H a ob) h' a ob) :
    Inv X pins σ (upd H a ob) { s with heap := h', toks := t' } :=
  I.write (x := a) (e := a) mu (.inl rfl) (fun b q hb z => (hs.2 b hb).trans z) he new
theorem dk_new {P : Program} {w : World} {H' : Hp} {h' : Heap} {kvs : List (Key × V)} {vs : List (Key × Value)} (z : kvs.length ≤ sizeLine) (hd : (a == sysModules) = false) (rel : KV kvs vs) (dd : h'.DictOf (mixKind P w) a vs) :
    ObjOk P w H' h' a (.dK kvs) := ⟨z, hd, vs, rel, dd⟩
theorem d_setItem {H' : Hp} {Q : Unit → Shared → Prop} (hu : A.units + 1 < cLine) (I : Inv X pins σ H s) (g : DPut H a y v H') (ry : RelV y u) (rv : RelV v r) (h : ∀ s', Inv X pins σ H' s' → Q () s') :
    wpAny (model X.prog X.w) A (setItem (.ref a) u r) Q E s := by
  rcases g with ⟨kvs, k, e, ey, l, eH⟩ | ⟨kvs, k, b, e, ey, eb, l, eH⟩
  · subst ey eH
    obtain ⟨z, hd, vs, rel, dd⟩ := dk_of I.hok e
    have hz : vs.length ≤ sizeLine := by rw [← rel.length]; exact z
    have hl : (putK kvs k v).length ≤ sizeLine := by have := length_putK kvs k v; omega
    refine wpAny_setItem_pairs (hsz := hz) (kV_is ry) dd fun h' dd' hs => h _ ?_
    have he : ∃ q, h'.get? a = some q := let ⟨q, _, _, hq, _⟩ := dd'; ⟨q, hq⟩
    exact d_write I (by rw [e]; exact True.intro) hs he (dk_new hl hd (rel.put k rv) dd')
  · subst ey eH
    cases (show u = Value.ref b from ry)
    obtain ⟨z, hd, xs, rel, dd⟩ := dt_of I.hok e
    have hz : xs.length ≤ sizeLine := by rw [← Paired.length rel]; exact z
    have hl : (putK kvs k v).length ≤ sizeLine := by have := length_putK kvs k v; omega
    refine wpAny_setItem_heap (hsz := hz) (tupleKind_room_in1 hu) (key_of I.hok eb) dd fun h' dd' hs => h _ ?_
    obtain ⟨q, es, ep, hq, h2, h3, h4, _, h5⟩ := dd'
    refine d_write I (by rw [e]; exact True.intro) hs ⟨q, hq⟩ ⟨hl, hd, _, (rel.put k eb rv).keeps fun c ys ec => ?_, q, es, ep, hq, h2, h3, h4, h5⟩
    rw [upd_ne (ne_of ec e (fun z => nomatch z))]
    exact ec
end
section
variable {X : Cx} {pins : List (Addr × Obj)} {σ : St} {H : Hp} {s : Shared} {a : Addr} {kvs : List (Key × V)} {k : Key} {u : Value} {A : Around} {E : Value → Shared → Prop}
end
def NoSl (i : Expr) : Prop := ∀ ov iv, subscripted i false ov iv = operate [ov, iv] (getItem ov iv)
theorem subD_of {prog : Program} {w : World} {A : Around} {E : Value → Shared → Prop} {s : Shared} {env : Env} {value slice : Expr} {pos : Pos} {T id : String} {Q : Value → Shared → Prop}
    (hl : typeLookup (.type T) "__getitem__" = pure (some (.builtin id))) (hs : NoSl slice)
    (h : wpAny (model prog w) A (eval value env) (fun o s₁ => wpAny (model prog w) A (eval slice env) (fun i s₂ => s₂.TypeIs o T ∧ wpAny (model prog w) A (getItem o i) Q E s₂) E s₁) E s) :
    wpAny (model prog w) A (eval (.Subscript value slice pos) env) Q E s := by
  refine Subscript_ (wpAny_mono h (fun o s₁ h₁ => wpAny_mono h₁ (fun i s₂ h₂ => ?_) fun _ _ x => x) fun _ _ x => x)
  obtain ⟨hT, h₂⟩ := h₂
  unfold subscriptTail
  refine wpAny_bind ?_
  rw [getitemInPython_of_ne hT.not_modules]
  refine wpAny_bind (wpAny_specialOf hT hl ?_)
  have fin : wpAny (model prog w) A (subscripted slice false o i) (fun r s₃ => wpAny (model prog w) A (letTemporaryGo value o r >>= fun _ => pure r) Q E s₃) E s₂ := by
    rw [hs o i]
    exact wpAny_operating (wpAny_mono h₂ (fun r s₃ h₃ => wpAny_bind (wpAny_letTemporaryGo (wpAny_pure h₃))) fun _ _ x => x)
  first
    | exact wpAny_pure (wpAny_bind fin)
    | exact wpAny_bind (wpAny_pure (wpAny_bind fin))
    | exact wpAny_bind fin
theorem dict_typeIs {X : Cx} {pins : List (Addr × Obj)} {σ : St} {H : Hp} {s : Shared} {a : Addr} {y : V} {o : Option V} (I : Inv X pins σ H s) (g : DGet H a y o) : s.TypeIs (.ref a) "dict" := by
  rcases g with ⟨kvs, k, e, _, _⟩ | ⟨kvs, k, b, e, _, _, _⟩
  · obtain ⟨_, _, vs, _, dd⟩ := dk_rd I.hok e
    exact dd.typeIs
  · obtain ⟨_, _, xs, _, dd⟩ := dt_rd I.hok e
    exact dd.typeIs
def tDGet (td ty : TE) : TE := fun σ H Q => td σ H fun x H1 => ty σ H1 fun y H2 => ∃ a v, x = .ref a ∧ DGet H2 a y (some v) ∧ Q v H2
def sDPut (td ty tv : TE) : TS := fun D σ H => tv σ H fun v H1 => td σ H1 fun x H2 => ty σ H2 fun y H3 => ∃ a H4, x = .ref a ∧ DPut H3 a y v H4 ∧ D.nx σ H4
section
variable {X : Cx} {o i e value : Expr} {pos pos' tpos : Pos} {td ty tv : TE}
theorem pe_dget (hu : X.A.units + 1 < cLine) (ho : PE X o td) (hi : PE X i ty) (hs : NoSl i) : PE X (.Subscript o i pos) (tDGet td ty) := by
  intro pins s σ H Q I h
  refine subD_of PySem.F.slot_dict_getitem.lookup hs (thn (ho pins s σ H _ I h) fun u s1 ⟨x, H1, I1, rx, q1⟩ => thn (hi pins s1 σ H1 _ I1 q1) fun iv s2 ⟨y, H2, I2, ry, a, v, ex, g, q2⟩ => ?_)
  subst ex
  obtain rfl : u = Value.ref a := rx
  exact ⟨dict_typeIs I2 g, d_getItem hu I2 g ry fun w' s3 I3 rw' => ⟨v, H2, I3, rw', q2⟩⟩
theorem ps_dput (hu : X.A.units + 1 < cLine) (ho : PE X o td) (hi : PE X i ty) (hv : PE X value tv) (hs : swapsWith value (some (.Subscript o i pos')) pos.line X.env = pure false) :
    PS X (.Assign [.Subscript o i pos'] value pos) (sDPut td ty tv) := by
  intro pins s σ H D I h
  refine wpAny_Assign_Subscript (thn (hv pins s σ H _ I h) fun r s1 ⟨v, H1, I1, rv, q1⟩ => thn (ho pins s1 σ H1 _ I1 q1) fun u s2 ⟨x, H2, I2, rx, q2⟩ => thn (hi pins s2 σ H2 _ I2 q2) fun iv s3 ⟨y, H3, I3, ry, a, H4, ex, g, q3⟩ => ?_) hs
  subst ex
  obtain rfl : u = Value.ref a := rx
  exact d_setItem hu I3 g ry rv fun s4 I4 => ⟨σ, H4, I4, q3⟩
end
theorem dk_empty {P : Program} {w : World} {H : Hp} (h : Heap) (hb : sysModules < h.objs.size) : ObjOk P w H (h.push { cls := .type "dict", data := .dict #[] }) h.objs.size (.dK []) :=
  ⟨Nat.zero_le _, beq_eq_false_iff_ne.mpr (Ne.symm (Nat.ne_of_lt hb)), [], .nil, Heap.DictOf.new h⟩
def tDNewK : TE := fun _ H Q => ∀ p, H p = none → Q (.ref p) (upd H p (.dK []))
section
variable {X : Cx} {pos : Pos}
theorem pe_dnewK : PE X (.Dict [] [] pos) tDNewK := fun pins s σ H Q I h =>
  wpAny_Dict_empty ⟨.ref s.heap.objs.size, _, I.laid (a := s.heap.objs.size) (o := .dK []) (t' := s.toks) (fun _ _ q => Heap.get?_push_of_some _ q) (Nat.le_refl _) (dk_empty s.heap I.big), rfl, h _ (I.hok.fresh (Nat.le_refl _))⟩
end
def mergeK (kvs more : List (Key × V)) : List (Key × V) := more.foldl (fun acc kv => putK acc kv.1 kv.2) kvs
structure M1 (X : Cx) (o : Expr) (m : Str) (apos : Pos) (e : Expr) (cpos : Pos) : Prop where
  base : attributeBase o m X.env (eval o X.env) = eval o X.env
  few : ((backTo cpos (starEach [e] X.env)).all (fun x => !x.1) && (backToKw cpos (keywordEach [] X.env)).all (fun x => x.1.isSome)
    && decide (([e] : List Expr).length + ([] : List Keyword).length + (if ([] : List Keyword).isEmpty then 0 else 1) < 30)) = true
  line : (apos.endLine == cpos.line) = true
  trees : backTo cpos (starEach [e] X.env) = [(false, eval e X.env)]
structure M2 (X : Cx) (o : Expr) (m : Str) (apos : Pos) (e f : Expr) (cpos : Pos) : Prop where
  base : attributeBase o m X.env (eval o X.env) = eval o X.env
  few : ((backTo cpos (starEach [e, f] X.env)).all (fun x => !x.1) && (backToKw cpos (keywordEach [] X.env)).all (fun x => x.1.isSome)
    && decide (([e, f] : List Expr).length + ([] : List Keyword).length + (if ([] : List Keyword).isEmpty then 0 else 1) < 30)) = true
  line : (apos.endLine == cpos.line) = true
  trees : backTo cpos (starEach [e, f] X.env) = [(false, eval e X.env), (false, eval f X.env)]
section
variable {X : Cx} {pins : List (Addr × Obj)} {σ : St} {H : Hp} {s : Shared} {a : Addr} {y d : V} {u r : Value} {o : Option V} {A : Around} {E : Value → Shared → Prop}
end
section
variable {X : Cx} {o e f : Expr} {apos cpos : Pos} {td ty tx : TE}
end
section
variable {X : Cx} {pins : List (Addr × Obj)} {σ : St} {H : Hp} {s : Shared} {a : Addr} {kvs : List (Key × V)} {A : Around} {E : Value → Shared → Prop}
end
section
variable {X : Cx} {pins : List (Addr × Obj)} {σ : St} {H : Hp} {s : Shared} {a : Addr} {y : V} {u : Value} {A : Around} {E : Value → Shared → Prop}
end
end L2
end
section
namespace Att
open PySem PySem.W PySem.Calls PyProof.Rows
theorem ints_of_wellAll {P : Params} {h : Heap} : ∀ (ns : List Int) (vs : List Value), WellAll P h vs (ns.map WData.int) → IntsAre vs ns := by
  intro ns
  induction ns with
  | nil =>
    intro vs w
    rw [List.map_nil] at w
    cases w
    exact .nil
  | cons n ns ih =>
    intro vs w
    rw [List.map_cons] at w
    cases w with
    | cons a b =>
      cases a
      exact .cons _ _ (ih _ b)
theorem script_of {l : OpenLaw} {n : Nat} (hn : l.most = some n) {P : Params} {h : Heap} {args : List WData} {vals : List Value}
    (hpre : l.row.toRowW.claim.pre args = true) (hwl : WellAll P h vals args) :
    ∃ a vs ns, vals = [Value.ref a] ∧ args = [WData.list (ns.map WData.int)] ∧ h.get? a = some { cls := .type "list", data := .seq vs.toArray } ∧ IntsAre vs ns ∧ ns.length ≤ n := by
  have hsh : WShape.hasAll [] args [.list .int] = true := (pre_splitW hpre).1
  have hc : l.pre.holds [] { args := args } = true := (pre_splitW hpre).2
  obtain ⟨d, r, rfl, h1, h2⟩ := hasAllW_cons hsh
  obtain rfl := hasAllW_nil h2
  obtain ⟨xs, rfl, h3⟩ := hasW_list h1
  obtain ⟨ns, rfl⟩ := items_int h3
  have hlen : ns.length ≤ n := by
    unfold OpenLaw.pre at hc
    have h4 : (WTm.not (.lt (.lit (.int (n : Int))) (.len (.arg 0)))).holds [] { args := [.list (ns.map .int)] } = true := by
      have h4 := (holds_andW hc).1
      rw [hn] at h4
      exact h4
    have h5 := condW_of h4 (w_not (w_lt w_lit (w_len_list (w_arg rfl))))
    rw [List.length_map] at h5
    refine Nat.le_of_not_lt fun q => ?_
    have q' : (n : Int) < ((ns.length : Nat) : Int) := by omega
    first
      | (rw [decide_eq_true q'] at h5; exact absurd h5 (by decide))
      | (simp at h5; omega)
  cases hwl with
  | cons w1 w2 =>
    cases w2
    cases w1 with
    | list ho hall => exact ⟨_, _, ns, rfl, rfl, ho, ints_of_wellAll ns _ hall, hlen⟩
theorem post_true (l : OpenLaw) (args : List WData) : l.row.toRowW.claim.post args (.bool true) args = true :=
  postW_of (r := l.row.toRowW) (X := (true == true))
    (show WShape.has [] (.bool true) .bool = true by first | rfl | decide | simp [WShape.has, WShape.arms, WShape.armsAll])
    (show (WTm.eq .res (.lit (.bool true))).value [] { args := args, res := some (.bool true), after := args } = some (.bool (true == true)) from w_eq_bool (w_res rfl) w_lit) rfl
theorem attach_call {l : OpenLaw} {n : Nat} {q : Program} {loose : List Str} {XP : (Str → Option Value) → Heap → Prop} {YP : World → Heap → Prop} {d : DefRec}
    (hn : l.most = some n) (hdf : d.params.defaults = [])
    (call : ∀ (w : World) (s₀ s₁ : Shared) (mg mb : Str → Option Value) (fa : Addr) (o : Obj) (pm cd doc : Value) (a : Addr) (vs : List Value) (ns : List Int),
      Ground q loose [] XP w s₀ mg mb s₁.heap → YP w s₁.heap →
      s₁.heap.get? fa = some o → o.data = .func (docDef d.name d.params d.body d.scope pm cd doc) → s₁.heap.CodeRec cd d.name → mg d.name = some (.ref fa) →
      s₁.heap.get? a = some { cls := .type "list", data := .seq vs.toArray } → IntsAre vs ns → ns.length ≤ n → s₁.gens = #[] →
      codeAny (model l.prog w) callerA (.call (.ref fa) ⟨[.ref a], []⟩) (fun r s' => r = .ok (.ret (.bool true)) ∧ OldK s₁.heap s'.heap ∧ s'.os = s₁.os ∧ AllBare s'.gens) s₁) :
    WalkO q loose XP YP l.row.toRowW d [] (fun f vs => PySem.call f vs) := by
  intro w s₀ s₁ mg mb G Y fa o pm cd doc dV kV ho hd hcd hD hmg hg args vals as hpre hlay hrd hwl hlo
  obtain rfl : dV = .none := Dflts.none hD hdf
  obtain rfl : kV = .none := Dflts.noKw hD
  obtain ⟨a, vs, ns, rfl, rfl, hobj, hints, hlen⟩ := script_of hn hpre hwl
  refine enter_call (codeAny_mono (call w s₀ s₁ mg mb fa o pm cd doc a vs ns G Y ho (fd_plain hd) hcd hmg hobj hints hlen hg) fun r s' hq => ?_)
  obtain ⟨rfl, h2, h3, h4⟩ := hq
  exact ⟨.inl ⟨.bool true, .bool true, [], rfl, fun _ => rfl, .bool true, post_true l _, fun _ => ⟨List.Pairwise.nil, fun _ hm => (nomatch hm)⟩⟩, h2, h3, h4⟩
section
variable {prog : Program} {w : World} {A : Around} {E : Value → Shared → Prop} {s : Shared} {K : Frag}
def ledger (h : Heap) (L d : Addr) : List (Addr × Obj) := (List.range h.objs.size).filterMap fun a => if a = L ∨ a = d then none else (h.get? a).map fun o => (a, o)
end
end Att
namespace L2
open PySem PySem.Spec PyProof.Rows
theorem vals_ints : ∀ {vs : List Value} {ns : List Int}, IntsAre vs ns → Vals (ns.map V.int) vs
  | _, _, .nil => .nil
  | _, _, .cons n t h => .cons ⟨t, rfl⟩ (vals_ints h)
def Only (H : Hp) : Prop := ∀ b, H b = none ∨ ∃ o xs, H b = some (.frz o (.lst xs))
theorem law_call {P : Program} {w : World} {K : PySem.W.Frag} {mg mb : Str → Option Value} {CX : CXT} {k : Nat} {fa a : Addr} {fd : FuncData} {x : Str} {sp : Sp} {s₁ : Shared} {vs : List Value} {ns : List Int}
    (KX : K.In s₁.heap) (hns : s₁.heap.Ns mainGlobals mg) (hb : s₁.heap.Ns builtinsNs mb) (hbb : ∀ x : Str, x ≠ "__name__" → mb x = bootBuiltins x) (hlim : s₁.heap.NoLimit) (hg : s₁.gens = #[])
    (ha : s₁.heap.get? a = some { cls := .type "list", data := .seq vs.toArray }) (hi : IntsAre vs ns) (hl : ns.length ≤ sizeLine) (hr : Room k callerA)
    (F : ∀ base : Heap, K.In base → base.Ns mainGlobals mg → FnOk P w K mg base CX k fa fd [x] sp) (hbind : ∀ (s : Shared) (u : Value), BindsTo s fd ⟨[u], []⟩ [(x, u)])
    (hsp : ∀ H : Hp, Only H → SqL K H a (ns.map V.int) → sp [.ref a] H (fun v _ => v = .bl true) fun _ _ _ => False)
    (hCX : ∀ H e s', CX [] H s₁ (fun _ _ _ => False) e s' → False) :
    codeAny (model P w) callerA (.call (.ref fa) ⟨[.ref a], []⟩) (fun r s' => r = .ok (.ret (.bool true)) ∧ OldK s₁.heap s'.heap ∧ s'.os = s₁.os ∧ AllBare s'.gens) s₁ := by
  have rv := vals_ints hi
  have lenV := hi.length
  have core : ∀ H : Hp, Only H → SqL K H a (ns.map V.int) → HOk P w H s₁.heap → (∀ b, H b ≠ none → b = a) → (H a ≠ none → K.lookup a = none) →
      codeAny (model P w) callerA (.call (.ref fa) ⟨[.ref a], []⟩) (fun r s' => r = .ok (.ret (.bool true)) ∧ OldK s₁.heap s'.heap ∧ s'.os = s₁.os ∧ AllBare s'.gens) s₁ := by
    intro H hO hS hok hA hK
    have base_of : ∀ {b : Addr} {o : Obj}, s₁.heap.get? b = some o → H b = none → (hidT s₁.heap H).get? b = some o := fun e n => hidT_get e n
    have noA : ∀ {b : Addr} {o : Obj} {es : Array DictEntry} {ep : Nat}, s₁.heap.get? b = some o → o.data = .dict es ep → H b = none := fun {b o es ep} e d => by
      cases q : H b with
      | none => rfl
      | some u =>
        have e' : b = a := hA b (by rw [q]; simp)
        subst e'
        rw [ha] at e; cases e
        have d' : Data.seq vs.toArray _ = Data.dict es ep := d
        cases d'
    have nsK : ∀ {b : Addr} {m : Str → Option Value}, s₁.heap.Ns b m → (hidT s₁.heap H).Ns b m := fun {b m} ⟨o, es, ep, e, d, r⟩ => ⟨o, es, ep, base_of e (noA e d), d, r⟩
    have hKb : K.In (hidT s₁.heap H) := fun b o e => base_of (KX b o e) (by
      cases q : H b with
      | none => rfl
      | some u =>
        have e' : b = a := hA b (by rw [q]; simp)
        subst e'
        rw [hK (by rw [q]; simp)] at e; cases e)
    have hM : Mod K mg (hidT s₁.heap H) := ⟨hKb, nsK hns, ⟨mb, nsK hb, hbb⟩, let ⟨mc, h1, h2⟩ := hlim; ⟨mc, nsK h1, h2⟩⟩
    have e0 : Env0 P w K mg (hidT s₁.heap H) callerA [] s₁ H := ⟨rfl, hM, fun b o e => of_hidT e, Nat.le_of_eq (hidT_size _ _), trivial, fun b hb => absurd (show b ∈ ([] : List Addr) from hb) (by simp), hok, .of_eq hg⟩
    refine codeAny_mono ((F _ hKb (nsK hns)).run callerA [] s₁ H ⟨[.ref a], []⟩ [.ref a] [.ref a] _ _ hr e0 (hbind s₁ (.ref a)) (.cons rfl .nil) (hsp H hO hS)) fun r s' h => ?_
    cases r with
    | error e => exact (hCX H e s' h).elim
    | ok fl =>
      cases fl with
      | next => exact False.elim h
      | brk => exact False.elim h
      | cont => exact False.elim h
      | ret u =>
        obtain ⟨v, H', os, bare, un, hok', r', q⟩ := h
        have q' : v = .bl true := q
        subst q'
        obtain rfl : u = Value.bool true := r'
        refine ⟨rfl, OldK.of_keep fun b o e => ?_, os, bare⟩
        cases q : H b with
        | none => exact un.keep b o e q (by intro z; exact absurd (show b ∈ ([] : List Addr) from z) (by simp)) (by simp)
        | some u =>
          rcases hO b with z | ⟨ob, xs, z⟩
          · rw [q] at z; cases z
          · have z2 := un.frzs b ob _ z
            obtain ⟨e1, _⟩ := hok b _ z
            obtain ⟨e2, _⟩ := hok' b _ z2
            rw [e] at e1; cases e1
            exact e2
  cases hk : K.lookup a with
  | some o =>
    have e := KX a o hk
    rw [ha] at e
    cases e
    refine core (fun _ => none) (fun _ => .inl rfl) (.inr ⟨_, vs.toArray, _, hk, rfl, rfl, rfl, by rw [List.size_toArray, lenV]; exact hl, by simpa using rv⟩) (fun b u z => by have z' : (none : Option HO) = some u := z; cases z') (fun b z => absurd rfl z) fun z => absurd rfl z
  | none =>
    refine core (fun b => if b = a then some (.frz { cls := .type "list", data := .seq vs.toArray } (.lst (ns.map V.int))) else none) (fun b => ?_) (.inl (.inr ⟨{ cls := .type "list", data := .seq vs.toArray }, if_pos rfl⟩)) (fun b u z => ?_) (fun b z => ?_) fun _ => hk
    · by_cases hb : b = a
      · exact .inr ⟨_, _, if_pos hb⟩
      · exact .inl (if_neg hb)
    · by_cases hb : b = a
      · have z' := (if_pos hb).symm.trans z
        cases z'
        subst hb
        exact ⟨ha, by rw [List.length_map]; exact hl, vs, _, rv, ha⟩
      · have z' := (if_neg hb).symm.trans z
        cases z'
    · by_cases hb : b = a
      · exact hb
      · exact absurd (if_neg hb) z
end L2
namespace L2
open PySem PySem.Spec PyProof.Rows
theorem walk_of {l : PySem.W.OpenLaw} {n k : Nat} {q : Program} {loose : List Str} {XP : (Str → Option Value) → Heap → Prop} {YP : World → Heap → Prop} {d : DefRec} {K : Params → PySem.W.Frag} {CX : World → CXT} {sp : World → Sp} {x : Str}
    (hn : l.most = some n) (hn2 : n ≤ sizeLine) (hdf : d.params.defaults = []) (hr : Room k callerA)
    (hY : ∀ (w : World) (h : Heap), YP w h → (K w.params).In h)
    (F : ∀ (w : World) (mg : Str → Option Value) (fa : Addr) (h : Heap), (K w.params).In h → h.Ns mainGlobals mg → mg d.name = some (.ref fa) →
      ∃ fd : FuncData, (∀ (s : Shared) (u : Value), BindsTo s fd ⟨[u], []⟩ [(x, u)]) ∧
        ∀ base : Heap, (K w.params).In base → base.Ns mainGlobals mg → FnOk l.prog w (K w.params) mg base (CX w) k fa fd [x] (sp w))
    (hsp : ∀ (w : World) (H : Hp) (a : Addr) (ns : List Int), ns.length ≤ n → Only H → SqL (K w.params) H a (ns.map V.int) → sp w [.ref a] H (fun v _ => v = .bl true) fun _ _ _ => False)
    (hCX : ∀ (w : World) (H : Hp) (s : Shared) (e : Value) (s' : Shared), CX w [] H s (fun _ _ _ => False) e s' → False) :
    PySem.W.WalkO q loose XP YP l.row.toRowW d [] (fun f vs => PySem.call f vs) := by
  refine Att.attach_call hn hdf fun w s₀ s₁ mg mb fa o pm cd doc a vs ns G Y ho hd hcd hmg hobj hints hlen hg => ?_
  have KX := hY w _ Y
  obtain ⟨fd, hb, hF⟩ := F w mg fa _ KX G.T.g hmg
  exact law_call KX G.T.g G.T.b G.T.builtins G.T.nolimit hg hobj hints (Nat.le_trans hlen hn2) hr hF hb (fun H hO hS => hsp w H a ns hlen hO hS) fun H e s' => hCX w H s₁ e s'
end L2
/- THE LAST THEOREM (shape; LID, My.* are yours):
   My.Adr: a structure of the addresses that your layer names (classes, functions); My.Txt K t: a structure (Prop) of the equations over K;
   My.txt_mk : {K} {implicit addresses ..} (e1 : nsIn K mainGlobals "law" = some (some (.ref f))) (e2 : K.lookup f = some ⟨oc, od, .func (fnOf "law" "law" params body scope dV kV doc pm an cdv ct), sl⟩) (e3 : codeIn K cdv "law" = true) .. : ∃ t, My.Txt K t
set_option maxRecDepth 100000 in
set_option maxHeartbeats 0 in
(the tactic k_is has no namespace: write k_is) -/
namespace L2
open PySem PySem.Spec PyProof.Rows
def defArgs (s : Stmt) : Arguments := match s with
  | .FunctionDef _ a _ _ _ _ _ _ _ _ => a
  | _ => { posonlyargs := [], args := [], vararg := none, kwonlyargs := [], kw_defaults := [], kwarg := none, defaults := [] }
def defBody (s : Stmt) : List Stmt := match s with
  | .FunctionDef _ _ b _ _ _ _ _ _ _ => b
  | _ => []
def defScope (s : Stmt) : Scope := match s with
  | .FunctionDef _ _ _ _ _ _ sc _ _ _ => sc
  | _ => { kind := .function, names := [], isGenerator := false, isCoroutine := false }
abbrev CX0 : CXT := fun _ _ _ _ _ _ => False
abbrev E0 : XK := fun _ _ _ => False
theorem pass0 {X : Cx} : Passes CX0 X E0 := fun _ _ _ _ _ _ _ h => h.elim
structure Fun (K : PySem.W.Frag) (x qual : Str) (st : Stmt) (f : Addr) (fd : FuncData) : Prop where
  ex : ∃ (oc : Value) (od : Option Addr) (kV doc pm : Value) (an : Option Addr) (cdv ct : Value) (osl : Array (Option Value)),
    fd = PySem.W.fnOf x qual (defArgs st) (defBody st) (defScope st) .none kV doc pm an cdv ct ∧ K.lookup f = some ⟨oc, od, .func fd, osl⟩ ∧ PySem.W.codeIn K cdv qual = true
  kp : PySem.W.keepIn K (.ref f) = true
section
variable {P : Program} {w : World} {K : PySem.W.Frag} {mg : Str → Option Value} {base : Heap}
theorem Fun.ok {x qual : Str} {st : Stmt} {f : Addr} {fd : FuncData} {N ps : List Str} {k : Nat} {sp : Sp} (F : Fun K x qual st f fd) (S : FnScope N ps (defScope st)) (len : ∀ vs H Q E, sp vs H Q E → vs.length = ps.length)
    (hbody : ∀ (cdv : Value) (A : Around) (outer : List Env) (s : Shared) (H : Hp) (vs : List V) (Q : VK) (E : XK), Room k (A.deeper (envOfC qual (defScope st) s.heap.objs.size f cdv)) → sp vs H Q E →
      ∃ t, PSs (cxOf CX0 P w K mg base N qual (defScope st) f cdv A outer s H E).nox (defBody st) t ∧ t { nx := fun _ H' => Q .non H', rt := Q } (start N vs) H) : FnOk P w K mg base CX0 (k + 1) f fd ps sp := by
  obtain ⟨oc, od, kV, doc, pm, an, cdv, ct, osl, rfl, lk, hcd⟩ := F.ex
  refine fn_of lk hcd S len fun A outer s H vs Q E hr hsp => ?_
  obtain ⟨t, h, q⟩ := hbody cdv A outer s H vs Q E hr hsp
  exact ⟨t, h.nox, q⟩
theorem Fun.binds {x qual : Str} {st : Stmt} {f : Addr} {fd : FuncData} {ps : List Str} (F : Fun K x qual st f fd)
    (h : ∀ (kV doc pm : Value) (an : Option Addr) (cdv ct : Value) (us : List Value), us.length = ps.length → bindArgs (PySem.W.fnOf x qual (defArgs st) (defBody st) (defScope st) .none kV doc pm an cdv ct) ⟨us, []⟩ = pure (ps.zip us)) : Binds K fd ps [] := by
  obtain ⟨oc, od, kV, doc, pm, an, cdv, ct, osl, rfl, lk, hcd⟩ := F.ex
  exact .all (h kV doc pm an cdv ct)
theorem fun_mk {x qual : Str} {st : Stmt} {f : Addr} {oc : Value} {od an : Option Addr} {osl : Array (Option Value)} {kV doc pm cdv ct : Value} (l : K.lookup f = some ⟨oc, od, .func (PySem.W.fnOf x qual (defArgs st) (defBody st) (defScope st) .none kV doc pm an cdv ct), osl⟩)
    (c : PySem.W.codeIn K cdv qual = true) (k : PySem.W.keepIn K (.ref f) = true) : Fun K x qual st f (PySem.W.fnOf x qual (defArgs st) (defBody st) (defScope st) .none kV doc pm an cdv ct) := ⟨⟨oc, od, kV, doc, pm, an, cdv, ct, osl, rfl, l, c⟩, k⟩
end
theorem hu_of {A : Around} {k : Nat} (hr : Room k A) : A.units + 1 < cLine := Nat.lt_of_le_of_lt (Nat.add_le_add_left (by decide : 1 ≤ 64) _) hr.units
section
variable {X : Cx}
theorem pv (i : Nat) {x : Str} {pos : Pos} (hN : X.N[i]? = some x := by rfl) (hv : Vis X.env.scope x := by first | exact Or.inl rfl | exact Or.inr (Or.inl rfl) | exact Or.inr (Or.inr rfl)) (hd : (x == ("__debug__" : Str)) = false := by decide)
    (hcd : (x == ("__classdict__" : Str)) = false := by decide) : PE X (.Name x pos) (tVar i) := pe_var hN hv hd hcd
end
theorem iteF {A B : Prop} (h : B) : if false = true then A else B := by
  rw [if_neg Bool.false_ne_true]
  exact h
theorem iteT {A B : Prop} (h : A) : if true = true then A else B := by
  rw [if_pos rfl]
  exact h
theorem ite2 {c A B : Prop} [Decidable c] (h1 : c → A) (h2 : ¬ c → B) : if c then A else B := by
  by_cases h : c
  · rw [if_pos h]
    exact h1 h
  · rw [if_neg h]
    exact h2 h
def Same (H H' : Hp) : Prop := ∀ b o, H b = some o → H' b = some o
theorem Same.refl (H : Hp) : Same H H := fun _ _ h => h
theorem Same.trans {H H1 H2 : Hp} (a : Same H H1) (b : Same H1 H2) : Same H H2 := fun c o h => b c o (a c o h)
section
variable {κ : Type} [DecidableEq κ]
end
end L2
end
section
set_option autoImplicit false
namespace L2
open PySem PySem.Spec PyProof.Rows
def clo (cells : List (Str × Addr)) : List (Str × NameKind) → List (Str × Addr) → List (Str × Addr)
  | [], acc => acc
  | (n, k) :: r, acc => if k == .free then clo cells r ((n, (cells.lookup n).getD 0) :: acc) else clo cells r acc
theorem clo_of {cells : List (Str × Addr)} : ∀ {names : List (Str × NameKind)} {acc : List (Str × Addr)} {x : Str} {c : Addr}, (∀ y ∈ names, y.2 = .free → ∃ c, cells.lookup y.1 = some c) →
    (clo cells names acc).lookup x = some c → cells.lookup x = some c ∨ acc.lookup x = some c
  | [], acc, x, c, _, h => .inr h
  | (n, k) :: r, acc, x, c, ha, h => by
    have har : ∀ y ∈ r, y.2 = .free → ∃ c, cells.lookup y.1 = some c := fun y hy => ha y (List.mem_cons_of_mem _ hy)
    unfold clo at h
    by_cases hk : k = .free
    · subst hk
      rw [if_pos (by rfl)] at h
      rcases clo_of har h with q | q
      · exact .inl q
      · obtain ⟨c', e⟩ := ha (n, .free) List.mem_cons_self rfl
        rw [List.lookup_cons] at q
        cases hx : x == n with
        | true =>
          rw [hx] at q
          have hx' : x = n := by simpa using hx
          have e' : cells.lookup n = some c' := e
          rw [e'] at q
          rw [hx', e']
          exact .inl q
        | false =>
          rw [hx] at q
          exact .inr q
    · rw [if_neg (by simpa using hk)] at h
      exact clo_of har h
theorem clo_acc {cells : List (Str × Addr)} : ∀ {names : List (Str × NameKind)} {acc : List (Str × Addr)} {x : Str}, (∃ c, acc.lookup x = some c) → ∃ c, (clo cells names acc).lookup x = some c
  | [], _, _, h => h
  | (n, k) :: r, acc, x, h => by
    unfold clo
    split
    · refine clo_acc ?_
      rw [List.lookup_cons]
      cases hx : x == n with
      | true => exact ⟨_, rfl⟩
      | false => exact h
    · exact clo_acc h
theorem clo_has {cells : List (Str × Addr)} : ∀ {names : List (Str × NameKind)} {acc : List (Str × Addr)} {x : Str}, (x, NameKind.free) ∈ names → ∃ c, (clo cells names acc).lookup x = some c
  | [], _, _, h => by simp at h
  | (n, k) :: r, acc, x, h => by
    unfold clo
    rcases List.mem_cons.mp h with e | e
    · cases e
      rw [if_pos (by rfl)]
      exact clo_acc ⟨(cells.lookup n).getD 0, by simp [List.lookup_cons]⟩
    · split
      · exact clo_has e
      · exact clo_has e
theorem closure_go {env : Env} {scope : Scope}
    (ha : ∀ y ∈ scope.names, y.2 = .free → ∃ c, env.cells.lookup y.1 = some c) : closureFor scope env = pure (clo env.cells scope.names []) := by
  have go : ∀ (names : List (Str × NameKind)) (acc : List (Str × Addr)), (∀ y ∈ names, y.2 = .free → ∃ c, env.cells.lookup y.1 = some c) →
      (forIn names acc fun (x : Str × NameKind) (cs : List (Str × Addr)) => (do
        if x.2 == .free then
          let c ← cellOf env x.1
          pure (ForInStep.yield ((x.1, c) :: cs))
        else pure (ForInStep.yield cs) : Sem (ForInStep (List (Str × Addr))))) = pure (clo env.cells names acc) := by
    intro names
    induction names with
    | nil => intro acc _; rfl
    | cons y r ih =>
      intro acc h
      obtain ⟨n, k⟩ := y
      have hr : ∀ y ∈ r, y.2 = .free → ∃ c, env.cells.lookup y.1 = some c := fun y hy => h y (List.mem_cons_of_mem _ hy)
      rw [List.forIn_cons]
      unfold clo
      by_cases hk : k = .free
      · subst hk
        obtain ⟨c, e⟩ := h (n, .free) List.mem_cons_self rfl
        have e' : env.cells.lookup n = some c := e
        have hc : cellOf env n = pure c := by
          unfold cellOf
          rw [e']
        simp only [beq_self_eq_true, if_true, hc, pure_bind, e', Option.getD_some]
        exact ih _ hr
      · have hb : (k == NameKind.free) = false := by simpa using hk
        simp only [hb, Bool.false_eq_true, if_false, pure_bind]
        exact ih _ hr
  have q := go scope.names [] ha
  unfold closureFor
  simp only [bind_pure]
  exact q
theorem relabel_lookup {scope : Scope} {env : Env} {x : Str} : ∀ {names : List (Str × NameKind)},
    (names.map fun (n, k) => if (k == NameKind.free && env.scope.kind == .function && env.kindOf n == some .cell) then (n, NameKind.cell) else (n, k)).lookup x =
      (names.lookup x).map fun k => if (k == NameKind.free && env.scope.kind == .function && env.kindOf x == some .cell) then NameKind.cell else k
  | [] => rfl
  | (n, k) :: r => by
    have ih := @relabel_lookup scope env x r
    show List.lookup x ((if (k == NameKind.free && env.scope.kind == .function && env.kindOf n == some .cell) = true then (n, NameKind.cell) else (n, k)) :: _) = _
    cases hx : x == n with
    | true =>
      have hx' : x = n := by simpa using hx
      subst hx'
      by_cases hc : (k == NameKind.free && env.scope.kind == .function && env.kindOf x == some .cell) = true
      · rw [if_pos hc]
        simp only [List.lookup_cons, hx, Option.map_some, hc, if_true]
      · rw [if_neg hc]
        simp only [List.lookup_cons, hx, Option.map_some, if_neg hc]
    | false =>
      by_cases hc : (k == NameKind.free && env.scope.kind == .function && env.kindOf n == some .cell) = true
      · rw [if_pos hc]
        simp only [List.lookup_cons, hx]
        exact ih
      · rw [if_neg hc]
        simp only [List.lookup_cons, hx]
        exact ih
theorem cells_app : ∀ (names : List (Str × NameKind)) (n : Nat) (acc : List (Str × Addr)), cellsFrom n names acc = cellsFrom n names [] ++ acc
  | [], _, _ => rfl
  | (x, k) :: r, n, acc => by
    unfold cellsFrom
    split
    · rw [cells_app r (n + 1) ((x, n) :: acc), cells_app r (n + 1) [(x, n)], List.append_assoc]
      rfl
    · exact cells_app r n acc
theorem cells_mem : ∀ {names : List (Str × NameKind)} {n : Nat} {x : Str} {c : Addr}, (x, c) ∈ cellsFrom n names [] → (x, NameKind.cell) ∈ names ∧ n ≤ c
  | [], _, _, _, h => by cases h
  | (y, k) :: r, n, x, c, h => by
    unfold cellsFrom at h
    split at h
    · rename_i hk
      rw [cells_app] at h
      rcases List.mem_append.mp h with q | q
      · obtain ⟨h1, h2⟩ := cells_mem q
        exact ⟨List.mem_cons_of_mem _ h1, by omega⟩
      · cases List.mem_singleton.mp q
        have e : k = .cell := by simpa using hk
        rw [e]
        exact ⟨List.mem_cons_self, Nat.le_refl _⟩
    · obtain ⟨h1, h2⟩ := cells_mem h
      exact ⟨List.mem_cons_of_mem _ h1, h2⟩
theorem look_app {α : Type} {x : Str} : ∀ (l m : List (Str × α)), (l ++ m).lookup x = (l.lookup x).or (m.lookup x)
  | [], m => by simp
  | (k, v) :: r, m => by
    rw [List.cons_append, List.lookup_cons, List.lookup_cons]
    cases x == k with
    | true => rfl
    | false => exact look_app r m
theorem nd_kind : ∀ {names : List (Str × NameKind)} {x : Str} {k k' : NameKind}, (names.map (·.1)).Nodup → names.lookup x = some k → (x, k') ∈ names → k' = k
  | [], _, _, _, _, h, _ => by cases h
  | (y, j) :: r, x, k, k', hn, h, hm => by
    rw [List.map_cons] at hn
    obtain ⟨n1, n2⟩ := List.nodup_cons.mp hn
    rw [List.lookup_cons] at h
    rcases List.mem_cons.mp hm with e | e
    · cases e
      rw [show (y == y) = true by simp] at h
      exact Option.some.inj h
    · cases hx : x == y with
      | true =>
        have hx' : x = y := by simpa using hx
        subst hx'
        exact absurd (List.mem_map.mpr ⟨_, e, rfl⟩) n1
      | false =>
        rw [hx] at h
        exact nd_kind n2 h e
abbrev allC (C : Addr) (cells : List (Str × Addr)) (names : List (Str × NameKind)) : List (Str × Addr) := cellsFrom (C + 1) names (clo cells names [])
theorem allC_cases {C : Addr} {cells : List (Str × Addr)} {names : List (Str × NameKind)} {x : Str} {c : Addr} (h : (allC C cells names).lookup x = some c) :
    ((x, c) ∈ cellsFrom (C + 1) names [] ∧ (x, NameKind.cell) ∈ names ∧ C + 1 ≤ c) ∨ (clo cells names []).lookup x = some c := by
  unfold allC at h
  rw [cells_app, look_app] at h
  cases q : (cellsFrom (C + 1) names []).lookup x with
  | none =>
    rw [q] at h
    exact .inr h
  | some d =>
    rw [q] at h
    cases h
    have m := PySem.mem_of_lookup q
    exact .inl ⟨m, cells_mem m⟩
theorem allC_free {C : Addr} {cells : List (Str × Addr)} {names : List (Str × NameKind)} {x : Str} (hn : (names.map (·.1)).Nodup) (h : names.lookup x = some .free) : (allC C cells names).lookup x = (clo cells names []).lookup x := by
  unfold allC
  rw [cells_app, look_app]
  cases q : (cellsFrom (C + 1) names []).lookup x with
  | none => rfl
  | some d =>
    have m := (cells_mem (PySem.mem_of_lookup q)).1
    cases nd_kind hn h m
theorem newEnv_comp {M : Model} {A : Around} {E : Value → Shared → Prop} {s : Shared} {scope : Scope} {cl : List (Str × Addr)} {env : Env} {Q : Env → Shared → Prop}
    (hQ : ∀ h', h'.Ns s.heap.objs.size (fun _ => none) → (∀ b o, s.heap.get? b = some o → h'.get? b = some o) → CellsOk h' (s.heap.objs.size + 1) (cellsFrom (s.heap.objs.size + 1) scope.names []) →
      Q { scope := scope, locals := s.heap.objs.size, globals := env.globals, cells := cellsFrom (s.heap.objs.size + 1) scope.names cl, qual := env.qual, func := none, code := env.code, frame := env.frame, builtins := env.builtins } { s with heap := h' }) :
    wpAny M A (newFunctionEnv scope env.globals cl [] env.qual none .none (some env)) Q E s := by
  simp only [newFunctionEnv, Option.isSome_some, if_true]
  refine wpAny_bind (wpAny_alloc ?_)
  refine wpAny_bind (wpAny_layCells _ (fun name kind cells => by cases hkc : kind == NameKind.cell <;> simp [hkc]) _ _ _ _ ?_)
  have ok := cellsFrom_ok scope.names (s.heap.push { cls := .type "dict", data := .dict #[] }) (s.heap.objs.size + 1) [] ⟨fun _ _ hm => (nomatch hm), List.Pairwise.nil⟩ (by rw [Heap.size_push]; exact Nat.le_refl _)
  rw [Heap.size_push] at ok
  rw [show ({ s with heap := s.heap.push { cls := .type "dict", data := .dict #[] } } : Shared).heap.objs.size = s.heap.objs.size + 1 from Heap.size_push ..]
  refine wpAny_bind ?_
  rw [List.forIn_nil]
  exact wpAny_pure (wpAny_pure (hQ _ ((Heap.Ns.new s.heap (.type "dict")).keeps (pushCells_keeps _ _)) (fun b o e => pushCells_keeps _ _ b o (Heap.get?_push_of_some _ e)) ok))
def cxComp (X : Cx) (scope : Scope) (cl : List (Str × Addr)) (N : List Str) (C : Addr) (s₃ : Shared) (H₃ : Hp) (fp : List Addr) : Cx where
  prog := X.prog
  w := X.w
  K := X.K
  mg := X.mg
  base := X.base
  A := X.A
  N := N
  s₀ := s₃
  H₀ := H₃
  env := compEnvC scope cl C X.env
  outer := X.stack
  stack := X.stack
  ex := fp
  calm := X.calm
  fn := fun x => scope.names.lookup x == some .cell
  pn := []
  xe := fun _ _ => False
structure CompScope (X : Cx) (scope : Scope) (own : List Str) (fr : List Nat) (N : List Str) : Prop where
  kind : scope.kind = .function
  nodup : (scope.names.map (·.1)).Nodup
  names : ∀ y ∈ scope.names, y.2 = .local → scope.names.lookup y.1 = some .local
  free : ∀ y ∈ scope.names, y.2 = .free → X.env.kindOf y.1 = some .cell ∨ X.env.kindOf y.1 = some .free
  len : N.length = own.length + fr.length
  isfr : ∀ (j i : Nat), fr[j]? = some i → ∃ x, N[own.length + j]? = some x ∧ X.N[i]? = some x ∧ scope.names.lookup x = some .free
  frs : ∀ (j : Nat) (x : Str), N[j]? = some x → j < own.length → own[j]? = some x
def frv (σ : St) (fr : List Nat) : St := fr.map fun i => (σ[i]?).join
def PTs (X : Cx) (ifs : List Expr) (t : TT) : Prop :=
  ∀ (pins : List (Addr × Obj)) (s : Shared) (σ : St) (H : Hp) (Q : Bool → Hp → Prop), Inv X pins σ H s → t σ H Q →
    wpAny (model X.prog X.w) X.A (forIn ifs true fun c r => if r = true then do let ok ← isTrue c X.env (eval c X.env); pure (ForInStep.yield ok) else pure (ForInStep.yield r)) (TP X pins σ Q) X.xe s
def tYes : TT := fun _ H Q => Q true H
theorem pts_nil {X : Cx} : PTs X [] tYes := fun _ _ _ H _ I h => wpAny_tests_nil ⟨H, I, h⟩
theorem pts_one {X : Cx} {c : Expr} {t : TT} (h : PT X c t) : PTs X [c] t := fun pins s σ H Q I hq => wpAny_tests_one (h pins s σ H Q I hq)
theorem compLoop_any {prog : Program} {w : World} {A : Around} {R : Result → Shared → Prop} {s : Shared} {elt target iter : Expr} {ifs : List Expr} {scope : Scope} {pos : Pos} {it acc : Value} {env : Env} (I : Nat → Shared → Prop)
    (turn : ∀ n s, I n s → wpAny (model prog w) A (pyNext it) (fun r s₁ => match r with
      | none => R (.ok .next) s₁
      | some v => wpAny (model prog w) A (letOwnedTupleGo target it v) (fun _ s₁' => wpAny (model prog w) A (assign target env v) (fun _ s₂ =>
          wpAny (model prog w) A (forIn ifs true fun c r => if r = true then do let ok ← isTrue c env (eval c env); pure (ForInStep.yield ok) else pure (ForInStep.yield r)) (fun ok s₃ =>
            if ok = true then wpAny (model prog w) A (eval elt env) (fun x s₄ =>
              wpAny (model prog w) A (call (.builtin "list.append") [acc, x]) (fun _ s₅ => ∃ m, m < n ∧ I m s₅) (fun _ _ => False) s₄) (fun _ _ => False) s₃
            else ∃ m, m < n ∧ I m s₃) (fun _ _ => False) s₂) (fun _ _ => False) s₁') (fun _ _ => False) s₁) (fun _ _ => False) s)
    (n : Nat) (h : I n s) :
    codeAny (model prog w) A (.compLoop (.ListComp elt [⟨target, iter, ifs, 0⟩] scope pos) 0 it acc env) R s := by
  refine codeAny_loop rfl I (fun n s hI => ?_) n h
  show wpAny _ A ((compTurn (.ListComp elt [⟨target, iter, ifs, 0⟩] scope pos) 0 it acc env).onRaise (fun x => do noteFrame x env; theTreesLotGoes x)) _ _ s
  refine wpAny_noted ?_
  rw [compTurn_list]
  refine wpAny_bind (wpAny_standAt (wpAny_bind (wpAny_mono (turn n s hI) (fun r s₁ h₁ => ?_) fun _ _ h' => h'.elim)))
  cases r with
  | none => exact wpAny_pure h₁
  | some v =>
    refine wpAny_bind (wpAny_mono h₁ (fun _ s₁' h₁' => ?_) fun _ _ h' => h'.elim)
    refine wpAny_bind (wpAny_mono h₁' (fun _ s₂ h₂ => wpAny_bind (wpAny_mono h₂ (fun ok s₃ h₃ => ?_) fun _ _ h' => h'.elim)) fun _ _ h' => h'.elim)
    cases ok with
    | false => exact wpAny_pure ⟨rfl, h₃⟩
    | true =>
      exact wpAny_bind (wpAny_bind (wpAny_mono h₃ (fun x s₄ h₄ => wpAny_bind (wpAny_mono h₄ (fun _ s₅ h₅ => wpAny_pure (wpAny_pure ⟨rfl, h₅⟩)) fun _ _ h' => h'.elim)) fun _ _ h' => h'.elim))
section
variable {X : Cx} {scope : Scope} {own N : List Str} {fr : List Nat} {pins : List (Addr × Obj)} {σ : St} {H2 H3 : Hp} {s2 s3 : Shared}
theorem CompScope.clo (S : CompScope X scope own fr N) (ok : X.Ok) : ∀ y ∈ scope.names, y.2 = .free → ∃ c, X.env.cells.lookup y.1 = some c := fun y hy e => ok.has y.1 (S.free y hy e)
theorem CompScope.sub (S : CompScope X scope own fr N) (ok : X.Ok) {x : Str} {c : Addr} (h : (L2.clo X.env.cells scope.names []).lookup x = some c) : X.env.cells.lookup x = some c := by
  rcases clo_of (S.clo ok) h with q | q
  · exact q
  · simp at q
theorem CompScope.look (S : CompScope X scope own fr N) (ok : X.Ok) {x : Str} (h : scope.names.lookup x = some .free) {cl : List (Str × Addr)} {C : Addr} :
    (compEnvC scope cl C X.env).kindOf x = some .cell ∨ (compEnvC scope cl C X.env).kindOf x = some .free := by
  show ((relabel scope X.env).names.lookup x) = _ ∨ ((relabel scope X.env).names.lookup x) = _
  unfold relabel
  show List.lookup x (List.map _ _) = _ ∨ List.lookup x (List.map _ _) = _
  rw [relabel_lookup (scope := scope), h]
  simp only [Option.map_some]
  split
  · exact .inl rfl
  · exact .inr rfl
theorem comp_ok (S : CompScope X scope own fr N) (I : Inv X pins σ H3 s3) {fp : List Addr} (hf : ∀ b ∈ fp, FpOk X pins H3 b) (hlt : ∀ b ∈ fp, b < s3.heap.objs.size) :
    (cxComp X scope (allC s3.heap.objs.size X.env.cells scope.names) N s3.heap.objs.size s3 H3 fp).Ok where
  mod := I.ok.mod
  kind := S.kind
  glob := I.ok.glob
  blt := I.ok.blt
  above := Nat.le_refl _
  inj := fun x y c h1 h2 => by
    have old : ∀ {z : Str}, (L2.clo X.env.cells scope.names []).lookup z = some c → c < s3.heap.objs.size := fun {z} h => by
      obtain ⟨v, q⟩ := I.cell z c (S.sub I.ok h)
      exact q.lt
    have ap := (cellsFrom_ok scope.names (s3.heap.push { cls := .type "dict", data := .dict #[] }) (s3.heap.objs.size + 1) [] ⟨fun _ _ hm => (nomatch hm), List.Pairwise.nil⟩ (by rw [Heap.size_push]; exact Nat.le_refl _)).apart
    rw [Heap.size_push] at ap
    rcases allC_cases h1 with ⟨m1, _, l1⟩ | q1
    · rcases allC_cases h2 with ⟨m2, _, _⟩ | q2
      · exact name_of_addr ap m1 m2
      · exact absurd (Nat.lt_trans l1 (old q2)) (Nat.lt_irrefl _)
    · rcases allC_cases h2 with ⟨m2, _, l2⟩ | q2
      · exact absurd (Nat.lt_trans l2 (old q1)) (Nat.lt_irrefl _)
      · exact I.ok.inj x y c (S.sub I.ok q1) (S.sub I.ok q2)
  has := fun x hx => by
    have hx : (relabel scope X.env).names.lookup x = some .cell ∨ (relabel scope X.env).names.lookup x = some .free := hx
    unfold relabel at hx
    have hx : List.lookup x (scope.names.map _) = some NameKind.cell ∨ List.lookup x (scope.names.map _) = some NameKind.free := hx
    rw [relabel_lookup (scope := scope)] at hx
    cases e : scope.names.lookup x with
    | none => rw [e] at hx; simp at hx
    | some k =>
      have hm := PySem.mem_of_lookup e
      rw [e] at hx
      simp only [Option.map_some] at hx
      have hk : k = .free ∨ k = .cell := by
        by_cases hk : k = .free
        · exact .inl hk
        · have hb : (k == NameKind.free) = false := by simpa using hk
          simp only [hb, Bool.false_and, Bool.false_eq_true, if_false] at hx
          rcases hx with z | z
          · exact .inr (Option.some.inj z)
          · exact .inl (Option.some.inj z)
      rcases hk with hk | hk
      · subst hk
        obtain ⟨c, q⟩ := clo_has (cells := X.env.cells) (acc := []) hm
        exact ⟨c, (allC_free S.nodup e).trans q⟩
      · subst hk
        exact Option.isSome_iff_exists.mp (PySem.W.cellsFrom_some scope.names _ _ (.inl e))
  cab := fun x c h q => by
    have e : scope.names.lookup x = some .cell := beq_iff_eq.mp h
    show s3.heap.objs.size ≤ c
    have q' : (allC s3.heap.objs.size X.env.cells scope.names).lookup x = some c := q
    unfold allC at q'
    rw [cells_app, look_app] at q'
    obtain ⟨d, z⟩ := Option.isSome_iff_exists.mp (PySem.W.cellsFrom_some scope.names (s3.heap.objs.size + 1) [] (.inl e))
    rw [z] at q'
    cases q'
    have := (cells_mem (PySem.mem_of_lookup z)).2
    omega
  hd := I.ok.hd
  frames := I.ok.frames
  stk := .inl rfl
  exf := fun b hb => ⟨Nat.ne_of_lt (hlt b hb), fun x c e => by
    rcases allC_cases e with ⟨_, _, l⟩ | q
    · exact Nat.ne_of_gt (Nat.lt_trans (hlt b hb) l)
    · exact (hf b hb).2.2.2.2.1 x c (S.sub I.ok q)⟩
  bs := I.bs
  bsz := Nat.le_trans I.ok.bsz I.sz
  noex := fun b o e hb => by
    rcases (hf b hb).2.2.2.1 with z | z
    · exact I.ok.noex b o e z
    · exact absurd (Nat.lt_of_lt_of_le (Nat.lt_of_lt_of_le (Heap.lt_size e) I.ok.bsz) z) (Nat.lt_irrefl _)
  exfs := fun b hb hm => by
    rcases List.mem_cons.mp (I.stkSub b hm) with z | z
    · exact (hf b hb).2.1 z
    · exact (hf b hb).2.2.1 z
  funs := I.stack
  frf := I.stkFree
theorem comp_inv (S : CompScope X scope own fr N) (I : Inv X pins σ H3 s3) {fp : List Addr} (hf : ∀ b ∈ fp, FpOk X pins H3 b) (hlt : ∀ b ∈ fp, b < s3.heap.objs.size) {h1 : Heap} {t : Nat} {m : Str → Option Value}
    (hn : h1.Ns s3.heap.objs.size m) (hk : ∀ b o, s3.heap.get? b = some o → h1.get? b = some o) (hco : CellsOk h1 (s3.heap.objs.size + 1) (cellsFrom (s3.heap.objs.size + 1) scope.names [])) :
    Inv (cxComp X scope (allC s3.heap.objs.size X.env.cells scope.names) N s3.heap.objs.size s3 H3 fp) [] (List.replicate own.length none ++ frv σ fr) H3 { s3 with heap := h1, toks := t } where
  ok := comp_ok S I hf hlt
  os := rfl
  bare := I.bare
  base := Un.kept hk
  loc := by
    refine ⟨m, hn, fun j x v e1 e2 e3 => ?_⟩
    have e1 : N[j]? = some x := e1
    by_cases hj : j < own.length
    · rw [List.getElem?_append_left (by simpa using hj), List.getElem?_replicate] at e2
      split at e2 <;> cases e2
    · rw [List.getElem?_append_right (by simpa using hj), List.length_replicate] at e2
      unfold frv at e2
      rw [List.getElem?_map] at e2
      cases ef : fr[j - own.length]? with
      | none => rw [ef] at e2; cases e2
      | some i =>
        rw [ef] at e2
        obtain ⟨x', n1, n2, n3⟩ := S.isfr _ _ ef
        rw [show own.length + (j - own.length) = j by omega, e1] at n1
        cases n1
        have e4 : (σ[i]?).join = some v := by simpa using e2
        have e5 : σ[i]? = some (some v) := by
          cases q : σ[i]? with
          | none => rw [q] at e4; cases e4
          | some z => rw [q] at e4; have e4 : z = some v := e4; rw [e4]
        have hfree := S.free _ (PySem.mem_of_lookup n3) rfl
        obtain ⟨mX, hnX, hl⟩ := I.loc
        have hv : Vis X.env.scope x := by
          rcases hfree with z | z
          · exact .inr (.inl z)
          · exact .inr (.inr z)
        obtain ⟨u, r, l⟩ := hl i x v n2 e5 hv
        refine ⟨u, r, .inr ⟨S.look I.ok n3, ?_⟩⟩
        rcases l with ⟨z, _⟩ | ⟨_, c, ec, hc⟩
        · rcases hfree with y | y
          · rw [z] at y; cases y
          · rw [z] at y; cases y
        · obtain ⟨c', e'⟩ := clo_has (cells := X.env.cells) (acc := []) (PySem.mem_of_lookup n3)
          have := S.sub I.ok e'
          rw [ec] at this
          cases this
          exact ⟨c, (allC_free S.nodup n3).trans e', hc.keeps hk⟩
  cell := fun x c e => by
    rcases allC_cases e with ⟨mm, _, _⟩ | q
    · exact ⟨none, (hco.empty x c mm).1⟩
    · obtain ⟨v, z⟩ := I.cell x c (S.sub I.ok q)
      exact ⟨v, z.keeps hk⟩
  free := I.hok.fresh (Nat.le_refl _)
  freeC := fun x c e => by
    rcases allC_cases e with ⟨_, _, l⟩ | q
    · exact I.hok.fresh (Nat.le_of_lt l)
    · exact I.freeC x c (S.sub I.ok q)
  pin := fun p hp => by
    have hp : p ∈ ([] : List (Addr × Obj)) := hp
    simp at hp
  hok := I.hok.kept hk
  len := by
    show _ = N.length
    rw [S.len, List.length_append, List.length_replicate]
    unfold frv
    rw [List.length_map]
end
def CompB (own : Nat) (fr : List Nat) (g : TG) (tc : TT) (te : TE) (σ : St) (Q : VK) (J : It) (D : Addr) (H0 : Hp) : Prop := ∃ W : Nat → Nat → List V → Hp → Prop, (∃ m, W 0 m [] H0) ∧
  ∀ i m ys H, W i m ys H → (J.stop i H ∧ Q (.ref D) H) ∨ (J.go i H ∧ ∀ x H', J.yld i H x H' → ∀ σo : St, σo.length = own → g x (σo ++ frv σ fr) H' fun σ2 H2 => (∃ σo' : St, σo'.length = own ∧ σ2 = σo' ++ frv σ fr) ∧
    tc σ2 H2 fun b H3 => if b = true then te σ2 H3 fun y H4 => ys.length < sizeLine ∧ H4 D = some (.lst ys) ∧ ∃ m', m' < m ∧ W (i + 1) m' (ys ++ [y]) (upd H4 D (.lst (ys ++ [y]))) else ∃ m', m' < m ∧ W (i + 1) m' ys H3)
def tComp (own : Nat) (fr : List Nat) (wi : TI) (g : TG) (tc : TT) (te : TE) : TE := fun σ H Q => wi σ H fun J H1 => ∀ D, H1 D = none → CompB own fr g tc te σ Q J D (upd H1 D (.lst []))
structure CompParts (X : Cx) (scope : Scope) (N : List Str) (tg elt : Expr) (ifs : List Expr) (g : TG) (tc : TT) (te : TE) : Prop where
  tg : ∀ (cl : List (Str × Addr)) (C : Addr) (s₃ : Shared) (H₃ : Hp) (fp : List Addr), PG (cxComp X scope cl N C s₃ H₃ fp) tg g
  ifs : ∀ (cl : List (Str × Addr)) (C : Addr) (s₃ : Shared) (H₃ : Hp) (fp : List Addr), PTs (cxComp X scope cl N C s₃ H₃ fp) ifs tc
  elt : ∀ (cl : List (Str × Addr)) (C : Addr) (s₃ : Shared) (H₃ : Hp) (fp : List Addr), PE (cxComp X scope cl N C s₃ H₃ fp) elt te
section
variable {X : Cx} {scope : Scope} {own N : List Str} {fr : List Nat} {tg elt iter : Expr} {ifs : List Expr} {g : TG} {tc : TT} {te : TE} {wi : TI} {pos : Pos}
theorem comp_run (hc : X.calm = true) (S : CompScope X scope own fr N) (CP : CompParts X scope N tg elt ifs g tc te) {pins : List (Addr × Obj)} {σ : St} {H2 : Hp} {s2 : Shared} (I2 : Inv X pins σ H2 s2) {it : Addr} {fp : List Addr} {tn : Nat → Heap → Prop} {J : It}
    (T : Turn X.prog X.w X.K tg J fp it tn) (st2 : tn 0 s2.heap) (f2 : ∀ b ∈ fp, FpOk X pins H2 b) {Q : VK} {E : Value → Shared → Prop} {RR : Value → Addr → Result → Shared → Prop}
    (hw : ∀ D, H2 D = none → CompB own.length fr g tc te σ Q J D (upd H2 D (.lst [])))
    (hR : ∀ D C s' H' m, Inv X pins σ H' s' → FpOk X pins H' C → s'.heap.Ns C m → Q (.ref D) H' → RR (.ref D) C (.ok .next) s') :
    wpAny (model X.prog X.w) X.A (newList []) (fun acc s₃ => wpAny (model X.prog X.w) X.A (newFunctionEnv scope X.env.globals (clo X.env.cells scope.names []) [] X.env.qual none .none (some X.env)) (fun cenv s₄ =>
      codeAny (model X.prog X.w) X.A (.compStart (.ListComp elt [⟨tg, iter, ifs, 0⟩] scope pos) 0 (.ref it) acc { cenv with scope := relabel scope X.env }) (RR acc cenv.locals) s₄) E s₃) E s2 := by
  have hD : H2 s2.heap.objs.size = none := I2.hok.fresh (Nat.le_refl _)
  have I3 : Inv X pins σ (upd H2 s2.heap.objs.size (.lst [])) { s2 with heap := s2.heap.push { cls := .type "list", data := .seq ([] : List Value).toArray } } :=
    I2.lnew (t' := s2.toks) (ys := []) (its := []) .nil (Nat.zero_le _)
  have hltf : ∀ b ∈ fp, b < s2.heap.objs.size := fun b hb => by
    obtain ⟨o, e, _⟩ := T.obj _ _ st2 b hb
    exact Heap.lt_size e
  have f3 : ∀ b ∈ fp, FpOk X pins (upd H2 s2.heap.objs.size (.lst [])) b := fun b hb => ⟨by rw [upd_ne (Nat.ne_of_lt (hltf b hb))]; exact (f2 b hb).1, (f2 b hb).2⟩
  obtain ⟨W, ⟨m0, w0⟩, turn⟩ := hw _ hD
  refine wpAny_newObj_type (newEnv_comp fun h₁ hns₁ old₁ hco₁ => ?_)
  suffices main : ∀ s3 : Shared, s3 = { s2 with heap := s2.heap.push { cls := .type "list", data := .seq ([] : List Value).toArray } } → Inv X pins σ (upd H2 s2.heap.objs.size (.lst [])) s3 → ∀ m : Str → Option Value, h₁.Ns s3.heap.objs.size m →
      (∀ b o, s3.heap.get? b = some o → h₁.get? b = some o) → CellsOk h₁ (s3.heap.objs.size + 1) (cellsFrom (s3.heap.objs.size + 1) scope.names []) → codeAny (model X.prog X.w) X.A (.compStart (.ListComp elt [⟨tg, iter, ifs, 0⟩] scope pos) 0 (.ref it) (.ref s2.heap.objs.size) (compEnvC scope (allC s3.heap.objs.size X.env.cells scope.names) s3.heap.objs.size X.env))
        (RR (.ref s2.heap.objs.size) s3.heap.objs.size) { s3 with heap := h₁, toks := s3.toks } from
    main _ rfl I3 _ hns₁ old₁ hco₁
  clear hns₁ old₁ hco₁
  intro s3 hH3 I3 m3 hns₁ old hco
  have e3 : s3.heap = s2.heap.push { cls := .type "list", data := .seq ([] : List Value).toArray } := by rw [hH3]
  have hs3 : s2.heap.objs.size < s3.heap.objs.size := by rw [e3, Heap.size_push]; exact Nat.lt_succ_self _
  have hlt3 : ∀ b ∈ fp, b < s3.heap.objs.size := fun b hb => Nat.lt_trans (hltf b hb) hs3
  have I4 := comp_inv S I3 f3 hlt3 (t := s3.toks) hns₁ old hco
  have ok' := comp_ok S I3 f3 hlt3
  have st4 : tn 0 h₁ := T.keep 0 s2.heap h₁ st2 fun b hb o e => old b o (by rw [e3]; exact Heap.get?_push_of_some _ e)
  have stat : ∀ {H' : Hp}, (∀ b ∈ fp, H' b = none) → ∀ b ∈ fp, FpOk (cxComp X scope (allC s3.heap.objs.size X.env.cells scope.names) N s3.heap.objs.size s3 (upd H2 s2.heap.objs.size (.lst [])) fp) [] H' b := fun {H'} hn b hb =>
    ⟨hn b hb, Nat.ne_of_lt (hlt3 b hb), ok'.exfs b hb, .inl hb, (ok'.exf b hb).2, fun p hp => by
      have hp : p ∈ ([] : List (Addr × Obj)) := hp
      simp at hp⟩
  have loop : ∀ s₄ : Shared, s₄ = { s3 with heap := h₁, toks := s3.toks } →
      codeAny (model X.prog X.w) X.A (.compLoop (.ListComp elt [⟨tg, iter, ifs, 0⟩] scope pos) 0 (.ref it) (.ref s2.heap.objs.size) (compEnvC scope (allC s3.heap.objs.size X.env.cells scope.names) s3.heap.objs.size X.env))
        (RR (.ref s2.heap.objs.size) s3.heap.objs.size) s₄ := by
    rintro s₄ rfl
    refine compLoop_any (fun n s' => ∃ i ys σo H', σo.length = own.length ∧ Inv (cxComp X scope (allC s3.heap.objs.size X.env.cells scope.names) N s3.heap.objs.size s3 (upd H2 s2.heap.objs.size (.lst [])) fp) [] (σo ++ frv σ fr) H' s' ∧
      tn i s'.heap ∧ (∀ b ∈ fp, H' b = none) ∧ W i n ys H') ?_ m0 ⟨0, [], List.replicate own.length none, _, List.length_replicate, I4, st4, fun b hb => (f3 b hb).1, w0⟩
    rintro n s5 ⟨i, ys, σo, H5, hσ, I5, st5, fr5, w5⟩
    rcases turn i n ys H5 w5 with ⟨stop, qn⟩ | ⟨go, step⟩
    · refine thn (T.done (cxComp X scope (allC s3.heap.objs.size X.env.cells scope.names) N s3.heap.objs.size s3 (upd H2 s2.heap.objs.size (.lst [])) fp) rfl rfl rfl hc i [] s5 (σo ++ frv σ fr) H5 _ I5 (stat fr5) st5 stop) fun r s6 ⟨hr, I6⟩ => ?_
      subst hr
      obtain ⟨m, hn6, _⟩ := I6.loc
      refine hR _ _ s6 H5 m (I3.call' (ch := fp) I6.os I6.base I6.hok I6.bare fun b hb => ⟨(f3 b hb).2.2.2.1, (f3 b hb).2.1, (f3 b hb).2.2.2.2.1, (f3 b hb).2.2.2.2.2⟩) (I3.fpOk (Nat.le_refl _) I6.free) hn6 qn
    · refine thn (T.item (cxComp X scope (allC s3.heap.objs.size X.env.cells scope.names) N s3.heap.objs.size s3 (upd H2 s2.heap.objs.size (.lst [])) fp) rfl rfl rfl hc i [] s5 (σo ++ frv σ fr) H5 _ I5 (stat fr5) st5 go) fun r s6 ⟨u, hr, h6⟩ => ?_
      subst hr
      refine thn h6 fun _ s7 ⟨x, H7, I7, r7, y7, st7, fr7⟩ => ?_
      have I7' := I7.pinned (stat fr7) (T.obj _ _ st7)
      have again : ∀ {σ8 : St} {H8 : Hp} {s8 : Shared} {zs : List V}, Inv (cxComp X scope (allC s3.heap.objs.size X.env.cells scope.names) N s3.heap.objs.size s3 (upd H2 s2.heap.objs.size (.lst [])) fp) ([] ++ pinsAt fp s7.heap) (σ8 ++ frv σ fr) H8 s8 → σ8.length = own.length →
          (∃ m', m' < n ∧ W (i + 1) m' zs H8) → ∃ m, m < n ∧ ∃ i ys σo H', σo.length = own.length ∧ Inv (cxComp X scope (allC s3.heap.objs.size X.env.cells scope.names) N s3.heap.objs.size s3 (upd H2 s2.heap.objs.size (.lst [])) fp) [] (σo ++ frv σ fr) H' s8 ∧
            tn i s8.heap ∧ (∀ b ∈ fp, H' b = none) ∧ W i m ys H' := fun {σ8 H8 s8 zs} I8 h8 ⟨m', hm, w8⟩ => by
        refine ⟨m', hm, i + 1, zs, σ8, H8, h8, I8.unpinned, T.keep _ _ _ st7 fun b hb o e => (I8.pin (b, o) (List.mem_append_right _ (List.mem_append_right _ (mem_pinsAt hb e)))).1, fun b hb => ?_, w8⟩
        obtain ⟨o, e, d⟩ := T.obj _ _ st7 b hb
        exact (I8.pin (b, o) (List.mem_append_right _ (List.mem_append_right _ (mem_pinsAt hb e)))).2.1
      refine thn (CP.tg _ _ _ _ _ _ s7 _ H7 x u _ I7' r7 (step x H7 y7 σo hσ)) fun _ s8 ⟨σ8, H8, I8, ⟨σo', hσ', eσ⟩, q8⟩ => ?_
      subst eσ
      refine thn (CP.ifs _ _ _ _ _ _ s8 _ H8 _ I8 q8) fun b s9 ⟨H9, I9, q9⟩ => ?_
      cases b with
      | false =>
        rw [if_neg Bool.false_ne_true] at q9 ⊢
        exact again I9 hσ' q9
      | true =>
        rw [if_pos rfl] at q9 ⊢
        refine thn (CP.elt _ _ _ _ _ _ s9 _ H9 _ I9 q9) fun z s10 ⟨y, H10, I10, r10, hz, hD10, q10⟩ => ?_
        exact thn (mt_append _ s10 _ H10 (.ref s2.heap.objs.size) [y] (.ref s2.heap.objs.size) [z] (fun _ H => ∃ m', m' < n ∧ W (i + 1) m' (ys ++ [y]) H) I10 rfl (.cons r10 .nil) ⟨_, ys, y, rfl, rfl, hD10, hz, q10⟩)
          fun _ s11 ⟨_, H11, I11, _, q11⟩ => again I11 hσ' q11
  exact codeAny_compStart_list (loop _ rfl) (T.self _ 0 _ _ _ st4 (loop _ rfl))
theorem pe_comp (hc : X.calm = true) (S : CompScope X scope own fr N) (CP : CompParts X scope N tg elt ifs g tc te) (hi : PI X tg iter wi) (hs : ∀ x, foldedSetIterable iter X.env x = pure x := by intro _; rfl) :
    PE X (.ListComp elt [⟨tg, iter, ifs, 0⟩] scope pos) (tComp own.length fr wi g tc te) := by
  intro pins s σ H Q I h
  rw [eval_ListComp]
  refine wpAny_comprehension_free (use := none) (g := ⟨tg, iter, ifs, 0⟩) (gs := []) rfl hs (closure_go (S.clo I.ok)) S.kind S.names (thn (hi pins s σ H _ I h) fun v s1 h1 => thn h1 fun itv s2 h2 => ?_)
  obtain ⟨it, fp, tn, J, H2, e, I2, T, st2, f2, hw⟩ := h2
  subst e
  exact comp_run (RR := fun acc C => compPost (model X.prog X.w) X.A X.xe none (EP X pins σ Q) acc C) hc S CP I2 T st2 f2 hw fun D C s' H' m I' fC hn q =>
    ⟨m, hn, fun h' hb => ⟨.ref D, H', I'.turned (t' := s'.toks) (fun b o hne e => hb.extBut b o hne e) fC.1 fC.2.1 fC.2.2.2.1 fC.2.2.2.2.1 fC.2.2.2.2.2, rfl, q⟩⟩
theorem ps_setc {i : Nat} {x : Str} {posc pos' : Pos} (hc : X.calm = true) (hN : X.N.Nodup) (hi' : X.N[i]? = some x) (hx : Loc X.env.scope x) (S : CompScope X scope own fr N) (CP : CompParts X scope N tg elt ifs g tc te) (hi : PI X tg iter wi)
    (hsw : swapsWith (.ListComp elt [⟨tg, iter, ifs, 0⟩] scope posc) (some (.Name x pos')) pos.line X.env = pure true := by rfl)
    (hf : X.fn x = true ∨ X.env.scope.names.lookup x = some .local := by first | exact .inl rfl | exact .inr rfl | assumption) (hs : ∀ x, foldedSetIterable iter X.env x = pure x := by intro _; rfl) :
    PS X (.Assign [.Name x pos'] (.ListComp elt [⟨tg, iter, ifs, 0⟩] scope posc) pos) (tAsg (tComp own.length fr wi g tc te) (gName i)) := by
  intro pins s σ H D I h
  rw [exec_Assign_Name_used _ _ _ _ hsw]
  refine wpAny_bind (wpAny_standAt (wpAny_bind ?_))
  show wpAny _ X.A (do let _ ← comprehension (.ListComp elt [⟨tg, iter, ifs, 0⟩] scope posc) scope X.env _ (newList []) false (eval iter X.env) (some (assign (.Name x pos') X.env))) _ _ s
  refine wpAny_bind (wpAny_mono (wpAny_comprehension_free (use := some (assign (.Name x pos') X.env)) (g := ⟨tg, iter, ifs, 0⟩) (gs := []) (Q := fun _ s' => SP X pins D .next s') rfl hs (closure_go (S.clo I.ok)) S.kind S.names
    (thn (hi pins s σ H _ I h) fun v s1 h1 => thn h1 fun itv s2 h2 => ?_)) (fun _ _ q => wpAny_pure (wpAny_pure q)) fun _ _ e => e)
  obtain ⟨it, fp, tn, J, H2, e, I2, T, st2, f2, hw⟩ := h2
  subst e
  refine comp_run (Q := fun x H1 => gName i x σ H1 D.nx) (RR := fun acc C => compPost (model X.prog X.w) X.A X.xe (some (assign (.Name x pos') X.env)) (fun _ s' => SP X pins D .next s') acc C) hc S CP I2 T st2 f2 hw fun Dd C s' H' m I' fC hn q => ?_
  refine wpAny_assign_Name (store_ok2 I' hN hi' hx (show RelV (.ref Dd) (.ref Dd) from rfl) (fun s'' I'' ⟨a, hsb, ha⟩ => ?_) hf)
  have hCa : C ≠ a := by
    rcases ha with z | z
    · rw [z]; exact fC.2.1
    · exact fun e => fC.2.2.2.2.1 x a z e.symm
  refine ⟨m, hn.sameBut hsb hCa, fun h' hb => ?_⟩
  exact ⟨_, H', I''.turned (t' := s''.toks) (fun b o hne e => hb.extBut b o hne e) fC.1 fC.2.1 fC.2.2.2.1 fC.2.2.2.2.1 fC.2.2.2.2.2, q⟩
end
end L2
end
section
set_option autoImplicit false
namespace L2
open PySem PySem.Spec PyProof.Rows
inductive T where
  | non | int (i : Int) | str (x : Str) | tup (ts : List T)
mutual
def Dp (H : Hp) : T → V → Prop
  | .non, v => v = V.non
  | .int i, v => v = V.int i
  | .str x, v => v = V.str x
  | .tup ts, v => ∃ a xs, v = V.ref a ∧ H a = some (.tup xs) ∧ DpL H ts xs
def DpL (H : Hp) : List T → List V → Prop
  | [], xs => xs = []
  | t :: ts, xs => ∃ x r, xs = x :: r ∧ Dp H t x ∧ DpL H ts r
end
def Tups (H H' : Hp) : Prop := ∀ a xs, H a = some (.tup xs) → H' a = some (.tup xs)
theorem Tups.trans {H H1 H2 : Hp} (a : Tups H H1) (b : Tups H1 H2) : Tups H H2 := fun c o h => b c o (a c o h)
theorem Same.tups {H H' : Hp} (h : Same H H') : Tups H H' := fun a xs e => h a _ e
mutual
theorem Dp.mono {H H' : Hp} (h : Tups H H') : ∀ {t : T} {v : V}, Dp H t v → Dp H' t v
  | .non, _, e => by rw [Dp] at e ⊢; exact e
  | .int _, _, e => by rw [Dp] at e ⊢; exact e
  | .str _, _, e => by rw [Dp] at e ⊢; exact e
  | .tup ts, v, e => by
    rw [Dp] at e ⊢
    obtain ⟨a, xs, e, ha, hl⟩ := e
    exact ⟨a, xs, e, h a xs ha, DpL.mono h hl⟩
theorem DpL.mono {H H' : Hp} (h : Tups H H') : ∀ {ts : List T} {xs : List V}, DpL H ts xs → DpL H' ts xs
  | [], _, e => by rw [DpL] at e ⊢; exact e
  | t :: ts, xs, e => by
    rw [DpL] at e ⊢
    obtain ⟨x, r, e, h1, h2⟩ := e
    exact ⟨x, r, e, Dp.mono h h1, DpL.mono h h2⟩
end
theorem DpL.nil {H : Hp} : DpL H [] [] := by rw [DpL]
theorem DpL.cons {H : Hp} {t : T} {ts : List T} {x : V} {xs : List V} (h : Dp H t x) (r : DpL H ts xs) : DpL H (t :: ts) (x :: xs) := by
  rw [DpL]
  exact ⟨x, xs, rfl, h, r⟩
theorem DpL.cases {H : Hp} {t : T} {ts : List T} {xs : List V} (h : DpL H (t :: ts) xs) : ∃ x r, xs = x :: r ∧ Dp H t x ∧ DpL H ts r := by
  rw [DpL] at h
  exact h
theorem DpL.of_nil {H : Hp} {xs : List V} (h : DpL H [] xs) : xs = [] := by
  rw [DpL] at h
  exact h
theorem Dp.int {H : Hp} (i : Int) : Dp H (.int i) (.int i) := by rw [Dp]
theorem Dp.str {H : Hp} (x : Str) : Dp H (.str x) (.str x) := by rw [Dp]
theorem Dp.of_str {H : Hp} {x : Str} {v : V} (h : Dp H (.str x) v) : v = .str x := by
  rw [Dp] at h
  exact h
theorem Dp.of_tup {H : Hp} {ts : List T} {v : V} (h : Dp H (.tup ts) v) : ∃ a xs, v = V.ref a ∧ H a = some (.tup xs) ∧ DpL H ts xs := by
  rw [Dp] at h
  exact h
theorem Dp.tup {H : Hp} {ts : List T} {a : Addr} {xs : List V} (h : H a = some (.tup xs)) (r : DpL H ts xs) : Dp H (.tup ts) (.ref a) := by
  rw [Dp]
  exact ⟨a, xs, rfl, h, r⟩
theorem DpL.length {H : Hp} : ∀ {ts : List T} {xs : List V}, DpL H ts xs → xs.length = ts.length
  | [], xs, h => by rw [h.of_nil]; rfl
  | t :: ts, xs, h => by
    obtain ⟨x, r, rfl, _, h2⟩ := h.cases
    rw [List.length_cons, List.length_cons, h2.length]
theorem DpL.get {H : Hp} : ∀ {ts : List T} {xs : List V} {i : Nat} {t : T}, DpL H ts xs → ts[i]? = some t → ∃ x, xs[i]? = some x ∧ Dp H t x
  | [], _, _, _, _, e => by simp at e
  | t :: ts, xs, 0, t', h, e => by
    obtain ⟨x, r, rfl, h1, _⟩ := h.cases
    simp at e
    subst e
    exact ⟨x, rfl, h1⟩
  | t :: ts, xs, i + 1, t', h, e => by
    obtain ⟨x, r, rfl, _, h2⟩ := h.cases
    obtain ⟨y, e1, e2⟩ := h2.get (i := i) (t := t') (by simpa using e)
    exact ⟨y, by simpa using e1, e2⟩
theorem DpL.append {H : Hp} : ∀ {ts us : List T} {xs ys : List V}, DpL H ts xs → DpL H us ys → DpL H (ts ++ us) (xs ++ ys)
  | [], _, xs, _, h, g => by rw [h.of_nil]; exact g
  | t :: ts, us, xs, ys, h, g => by
    obtain ⟨x, r, rfl, h1, h2⟩ := h.cases
    exact .cons h1 (h2.append g)
theorem DpL.strs {H : Hp} : ∀ (ns : List Str), DpL H (ns.map T.str) (ns.map V.str)
  | [] => .nil
  | n :: ns => .cons (Dp.str n) (DpL.strs ns)
theorem DpL.of_strs {H : Hp} : ∀ {ns : List Str} {xs : List V}, DpL H (ns.map T.str) xs → xs = ns.map V.str
  | [], _, h => h.of_nil
  | n :: ns, xs, h => by
    obtain ⟨x, r, rfl, h1, h2⟩ := DpL.cases (t := T.str n) (ts := ns.map T.str) h
    rw [h1.of_str, DpL.of_strs h2]
    rfl
mutual
theorem Dp.fn {H : Hp} : ∀ {t t' : T} {v : V}, Dp H t v → Dp H t' v → t = t'
  | .non, t', v, h, g => by
    rw [Dp] at h
    subst h
    cases t' <;> rw [Dp] at g
    all_goals first | rfl | (cases g; done) | (obtain ⟨_, _, e, _⟩ := g; cases e)
  | .int i, t', v, h, g => by
    rw [Dp] at h
    subst h
    cases t' <;> rw [Dp] at g
    all_goals first | (cases g; rfl) | (cases g; done) | (obtain ⟨_, _, e, _⟩ := g; cases e)
  | .str i, t', v, h, g => by
    rw [Dp] at h
    subst h
    cases t' <;> rw [Dp] at g
    all_goals first | (cases g; rfl) | (cases g; done) | (obtain ⟨_, _, e, _⟩ := g; cases e)
  | .tup ts, t', v, h, g => by
    obtain ⟨a, xs, rfl, ha, hl⟩ := h.of_tup
    cases t' with
    | tup us =>
      obtain ⟨b, ys, e, hb, gl⟩ := g.of_tup
      cases e
      rw [ha] at hb
      cases hb
      rw [DpL.fn hl gl]
    | _ => rw [Dp] at g; cases g
theorem DpL.fn {H : Hp} : ∀ {ts us : List T} {xs : List V}, DpL H ts xs → DpL H us xs → ts = us
  | [], us, xs, h, g => by
    have e := h.of_nil
    subst e
    cases us with
    | nil => rfl
    | cons u us =>
      obtain ⟨_, _, e, _⟩ := g.cases
      cases e
  | t :: ts, us, xs, h, g => by
    obtain ⟨x, r, rfl, h1, h2⟩ := h.cases
    cases us with
    | nil =>
      have e := g.of_nil
      cases e
    | cons u us =>
      obtain ⟨_, _, e, g1, g2⟩ := g.cases
      cases e
      rw [Dp.fn h1 g1, DpL.fn h2 g2]
end
def Lv : Nat → T → Prop
  | _, .non => True
  | _, .int _ => True
  | _, .str _ => True
  | 0, .tup _ => False
  | n + 1, .tup ts => ∀ t ∈ ts, Lv n t
noncomputable def dcd (p : Prop) : Bool := @decide p (Classical.propDecidable p)
theorem dcd_t {p : Prop} (h : p) : dcd p = true := @decide_eq_true p (Classical.propDecidable p) h
theorem dcd_f {p : Prop} (h : ¬ p) : dcd p = false := @decide_eq_false p (Classical.propDecidable p) h
theorem dcd_iff {p : Prop} : dcd p = true ↔ p := ⟨fun h => @of_decide_eq_true p (Classical.propDecidable p) h, dcd_t⟩
theorem dcd_eq {p q : Prop} (h : p ↔ q) : dcd p = dcd q := by rw [propext h]
theorem dcd_of {p : Prop} {b : Bool} (h : b = true ↔ p) : b = dcd p := by
  by_cases hp : p
  · rw [dcd_t hp]
    exact h.mpr hp
  · rw [dcd_f hp]
    cases b with
    | false => rfl
    | true => exact absurd (h.mp rfl) hp
section
variable {X : Cx} {pins : List (Addr × Obj)} {σ : St} {H : Hp} {s : Shared}
theorem tup_at (I : Inv X pins σ H s) {a : Addr} {xs : List V} (h : H a = some (.tup xs)) : ∃ its : List Value, Vals xs its ∧ s.heap.IsTuple a its.toArray := by
  obtain ⟨its, r, p, _⟩ := I.tuple (SqT.of h)
  exact ⟨its, r, p⟩
theorem eqAt_T (I : Inv X pins σ H s) : ∀ (n : Nat) (A : Around) (t1 t2 : T) (v1 v2 : V) (u1 u2 : Value), Lv n t1 → A.units + n < cLine → Dp H t1 v1 → Dp H t2 v2 → RelV v1 u1 → RelV v2 u2 → SeqAt.EqAt A s u1 u2 (dcd (t1 = t2)) := by
  have flat : ∀ (A : Around) (t1 t2 : T) (v1 v2 : V) (u1 u2 : Value), flatV v1 = true → flatV v2 = true → Dp H t1 v1 → Dp H t2 v2 → RelV v1 u1 → RelV v2 u2 → eqV v1 v2 = dcd (t1 = t2) → SeqAt.EqAt A s u1 u2 (dcd (t1 = t2)) :=
    fun A t1 t2 v1 v2 u1 u2 f1 f2 _ _ r1 r2 e => by
      rw [← e]
      exact eqAt_V r1 r2 f1 f2
  intro n
  induction n with
  | zero =>
    intro A t1 t2 v1 v2 u1 u2 hn hu d1 d2 r1 r2
    have hu0 : A.units < cLine := by omega
    cases t1 with
    | tup ts => exact (show False from hn).elim
    | non =>
      rw [Dp] at d1
      subst d1
      cases t2 with
      | tup us =>
        obtain ⟨b, ys, rfl, hb, _⟩ := d2.of_tup
        obtain ⟨its, r, p⟩ := tup_at I hb
        cases r1
        cases r2
        rw [dcd_f (by intro h; cases h)]
        exact SeqAt.EqAt.none_tuple p hu0
      | non => rw [Dp] at d2; subst d2; exact flat A _ _ _ _ _ _ rfl rfl (by rw [Dp]) (by rw [Dp]) r1 r2 (dcd_t rfl).symm
      | int j => rw [Dp] at d2; subst d2; exact flat A _ _ _ _ _ _ rfl rfl (by rw [Dp]) (by rw [Dp]) r1 r2 (dcd_f (by intro h; cases h)).symm
      | str j => rw [Dp] at d2; subst d2; exact flat A _ _ _ _ _ _ rfl rfl (by rw [Dp]) (by rw [Dp]) r1 r2 (dcd_f (by intro h; cases h)).symm
    | int i =>
      rw [Dp] at d1
      subst d1
      cases t2 with
      | tup us =>
        obtain ⟨b, ys, rfl, hb, _⟩ := d2.of_tup
        obtain ⟨its, r, p⟩ := tup_at I hb
        obtain ⟨t, rfl⟩ := r1
        cases r2
        rw [dcd_f (by intro h; cases h)]
        exact SeqAt.EqAt.int_tuple i t p hu0
      | non => rw [Dp] at d2; subst d2; exact flat A _ _ _ _ _ _ rfl rfl (by rw [Dp]) (by rw [Dp]) r1 r2 (dcd_f (by intro h; cases h)).symm
      | int j =>
        rw [Dp] at d2
        subst d2
        exact flat A _ _ _ _ _ _ rfl rfl (by rw [Dp]) (by rw [Dp]) r1 r2 (dcd_of (by show (i == j) = true ↔ _; rw [beq_iff_eq]; exact ⟨fun h => by rw [h], fun h => by cases h; rfl⟩))
      | str j => rw [Dp] at d2; subst d2; exact flat A _ _ _ _ _ _ rfl rfl (by rw [Dp]) (by rw [Dp]) r1 r2 (dcd_f (by intro h; cases h)).symm
    | str i =>
      rw [Dp] at d1
      subst d1
      cases t2 with
      | tup us =>
        obtain ⟨b, ys, rfl, hb, _⟩ := d2.of_tup
        obtain ⟨its, r, p⟩ := tup_at I hb
        obtain ⟨t, rfl⟩ := r1
        cases r2
        rw [dcd_f (by intro h; cases h)]
        exact SeqAt.EqAt.str_tuple i t p hu0
      | non => rw [Dp] at d2; subst d2; exact flat A _ _ _ _ _ _ rfl rfl (by rw [Dp]) (by rw [Dp]) r1 r2 (dcd_f (by intro h; cases h)).symm
      | int j => rw [Dp] at d2; subst d2; exact flat A _ _ _ _ _ _ rfl rfl (by rw [Dp]) (by rw [Dp]) r1 r2 (dcd_f (by intro h; cases h)).symm
      | str j =>
        rw [Dp] at d2
        subst d2
        exact flat A _ _ _ _ _ _ rfl rfl (by rw [Dp]) (by rw [Dp]) r1 r2 (dcd_of (by show (i == j) = true ↔ _; rw [beq_iff_eq]; exact ⟨fun h => by rw [h], fun h => by cases h; rfl⟩))
  | succ n ih =>
    intro A t1 t2 v1 v2 u1 u2 hn hu d1 d2 r1 r2
    cases t1 with
    | non => exact (ih A .non t2 v1 v2 u1 u2 (by cases n <;> trivial) (by omega) d1 d2 r1 r2)
    | int i => exact (ih A (.int i) t2 v1 v2 u1 u2 (by cases n <;> trivial) (by omega) d1 d2 r1 r2)
    | str i => exact (ih A (.str i) t2 v1 v2 u1 u2 (by cases n <;> trivial) (by omega) d1 d2 r1 r2)
    | tup ts =>
      have hn : ∀ t ∈ ts, Lv n t := hn
      have hu0 : A.units < cLine := by omega
      obtain ⟨a, xs, rfl, ha, hl⟩ := d1.of_tup
      obtain ⟨its, r, p⟩ := tup_at I ha
      cases r1
      cases t2 with
      | non =>
        rw [Dp] at d2
        subst d2
        cases r2
        rw [dcd_f (by intro h; cases h)]
        exact SeqAt.EqAt.tuple_none p hu0
      | int j =>
        rw [Dp] at d2
        subst d2
        obtain ⟨t, rfl⟩ := r2
        rw [dcd_f (by intro h; cases h)]
        exact SeqAt.EqAt.tuple_int j t p hu0
      | str j =>
        rw [Dp] at d2
        subst d2
        obtain ⟨t, rfl⟩ := r2
        rw [dcd_f (by intro h; cases h)]
        exact SeqAt.EqAt.tuple_str j t p hu0
      | tup us =>
        obtain ⟨b, ys, rfl, hb, gl⟩ := d2.of_tup
        obtain ⟨its2, q, p2⟩ := tup_at I hb
        cases r2
        by_cases hab : a = b
        · subst hab
          rw [ha] at hb
          cases hb
          rw [dcd_t (by rw [DpL.fn hl gl])]
          exact SeqAt.EqAt.same _
        · have l1 : its.toArray.size = ts.length := by rw [List.size_toArray, ← r.length, hl.length]
          have l2 : its2.toArray.size = us.length := by rw [List.size_toArray, ← q.length, gl.length]
          have key := SeqAt.RcAt.tuples (A := A) (s := s) (e := fun j => dcd (ts[j]? = us[j]?)) p p2 hu0 (fun j h1 h2 => by
            have j1 : j < ts.length := by omega
            have j2 : j < us.length := by omega
            have e1 : ts[j]? = some ts[j] := List.getElem?_eq_getElem j1
            have e2 : us[j]? = some us[j] := List.getElem?_eq_getElem j2
            obtain ⟨x1, f1, g1⟩ := hl.get e1
            obtain ⟨x2, f2, g2⟩ := gl.get e2
            obtain ⟨w1, k1, m1⟩ := r.get f1
            obtain ⟨w2, k2, m2⟩ := q.get f2
            have n1 : its.toArray[j] = w1 := by
              have : its.toArray[j]? = some w1 := by simpa using k1
              rw [Array.getElem?_eq_getElem h1] at this
              exact Option.some.inj this
            have n2 : its2.toArray[j] = w2 := by
              have : its2.toArray[j]? = some w2 := by simpa using k2
              rw [Array.getElem?_eq_getElem h2] at this
              exact Option.some.inj this
            rw [n1, n2]
            have := ih A.in1 ts[j] us[j] x1 x2 w1 w2 (hn _ (List.getElem_mem j1)) (by show A.units + 1 + n < cLine; omega) g1 g2 m1 m2
            rw [show dcd (ts[j]? = us[j]?) = dcd (ts[j] = us[j]) from dcd_eq (by rw [e1, e2]; exact ⟨fun h => Option.some.inj h, fun h => by rw [h]⟩)]
            exact this)
          have fin := SeqAt.EqAt.of_refs hab key
          have ee : ((List.range (min its.toArray.size its2.toArray.size)).all (fun j => dcd (ts[j]? = us[j]?)) && its.toArray.size == its2.toArray.size) = dcd (T.tup ts = T.tup us) := by
            refine dcd_of ?_
            rw [l1, l2, Bool.and_eq_true, List.all_eq_true, beq_iff_eq]
            constructor
            · rintro ⟨h1, h2⟩
              have : ts = us := by
                apply List.ext_getElem?
                intro j
                by_cases hj : j < ts.length
                · exact dcd_iff.mp (h1 j (List.mem_range.mpr (by omega)))
                · rw [List.getElem?_eq_none (by omega), List.getElem?_eq_none (by omega)]
              rw [this]
            · intro h
              cases h
              exact ⟨fun j _ => dcd_t rfl, rfl⟩
          rw [ee] at fin
          exact fin
noncomputable def isT (H : Hp) (t : T) (u : Value) : Bool := dcd (∃ v, RelV v u ∧ Dp H t v)
theorem isT_of {t t' : T} {v : V} {u : Value} (r : RelV v u) (d : Dp H t' v) : isT H t u = dcd (t' = t) := by
  refine dcd_eq ⟨?_, ?_⟩
  · rintro ⟨v', r', d'⟩
    rw [r'.inj r] at d'
    exact (d'.fn d).symm
  · intro h
    subst h
    exact ⟨v, r, d⟩
theorem items_T : ∀ {ts : List T} {xs : List V} {us : List Value}, DpL H ts xs → Vals xs us → ∀ u ∈ us, ∃ t ∈ ts, ∃ v, RelV v u ∧ Dp H t v
  | [], xs, us, h, r => by
    have e := h.of_nil
    subst e
    cases r
    exact fun u hu => by cases hu
  | t :: ts, xs, us, h, r => by
    obtain ⟨x, xr, rfl, h1, h2⟩ := h.cases
    cases r with
    | cons r1 r2 =>
      intro u hu
      rcases List.mem_cons.mp hu with e | e
      · rw [e]
        exact ⟨t, List.mem_cons_self, x, r1, h1⟩
      · obtain ⟨t', m, z⟩ := items_T h2 r2 u e
        exact ⟨t', List.mem_cons_of_mem _ m, z⟩
theorem any_T {t : T} : ∀ {ts : List T} {xs : List V} {us : List Value}, DpL H ts xs → Vals xs us → us.any (isT H t) = dcd (t ∈ ts)
  | [], xs, us, h, r => by
    have e := h.of_nil
    subst e
    cases r
    rw [dcd_f (by simp)]
    rfl
  | t' :: ts, xs, us, h, r => by
    obtain ⟨x, xr, rfl, h1, h2⟩ := h.cases
    cases r with
    | cons r1 r2 =>
      rw [List.any_cons, isT_of r1 h1, any_T h2 r2]
      refine dcd_of ?_
      rw [Bool.or_eq_true, dcd_iff, dcd_iff, List.mem_cons]
      exact ⟨fun h => h.imp (fun z => z.symm) id, fun h => h.imp (fun z => z.symm) id⟩
end
section
variable {X : Cx}
def rInT (neg : Bool) : R2 := fun x y H Q => ∃ p xs t ts, y = .ref p ∧ (H p = some (.lst xs) ∨ H p = some (.tup xs)) ∧ Dp H t x ∧ DpL H ts xs ∧ (∀ t ∈ ts, Lv 6 t) ∧ Q (.bl (if neg then !dcd (t ∈ ts) else dcd (t ∈ ts))) H
theorem op_notInT (hu : X.A.units + 10 < cLine) : OpR X (compareOp .NotIn) (rInT true) := by
  intro pins s σ H x y v u Q I rx ry h
  obtain ⟨p, xs, t, ts, rfl, hq, dx, dl, lv, q⟩ := h
  cases ry
  have fin : ∀ its : List Value, Vals xs its → (∀ w, w ∈ its.toArray → SeqAt.EqAt X.A.in1 s w v (isT H t w)) ∧ its.toArray.any (isT H t) = dcd (t ∈ ts) := fun its r => by
    refine ⟨fun w hw => ?_, by rw [show its.toArray.any (isT H t) = its.any (isT H t) by simp, any_T dl r]⟩
    obtain ⟨t', m, v', r', d'⟩ := items_T dl r w (by simpa using hw)
    rw [isT_of r' d']
    exact eqAt_T I 6 _ t' t v' x w v (lv t' m) (by show X.A.units + 1 + 6 < cLine; omega) d' dx r' rx
  rcases hq with hq | hq
  · obtain ⟨its, r, pl, hz⟩ := I.list (SqL.of hq)
    obtain ⟨f1, f2⟩ := fin its r
    refine SeqAt.notIn_listAt (isT H t) pl.isList f1 ⟨.bl _, H, I, rfl, ?_⟩
    rw [f2]
    exact q
  · obtain ⟨its, r, pl, hz⟩ := I.tuple (SqT.of hq)
    obtain ⟨f1, f2⟩ := fin its r
    refine SeqAt.notIn_tupleAt (isT H t) pl f1 ⟨.bl _, H, I, rfl, ?_⟩
    rw [f2]
    exact q
end
end L2
end
section
set_option autoImplicit false
namespace L2
open PySem PySem.Spec PyProof.Rows
section
variable {X : Cx}
def rSlS : V → Option Int → Option Int → Hp → VK → Prop := fun x lo hi H Q => ∃ z, x = .str z ∧ z.length ≤ sizeLine ∧ Q (.str (Txt.slice z lo hi)) H
theorem sl_str : SlR X rSlS := by
  intro pins s σ H x v vl vu lo hi sl Q I rx hs pl pu h
  obtain ⟨z, rfl, hz, q⟩ := h
  obtain ⟨t, rfl⟩ := rx
  obtain ⟨o, ho, hc, hd⟩ := hs
  have fin : ∀ (t' : Tok) (k : Nat), EP X pins σ Q (.str (Txt.slice z lo hi) t') { s with toks := k } := fun t' k => ⟨.str _, H, I.tok k, ⟨_, rfl⟩, q⟩
  refine ⟨"str", _, F.slot_str_getitem.lookup, typeIs_str _ _ _, ?_⟩
  cases pl with
  | none =>
    cases pu with
    | none => exact wpAny_getItem_str_slice (l := none) (u := none) (st := none) ⟨o, ho, hc, hd⟩ rfl (post_val_or_str ⟨Nat.le_trans (Txt.slice_le z _ _) hz, fin⟩)
    | int j uj => exact wpAny_getItem_str_slice (l := none) (u := some (j, uj)) (st := none) ⟨o, ho, hc, hd⟩ rfl (post_val_or_str ⟨Nat.le_trans (Txt.slice_le z _ _) hz, fin⟩)
  | int i ui =>
    cases pu with
    | none => exact wpAny_getItem_str_slice (l := some (i, ui)) (u := none) (st := none) ⟨o, ho, hc, hd⟩ rfl (post_val_or_str ⟨Nat.le_trans (Txt.slice_le z _ _) hz, fin⟩)
    | int j uj => exact wpAny_getItem_str_slice (l := some (i, ui)) (u := some (j, uj)) (st := none) ⟨o, ho, hc, hd⟩ rfl (post_val_or_str ⟨Nat.le_trans (Txt.slice_le z _ _) hz, fin⟩)
def tSlK (K : PySem.W.Frag) (te tk : TE) : TE := fun σ H Q => te σ H fun x H1 => tk σ H1 fun y H2 => ∃ a xs i, x = .ref a ∧ y = .int i ∧ SqL K H2 a xs ∧
  ((i = 1 ∧ ∀ p, H2 p = none → Q (.ref p) (upd H2 p (.lst xs))) ∨ (i = -1 ∧ ∀ p, H2 p = none → Q (.ref p) (upd H2 p (.lst xs.reverse))))
theorem pick_one (its : List Value) : slicePick its.toArray none none (some 1) = its.toArray := by
  have e : slicePick its.toArray none none (some 1) = slicePick its.toArray none none none := rfl
  rw [e, slicePick_cut]
  simp [HT.sIx]
theorem pe_slK {e k : Expr} {te tk : TE} {pos p2 : Pos} (he : PE X e te) (hk : PE X k tk) : PE X (.Subscript e (.Slice none none (some k) p2) pos) (tSlK X.K te tk) := by
  intro pins s σ H Q I h
  refine Subscript_ (thn (he pins s σ H _ I h) fun v s1 ⟨x, H1, I1, r1, q1⟩ => ?_)
  refine wpAny_Slice ?_
  rw [evalPart_none]
  refine wpAny_pure ?_
  refine wpAny_pure ?_
  rw [evalPart_some]
  refine thn (hk pins s1 σ H1 _ I1 q1) fun vk s3 ⟨y, H3, I3, r3, q3⟩ => ?_
  obtain ⟨a, xs, i, rfl, rfl, hq, q⟩ := q3
  cases r1
  obtain ⟨t, rfl⟩ := r3
  have I4 : Inv X pins σ H3 { s3 with heap := s3.heap.push { cls := .type "slice", data := .fields #[.none, .none, .int i t] } } := I3.kept (t' := s3.toks) fun b ob q => Heap.get?_push_of_some _ q
  obtain ⟨its, r, ht, hz⟩ := I4.list hq
  have hlen : its.toArray.size = xs.length := by rw [List.size_toArray]; exact r.length.symm
  show wpAny (model X.prog X.w) X.A (subscriptTail e (.Slice none none (some k) p2) (.ref a) (.ref s3.heap.objs.size)) (EP X pins σ Q) X.xe { s3 with heap := s3.heap.push { cls := .type "slice", data := .fields #[.none, .none, .int i t] } }
  have fin : ∀ ys : List V, ys.length ≤ sizeLine → ∀ jts : List Value, Vals ys jts → (∀ p, H3 p = none → Q (.ref p) (upd H3 p (.lst ys))) →
      EP X pins σ Q (.ref (s3.heap.push { cls := .type "slice", data := .fields #[.none, .none, .int i t] }).objs.size)
        { s3 with heap := (s3.heap.push { cls := .type "slice", data := .fields #[.none, .none, .int i t] }).push { cls := .type "list", data := .seq jts.toArray } } := fun ys hy jts rj hQ =>
    ⟨.ref _, _, I4.lnew (t' := s3.toks) rj hy, rfl, hQ _ I4.fresh⟩
  rcases q with ⟨rfl, q⟩ | ⟨rfl, q⟩
  · refine tail_any (ops := [.ref a, .ref s3.heap.objs.size]) ht.isList.typeIs slot_list_getitem.lookup (wpAny_getItem_list_slice ht.isList (Heap.IsSliceOf.new ..) .none .none (.int 1 t) (by decide) ?_ (by rw [hlen]; exact hz)) (by with_unfolding_all rfl)
    rw [pick_one]
    exact fin xs hz its r q
  · refine tail_any (ops := [.ref a, .ref s3.heap.objs.size]) ht.isList.typeIs slot_list_getitem.lookup (wpAny_getItem_list_slice ht.isList (Heap.IsSliceOf.new ..) .none .none (.int (-1) t) (by decide) ?_ (by rw [hlen]; exact hz)) (by with_unfolding_all rfl)
    rw [PySem.W.krv_pick, List.toList_toArray]
    exact fin xs.reverse (by rw [List.length_reverse]; exact hz) its.reverse r.reverse q
end
end L2
end
section
set_option autoImplicit false
namespace L2
open PySem PySem.Spec PyProof.Rows
open AutoSeq1 (wpAny_loadPart') in
open MeetsSeq MeetsSeq2 MeetsSeq3 SeqRoads2 SeqAt in
section
variable {prog : Program} {w : World} {A : Around} {E : Value → Shared → Prop} {s : Shared}
theorem nextT_item {it t : Addr} {i : Nat} {items : Array Value} {x : Value} {Q : Value → Shared → Prop} (hit : s.heap.IsTupleIter it t i) (ht : s.heap.IsTuple t items) (hx : items[i]? = some x)
    (hQ : ∀ h', h'.IsTupleIter it t (i + 1) → Heap.SameBut it s.heap h' → Q x { s with heap := h' }) : wpAny (model prog w) A (Builtin.SmallTypes.nextOf (.ref it)) Q E s := by
  obtain ⟨ob, e1, e2, e3⟩ := id hit
  obtain ⟨ot, g1, _, nn, g2⟩ := ht
  unfold Builtin.SmallTypes.nextOf
  refine wpAny_bind (wpAny_callSpecial?_slot (name := Str.ofString "__next__") hit.typeIs F.slot_tuple_iterator_next (wpAny_call_entry F.slot_tuple_iterator_next hit.typeIs F.entry_tuple_iterator_next ?_ (F.args_tuple_iterator_next_1 _)))
  show wpAny _ _ (field (.ref it) 0 >>= _) _ _ s; refine wpAny_bind (wpAny_field e1 e3 (x := .ref t) rfl ?_)
  show wpAny _ _ (if (Value.ref t == Value.none) = true then _ else _) _ _ s; rw [if_neg (show ¬ ((Value.ref t == Value.none) = true) from Bool.false_ne_true)]
  show wpAny _ _ (field (.ref it) 1 >>= _) _ _ s; refine wpAny_bind (wpAny_field e1 e3 (x := .int i 0) rfl ?_)
  show wpAny _ _ (seqItems? (.ref t) >>= _) _ _ s; refine wpAny_bind (wpAny_seqItems g1 g2 ?_)
  simp only [Int.toNat_natCast, hx]
  refine wpAny_bind (wpAny_setField e1 e3 (by simp) (wpAny_pure ⟨x, rfl, wpAny_pure (hQ _ ⟨_, Heap.get?_update_self _ e1 (Obj.isFreed_of_fields (Obj.data_mapFields e3 _)), (Obj.cls_mapFields ..).trans e2, ?_⟩ (Heap.SameBut.update ..))⟩))
  rw [Obj.data_mapFields e3]; simp [rawInt]
theorem nextT_end {it t : Addr} {i : Nat} {items : Array Value} {Q : Value → Shared → Prop} (hh : A.handled = none) (hit : s.heap.IsTupleIter it t i) (ht : s.heap.IsTuple t items) (hx : items[i]? = none)
    (hE : ∀ h' e, Heap.ExtBut it s.heap h' → (∃ o, h'.get? e = some o ∧ o.cls = .type "StopIteration") → E (.ref e) { s with heap := h' }) : wpAny (model prog w) A (Builtin.SmallTypes.nextOf (.ref it)) Q E s := by
  obtain ⟨ob, e1, e2, e3⟩ := id hit
  obtain ⟨ot, g1, _, nn, g2⟩ := ht
  unfold Builtin.SmallTypes.nextOf
  refine wpAny_bind (wpAny_callSpecial?_slot (name := Str.ofString "__next__") hit.typeIs F.slot_tuple_iterator_next (wpAny_call_entry F.slot_tuple_iterator_next hit.typeIs F.entry_tuple_iterator_next ?_ (F.args_tuple_iterator_next_1 _)))
  show wpAny _ _ (field (.ref it) 0 >>= _) _ _ s; refine wpAny_bind (wpAny_field e1 e3 (x := .ref t) rfl ?_)
  show wpAny _ _ (if (Value.ref t == Value.none) = true then _ else _) _ _ s; rw [if_neg (show ¬ ((Value.ref t == Value.none) = true) from Bool.false_ne_true)]
  show wpAny _ _ (field (.ref it) 1 >>= _) _ _ s; refine wpAny_bind (wpAny_field e1 e3 (x := .int i 0) rfl ?_)
  show wpAny _ _ (seqItems? (.ref t) >>= _) _ _ s; refine wpAny_bind (wpAny_seqItems g1 g2 ?_)
  simp only [Int.toNat_natCast, hx]
  refine wpAny_bind (wpAny_rule (wpAny_bind (wpAny_setField e1 e3 (by simp) ?_)))
  show wpAny _ _ (newExc (.type "StopIteration") [] >>= _) _ _ _; refine wpAny_bind ?_
  simp only [newExc, newTuple]; refine wpAny_bind (wpAny_newObj_type ?_ (by size_fits))
  refine wpAny_bind (m := firstArgMember _ _) (wpAny_of_eq (a := Value.none) (by first | rfl | (simp only [firstArgMember]; rfl)) ?_)
  refine wpAny_newObj_type ?_ (by size_fits); simp only [raiseNew]; refine wpAny_bind (wpAny_handled ?_)
  first | rw [show A.in1.handled = none from hh] | rw [hh]
  refine wpAny_bind (wpAny_pure (wpAny_throw (hE _ _ (((Heap.SameBut.update ..).extBut.push _).push _) ⟨_, Heap.get?_push_size _ rfl, rfl⟩)))
structure ZA (z TI TO i1 i2 t1 t2 : Addr) : Prop where
  a1 : TI ≠ z
  a2 : TO ≠ z
  a3 : i1 ≠ z
  a4 : i2 ≠ z
  a5 : TI ≠ TO
  a6 : TI ≠ i1
  a7 : TI ≠ i2
  a8 : TO ≠ i1
  a9 : TO ≠ i2
  b1 : i1 ≠ i2
  b2 : t1 ≠ z
  b3 : t1 ≠ TO
  b4 : t1 ≠ i1
  b5 : t1 ≠ i2
  b6 : t2 ≠ z
  b7 : t2 ≠ TO
  b8 : t2 ≠ i1
  b9 : t2 ≠ i2
theorem zipT_item {z TI TO i1 i2 t1 t2 : Addr} {k : Nat} {xs ys : Array Value} {x y a b : Value} {Q : Value → Shared → Prop} (D : ZA z TI TO i1 i2 t1 t2)
    (hz : IsZip s.heap z TI TO .none) (hTI : IsPair s.heap TI (.ref i1) (.ref i2)) (hTO : IsPair s.heap TO a b) (h1 : s.heap.IsTupleIter i1 t1 k) (h2 : s.heap.IsTupleIter i2 t2 k)
    (hl1 : s.heap.IsTuple t1 xs) (hl2 : s.heap.IsTuple t2 ys) (hx : xs[k]? = some x) (hy : ys[k]? = some y)
    (hQ : ∀ h', IsZip h' z TI TO (rawInt s.heap.objs.size) → IsPair h' TO x y → h'.IsTupleIter i1 t1 (k + 1) → h'.IsTupleIter i2 t2 (k + 1) → IsPair h' s.heap.objs.size x y →
      (∀ c o, c ≠ z → c ≠ TO → c ≠ i1 → c ≠ i2 → s.heap.get? c = some o → h'.get? c = some o) → Q (.ref s.heap.objs.size) { s with heap := h' }) :
    wpAny (model prog w) A (Builtin.«zip.__next__» ⟨[.ref z], []⟩) (fun fin s' => ∃ v, fin = .done (.ret v) ∧ Q v s') E s := by
  show wpAny _ _ (field (.ref z) 2 >>= _) _ _ _; refine wpAny_bind (wpAny_field hz rfl (x := .bool false) rfl ?_)
  show wpAny _ _ (field (.ref z) 3 >>= _) _ _ _; refine wpAny_bind (wpAny_field hz rfl (x := .ref TI) rfl (wpAny_bind (wpAny_seqItems hTI rfl ?_)))
  show wpAny _ _ (Builtin.SmallTypes.ownedTupleIsFree (.ref z) >>= _) _ _ _
  unfold Builtin.SmallTypes.ownedTupleIsFree
  refine wpAny_bind (wpAny_bind (wpAny_field hz rfl (x := .none) rfl (wpAny_pure ?_)))
  simp only [if_true]
  refine wpAny_bind (wpAny_rule (wpAny_bind (wpAny_field hz rfl (x := .ref TO) rfl (wpAny_bind (wpAny_setField_rec hz (by simp) fun g1 z1 q1 => ?_)))))
  replace z1 : IsZip g1 z TI TO .ellipsis := z1
  simp only [List.zipIdx_cons, List.zipIdx_nil, List.forIn_cons, List.forIn_nil]
  refine wpAny_bind (wpAny_bind (wpAny_bind (wpAny_onRaise ?_)))
  show wpAny _ _ (Builtin.SmallTypes.nextOf (.ref i1) >>= _) _ _ _
  refine wpAny_bind (nextT_item (h1.extBut q1.extBut D.a3) (hl1.extBut q1.extBut D.b2) hx fun g2 j2 q2 => wpAny_pure ?_)
  have p2 : IsPair g2 TO a b := q2.extBut _ _ D.a8 (q1.extBut _ _ D.a2 hTO)
  refine wpAny_bind (wpAny_seqItems p2 rfl (wpAny_bind (wpAny_updateSeq_pair p2 fun g3 p3 q3 => wpAny_bind (wpAny_letGo (wpAny_pure ?_)))))
  replace p3 : IsPair g3 TO x b := p3
  refine wpAny_bind (wpAny_bind (wpAny_onRaise ?_))
  show wpAny _ _ (Builtin.SmallTypes.nextOf (.ref i2) >>= _) _ _ _
  refine wpAny_bind (nextT_item (((h2.extBut q1.extBut D.a4).extBut q2.extBut D.b1.symm).extBut q3.extBut D.a9.symm) (((hl2.extBut q1.extBut D.b6).extBut q2.extBut D.b8).extBut q3.extBut D.b7) hy fun g4 j4 q4 => wpAny_pure ?_)
  have p4 : IsPair g4 TO x b := q4.extBut _ _ D.a9 p3
  refine wpAny_bind (wpAny_seqItems p4 rfl (wpAny_bind (wpAny_updateSeq_pair p4 fun g5 p5 q5 => wpAny_bind (wpAny_letGo (wpAny_pure (wpAny_pure ?_))))))
  replace p5 : IsPair g5 TO x y := p5
  refine wpAny_bind (wpAny_seqItems p5 rfl (wpAny_bind (wpAny_newTuple ?_)))
  have sz : g5.objs.size = s.heap.objs.size := by rw [q5.1, q4.1, q3.1, q2.1, q1.1]
  have z5 : IsZip g5 z TI TO .ellipsis := q5.extBut _ _ D.a2.symm (q4.extBut _ _ D.a4.symm (q3.extBut _ _ D.a2.symm (q2.extBut _ _ D.a3.symm z1)))
  have k5 : ∀ c o, c ≠ z → c ≠ TO → c ≠ i1 → c ≠ i2 → s.heap.get? c = some o → g5.get? c = some o := fun c o c1 c2 c3 c4 e => q5.extBut _ _ c2 (q4.extBut _ _ c4 (q3.extBut _ _ c2 (q2.extBut _ _ c3 (q1.extBut _ _ c1 e))))
  have j5 : g5.IsTupleIter i1 t1 (k + 1) := ((j2.extBut q3.extBut D.a8.symm).extBut q4.extBut D.b1).extBut q5.extBut D.a8.symm
  have l5 : g5.IsTupleIter i2 t2 (k + 1) := j4.extBut q5.extBut D.a9.symm
  have zl : z < g5.objs.size := Heap.lt_size z5
  show wpAny _ _ (Builtin.SmallTypes.ownedTupleHandOut (.ref z) (.ref g5.objs.size) >>= _) _ _ _
  refine wpAny_bind ?_
  unfold Builtin.SmallTypes.ownedTupleHandOut
  have z6 : IsZip (g5.push { cls := .type "tuple", data := .seq #[x, y] }) z TI TO .ellipsis := Heap.get?_push_of_some _ z5
  refine wpAny_bind (wpAny_setField_rec z6 (by simp) fun g7 z7 q7 => ?_)
  replace z7 : IsZip g7 z TI TO (rawInt g5.objs.size) := z7
  refine wpAny_setField_rec z7 (by simp) fun g8 z8 q8 => ?_
  replace z8 : IsZip g8 z TI TO (rawInt g5.objs.size) := z8
  have up : ∀ c o, c ≠ z → g5.get? c = some o → g8.get? c = some o := fun c o c1 e => q8.extBut _ _ c1 (q7.extBut _ _ c1 (Heap.get?_push_of_some _ e))
  have n8 : IsPair g8 g5.objs.size x y := q8.extBut _ _ (Nat.ne_of_gt zl) (q7.extBut _ _ (Nat.ne_of_gt zl) (Heap.get?_push_size _ rfl))
  rw [sz] at z8 n8
  refine wpAny_pure ⟨_, rfl, ?_⟩
  show Q (.ref g5.objs.size) _
  rw [sz]
  refine hQ g8 z8 (up _ _ D.a2 p5) ?_ ?_ n8 fun c o c1 c2 c3 c4 e => up c o c1 (k5 c o c1 c2 c3 c4 e)
  · obtain ⟨o, e, r⟩ := j5; exact ⟨o, up _ o D.a3 e, r⟩
  · obtain ⟨o, e, r⟩ := l5; exact ⟨o, up _ o D.a4 e, r⟩
theorem zipT_end {z TI TO i1 i2 t1 t2 : Addr} {k : Nat} {xs : Array Value} {a b : Value} {Q : Fin → Shared → Prop} (hh : A.handled = none) (D : ZA z TI TO i1 i2 t1 t2)
    (hz : IsZip s.heap z TI TO .none) (hTI : IsPair s.heap TI (.ref i1) (.ref i2)) (hTO : IsPair s.heap TO a b) (h1 : s.heap.IsTupleIter i1 t1 k) (hl1 : s.heap.IsTuple t1 xs) (hx : xs[k]? = none)
    (hE : ∀ h' e, (∀ c o, c ≠ z → c ≠ TO → c ≠ i1 → c ≠ i2 → s.heap.get? c = some o → h'.get? c = some o) → (∃ o, h'.get? e = some o ∧ o.cls = .type "StopIteration") → E (.ref e) { s with heap := h' }) :
    wpAny (model prog w) A (Builtin.«zip.__next__» ⟨[.ref z], []⟩) Q E s := by
  show wpAny _ _ (field (.ref z) 2 >>= _) _ _ _; refine wpAny_bind (wpAny_field hz rfl (x := .bool false) rfl ?_)
  show wpAny _ _ (field (.ref z) 3 >>= _) _ _ _; refine wpAny_bind (wpAny_field hz rfl (x := .ref TI) rfl (wpAny_bind (wpAny_seqItems hTI rfl ?_)))
  show wpAny _ _ (Builtin.SmallTypes.ownedTupleIsFree (.ref z) >>= _) _ _ _
  unfold Builtin.SmallTypes.ownedTupleIsFree
  refine wpAny_bind (wpAny_bind (wpAny_field hz rfl (x := .none) rfl (wpAny_pure ?_)))
  simp only [if_true]
  refine wpAny_bind (wpAny_rule (wpAny_bind (wpAny_field hz rfl (x := .ref TO) rfl (wpAny_bind (wpAny_setField_rec hz (by simp) fun g1 z1 q1 => ?_)))))
  replace z1 : IsZip g1 z TI TO .ellipsis := z1
  simp only [List.zipIdx_cons, List.zipIdx_nil, List.forIn_cons, List.forIn_nil]
  refine wpAny_bind (wpAny_bind (wpAny_bind (wpAny_onRaise ?_)))
  show wpAny _ _ (Builtin.SmallTypes.nextOf (.ref i1) >>= _) _ _ _
  refine wpAny_bind (nextT_end hh (h1.extBut q1.extBut D.a3) (hl1.extBut q1.extBut D.b2) hx fun g2 e q2 ⟨oe, e1, e2⟩ => ?_)
  have z2 : IsZip g2 z TI TO .ellipsis := q2 _ _ D.a3.symm z1
  have hez : e ≠ z := fun x => by subst x; rw [z2] at e1; cases e1; simp at e2
  exact wpAny_setField_rec z2 (by simp) fun g3 _ q3 => hE g3 e (fun c o c1 _ c3 _ x => q3.extBut _ _ c1 (q2 _ _ c3 (q1.extBut _ _ c1 x))) ⟨oe, q3.extBut _ _ hez e1, e2⟩
end
theorem Inv.turnLaid {X : Cx} {pins : List (Addr × Obj)} {σ : St} {H : Hp} {s : Shared} {h' : Heap} {fp : List Addr} {a : Addr} {o : HO} {t' : Nat} (I : Inv X pins σ H s) (hf : ∀ b ∈ fp, FpOk X pins H b)
    (k : ∀ b u, b ∉ fp → s.heap.get? b = some u → h'.get? b = some u) (hp : s.heap.objs.size ≤ a) (new : ObjOk X.prog X.w (upd H a o) h' a o) : Inv X pins σ (upd H a o) { s with heap := h', toks := t' } := by
  have hn : H a = none := I.hok.fresh hp
  have nf : ∀ b u, H b = some u → b ∉ fp := fun b u e hb => by rw [(hf b hb).1] at e; cases e
  refine I.step (g' := s.gens) (d' := s.drawn) (ch := fp) (fun b hb => ⟨(hf b hb).2.2.2.1, (hf b hb).2.1, (hf b hb).2.2.2.2.1, (hf b hb).2.2.2.2.2⟩) (fun b u _ _ hc e _ => k b u hc e) (fun b u _ _ hc e _ => ⟨u.slots, k b u hc e⟩)
    (fun b u _ e n => by rw [upd_ne (Nat.ne_of_lt (Nat.lt_of_lt_of_le (Heap.lt_size e) hp))]; exact n) (fun b u hc e => ⟨u, k b u hc e⟩) (fun b xs e => by rw [upd_ne (ne_of_none e hn)]; exact e)
    (fun b u v e => by rw [upd_ne (ne_of_none e hn)]; exact e) (fun b ps e => ⟨#[], by rw [upd_ne (ne_of_none e hn), e]; simp⟩) (fun m hm => ?_) (fun b u e => ?_) I.bare
  · obtain ⟨ob, es, ep, ho, r⟩ := hm
    exact ⟨ob, es, ep, k _ ob (fun z => (hf _ z).2.1 rfl) ho, r⟩
  · by_cases hb : b = a
    · subst hb
      rw [upd_same] at e
      cases e
      exact new
    · rw [upd_ne hb] at e
      refine (I.hok b u e).stay (fun c v hc q => k c v ?_ q) (fun c q => by rw [upd_ne (ne_of_none q hn)]; exact q) fun c xs q => by rw [upd_ne (ne_of_none q hn)]; exact q
      rcases hc with z | z
      · rw [z]; exact nf b u e
      · exact nf c _ z
theorem Inv.turnedL {X : Cx} {pins : List (Addr × Obj)} {σ : St} {H : Hp} {s : Shared} {h' : Heap} {fp : List Addr} {t' : Nat} (I : Inv X pins σ H s) (hf : ∀ b ∈ fp, FpOk X pins H b)
    (k : ∀ b u, b ∉ fp → s.heap.get? b = some u → h'.get? b = some u) : Inv X pins σ H { s with heap := h', toks := t' } := by
  have nf : ∀ b u, H b = some u → b ∉ fp := fun b u e hb => by rw [(hf b hb).1] at e; cases e
  refine I.step (g' := s.gens) (d' := s.drawn) (ch := fp) (fun b hb => ⟨(hf b hb).2.2.2.1, (hf b hb).2.1, (hf b hb).2.2.2.2.1, (hf b hb).2.2.2.2.2⟩) (fun b u _ _ hc e _ => k b u hc e) (fun b u _ _ hc e _ => ⟨u.slots, k b u hc e⟩)
    (fun b u _ e n => n) (fun b u hc e => ⟨u, k b u hc e⟩) (fun b xs e => e) (fun b u v e => e) (fun b ps e => ⟨#[], by rw [e]; simp⟩) (fun m hm => ?_) (fun b u e => ?_) I.bare
  · obtain ⟨ob, es, ep, ho, r⟩ := hm
    exact ⟨ob, es, ep, k _ ob (fun z => (hf _ z).2.1 rfl) ho, r⟩
  · refine (I.hok b u e).stay (fun c v hc q => k c v ?_ q) (fun c q => q) fun c xs q => q
    rcases hc with z | z
    · rw [z]; exact nf b u e
    · exact nf c _ z
def Itz (K : PySem.W.Frag) (t1 t2 : Addr) : It :=
  ⟨fun i H => ∃ xs ys x y, SqT K H t1 xs ∧ SqT K H t2 ys ∧ xs[i]? = some x ∧ ys[i]? = some y, fun i H v H' => ∃ p, H p = none ∧ v = .ref p ∧ ∀ xs ys x y, SqT K H t1 xs → SqT K H t2 ys → xs[i]? = some x → ys[i]? = some y → H' = upd H p (.tup [x, y]),
    fun i H => ∃ xs, SqT K H t1 xs ∧ xs.length ≤ i⟩
theorem turn_zip {P : Program} {w : World} {K : PySem.W.Frag} {elts : List Expr} {x1 : Nat} {tpos : Pos} {z TI TO i1 i2 t1 t2 : Addr} (D : ZA z TI TO i1 i2 t1 t2) : Turn P w K (.Tuple elts x1 tpos) (Itz K t1 t2) [z, TI, TO, i1, i2] z
    (fun i h => IsZip h z TI TO .none ∧ IsPair h TI (.ref i1) (.ref i2) ∧ (∃ a b, IsPair h TO a b) ∧ h.IsTupleIter i1 t1 i ∧ h.IsTupleIter i2 t2 i) where
  mem := by simp
  obj := fun i h st b hb => by
    obtain ⟨hz, hTI, ⟨a, c, hTO⟩, ⟨o1, e1, _, d1⟩, ⟨o2, e2, _, d2⟩⟩ := st
    simp only [List.mem_cons, List.not_mem_nil, or_false] at hb
    rcases hb with rfl | rfl | rfl | rfl | rfl
    · exact ⟨_, hz, fun v q => nomatch q⟩
    · exact ⟨_, hTI, fun v q => nomatch q⟩
    · exact ⟨_, hTO, fun v q => nomatch q⟩
    · exact ⟨_, e1, fun v q => by rw [d1] at q; cases q⟩
    · exact ⟨_, e2, fun v q => by rw [d2] at q; cases q⟩
  keep := fun i h h' st k => by
    obtain ⟨hz, hTI, ⟨a, c, hTO⟩, ⟨o1, e1, r1⟩, ⟨o2, e2, r2⟩⟩ := st
    exact ⟨k z (by simp) _ hz, k TI (by simp) _ hTI, ⟨a, c, k TO (by simp) _ hTO⟩, ⟨o1, k i1 (by simp) _ e1, r1⟩, ⟨o2, k i2 (by simp) _ e2, r2⟩⟩
  item := by
    intro X hP hw hK hc i pins s σ H E I hf st hg
    subst hP hw hK
    obtain ⟨xs, ys, x, y, q1, q2, e1, e2⟩ := hg
    obtain ⟨its, rv, p, hz'⟩ := I.tuple q1
    obtain ⟨jts, rw', p', hz''⟩ := I.tuple q2
    obtain ⟨u, hu, ru⟩ := rv.get e1
    obtain ⟨u', hu', ru'⟩ := rw'.get e2
    obtain ⟨hz, hTI, ⟨a, c, hTO⟩, h1, h2⟩ := st
    have hT : s.TypeIs (.ref z) "zip" := ⟨_, hz, rfl⟩
    unfold pyNext
    refine wpAny_bind (wpAny_attempt (wpAny_callSpecial?_slot (name := Str.ofString "__next__") hT F.slot_zip_next (wpAny_call_entry F.slot_zip_next hT F.entry_zip_next
      (zipT_item D hz hTI hTO h1 h2 (show s.heap.IsTuple t1 its.toArray from p) (show s.heap.IsTuple t2 jts.toArray from p') (x := u) (y := u') (by simpa using hu) (by simpa using hu') fun h' a1 a2 a3 a4 a5 a6 => wpAny_pure ?_) (F.args_zip_next_1 _))))
    refine ⟨_, rfl, wpAny_letOwnedTupleGo_zip a1 fun h2' a1' q' => ?_⟩
    have hn : H s.heap.objs.size = none := I.hok.fresh (Nat.le_refl _)
    have zlt : z < s.heap.objs.size := Heap.lt_size hz
    have tlt : TO < s.heap.objs.size := Heap.lt_size hTO
    have i1lt : i1 < s.heap.objs.size := by obtain ⟨_, e, _⟩ := h1; exact Heap.lt_size e
    have i2lt : i2 < s.heap.objs.size := by obtain ⟨_, e, _⟩ := h2; exact Heap.lt_size e
    have kk : ∀ b ob, b ∉ [z, TI, TO, i1, i2] → s.heap.get? b = some ob → h2'.get? b = some ob := fun b ob hb e => by
      simp only [List.mem_cons, List.not_mem_nil, or_false, not_or] at hb
      exact q'.extBut _ _ hb.1 (a6 b ob hb.1 hb.2.2.1 hb.2.2.2.1 hb.2.2.2.2 e)
    have I1 : Inv X pins σ (upd H s.heap.objs.size (.tup [x, y])) { s with heap := h2' } := I.turnLaid (t' := s.toks) hf kk (Nat.le_refl _)
      ⟨⟨by show 2 ≤ sizeLine; decide, fun o e => by rw [q'.extBut _ _ (Nat.ne_of_gt zlt) a5] at e; cases e; rfl⟩, [u, u'], .cons ru (.cons ru' .nil), ⟨_, q'.extBut _ _ (Nat.ne_of_gt zlt) a5, rfl, _, rfl⟩⟩
    refine ⟨.ref s.heap.objs.size, _, I1, rfl, ⟨_, hn, rfl, fun xs' ys' x' y' k1 k2 k3 k4 => ?_⟩, ⟨a1', q'.extBut _ _ D.a1 (a6 _ _ D.a1 D.a5 D.a6 D.a7 hTI), ⟨_, _, q'.extBut _ _ D.a2 a2⟩, a3.extBut q'.extBut D.a3, a4.extBut q'.extBut D.a4⟩, fun b hb => ?_⟩
    · rw [I.tuple_inj k1 q1, e1] at k3
      rw [I.tuple_inj k2 q2, e2] at k4
      cases k3
      cases k4
      rfl
    · have hb' := hb
      simp only [List.mem_cons, List.not_mem_nil, or_false] at hb'
      have hlt : b < s.heap.objs.size := by
        rcases hb' with rfl | rfl | rfl | rfl | rfl
        · exact zlt
        · exact Heap.lt_size hTI
        · exact tlt
        · exact i1lt
        · exact i2lt
      rw [upd_ne (Nat.ne_of_lt hlt)]
      exact (hf b hb).1
  done := by
    intro X hP hw hK hc i pins s σ H E I hf st hg
    subst hP hw hK
    obtain ⟨xs, q1, e1⟩ := hg
    obtain ⟨its, rv, p, hz'⟩ := I.tuple q1
    obtain ⟨hz, hTI, ⟨a, c, hTO⟩, h1, h2⟩ := st
    have hT : s.TypeIs (.ref z) "zip" := ⟨_, hz, rfl⟩
    have hl := rv.length
    unfold pyNext
    refine wpAny_bind (wpAny_attempt (wpAny_callSpecial?_slot (name := Str.ofString "__next__") hT F.slot_zip_next (wpAny_call_entry F.slot_zip_next hT F.entry_zip_next
      (zipT_end (I.ok.hd hc) D hz hTI hTO h1 (show s.heap.IsTuple t1 its.toArray from p) (by simp; omega) fun h' e kk ⟨o, ho, hcl⟩ => ?_) (F.args_zip_next_1 _))))
    refine wpAny_bind (wpAny_isInstance (T := "StopIteration") (b := true) ⟨o, ho, hcl⟩ isSubtype_stop (wpAny_pure ⟨rfl, I.turnedL (t' := s.toks) hf fun b u hb q => ?_⟩))
    simp only [List.mem_cons, List.not_mem_nil, or_false, not_or] at hb
    exact kk b u hb.1 hb.2.2.1 hb.2.2.2.1 hb.2.2.2.2 q
  self := fun _ _ _ _ _ st h => wpAny_pyIter_zip st.1 h
abbrev zq1 (h : Heap) (l1 : Addr) : Heap := h.push { cls := .type "tuple_iterator", data := .fields #[.ref l1, .int 0 0] }
abbrev zq2 (h : Heap) (l1 l2 : Addr) : Heap := (zq1 h l1).push { cls := .type "tuple_iterator", data := .fields #[.ref l2, .int 0 0] }
abbrev zq3 (h : Heap) (l1 l2 : Addr) : Heap := (zq2 h l1 l2).push { cls := .type "tuple", data := .seq #[.ref h.objs.size, .ref (zq1 h l1).objs.size] }
abbrev zq4 (h : Heap) (l1 l2 : Addr) : Heap := (zq3 h l1 l2).push { cls := .type "tuple", data := .seq #[.none, .none] }
abbrev zq5 (h : Heap) (l1 l2 : Addr) : Heap := (zq4 h l1 l2).push { cls := .type "zip", data := .fields #[.none, .bool false, .bool false, .ref (zq2 h l1 l2).objs.size, .ref (zq3 h l1 l2).objs.size] }
theorem zq_new (l1 l2 : Addr) (xs ys : Array Value) : Meets (Builtin.«zip.__new__» ⟨[.type "zip", .ref l1, .ref l2], []⟩) (fun _ R s => s.heap.IsTuple l1 xs ∧ s.heap.IsTuple l2 ys ∧ R (.ok (.ret (.ref (zq4 s.heap l1 l2).objs.size))) { s with heap := zq5 s.heap l1 l2 }) :=
  .of_wp fun prog w A R s h => by
    obtain ⟨hp, g, d, tk, os⟩ := s
    obtain ⟨hl1, hl2, h⟩ := h
    have hsub := sub_zip
    have hL1 : Heap.IsTuple (Shared.heap ⟨hp, g, d, tk, os⟩) l1 xs := hl1
    have hL2 : Heap.IsTuple (Shared.heap ⟨hp.push { cls := .type "tuple_iterator", data := .fields #[.ref l1, .int 0 0] }, g, d, tk, os⟩) l2 ys := Heap.IsTuple.push hl2 _
    wp_walk using wpAny_pyIter_tuple hL1, wpAny_pyIter_tuple hL2
    exact ⟨_, rfl, h⟩
theorem zq_call {prog : Program} {w : World} {A : Around} {E : Value → Shared → Prop} {s : Shared} {l1 l2 : Addr} {xs ys : Array Value} {Q : Value → Shared → Prop} (hl1 : s.heap.IsTuple l1 xs) (hl2 : s.heap.IsTuple l2 ys)
    (h : Q (.ref (zq4 s.heap l1 l2).objs.size) { s with heap := zq5 s.heap l1 l2 }) : wpAny (model prog w) A (call (.type "zip") [.ref l1, .ref l2]) Q E s := by
  refine callType_new F.called_zip (by decide) (F.typeCall_zip_2 _ _) (F.newCall_zip_2 _ _) (fun obj => F.args_object_init_3 obj _ _) F.entry_zip_new (zq_new l1 l2 xs ys) ⟨hl1, hl2, ?_⟩
  show _ ∧ _
  exact ⟨⟨_, Heap.get?_push_size _ rfl, rfl⟩, h⟩
theorem za_of {n t1 t2 : Nat} (h1 : t1 < n) (h2 : t2 < n) : ZA (n + 4) (n + 2) (n + 3) n (n + 1) t1 t2 := by
  constructor <;> (change @Ne Nat _ _; omega)
section
variable {X : Cx}
def Its (x : Str) : It := ⟨fun i _ => i < x.cps.size, fun i H v H' => H' = H ∧ ∃ c, x.cps[i]? = some c ∧ v = .str ⟨#[c]⟩, fun i _ => x.cps.size ≤ i⟩
theorem turn_str {P : Program} {w : World} {K : PySem.W.Frag} {tg : Expr} (x : Str) (t : Tok) (it : Addr) : Turn P w K tg (Its x) [it] it (fun i h => h.IsStrIter it "str_ascii_iterator" x t i) where
  mem := by simp
  obj := fun i h st b hb => by
    have e : b = it := by simpa using hb
    subst e
    obtain ⟨o, e, c, d⟩ := st
    exact ⟨o, e, fun v z => by rw [d] at z; cases z⟩
  keep := fun i h h' st k => by
    obtain ⟨o, e, r⟩ := st
    exact ⟨o, k it (by simp) o e, r⟩
  item := by
    intro X hP hw hK hc i pins s σ H E I hf st hg
    subst hP hw hK
    have hg : i < x.cps.size := hg
    obtain ⟨f0, f1, f2, f3, f4, f5⟩ := hf it (by simp)
    refine wpAny_pyNext_ascii_item st (c := x.cps[i]) (by simp [hg]) fun h' st' sb => ?_
    have I1 : Inv X pins σ H { s with heap := h', toks := s.toks + 1 } := I.turned (fun b o hb e => (sb.2 b hb).trans e) f0 f1 f3 f4 f5
    obtain ⟨o, e, c, d⟩ := id st'
    exact ⟨_, rfl, go_of (s := { s with heap := h', toks := s.toks + 1 }) e c d (by decide) ⟨.str ⟨#[x.cps[i]]⟩, H, I1, ⟨_, rfl⟩, ⟨rfl, _, by simp [hg], rfl⟩, st', fun b hb => (hf b hb).1⟩⟩
  done := by
    intro X hP hw hK hc i pins s σ H E I hf st hg
    subst hP hw hK
    have hg : x.cps.size ≤ i := hg
    obtain ⟨f0, f1, f2, f3, f4, f5⟩ := hf it (by simp)
    exact wpAny_pyNext_ascii_end (I.ok.hd hc) st (by simp [hg]) fun h' eb => ⟨rfl, I.turned (t' := s.toks) (fun b o hb e => eb b o hb e) f0 f1 f3 f4 f5⟩
  self := fun _ _ _ _ _ st h => wpAny_pyIter_striter_ascii st h
def iStr (te : TE) : TI := fun σ H R => te σ H fun v H1 => ∃ x, v = .str x ∧ x.cps.all (· < 128) = true ∧ R (Its x) H1
theorem pi_str {tg e : Expr} {te : TE} (he : PE X e te) : PI X tg e (iStr te) := by
  intro pins s σ H R I h
  refine thn (he pins s σ H _ I h) fun v s1 ⟨y, H1, I1, r1, x, e, hx, q⟩ => ?_
  subst e
  obtain ⟨t, rfl⟩ := r1
  refine wpAny_pyIter_ascii hx ?_
  refine ⟨s1.heap.objs.size, [s1.heap.objs.size], _, _, H1, rfl, I1.kept (t' := s1.toks) fun b o e => Heap.get?_push_of_some _ e, turn_str x t _, ⟨_, Heap.get?_push_size _ rfl, rfl, rfl⟩, fun b hb => ?_, q⟩
  have e : b = s1.heap.objs.size := by simpa using hb
  subst e
  exact I1.fpOk (Nat.le_refl _) (I1.hok.fresh (Nat.le_refl _))
theorem call_isinst : CallR X (.builtin "isinstance") (fun xs H Q => ∃ x n t b, xs = [x, .ty n] ∧ TyOf X.K H x t ∧ PySem.W.kitOne X.K t (.type n) = some b ∧ Q (.bl b) H) := by
  intro pins s σ H xs us Q I r h
  obtain ⟨x, n, t, b, rfl, ty, e, q⟩ := h
  obtain ⟨u, w', rfl, ru, rw'⟩ := vals2 r
  cases rw'
  exact isinst_ok I ru ty e fun tk => ⟨.bl b, H, I.tok _, rfl, q⟩
theorem kit_same (K : PySem.W.Frag) (n : String) : PySem.W.kitOne K (.type n) (.type n) = some true := by
  unfold PySem.W.kitOne
  rw [if_pos (by simp)]
end
end L2
end
section
set_option autoImplicit false
namespace L2
open PySem PySem.Spec PyProof.Rows
structure Flies (P : Program) (w : World) (outer : List Env) (H : Hp) (s : Shared) (e : Addr) (cls : Value) (H' : Hp) (B : Heap) (a0 : Value) (s' : Shared) : Prop where
  os : s'.os = s.os
  bare : AllBare s'.gens
  un : Un (frs outer) [] H H' s.heap s'.heap
  hok : HOk P w H' s'.heap
  fl : Heap.FlyingW B outer e cls a0 s'.heap
  covH : ∀ b, H' b ≠ none → ∃ o, B.get? b = some o
  covS : ∀ b o, s.heap.get? b = some o → b ∉ frs outer → ∃ o, B.get? b = some o
section
variable {P : Program} {w : World} {outer : List Env} {H H' : Hp} {s s' : Shared} {e : Addr} {cls a0 : Value} {B h2 : Heap}
end
section
variable {X : Cx} {pins : List (Addr × Obj)} {σ : St} {H H' : Hp} {s s' : Shared} {e : Addr} {cls a0 : Value} {B h2 : Heap}
end
section
variable {P : Program} {w : World} {K : PySem.W.Frag} {mg : Str → Option Value} {base : Heap} {N : List Str} {qual : Str} {scope : Scope} {f : Addr} {cd : Value} {A : Around} {outer : List Env} {s : Shared} {H : Hp} {E : XK}
end
end L2
end
section
set_option autoImplicit false
namespace L2
open PySem PySem.Spec PyProof.Rows
def ExAt (ea C : Addr) (h : Heap) : Prop := ∃ ob, h.get? ea = some ob ∧ ob.cls = .ref C
structure XIn (K : PySem.W.Frag) (C : Addr) : Prop where
  ga : PySem.W.findIn K (.ref C) "__getattribute__" = some (some (.builtin "BaseException.__getattribute__"))
  hk : PySem.W.findIn K (.ref C) "__getattr__" = some none
  ca : PySem.W.findIn K (.ref C) "__class__" = some (some (.builtin "object.__class__"))
  gt : PySem.W.specialIn K (.builtin "object.__class__") "__get__" = some (some (.builtin "getset_descriptor.__get__"))
  tk : PySem.W.takesIn K (.builtin "object.__class__") = some true
  ob : PySem.W.mroIn K C (.type "object") = some true
  be : PySem.W.mroIn K C (.type "BaseException") = some true
  cl : (PySem.W.clsIn K C).isSome = true
section
open Builtin Builtin.ObjectAttr Builtin.Getset_descriptor PySem.W
variable {prog : Program} {w : World} {K : PySem.W.Frag} {ea C : Addr}
end
end L2
end
section
set_option autoImplicit false
namespace L2
open PySem PySem.Spec PyProof.Rows
def ExcO (ea C : Addr) : HO := .ext (ExAt ea C)
section
variable {X : Cx}
end
structure XCls (K : PySem.W.Frag) (mg : Str → Option Value) (x : Str) (C : Addr) : Prop where
  m : mg x = some (.ref C)
  ex : PySem.W.excIn K C [.type "ValueError", .type "Exception", .type "BaseException", .type "object"] "ValueError.__new__" = true
  i : XIn K C
end L2
end
section
set_option autoImplicit false
namespace L2
open PySem PySem.Spec PyProof.Rows
structure Fnd (K : PySem.W.Frag) (mg : Str → Option Value) (x : Str) (st : Stmt) (ps : List Str) (f : Addr) (fd : FuncData) : Prop where
  fn : Fun K x x st f fd
  b : Binds K fd ps []
  m : mg x = some (.ref f)
theorem pe_callF {X : Cx} {x : Str} {st : Stmt} {ps : List Str} {f : Addr} {fd : FuncData} {k : Nat} {sp : Sp} {e : Expr} {es : List Expr} {t : TA} {p pos : Pos} (D : Fnd X.K X.mg x st ps f fd) (G : FnOk X.prog X.w X.K X.mg X.base CX0 k f fd ps sp) (hr : Room k X.A) (hg : Gl X x) (ha : PA X (e :: es) t)
    (hdb : (x == ("__debug__" : Str)) = false := by decide) (he : starEach (e :: es) X.env = (false, eval e X.env) :: starEach es X.env := by rfl) (hpl : (backTo pos (starEach es X.env)).any (·.1) = false := by rfl) : PE X (.Call (.Name x p) (e :: es) [] pos) (tCall sp [] E0 t) :=
  pe_call G hr hg D.m D.fn.kp D.b .nil pass0 ha hdb he hpl
theorem bt_len : bootBuiltins "len" = some (.builtin "len") := by decide +kernel
theorem bt_isinstance : bootBuiltins "isinstance" = some (.builtin "isinstance") := by decide +kernel
theorem bt_int : bootBuiltins "int" = some (.type "int") := by decide +kernel
theorem bt_str : bootBuiltins "str" = some (.type "str") := by decide +kernel
theorem bt_tuple : bootBuiltins "tuple" = some (.type "tuple") := by decide +kernel
theorem bt_list : bootBuiltins "list" = some (.type "list") := by decide +kernel
theorem bt_abs : bootBuiltins "abs" = some (.builtin "abs") := by decide +kernel
theorem bt_any : bootBuiltins "any" = some (.builtin "any") := by decide +kernel
theorem bt_max : bootBuiltins "max" = some (.builtin "max") := by decide +kernel
theorem bt_min : bootBuiltins "min" = some (.builtin "min") := by decide +kernel
def tJoin (t u : TS) : TS := fun D σ H => ∃ M : St → Hp → Prop, t { D with nx := M } σ H ∧ ∀ σ' H', M σ' H' → u D σ' H'
theorem pss_join {X : Cx} {st : Stmt} {rest : List Stmt} {t u : TS} (h1 : PS X st t) (h2 : PSs X rest u) : PSs X (st :: rest) (tJoin t u) := by
  intro pins s σ H D I h
  obtain ⟨M, h, hM⟩ := h
  refine wpAny_execs_cons (thn (h1 pins s σ H _ I h) fun f s1 q => ?_)
  cases f with
  | next =>
    obtain ⟨σ1, H1, I1, m1⟩ := q
    exact h2 pins s1 σ1 H1 D I1 (hM σ1 H1 m1)
  | brk => exact q
  | cont => exact q
  | ret u => exact q
def Off (p : Addr) (H H' : Hp) : Prop := ∀ b o, b ≠ p → H b = some o → H' b = some o
theorem Off.refl (p : Addr) (H : Hp) : Off p H H := fun _ _ _ e => e
theorem Off.trans {p : Addr} {H H1 H2 : Hp} (a : Off p H H1) (b : Off p H1 H2) : Off p H H2 := fun c o n e => b c o n (a c o n e)
theorem Off.upd {p : Addr} {H : Hp} {o : HO} : Off p H (upd H p o) := fun c u n e => by rw [upd_ne n]; exact e
theorem Off.new {p q : Addr} {H : Hp} {o : HO} (h : H q = none) : Off p H (L2.upd H q o) := fun c u _ e => by rw [upd_ne (ne_of_none e h)]; exact e
theorem Same.off {p : Addr} {H H' : Hp} (h : Same H H') : Off p H H' := fun c u _ e => h c u e
theorem Same.new {q : Addr} {H : Hp} {o : HO} (h : H q = none) : Same H (upd H q o) := fun c u e => by rw [upd_ne (ne_of_none e h)]; exact e
theorem atI_in {α : Type} {xs : List α} {i : Int} (h0 : 0 ≤ i) (h1 : i < xs.length) : ∃ v, atI xs i = some v ∧ v ∈ xs ∧ xs[i.toNat]? = some v := by
  have h : i.toNat < xs.length := by omega
  refine ⟨xs[i.toNat], ?_, List.getElem_mem h, List.getElem?_eq_getElem h⟩
  have := atI_nat (xs := xs) (j := i.toNat) (v := xs[i.toNat]) (List.getElem?_eq_getElem h)
  rw [Int.toNat_of_nonneg h0] at this
  exact this
theorem atI_strs {ns : List Str} {i : Int} (h0 : 0 ≤ i) (h1 : i < ns.length) : ∃ x, atI (ns.map V.str) i = some (.str x) ∧ x ∈ ns ∧ ns[i.toNat]? = some x := by
  obtain ⟨v, e, m, g⟩ := atI_in (xs := ns.map V.str) h0 (by rw [List.length_map]; exact h1)
  rw [List.getElem?_map] at g
  cases q : ns[i.toNat]? with
  | none => rw [q] at g; cases g
  | some x =>
    rw [q] at g
    cases g
    exact ⟨x, e, List.mem_of_getElem? q, rfl⟩
theorem strs_ne {as : List Str} {a b c : Int} : ¬ HO.lst [.int a, .int b, .int c] = HO.lst (as.map V.str) := by
  intro h
  cases as with
  | nil => cases h
  | cons x r =>
    injection h with h
    injection h with h
    cases h
theorem inV_strs {x : Str} {ns : List Str} : inV (.str x) (ns.map V.str) = decide (x ∈ ns) := by
  unfold inV
  rw [List.any_map]
  apply Bool.eq_iff_iff.mpr
  rw [List.any_eq_true, decide_eq_true_iff]
  constructor
  · rintro ⟨y, hy, e⟩
    have : (y == x) = true := e
    rw [beq_iff_eq] at this
    rw [← this]
    exact hy
  · intro h
    exact ⟨x, h, by show (x == x) = true; simp⟩
theorem flat_strs (ns : List Str) : (ns.map V.str).all flatV = true := by
  rw [List.all_map, List.all_eq_true]
  exact fun _ _ => rfl
def strsOf : List Expr → Option (List Str)
  | [] => some []
  | .Constant (.str x) _ _ :: r => (strsOf r).map (x :: ·)
  | _ => none
theorem pa_strs {X : Cx} : ∀ {es : List Expr} (ns : List Str), strsOf es = some ns → PA X es (fun _ H Q => Q (ns.map V.str) H)
  | [], ns, h => by
    have e : ns = [] := by
      unfold strsOf at h
      exact (Option.some.inj h).symm
    subst e
    exact pa_nil
  | e :: es, ns, h => by
    cases e with
    | Constant c j pos =>
      cases c with
      | str x =>
        unfold strsOf at h
        cases q : strsOf es with
        | none => rw [q] at h; cases h
        | some ms =>
          rw [q] at h
          have e : ns = x :: ms := (Option.some.inj h).symm
          subst e
          exact pa_cons pe_str (pa_strs ms q)
      | _ => unfold strsOf at h; cases h
    | _ => unfold strsOf at h; cases h
theorem op_in_K {X : Cx} {K : PySem.W.Frag} (h : X.K = K) : OpR X (compareOp .In) (rIn K false) := by subst h; exact op_in_seq
theorem op_notIn_K {X : Cx} {K : PySem.W.Frag} (h : X.K = K) : OpR X (compareOp .NotIn) (rIn K true) := by subst h; exact op_notIn_seq
theorem ix_list_K {X : Cx} {K : PySem.W.Frag} (h : X.K = K) : IxR X (rIxL K) := by subst h; exact ix_list
theorem ix_tup_K {X : Cx} {K : PySem.W.Frag} (h : X.K = K) : IxR X (rIxT K) := by subst h; exact ix_tup
theorem sl_list_K {X : Cx} {K : PySem.W.Frag} (h : X.K = K) : SlR X (rSlL K) := by subst h; exact sl_list
def okF (scope : Scope) (N0 N own : List Str) (fr : List Nat) (j : Nat) : Bool := match fr[j]? with
  | none => false
  | some i => match N[own.length + j]?, N0[i]? with
    | some x, some y => (x == y) && (scope.names.lookup x == some .free)
    | _, _ => false
def CSc (scX : Scope) (N0 : List Str) (scope : Scope) (own : List Str) (fr : List Nat) (N : List Str) : Prop :=
  scope.kind = .function ∧ (scope.names.map (·.1)).Nodup ∧ (∀ y ∈ scope.names, y.2 = .local → scope.names.lookup y.1 = some .local) ∧ (∀ y ∈ scope.names, y.2 = .free → scX.names.lookup y.1 = some .cell ∨ scX.names.lookup y.1 = some .free) ∧
    N.length = own.length + fr.length ∧ (∀ j ∈ List.range fr.length, okF scope N0 N own fr j = true) ∧ N.take own.length = own
instance (scX : Scope) (N0 : List Str) (scope : Scope) (own : List Str) (fr : List Nat) (N : List Str) : Decidable (CSc scX N0 scope own fr N) := by
  unfold CSc
  infer_instance
theorem CompScope.of {X : Cx} {scope : Scope} (own : List Str) (fr : List Nat) (N : List Str) (scX : Scope) (N0 : List Str) (hsc : X.env.scope = scX) (hN : X.N = N0) (h : CSc scX N0 scope own fr N) : CompScope X scope own fr N where
  kind := h.1
  nodup := h.2.1
  names := h.2.2.1
  free := fun y hy e => by
    show X.env.scope.names.lookup y.1 = _ ∨ X.env.scope.names.lookup y.1 = _
    rw [hsc]
    exact h.2.2.2.1 y hy e
  len := h.2.2.2.2.1
  isfr := fun j i e => by
    have hj : j < fr.length := (List.getElem?_eq_some_iff.mp e).1
    have q := h.2.2.2.2.2.1 j (List.mem_range.mpr hj)
    unfold okF at q
    rw [e] at q
    simp only at q
    cases e1 : N[own.length + j]? with
    | none => rw [e1] at q; simp at q
    | some x =>
      cases e2 : N0[i]? with
      | none => rw [e1, e2] at q; simp at q
      | some y =>
        rw [e1, e2] at q
        simp only [Bool.and_eq_true, beq_iff_eq] at q
        exact ⟨x, rfl, by rw [hN, e2, q.1], q.2⟩
  frs := fun j x e hj => by
    rw [← h.2.2.2.2.2.2, List.getElem?_take_of_lt hj]
    exact e
theorem lookup_relabel_cell {env : Env} {scope : Scope} {x : Str} (h : scope.names.lookup x = some .cell) : (relabel scope env).names.lookup x = some .cell := by
  unfold relabel
  show List.lookup x (List.map _ _) = _
  rw [relabel_lookup (scope := scope), h]
  rfl
theorem CompScope.of2 {X : Cx} {scope sc0 : Scope} {e0 : Env} (own : List Str) (fr : List Nat) (N : List Str) (N0 : List Str) (hsc : X.env.scope = relabel sc0 e0) (hN : X.N = N0) (h : CSc sc0 N0 scope own fr N) : CompScope X scope own fr N where
  kind := h.1
  nodup := h.2.1
  names := h.2.2.1
  free := fun y hy e => by
    show X.env.scope.names.lookup y.1 = _ ∨ X.env.scope.names.lookup y.1 = _
    rw [hsc]
    rcases h.2.2.2.1 y hy e with z | z
    · exact .inl (lookup_relabel_cell z)
    · unfold relabel
      show List.lookup y.1 (List.map _ _) = _ ∨ List.lookup y.1 (List.map _ _) = _
      rw [relabel_lookup (scope := sc0), z]
      simp only [Option.map_some]
      split
      · exact .inl rfl
      · exact .inr rfl
  len := h.2.2.2.2.1
  isfr := fun j i e => by
    have hj : j < fr.length := (List.getElem?_eq_some_iff.mp e).1
    have q := h.2.2.2.2.2.1 j (List.mem_range.mpr hj)
    unfold okF at q
    rw [e] at q
    simp only at q
    cases e1 : N[own.length + j]? with
    | none => rw [e1] at q; simp at q
    | some x =>
      cases e2 : N0[i]? with
      | none => rw [e1, e2] at q; simp at q
      | some y =>
        rw [e1, e2] at q
        simp only [Bool.and_eq_true, beq_iff_eq] at q
        exact ⟨x, rfl, by rw [hN, e2, q.1], q.2⟩
  frs := fun j x e hj => by
    rw [← h.2.2.2.2.2.2, List.getElem?_take_of_lt hj]
    exact e
end L2
end
section
set_option autoImplicit false
namespace L2
open PySem PySem.Spec PyProof.Rows
section
variable {X : Cx} {pins : List (Addr × Obj)} {σ : St} {H : Hp} {s : Shared}
abbrev Cx.suite (X : Cx) (ea : Addr) : Cx := { X with A := X.A.mark (some (.ref ea)), calm := false, xe := fun _ _ => False }
end
def XP (X : Cx) (pins : List (Addr × Obj)) (σ : St) (E : XK) (e : Value) (s' : Shared) : Prop := ∃ ea C H s H' B a0, e = .ref ea ∧ Inv X pins σ H s ∧ Flies X.prog X.w X.stack H s ea (.ref C) H' B a0 s' ∧ E (.ref C) none H'
end L2
end
section
set_option autoImplicit false
namespace L2
open PySem PySem.Spec PyProof.Rows
structure RoomS (k : Nat) (A : Around) : Prop where
  dp : A.depth + 3 * k + 5 < recursionLimit
  un : A.units + 16 * k + 200 < cLine
structure FnOkS (P : Program) (w : World) (K : PySem.W.Frag) (mg : Str → Option Value) (base : Heap) (k : Nat) (f : Addr) (fd : FuncData) (ps : List Str) (sp : Sp) : Prop where
  len : ∀ vs H Q E, sp vs H Q E → vs.length = ps.length
  run : ∀ (A : Around) (outer : List Env) (s : Shared) (H : Hp) (args : Args) (us : List Value) (vs : List V) (Q : VK), RoomS k A → Env0 P w K mg base A outer s H → BindsTo s fd args (ps.zip us) → Vals vs us → sp vs H Q E0 →
    codeAny (model P w) A (.call (.ref f) args) (CR CX0 outer P w H s Q E0) s
end L2
end
section
set_option autoImplicit false
namespace L2
open PySem PySem.Spec PyProof.Rows
def CDivL (_ j : Int) : Prop := 0 < j ∧ j < 1606938044258990275541962092341162602522202993782792835301376
theorem op_fdivL {X : Cx} : OpR X (binaryOp .FloorDiv) (rI CDivL fun i j => .int (i / j)) := opI fun i j _ _ _ _ _ hc q => by
  have h1 : (0 : Int) < j := hc.1
  have h2 : j < 1606938044258990275541962092341162602522202993782792835301376 := hc.2
  refine floordiv_int (by omega) (by rw [Int.fdiv_eq_ediv_of_nonneg i (by omega)]; exact q) (.inl (PyProof.noPylong_of_log2 ?_))
  have h3 : j.natAbs ≠ 0 := by omega
  have h4 : j.natAbs < 2 ^ 200 := by
    have e : (2 : Nat) ^ 200 = 1606938044258990275541962092341162602522202993782792835301376 := by decide +kernel
    rw [e]
    omega
  exact Nat.lt_trans ((Nat.log2_lt h3).mpr h4) (by decide)
def rCatT0 : R2 := fun x y H Q => ∃ (a b : Addr) (ys : List V), x = .ref a ∧ y = .ref b ∧ H a = some (.tup []) ∧ H b = some (.tup ys) ∧ Q (.ref b) H
theorem op_catT0 {X : Cx} : OpR X (binaryOp .Add) rCatT0 := by
  intro pins s σ H x y v u Q I rx ry h
  obtain ⟨a, b, ys, rfl, rfl, ha, hb, q⟩ := h
  cases rx
  cases ry
  obtain ⟨its, r, p⟩ := tup_at I ha
  obtain ⟨its2, r2, p2⟩ := tup_at I hb
  have e0 : its = [] := r.nil_iff.mpr rfl
  subst e0
  obtain ⟨⟨cls, dd, data, sl⟩, ho, hc, n, hd⟩ := id p
  obtain ⟨⟨cls2, dd2, data2, sl2⟩, ho2, hc2, n2, hd2⟩ := id p2
  simp only at hc hd hc2 hd2
  subst hc hd hc2 hd2
  exact concat_meets ⟨_, ho, rfl⟩ ⟨_, ho2, rfl⟩ noFill_tuple_add seq_tuple_add PySem.F.slot_tuple_add PySem.F.entry_tuple_add (PySem.F.args_tuple_add_2 _ _) (tuple_addW0 a b [].toArray its2.toArray n n2 dd dd2 sl sl2 rfl) ⟨ho, ho2, ⟨.ref b, H, I, rfl, q⟩⟩
end L2
end
section
set_option autoImplicit false
namespace L2
open PySem PySem.Spec PyProof.Rows
section
variable {X : Cx} {pins : List (Addr × Obj)} {σ : St} {H : Hp} {s : Shared} {d : Addr} {u u' : HO}
end
theorem paired_get {α β : Type} {F : α → β → Prop} : ∀ {l₁ : List α} {l₂ : List β}, Paired F l₁ l₂ → ∀ (i : Nat) (h1 : i < l₁.length) (h2 : i < l₂.length), F l₁[i] l₂[i]
  | _, _, .nil, i, h1, _ => by simp at h1
  | _, _, .cons r t, 0, _, _ => r
  | _, _, .cons r t, i + 1, h1, h2 => paired_get t i (by simpa using h1) (by simpa using h2)
section
variable {X : Cx}
theorem call_any (hc : X.calm = true) : CallR X (.builtin "any") (fun xs H Q => ∃ (p : Addr) (bs : List Bool), xs = [.ref p] ∧ SqL X.K H p (bs.map V.bl) ∧ Q (.bl (bs.any id)) H) := by
  intro pins s σ H xs us Q I r h
  obtain ⟨p, bs, rfl, hq, q⟩ := h
  obtain ⟨u, rfl, ru⟩ := vals1 r
  cases ru
  obtain ⟨its, rv, pl, hz⟩ := I.list hq
  have hl := rv.length
  rw [List.length_map] at hl
  refine call_any_walk (wpAny_pyIter_list pl.isList ?_)
  have plt : p < s.heap.objs.size := by obtain ⟨o, e, _⟩ := pl.isList; exact Heap.lt_size e
  refine ⟨s.heap.objs.size, _, _, _, _, _, fun i => bs.getD i false, rfl, Walks.list (A := X.A.in1) (I.ok.hd hc) s.heap.objs.size p (Nat.ne_of_lt plt) its.toArray, ⟨⟨_, Heap.get?_push_size _ rfl, rfl, rfl⟩, pl.isList.push _⟩, fun i v s' Q' E' hv hQ => ?_, fun h' tk kk => ?_⟩
  · have hi : i < bs.length := by
      have := (Array.getElem?_eq_some_iff.mp hv).1
      rw [List.size_toArray] at this
      omega
    obtain ⟨u, hu, ru⟩ := rv.get (i := i) (x := V.bl bs[i]) (by simp [hi])
    have hv' : its[i]? = some v := by simpa using hv
    rw [hv'] at hu
    cases hu
    cases ru
    refine wpAny_truthy_bool ?_
    simpa [hi] using hQ
  · have ee : ((List.range its.toArray.size).any fun i => bs.getD i false) = bs.any id := by
      rw [List.size_toArray, ← hl]
      apply Bool.eq_iff_iff.mpr
      rw [List.any_eq_true, List.any_eq_true]
      constructor
      · rintro ⟨i, hi, h⟩
        have hi' := List.mem_range.mp hi
        exact ⟨bs[i], List.getElem_mem hi', by simpa [hi'] using h⟩
      · rintro ⟨b, hb, h⟩
        obtain ⟨i, hi, rfl⟩ := List.getElem_of_mem hb
        exact ⟨i, List.mem_range.mpr hi, by simpa [hi] using h⟩
    rw [ee]
    have I1 : Inv X pins σ H { s with heap := s.heap.push { cls := .type "list_iterator", data := .fields #[.ref p, .int 0 0] } } := I.kept (t' := s.toks) fun b o e => Heap.get?_push_of_some _ e
    refine ⟨.bl _, H, I1.turned (t' := tk) (it := s.heap.objs.size) (fun b o hb e => kk b o (by simpa using hb) e) (I.hok.fresh (Nat.le_refl _)) (Nat.ne_of_gt I.lt) (.inr I.sz) ?_ ?_, rfl, q⟩
    · exact (I.fpOk (Nat.le_refl _) (I.hok.fresh (Nat.le_refl _))).2.2.2.2.1
    · exact (I.fpOk (Nat.le_refl _) (I.hok.fresh (Nat.le_refl _))).2.2.2.2.2
end
end L2
end
section
set_option autoImplicit false
namespace L2
open PySem PySem.Spec PyProof.Rows
def Ite (K : PySem.W.Frag) (a : Addr) : It :=
  ⟨fun i H => ∃ xs x, SqL K H a xs ∧ xs[i]? = some x, fun i H v H' => ∃ p, H p = none ∧ v = .ref p ∧ ∀ xs x, SqL K H a xs → xs[i]? = some x → H' = upd H p (.tup [.int i, x]), fun i H => ∃ xs, SqL K H a xs ∧ xs.length ≤ i⟩
theorem turn_enum {P : Program} {w : World} {K : PySem.W.Frag} {elts : List Expr} {x1 : Nat} {tpos : Pos} {e it l : Addr} (hne : e ≠ it) : Turn P w K (.Tuple elts x1 tpos) (Ite K l) [e, it] e
    (fun i h => (∃ old, IsEnum h e it i old) ∧ h.IsListIter it l i) where
  mem := by simp
  obj := fun i h st b hb => by
    obtain ⟨⟨old, he⟩, o, ei, c, d⟩ := st
    simp only [List.mem_cons, List.not_mem_nil, or_false] at hb
    rcases hb with rfl | rfl
    · exact ⟨_, he, fun v q => nomatch q⟩
    · exact ⟨o, ei, fun v z => by rw [d] at z; cases z⟩
  keep := fun i h h' st k => by
    obtain ⟨⟨old, he⟩, o, ei, r⟩ := st
    exact ⟨⟨old, k e (by simp) _ he⟩, o, k it (by simp) _ ei, r⟩
  item := by
    intro X hP hw hK hc i pins s σ H E I hf st hg
    subst hP hw hK
    obtain ⟨xs, x, hq, hx⟩ := hg
    obtain ⟨its, rv, p, hz⟩ := I.list hq
    obtain ⟨u, hu, ru⟩ := rv.get hx
    obtain ⟨⟨old, he⟩, hit⟩ := st
    refine wpAny_pyNext_enum_item he hit p.isList (x := u) (by simpa using hu) hne fun h' a1 a2 a3 a4 a5 => ?_
    refine ⟨_, rfl, wpAny_letOwnedTupleGo_enum a1 fun h2' a1' q' => ?_⟩
    have hn : H s.heap.objs.size = none := I.hok.fresh (Nat.le_refl _)
    have elt : e < s.heap.objs.size := Heap.lt_size he
    have ilt : it < s.heap.objs.size := by obtain ⟨_, e, _⟩ := hit; exact Heap.lt_size e
    have kk : ∀ b ob, b ∉ [e, it] → s.heap.get? b = some ob → h2'.get? b = some ob := fun b ob hb ee => by
      simp only [List.mem_cons, List.not_mem_nil, or_false, not_or] at hb
      exact q'.extBut _ _ hb.1 (a5 b ob hb.1 hb.2 ee)
    have I1 : Inv X pins σ (upd H s.heap.objs.size (.tup [.int i, x])) { s with heap := h2', toks := s.toks + 1 } := I.turnLaid (t' := s.toks + 1) hf kk (Nat.le_refl _)
      ⟨⟨by show 2 ≤ sizeLine; decide, fun o ee => by rw [q'.extBut _ _ (Nat.ne_of_gt elt) a3] at ee; cases ee; rfl⟩, [.int i s.toks, u], .cons ⟨_, rfl⟩ (.cons ru .nil), ⟨_, q'.extBut _ _ (Nat.ne_of_gt elt) a3, rfl, _, rfl⟩⟩
    refine ⟨.ref s.heap.objs.size, _, I1, rfl, ⟨_, hn, rfl, fun xs' x' k1 k3 => ?_⟩, ⟨⟨_, by simpa using a1'⟩, a2.extBut q'.extBut hne.symm⟩, fun b hb => ?_⟩
    · rw [I.list_inj k1 hq, hx] at k3
      cases k3
      rfl
    · have hb' := hb
      simp only [List.mem_cons, List.not_mem_nil, or_false] at hb'
      have hlt : b < s.heap.objs.size := by
        rcases hb' with rfl | rfl
        · exact elt
        · exact ilt
      rw [upd_ne (Nat.ne_of_lt hlt)]
      exact (hf b hb).1
  done := by
    intro X hP hw hK hc i pins s σ H E I hf st hg
    subst hP hw hK
    obtain ⟨xs, hq, hx⟩ := hg
    obtain ⟨its, rv, p, hz⟩ := I.list hq
    obtain ⟨⟨old, he⟩, hit⟩ := st
    have hl := rv.length
    refine wpAny_pyNext_enum_end (I.ok.hd hc) he hit p.isList (by simp; omega) fun h' eb => ⟨rfl, I.turnedL (t' := s.toks) hf fun b u hb q => ?_⟩
    simp only [List.mem_cons, List.not_mem_nil, or_false, not_or] at hb
    exact eb b u hb.2 q
  self := fun _ _ _ _ _ st h => by
    obtain ⟨⟨old, he⟩, _⟩ := st
    exact wpAny_pyIter_enum he h
section
variable {X : Cx}
def iEnum (K : PySem.W.Frag) (ta : TA) : TI := fun σ H R => ta σ H fun vs H1 => ∃ a xs, vs = [.ref a] ∧ SqL K H1 a xs ∧ R (Ite K a) H1
theorem pi_enumerate {elts : List Expr} {x1 : Nat} {tpos : Pos} {a : Expr} {ta : TA} {p pos : Pos} (hg : Gl X "enumerate") (hm : X.mg "enumerate" = none) (ha : PA X [a] ta)
    (he : starEach [a] X.env = (false, eval a X.env) :: starEach [] X.env := by rfl) (hpl : (backTo pos (starEach [] X.env)).any (·.1) = false := by rfl) : PI X (.Tuple elts x1 tpos) (.Call (.Name "enumerate" p) [a] [] pos) (iEnum X.K ta) := by
  intro pins s σ H R I h
  have boot_enum : bootBuiltins "enumerate" = some (.type "enumerate") := by decide +kernel
  refine wpAny_Call_Name_kw (ld_blt I hg hm boot_enum ?_)
  refine PyProof.Rows.callWith_type1 (thn (ha pos pins s σ H _ I h) fun us s1 ⟨vs, H1, I1, r1, t1, xs, e, q1, q⟩ => ?_) he hpl
  subst e
  obtain ⟨u, rfl, ru⟩ := vals1 r1
  cases ru
  obtain ⟨its, rv, p1, hz1⟩ := I1.list q1
  refine call_enumerate_list p1.isList fun h' hE hI hsz hk => ?_
  refine wpAny_pyIter_enum hE ?_
  have I2 : Inv X pins σ H1 { s1 with heap := h' } := I1.kept (t' := s1.toks) hk
  have hne : s1.heap.objs.size + 1 ≠ s1.heap.objs.size := by change @Ne Nat _ _; omega
  refine ⟨s1.heap.objs.size + 1, [s1.heap.objs.size + 1, s1.heap.objs.size], _, Ite X.K t1, H1, rfl, I2, turn_enum hne, ⟨⟨_, hE⟩, hI⟩, fun b hb => ?_, q⟩
  have hle : s1.heap.objs.size ≤ b := by
    simp only [List.mem_cons, List.not_mem_nil, or_false] at hb
    rcases hb with h | h <;> rw [h] <;> first | exact Nat.le_refl _ | exact Nat.le_add_right _ _
  exact I1.fpOk hle (I1.hok.fresh hle)
end
end L2
end
section
set_option autoImplicit false
namespace L2
open PySem PySem.Spec PyProof.Rows
section
variable {prog : Program} {w : World} {A : Around} {E : Value → Shared → Prop} {s : Shared}
end
end L2
end
section
set_option autoImplicit false
namespace L2
open PySem PySem.Spec PyProof.Rows
section
variable {X : Cx} {pins : List (Addr × Obj)} {σ : St} {A : Around}
end
end L2
end
section
set_option autoImplicit false
namespace L2
open PySem PySem.Spec PyProof.Rows
section
variable {X : Cx}
end
end L2
end
section
set_option autoImplicit false
namespace L2
open PySem PySem.Spec PyProof.Rows
section
variable {X : Cx}
end
end L2
end
section
set_option autoImplicit false
namespace L2
open PySem PySem.Spec PyProof.Rows PySem.W
def KOk {α : Type} (n : Nat) (P : α → Prop) : KasT α → Prop
  | .ret a => P a
  | .ask i j k => i < n ∧ j < n ∧ ∀ b, KOk n P (k b)
def Pm (n : Nat) (p : Array Nat) : Prop := p.Perm (List.range n).toArray
section
variable {n : Nat} (h0 : 0 < n)
include h0
end
section
variable {prog : Program} {w : World} {A : Around} {E : Value → Shared → Prop} {s : Shared}
structure Cmps (prog : Program) (w : World) (A : Around) (κ : SortKind) (vs : List Value) (h : Heap) : Prop where
  kind : ∀ (s' : Shared) (Q : SortKind → Shared → Prop) (E : Value → Shared → Prop), (∀ b o, h.get? b = some o → s'.heap.get? b = some o) → Q κ s' → wpAny (model prog w) A (keyKind' vs.toArray) Q E s'
  lt : ∀ x ∈ vs, ∀ y ∈ vs, ∀ (s' : Shared) (C : Bool → Shared → Prop), (∀ b o, h.get? b = some o → s'.heap.get? b = some o) → (∀ b, C b s') → wpAny (model prog w) A (keyLt' κ x y) C (fun _ _ => False) s'
end
section
variable {X : Cx}
end
end L2
end
section
set_option autoImplicit false
namespace L2
open PySem PySem.Spec PyProof.Rows
section
variable {X : Cx} {K : PySem.W.Frag}
theorem pi_list_K {tg l : Expr} {tl : TE} (h : X.K = K) (hl : PE X l tl) : PI X tg l (iList K tl) := by subst h; exact pi_list hl
theorem call_any_K (h : X.K = K) (hc : X.calm = true) : CallR X (.builtin "any") (fun xs H Q => ∃ (p : Addr) (bs : List Bool), xs = [.ref p] ∧ SqL K H p (bs.map V.bl) ∧ Q (.bl (bs.any id)) H) := by subst h; exact call_any hc
end
end L2
end
section
set_option autoImplicit false
namespace L2
open PySem PyProof.Rows
theorem comp_by {J : It} {n own : Nat} {fr : List Nat} {g : TG} {tc : TT} {te : TE} {σ : St} {Q : VK} {D : Addr} {H0 : Hp} (Pv : Nat → List V → Hp → Prop) (h0 : Pv 0 [] H0) (stop : ∀ ys H, Pv n ys H → J.stop n H ∧ Q (.ref D) H)
    (go : ∀ i ys H, i < n → Pv i ys H → J.go i H ∧ ∀ x H', J.yld i H x H' → ∀ σo : St, σo.length = own → g x (σo ++ frv σ fr) H' fun σ2 H2 => (∃ σo' : St, σo'.length = own ∧ σ2 = σo' ++ frv σ fr) ∧
      tc σ2 H2 fun b H3 => if b = true then te σ2 H3 fun y H4 => ys.length < sizeLine ∧ H4 D = some (.lst ys) ∧ ∃ m', m' < n - i ∧ (m' = n - (i + 1) ∧ i + 1 ≤ n ∧ Pv (i + 1) (ys ++ [y]) (upd H4 D (.lst (ys ++ [y])))) else ∃ m', m' < n - i ∧ (m' = n - (i + 1) ∧ i + 1 ≤ n ∧ Pv (i + 1) ys H3)) :
    CompB own fr g tc te σ Q J D H0 := by
  refine ⟨fun i m ys H => m = n - i ∧ i ≤ n ∧ Pv i ys H, ⟨n, by simp, Nat.zero_le _, h0⟩, ?_⟩
  rintro i m ys H ⟨rfl, hi, p⟩
  by_cases hlt : i < n
  · exact .inr (go i ys H hlt p)
  · have e : i = n := by omega
    subst e
    exact .inl (stop ys H p)
theorem less_by {n i : Nat} (h : i < n) {P : Prop} (p : P) : ∃ m', m' < n - i ∧ (m' = n - (i + 1) ∧ i + 1 ≤ n ∧ P) := ⟨n - (i + 1), by omega, rfl, h, p⟩
theorem own1 {σo : St} (h : σo.length = 1) : ∃ o, σo = [o] := by
  cases σo with
  | nil => cases h
  | cons o r =>
    cases r with
    | nil => exact ⟨o, rfl⟩
    | cons _ _ => cases h
theorem nodup_map {α β : Type} {f : α → β} : ∀ {l : List α}, (∀ a ∈ l, ∀ b ∈ l, f a = f b → a = b) → l.Nodup → (l.map f).Nodup
  | [], _, _ => List.nodup_nil
  | a :: r, hi, hn => by
    obtain ⟨h1, h2⟩ := List.nodup_cons.mp hn
    rw [List.map_cons]
    refine List.nodup_cons.mpr ⟨fun m => ?_, nodup_map (fun x hx y hy => hi x (List.mem_cons_of_mem _ hx) y (List.mem_cons_of_mem _ hy)) h2⟩
    obtain ⟨b, hb, e⟩ := List.mem_map.mp m
    exact h1 (hi b (List.mem_cons_of_mem _ hb) a List.mem_cons_self e ▸ hb)
theorem nodup_le {α : Type} [DecidableEq α] : ∀ {l m : List α}, l.Nodup → (∀ x ∈ l, x ∈ m) → l.length ≤ m.length
  | [], _, _, _ => Nat.zero_le _
  | a :: r, m, hn, hs => by
    obtain ⟨h1, h2⟩ := List.nodup_cons.mp hn
    have hm : a ∈ m := hs a List.mem_cons_self
    have := nodup_le (l := r) (m := m.erase a) h2 fun x hx => by
      have ne : x ≠ a := fun e => h1 (e ▸ hx)
      exact (List.mem_erase_of_ne ne).mpr (hs x (List.mem_cons_of_mem _ hx))
    have e := List.length_erase_of_mem hm
    have p : 0 < m.length := List.length_pos_of_mem hm
    rw [List.length_cons]
    omega
theorem hu10 {A : Around} {k : Nat} (hr : Room k A) : A.units + 10 < cLine := by
  have := hr.units
  omega
def Pu (H : Hp) (p : Addr) : Prop := ∃ a b c : Int, H p = some (.lst [.int a, .int b, .int c])
theorem Pu.ne {H : Hp} {p u : Addr} {us : List Str} (h : Pu H p) (g : H u = some (.lst (us.map V.str))) : u ≠ p := by
  obtain ⟨a, b, c, e⟩ := h
  exact (ne_of e g strs_ne).symm
theorem Pu.upd {H : Hp} {p : Addr} {a b c : Int} : Pu (upd H p (.lst [.int a, .int b, .int c])) p := ⟨a, b, c, upd_same⟩
theorem Pu.same {H H' : Hp} {p : Addr} (h : Pu H p) (s : Same H H') : Pu H' p := by
  obtain ⟨a, b, c, e⟩ := h
  exact ⟨a, b, c, s p _ e⟩
theorem Pu.neN {H : Hp} {p q : Addr} (h : Pu H p) (g : H q = none) : p ≠ q := by
  obtain ⟨a, b, c, e⟩ := h
  exact ne_of_none e g
theorem Pu.upd_ne {H : Hp} {p q : Addr} {o : HO} (h : Pu H p) (g : p ≠ q) : Pu (L2.upd H q o) p := by
  obtain ⟨a, b, c, e⟩ := h
  exact ⟨a, b, c, by rw [L2.upd_ne g]; exact e⟩
theorem itePos {c A B : Prop} [Decidable c] (h : c) (a : A) : if c then A else B := by
  rw [if_pos h]
  exact a
theorem iteNeg {c A B : Prop} [Decidable c] (h : ¬ c) (b : B) : if c then A else B := by
  rw [if_neg h]
  exact b
def abc : Str := "abcdefghijklmnopqrstuvwxyz"
def letters : List Str := abc.cps.toList.map fun c => ⟨#[c]⟩
theorem letters_len : letters.length = 26 := by decide +kernel
theorem abc_len : abc.cps.size = 26 := by decide +kernel
theorem letters_one : ∀ x ∈ letters, x.length = 1 := by
  intro x hx
  obtain ⟨c, _, rfl⟩ := List.mem_map.mp hx
  rfl
theorem letters_nodup : letters.Nodup := by decide +kernel
theorem str_app_inj {a b z : Str} (ha : a.length = 1) (hb : b.length = 1) (h : a ++ z = b ++ z) : a = b := by
  obtain ⟨⟨a⟩⟩ := a
  obtain ⟨⟨b⟩⟩ := b
  have h' : (a ++ z.cps.toList) = (b ++ z.cps.toList) := by
    have e : ∀ y : List Nat, ((⟨⟨y⟩⟩ : Str) ++ z).cps.toList = y ++ z.cps.toList := fun y => by
      show ((⟨y⟩ : Array Nat) ++ z.cps).toList = _
      rw [Array.toList_append]
    rw [← e, ← e, h]
  have := List.append_cancel_right h'
  rw [this]
theorem str_len_app (a b : Str) : (a ++ b).length = a.length + b.length := by
  show (a.cps ++ b.cps).size = _
  rw [Array.size_append]
  rfl
theorem some_letter {us : List Str} (h : us.length ≤ 25) (z : Str) : ∃ c ∈ letters, ¬ (c ++ z) ∈ us := by
  apply Classical.byContradiction
  intro hn
  have all : ∀ c ∈ letters, (c ++ z) ∈ us := fun c hc => Classical.byContradiction fun hx => hn ⟨c, hc, hx⟩
  have nd : (letters.map (· ++ z)).Nodup := by
    exact nodup_map (fun a ha b hb e => str_app_inj (letters_one a ha) (letters_one b hb) e) letters_nodup
  have := nodup_le nd fun x hx => by
    obtain ⟨c, hc, rfl⟩ := List.mem_map.mp hx
    exact all c hc
  rw [List.length_map, letters_len] at this
  omega
theorem slice_len (z : Str) (lo hi : Option Int) : (Txt.slice z lo hi).length ≤ z.length := Txt.slice_le z lo hi
theorem for_enum {K : PySem.W.Frag} {a : Addr} {xs : List V} {g : TG} {tb : TS} {D : Ends} {σ : St} {H : Hp} (Pv : Nat → St → Hp → Prop) (h0 : Pv 0 σ H) (hl : ∀ i σ H, i ≤ xs.length → Pv i σ H → SqL K H a xs)
    (hs : ∀ i x σ H p, xs[i]? = some x → Pv i σ H → H p = none → g (.ref p) σ (upd H p (.tup [.int i, x])) fun σ2 H2 => tb { D with nx := Pv (i + 1), ct := Pv (i + 1), bk := D.nx } σ2 H2) (hd : ∀ σ H, Pv xs.length σ H → D.nx σ H) :
    ∃ W : Nat → Nat → St → Hp → Prop, (∃ m, W 0 m σ H) ∧ ∀ i m σ H, W i m σ H →
      ((Ite K a).stop i H ∧ D.nx σ H) ∨ ((Ite K a).go i H ∧ ∃ N : St → Hp → Prop, (∀ σ' H', N σ' H' → ∃ m', m' < m ∧ W (i + 1) m' σ' H') ∧ ∀ x H', (Ite K a).yld i H x H' → g x σ H' fun σ2 H2 => tb { D with nx := N, ct := N, bk := D.nx } σ2 H2) := by
  refine ⟨fun i m σ H => m = xs.length - i ∧ i ≤ xs.length ∧ Pv i σ H, ⟨xs.length, by simp, Nat.zero_le _, h0⟩, ?_⟩
  rintro i m σ H ⟨rfl, hi, p⟩
  have q := hl i σ H hi p
  by_cases hlt : i < xs.length
  · refine .inr ⟨⟨xs, xs[i], q, by simp [hlt]⟩, Pv (i + 1), fun σ' H' p' => ⟨xs.length - (i + 1), by omega, rfl, hlt, p'⟩, fun x H' y => ?_⟩
    obtain ⟨r, hr, rfl, y⟩ := y
    have e := y xs xs[i] q (by simp [hlt])
    subst e
    exact hs i xs[i] σ _ r (by simp [hlt]) p hr
  · have e : i = xs.length := by omega
    subst e
    exact .inl ⟨⟨xs, q, Nat.le_refl _⟩, hd σ H p⟩
end L2
end
section
set_option autoImplicit false
namespace L2
open PySem PySem.Spec PyProof.Rows
section
variable {X : Cx} {K : PySem.W.Frag}
def rNeE (K : PySem.W.Frag) : R2 := fun x y H Q => ∃ (a b : Addr) (xs : List V), x = .ref a ∧ y = .ref b ∧ SqL K H a xs ∧ SqL K H b [] ∧ Q (.bl (!xs.isEmpty)) H
def rEqE (K : PySem.W.Frag) : R2 := fun x y H Q => ∃ (a b : Addr) (xs : List V), x = .ref a ∧ y = .ref b ∧ SqL K H a xs ∧ SqL K H b [] ∧ Q (.bl xs.isEmpty) H
theorem op_neE (hK : X.K = K) (hu : X.A.units < cLine) : OpR X (compareOp .NotEq) (rNeE K) := by
  subst hK
  intro pins s σ H x y v u Q I rx ry h
  obtain ⟨a, b, xs, rfl, rfl, ha, hb, q⟩ := h
  cases rx
  cases ry
  obtain ⟨its, r, p, _⟩ := I.list ha
  obtain ⟨its2, r2, p2, _⟩ := I.list hb
  have e2 : its2 = [] := r2.nil_iff.mpr rfl
  subst e2
  cases xs with
  | nil =>
    have e1 : its = [] := r.nil_iff.mpr rfl
    subst e1
    exact SeqAt.RcNeAt.lists (A := X.A) (s := s) (e := fun _ => true) p.isList p2.isList rfl hu (fun j h1 _ => by simp at h1) X.prog X.w X.xe _ ⟨.bl false, H, I, rfl, q⟩
  | cons x0 xr =>
    have hl := r.length
    refine SeqAt.RcNeAt.lists_lengths (A := X.A) (s := s) p.isList p2.isList ?_ hu X.prog X.w X.xe _ ⟨.bl true, H, I, rfl, q⟩
    rw [List.length_cons] at hl
    have : its.length ≠ 0 := by omega
    simpa using this
theorem op_eqE (hK : X.K = K) (hu : X.A.units < cLine) : OpR X (compareOp .Eq) (rEqE K) := by
  subst hK
  intro pins s σ H x y v u Q I rx ry h
  obtain ⟨a, b, xs, rfl, rfl, ha, hb, q⟩ := h
  cases rx
  cases ry
  obtain ⟨its, r, p, _⟩ := I.list ha
  obtain ⟨its2, r2, p2, _⟩ := I.list hb
  have e2 : its2 = [] := r2.nil_iff.mpr rfl
  subst e2
  cases xs with
  | nil =>
    have e1 : its = [] := r.nil_iff.mpr rfl
    subst e1
    exact SeqAt.RcAt.lists (A := X.A) (s := s) (e := fun _ => true) p.isList p2.isList rfl hu (fun j h1 _ => by simp at h1) X.prog X.w X.xe _ ⟨.bl true, H, I, rfl, q⟩
  | cons x0 xr =>
    have hl := r.length
    refine SeqAt.RcAt.lists_lengths (A := X.A) (s := s) p.isList p2.isList ?_ hu X.prog X.w X.xe _ ⟨.bl false, H, I, rfl, q⟩
    rw [List.length_cons] at hl
    have : its.length ≠ 0 := by omega
    simpa using this
theorem call_len_seqK (hK : X.K = K) : CallR X (.builtin "len") (fun xs H Q => ∃ p ys, xs = [.ref p] ∧ (SqL K H p ys ∨ SqT K H p ys) ∧ Q (.int ys.length) H) := by subst hK; exact call_len_seq
theorem call_list_ofK (hK : X.K = K) : CallR X (.type "list") (fun xs H Q => ∃ p ys, xs = [.ref p] ∧ (SqL K H p ys ∨ SqT K H p ys) ∧ ∀ l, H l = none → Q (.ref l) (upd H l (.lst ys))) := by subst hK; exact call_list_of
end
end L2
end
section
set_option autoImplicit false
namespace L2
open PySem PySem.Spec PyProof.Rows
section
variable {X : Cx} {K : PySem.W.Frag}
def SeqAt' (H : Hp) (v : V) (ys : List V) : Prop := ∃ p, v = .ref p ∧ (H p = some (.lst ys) ∨ H p = some (.tup ys))
end
end L2
end
section
set_option autoImplicit false
namespace L2
open PySem PySem.Spec PyProof.Rows
section
variable {X : Cx} {K : PySem.W.Frag}
end
end L2
end
section
set_option autoImplicit false
namespace L2
open PySem PySem.Spec PyProof.Rows PySem.W
section
variable {prog : Program} {w : World} {A : Around} {E : Value → Shared → Prop} {s : Shared} {T : String} {r d : Addr} {n : Nat} {P : Nat → Value → Prop} {OK : Heap → Prop}
end
end L2
end
section
set_option autoImplicit false
namespace L2
open PySem PySem.Spec PyProof.Rows
section
variable {X : Cx}
end
section
variable {prog : Program} {w : World} {A : Around} {E : Value → Shared → Prop} {s : Shared}
end
end L2
end
section
set_option autoImplicit false
namespace L2
open PySem PySem.Spec PyProof.Rows
section
variable {prog : Program} {w : World} {A : Around} {E : Value → Shared → Prop} {s : Shared}
end
end L2
end
section
set_option autoImplicit false
namespace L2
open PySem PySem.Spec PyProof.Rows
section
variable {X : Cx} {K : PySem.W.Frag}
end
end L2
end
section
set_option autoImplicit false
namespace L2
open PySem PyProof.Rows
def RowsS (H : Hp) (vs : List V) (rows : List (List Str)) : Prop := Paired (fun (v : V) (r : List Str) => SeqAt' H v (r.map V.str)) vs rows
end L2
end
section
set_option autoImplicit false
namespace L2
open PySem PySem.Spec PyProof.Rows
section
variable {X : Cx}
end
end L2
end
section
set_option autoImplicit false
namespace L2
open PySem PySem.Spec PyProof.Rows
def KDct (P : Program) (w : World) (K : PySem.W.Frag) (a : Addr) (kvs : List (Key × V)) : Prop := (a == sysModules) = false ∧ ∃ (o : Obj) (es : Array DictEntry) (ep : Nat) (vs : List (Key × Value)), K.lookup a = some o ∧ o.ExactDict ∧ o.data = .dict es ep ∧ KeysOf (mixKind P w) es ∧ Pairs (mixKind P w) es.toList vs ∧ (vs.map (·.1)).Nodup ∧ KV kvs vs
section
variable {X : Cx}
theorem KDct.at {pins : List (Addr × Obj)} {σ : St} {H : Hp} {s : Shared} {a : Addr} {kvs : List (Key × V)} (I : Inv X pins σ H s) (h : KDct X.prog X.w X.K a kvs) : (a == sysModules) = false ∧ (∃ vs, KV kvs vs ∧ s.heap.DictOf (mixKind X.prog X.w) a vs) ∧ ∀ b, Value.ref a = .ref b → ∃ ob, s.heap.get? b = some ob ∧ ob.dict = none := by
  obtain ⟨h1, o, es, ep, vs, hk, hx, hd, ko, pr, nd, kv⟩ := h
  refine ⟨h1, ⟨vs, kv, o, es, ep, I.kIn a o hk, hx, hd, ko, pr, nd⟩, fun b q => ?_⟩
  cases q
  exact ⟨o, I.kIn a o hk, hx.2.1⟩
def tKGet (P : Program) (w : World) (K : PySem.W.Frag) (td ty : TE) : TE := fun σ H Q => td σ H fun x H1 => ty σ H1 fun y H2 => ∃ a kvs k v, x = .ref a ∧ KDct P w K a kvs ∧ y = kV k ∧ valV kvs k = some v ∧ Q v H2
theorem pe_kget {o i : Expr} {td ty : TE} {pos : Pos} (ho : PE X o td) (hi : PE X i ty) (hs : NoSl i) : PE X (.Subscript o i pos) (tKGet X.prog X.w X.K td ty) := by
  intro pins s σ H Q I h
  refine subD_of PySem.F.slot_dict_getitem.lookup hs (thn (ho pins s σ H _ I h) fun u s1 ⟨x, H1, I1, rx, q1⟩ => thn (hi pins s1 σ H1 _ I1 q1) fun iv s2 ⟨y, H2, I2, ry, a, kvs, k, v, ex, kd, ey, hv, q2⟩ => ?_)
  subst ex ey
  obtain rfl : u = Value.ref a := rx
  obtain ⟨_, ⟨vs, rel, dd⟩, _⟩ := KDct.at I2 kd
  obtain ⟨w', hw, rw'⟩ := RelO.some_of (v := v) (o := valueAt vs k) (by rw [← hv]; exact rel.val k)
  exact ⟨dd.typeIs, wpAny_getItem_of (kV_is ry) dd.mapOf hw ⟨v, H2, I2.tok _, rw', q2⟩⟩
def tKGet2 (P : Program) (w : World) (K : PySem.W.Frag) (td ty tx : TE) : TE := fun σ H Q => td σ H fun x H1 => ∃ a kvs, x = .ref a ∧ KDct P w K a kvs ∧ ty σ H1 fun y H2 => tx σ H2 fun z H3 => ∃ k, y = kV k ∧ Q ((valV kvs k).getD z) H3
theorem pe_kget2 {o e f : Expr} {apos cpos : Pos} {td ty tx : TE} (ho : PE X o td) (he : PE X e ty) (hf : PE X f tx) (m : M2 X o "get" apos e f cpos) : PE X (.Call (.Attribute o "get" apos) [e, f] [] cpos) (tKGet2 X.prog X.w X.K td ty tx) := by
  intro pins s σ H Q I h
  refine wpAny_Call_method m.base m.few m.line PySem.F.plainAttrs_dict PySem.F.slot_dict_get PySem.F.type_dict_get (thn (ho pins s σ H _ I h) fun u s1 ⟨x, H1, I1, rx, a, kvs, ex, kd, q1⟩ => ?_)
  subst ex
  obtain rfl : u = Value.ref a := rx
  obtain ⟨_, ⟨vs, rel, dd⟩, t2⟩ := KDct.at I1 kd
  refine ⟨dd.typeIs, t2, ?_⟩
  rw [m.trees]
  refine Calls.callWith_builtin rfl (Calls.evalArgs_plain (Calls.spliced_cons (thn (he pins s1 σ H1 _ I1 q1) fun iv s2 ⟨y, H2, I2, ry, q2⟩ =>
    Calls.spliced_cons (thn (hf pins s2 σ H2 _ I2 q2) fun fv s3 ⟨z, H3, I3, rz, k, ey, q3⟩ => Calls.spliced_nil ?_))))
  subst ey
  obtain ⟨hd, ⟨vs, rel, dd⟩, _⟩ := KDct.at I3 kd
  exact call_meetsIn PySem.F.slot_dict_get dd.typeIs PySem.F.entry_dict_get (PySem.F.args_dict_get_3 _ _ _) (meets_dict_get_default (mixKind X.prog X.w) a (kV_is ry) hd fv) ⟨_, dd.mapOf, ⟨_, H3, I3.tok _, (rel.val k).getD rz, q3⟩⟩
theorem vals_strsAre : ∀ {ys : List Str} {us : List Value}, Vals (ys.map V.str) us → StrsAre us ys
  | [], _, .nil => .nil
  | y :: ys, _, .cons ⟨t, e⟩ r => by
    subst e
    exact .cons y t (vals_strsAre r)
def rJoin (K : PySem.W.Frag) : V → List V → Hp → VK → Prop := fun x vs H Q => ∃ (sep : Str) (b : Addr) (ys : List Str), x = .str sep ∧ vs = [.ref b] ∧ (SqL K H b (ys.map V.str) ∨ SqT K H b (ys.map V.str)) ∧ (ys.map (·.length)).sum + ys.length * sep.length ≤ 16777216 ∧ Q (.str (Txt.join sep ys)) H
theorem mt_join : MtM X "str.join" (rJoin X.K) := by
  intro pins s σ H x vs v us Q I rx rv h
  obtain ⟨sep, b, ys, rfl, rfl, hb, hok, q⟩ := h
  obtain ⟨t, rfl⟩ := rx
  obtain ⟨u, rfl, ru⟩ := rv.one
  cases ru
  rcases hb with hb | hb
  · obtain ⟨its, r, p1, hz⟩ := I.list hb
    exact join_list p1.isList (by simpa using vals_strsAre r) hok fun t' k => ⟨.str _, H, I.tok _, ⟨_, rfl⟩, q⟩
  · obtain ⟨its, r, p1, hz⟩ := I.tuple hb
    exact join_tuple p1 (by simpa using vals_strsAre r) hok fun t' k => ⟨.str _, H, I.tok _, ⟨_, rfl⟩, q⟩
theorem mt_join_K {K : PySem.W.Frag} (hK : X.K = K) : MtM X "str.join" (rJoin K) := by subst hK; exact mt_join
end
end L2
end
section
set_option autoImplicit false
namespace K25
open PySem L2
def top (i : Nat) : Stmt := PySem.Challenge.pw_warmrows_k25_programs_written.main.body.getD i (.Pass ⟨0, 0, 0, 0⟩)
structure Adr where
  show_program : Addr × FuncData
  show_kind : Addr × FuncData
  show_body : Addr × FuncData
  show_block : Addr × FuncData
  show_statement : Addr × FuncData
  show_part : Addr × FuncData
  show_parts : Addr × FuncData
  show_expression : Addr × FuncData
  _law_cell : Addr × FuncData
  _law_purse : Addr × FuncData
  _law_take : Addr × FuncData
  _law_word : Addr × FuncData
  _law_words : Addr × FuncData
  _law_merge : Addr × FuncData
  _law_some : Addr × FuncData
  _law_kinds : Addr × FuncData
  _law_e : Addr × FuncData
  _law_s : Addr × FuncData
  _law_b : Addr × FuncData
  _law_p : Addr × FuncData
  _law_e_text : Addr × FuncData
  _law_s_rows : Addr × FuncData
  _law_b_rows : Addr × FuncData
  _law_text : Addr × FuncData
  law : Addr × FuncData
  cEXPRESSIONS : Addr
  cSTATEMENTS : Addr
  cJOINTS : Addr
  ad : Str → Str → Addr
structure Defs (K : PySem.W.Frag) (mg : Str → Option Value) (t : Adr) : Prop where
  show_program : Fnd K mg "show_program" (top 4) ["program"] t.show_program.1 t.show_program.2
  show_kind : Fnd K mg "show_kind" (top 5) ["row"] t.show_kind.1 t.show_kind.2
  show_body : Fnd K mg "show_body" (top 6) ["first", "block"] t.show_body.1 t.show_body.2
  show_block : Fnd K mg "show_block" (top 7) ["block"] t.show_block.1 t.show_block.2
  show_statement : Fnd K mg "show_statement" (top 8) ["statement"] t.show_statement.1 t.show_statement.2
  show_part : Fnd K mg "show_part" (top 9) ["form", "part"] t.show_part.1 t.show_part.2
  show_parts : Fnd K mg "show_parts" (top 10) ["forms", "parts"] t.show_parts.1 t.show_parts.2
  show_expression : Fnd K mg "show_expression" (top 11) ["expression"] t.show_expression.1 t.show_expression.2
  _law_cell : Fnd K mg "_law_cell" (top 13) ["_law_script", "_law_k"] t._law_cell.1 t._law_cell.2
  _law_purse : Fnd K mg "_law_purse" (top 14) ["_law_cell_here"] t._law_purse.1 t._law_purse.2
  _law_take : Fnd K mg "_law_take" (top 15) ["_law_purse_here", "_law_many"] t._law_take.1 t._law_take.2
  _law_word : Fnd K mg "_law_word" (top 16) ["_law_purse_here", "_law_used"] t._law_word.1 t._law_word.2
  _law_words : Fnd K mg "_law_words" (top 17) ["_law_purse_here", "_law_many", "_law_used"] t._law_words.1 t._law_words.2
  _law_merge : Fnd K mg "_law_merge" (top 18) ["_law_kind", "_law_rows"] t._law_merge.1 t._law_merge.2
  _law_some : Fnd K mg "_law_some" (top 19) ["_law_purse_here", "_law_menu", "_law_most"] t._law_some.1 t._law_some.2
  _law_kinds : Fnd K mg "_law_kinds" (top 20) ["_law_purse_here", "_law_many", "_law_used", "_law_fields"] t._law_kinds.1 t._law_kinds.2
  _law_e : Fnd K mg "_law_e" (top 21) ["_law_purse_here", "_law_deep", "_law_tools"] t._law_e.1 t._law_e.2
  _law_s : Fnd K mg "_law_s" (top 22) ["_law_purse_here", "_law_deep", "_law_room", "_law_tools"] t._law_s.1 t._law_s.2
  _law_b : Fnd K mg "_law_b" (top 23) ["_law_purse_here", "_law_deep", "_law_room", "_law_tools"] t._law_b.1 t._law_b.2
  _law_p : Fnd K mg "_law_p" (top 24) ["_law_purse_here"] t._law_p.1 t._law_p.2
  _law_e_text : Fnd K mg "_law_e_text" (top 25) ["_law_part"] t._law_e_text.1 t._law_e_text.2
  _law_s_rows : Fnd K mg "_law_s_rows" (top 26) ["_law_part"] t._law_s_rows.1 t._law_s_rows.2
  _law_b_rows : Fnd K mg "_law_b_rows" (top 27) ["_law_block"] t._law_b_rows.1 t._law_b_rows.2
  _law_text : Fnd K mg "_law_text" (top 28) ["_law_program"] t._law_text.1 t._law_text.2
  law : Fnd K mg "law" (top 29) ["_law_script"] t.law.1 t.law.2
  b_abs : mg "abs" = none
  b_any : mg "any" = none
  b_enumerate : mg "enumerate" = none
  b_int : mg "int" = none
  b_isinstance : mg "isinstance" = none
  b_len : mg "len" = none
  b_list : mg "list" = none
  b_max : mg "max" = none
  b_min : mg "min" = none
  b_range : mg "range" = none
  b_str : mg "str" = none
  b_tuple : mg "tuple" = none
  b_zip : mg "zip" = none
def exprs : List (Str × List Str) := [("me", []), ("name", ["x"]), ("new", ["kind"]), ("get", ["e", "name"]), ("ask", ["e", "name", "args"]), ("up", ["name", "args"]), ("plus", ["e", "e"]), ("minus", ["e", "e"]), ("less", ["e", "e"]), ("alike", ["e", "e"]), ("or", ["e", "e"])]
def stats : List (Str × List Str) := [("let", ["x", "e"]), ("put", ["e", "name", "e"]), ("drop", ["e", "name"]), ("tell", ["e"]), ("do", ["e"]), ("give", ["e"]), ("throw", ["e"]), ("become", ["e", "kind"]), ("if", ["e", "block", "block"]), ("while", ["e", "block"]), ("repeat", ["e", "block"]), ("try", ["block", "x", "block"]), ("turn", ["kind", "name", "kind", "name"]), ("strip", ["kind", "name"]), ("elders", ["kind", "elders"])]
def joints : List (Str × List Str) := [("if", ["else", "end"]), ("while", ["end"]), ("repeat", ["end"]), ("try", ["catch", "end"])]
structure Tab (P : Program) (w : World) (K : PySem.W.Frag) (c : Addr) (ad : Str → Addr) (tb : List (Str × List Str)) : Prop where
  d : KDct P w K c (tb.map fun p => (.inr p.1, V.ref (ad p.1)))
  s : ∀ p ∈ tb, ∀ H : Hp, SqT K H (ad p.1) (p.2.map V.str)
structure Glb (P : Program) (w : World) (K : PySem.W.Frag) (mg : Str → Option Value) (t : Adr) : Prop where
  g_EXPRESSIONS : mg "EXPRESSIONS" = some (.ref t.cEXPRESSIONS)
  t_EXPRESSIONS : Tab P w K t.cEXPRESSIONS (t.ad "e") exprs
  g_STATEMENTS : mg "STATEMENTS" = some (.ref t.cSTATEMENTS)
  t_STATEMENTS : Tab P w K t.cSTATEMENTS (t.ad "s") stats
  g_JOINTS : mg "JOINTS" = some (.ref t.cJOINTS)
  t_JOINTS : Tab P w K t.cJOINTS (t.ad "j") joints
theorem sc_show_program : FnScope ["program", "kinds", "deeds", "run", "rows", "kind", "deed", "params", "block"] ["program"] (defScope (top 4)) := ⟨rfl, rfl, rfl, by decide +kernel, rfl, by decide +kernel, by decide +kernel⟩
theorem sc_show_kind : FnScope ["row", "kind", "elders", "fields"] ["row"] (defScope (top 5)) := ⟨rfl, rfl, rfl, by decide +kernel, rfl, by decide +kernel, by decide +kernel⟩
theorem sc_show_body : FnScope ["first", "block"] ["first", "block"] (defScope (top 6)) := ⟨rfl, rfl, rfl, by decide +kernel, rfl, by decide +kernel, by decide +kernel⟩
theorem sc_show_block : FnScope ["block", "rows", "statement"] ["block"] (defScope (top 7)) := ⟨rfl, rfl, rfl, by decide +kernel, rfl, by decide +kernel, by decide +kernel⟩
theorem sc_show_statement : FnScope ["statement", "word", "rows", "joints", "form", "part"] ["statement"] (defScope (top 8)) := ⟨rfl, rfl, rfl, by decide +kernel, rfl, by decide +kernel, by decide +kernel⟩
theorem sc_show_part : FnScope ["form", "part"] ["form", "part"] (defScope (top 9)) := ⟨rfl, rfl, rfl, by decide +kernel, rfl, by decide +kernel, by decide +kernel⟩
theorem sc_show_parts : FnScope ["forms", "parts", "words", "form", "part"] ["forms", "parts"] (defScope (top 10)) := ⟨rfl, rfl, rfl, by decide +kernel, rfl, by decide +kernel, by decide +kernel⟩
theorem sc_show_expression : FnScope ["expression"] ["expression"] (defScope (top 11)) := ⟨rfl, rfl, rfl, by decide +kernel, rfl, by decide +kernel, by decide +kernel⟩
theorem sc__law_cell : FnScope ["_law_script", "_law_k", "_law_state", "_law_cell_here"] ["_law_script", "_law_k"] (defScope (top 13)) := ⟨rfl, rfl, rfl, by decide +kernel, rfl, by decide +kernel, by decide +kernel⟩
theorem sc__law_purse : FnScope ["_law_cell_here", "_law_digits"] ["_law_cell_here"] (defScope (top 14)) := ⟨rfl, rfl, rfl, by decide +kernel, rfl, by decide +kernel, by decide +kernel⟩
theorem sc__law_take : FnScope ["_law_purse_here", "_law_many", "_law_state", "_law_taken"] ["_law_purse_here", "_law_many"] (defScope (top 15)) := ⟨rfl, rfl, rfl, by decide +kernel, rfl, by decide +kernel, by decide +kernel⟩
theorem sc__law_word : FnScope ["_law_purse_here", "_law_used", "_law_menu", "_law_word_here", "_law_k", "_law_first"] ["_law_purse_here", "_law_used"] (defScope (top 16)) := ⟨rfl, rfl, rfl, by decide +kernel, rfl, by decide +kernel, by decide +kernel⟩
theorem sc__law_words : FnScope ["_law_purse_here", "_law_many", "_law_used", "_law_words_here", "_law_k"] ["_law_purse_here", "_law_many", "_law_used"] (defScope (top 17)) := ⟨rfl, rfl, rfl, by decide +kernel, rfl, by decide +kernel, by decide +kernel⟩
theorem sc__law_merge : FnScope ["_law_kind", "_law_rows", "_law_order", "_law_good"] ["_law_kind", "_law_rows"] (defScope (top 18)) := ⟨rfl, rfl, rfl, by decide +kernel, rfl, by decide +kernel, by decide +kernel⟩
theorem sc__law_some : FnScope ["_law_purse_here", "_law_menu", "_law_most", "_law_some_here", "_law_k", "_law_one"] ["_law_purse_here", "_law_menu", "_law_most"] (defScope (top 19)) := ⟨rfl, rfl, rfl, by decide +kernel, rfl, by decide +kernel, by decide +kernel⟩
theorem sc__law_kinds : FnScope ["_law_purse_here", "_law_many", "_law_used", "_law_fields", "_law_names", "_law_kinds_here", "_law_orders", "_law_k", "_law_kind", "_law_elders", "_law_order", "_law_turn"] ["_law_purse_here", "_law_many", "_law_used", "_law_fields"] (defScope (top 20)) := ⟨rfl, rfl, rfl, by decide +kernel, rfl, by decide +kernel, by decide +kernel⟩
theorem sc__law_e : FnScope ["_law_purse_here", "_law_deep", "_law_tools", "_law_kinds_here", "_law_words_here", "_law_pick", "_law_word_here", "_law_number", "_law_kind", "_law_args", "_law_one"] ["_law_purse_here", "_law_deep", "_law_tools"] (defScope (top 21)) := ⟨rfl, rfl, rfl, by decide +kernel, rfl, by decide +kernel, by decide +kernel⟩
theorem sc__law_s : FnScope ["_law_purse_here", "_law_deep", "_law_room", "_law_tools", "_law_kinds_here", "_law_words_here", "_law_pick", "_law_value", "_law_word_here", "_law_one", "_law_two", "_law_kind", "_law_other", "_law_more", "_law_second"] ["_law_purse_here", "_law_deep", "_law_room", "_law_tools"] (defScope (top 22)) := ⟨rfl, rfl, rfl, by decide +kernel, rfl, by decide +kernel, by decide +kernel⟩
theorem sc__law_b : FnScope ["_law_purse_here", "_law_deep", "_law_room", "_law_tools", "_law_block", "_law_k"] ["_law_purse_here", "_law_deep", "_law_room", "_law_tools"] (defScope (top 23)) := ⟨rfl, rfl, rfl, by decide +kernel, rfl, by decide +kernel, by decide +kernel⟩
theorem sc__law_p : FnScope ["_law_purse_here", "_law_great", "_law_words_here", "_law_kinds_here", "_law_tools", "_law_deeds", "_law_keys", "_law_k", "_law_key", "_law_block"] ["_law_purse_here"] (defScope (top 24)) := ⟨rfl, rfl, rfl, by decide +kernel, rfl, by decide +kernel, by decide +kernel⟩
theorem sc__law_e_text : FnScope ["_law_part", "_law_args"] ["_law_part"] (defScope (top 25)) := ⟨rfl, rfl, rfl, by decide +kernel, rfl, by decide +kernel, by decide +kernel⟩
theorem sc__law_s_rows : FnScope ["_law_part", "_law_word_here", "_law_first"] ["_law_part"] (defScope (top 26)) := ⟨rfl, rfl, rfl, by decide +kernel, rfl, by decide +kernel, by decide +kernel⟩
theorem sc__law_b_rows : FnScope ["_law_block", "_law_rows", "_law_part"] ["_law_block"] (defScope (top 27)) := ⟨rfl, rfl, rfl, by decide +kernel, rfl, by decide +kernel, by decide +kernel⟩
theorem sc__law_text : FnScope ["_law_program", "_law_rows", "_law_row"] ["_law_program"] (defScope (top 28)) := ⟨rfl, rfl, rfl, by decide +kernel, rfl, by decide +kernel, by decide +kernel⟩
theorem sc_law : FnScope ["_law_script", "_law_k", "_law_program", "_law_text_here", "_law_told"] ["_law_script"] (defScope (top 29)) := ⟨rfl, rfl, rfl, by decide +kernel, rfl, by decide +kernel, by decide +kernel⟩
end K25
end
section
set_option autoImplicit false
namespace L2
open PySem PyProof.Rows
def heldIn (rows : List (List Str)) (x : Str) : Bool := rows.any fun o => decide (x ∈ o.drop 1)
def freeOf (rows : List (List Str)) : List Str → List Str
  | [] => []
  | x :: _ => if heldIn rows x = true then [] else [x]
def frees (rows : List (List Str)) : List Str := rows.flatMap (freeOf rows)
def outOf (x : Str) (r : List Str) : List Str := r.filter fun y => decide (y ≠ x)
def full (rows : List (List Str)) : List (List Str) := rows.filter fun r => !r.isEmpty
inductive Mg : List (List Str) → Option (List Str) → Prop where
  | nil : Mg [] (some [])
  | stuck {rows : List (List Str)} : rows ≠ [] → frees rows = [] → Mg rows none
  | step {rows : List (List Str)} {x : Str} {more : List Str} {r : Option (List Str)} : frees rows = x :: more → Mg (full (rows.map (outOf x))) r → Mg rows (r.map (x :: ·))
theorem Mg.det {rows : List (List Str)} {r : Option (List Str)} (h : Mg rows r) : ∀ {r' : Option (List Str)}, Mg rows r' → r = r' := by
  induction h with
  | nil =>
    intro r' h'
    cases h' with
    | nil => rfl
    | stuck h _ => exact absurd rfl h
    | step h _ => cases h
  | stuck h1 h2 =>
    intro r' h'
    cases h' with
    | nil => exact absurd rfl h1
    | stuck _ _ => rfl
    | step h _ => rw [h2] at h; cases h
  | step h1 _ ih =>
    intro r' h'
    cases h' with
    | nil => cases h1
    | stuck _ h => rw [h1] at h; cases h
    | step h hr =>
      rw [h1] at h
      cases h
      rw [ih hr]
def tot (rows : List (List Str)) : Nat := (rows.map List.length).sum
theorem tot_cons (r : List Str) (rows : List (List Str)) : tot (r :: rows) = r.length + tot rows := by
  unfold tot
  rw [List.map_cons, List.sum_cons]
theorem tot_full : ∀ (rows : List (List Str)), tot (full rows) = tot rows
  | [] => rfl
  | r :: rows => by
    unfold full
    rw [List.filter_cons]
    have ih := tot_full rows
    unfold full at ih
    cases r with
    | nil =>
      rw [tot_cons, ← ih]
      simp
    | cons y r => simp only [List.isEmpty_cons, Bool.not_false, if_true]; rw [tot_cons, tot_cons, ih]
theorem out_le (x : Str) (r : List Str) : (outOf x r).length ≤ r.length := List.length_filter_le _ _
theorem tot_out_le (x : Str) : ∀ (rows : List (List Str)), tot (rows.map (outOf x)) ≤ tot rows
  | [] => Nat.le_refl _
  | r :: rows => by
    rw [List.map_cons, tot_cons, tot_cons]
    have := tot_out_le x rows
    have := out_le x r
    omega
theorem tot_out_lt {x : Str} : ∀ {rows : List (List Str)}, (∃ r ∈ rows, x ∈ r) → tot (rows.map (outOf x)) < tot rows
  | [], ⟨_, h, _⟩ => nomatch h
  | r :: rows, ⟨q, hq, hx⟩ => by
    rw [List.map_cons, tot_cons, tot_cons]
    have h1 := tot_out_le x rows
    have h2 := out_le x r
    rcases List.mem_cons.mp hq with rfl | h
    · have : (outOf x q).length < q.length := by
        unfold outOf
        refine Nat.lt_of_le_of_ne (List.length_filter_le _ _) fun e => ?_
        have := List.length_filter_eq_length_iff.mp e x hx
        simp at this
      omega
    · have := tot_out_lt ⟨q, h, hx⟩
      omega
theorem frees_mem {rows : List (List Str)} {x : Str} (h : x ∈ frees rows) : ∃ r ∈ rows, r.head? = some x := by
  obtain ⟨r, hr, hx⟩ := List.mem_flatMap.mp h
  refine ⟨r, hr, ?_⟩
  cases r with
  | nil => cases hx
  | cons y r =>
    have hx : x ∈ (if heldIn rows y = true then [] else [y]) := hx
    by_cases hh : heldIn rows y = true
    · rw [if_pos hh] at hx
      cases hx
    · rw [if_neg hh] at hx
      rw [List.mem_singleton.mp hx]
      rfl
theorem tot_le_mem {rows : List (List Str)} {r : List Str} (h : r ∈ rows) : r.length ≤ tot rows := by
  induction rows with
  | nil => cases h
  | cons q rows ih =>
    rw [tot_cons]
    rcases List.mem_cons.mp h with rfl | h
    · omega
    · have := ih h
      omega
theorem full_len_le : ∀ (rows : List (List Str)), (full rows).length ≤ tot rows
  | [] => Nat.le_refl _
  | r :: rows => by
    have ih := full_len_le rows
    unfold full at ih ⊢
    rw [List.filter_cons, tot_cons]
    cases r with
    | nil => simpa using ih
    | cons y r => simp only [List.isEmpty_cons, Bool.not_false, if_true, List.length_cons]; omega
def RowsT (H : Hp) (vs : List V) (rows : List (List Str)) : Prop := Paired (fun (v : V) (r : List Str) => ∃ a, v = .ref a ∧ H a = some (.tup (r.map V.str))) vs rows
def RowsL (H : Hp) (vs : List V) (rows : List (List Str)) : Prop := Paired (fun (v : V) (r : List Str) => ∃ a, v = .ref a ∧ H a = some (.lst (r.map V.str))) vs rows
theorem RowsT.mono {H H' : Hp} {vs : List V} {rows : List (List Str)} (h : RowsT H vs rows) (s : Tups H H') : RowsT H' vs rows := Paired.mapP h fun v r ⟨a, e, q⟩ => ⟨a, e, s a _ q⟩
def RowsX (H : Hp) (D : Addr) (vs : List V) (rows : List (List Str)) : Prop := Paired (fun (v : V) (r : List Str) => ∃ a, v = .ref a ∧ a ≠ D ∧ H a = some (.lst (r.map V.str))) vs rows
theorem RowsX.l {H : Hp} {D : Addr} {vs : List V} {rows : List (List Str)} (h : RowsX H D vs rows) : RowsL H vs rows := Paired.mapP h fun v r ⟨a, e, _, q⟩ => ⟨a, e, q⟩
theorem RowsX.grow {H H' : Hp} {D : Addr} {o : HO} {vs : List V} {rows : List (List Str)} (h : RowsX H D vs rows) (s : Same H H') : RowsX (upd H' D o) D vs rows := Paired.mapP h fun v r ⟨a, e, n, q⟩ => ⟨a, e, n, by rw [upd_ne n]; exact s a _ q⟩
theorem RowsX.mono {H H' : Hp} {D : Addr} {vs : List V} {rows : List (List Str)} (h : RowsX H D vs rows) (s : Same H H') : RowsX H' D vs rows := Paired.mapP h fun v r ⟨a, e, n, q⟩ => ⟨a, e, n, s a _ q⟩
def RowsY (H : Hp) (D E : Addr) (vs : List V) (rows : List (List Str)) : Prop := Paired (fun (v : V) (r : List Str) => ∃ a, v = .ref a ∧ a ≠ D ∧ a ≠ E ∧ H a = some (.lst (r.map V.str))) vs rows
theorem RowsY.x {H : Hp} {D E : Addr} {vs : List V} {rows : List (List Str)} (h : RowsY H D E vs rows) : RowsX H E vs rows := Paired.mapP h fun v r ⟨a, e, _, n, q⟩ => ⟨a, e, n, q⟩
theorem RowsY.grow {H H' : Hp} {D E : Addr} {o : HO} {vs : List V} {rows : List (List Str)} (h : RowsY H D E vs rows) (s : Same H H') : RowsY (upd H' D o) D E vs rows := Paired.mapP h fun v r ⟨a, e, n, n', q⟩ => ⟨a, e, n, n', by rw [upd_ne n]; exact s a _ q⟩
theorem RowsY.mono {H H' : Hp} {D E : Addr} {vs : List V} {rows : List (List Str)} (h : RowsY H D E vs rows) (s : Same H H') : RowsY H' D E vs rows := Paired.mapP h fun v r ⟨a, e, n, n', q⟩ => ⟨a, e, n, n', s a _ q⟩
theorem RowsX.get {H : Hp} {D : Addr} {vs : List V} {rows : List (List Str)} (h : RowsX H D vs rows) {i : Nat} (hi : i < vs.length) : ∃ (a : Addr) (hr : i < rows.length), vs[i]? = some (.ref a) ∧ a ≠ D ∧ H a = some (.lst (rows[i].map V.str)) := by
  have hr : i < rows.length := by rw [← Paired.length h]; exact hi
  obtain ⟨a, e, n, q⟩ := paired_get h i hi hr
  exact ⟨a, hr, by rw [List.getElem?_eq_getElem hi, e], n, q⟩
theorem at0 (y : Str) (r : List Str) : atI ((y :: r).map V.str) 0 = some (.str y) := atI_nat (j := 0) rfl
theorem free_len (R : List (List Str)) : ∀ (rows : List (List Str)), (rows.flatMap (freeOf R)).length ≤ rows.length
  | [] => Nat.le_refl _
  | r :: rows => by
    rw [List.flatMap_cons, List.length_append, List.length_cons]
    have := free_len R rows
    have : (freeOf R r).length ≤ 1 := by
      cases r with
      | nil => exact Nat.zero_le _
      | cons y r =>
        show (if heldIn R y = true then [] else [y]).length ≤ 1
        split <;> simp
    omega
theorem pairedSnoc {α β : Type} {F : α → β → Prop} {as : List α} {bs : List β} {a : α} {b : β} (h : Paired F as bs) (hy : F a b) : Paired F (as ++ [a]) (bs ++ [b]) := by
  induction h with
  | nil => exact .cons hy .nil
  | cons a _ ih => exact .cons a ih
theorem RowsT.get {H : Hp} {vs : List V} {rows : List (List Str)} (h : RowsT H vs rows) {i : Nat} (hi : i < vs.length) : ∃ (a : Addr) (hr : i < rows.length), vs[i]? = some (.ref a) ∧ H a = some (.tup (rows[i].map V.str)) := by
  have hr : i < rows.length := by rw [← Paired.length h]; exact hi
  obtain ⟨a, e, q⟩ := paired_get h i hi hr
  exact ⟨a, hr, by rw [List.getElem?_eq_getElem hi, e], q⟩
theorem take_snoc {α : Type} {l : List α} {i : Nat} (h : i < l.length) : l.take (i + 1) = l.take i ++ [l[i]] := by
  rw [List.take_succ, List.getElem?_eq_getElem h]
  rfl
theorem full_snoc (rows : List (List Str)) (r : List Str) : full (rows ++ [r]) = full rows ++ (if r.isEmpty = true then [] else [r]) := by
  unfold full
  rw [List.filter_append]
  congr 1
  cases r <;> rfl
theorem yes_by {σ : L2.St} {H : Hp} {A B : Hp → Prop} (h : A H) : tYes σ H (fun b H3 => if b = true then A H3 else B H3) := by
  show (if true = true then A H else B H)
  rw [if_pos rfl]
  exact h
def ResM (H : Hp) (x : Str) (r : Option (List Str)) (v : V) : Prop := match r with
  | none => v = .non
  | some os => ∃ q, v = .ref q ∧ H q = some (.tup ((x :: os).map V.str))
theorem cut1 (r : List Str) : cutV (r.map V.str) (some 1) none = (r.drop 1).map V.str := by
  unfold cutV
  rw [List.length_map]
  have e1 : HT.sIx r.length 0 (some 1) = min 1 r.length := HT.sIx_nat r.length 0 1
  have e2 : HT.sIx r.length r.length none = r.length := rfl
  rw [e1, e2, ← List.map_drop, ← List.map_take]
  congr 1
  cases r with
  | nil => rfl
  | cons y r =>
    have : min 1 (y :: r).length = 1 := by simp
    rw [this]
    exact List.take_of_length_le (by simp)
end L2
end
section
set_option autoImplicit false
namespace K25
open PySem PyProof.Rows L2
section
variable {P : Program} {w : World} {K : PySem.W.Frag} {mg : Str → Option Value} {base : Heap} {t : Adr}
def spMerge : Sp := fun vs H Q _ => ∃ (x : Str) (rl : Addr) (us : List V) (rows : List (List Str)), vs = [.str x, .ref rl] ∧ H rl = some (.lst us) ∧ RowsT H us rows ∧ tot rows ≤ 1000 ∧ rows.length ≤ 1000 ∧
  ∀ (v : V) (r : Option (List Str)) H', Mg (full rows) r → ResM H' x r v → Same H H' → Q v H'
theorem ok_merge (D : Defs K mg t) : FnOk P w K mg base CX0 1 t._law_merge.1 t._law_merge.2 ["_law_kind", "_law_rows"] spMerge := by
  have hz : sizeLine = 16777216 := sizeLine_eq
  refine D._law_merge.fn.ok sc__law_merge (fun vs H Q E h => ?_) (fun cdv A outer s H vs Q E hr h => ?_)
  · obtain ⟨x, rl, us, rows, rfl, _⟩ := h
    rfl
  · obtain ⟨x, rl, us, rows, rfl, hrl, rt, htot, hlen, k⟩ := h
    have hul : us.length = rows.length := Paired.length rt
    refine ⟨_, (pss_cons (ps_set (i := 2) sc__law_merge.nd rfl (Or.inl rfl) (pe_lst (pa_cons (pv 0) pa_nil)))
      (pss_cons (ps_set (i := 1) sc__law_merge.nd rfl (Or.inr rfl) (pe_comp rfl (CompScope.of ["_law_row"] [] ["_law_row"] (defScope (top 18)) ["_law_kind", "_law_rows", "_law_order", "_law_good"] rfl rfl (by decide +kernel)) ⟨fun _ _ _ _ _ => (pg_name (i := 0) (show List.Nodup [("_law_row" : Str)] by decide +kernel) rfl (Or.inl (lookup_relabel_local rfl)) (.inr (lookup_relabel_local rfl))), fun _ _ _ _ _ => (pts_one (pt_cmpR op_gt (pe_callB (call_len_seqK (K := K) rfl) (by rfl) D.b_len bt_len (pa_cons (pv 0) pa_nil)) pe_int (nomark _))), fun _ _ _ _ _ => (pe_callTy (call_list_ofK (K := K) rfl) (by rfl) D.b_list bt_list (pa_cons (pv 0) pa_nil))⟩ (pi_list (pv 1))))
      (pss_cons (ps_while PassesOwn.never (pt_cmpR (op_neE rfl hr.units0) (pv 1) (pe_lst pa_nil) (nomark _))
      (pss_cons (ps_set (i := 3) sc__law_merge.nd rfl (Or.inr rfl) (pe_comp rfl (CompScope.of ["_law_row"] [1] ["_law_row", "_law_rows"] (defScope (top 18)) ["_law_kind", "_law_rows", "_law_order", "_law_good"] rfl rfl (by decide +kernel)) ⟨fun _ _ _ _ _ => (pg_name (i := 0) (show List.Nodup [("_law_row" : Str), ("_law_rows" : Str)] by decide +kernel) rfl (Or.inr (lookup_relabel_cell rfl)) (.inl rfl)), fun _ _ _ _ _ => (pts_one (pt_not (pt_val (pe_callB (call_any_K (K := K) rfl rfl) (by rfl) D.b_any bt_any (pa_cons (pe_comp rfl (CompScope.of2 ["_law_other"] [0] ["_law_other", "_law_row"] ["_law_row", "_law_rows"] rfl rfl (by decide +kernel)) ⟨fun _ _ _ _ _ => (pg_name (i := 0) (show List.Nodup [("_law_other" : Str), ("_law_row" : Str)] by decide +kernel) rfl (Or.inl (lookup_relabel_local rfl)) (.inr (lookup_relabel_local rfl))), fun _ _ _ _ _ => pts_nil, fun _ _ _ _ _ => (pe_cmpR (op_in_K (K := K) rfl) (pe_ix (ix_list_K (K := K) rfl) (pv 1) pe_int (fun _ _ => rfl)) (pe_slice (sl_list_K (K := K) rfl) (pv 0) (po_some pe_int) po_none) (by with_unfolding_all rfl))⟩ (pi_list_K (K := K) rfl (pv 1))) pa_nil))))), fun _ _ _ _ _ => (pe_ix (ix_list_K (K := K) rfl) (pv 0) pe_int (fun _ _ => rfl))⟩ (pi_list (pv 1))))
      (pss_cons (ps_if (pt_cmpR (op_eqE rfl hr.units0) (pv 3) (pe_lst pa_nil) (nomark _))
      (pss_one (ps_ret pe_non))
      pss_nil)
      (pss_cons (ps_expr (pe_bm PySem.F.plainAttrs_list PySem.F.slot_list_append PySem.F.type_list_append mt_append (pv 2) (pa_cons (pe_ix ix_list (pv 3) pe_int (fun _ _ => rfl)) pa_nil)))
      (pss_cons (ps_set (i := 1) sc__law_merge.nd rfl (Or.inr rfl) (pe_comp rfl (CompScope.of ["_law_row"] [3] ["_law_row", "_law_good"] (defScope (top 18)) ["_law_kind", "_law_rows", "_law_order", "_law_good"] rfl rfl (by decide +kernel)) ⟨fun _ _ _ _ _ => (pg_name (i := 0) (show List.Nodup [("_law_row" : Str), ("_law_good" : Str)] by decide +kernel) rfl (Or.inl (lookup_relabel_local rfl)) (.inr (lookup_relabel_local rfl))), fun _ _ _ _ _ => pts_nil, fun _ _ _ _ _ => (pe_comp rfl (CompScope.of2 ["_law_one"] [1] ["_law_one", "_law_good"] ["_law_row", "_law_good"] rfl rfl (by decide +kernel)) ⟨fun _ _ _ _ _ => (pg_name (i := 0) (show List.Nodup [("_law_one" : Str), ("_law_good" : Str)] by decide +kernel) rfl (Or.inl (lookup_relabel_local rfl)) (.inr (lookup_relabel_local rfl))), fun _ _ _ _ _ => (pts_one (pt_cmpR op_ne (pv 0) (pe_ix (ix_list_K (K := K) rfl) (pv 1) pe_int (fun _ _ => rfl)) (nomark _))), fun _ _ _ _ _ => (pv 0)⟩ (pi_list_K (K := K) rfl (pv 0)))⟩ (pi_list (pv 1))))
      (pss_one (ps_set (i := 1) sc__law_merge.nd rfl (Or.inr rfl) (pe_comp rfl (CompScope.of ["_law_row"] [] ["_law_row"] (defScope (top 18)) ["_law_kind", "_law_rows", "_law_order", "_law_good"] rfl rfl (by decide +kernel)) ⟨fun _ _ _ _ _ => (pg_name (i := 0) (show List.Nodup [("_law_row" : Str)] by decide +kernel) rfl (Or.inl (lookup_relabel_local rfl)) (.inr (lookup_relabel_local rfl))), fun _ _ _ _ _ => (pts_one (pt_cmpR (op_neE (K := K) rfl hr.units0) (pv 0) (pe_lst pa_nil) (nomark _))), fun _ _ _ _ _ => (pv 0)⟩ (pi_list (pv 1))))))))))
      (pss_one (ps_ret (pe_callTy call_tuple_of (by rfl) D.b_tuple bt_tuple (pa_cons (pv 2) pa_nil))))))), ?_⟩
    refine ⟨_, rfl, by show 1 ≤ sizeLine; decide, fun ol hol => ?_⟩
    have s0 : Same H (upd H ol (.lst [.str x])) := Same.new hol
    refine ⟨_, rfl, rl, rfl, ⟨_, SqL.of (s0 rl _ hrl)⟩, fun D1 hD1 => ?_⟩
    have olD1 : ol ≠ D1 := ne_of_none upd_same hD1
    have hD1H : H D1 = none := by rw [upd_ne olD1.symm] at hD1; exact hD1
    refine comp_by (n := us.length) (fun i ys H2 => H2 D1 = some (.lst ys) ∧ RowsY H2 D1 ol ys (full (rows.take i)) ∧ H2 ol = some (.lst [.str x]) ∧ Same H H2)
      ⟨upd_same, .nil, by rw [upd_ne olD1, upd_same], s0.trans (Same.new hD1)⟩ ?_ ?_
    · rintro ys H2 ⟨hD2, rl2, hol2, sm2⟩
      rw [List.take_of_length_le (by omega)] at rl2
      refine ⟨⟨_, SqL.of (sm2 rl _ hrl), Nat.le_refl _⟩, ?_⟩
      refine ⟨fun m σ H3 => ∃ (zs : List V) (rows3 : List (List Str)) (os : List Str) (r3 : Addr) (v3 : Option V), σ = [some (.str x), some (.ref r3), some (.ref ol), v3] ∧ H3 r3 = some (.lst zs) ∧ RowsX H3 ol zs rows3 ∧ r3 ≠ ol ∧ full rows3 = rows3 ∧ H3 ol = some (.lst ((x :: os).map V.str)) ∧ m = tot rows3 ∧ os.length + tot rows3 ≤ 1000 ∧
        (∀ r, Mg rows3 r → Mg (full rows) (r.map (os ++ ·))) ∧ Same H H3, ⟨_, ys, full rows, [], D1, _, rfl, hD2, rl2.x, olD1.symm, ?_, hol2, rfl, by rw [tot_full]; show 0 + _ ≤ _; omega, fun r h => ?_, sm2⟩, ?_⟩
      · unfold full
        rw [List.filter_filter]
        simp
      · have : r.map (([] : List Str) ++ ·) = r := by cases r <;> rfl
        rw [this]
        exact h
      rintro m σ H3 ⟨zs, rows3, os, r3, v3, rfl, hr3, rl3, r3o, hf3, hol3, rfl, hb3, mg3, sm3⟩
      have hzl : zs.length = rows3.length := Paired.length rl3
      have hrl3 : rows3.length ≤ tot rows3 := by have := full_len_le rows3; rwa [hf3] at this
      refine ⟨_, rfl, Nat.zero_le _, fun e0 he0 => ⟨r3, e0, zs, rfl, rfl, SqL.of (by rw [upd_ne (ne_of_none hr3 he0)]; exact hr3), SqL.of upd_same, _, rfl, ?_⟩⟩
      have s4 : Same H3 (upd H3 e0 (.lst [])) := Same.new he0
      cases hzs : zs with
      | nil =>
        subst hzs
        have e3 : rows3 = [] := by
          cases rows3 with
          | nil => rfl
          | cons _ _ => rw [List.length_nil, List.length_cons] at hzl; omega
        subst e3
        refine iteF ⟨_, rfl, ol, _, rfl, .inl ⟨SqL.of (s4 ol _ hol3), fun q hq => ?_⟩⟩
        refine k (.ref q) (some os) _ ?_ ⟨q, rfl, upd_same⟩ ((sm3.trans s4).trans (Same.new hq))
        have := mg3 _ .nil
        simpa using this
      | cons z0 zr =>
        have hne : rows3 ≠ [] := fun e => by rw [e, hzs] at hzl; simp at hzl
        rw [← hzs]
        have hb : (!zs.isEmpty) = true := by rw [hzs]; rfl
        rw [hb]
        clear hzs hb z0 zr
        refine iteT ⟨fun σ' H' => ∃ m', m' < tot rows3 ∧ ∃ (zs : List V) (rows3 : List (List Str)) (os : List Str) (r3 : Addr) (v3 : Option V), σ' = [some (.str x), some (.ref r3), some (.ref ol), v3] ∧ H' r3 = some (.lst zs) ∧ RowsX H' ol zs rows3 ∧ r3 ≠ ol ∧ full rows3 = rows3 ∧ H' ol = some (.lst ((x :: os).map V.str)) ∧ m' = tot rows3 ∧ os.length + tot rows3 ≤ 1000 ∧
          (∀ r, Mg rows3 r → Mg (full rows) (r.map (os ++ ·))) ∧ Same H H', fun σ' H' h => h, ?_⟩
        have hnz : ∀ r ∈ rows3, ∃ y r', r = y :: r' := fun r hr => by
          rw [← hf3] at hr
          have := (List.mem_filter.mp hr).2
          cases r with
          | nil => cases this
          | cons y r' => exact ⟨y, r', rfl⟩
        generalize upd H3 e0 (.lst []) = H4 at s4
        have rl4 := rl3.mono s4
        have hr4 := s4 r3 _ hr3
        refine ⟨_, rfl, r3, rfl, ⟨_, SqL.of hr4⟩, fun D2 hD2 => ?_⟩
        refine comp_by (n := zs.length) (fun i ys H5 => ys = ((rows3.take i).flatMap (freeOf rows3)).map V.str ∧ H5 D2 = some (.lst ys) ∧ Same H4 H5) ⟨rfl, upd_same, Same.new hD2⟩ ?_ ?_
        · rintro ys' H5 ⟨rfl, hD5, sm5⟩
          rw [List.take_of_length_le (by omega)] at hD5
          refine ⟨⟨_, SqL.of (sm5 r3 _ hr4), Nat.le_refl _⟩, ?_⟩
          have hD5 : H5 D2 = some (.lst ((frees rows3).map V.str)) := hD5
          refine ⟨_, rfl, Nat.zero_le _, fun e1 he1 => ⟨D2, e1, _, rfl, rfl, SqL.of (by rw [upd_ne (ne_of_none hD5 he1)]; exact hD5), SqL.of upd_same, _, rfl, ?_⟩⟩
          have s6 : Same H5 (upd H5 e1 (.lst [])) := Same.new he1
          generalize upd H5 e1 (.lst []) = H6 at s6
          have sm6 : Same H4 H6 := sm5.trans s6
          have hD6 := s6 D2 _ hD5
          cases hfr : frees rows3 with
          | nil =>
            refine iteT ?_
            have := mg3 none (.stuck hne hfr)
            exact k .non none H6 this rfl ((sm3.trans s4).trans sm6)
          | cons x1 more =>
            rw [hfr] at hD6
            refine iteF ?_
            have hx1 : x1 ∈ frees rows3 := by rw [hfr]; exact List.mem_cons_self
            obtain ⟨r1, hr1, hh1⟩ := frees_mem hx1
            have hx1r : x1 ∈ r1 := by
              cases r1 with
              | nil => cases hh1
              | cons y r' =>
                cases hh1
                exact List.mem_cons_self
            have hol6 := sm6 ol _ (s4 ol _ hol3)
            have hr6 := sm6 r3 _ hr4
            refine ⟨_, rfl, .inl ⟨rfl, _, SqL.of hol6⟩, _, rfl, D2, _, _, _, rfl, rfl, SqL.of hD6, at0 x1 more, ol, _, .str x1, rfl, rfl, hol6, by rw [List.length_map, List.length_cons]; omega, ?_⟩
            have eol : (x :: os).map V.str ++ [V.str x1] = (x :: (os ++ [x1])).map V.str := by rw [List.map_cons, List.map_cons, List.map_append]; rfl
            rw [eol]
            have oD : ol ≠ D2 := fun e => by
              have h1 := hD2
              rw [← e, s4 ol _ hol3] at h1
              cases h1
            have kp7 : ∀ b u, b ≠ ol → H6 b = some u → (upd H6 ol (.lst ((x :: (os ++ [x1])).map V.str))) b = some u := fun b u hb e => by rw [upd_ne hb]; exact e
            have sm7 : Same H (upd H6 ol (.lst ((x :: (os ++ [x1])).map V.str))) := fun b u e => kp7 b u (ne_of_none e hol) (sm6 b u (s4 b u (sm3 b u e)))
            have rl7 : ∀ i (hi : i < zs.length), ∃ (a : Addr) (hr : i < rows3.length), zs[i]? = some (.ref a) ∧ (upd H6 ol (.lst ((x :: (os ++ [x1])).map V.str))) a = some (.lst (rows3[i].map V.str)) := fun i hi => by
              obtain ⟨a, hr', e, n, q⟩ := (rl4.mono sm6).get hi
              exact ⟨a, hr', e, kp7 a _ n q⟩
            have hol7 : (upd H6 ol (.lst ((x :: (os ++ [x1])).map V.str))) ol = some (.lst ((x :: (os ++ [x1])).map V.str)) := upd_same
            have hr7 := kp7 r3 _ r3o hr6
            have hD7 := kp7 D2 _ oD.symm hD6
            generalize upd H6 ol (.lst ((x :: (os ++ [x1])).map V.str)) = H7 at kp7 sm7 rl7 hol7 hr7 hD7
            have hlt := tot_out_lt (x := x1) ⟨r1, hr1, hx1r⟩
            refine ⟨_, rfl, r3, rfl, ⟨_, SqL.of hr7⟩, fun D4 hD4 => ?_⟩
            refine comp_by (n := zs.length) (fun i ys H8 => H8 D4 = some (.lst ys) ∧ RowsY H8 D4 ol ys ((rows3.take i).map (outOf x1)) ∧ Same H7 H8) ⟨upd_same, .nil, Same.new hD4⟩ ?_ ?_
            · rintro ys8 H8 ⟨hD8, ry8, sm8⟩
              rw [List.take_of_length_le (by omega)] at ry8
              refine ⟨⟨_, SqL.of (sm8 r3 _ hr7), Nat.le_refl _⟩, ?_⟩
              have hy8 : ys8.length = rows3.length := by rw [Paired.length ry8, List.length_map]
              refine ⟨_, rfl, D4, rfl, ⟨_, SqL.of hD8⟩, fun D6 hD6' => ?_⟩
              have rx8 := ry8.x
              refine comp_by (n := ys8.length) (fun i ys H9 => H9 D6 = some (.lst ys) ∧ RowsY H9 D6 ol ys (full ((rows3.map (outOf x1)).take i)) ∧ Same H8 H9) ⟨upd_same, .nil, Same.new hD6'⟩ ?_ ?_
              · rintro ys9 H9 ⟨hD9, ry9, sm9⟩
                rw [List.take_of_length_le (by rw [List.length_map]; omega)] at ry9
                refine ⟨⟨_, SqL.of (sm9 D4 _ hD8), Nat.le_refl _⟩, ?_⟩
                have sm89 := sm8.trans sm9
                refine ⟨tot (full (rows3.map (outOf x1))), by rw [tot_full]; exact hlt, ys9, full (rows3.map (outOf x1)), os ++ [x1], D6, _, rfl, hD9, ry9.x, ?_, ?_, sm89 ol _ hol7, rfl, ?_, fun r h => ?_, sm7.trans sm89⟩
                · intro e
                  rw [e] at hD9
                  rw [sm89 ol _ hol7] at hD9
                  injection hD9 with hD9
                  injection hD9 with hD9
                  cases ys9 with
                  | nil => cases hD9
                  | cons y9 _ =>
                    obtain ⟨a9, _, e9, _⟩ := ry9.x.get (i := 0) (by simp)
                    injection hD9 with h9 _
                    rw [← h9] at e9
                    cases e9
                · unfold full
                  rw [List.filter_filter]
                  simp
                · rw [tot_full, List.length_append, List.length_singleton]
                  omega
                · have h1 := mg3 _ (.step hfr h)
                  rw [Option.map_map] at h1
                  have : ((fun x => os ++ x) ∘ fun x => x1 :: x) = fun x => os ++ [x1] ++ x := by
                    funext z
                    simp
                  rw [this] at h1
                  exact h1
              · rintro i ys9 H9 hi ⟨hD9, ry9, sm9⟩
                obtain ⟨a, hir, ea, _, ha⟩ := (rx8.mono sm9).get hi
                refine ⟨⟨_, _, SqL.of (sm9 D4 _ hD8), ea⟩, ?_⟩
                rintro yv H10 ⟨rfl, yy⟩ σo ho
                obtain ⟨oo, rfl⟩ := own1 ho
                have ey := yy _ (SqL.of (sm9 D4 _ hD8))
                rw [ea] at ey
                cases ey
                have hys : ys9.length ≤ 1000 := by
                  rw [Paired.length ry9]
                  refine Nat.le_trans (List.length_filter_le _ _) ?_
                  rw [List.length_take, List.length_map]
                  omega
                refine ⟨⟨[_], rfl, rfl⟩, _, rfl, Nat.zero_le _, fun e2 he2 => ⟨a, e2, _, rfl, rfl, SqL.of (by rw [upd_ne (ne_of_none ha he2)]; exact ha), SqL.of upd_same, _, rfl, ?_⟩⟩
                have s10 : Same H10 (upd H10 e2 (.lst [])) := Same.new he2
                have hb : (!(((rows3.map (outOf x1))[i]).map V.str).isEmpty) = !((rows3.map (outOf x1))[i]).isEmpty := by
                  cases (rows3.map (outOf x1))[i] <;> rfl
                rw [hb]
                cases he : ((rows3.map (outOf x1))[i]).isEmpty with
                | true =>
                  refine iteF (less_by hi ⟨s10 D6 _ hD9, ?_, sm9.trans s10⟩)
                  rw [take_snoc hir, full_snoc, if_pos he, List.append_nil]
                  exact ry9.mono s10
                | false =>
                  have aD6 : a ≠ D6 := fun e => by
                    have := hD6'
                    obtain ⟨a', _, ea', _, ha'⟩ := rx8.get hi
                    rw [ea] at ea'
                    cases ea'
                    rw [← e, ha'] at this
                    cases this
                  have ao : a ≠ ol := by
                    obtain ⟨a', _, ea', n', _⟩ := rx8.get hi
                    rw [ea] at ea'
                    cases ea'
                    exact n'
                  refine iteT ⟨_, rfl, by omega, s10 D6 _ hD9, less_by hi ⟨upd_same, ?_, fun b u e => ?_⟩⟩
                  · rw [take_snoc hir, full_snoc, if_neg (by rw [he]; exact Bool.false_ne_true)]
                    exact pairedSnoc (ry9.grow s10) ⟨a, rfl, aD6, ao, by rw [upd_ne aD6]; exact s10 a _ ha⟩
                  · rw [upd_ne (ne_of_none e hD6')]
                    exact s10 b _ (sm9 b _ e)
            · rintro i ys8 H8 hi ⟨hD8, ry8, sm8⟩
              obtain ⟨a, hir, ea, ha⟩ := rl7 i hi
              have ha8 := sm8 a _ ha
              refine ⟨⟨_, _, SqL.of (sm8 r3 _ hr7), ea⟩, ?_⟩
              rintro yv H9 ⟨rfl, yy⟩ σo ho
              obtain ⟨oo, rfl⟩ := own1 ho
              have ey := yy _ (SqL.of (sm8 r3 _ hr7))
              rw [ea] at ey
              cases ey
              have hys : ys8.length ≤ 1000 := by
                rw [Paired.length ry8, List.length_map, List.length_take]
                omega
              refine ⟨⟨[_], rfl, rfl⟩, yes_by ⟨_, rfl, a, rfl, ⟨_, SqL.of ha8⟩, fun D5 hD5' => ?_⟩⟩
              have s9 : ∀ o, Same H9 (upd H9 D5 o) := fun o => Same.new hD5'
              have D54 : D5 ≠ D4 := fun e => by rw [e, hD8] at hD5'; cases hD5'
              have D5o : D5 ≠ ol := fun e => by rw [e, sm8 ol _ hol7] at hD5'; cases hD5'
              have hrl1 : (rows3[i]).length ≤ 1000 := by
                have := tot_le_mem (List.getElem_mem hir)
                omega
              refine comp_by (n := ((rows3[i]).map V.str).length) (fun j ys5 H10 => ys5 = (outOf x1 ((rows3[i]).take j)).map V.str ∧ H10 = upd H9 D5 (.lst ys5)) ⟨rfl, rfl⟩ ?_ ?_
              · rintro ys5 H10 ⟨rfl, rfl⟩
                rw [List.take_of_length_le (by rw [List.length_map]; exact Nat.le_refl _)]
                refine ⟨⟨_, SqL.of (s9 _ a _ ha8), Nat.le_refl _⟩, by omega, s9 _ D4 _ hD8, less_by hi ⟨upd_same, ?_, fun b u e => ?_⟩⟩
                · rw [take_snoc hir, List.map_append]
                  exact pairedSnoc (ry8.grow (s9 _)) ⟨D5, rfl, D54, D5o, by rw [upd_ne D54, upd_same]⟩
                · rw [upd_ne (ne_of_none e hD4)]
                  exact s9 _ b _ (sm8 b _ e)
              · rintro j ys5 H10 hj ⟨rfl, rfl⟩
                have hj' : j < (rows3[i]).length := by rw [List.length_map] at hj; exact hj
                have ej : ((rows3[i]).map V.str)[j]? = some (.str (rows3[i])[j]) := by rw [List.getElem?_map, List.getElem?_eq_getElem hj']; rfl
                refine ⟨⟨_, _, SqL.of (s9 _ a _ ha8), ej⟩, ?_⟩
                rintro y5 H11 ⟨rfl, yy⟩ σo5 ho5
                obtain ⟨o5, rfl⟩ := own1 ho5
                have ey := yy _ (SqL.of (s9 _ a _ ha8))
                rw [ej] at ey
                cases ey
                have eout : outOf x1 ((rows3[i]).take (j + 1)) = outOf x1 ((rows3[i]).take j) ++ (if decide ((rows3[i])[j] ≠ x1) = true then [(rows3[i])[j]] else []) := by
                  unfold outOf
                  rw [take_snoc hj', List.filter_append]
                  congr 1
                  rw [List.filter_cons]
                  rfl
                have hl5 : ((outOf x1 ((rows3[i]).take j)).map V.str).length ≤ 1000 := by
                  rw [List.length_map]
                  have h1 := out_le x1 ((rows3[i]).take j)
                  rw [List.length_take] at h1
                  omega
                refine ⟨⟨[_], rfl, rfl⟩, _, rfl, _, rfl, D2, _, _, _, rfl, rfl, SqL.of (s9 _ D2 _ (sm8 D2 _ hD7)), at0 x1 more, rfl, _, rfl, ite2 (fun hb => ?_) (fun hb => ?_)⟩
                · have hb : (rows3[i])[j] ≠ x1 := by
                    intro e
                    rw [e] at hb
                    simp at hb
                  refine ⟨_, rfl, by omega, upd_same, less_by hj ⟨?_, by rw [upd_upd]⟩⟩
                  rw [eout, if_pos (decide_eq_true hb), List.map_append]
                  rfl
                · have hb : (rows3[i])[j] = x1 := Classical.byContradiction fun e => hb (by
                    show (!decide (V.str (rows3[i])[j] = V.str x1)) = true
                    rw [decide_eq_false (by intro z; injection z with z; exact e z)]
                    rfl)
                  refine less_by hj ⟨?_, rfl⟩
                  rw [eout, if_neg (by simpa using hb), List.append_nil]
        · rintro i ys' H5 hi ⟨rfl, hD5, sm5⟩
          obtain ⟨a, hir, ea, _, ha⟩ := (rl4.mono sm5).get hi
          obtain ⟨y0, r0, er0⟩ := hnz rows3[i] (List.getElem_mem hir)
          rw [er0] at ha
          refine ⟨⟨_, _, SqL.of (sm5 r3 _ hr4), ea⟩, ?_⟩
          rintro yv H6 ⟨rfl, yy⟩ σo ho
          obtain ⟨oo, rfl⟩ := own1 ho
          have ey := yy _ (SqL.of (sm5 r3 _ hr4))
          rw [ea] at ey
          cases ey
          refine ⟨⟨[_], rfl, rfl⟩, _, rfl, r3, rfl, ⟨_, SqL.of (sm5 r3 _ hr4)⟩, fun D3 hD3 => ?_⟩
          refine comp_by (n := zs.length) (fun i3 bs H7 => bs = ((rows3.take i3).map fun o => decide (y0 ∈ o.drop 1)).map V.bl ∧ H7 D3 = some (.lst bs) ∧ Same H6 H7) ⟨rfl, upd_same, Same.new hD3⟩ ?_ ?_
          · rintro bs H7 ⟨rfl, hD7, sm7⟩
            rw [List.take_of_length_le (by omega)] at hD7
            refine ⟨⟨_, SqL.of (sm7 r3 _ (sm5 r3 _ hr4)), Nat.le_refl _⟩, D3, _, rfl, SqL.of hD7, _, rfl, ?_⟩
            have eany : (rows3.map fun o => decide (y0 ∈ o.drop 1)).any id = heldIn rows3 y0 := by
              unfold heldIn
              rw [List.any_map]
              rfl
            rw [eany]
            have efr : ((rows3.take (i + 1)).flatMap (freeOf rows3)) = ((rows3.take i).flatMap (freeOf rows3)) ++ (if heldIn rows3 y0 = true then [] else [y0]) := by
              rw [take_snoc hir, List.flatMap_append, List.flatMap_singleton, er0]
              rfl
            have hlen : (((rows3.take i).flatMap (freeOf rows3)).map V.str).length ≤ 1000 := by
              rw [List.length_map]
              have h1 := free_len rows3 (rows3.take i)
              rw [List.length_take] at h1
              omega
            cases hh : heldIn rows3 y0 with
            | true =>
              refine iteF (less_by hi ⟨?_, sm7 D2 _ hD5, sm5.trans sm7⟩)
              rw [efr, hh, if_pos rfl, List.append_nil]
            | false =>
              refine iteT ⟨_, rfl, a, _, _, _, rfl, rfl, SqL.of (sm7 a _ ha), at0 y0 r0, by omega, sm7 D2 _ hD5, less_by hi ⟨?_, upd_same, fun b u e => ?_⟩⟩
              · rw [efr, hh, if_neg Bool.false_ne_true, List.map_append]
                rfl
              · rw [upd_ne (ne_of_none e hD2)]
                exact sm7 b _ (sm5 b _ e)
          · rintro i3 bs H7 hi3 ⟨rfl, hD7, sm7⟩
            obtain ⟨a3, hir3, ea3, _, ha3⟩ := ((rl4.mono sm5).mono sm7).get hi3
            refine ⟨⟨_, _, SqL.of (sm7 r3 _ (sm5 r3 _ hr4)), ea3⟩, ?_⟩
            rintro y3 H8 ⟨rfl, yy⟩ σo3 ho3
            obtain ⟨o3, rfl⟩ := own1 ho3
            have ey := yy _ (SqL.of (sm7 r3 _ (sm5 r3 _ hr4)))
            rw [ea3] at ey
            cases ey
            refine ⟨⟨[_], rfl, rfl⟩, yes_by ⟨_, rfl, a, _, _, _, rfl, rfl, SqL.of (sm7 a _ ha), at0 y0 r0, _, rfl, _, rfl, a3, _, rfl, SqL.of ha3, fun q hq => ⟨q, _, rfl, .inl (SqL.of upd_same), rfl, by rw [cut1]; exact flat_strs _, by rw [List.length_map, List.length_map, List.length_take]; omega, by rw [upd_ne (ne_of_none hD7 hq)]; exact hD7, less_by hi3 ⟨?_, upd_same, fun b u e => ?_⟩⟩⟩⟩
            · show _ ++ [V.bl (inV (.str y0) (cutV ((rows3[i3]).map V.str) (some 1) none))] = _
              rw [cut1, inV_strs, take_snoc hir3, List.map_append, List.map_append]
              rfl
            · rw [upd_ne (ne_of_none e hD3), upd_ne (ne_of_none (sm7 b _ e) hq)]
              exact sm7 b _ e
    · rintro i ys H2 hi ⟨hD2, rl2, hol2, sm2⟩
      obtain ⟨a, hir, ea, ha⟩ := (rt.mono (Same.tups sm2)).get hi
      refine ⟨⟨_, _, SqL.of (sm2 rl _ hrl), ea⟩, ?_⟩
      rintro y H3 ⟨rfl, yy⟩ σo ho
      obtain ⟨o, rfl⟩ := own1 ho
      have ey := yy _ (SqL.of (sm2 rl _ hrl))
      rw [ea] at ey
      cases ey
      have hys : ys.length ≤ 1000 := by
        rw [Paired.length rl2]
        have := full_len_le (rows.take i)
        refine Nat.le_trans (List.length_filter_le _ _) ?_
        rw [List.length_take]
        omega
      refine ⟨⟨[_], rfl, rfl⟩, _, rfl, a, _, rfl, .inr (SqT.of ha), _, _, rfl, rfl, _, rfl, ite2 (fun hb => ?_) (fun hb => ?_)⟩
      · refine ⟨_, rfl, a, _, rfl, .inr (SqT.of ha), fun l hl => ?_⟩
        have sl : ∀ o, Same H3 (upd H3 l o) := fun o => Same.new hl
        have lD : l ≠ D1 := fun e => by rw [e, hD2] at hl; cases hl
        have lo : l ≠ ol := fun e => by rw [e, hol2] at hl; cases hl
        refine ⟨by omega, sl _ D1 _ hD2, less_by hi ⟨upd_same, ?_, ?_, ?_⟩⟩
        · have hne : ¬ (rows[i]).isEmpty = true := fun e => by
            have hb : decide ((0 : Int) < (((rows[i]).map V.str).length : Int)) = true := hb
            have := of_decide_eq_true hb
            rw [List.isEmpty_iff.mp e] at this
            simp at this
          rw [take_snoc hir, full_snoc, if_neg hne]
          exact pairedSnoc (rl2.grow (sl _)) ⟨l, rfl, lD, lo, by rw [upd_ne lD, upd_same]⟩
        · rw [upd_ne olD1]
          exact sl _ ol _ hol2
        · intro b o' e
          rw [upd_ne (ne_of_none e hD1H)]
          exact sl _ b _ (sm2 b _ e)
      · have he : (rows[i]).isEmpty = true := by
          have hb : ¬ decide ((0 : Int) < (((rows[i]).map V.str).length : Int)) = true := hb
          rw [decide_eq_true_iff, List.length_map] at hb
          exact List.isEmpty_iff_length_eq_zero.mpr (by omega)
        refine less_by hi ⟨hD2, ?_, hol2, sm2⟩
        rw [take_snoc hir, full_snoc, if_pos he, List.append_nil]
        exact rl2
end
end K25
end
section
set_option autoImplicit false
namespace K25
open PySem PyProof.Rows L2
section
variable {P : Program} {w : World} {K : PySem.W.Frag} {mg : Str → Option Value} {base : Heap} {t : Adr}
def spTake : Sp := fun vs H Q _ => ∃ (p : Addr) (n : Int), vs = [.ref p, .int n] ∧ Pu H p ∧ 0 < n ∧ n < 1606938044258990275541962092341162602522202993782792835301376 ∧ ∀ (r a b c : Int), 0 ≤ r → r < n → Q (.int r) (upd H p (.lst [.int a, .int b, .int c]))
theorem ok_take (D : Defs K mg t) : FnOk P w K mg base CX0 1 t._law_take.1 t._law_take.2 ["_law_purse_here", "_law_many"] spTake := by
  refine D._law_take.fn.ok sc__law_take (fun vs H Q E h => ?_) (fun cdv A outer s H vs Q E hr h => ?_)
  · obtain ⟨p, n, rfl, _⟩ := h
    rfl
  · obtain ⟨p, n, rfl, ⟨a, b, c, hp⟩, h0, h1, k⟩ := h
    refine ⟨_, (pss_cons (ps_asg (pe_op op_add (pe_ix ix_list (pv 0) pe_int (fun _ _ => rfl)) pe_int) (pg_sub (pv 0) pe_int set_list))
      (pss_cons (ps_set (i := 2) sc__law_take.nd rfl (Or.inl rfl) (pe_ix ix_list (pv 0) pe_int (fun _ _ => rfl)))
      (pss_cons (ps_asg (pe_op op_mod (pe_op op_add (pe_op op_mul (pv 2) (pe_op op_add (pe_op op_mod (pv 2) pe_int) pe_int)) (pe_op op_mul pe_int (pe_ix ix_list (pv 0) pe_int (fun _ _ => rfl)))) pe_int) (pg_sub (pv 0) pe_int set_list))
      (pss_cons (ps_if (pt_cmpR op_gt (pe_ix ix_list (pv 0) pe_int (fun _ _ => rfl)) pe_int (nomark _))
      (pss_cons (ps_set (i := 3) sc__law_take.nd rfl (Or.inl rfl) (pe_op op_mod (pe_ix ix_list (pv 0) pe_int (fun _ _ => rfl)) (pv 1)))
      (pss_cons (ps_asg (pe_op op_fdivL (pe_ix ix_list (pv 0) pe_int (fun _ _ => rfl)) (pv 1)) (pg_sub (pv 0) pe_int set_list))
      (pss_one (ps_ret (pv 3)))))
      pss_nil)
      (pss_one (ps_ret (pe_op op_mod (pe_op op_fdiv (pe_ix ix_list (pv 0) pe_int (fun _ _ => rfl)) pe_int) (pv 1)))))))), ?_⟩
    refine ⟨_, rfl, p, _, _, _, rfl, rfl, SqL.of hp, rfl, _, _, rfl, rfl, _, rfl, p, _, _, 2, rfl, rfl, hp, rfl, ?_⟩
    refine ⟨_, rfl, p, _, _, _, rfl, rfl, SqL.of upd_same, rfl, ?_⟩
    refine ⟨_, rfl, _, rfl, _, _, rfl, rfl, (by show (0 : Int) < 46337; decide), _, _, rfl, rfl, _, _, rfl, rfl, .inr ⟨?_, ?_⟩, _, rfl, p, _, _, _, rfl, rfl, SqL.of upd_same, rfl, _, _, rfl, rfl, .inl ⟨by decide, by decide⟩, _, _, rfl, rfl, _, _, rfl, rfl,
      (by show (0 : Int) < 2147483587; decide), _, rfl, p, _, _, 0, rfl, rfl, upd_same, rfl, ?_⟩
    · have := Int.emod_nonneg a (show (46337 : Int) ≠ 0 by decide)
      omega
    · have := Int.emod_lt_of_pos a (show (0 : Int) < 46337 by decide)
      omega
    rw [upd_upd]
    refine ⟨_, rfl, p, _, _, _, rfl, rfl, SqL.of upd_same, rfl, _, _, rfl, rfl, _, rfl, ite2 (fun hb => ?_) (fun hb => ?_)⟩
    · refine ⟨_, rfl, p, _, _, _, rfl, rfl, SqL.of upd_same, rfl, _, rfl, _, _, rfl, rfl, h0, _, rfl, p, _, _, _, rfl, rfl, SqL.of upd_same, rfl, _, rfl, _, _, rfl, rfl, ⟨h0, h1⟩, _, rfl, p, _, _, 1, rfl, rfl, upd_same, rfl, _, rfl, ?_⟩
      rw [upd_upd]
      exact k _ _ _ _ (Int.emod_nonneg _ (by omega)) (Int.emod_lt_of_pos _ h0)
    · refine ⟨_, rfl, p, _, _, _, rfl, rfl, SqL.of upd_same, rfl, _, _, rfl, rfl, ⟨by decide, by decide⟩, _, rfl, _, _, rfl, rfl, h0, ?_⟩
      exact k _ _ _ _ (Int.emod_nonneg _ (by omega)) (Int.emod_lt_of_pos _ h0)
def spPurse : Sp := fun vs H Q _ => ∃ (n : Int), vs = [.int n] ∧ ∀ (p : Addr) (a b c : Int), H p = none → Q (.ref p) (upd H p (.lst [.int a, .int b, .int c]))
theorem ok_purse (D : Defs K mg t) : FnOk P w K mg base CX0 1 t._law_purse.1 t._law_purse.2 ["_law_cell_here"] spPurse := by
  refine D._law_purse.fn.ok sc__law_purse (fun vs H Q E h => ?_) (fun cdv A outer s H vs Q E hr h => ?_)
  · obtain ⟨n, rfl, _⟩ := h
    rfl
  · obtain ⟨n, rfl, k⟩ := h
    refine ⟨_, (pss_cons (ps_set (i := 1) sc__law_purse.nd rfl (Or.inl rfl) pe_int)
      (pss_join (ps_if (PW.pt (pw_or (pt_cmpR op_lt (pv 0) pe_int (nomark _)) (pw_or1 (pt_cmpR op_ge (pv 0) (pe_op op_pow pe_int pe_int) (nomark _)))))
      (pss_one (ps_set (i := 1) sc__law_purse.nd rfl (Or.inl rfl) (pe_callB call_abs (by rfl) D.b_abs bt_abs (pa_cons (pv 0) pa_nil))))
      pss_nil)
      (pss_one (ps_ret (pe_lst (pa_cons (pe_op op_mod (pv 0) pe_int) (pa_cons (pv 1) (pa_cons pe_int pa_nil)))))))), ?_⟩
    refine ⟨fun σ' H' => ∃ d : Int, σ' = [some (.int n), some (.int d)] ∧ H' = H, ?_, ?_⟩
    · refine ⟨_, rfl, _, _, rfl, rfl, _, rfl, ite2 (fun hb => ?_) (fun hb => ?_)⟩
      · exact iteT ⟨_, rfl, _, rfl, _, rfl, rfl⟩
      · refine ⟨_, rfl, _, _, rfl, rfl, ⟨by decide, by decide, by decide⟩, _, _, rfl, rfl, _, rfl, ite2 (fun hc => ?_) (fun hc => ?_)⟩
        · exact ⟨_, rfl, _, rfl, _, rfl, rfl⟩
        · exact ⟨_, rfl, rfl⟩
    · rintro σ' H' ⟨d, rfl, rfl⟩
      exact ⟨_, rfl, _, _, rfl, rfl, (by show (0 : Int) < 2147483587; decide), _, rfl, (by show 3 ≤ sizeLine; decide), fun p hp => k p _ _ _ hp⟩
def spCell (K : PySem.W.Frag) : Sp := fun vs H Q _ => ∃ (a : Addr) (ns : List Int) (k : Int), vs = [.ref a, .int k] ∧ SqL K H a (ns.map V.int) ∧ ns.length ≤ 63 ∧ 0 ≤ k ∧ k ≤ 1000 ∧ ∀ (n : Int) H', Same H H' → Q (.int n) H'
theorem ok_cell (D : Defs K mg t) : FnOk P w K mg base CX0 1 t._law_cell.1 t._law_cell.2 ["_law_script", "_law_k"] (spCell K) := by
  refine D._law_cell.fn.ok sc__law_cell (fun vs H Q E h => ?_) (fun cdv A outer s H vs Q E hr h => ?_)
  · obtain ⟨a, ns, k, rfl, _⟩ := h
    rfl
  · obtain ⟨a, ns, k, rfl, hS, hl, h0, h1, q⟩ := h
    refine ⟨_, (pss_cons (ps_if (pt_cmpR op_lt (pv 1) (pe_callB call_len_seq (by rfl) D.b_len bt_len (pa_cons (pv 0) pa_nil)) (nomark _))
      (pss_one (ps_ret (pe_ix ix_list (pv 0) (pv 1) (fun _ _ => rfl))))
      pss_nil)
      (pss_cons (ps_set (i := 2) sc__law_cell.nd rfl (Or.inl rfl) (pe_op op_mul (pe_op op_mul pe_int (pe_op op_add (pv 1) pe_int)) (pe_op op_add (pv 1) pe_int)))
      (pss_cons (ps_for PassesOwn.never rfl (pi_list (pe_slice sl_list (pv 0) po_none (po_some pe_int))) (pg_name (i := 3) sc__law_cell.nd rfl (Or.inl rfl))
      (pss_one (ps_set (i := 2) sc__law_cell.nd rfl (Or.inl rfl) (pe_op op_mod (pe_op op_add (pe_op op_mul (pv 2) pe_int) (pv 3)) pe_int))))
      (pss_one (ps_ret (pv 2)))))), ?_⟩
    refine ⟨_, rfl, _, rfl, a, _, rfl, .inl hS, _, _, rfl, rfl, _, rfl, ite2 (fun hb => ?_) (fun hb => ?_)⟩
    · have hk : k < (ns.map V.int).length := of_decide_eq_true hb
      obtain ⟨v, e, m, _⟩ := atI_in h0 hk
      obtain ⟨z, _, rfl⟩ := List.mem_map.mp m
      exact ⟨_, rfl, _, rfl, a, _, _, _, rfl, rfl, hS, e, q z H (Same.refl H)⟩
    · refine ⟨_, rfl, _, _, rfl, rfl, _, _, rfl, rfl, .inl ⟨by decide, by decide⟩, _, rfl, _, _, rfl, rfl, _, _, rfl, rfl, .inr ⟨by omega, by omega⟩, ?_⟩
      refine ⟨_, rfl, _, rfl, a, _, rfl, hS, fun p hp => ⟨p, rfl, ⟨_, SqL.of upd_same⟩, for_list (K := K) (a := p) (xs := cutV (ns.map V.int) none (some 4)) (fun i σ H2 => ∃ (st : Int) (v : Option V), σ = [some (.ref a), some (.int k), some (.int st), v] ∧ H2 = upd H p (.lst (cutV (ns.map V.int) none (some 4))))
        ⟨_, _, rfl, rfl⟩ (fun i σ H2 _ ⟨_, _, _, e⟩ => by rw [e]; exact SqL.of upd_same) ?_ ?_⟩⟩
      · rintro i x σ H2 hi ⟨st, v, rfl, rfl⟩
        have m : x ∈ ns.map V.int := List.mem_of_mem_drop (List.mem_of_mem_take (List.mem_of_getElem? hi))
        obtain ⟨z, _, rfl⟩ := List.mem_map.mp m
        exact ⟨_, rfl, _, _, rfl, rfl, .inr ⟨by decide, by decide⟩, _, rfl, _, _, rfl, rfl, _, _, rfl, rfl, (by show (0 : Int) < 2147483587; decide), _, _, rfl, rfl⟩
      · rintro σ H2 ⟨st, v, rfl, rfl⟩
        exact ⟨_, rfl, q st _ (Same.new hp)⟩
end
end K25
end
section
set_option autoImplicit false
namespace K25
open PySem PyProof.Rows L2
section
variable {P : Program} {w : World} {K : PySem.W.Frag} {mg : Str → Option Value} {base : Heap} {t : Adr}
theorem by_rest {G : Prop} (S : Hp → Prop) {NX : Hp → Prop} (use : (∀ H3, S H3 → NX H3) → G) (rest : ∀ H3, S H3 → NX H3) : G := use rest
def spWord : Sp := fun vs H Q _ => ∃ (p u : Addr) (us : List Str), vs = [.ref p, .ref u] ∧ Pu H p ∧ H u = some (.lst (us.map V.str)) ∧ us.length ≤ 25 ∧ ∀ (x : Str) H', x.length ≤ 100 → ¬ x ∈ us → Off p H H' → Pu H' p → Q (.str x) H'
def menu : List Str := ["end", "else", "catch", "none", "me", "kind", "deed", "run", "name", "tell", "if", "plus"]
theorem menu_len : ∀ x ∈ menu, x.length ≤ 6 := by decide +kernel
theorem ok_word (D : Defs K mg t) : FnOk P w K mg base CX0 2 t._law_word.1 t._law_word.2 ["_law_purse_here", "_law_used"] spWord := by
  have G__law_take : FnOk P w K mg base CX0 1 t._law_take.1 t._law_take.2 _ spTake := ok_take D
  have hz : sizeLine = 16777216 := sizeLine_eq
  refine D._law_word.fn.ok sc__law_word (fun vs H Q E h => ?_) (fun cdv A outer s H vs Q E hr h => ?_)
  · obtain ⟨p, u, us, rfl, _⟩ := h
    rfl
  · obtain ⟨p, u, us, rfl, hp, hu, hl, k⟩ := h
    have up : u ≠ p := hp.ne hu
    refine ⟨_, (@pss_cons _ _ _ _ _ (@ps_set _ _ 2 _ _ _ _ sc__law_word.nd rfl (Or.inl rfl) (@pe_lst _ _ _ _ (@pa_strs _ _ ["end", "else", "catch", "none", "me", "kind", "deed", "run", "name", "tell", "if", "plus"] (by rfl))) (by rfl) (by first | exact .inl rfl | exact .inr rfl))
      (pss_cons (ps_set (i := 3) sc__law_word.nd rfl (Or.inr rfl) (pe_ix ix_list (pv 2) (pe_callF D._law_take G__law_take (hr.mono (by omega)) (by rfl) (pa_cons (pv 0) (pa_cons pe_int pa_nil))) (fun _ _ => rfl)))
      (pss_join (ps_if (PW.pt (pw_or (pt_cmpR op_gt (pe_callF D._law_take G__law_take (hr.mono (by omega)) (by rfl) (pa_cons (pv 0) (pa_cons pe_int pa_nil))) pe_int (nomark _)) (pw_or1 (pt_cmpR op_in_seq (pv 3) (pv 1) (by with_unfolding_all rfl)))))
      (pss_cons (ps_set (i := 3) sc__law_word.nd rfl (Or.inr rfl) pe_str)
      (pss_one (ps_for PassesOwn.never rfl (pi_range1 rfl D.b_range (pa_cons (pe_op op_add pe_int (pe_callF D._law_take G__law_take (hr.mono (by omega)) (by rfl) (pa_cons (pv 0) (pa_cons pe_int pa_nil)))) pa_nil)) (pg_name (i := 4) sc__law_word.nd rfl (Or.inl rfl))
      (pss_one (ps_set (i := 3) sc__law_word.nd rfl (Or.inr rfl) (pe_op op_add_str (pv 3) (pe_ix ix_str pe_str (pe_callF D._law_take G__law_take (hr.mono (by omega)) (by rfl) (pa_cons (pv 0) (pa_cons pe_int pa_nil))) (fun _ _ => rfl))))))))
      pss_nil)
      (pss_cons (ps_if (pt_cmpR op_notIn_seq (pv 3) (pv 1) (by with_unfolding_all rfl))
      (pss_one (ps_ret (pv 3)))
      pss_nil)
      (pss_cons (ps_setc (i := 5) rfl sc__law_word.nd rfl (Or.inl rfl) (CompScope.of ["_law_a"] [1, 3] ["_law_a", "_law_used", "_law_word_here"] (defScope (top 16)) ["_law_purse_here", "_law_used", "_law_menu", "_law_word_here", "_law_k", "_law_first"] rfl rfl (by decide +kernel)) ⟨fun _ _ _ _ _ => (pg_name (i := 0) (show List.Nodup [("_law_a" : Str), ("_law_used" : Str), ("_law_word_here" : Str)] by decide +kernel) rfl (Or.inl (lookup_relabel_local rfl)) (.inr (lookup_relabel_local rfl))), fun _ _ _ _ _ => (pts_one (pt_cmpR (op_notIn_K (K := K) rfl) (pe_op op_add_str (pv 0) (pe_slice sl_str (pv 2) po_none (po_some pe_int))) (pv 1) (by with_unfolding_all rfl))), fun _ _ _ _ _ => (pv 0)⟩ (pi_str pe_str))
      (pss_one (ps_ret (pe_op op_add_str (pe_ix ix_list (pv 5) pe_int (fun _ _ => rfl)) (pe_slice sl_str (pv 3) po_none (po_some pe_int)))))))))), ?_⟩
    refine ⟨by show 12 ≤ sizeLine; decide, fun q hq => ?_⟩
    have pq : p ≠ q := by
      obtain ⟨a, b, c, e⟩ := hp
      exact ne_of_none e hq
    have o1 : Off p H (upd H q (.lst (menu.map V.str))) := Off.new hq
    have hp1 : Pu (upd H q (.lst (menu.map V.str))) p := by
      obtain ⟨a, b, c, e⟩ := hp
      exact ⟨a, b, c, by rw [upd_ne pq]; exact e⟩
    have hq1 : (upd H q (.lst (menu.map V.str))) q = some (.lst (menu.map V.str)) := upd_same
    have em : menu = (["end", "else", "catch", "none", "me", "kind", "deed", "run", "name", "tell", "if", "plus"] : List Str) := rfl
    rw [em] at o1 hp1 hq1
    generalize upd H q (.lst ((["end", "else", "catch", "none", "me", "kind", "deed", "run", "name", "tell", "if", "plus"] : List Str).map V.str)) = H1 at o1 hp1 hq1
    rw [← em] at hq1
    refine ⟨_, rfl, _, rfl, p, 12, rfl, hp1, by decide, by decide, fun r a0 b0 c0 h0 h1 => ?_⟩
    obtain ⟨x0, e0, m0, _⟩ := atI_strs (ns := menu) h0 h1
    refine ⟨q, menu.map V.str, _, _, rfl, rfl, SqL.of (by rw [upd_ne pq.symm]; exact hq1), e0, ?_⟩
    refine ⟨fun σ' H' => ∃ (x : Str) (v : Option V), σ' = [some (.ref p), some (.ref u), some (.ref q), some (.str x), v, none] ∧ x.length ≤ 6 ∧ Off p H H' ∧ Pu H' p, ?_, ?_⟩
    · refine ⟨_, rfl, p, 5, rfl, Pu.upd, by decide, by decide, fun r a b c h0 h1 => ?_⟩
      have oC : Off p H (upd (upd H1 p (.lst [.int a0, .int b0, .int c0])) p (.lst [.int a, .int b, .int c])) := (o1.trans Off.upd).trans Off.upd
      have pC : Pu (upd (upd H1 p (.lst [.int a0, .int b0, .int c0])) p (.lst [.int a, .int b, .int c])) p := Pu.upd
      generalize (upd (upd H1 p (.lst [.int a0, .int b0, .int c0])) p (.lst [.int a, .int b, .int c])) = HC at oC pC
      apply by_rest (fun H' => HC = H')
      case use =>
        intro rest
        refine ⟨_, _, rfl, rfl, _, rfl, ite2 (fun hb => ?_) (fun hb => ?_)⟩
        · refine iteT ?_
          exact rest HC rfl
        · refine ⟨_, rfl, _, rfl, u, _, rfl, .inl (SqL.of (oC u _ up hu)), rfl, flat_strs us, _, rfl, ite2 (fun hb2 => ?_) (fun hb2 => ⟨x0, none, rfl, menu_len x0 m0, oC, pC⟩)⟩
          exact rest HC rfl
      case rest =>
        rintro _ rfl
        refine ⟨_, rfl, p, 6, rfl, pC, by decide, by decide, fun r2 a2 b2 c2 g0 g1 => ⟨_, _, rfl, rfl, _, rfl, by omega, by omega, ?_⟩⟩
        refine for_range (lo := 0) (n := (1 + r2).toNat) (fun i σ H2 => ∃ (x : Str) (v : Option V), σ = [some (.ref p), some (.ref u), some (.ref q), some (.str x), v, none] ∧ x.length ≤ i ∧ Off p H H2 ∧ Pu H2 p)
          ⟨_, _, rfl, by decide, oC.trans Off.upd, Pu.upd⟩ ?_ ?_
        · rintro i σ H2 hi ⟨x, v, rfl, hx, o2, p2⟩
          refine ⟨_, rfl, _, rfl, p, 26, rfl, p2, by decide, by decide, fun r3 a3 b3 c3 f0 f1 => ?_⟩
          obtain ⟨cc, ec, _, _⟩ := atI_in (xs := abc.cps.toList) f0 (by rw [Array.length_toList, abc_len]; exact f1)
          refine ⟨abc, _, cc, rfl, rfl, by decide +kernel, ec, _, _, rfl, rfl, ?_, _, _, rfl, ?_, o2.trans Off.upd, Pu.upd⟩
          · show x.length + 1 ≤ sizeLine
            omega
          · rw [str_len_app]
            show x.length + 1 ≤ i + 1
            omega
        · rintro σ H2 ⟨x, v, rfl, hx, o2, p2⟩
          exact ⟨x, v, rfl, by omega, o2, p2⟩
    · rintro σ' H' ⟨x, v, rfl, hx, oh, ph⟩
      have hu' : H' u = some (.lst (us.map V.str)) := oh u _ up hu
      refine ⟨_, rfl, _, rfl, u, _, rfl, .inl (SqL.of hu'), rfl, flat_strs us, _, rfl, ite2 (fun hb => ?_) (fun hb => ?_)⟩
      · refine ⟨_, rfl, k x H' (by omega) ?_ oh ph⟩
        intro hm
        have hb : (!inV (.str x) (us.map V.str)) = true := hb
        rw [inV_strs, decide_eq_true hm] at hb
        cases hb
      · have s5 : (Txt.slice x none (some 5)).length ≤ 6 := Nat.le_trans (slice_len x _ _) hx
        refine ⟨_, rfl, by decide +kernel, fun Dd hD => ?_⟩
        have uD : u ≠ Dd := ne_of_none hu' hD
        have pD : p ≠ Dd := by
          obtain ⟨a, b, c, e⟩ := ph
          exact ne_of_none e hD
        refine comp_by (n := 26) (fun i ys H2 => ys = ((letters.take i).filter fun c => decide (¬ (c ++ Txt.slice x none (some 5)) ∈ us)).map V.str ∧ H2 = upd H' Dd (.lst ys)) ⟨rfl, rfl⟩ ?_ ?_
        · rintro ys H2 ⟨rfl, rfl⟩
          refine ⟨by show abc.cps.size ≤ 26; rw [abc_len]; exact Nat.le_refl _, ?_⟩
          rw [show letters.take 26 = letters from List.take_of_length_le (by rw [letters_len]; exact Nat.le_refl _)]
          obtain ⟨c, hc, hn⟩ := some_letter hl (Txt.slice x none (some 5))
          have hmem : c ∈ letters.filter fun c => decide (¬ (c ++ Txt.slice x none (some 5)) ∈ us) := List.mem_filter.mpr ⟨hc, decide_eq_true hn⟩
          obtain ⟨d, rest, ed⟩ := List.exists_cons_of_ne_nil (List.ne_nil_of_mem hmem)
          have hd : d ∈ letters.filter fun c => decide (¬ (c ++ Txt.slice x none (some 5)) ∈ us) := by rw [ed]; exact List.mem_cons_self
          obtain ⟨hd1, hd2⟩ := List.mem_filter.mp hd
          refine ⟨_, rfl, Dd, _, _, .str d, rfl, rfl, SqL.of upd_same, by rw [ed]; exact atI_nat (j := 0) rfl, _, rfl, _, rfl, x, rfl, by omega, _, _, rfl, rfl, ?_, ?_⟩
          · rw [letters_one d hd1]
            omega
          · refine k _ _ ?_ (of_decide_eq_true hd2) (oh.trans (Off.new hD)) ?_
            · rw [str_len_app, letters_one d hd1]
              omega
            · obtain ⟨a, b, c, e⟩ := ph
              exact ⟨a, b, c, by rw [upd_ne pD]; exact e⟩
        · rintro i ys H2 hi ⟨rfl, rfl⟩
          refine ⟨by show i < abc.cps.size; rw [abc_len]; exact hi, ?_⟩
          rintro y H3 ⟨rfl, c, ec, rfl⟩ σo ho
          obtain ⟨o, rfl⟩ := own1 ho
          have el : letters[i]? = some ⟨#[c]⟩ := by
            have ec' : abc.cps[i]? = some c := ec
            unfold letters
            rw [List.getElem?_map, Array.getElem?_toList, ec']
            rfl
          have et : letters.take (i + 1) = letters.take i ++ [⟨#[c]⟩] := by
            rw [List.take_succ, el]
            rfl
          have hlen : (((letters.take i).filter fun c => decide (¬ (c ++ Txt.slice x none (some 5)) ∈ us)).map V.str).length ≤ 26 := by
            rw [List.length_map]
            refine Nat.le_trans (List.length_filter_le _ _) ?_
            rw [List.length_take]
            omega
          refine ⟨⟨[_], rfl, rfl⟩, _, rfl, _, rfl, _, rfl, x, rfl, by omega, _, _, rfl, rfl, (by show 1 + _ ≤ sizeLine; omega), _, rfl, u, _, rfl, .inl (SqL.of (by rw [upd_ne uD]; exact hu')), rfl, flat_strs us, _, rfl, ite2 (fun hb => ?_) (fun hb => ?_)⟩
          · have hb : (!inV (.str (⟨#[c]⟩ ++ Txt.slice x none (some 5))) (us.map V.str)) = true := hb
            rw [inV_strs] at hb
            have hn : ¬ ((⟨#[c]⟩ : Str) ++ Txt.slice x none (some 5)) ∈ us := by simpa using hb
            refine ⟨_, rfl, by omega, upd_same, less_by hi ⟨?_, by rw [upd_upd]⟩⟩
            rw [et, List.filter_append, List.map_append]
            congr 1
            rw [List.filter_cons, if_pos (decide_eq_true hn)]
            rfl
          · have hb : ¬ (!inV (.str (⟨#[c]⟩ ++ Txt.slice x none (some 5))) (us.map V.str)) = true := hb
            rw [inV_strs] at hb
            have hn : ((⟨#[c]⟩ : Str) ++ Txt.slice x none (some 5)) ∈ us := by simpa using hb
            refine less_by hi ⟨?_, rfl⟩
            rw [et, List.filter_append]
            rw [show List.filter (fun c => decide (¬ (c ++ Txt.slice x none (some 5)) ∈ us)) [(⟨#[c]⟩ : Str)] = [] by rw [List.filter_cons, if_neg (by simpa using hn)]; rfl, List.append_nil]
end
end K25
end
section
set_option autoImplicit false
namespace K25
open PySem PyProof.Rows L2
section
variable {P : Program} {w : World} {K : PySem.W.Frag} {mg : Str → Option Value} {base : Heap} {t : Adr}
theorem nd_snoc {α : Type} {l : List α} {x : α} (h : l.Nodup) (hx : ¬ x ∈ l) : (l ++ [x]).Nodup := by
  rw [List.nodup_append]
  refine ⟨h, by simp, fun a ha b hb e => ?_⟩
  have : b = x := by simpa using hb
  rw [e, this] at ha
  exact hx ha
end
end K25
end
section
set_option autoImplicit false
namespace K25
open PySem PyProof.Rows L2
section
variable {P : Program} {w : World} {K : PySem.W.Frag} {mg : Str → Option Value} {base : Heap} {t : Adr}
def spSome : Sp := fun vs H Q _ => ∃ (p m : Addr) (ns : List Str) (n : Nat), vs = [.ref p, .ref m, .int n] ∧ Pu H p ∧ H m = some (.lst (ns.map V.str)) ∧ n ≤ 100 ∧ ns.length ≤ 100 ∧
  ∀ (q : Addr) (es : List Str) H', H' q = some (.tup (es.map V.str)) → (∀ x ∈ es, x ∈ ns) → es.Nodup → es.length ≤ n → Off p H H' → Pu H' p → Q (.ref q) H'
theorem ok_some (D : Defs K mg t) : FnOk P w K mg base CX0 2 t._law_some.1 t._law_some.2 ["_law_purse_here", "_law_menu", "_law_most"] spSome := by
  have G__law_take : FnOk P w K mg base CX0 1 t._law_take.1 t._law_take.2 _ spTake := ok_take D
  have hz : sizeLine = 16777216 := sizeLine_eq
  refine D._law_some.fn.ok sc__law_some (fun vs H Q E h => ?_) (fun cdv A outer s H vs Q E hr h => ?_)
  · obtain ⟨p, m, ns, n, rfl, _⟩ := h
    rfl
  · obtain ⟨p, m, ns, n, rfl, hp, hm, hn, hl, k⟩ := h
    have mp : m ≠ p := hp.ne hm
    refine ⟨_, (pss_cons (ps_set (i := 3) sc__law_some.nd rfl (Or.inl rfl) (pe_lst pa_nil))
      (pss_cons (ps_if (pt_cmpR op_eq (pe_callB call_len_seq (by rfl) D.b_len bt_len (pa_cons (pv 1) pa_nil)) pe_int (nomark _))
      (pss_one (ps_ret (pe_tup pa_nil)))
      pss_nil)
      (pss_cons (ps_for PassesOwn.never rfl (pi_range1 rfl D.b_range (pa_cons (pe_callF D._law_take G__law_take (hr.mono (by omega)) (by rfl) (pa_cons (pv 0) (pa_cons (pe_op op_add (pv 2) pe_int) pa_nil))) pa_nil)) (pg_name (i := 4) sc__law_some.nd rfl (Or.inl rfl))
      (pss_cons (ps_set (i := 5) sc__law_some.nd rfl (Or.inl rfl) (pe_ix ix_list (pv 1) (pe_callF D._law_take G__law_take (hr.mono (by omega)) (by rfl) (pa_cons (pv 0) (pa_cons (pe_callB call_len_seq (by rfl) D.b_len bt_len (pa_cons (pv 1) pa_nil)) pa_nil))) (fun _ _ => rfl)))
      (pss_one (ps_if (pt_cmpR op_notIn_seq (pv 5) (pv 3) (by with_unfolding_all rfl))
      (pss_one (ps_expr (pe_bm PySem.F.plainAttrs_list PySem.F.slot_list_append PySem.F.type_list_append mt_append (pv 3) (pa_cons (pv 5) pa_nil))))
      pss_nil))))
      (pss_one (ps_ret (pe_callTy call_tuple_of (by rfl) D.b_tuple bt_tuple (pa_cons (pv 3) pa_nil))))))), ?_⟩
    refine ⟨Nat.zero_le _, fun l hll => ?_⟩
    have pl : p ≠ l := hp.neN hll
    have ml : m ≠ l := ne_of_none hm hll
    refine ⟨_, rfl, m, _, rfl, .inl (SqL.of (by rw [upd_ne ml]; exact hm)), rfl, _, rfl, ite2 (fun hb => ?_) (fun hb => ?_)⟩
    · exact ⟨Nat.zero_le _, fun q hq => k q [] _ upd_same (by simp) List.nodup_nil (Nat.zero_le _) ((Off.new hll).trans (Off.new hq)) ((hp.upd_ne pl).upd_ne ((hp.upd_ne pl).neN hq))⟩
    · have hpos : 0 < ns.length := by
        have hb : ¬ decide (V.int ((ns.map V.str).length : Int) = V.int 0) = true := hb
        rcases Nat.eq_zero_or_pos ns.length with h | h
        · exfalso
          apply hb
          rw [List.length_map, h]
          exact decide_eq_true rfl
        · exact h
      refine ⟨_, rfl, _, rfl, _, _, rfl, rfl, p, _, rfl, hp.upd_ne pl, by omega, by omega, fun r a1 b1 c1 l1 u1 => ⟨r, rfl, by omega, by omega, ?_⟩⟩
      refine for_range (lo := 0) (n := r.toNat) (fun i σ H2 => ∃ (es : List Str) (v4 v5 : Option V), σ = [some (.ref p), some (.ref m), some (.int n), some (.ref l), v4, v5] ∧ es.length ≤ i ∧ es.Nodup ∧ (∀ x ∈ es, x ∈ ns) ∧ H2 l = some (.lst (es.map V.str)) ∧ Off p H H2 ∧ Pu H2 p)
        ⟨[], _, _, rfl, Nat.le_refl _, List.nodup_nil, by simp, by rw [upd_ne pl.symm, upd_same]; rfl, (Off.new hll).trans Off.upd, Pu.upd⟩ ?_ ?_
      · rintro i σ H2 hi ⟨es, v4, v5, rfl, he, nd, sub, hl2, o2, p2⟩
        have hm2 : H2 m = some (.lst (ns.map V.str)) := o2 m _ mp hm
        refine ⟨_, rfl, _, rfl, _, rfl, m, _, rfl, .inl (SqL.of hm2), p, _, rfl, p2, by rw [List.length_map]; omega, by rw [List.length_map]; omega, fun r2 a2 b2 c2 l2 u2 => ?_⟩
        rw [List.length_map] at u2
        obtain ⟨x, ex, mx, _⟩ := atI_strs (ns := ns) l2 u2
        refine ⟨m, _, _, _, rfl, rfl, SqL.of (by rw [upd_ne mp]; exact hm2), ex, ?_⟩
        have lp : l ≠ p := pl.symm
        refine ⟨_, rfl, _, rfl, l, _, rfl, .inl (SqL.of (by rw [upd_ne lp]; exact hl2)), rfl, flat_strs es, _, rfl, ite2 (fun hc => ?_) (fun hc => ?_)⟩
        · have hc : (!inV (.str x) (es.map V.str)) = true := hc
          rw [inV_strs] at hc
          have hx : ¬ x ∈ es := by simpa using hc
          refine ⟨_, rfl, .inl ⟨rfl, _, SqL.of (by rw [upd_ne lp]; exact hl2)⟩, _, rfl, l, es.map V.str, .str x, rfl, rfl, by rw [upd_ne lp]; exact hl2, by rw [List.length_map]; omega, es ++ [x], _, _, rfl, by rw [List.length_append]; exact Nat.succ_le_succ he, nd_snoc nd hx, ?_, by rw [upd_same, List.map_append]; rfl, ?_, Pu.upd.upd_ne pl⟩
          · intro z hz
            rcases List.mem_append.mp hz with h | h
            · exact sub z h
            · rw [List.mem_singleton.mp h]
              exact mx
          · intro b o hb e
            rw [upd_ne (ne_of_none e hll), upd_ne hb]
            exact o2 b o hb e
        · exact ⟨es, _, _, rfl, Nat.le_succ_of_le he, nd, sub, by rw [upd_ne lp]; exact hl2, o2.trans Off.upd, Pu.upd⟩
      · rintro σ H2 ⟨es, v4, v5, rfl, he, nd, sub, hl2, o2, p2⟩
        refine ⟨_, rfl, l, _, rfl, .inl ⟨SqL.of hl2, fun q hq => ?_⟩⟩
        exact k q es _ upd_same sub nd (by omega) (o2.trans (Off.new hq)) (p2.upd_ne (p2.neN hq))
end
end K25
end
section
set_option autoImplicit false
namespace K25
open PySem PyProof.Rows L2
def OrdsG (H : Hp) (kvs : List (Key × V)) (g : Str → List Str) (ns : List Str) : Prop := ∀ x ∈ ns, ∃ q, valV kvs (.inr x) = some (.ref q) ∧ H q = some (.tup ((g x).map V.str)) ∧ (g x).length ≤ 8
theorem OrdsG.mono {H H' : Hp} {kvs : List (Key × V)} {g : Str → List Str} {ns : List Str} (h : OrdsG H kvs g ns) (s : Tups H H') : OrdsG H' kvs g ns := fun x hx => by
  obtain ⟨q, h1, h2, h3⟩ := h x hx
  exact ⟨q, h1, s q _ h2, h3⟩
theorem cutV_to (xs : List V) (k : Nat) (h : k ≤ xs.length) : cutV xs none (some (k : Int)) = xs.take k := by
  unfold cutV
  rw [HT.sIx_nat, Nat.min_eq_left h]
  rfl
theorem cutV_from (xs : List V) (k : Nat) (h : k ≤ xs.length) : cutV xs (some (k : Int)) none = xs.drop k := by
  unfold cutV
  rw [HT.sIx_nat, Nat.min_eq_left h]
  show List.take (xs.length - k) (xs.drop k) = _
  rw [List.take_of_length_le]
  rw [List.length_drop]
  exact Nat.le_refl _
theorem cut1_to (xs : List V) : cutV xs none (some 1) = xs.take 1 := by
  cases xs with
  | nil => rfl
  | cons x xs => exact cutV_to (x :: xs) 1 (by rw [List.length_cons]; omega)
theorem cut1_from (xs : List V) : cutV xs (some 1) none = xs.drop 1 := by
  cases xs with
  | nil => rfl
  | cons x xs => exact cutV_from (x :: xs) 1 (by rw [List.length_cons]; omega)
def rowsG (g : Str → List Str) (es : List Str) : List (List Str) := es.map g ++ [es]
theorem tot_rowsG {g : Str → List Str} {es : List Str} (h : ∀ x ∈ es, (g x).length ≤ 8) : tot (rowsG g es) ≤ 9 * es.length := by
  have tl : ∀ es : List Str, (∀ x ∈ es, (g x).length ≤ 8) → tot (es.map g) ≤ 8 * es.length := by
    intro es
    induction es with
    | nil => exact fun _ => Nat.le_refl _
    | cons x es ih =>
      intro h
      rw [List.map_cons, tot_cons, List.length_cons]
      have := h x List.mem_cons_self
      have := ih fun y hy => h y (List.mem_cons_of_mem _ hy)
      omega
  have ta : tot (rowsG g es) = tot (es.map g) + es.length := by
    unfold rowsG tot
    rw [List.map_append, List.sum_append]
    simp
  have := tl es h
  omega
theorem Mg.some_sub {rows : List (List Str)} {r : Option (List Str)} (h : Mg rows r) : ∀ os, r = some os → (∀ y ∈ os, ∃ q ∈ rows, y ∈ q) ∧ os.Nodup := by
  induction h with
  | nil =>
    intro os e
    cases e
    exact ⟨by simp, List.nodup_nil⟩
  | stuck _ _ =>
    intro os e
    cases e
  | @step rows x more r hf _ ih =>
    intro os e
    cases r with
    | none => cases e
    | some os' =>
      cases e
      obtain ⟨h1, h2⟩ := ih os' rfl
      have back : ∀ y ∈ os', y ≠ x ∧ ∃ q ∈ rows, y ∈ q := fun y hy => by
        obtain ⟨q, hq, hyq⟩ := h1 y hy
        obtain ⟨hq1, _⟩ := List.mem_filter.mp hq
        obtain ⟨q0, hq0, rfl⟩ := List.mem_map.mp hq1
        obtain ⟨a, b⟩ := List.mem_filter.mp hyq
        exact ⟨of_decide_eq_true b, q0, hq0, a⟩
      refine ⟨fun y hy => ?_, List.nodup_cons.mpr ⟨fun h => (back x h).1 rfl, h2⟩⟩
      rcases List.mem_cons.mp hy with rfl | h
      · obtain ⟨q, hq, hh⟩ := frees_mem (by rw [hf]; exact List.mem_cons_self)
        refine ⟨q, hq, ?_⟩
        cases q with
        | nil => cases hh
        | cons z q =>
          cases hh
          exact List.mem_cons_self
      · exact (back y h).2
theorem out_id {x : Str} {q : List Str} (h : ¬ x ∈ q) : outOf x q = q := by
  unfold outOf
  rw [List.filter_eq_self]
  intro y hy
  exact decide_eq_true fun e => h (e ▸ hy)
theorem mg_single : ∀ (os : List Str), os.Nodup → Mg (full [os]) (some os)
  | [], _ => .nil
  | y :: os, nd => by
    obtain ⟨n1, n2⟩ := List.nodup_cons.mp nd
    have ih := mg_single os n2
    have hh : ¬ heldIn [y :: os] y = true := by
      unfold heldIn
      simp [n1]
    have hf : frees [y :: os] = y :: [] := by
      show (if heldIn [y :: os] y = true then [] else [y]) ++ [] = _
      rw [if_neg hh]
      rfl
    have ho : full ([y :: os].map (outOf y)) = full [os] := by
      have : outOf y (y :: os) = os := by
        have h1 : outOf y (y :: os) = outOf y os := by
          unfold outOf
          rw [List.filter_cons]
          simp
        rw [h1, out_id n1]
      show full [outOf y (y :: os)] = _
      rw [this]
    have := Mg.step hf (r := some os) (by rw [ho]; exact ih)
    exact this
theorem mg_one {e : Str} {os : List Str} (nd : (e :: os).Nodup) : Mg (full [e :: os, [e]]) (some (e :: os)) := by
  obtain ⟨n1, n2⟩ := List.nodup_cons.mp nd
  have ih := mg_single os n2
  have hh : ¬ heldIn [e :: os, [e]] e = true := by
    unfold heldIn
    simp [n1]
  have hf : frees [e :: os, [e]] = e :: [e] := by
    show (if heldIn [e :: os, [e]] e = true then [] else [e]) ++ ((if heldIn [e :: os, [e]] e = true then [] else [e]) ++ []) = _
    rw [if_neg hh]
    rfl
  have h1 : outOf e (e :: os) = os := by
    have h1 : outOf e (e :: os) = outOf e os := by
      unfold outOf
      rw [List.filter_cons]
      simp
    rw [h1, out_id n1]
  have h2 : outOf e [e] = [] := by
    unfold outOf
    simp
  have ho : full ([e :: os, [e]].map (outOf e)) = full [os] := by
    show full [outOf e (e :: os), outOf e [e]] = _
    rw [h1, h2]
    cases os <;> rfl
  have hfull : full [e :: os, [e]] = [e :: os, [e]] := rfl
  rw [hfull]
  exact Mg.step hf (r := some os) (by rw [ho]; exact ih)
def GOk (g : Str → List Str) (S : List Str) : Prop := ∀ x ∈ S, (g x).Nodup ∧ (∃ os, g x = x :: os) ∧ ∀ y ∈ g x, y ∈ S
theorem mg_eld {g : Str → List Str} {es S : List Str} (gg : GOk g S) (sub : ∀ x ∈ es, x ∈ S) (h : es.length ≤ 1 ∨ ∃ os, Mg (full (rowsG g es)) (some os)) : ∃ os, Mg (full (rowsG g es)) (some os) := by
  rcases h with h | h
  · cases es with
    | nil => exact ⟨[], .nil⟩
    | cons e r =>
      cases r with
      | nil =>
        obtain ⟨nd, ⟨os, eo⟩, _⟩ := gg e (sub e List.mem_cons_self)
        rw [eo] at nd
        refine ⟨e :: os, ?_⟩
        show Mg (full [g e, [e]]) _
        rw [eo]
        exact mg_one nd
      | cons e2 r => simp at h
  · exact h
theorem mg_new {g : Str → List Str} {es S os : List Str} (gg : GOk g S) (sub : ∀ x ∈ es, x ∈ S) (h : Mg (full (rowsG g es)) (some os)) : os.Nodup ∧ ∀ y ∈ os, y ∈ S := by
  obtain ⟨h1, h2⟩ := Mg.some_sub h os rfl
  refine ⟨h2, fun y hy => ?_⟩
  obtain ⟨q, hq, hyq⟩ := h1 y hy
  have hq := (List.mem_filter.mp hq).1
  rcases List.mem_append.mp hq with h | h
  · obtain ⟨e, he, rfl⟩ := List.mem_map.mp h
    exact (gg e (sub e he)).2.2 y hyq
  · rw [List.mem_singleton.mp h] at hyq
    exact sub y hyq
def putG (g : Str → List Str) (x : Str) (o : List Str) : Str → List Str := fun y => if y = x then o else g y
theorem GOk.put {g : Str → List Str} {S os : List Str} {x : Str} (gg : GOk g S) (hx : ¬ x ∈ S) (nd : os.Nodup) (sub : ∀ y ∈ os, y ∈ S) : GOk (putG g x (x :: os)) (S ++ [x]) := fun y hy => by
  unfold putG
  by_cases e : y = x
  · rw [if_pos e, e]
    refine ⟨List.nodup_cons.mpr ⟨fun h => hx (sub x h), nd⟩, ⟨os, rfl⟩, fun z hz => ?_⟩
    rcases List.mem_cons.mp hz with rfl | h
    · exact List.mem_append_right _ (List.mem_singleton.mpr rfl)
    · exact List.mem_append_left _ (sub z h)
  · rw [if_neg e]
    have hy' : y ∈ S := by
      rcases List.mem_append.mp hy with h | h
      · exact h
      · exact absurd (List.mem_singleton.mp h) e
    obtain ⟨a, b, c⟩ := gg y hy'
    exact ⟨a, b, fun z hz => List.mem_append_left _ (c z hz)⟩
theorem OrdsG.put {H H' : Hp} {kvs : List (Key × V)} {g : Str → List Str} {S os : List Str} {x : Str} {q : Addr} (h : OrdsG H kvs g S) (s : Tups H H') (hq : H' q = some (.tup (os.map V.str))) (hl : os.length ≤ 8) : OrdsG H' (putK kvs (.inr x) (.ref q)) (putG g x os) (S ++ [x]) := fun y hy => by
  unfold putG
  rw [valV_put]
  by_cases e : y = x
  · rw [if_pos e, if_pos (by rw [e])]
    exact ⟨q, rfl, hq, hl⟩
  · rw [if_neg e, if_neg (by intro z; injection z with z; exact e z)]
    have hy' : y ∈ S := by
      rcases List.mem_append.mp hy with h | h
      · exact h
      · exact absurd (List.mem_singleton.mp h) e
    exact h.mono s y hy'
end K25
end
section
set_option autoImplicit false
namespace K25
open PySem PyProof.Rows L2
def jn (ws : List Str) : Str := Txt.join " " ws
theorem txj (sep : Str) (ws : List Str) : Txt.join sep ws = Str.join sep ws := StrLaws.glued_eq_join sep ws
theorem jn_one (x : Str) : jn [x] = x := by
  unfold jn
  rw [txj]
  rfl
theorem jn_cons (x y : Str) (r : List Str) : jn (x :: y :: r) = x ++ " " ++ jn (y :: r) := by
  unfold jn
  rw [txj, txj]
  rfl
theorem jn_cons' (x : Str) {r : List Str} (h : r ≠ []) : jn (x :: r) = x ++ " " ++ jn r := by
  cases r with
  | nil => exact absurd rfl h
  | cons y r => exact jn_cons x y r
theorem jn_app {a b : List Str} (ha : a ≠ []) (hb : b ≠ []) : jn (a ++ b) = jn a ++ " " ++ jn b := by
  induction a with
  | nil => exact absurd rfl ha
  | cons x a ih =>
    cases a with
    | nil => rw [jn_one, List.cons_append, List.nil_append, jn_cons' x hb]
    | cons y a =>
      rw [List.cons_append, jn_cons' x (by simp), jn_cons, ih (List.cons_ne_nil _ _)]
      simp only [Str.append_assoc]
theorem jn_map : ∀ {ls : List (List Str)}, (∀ l ∈ ls, l ≠ []) → jn (ls.map jn) = jn ls.flatten
  | [], _ => rfl
  | [l], _ => by rw [List.map_cons, List.map_nil, jn_one, List.flatten_cons, List.flatten_nil, List.append_nil]
  | l :: m :: ls, h => by
    have ih := jn_map (ls := m :: ls) fun x hx => h x (List.mem_cons_of_mem _ hx)
    have hm := h m (List.mem_cons_of_mem _ List.mem_cons_self)
    have hne : (m :: ls).flatten ≠ [] := fun e => by
      rw [List.flatten_cons] at e
      exact hm (List.append_eq_nil_iff.mp e).1
    rw [List.map_cons, jn_cons' _ (by simp), ih, show (l :: m :: ls).flatten = l ++ (m :: ls).flatten from rfl, jn_app (h l List.mem_cons_self) hne]
def wt (ws : List Str) : Nat := (ws.map fun x => x.length + 1).sum
theorem wt_cons (x : Str) (ws : List Str) : wt (x :: ws) = x.length + 1 + wt ws := by
  unfold wt
  rw [List.map_cons, List.sum_cons]
theorem wt_app (a b : List Str) : wt (a ++ b) = wt a + wt b := by
  unfold wt
  rw [List.map_append, List.sum_append]
theorem wt_sum : ∀ ws : List Str, (ws.map (·.length)).sum + ws.length * 1 = wt ws
  | [] => rfl
  | x :: ws => by
    rw [wt_cons, ← wt_sum ws, List.map_cons, List.sum_cons, List.length_cons]
    omega
theorem jn_len (ws : List Str) : (jn ws).length ≤ wt ws := by
  unfold jn
  rw [txj]
  have := StrLaws.join_length_le " " ws
  have e : (" " : Str).length = 1 := rfl
  rw [e] at this
  have := wt_sum ws
  omega
def nS (i : Int) : Str := (toString i : String)
theorem nS_small : ∀ n : Nat, n ≤ 7 → (nS n).length ≤ 1 := by
  intro n h
  rcases (by omega : n = 0 ∨ n = 1 ∨ n = 2 ∨ n = 3 ∨ n = 4 ∨ n = 5 ∨ n = 6 ∨ n = 7) with rfl | rfl | rfl | rfl | rfl | rfl | rfl | rfl <;> decide +kernel
def nums : List Int := [0, 1, 7, 999999999]
theorem nS_nums : ∀ i ∈ nums, (nS i).length ≤ 9 := by decide +kernel
def isW : List T → Bool
  | .str _ :: _ => true
  | _ => false
mutual
def wdT : T → List Str
  | .non => ["none"]
  | .int i => [nS i]
  | .str x => [x]
  | .tup ts => if isW ts = true then wdL ts else nS ts.length :: wdL ts
def wdL : List T → List Str
  | [] => []
  | t :: ts => wdT t ++ wdL ts
end
theorem wdL_map : ∀ ts : List T, wdL ts = (ts.map wdT).flatten
  | [] => by rw [wdL]; rfl
  | t :: ts => by rw [wdL, wdL_map ts]; rfl
theorem wdT_str (x : Str) : wdT (.str x) = [x] := by rw [wdT]
theorem wdT_tup (w : Str) (ts : List T) : wdT (.tup (.str w :: ts)) = w :: (ts.map wdT).flatten := by
  rw [wdT, if_pos (by rfl), wdL, wdL_map, wdT]
  rfl
def bins : List Str := ["plus", "minus", "less", "alike", "or"]
def ExOk : Nat → T → Prop
  | 0, _ => False
  | n + 1, t => t = .non ∨ (∃ i ∈ nums, t = .int i) ∨ t = .tup [.str "me"] ∨ (∃ w x : Str, (w = "name" ∨ w = "new") ∧ x.length ≤ 100 ∧ t = .tup [.str w, .str x]) ∨ (∃ (e : T) (x : Str), ExOk n e ∧ x.length ≤ 100 ∧ t = .tup [.str "get", e, .str x]) ∨
    (∃ (e : T) (x : Str) (as : List T), ExOk n e ∧ x.length ≤ 100 ∧ (∀ a ∈ as, ExOk n a) ∧ as.length ≤ 3 ∧ t = .tup [.str "ask", e, .str x, .tup as]) ∨ (∃ (x : Str) (as : List T), x.length ≤ 100 ∧ (∀ a ∈ as, ExOk n a) ∧ as.length ≤ 3 ∧ t = .tup [.str "up", .str x, .tup as]) ∨
    (∃ (w : Str) (e1 e2 : T), w ∈ bins ∧ ExOk n e1 ∧ ExOk n e2 ∧ t = .tup [.str w, e1, e2])
theorem ExOk.nstr {n : Nat} {t : T} (h : ExOk n t) : ∀ x, t ≠ .str x := by
  cases n with
  | zero => exact h.elim
  | succ n =>
    intro x e
    subst e
    rcases h with h | ⟨_, _, h⟩ | h | ⟨_, _, _, _, h⟩ | ⟨_, _, _, _, h⟩ | ⟨_, _, _, _, _, _, _, h⟩ | ⟨_, _, _, _, _, h⟩ | ⟨_, _, _, _, _, _, h⟩ <;> cases h
theorem args_wd {n : Nat} {as : List T} (h : ∀ a ∈ as, ExOk n a) : wdT (.tup as) = nS as.length :: (as.map wdT).flatten := by
  have e : isW as = false := by
    cases as with
    | nil => rfl
    | cons a as =>
      have := ExOk.nstr (h a List.mem_cons_self)
      cases a with
      | str x => exact absurd rfl (this x)
      | _ => rfl
  rw [wdT, if_neg (by rw [e]; exact Bool.false_ne_true), wdL_map]
def BE : Nat → Nat
  | 0 => 0
  | n + 1 => 4 * BE n + 110
theorem wt_map {B : Nat} : ∀ {as : List T}, (∀ a ∈ as, wt (wdT a) ≤ B) → wt ((as.map wdT).flatten) ≤ as.length * B
  | [], _ => Nat.zero_le _
  | a :: as, h => by
    rw [List.map_cons, List.flatten_cons, wt_app, List.length_cons, Nat.succ_mul]
    have := wt_map (as := as) fun x hx => h x (List.mem_cons_of_mem _ hx)
    have := h a List.mem_cons_self
    omega
theorem bins_len : ∀ w ∈ bins, w.length ≤ 5 := by decide +kernel
theorem wt_nil : wt [] = 0 := rfl
theorem ExOk.wt : ∀ {n : Nat} {t : T}, ExOk n t → wdT t ≠ [] ∧ K25.wt (wdT t) ≤ BE n
  | 0, _, h => h.elim
  | n + 1, t, h => by
    have hB : BE (n + 1) = 4 * BE n + 110 := rfl
    rcases h with rfl | ⟨i, hi, rfl⟩ | rfl | ⟨w, x, hw, hx, rfl⟩ | ⟨e, x, he, hx, rfl⟩ | ⟨e, x, as, he, hx, ha, hl, rfl⟩ | ⟨x, as, hx, ha, hl, rfl⟩ | ⟨w, e1, e2, hw, h1, h2, rfl⟩
    · rw [wdT]
      refine ⟨List.cons_ne_nil _ _, ?_⟩
      have : K25.wt (["none"] : List Str) = 5 := rfl
      omega
    · rw [wdT]
      refine ⟨List.cons_ne_nil _ _, ?_⟩
      have := nS_nums i hi
      rw [wt_cons, wt_nil]
      omega
    · rw [wdT_tup]
      refine ⟨List.cons_ne_nil _ _, ?_⟩
      have : K25.wt (("me" : Str) :: (([] : List T).map wdT).flatten) = 3 := rfl
      omega
    · rw [wdT_tup]
      refine ⟨List.cons_ne_nil _ _, ?_⟩
      have hw4 : w.length ≤ 4 := by rcases hw with rfl | rfl <;> decide +kernel
      have e : ([T.str x].map wdT).flatten = [x] := by
        show wdT (.str x) ++ [] = _
        rw [wdT_str]
        rfl
      rw [e, wt_cons, wt_cons, wt_nil]
      omega
    · rw [wdT_tup]
      refine ⟨List.cons_ne_nil _ _, ?_⟩
      have ih := (ExOk.wt he).2
      have e3 : ("get" : Str).length = 3 := rfl
      have e : ([e, T.str x].map wdT).flatten = wdT e ++ [x] := by
        show wdT e ++ (wdT (.str x) ++ []) = _
        rw [wdT_str]
        rfl
      rw [e, wt_cons, wt_app, wt_cons, wt_nil]
      omega
    · rw [wdT_tup]
      refine ⟨List.cons_ne_nil _ _, ?_⟩
      have ih := (ExOk.wt he).2
      have e3 : ("ask" : Str).length = 3 := rfl
      have e : ([e, T.str x, T.tup as].map wdT).flatten = wdT e ++ (x :: wdT (.tup as)) := by
        show wdT e ++ (wdT (.str x) ++ (wdT (.tup as) ++ [])) = _
        rw [wdT_str, List.append_nil]
        rfl
      have ia := wt_map (B := BE n) (as := as) fun a h => (ExOk.wt (ha a h)).2
      have im := Nat.mul_le_mul_right (BE n) hl
      have hn := nS_small as.length (by omega)
      rw [e, args_wd ha, wt_cons, wt_app, wt_cons, wt_cons]
      omega
    · rw [wdT_tup]
      refine ⟨List.cons_ne_nil _ _, ?_⟩
      have e3 : ("up" : Str).length = 2 := rfl
      have e : ([T.str x, T.tup as].map wdT).flatten = x :: wdT (.tup as) := by
        show wdT (.str x) ++ (wdT (.tup as) ++ []) = _
        rw [wdT_str, List.append_nil]
        rfl
      have ia := wt_map (B := BE n) (as := as) fun a h => (ExOk.wt (ha a h)).2
      have im := Nat.mul_le_mul_right (BE n) hl
      have hn := nS_small as.length (by omega)
      rw [e, args_wd ha, wt_cons, wt_cons, wt_cons]
      omega
    · rw [wdT_tup]
      refine ⟨List.cons_ne_nil _ _, ?_⟩
      have i1 := (ExOk.wt h1).2
      have i2 := (ExOk.wt h2).2
      have hw5 := bins_len w hw
      have e : ([e1, e2].map wdT).flatten = wdT e1 ++ wdT e2 := by
        show wdT e1 ++ (wdT e2 ++ []) = _
        rw [List.append_nil]
      rw [e, wt_cons, wt_app]
      omega
end K25
end
section
set_option autoImplicit false
namespace L2
open PySem PySem.Spec PyProof.Rows
def RowsI (H : Hp) (us : List V) (tbl : List (List Int)) : Prop := Paired (fun (v : V) (js : List Int) => ∃ a, v = .ref a ∧ H a = some (.tup (js.map V.int))) us tbl
end L2
end
section
set_option autoImplicit false
namespace L2
open PySem PySem.Spec PyProof.Rows
section
variable {prog : Program} {w : World} {A : Around} {E : Value → Shared → Prop} {s : Shared}
end
section
variable {X : Cx}
end
end L2
end
section
set_option autoImplicit false
namespace L2
open PySem PySem.Spec PyProof.Rows
section
variable {X : Cx}
end
end L2
end
section
set_option autoImplicit false
namespace L2
open PySem PySem.Spec PyProof.Rows
end L2
end
section
set_option autoImplicit false
namespace HT
open PySem PySem.Spec PyProof.Rows
section
variable {prog : Program} {w : World} {A : Around} {E : Value → Shared → Prop} {s : Shared}
theorem getItem_tuple_whole {t sl : Addr} {items : Array Value} {vl vu : Value} {lo hi : Option Int} {Q : Value → Shared → Prop} (ht : IsTup s.heap t items) (hs : s.heap.IsSliceOf sl vl vu .none) (pl : IsPart vl lo) (pu : IsPart vu hi)
    (hw : sIx items.size 0 lo = 0 ∧ sIx items.size items.size hi = items.size) (h : Q (.ref t) s) : wpAny (model prog w) A (getItem (.ref t) (.ref sl)) Q E s := by
  obtain ⟨os, hos, hcs, hds⟩ := id hs
  have hTs : s.TypeIs (.ref sl) "slice" := ⟨os, hos, hcs⟩
  unfold getItem
  try with_reducible refine wpAny_holding ?_
  first | refine wpAny_bind (wpAny_pure ?_) | skip
  refine wpAny_bind (wpAny_sequenceKey ht.typeIs (by decide) ?_)
  refine wpAny_bind (wpAny_callSpecial?_slot (name := Str.ofString "__getitem__") ht.typeIs PyProof.Rows.slot_tuple_getitem
    (wpAny_call_entry PyProof.Rows.slot_tuple_getitem ht.typeIs entry_tuple_getitem ?_ (args_tuple_getitem _ _)))
  show wpAny _ _ (Builtin.Tuple.tupleItemsOf (.ref t) >>= _) _ _ s
  refine wpAny_bind (tupleItemsOf_ ht ?_)
  refine wpAny_bind (wpAny_typeOf hTs ?_)
  rw [if_pos (by decide)]
  refine wpAny_bind (sliceApplied_gen hs pl pu ?_)
  have hyes : (((sIx items.size 0 lo : Nat) : Int) == 0 && (1 : Int) == 1 && (sIx items.size items.size hi - sIx items.size 0 lo) == items.size) = true := by
    rw [hw.1, hw.2]
    simp
  show wpAny _ _ (if (((sIx items.size 0 lo : Nat) : Int) == 0 && (1 : Int) == 1 && (sIx items.size items.size hi - sIx items.size 0 lo) == items.size) = true then _ else _) _ _ s
  rw [if_pos hyes]
  unfold Builtin.Tuple.tupleIsExact
  refine wpAny_bind (wpAny_bind (wpAny_typeOf ht.typeIs (wpAny_pure ?_)))
  rw [if_pos (by decide)]
  refine wpAny_bind (wpAny_rule ?_)
  exact wpAny_pure ⟨_, rfl, wpAny_pure h⟩
end
end HT
namespace L2
open PySem PySem.Spec PyProof.Rows
section
variable {X : Cx}
def rSlW (K : PySem.W.Frag) : V → Option Int → Option Int → Hp → VK → Prop := fun x lo hi H Q => ∃ a xs, x = .ref a ∧ H a = some (.tup xs) ∧
  ∀ p H', H' p = some (.tup (cutV xs lo hi)) → Same H H' → Q (.ref p) H'
theorem sl_tupW : SlR X (rSlW X.K) := by
  intro pins s σ H x v vl vu lo hi sl Q I rx hs pl pu h
  obtain ⟨a, xs, rfl, hx, q⟩ := h
  by_cases hw : HT.sIx xs.length 0 lo = 0 ∧ HT.sIx xs.length xs.length hi = xs.length
  · cases rx
    obtain ⟨its, r, ht, hz⟩ := I.tuple (SqT.of (K := X.K) hx)
    have hlen : its.toArray.size = xs.length := by rw [List.size_toArray]; exact r.length.symm
    refine ⟨"tuple", _, PyProof.Rows.slot_tuple_getitem.lookup, ht.typeIs, ?_⟩
    refine HT.getItem_tuple_whole ht hs pl pu (by rw [hlen]; exact hw) ?_
    have e : cutV xs lo hi = xs := by
      unfold cutV
      rw [hw.1, hw.2]
      simp
    exact ⟨.ref a, H, I, rfl, q a H (by rw [e]; exact hx) (Same.refl H)⟩
  · exact sl_tup pins s σ H (.ref a) v vl vu lo hi sl Q I rx hs pl pu ⟨a, xs, rfl, SqT.of hx, hw, fun p hp => q p _ upd_same (Same.new hp)⟩
def rCatW : R2 := fun x y H Q => ∃ a b xs ys, x = .ref a ∧ y = .ref b ∧ H a = some (.tup xs) ∧ H b = some (.tup ys) ∧ xs ≠ [] ∧ xs.length + ys.length ≤ sizeLine ∧ ∀ p H', H' p = some (.tup (xs ++ ys)) → Same H H' → Q (.ref p) H'
theorem op_catW : OpR X (binaryOp .Add) rCatW := by
  intro pins s σ H x y v u Q I rx ry h
  obtain ⟨a, b, xs, ys, rfl, rfl, ha, hb, hne, hz, q⟩ := h
  exact op_catT pins s σ H (.ref a) (.ref b) v u Q I rx ry ⟨a, b, xs, ys, rfl, rfl, SqT.of ha, SqT.of hb, hne, hz, fun e => q a H (by rw [e, List.append_nil]; exact ha) (Same.refl H), fun _ p hp => q p _ upd_same (Same.new hp)⟩
end
end L2
end
section
set_option autoImplicit false
namespace L2
open PySem PySem.Spec PyProof.Rows
section
variable {prog : Program} {w : World} {A : Around} {E : Value → Shared → Prop} {s : Shared}
theorem zipT_end2 {z TI TO i1 i2 t1 t2 : Addr} {k : Nat} {xs ys : Array Value} {x a b : Value} {Q : Fin → Shared → Prop} (hh : A.handled = none) (D : ZA z TI TO i1 i2 t1 t2)
    (hz : IsZip s.heap z TI TO .none) (hTI : IsPair s.heap TI (.ref i1) (.ref i2)) (hTO : IsPair s.heap TO a b) (h1 : s.heap.IsTupleIter i1 t1 k) (h2 : s.heap.IsTupleIter i2 t2 k) (hl1 : s.heap.IsTuple t1 xs) (hl2 : s.heap.IsTuple t2 ys) (hx : xs[k]? = some x) (hy : ys[k]? = none)
    (hE : ∀ h' e, (∀ c o, c ≠ z → c ≠ TO → c ≠ i1 → c ≠ i2 → s.heap.get? c = some o → h'.get? c = some o) → (∃ o, h'.get? e = some o ∧ o.cls = .type "StopIteration") → E (.ref e) { s with heap := h' }) :
    wpAny (model prog w) A (Builtin.«zip.__next__» ⟨[.ref z], []⟩) Q E s := by
  show wpAny _ _ (field (.ref z) 2 >>= _) _ _ _; refine wpAny_bind (wpAny_field hz rfl (x := .bool false) rfl ?_)
  show wpAny _ _ (field (.ref z) 3 >>= _) _ _ _; refine wpAny_bind (wpAny_field hz rfl (x := .ref TI) rfl (wpAny_bind (wpAny_seqItems hTI rfl ?_)))
  show wpAny _ _ (Builtin.SmallTypes.ownedTupleIsFree (.ref z) >>= _) _ _ _
  unfold Builtin.SmallTypes.ownedTupleIsFree
  refine wpAny_bind (wpAny_bind (wpAny_field hz rfl (x := .none) rfl (wpAny_pure ?_)))
  simp only [if_true]
  refine wpAny_bind (wpAny_rule (wpAny_bind (wpAny_field hz rfl (x := .ref TO) rfl (wpAny_bind (wpAny_setField_rec hz (by simp) fun g1 z1 q1 => ?_)))))
  replace z1 : IsZip g1 z TI TO .ellipsis := z1
  simp only [List.zipIdx_cons, List.zipIdx_nil, List.forIn_cons, List.forIn_nil]
  refine wpAny_bind (wpAny_bind (wpAny_bind (wpAny_onRaise ?_)))
  show wpAny _ _ (Builtin.SmallTypes.nextOf (.ref i1) >>= _) _ _ _
  refine wpAny_bind (nextT_item (h1.extBut q1.extBut D.a3) (hl1.extBut q1.extBut D.b2) hx fun g2 j2 q2 => wpAny_pure ?_)
  have p2 : IsPair g2 TO a b := q2.extBut _ _ D.a8 (q1.extBut _ _ D.a2 hTO)
  refine wpAny_bind (wpAny_seqItems p2 rfl (wpAny_bind (wpAny_updateSeq_pair p2 fun g3 p3 q3 => wpAny_bind (wpAny_letGo (wpAny_pure ?_)))))
  refine wpAny_bind (wpAny_bind (wpAny_onRaise ?_))
  show wpAny _ _ (Builtin.SmallTypes.nextOf (.ref i2) >>= _) _ _ _
  refine wpAny_bind (nextT_end hh (((h2.extBut q1.extBut D.a4).extBut q2.extBut D.b1.symm).extBut q3.extBut D.a9.symm) (((hl2.extBut q1.extBut D.b6).extBut q2.extBut D.b8).extBut q3.extBut D.b7) hy fun g4 e q4 ⟨oe, e1, e2⟩ => ?_)
  have z4 : IsZip g4 z TI TO .ellipsis := q4 _ _ D.a4.symm (q3.extBut _ _ D.a2.symm (q2.extBut _ _ D.a3.symm z1))
  have hez : e ≠ z := fun x => by subst x; rw [z4] at e1; cases e1; simp at e2
  exact wpAny_setField_rec z4 (by simp) fun g5 _ q5 => hE g5 e (fun c o c1 c2 c3 c4 x => q5.extBut _ _ c1 (q4 _ _ c4 (q3.extBut _ _ c2 (q2.extBut _ _ c3 (q1.extBut _ _ c1 x))))) ⟨oe, q5.extBut _ _ hez e1, e2⟩
end
def Itz2 (K : PySem.W.Frag) (t1 t2 : Addr) : It :=
  ⟨fun i H => ∃ xs ys x y, SqT K H t1 xs ∧ SqT K H t2 ys ∧ xs[i]? = some x ∧ ys[i]? = some y, fun i H v H' => ∃ p, H p = none ∧ v = .ref p ∧ ∀ xs ys x y, SqT K H t1 xs → SqT K H t2 ys → xs[i]? = some x → ys[i]? = some y → H' = upd H p (.tup [x, y]),
    fun i H => ∃ xs ys, SqT K H t1 xs ∧ SqT K H t2 ys ∧ (xs.length ≤ i ∨ ys.length ≤ i)⟩
theorem turn_zip2 {P : Program} {w : World} {K : PySem.W.Frag} {elts : List Expr} {x1 : Nat} {tpos : Pos} {z TI TO i1 i2 t1 t2 : Addr} (D : ZA z TI TO i1 i2 t1 t2) : Turn P w K (.Tuple elts x1 tpos) (Itz2 K t1 t2) [z, TI, TO, i1, i2] z
    (fun i h => IsZip h z TI TO .none ∧ IsPair h TI (.ref i1) (.ref i2) ∧ (∃ a b, IsPair h TO a b) ∧ h.IsTupleIter i1 t1 i ∧ h.IsTupleIter i2 t2 i) where
  mem := (turn_zip (P := P) (w := w) (K := K) (elts := elts) (x1 := x1) (tpos := tpos) D).mem
  obj := (turn_zip (P := P) (w := w) (K := K) (elts := elts) (x1 := x1) (tpos := tpos) D).obj
  keep := (turn_zip (P := P) (w := w) (K := K) (elts := elts) (x1 := x1) (tpos := tpos) D).keep
  item := (turn_zip (P := P) (w := w) (K := K) (elts := elts) (x1 := x1) (tpos := tpos) D).item
  done := by
    intro X hP hw hK hc i pins s σ H E I hf st hg
    subst hP hw hK
    obtain ⟨xs, ys, q1, q2, e1⟩ := hg
    by_cases hx : xs.length ≤ i
    · exact (turn_zip (P := X.prog) (w := X.w) (K := X.K) (elts := elts) (x1 := x1) (tpos := tpos) D).done X rfl rfl rfl hc i pins s σ H E I hf st ⟨xs, q1, hx⟩
    · have hy := e1.resolve_left hx
      obtain ⟨its, rv, p, hz'⟩ := I.tuple q1
      obtain ⟨jts, rw', p', hz''⟩ := I.tuple q2
      have hl := rv.length
      have hl2 := rw'.length
      have hxi : i < xs.length := by omega
      obtain ⟨u, hu, ru⟩ := rv.get (List.getElem?_eq_getElem hxi)
      obtain ⟨hz, hTI, ⟨a, c, hTO⟩, h1, h2⟩ := st
      have hT : s.TypeIs (.ref z) "zip" := ⟨_, hz, rfl⟩
      unfold pyNext
      refine wpAny_bind (wpAny_attempt (wpAny_callSpecial?_slot (name := Str.ofString "__next__") hT F.slot_zip_next (wpAny_call_entry F.slot_zip_next hT F.entry_zip_next
        (zipT_end2 (I.ok.hd hc) D hz hTI hTO h1 h2 (show s.heap.IsTuple t1 its.toArray from p) (show s.heap.IsTuple t2 jts.toArray from p') (x := u) (by simpa using hu) (by simp; omega) fun h' e kk ⟨o, ho, hcl⟩ => ?_) (F.args_zip_next_1 _))))
      refine wpAny_bind (wpAny_isInstance (T := "StopIteration") (b := true) ⟨o, ho, hcl⟩ isSubtype_stop (wpAny_pure ⟨rfl, I.turnedL (t' := s.toks) hf fun b u hb q => ?_⟩))
      simp only [List.mem_cons, List.not_mem_nil, or_false, not_or] at hb
      exact kk b u hb.1 hb.2.2.1 hb.2.2.2.1 hb.2.2.2.2 q
  self := (turn_zip (P := P) (w := w) (K := K) (elts := elts) (x1 := x1) (tpos := tpos) D).self
section
variable {X : Cx}
def iZip2 (K : PySem.W.Frag) (ta : TA) : TI := fun σ H R => ta σ H fun vs H1 => ∃ a b xs ys, vs = [.ref a, .ref b] ∧ SqT K H1 a xs ∧ SqT K H1 b ys ∧ R (Itz2 K a b) H1
theorem pi_zip2 {elts : List Expr} {x1 : Nat} {tpos : Pos} {a b : Expr} {ta : TA} {p pos : Pos} (hg : Gl X "zip") (hm : X.mg "zip" = none) (ha : PA X [a, b] ta)
    (he : starEach [a, b] X.env = (false, eval a X.env) :: starEach [b] X.env := by rfl) (hpl : (backTo pos (starEach [b] X.env)).any (·.1) = false := by rfl) : PI X (.Tuple elts x1 tpos) (.Call (.Name "zip" p) [a, b] [] pos) (iZip2 X.K ta) := by
  intro pins s σ H R I h
  refine wpAny_Call_Name_kw (ld_blt I hg hm boot_zip ?_)
  refine PyProof.Rows.callWith_type1 (thn (ha pos pins s σ H _ I h) fun us s1 ⟨vs, H1, I1, r1, t1, t2, xs, ys, e, q1, q2, q⟩ => ?_) he hpl
  subst e
  obtain ⟨u, w', rfl, ru, rw'⟩ := vals2 r1
  cases ru
  cases rw'
  obtain ⟨its, rv, p1, hz1⟩ := I1.tuple q1
  obtain ⟨jts, rv2, p2, hz2⟩ := I1.tuple q2
  refine zq_call (show s1.heap.IsTuple t1 its.toArray from p1) (show s1.heap.IsTuple t2 jts.toArray from p2) ?_
  have b1 : (zq1 s1.heap t1).objs.size = s1.heap.objs.size + 1 := Heap.size_push ..
  have b2 : (zq2 s1.heap t1 t2).objs.size = s1.heap.objs.size + 2 := by rw [Heap.size_push, b1]
  have b3 : (zq3 s1.heap t1 t2).objs.size = s1.heap.objs.size + 3 := by rw [Heap.size_push, b2]
  have b4 : (zq4 s1.heap t1 t2).objs.size = s1.heap.objs.size + 4 := by rw [Heap.size_push, b3]
  have c1 : t1 < s1.heap.objs.size := p1.lt
  have c2 : t2 < s1.heap.objs.size := p2.lt
  have hz : IsZip (zq5 s1.heap t1 t2) (zq4 s1.heap t1 t2).objs.size (zq2 s1.heap t1 t2).objs.size (zq3 s1.heap t1 t2).objs.size .none := Heap.get?_push_size _ rfl
  have DD : ZA (zq4 s1.heap t1 t2).objs.size (zq2 s1.heap t1 t2).objs.size (zq3 s1.heap t1 t2).objs.size s1.heap.objs.size (zq1 s1.heap t1).objs.size t1 t2 := by
    rw [b4, b2, b3, b1]
    exact za_of c1 c2
  refine wpAny_pyIter_zip hz ?_
  have I2 : Inv X pins σ H1 { s1 with heap := zq5 s1.heap t1 t2 } := I1.kept (t' := s1.toks) fun b o e => Heap.get?_push_of_some _ (Heap.get?_push_of_some _ (Heap.get?_push_of_some _ (Heap.get?_push_of_some _ (Heap.get?_push_of_some _ e))))
  refine ⟨(zq4 s1.heap t1 t2).objs.size, [(zq4 s1.heap t1 t2).objs.size, (zq2 s1.heap t1 t2).objs.size, (zq3 s1.heap t1 t2).objs.size, s1.heap.objs.size, (zq1 s1.heap t1).objs.size], _, Itz2 X.K t1 t2, H1, rfl, I2,
    turn_zip2 DD, ⟨hz, ?_, ⟨.none, .none, ?_⟩, ?_, ?_⟩, fun b hb => ?_, q⟩
  · exact Heap.get?_push_of_some _ (Heap.get?_push_of_some _ (Heap.get?_push_size _ rfl))
  · exact Heap.get?_push_of_some _ (Heap.get?_push_size _ rfl)
  · exact ⟨_, Heap.get?_push_of_some _ (Heap.get?_push_of_some _ (Heap.get?_push_of_some _ (Heap.get?_push_of_some _ (Heap.get?_push_size _ rfl)))), rfl, rfl⟩
  · exact ⟨_, Heap.get?_push_of_some _ (Heap.get?_push_of_some _ (Heap.get?_push_of_some _ (Heap.get?_push_size _ rfl))), rfl, rfl⟩
  · have hle : s1.heap.objs.size ≤ b := by
      rw [b4, b2, b3, b1] at hb
      simp only [List.mem_cons, List.not_mem_nil, or_false] at hb
      rcases hb with h | h | h | h | h <;> rw [h] <;> first | exact Nat.le_refl _ | exact Nat.le_add_right _ _
    exact I1.fpOk hle (I1.hok.fresh hle)
end
theorem for_zip2 {K : PySem.W.Frag} {a b : Addr} {xs ys : List V} {n : Nat} {g : TG} {tb : TS} {D : Ends} {σ : St} {H : Hp} (hn : n = min xs.length ys.length) (Pv : Nat → St → Hp → Prop) (h0 : Pv 0 σ H) (hl : ∀ i σ H, i ≤ n → Pv i σ H → SqT K H a xs ∧ SqT K H b ys)
    (hs : ∀ i x y σ H p, xs[i]? = some x → ys[i]? = some y → Pv i σ H → H p = none → g (.ref p) σ (upd H p (.tup [x, y])) fun σ2 H2 => tb { D with nx := Pv (i + 1), ct := Pv (i + 1), bk := D.nx } σ2 H2) (hd : ∀ σ H, Pv n σ H → D.nx σ H) :
    ∃ W : Nat → Nat → St → Hp → Prop, (∃ m, W 0 m σ H) ∧ ∀ i m σ H, W i m σ H →
      ((Itz2 K a b).stop i H ∧ D.nx σ H) ∨ ((Itz2 K a b).go i H ∧ ∃ N : St → Hp → Prop, (∀ σ' H', N σ' H' → ∃ m', m' < m ∧ W (i + 1) m' σ' H') ∧ ∀ x H', (Itz2 K a b).yld i H x H' → g x σ H' fun σ2 H2 => tb { D with nx := N, ct := N, bk := D.nx } σ2 H2) := by
  refine ⟨fun i m σ H => m = n - i ∧ i ≤ n ∧ Pv i σ H, ⟨n, by simp, Nat.zero_le _, h0⟩, ?_⟩
  rintro i m σ H ⟨rfl, hi, p⟩
  obtain ⟨q1, q2⟩ := hl i σ H hi p
  by_cases hlt : i < n
  · have hx : i < xs.length := by omega
    have hy : i < ys.length := by omega
    refine .inr ⟨⟨xs, ys, xs[i], ys[i], q1, q2, List.getElem?_eq_getElem hx, List.getElem?_eq_getElem hy⟩, Pv (i + 1), fun σ' H' p' => ⟨n - (i + 1), by omega, rfl, hlt, p'⟩, fun x H' y => ?_⟩
    obtain ⟨r, hr, rfl, y⟩ := y
    have e := y xs ys xs[i] ys[i] q1 q2 (List.getElem?_eq_getElem hx) (List.getElem?_eq_getElem hy)
    subst e
    exact hs i xs[i] ys[i] σ _ r (List.getElem?_eq_getElem hx) (List.getElem?_eq_getElem hy) p hr
  · have e : i = n := by omega
    subst e
    exact .inl ⟨⟨xs, ys, q1, q2, by omega⟩, hd σ H p⟩
end L2
end
section
set_option autoImplicit false
namespace L2
open PySem PySem.Spec PyProof.Rows
section
variable {prog : Program} {w : World} {A : Around} {E : Value → Shared → Prop} {s : Shared}
theorem zipM_item {z TI TO i1 i2 t1 t2 : Addr} {k : Nat} {xs ys : Array Value} {x y a b : Value} {Q : Value → Shared → Prop} (D : ZA z TI TO i1 i2 t1 t2)
    (hz : IsZip s.heap z TI TO .none) (hTI : IsPair s.heap TI (.ref i1) (.ref i2)) (hTO : IsPair s.heap TO a b) (h1 : s.heap.IsListIter i1 t1 k) (h2 : s.heap.IsTupleIter i2 t2 k)
    (hl1 : s.heap.IsList t1 xs) (hl2 : s.heap.IsTuple t2 ys) (hx : xs[k]? = some x) (hy : ys[k]? = some y)
    (hQ : ∀ h', IsZip h' z TI TO (rawInt s.heap.objs.size) → IsPair h' TO x y → h'.IsListIter i1 t1 (k + 1) → h'.IsTupleIter i2 t2 (k + 1) → IsPair h' s.heap.objs.size x y →
      (∀ c o, c ≠ z → c ≠ TO → c ≠ i1 → c ≠ i2 → s.heap.get? c = some o → h'.get? c = some o) → Q (.ref s.heap.objs.size) { s with heap := h' }) :
    wpAny (model prog w) A (Builtin.«zip.__next__» ⟨[.ref z], []⟩) (fun fin s' => ∃ v, fin = .done (.ret v) ∧ Q v s') E s := by
  show wpAny _ _ (field (.ref z) 2 >>= _) _ _ _; refine wpAny_bind (wpAny_field hz rfl (x := .bool false) rfl ?_)
  show wpAny _ _ (field (.ref z) 3 >>= _) _ _ _; refine wpAny_bind (wpAny_field hz rfl (x := .ref TI) rfl (wpAny_bind (wpAny_seqItems hTI rfl ?_)))
  show wpAny _ _ (Builtin.SmallTypes.ownedTupleIsFree (.ref z) >>= _) _ _ _
  unfold Builtin.SmallTypes.ownedTupleIsFree
  refine wpAny_bind (wpAny_bind (wpAny_field hz rfl (x := .none) rfl (wpAny_pure ?_)))
  simp only [if_true]
  refine wpAny_bind (wpAny_rule (wpAny_bind (wpAny_field hz rfl (x := .ref TO) rfl (wpAny_bind (wpAny_setField_rec hz (by simp) fun g1 z1 q1 => ?_)))))
  replace z1 : IsZip g1 z TI TO .ellipsis := z1
  simp only [List.zipIdx_cons, List.zipIdx_nil, List.forIn_cons, List.forIn_nil]
  refine wpAny_bind (wpAny_bind (wpAny_bind (wpAny_onRaise ?_)))
  show wpAny _ _ (Builtin.SmallTypes.nextOf (.ref i1) >>= _) _ _ _
  refine wpAny_bind (wpAny_nextOf_list_item (h1.extBut q1.extBut D.a3) (hl1.extBut q1.extBut D.b2) hx fun g2 j2 q2 => wpAny_pure ?_)
  have p2 : IsPair g2 TO a b := q2.extBut _ _ D.a8 (q1.extBut _ _ D.a2 hTO)
  refine wpAny_bind (wpAny_seqItems p2 rfl (wpAny_bind (wpAny_updateSeq_pair p2 fun g3 p3 q3 => wpAny_bind (wpAny_letGo (wpAny_pure ?_)))))
  replace p3 : IsPair g3 TO x b := p3
  refine wpAny_bind (wpAny_bind (wpAny_onRaise ?_))
  show wpAny _ _ (Builtin.SmallTypes.nextOf (.ref i2) >>= _) _ _ _
  refine wpAny_bind (nextT_item (((h2.extBut q1.extBut D.a4).extBut q2.extBut D.b1.symm).extBut q3.extBut D.a9.symm) (((hl2.extBut q1.extBut D.b6).extBut q2.extBut D.b8).extBut q3.extBut D.b7) hy fun g4 j4 q4 => wpAny_pure ?_)
  have p4 : IsPair g4 TO x b := q4.extBut _ _ D.a9 p3
  refine wpAny_bind (wpAny_seqItems p4 rfl (wpAny_bind (wpAny_updateSeq_pair p4 fun g5 p5 q5 => wpAny_bind (wpAny_letGo (wpAny_pure (wpAny_pure ?_))))))
  replace p5 : IsPair g5 TO x y := p5
  refine wpAny_bind (wpAny_seqItems p5 rfl (wpAny_bind (wpAny_newTuple ?_)))
  have sz : g5.objs.size = s.heap.objs.size := by rw [q5.1, q4.1, q3.1, q2.1, q1.1]
  have z5 : IsZip g5 z TI TO .ellipsis := q5.extBut _ _ D.a2.symm (q4.extBut _ _ D.a4.symm (q3.extBut _ _ D.a2.symm (q2.extBut _ _ D.a3.symm z1)))
  have k5 : ∀ c o, c ≠ z → c ≠ TO → c ≠ i1 → c ≠ i2 → s.heap.get? c = some o → g5.get? c = some o := fun c o c1 c2 c3 c4 e => q5.extBut _ _ c2 (q4.extBut _ _ c4 (q3.extBut _ _ c2 (q2.extBut _ _ c3 (q1.extBut _ _ c1 e))))
  have j5 : g5.IsListIter i1 t1 (k + 1) := ((j2.extBut q3.extBut D.a8.symm).extBut q4.extBut D.b1).extBut q5.extBut D.a8.symm
  have l5 : g5.IsTupleIter i2 t2 (k + 1) := j4.extBut q5.extBut D.a9.symm
  have zl : z < g5.objs.size := Heap.lt_size z5
  show wpAny _ _ (Builtin.SmallTypes.ownedTupleHandOut (.ref z) (.ref g5.objs.size) >>= _) _ _ _
  refine wpAny_bind ?_
  unfold Builtin.SmallTypes.ownedTupleHandOut
  have z6 : IsZip (g5.push { cls := .type "tuple", data := .seq #[x, y] }) z TI TO .ellipsis := Heap.get?_push_of_some _ z5
  refine wpAny_bind (wpAny_setField_rec z6 (by simp) fun g7 z7 q7 => ?_)
  replace z7 : IsZip g7 z TI TO (rawInt g5.objs.size) := z7
  refine wpAny_setField_rec z7 (by simp) fun g8 z8 q8 => ?_
  replace z8 : IsZip g8 z TI TO (rawInt g5.objs.size) := z8
  have up : ∀ c o, c ≠ z → g5.get? c = some o → g8.get? c = some o := fun c o c1 e => q8.extBut _ _ c1 (q7.extBut _ _ c1 (Heap.get?_push_of_some _ e))
  have n8 : IsPair g8 g5.objs.size x y := q8.extBut _ _ (Nat.ne_of_gt zl) (q7.extBut _ _ (Nat.ne_of_gt zl) (Heap.get?_push_size _ rfl))
  rw [sz] at z8 n8
  refine wpAny_pure ⟨_, rfl, ?_⟩
  show Q (.ref g5.objs.size) _
  rw [sz]
  refine hQ g8 z8 (up _ _ D.a2 p5) ?_ ?_ n8 fun c o c1 c2 c3 c4 e => up c o c1 (k5 c o c1 c2 c3 c4 e)
  · obtain ⟨o, e, r⟩ := j5; exact ⟨o, up _ o D.a3 e, r⟩
  · obtain ⟨o, e, r⟩ := l5; exact ⟨o, up _ o D.a4 e, r⟩
theorem zipM_end {z TI TO i1 i2 t1 t2 : Addr} {k : Nat} {xs : Array Value} {a b : Value} {Q : Fin → Shared → Prop} (hh : A.handled = none) (D : ZA z TI TO i1 i2 t1 t2)
    (hz : IsZip s.heap z TI TO .none) (hTI : IsPair s.heap TI (.ref i1) (.ref i2)) (hTO : IsPair s.heap TO a b) (h1 : s.heap.IsListIter i1 t1 k) (hl1 : s.heap.IsList t1 xs) (hx : xs[k]? = none)
    (hE : ∀ h' e, (∀ c o, c ≠ z → c ≠ TO → c ≠ i1 → c ≠ i2 → s.heap.get? c = some o → h'.get? c = some o) → (∃ o, h'.get? e = some o ∧ o.cls = .type "StopIteration") → E (.ref e) { s with heap := h' }) :
    wpAny (model prog w) A (Builtin.«zip.__next__» ⟨[.ref z], []⟩) Q E s := by
  show wpAny _ _ (field (.ref z) 2 >>= _) _ _ _; refine wpAny_bind (wpAny_field hz rfl (x := .bool false) rfl ?_)
  show wpAny _ _ (field (.ref z) 3 >>= _) _ _ _; refine wpAny_bind (wpAny_field hz rfl (x := .ref TI) rfl (wpAny_bind (wpAny_seqItems hTI rfl ?_)))
  show wpAny _ _ (Builtin.SmallTypes.ownedTupleIsFree (.ref z) >>= _) _ _ _
  unfold Builtin.SmallTypes.ownedTupleIsFree
  refine wpAny_bind (wpAny_bind (wpAny_field hz rfl (x := .none) rfl (wpAny_pure ?_)))
  simp only [if_true]
  refine wpAny_bind (wpAny_rule (wpAny_bind (wpAny_field hz rfl (x := .ref TO) rfl (wpAny_bind (wpAny_setField_rec hz (by simp) fun g1 z1 q1 => ?_)))))
  replace z1 : IsZip g1 z TI TO .ellipsis := z1
  simp only [List.zipIdx_cons, List.zipIdx_nil, List.forIn_cons, List.forIn_nil]
  refine wpAny_bind (wpAny_bind (wpAny_bind (wpAny_onRaise ?_)))
  show wpAny _ _ (Builtin.SmallTypes.nextOf (.ref i1) >>= _) _ _ _
  refine wpAny_bind (wpAny_nextOf_list_end hh (h1.extBut q1.extBut D.a3) (hl1.extBut q1.extBut D.b2) hx fun g2 e q2 ⟨oe, e1, e2⟩ => ?_)
  have z2 : IsZip g2 z TI TO .ellipsis := q2 _ _ D.a3.symm z1
  have hez : e ≠ z := fun x => by subst x; rw [z2] at e1; cases e1; simp at e2
  exact wpAny_setField_rec z2 (by simp) fun g3 _ q3 => hE g3 e (fun c o c1 _ c3 _ x => q3.extBut _ _ c1 (q2 _ _ c3 (q1.extBut _ _ c1 x))) ⟨oe, q3.extBut _ _ hez e1, e2⟩
end
def ItzM (K : PySem.W.Frag) (t1 t2 : Addr) : It :=
  ⟨fun i H => ∃ xs ys x y, SqL K H t1 xs ∧ SqT K H t2 ys ∧ xs[i]? = some x ∧ ys[i]? = some y, fun i H v H' => ∃ p, H p = none ∧ v = .ref p ∧ ∀ xs ys x y, SqL K H t1 xs → SqT K H t2 ys → xs[i]? = some x → ys[i]? = some y → H' = upd H p (.tup [x, y]),
    fun i H => ∃ xs, SqL K H t1 xs ∧ xs.length ≤ i⟩
theorem turn_zipM {P : Program} {w : World} {K : PySem.W.Frag} {elts : List Expr} {x1 : Nat} {tpos : Pos} {z TI TO i1 i2 t1 t2 : Addr} (D : ZA z TI TO i1 i2 t1 t2) : Turn P w K (.Tuple elts x1 tpos) (ItzM K t1 t2) [z, TI, TO, i1, i2] z
    (fun i h => IsZip h z TI TO .none ∧ IsPair h TI (.ref i1) (.ref i2) ∧ (∃ a b, IsPair h TO a b) ∧ h.IsListIter i1 t1 i ∧ h.IsTupleIter i2 t2 i) where
  mem := by simp
  obj := fun i h st b hb => by
    obtain ⟨hz, hTI, ⟨a, c, hTO⟩, ⟨o1, e1, _, d1⟩, ⟨o2, e2, _, d2⟩⟩ := st
    simp only [List.mem_cons, List.not_mem_nil, or_false] at hb
    rcases hb with rfl | rfl | rfl | rfl | rfl
    · exact ⟨_, hz, fun v q => nomatch q⟩
    · exact ⟨_, hTI, fun v q => nomatch q⟩
    · exact ⟨_, hTO, fun v q => nomatch q⟩
    · exact ⟨_, e1, fun v q => by rw [d1] at q; cases q⟩
    · exact ⟨_, e2, fun v q => by rw [d2] at q; cases q⟩
  keep := fun i h h' st k => by
    obtain ⟨hz, hTI, ⟨a, c, hTO⟩, ⟨o1, e1, r1⟩, ⟨o2, e2, r2⟩⟩ := st
    exact ⟨k z (by simp) _ hz, k TI (by simp) _ hTI, ⟨a, c, k TO (by simp) _ hTO⟩, ⟨o1, k i1 (by simp) _ e1, r1⟩, ⟨o2, k i2 (by simp) _ e2, r2⟩⟩
  item := by
    intro X hP hw hK hc i pins s σ H E I hf st hg
    subst hP hw hK
    obtain ⟨xs, ys, x, y, q1, q2, e1, e2⟩ := hg
    obtain ⟨its, rv, p, hz'⟩ := I.list q1
    obtain ⟨jts, rw', p', hz''⟩ := I.tuple q2
    obtain ⟨u, hu, ru⟩ := rv.get e1
    obtain ⟨u', hu', ru'⟩ := rw'.get e2
    obtain ⟨hz, hTI, ⟨a, c, hTO⟩, h1, h2⟩ := st
    have hT : s.TypeIs (.ref z) "zip" := ⟨_, hz, rfl⟩
    unfold pyNext
    refine wpAny_bind (wpAny_attempt (wpAny_callSpecial?_slot (name := Str.ofString "__next__") hT F.slot_zip_next (wpAny_call_entry F.slot_zip_next hT F.entry_zip_next
      (zipM_item D hz hTI hTO h1 h2 p.isList (show s.heap.IsTuple t2 jts.toArray from p') (x := u) (y := u') (by simpa using hu) (by simpa using hu') fun h' a1 a2 a3 a4 a5 a6 => wpAny_pure ?_) (F.args_zip_next_1 _))))
    refine ⟨_, rfl, wpAny_letOwnedTupleGo_zip a1 fun h2' a1' q' => ?_⟩
    have hn : H s.heap.objs.size = none := I.hok.fresh (Nat.le_refl _)
    have zlt : z < s.heap.objs.size := Heap.lt_size hz
    have tlt : TO < s.heap.objs.size := Heap.lt_size hTO
    have i1lt : i1 < s.heap.objs.size := by obtain ⟨_, e, _⟩ := h1; exact Heap.lt_size e
    have i2lt : i2 < s.heap.objs.size := by obtain ⟨_, e, _⟩ := h2; exact Heap.lt_size e
    have kk : ∀ b ob, b ∉ [z, TI, TO, i1, i2] → s.heap.get? b = some ob → h2'.get? b = some ob := fun b ob hb e => by
      simp only [List.mem_cons, List.not_mem_nil, or_false, not_or] at hb
      exact q'.extBut _ _ hb.1 (a6 b ob hb.1 hb.2.2.1 hb.2.2.2.1 hb.2.2.2.2 e)
    have I1 : Inv X pins σ (upd H s.heap.objs.size (.tup [x, y])) { s with heap := h2' } := I.turnLaid (t' := s.toks) hf kk (Nat.le_refl _)
      ⟨⟨by show 2 ≤ sizeLine; decide, fun o e => by rw [q'.extBut _ _ (Nat.ne_of_gt zlt) a5] at e; cases e; rfl⟩, [u, u'], .cons ru (.cons ru' .nil), ⟨_, q'.extBut _ _ (Nat.ne_of_gt zlt) a5, rfl, _, rfl⟩⟩
    refine ⟨.ref s.heap.objs.size, _, I1, rfl, ⟨_, hn, rfl, fun xs' ys' x' y' k1 k2 k3 k4 => ?_⟩, ⟨a1', q'.extBut _ _ D.a1 (a6 _ _ D.a1 D.a5 D.a6 D.a7 hTI), ⟨_, _, q'.extBut _ _ D.a2 a2⟩, a3.extBut q'.extBut D.a3, a4.extBut q'.extBut D.a4⟩, fun b hb => ?_⟩
    · rw [I.list_inj k1 q1, e1] at k3
      rw [I.tuple_inj k2 q2, e2] at k4
      cases k3
      cases k4
      rfl
    · have hb' := hb
      simp only [List.mem_cons, List.not_mem_nil, or_false] at hb'
      have hlt : b < s.heap.objs.size := by
        rcases hb' with rfl | rfl | rfl | rfl | rfl
        · exact zlt
        · exact Heap.lt_size hTI
        · exact tlt
        · exact i1lt
        · exact i2lt
      rw [upd_ne (Nat.ne_of_lt hlt)]
      exact (hf b hb).1
  done := by
    intro X hP hw hK hc i pins s σ H E I hf st hg
    subst hP hw hK
    obtain ⟨xs, q1, e1⟩ := hg
    obtain ⟨its, rv, p, hz'⟩ := I.list q1
    obtain ⟨hz, hTI, ⟨a, c, hTO⟩, h1, h2⟩ := st
    have hT : s.TypeIs (.ref z) "zip" := ⟨_, hz, rfl⟩
    have hl := rv.length
    unfold pyNext
    refine wpAny_bind (wpAny_attempt (wpAny_callSpecial?_slot (name := Str.ofString "__next__") hT F.slot_zip_next (wpAny_call_entry F.slot_zip_next hT F.entry_zip_next
      (zipM_end (I.ok.hd hc) D hz hTI hTO h1 p.isList (by simp; omega) fun h' e kk ⟨o, ho, hcl⟩ => ?_) (F.args_zip_next_1 _))))
    refine wpAny_bind (wpAny_isInstance (T := "StopIteration") (b := true) ⟨o, ho, hcl⟩ isSubtype_stop (wpAny_pure ⟨rfl, I.turnedL (t' := s.toks) hf fun b u hb q => ?_⟩))
    simp only [List.mem_cons, List.not_mem_nil, or_false, not_or] at hb
    exact kk b u hb.1 hb.2.2.1 hb.2.2.2.1 hb.2.2.2.2 q
  self := fun _ _ _ _ _ st h => wpAny_pyIter_zip st.1 h
abbrev zr1 (h : Heap) (l1 : Addr) : Heap := h.push { cls := .type "list_iterator", data := .fields #[.ref l1, .int 0 0] }
abbrev zr2 (h : Heap) (l1 l2 : Addr) : Heap := (zr1 h l1).push { cls := .type "tuple_iterator", data := .fields #[.ref l2, .int 0 0] }
abbrev zr3 (h : Heap) (l1 l2 : Addr) : Heap := (zr2 h l1 l2).push { cls := .type "tuple", data := .seq #[.ref h.objs.size, .ref (zr1 h l1).objs.size] }
abbrev zr4 (h : Heap) (l1 l2 : Addr) : Heap := (zr3 h l1 l2).push { cls := .type "tuple", data := .seq #[.none, .none] }
abbrev zr5 (h : Heap) (l1 l2 : Addr) : Heap := (zr4 h l1 l2).push { cls := .type "zip", data := .fields #[.none, .bool false, .bool false, .ref (zr2 h l1 l2).objs.size, .ref (zr3 h l1 l2).objs.size] }
theorem zr_new (l1 l2 : Addr) (xs ys : Array Value) : Meets (Builtin.«zip.__new__» ⟨[.type "zip", .ref l1, .ref l2], []⟩) (fun _ R s => s.heap.IsList l1 xs ∧ s.heap.IsTuple l2 ys ∧ R (.ok (.ret (.ref (zr4 s.heap l1 l2).objs.size))) { s with heap := zr5 s.heap l1 l2 }) :=
  .of_wp fun prog w A R s h => by
    obtain ⟨hp, g, d, tk, os⟩ := s
    obtain ⟨hl1, hl2, h⟩ := h
    have hsub := sub_zip
    have hL1 : Heap.IsList (Shared.heap ⟨hp, g, d, tk, os⟩) l1 xs := hl1
    have hL2 : Heap.IsTuple (Shared.heap ⟨hp.push { cls := .type "list_iterator", data := .fields #[.ref l1, .int 0 0] }, g, d, tk, os⟩) l2 ys := Heap.IsTuple.push hl2 _
    wp_walk using wpAny_pyIter_list hL1, wpAny_pyIter_tuple hL2
    exact ⟨_, rfl, h⟩
theorem zr_call {prog : Program} {w : World} {A : Around} {E : Value → Shared → Prop} {s : Shared} {l1 l2 : Addr} {xs ys : Array Value} {Q : Value → Shared → Prop} (hl1 : s.heap.IsList l1 xs) (hl2 : s.heap.IsTuple l2 ys)
    (h : Q (.ref (zr4 s.heap l1 l2).objs.size) { s with heap := zr5 s.heap l1 l2 }) : wpAny (model prog w) A (call (.type "zip") [.ref l1, .ref l2]) Q E s := by
  refine callType_new F.called_zip (by decide) (F.typeCall_zip_2 _ _) (F.newCall_zip_2 _ _) (fun obj => F.args_object_init_3 obj _ _) F.entry_zip_new (zr_new l1 l2 xs ys) ⟨hl1, hl2, ?_⟩
  show _ ∧ _
  exact ⟨⟨_, Heap.get?_push_size _ rfl, rfl⟩, h⟩
section
variable {X : Cx}
def iZipM (K : PySem.W.Frag) (ta : TA) : TI := fun σ H R => ta σ H fun vs H1 => ∃ a b xs ys, vs = [.ref a, .ref b] ∧ SqL K H1 a xs ∧ SqT K H1 b ys ∧ R (ItzM K a b) H1
theorem pi_zipM {elts : List Expr} {x1 : Nat} {tpos : Pos} {a b : Expr} {ta : TA} {p pos : Pos} (hg : Gl X "zip") (hm : X.mg "zip" = none) (ha : PA X [a, b] ta)
    (he : starEach [a, b] X.env = (false, eval a X.env) :: starEach [b] X.env := by rfl) (hpl : (backTo pos (starEach [b] X.env)).any (·.1) = false := by rfl) : PI X (.Tuple elts x1 tpos) (.Call (.Name "zip" p) [a, b] [] pos) (iZipM X.K ta) := by
  intro pins s σ H R I h
  refine wpAny_Call_Name_kw (ld_blt I hg hm boot_zip ?_)
  refine PyProof.Rows.callWith_type1 (thn (ha pos pins s σ H _ I h) fun us s1 ⟨vs, H1, I1, r1, t1, t2, xs, ys, e, q1, q2, q⟩ => ?_) he hpl
  subst e
  obtain ⟨u, w', rfl, ru, rw'⟩ := vals2 r1
  cases ru
  cases rw'
  obtain ⟨its, rv, p1, hz1⟩ := I1.list q1
  obtain ⟨jts, rv2, p2, hz2⟩ := I1.tuple q2
  refine zr_call p1.isList (show s1.heap.IsTuple t2 jts.toArray from p2) ?_
  have b1 : (zr1 s1.heap t1).objs.size = s1.heap.objs.size + 1 := Heap.size_push ..
  have b2 : (zr2 s1.heap t1 t2).objs.size = s1.heap.objs.size + 2 := by rw [Heap.size_push, b1]
  have b3 : (zr3 s1.heap t1 t2).objs.size = s1.heap.objs.size + 3 := by rw [Heap.size_push, b2]
  have b4 : (zr4 s1.heap t1 t2).objs.size = s1.heap.objs.size + 4 := by rw [Heap.size_push, b3]
  have c1 : t1 < s1.heap.objs.size := by obtain ⟨o, ho, _⟩ := p1.isList; exact Heap.lt_size ho
  have c2 : t2 < s1.heap.objs.size := p2.lt
  have hz : IsZip (zr5 s1.heap t1 t2) (zr4 s1.heap t1 t2).objs.size (zr2 s1.heap t1 t2).objs.size (zr3 s1.heap t1 t2).objs.size .none := Heap.get?_push_size _ rfl
  have DD : ZA (zr4 s1.heap t1 t2).objs.size (zr2 s1.heap t1 t2).objs.size (zr3 s1.heap t1 t2).objs.size s1.heap.objs.size (zr1 s1.heap t1).objs.size t1 t2 := by
    rw [b4, b2, b3, b1]
    exact za_of c1 c2
  refine wpAny_pyIter_zip hz ?_
  have I2 : Inv X pins σ H1 { s1 with heap := zr5 s1.heap t1 t2 } := I1.kept (t' := s1.toks) fun b o e => Heap.get?_push_of_some _ (Heap.get?_push_of_some _ (Heap.get?_push_of_some _ (Heap.get?_push_of_some _ (Heap.get?_push_of_some _ e))))
  refine ⟨(zr4 s1.heap t1 t2).objs.size, [(zr4 s1.heap t1 t2).objs.size, (zr2 s1.heap t1 t2).objs.size, (zr3 s1.heap t1 t2).objs.size, s1.heap.objs.size, (zr1 s1.heap t1).objs.size], _, ItzM X.K t1 t2, H1, rfl, I2,
    turn_zipM DD, ⟨hz, ?_, ⟨.none, .none, ?_⟩, ?_, ?_⟩, fun b hb => ?_, q⟩
  · exact Heap.get?_push_of_some _ (Heap.get?_push_of_some _ (Heap.get?_push_size _ rfl))
  · exact Heap.get?_push_of_some _ (Heap.get?_push_size _ rfl)
  · exact ⟨_, Heap.get?_push_of_some _ (Heap.get?_push_of_some _ (Heap.get?_push_of_some _ (Heap.get?_push_of_some _ (Heap.get?_push_size _ rfl)))), rfl, rfl⟩
  · exact ⟨_, Heap.get?_push_of_some _ (Heap.get?_push_of_some _ (Heap.get?_push_of_some _ (Heap.get?_push_size _ rfl))), rfl, rfl⟩
  · have hle : s1.heap.objs.size ≤ b := by
      rw [b4, b2, b3, b1] at hb
      simp only [List.mem_cons, List.not_mem_nil, or_false] at hb
      rcases hb with h | h | h | h | h <;> rw [h] <;> first | exact Nat.le_refl _ | exact Nat.le_add_right _ _
    exact I1.fpOk hle (I1.hok.fresh hle)
end
theorem for_zipM {K : PySem.W.Frag} {a b : Addr} {xs ys : List V} {g : TG} {tb : TS} {D : Ends} {σ : St} {H : Hp} (hn : xs.length = ys.length) (Pv : Nat → St → Hp → Prop) (h0 : Pv 0 σ H) (hl : ∀ i σ H, i ≤ xs.length → Pv i σ H → SqL K H a xs ∧ SqT K H b ys)
    (hs : ∀ i x y σ H p, xs[i]? = some x → ys[i]? = some y → Pv i σ H → H p = none → g (.ref p) σ (upd H p (.tup [x, y])) fun σ2 H2 => tb { D with nx := Pv (i + 1), ct := Pv (i + 1), bk := D.nx } σ2 H2) (hd : ∀ σ H, Pv xs.length σ H → D.nx σ H) :
    ∃ W : Nat → Nat → St → Hp → Prop, (∃ m, W 0 m σ H) ∧ ∀ i m σ H, W i m σ H →
      ((ItzM K a b).stop i H ∧ D.nx σ H) ∨ ((ItzM K a b).go i H ∧ ∃ N : St → Hp → Prop, (∀ σ' H', N σ' H' → ∃ m', m' < m ∧ W (i + 1) m' σ' H') ∧ ∀ x H', (ItzM K a b).yld i H x H' → g x σ H' fun σ2 H2 => tb { D with nx := N, ct := N, bk := D.nx } σ2 H2) := by
  refine ⟨fun i m σ H => m = xs.length - i ∧ i ≤ xs.length ∧ Pv i σ H, ⟨xs.length, by simp, Nat.zero_le _, h0⟩, ?_⟩
  rintro i m σ H ⟨rfl, hi, p⟩
  obtain ⟨q1, q2⟩ := hl i σ H hi p
  by_cases hlt : i < xs.length
  · have hy : i < ys.length := by omega
    refine .inr ⟨⟨xs, ys, xs[i], ys[i], q1, q2, List.getElem?_eq_getElem hlt, List.getElem?_eq_getElem hy⟩, Pv (i + 1), fun σ' H' p' => ⟨xs.length - (i + 1), by omega, rfl, hlt, p'⟩, fun x H' y => ?_⟩
    obtain ⟨r, hr, rfl, y⟩ := y
    have e := y xs ys xs[i] ys[i] q1 q2 (List.getElem?_eq_getElem hlt) (List.getElem?_eq_getElem hy)
    subst e
    exact hs i xs[i] ys[i] σ _ r (List.getElem?_eq_getElem hlt) (List.getElem?_eq_getElem hy) p hr
  · have e : i = xs.length := by omega
    subst e
    exact .inl ⟨⟨xs, q1, Nat.le_refl _⟩, hd σ H p⟩
end L2
end
section
set_option autoImplicit false
namespace K25
open PySem PyProof.Rows L2
theorem wd_len {n : Nat} (hn : n ≤ 4) {t : T} (h : ExOk n t) : (wdT t).length ≤ 9350 := by
  have h1 := (ExOk.wt h).2
  have h2 := wt_sum (wdT t)
  have h3 : BE n ≤ 9350 := by
    rcases (by omega : n = 0 ∨ n = 1 ∨ n = 2 ∨ n = 3 ∨ n = 4) with rfl | rfl | rfl | rfl | rfl <;> decide
  omega
def PartW (n : Nat) (f : Str) (t : T) (ws : List Str) : Prop := (f = "e" ∧ ExOk n t ∧ ws = wdT t) ∨ (f = "args" ∧ ∃ as : List T, t = .tup as ∧ (∀ a ∈ as, ExOk n a) ∧ as.length ≤ 3 ∧ ws = wdT t) ∨ (f = "elders" ∧ ∃ ks : List Str, t = .tup (ks.map T.str) ∧ ks.length ≤ 100 ∧ ws = ks) ∨ ((f = "x" ∨ f = "name" ∨ f = "kind") ∧ ∃ x : Str, t = .str x ∧ ws = [x])
theorem flat_len {n : Nat} (hn : n ≤ 4) : ∀ {as : List T}, (∀ a ∈ as, ExOk n a) → ((as.map wdT).flatten).length ≤ as.length * 9350
  | [], _ => Nat.zero_le _
  | a :: as, h => by
    rw [List.map_cons, List.flatten_cons, List.length_append, List.length_cons, Nat.succ_mul]
    have := flat_len hn (as := as) fun x hx => h x (List.mem_cons_of_mem _ hx)
    have := wd_len hn (h a List.mem_cons_self)
    omega
theorem PartW.len {n : Nat} (hn : n ≤ 4) {f : Str} {t : T} {ws : List Str} (h : PartW n f t ws) : ws.length ≤ 30000 := by
  rcases h with ⟨_, h, rfl⟩ | ⟨_, as, rfl, h, hl, rfl⟩ | ⟨_, ks, _, hl, rfl⟩ | ⟨_, x, _, rfl⟩
  · have := wd_len hn h
    omega
  · rw [args_wd h, List.length_cons]
    have := flat_len hn h
    omega
  · omega
  · exact Nat.le_add_left _ _
inductive PsW (n : Nat) : List Str → List T → List (List Str) → Prop
  | nil : PsW n [] [] []
  | cons {f : Str} {t : T} {ws : List Str} {fs : List Str} {ts : List T} {wss : List (List Str)} : PartW n f t ws → PsW n fs ts wss → PsW n (f :: fs) (t :: ts) (ws :: wss)
theorem PsW.len {n : Nat} {fs : List Str} {ts : List T} {wss : List (List Str)} (h : PsW n fs ts wss) : fs.length = ts.length ∧ wss.length = ts.length := by
  induction h with
  | nil => exact ⟨rfl, rfl⟩
  | cons _ _ ih => exact ⟨by rw [List.length_cons, List.length_cons, ih.1], by rw [List.length_cons, List.length_cons, ih.2]⟩
theorem PsW.get {n : Nat} {fs : List Str} {ts : List T} {wss : List (List Str)} (h : PsW n fs ts wss) : ∀ (i : Nat) (h1 : i < fs.length) (h2 : i < ts.length) (h3 : i < wss.length), PartW n fs[i] ts[i] wss[i] := by
  induction h with
  | nil => exact fun i h => absurd h (Nat.not_lt_zero _)
  | cons a _ ih =>
    intro i h1 h2 h3
    cases i with
    | zero => exact a
    | succ i => exact ih i (by simpa using h1) (by simpa using h2) (by simpa using h3)
theorem tab_val {P : Program} {w : World} {K : PySem.W.Frag} {c : Addr} {ad : Str → Addr} {tb : List (Str × List Str)} (_T : Tab P w K c ad tb) {p : Str × List Str} (h : p ∈ tb) : valV (tb.map fun p => ((.inr p.1 : Key), V.ref (ad p.1))) (.inr p.1) = some (.ref (ad p.1)) := by
  clear _T
  induction tb with
  | nil => cases h
  | cons q tb ih =>
    rw [List.map_cons]
    by_cases e : q.1 = p.1
    · rw [valV_pos (p := ((.inr q.1 : Key), V.ref (ad q.1))) (by rw [e]), e]
    · rw [valV_neg (p := ((.inr q.1 : Key), V.ref (ad q.1))) (by intro z; injection z with z; exact e z)]
      rcases List.mem_cons.mp h with rfl | h'
      · exact absurd rfl e
      · exact ih h'
theorem kit_it (K : PySem.W.Frag) : PySem.W.kitOne K (.type "int") (.type "tuple") = some false := by rfl
theorem log_small {i : Int} (h0 : 0 ≤ i) (h1 : i ≤ 999999999) : i.natAbs.log2 < 1920 := by
  by_cases e : i.natAbs = 0
  · rw [e]
    decide
  · rw [Nat.log2_lt e]
    have : (999999999 : Nat) < 2 ^ 1920 := by decide +kernel
    omega
theorem nums_in : ∀ i ∈ nums, 0 ≤ i ∧ i ≤ 999999999 := by decide +kernel
theorem fn_no {f : Addr} {fd : FuncData} {ps : List Str} {sp : Sp} {P : Program} {w : World} {K : PySem.W.Frag} {mg : Str → Option Value} {base : Heap} (F : ∀ vs H Q E, sp vs H Q E → False) : FnOk P w K mg base CX0 0 f fd ps sp := ⟨fun _ _ _ _ h => (F _ _ _ _ h).elim, fun _ _ _ _ _ _ _ _ _ _ _ _ _ h => (F _ _ _ _ h).elim⟩
section
variable {P : Program} {w : World} {K : PySem.W.Frag} {mg : Str → Option Value} {base : Heap} {t : Adr}
def spExpr (n : Nat) : Sp := fun vs H Q _ => ∃ (v : V) (t : T), vs = [v] ∧ Dp H t v ∧ ExOk n t ∧ ∀ (l : Addr) H', H l = none → H' l = some (.lst ((wdT t).map V.str)) → Same H H' → Q (.ref l) H'
def spPartE (n : Nat) : Sp := fun vs H Q _ => ∃ (v : V) (t : T), vs = [.str "e", v] ∧ Dp H t v ∧ ExOk n t ∧ ∀ (l : Addr) H', H l = none → H' l = some (.lst ((wdT t).map V.str)) → Same H H' → Q (.ref l) H'
def spPart (n : Nat) : Sp := fun vs H Q _ => ∃ (f : Str) (v : V) (t : T) (ws : List Str), vs = [.str f, v] ∧ Dp H t v ∧ PartW n f t ws ∧ ∀ (l : Addr) H', H l = none → H' l = some (.lst (ws.map V.str)) → Same H H' → Q (.ref l) H'
def spPartsL (n : Nat) : Sp := fun vs H Q _ => ∃ (a b : Addr) (ys : List V) (ts : List T), vs = [.ref a, .ref b] ∧ H a = some (.lst (List.replicate ts.length (.str "e"))) ∧ H b = some (.tup ys) ∧ DpL H ts ys ∧ (∀ x ∈ ts, ExOk n x) ∧ ts.length ≤ 3 ∧ ∀ (l : Addr) H', H l = none → H' l = some (.lst (((ts.map wdT).flatten).map V.str)) → Same H H' → Q (.ref l) H'
def spPartsT (K : PySem.W.Frag) (n : Nat) : Sp := fun vs H Q _ => ∃ (a b : Addr) (ys : List V) (fs : List Str) (ts : List T) (wss : List (List Str)), vs = [.ref a, .ref b] ∧ (∀ H : Hp, SqT K H a (fs.map V.str)) ∧ H b = some (.tup ys) ∧ DpL H ts ys ∧ PsW n fs ts wss ∧ ts.length ≤ 4 ∧ ∀ (l : Addr) H', H l = none → H' l = some (.lst ((wss.flatten).map V.str)) → Same H H' → Q (.ref l) H'
theorem ne_str {a b : Str} (h : ¬ a = b) : ¬ decide (V.str a = V.str b) = true := by
  rw [decide_eq_false (by intro z; injection z with z; exact h z)]
  exact Bool.false_ne_true
theorem ok_partE (D : Defs K mg t) {n k : Nat} (G_show_expression : FnOk P w K mg base CX0 k t.show_expression.1 t.show_expression.2 ["expression"] (spExpr n)) : FnOk P w K mg base CX0 (k + 1) t.show_part.1 t.show_part.2 ["form", "part"] (spPartE n) := by
  have G_show_parts : FnOk P w K mg base CX0 0 t.show_parts.1 t.show_parts.2 ["forms", "parts"] (fun _ _ _ _ => False) := fn_no fun _ _ _ _ h => h
  refine D.show_part.fn.ok sc_show_part (fun vs H Q E h => ?_) (fun cdv A outer s H vs Q E hr h => ?_)
  · obtain ⟨v, t, rfl, _⟩ := h
    rfl
  · obtain ⟨v, t, rfl, dv, ex, q⟩ := h
    refine ⟨_, (pss_cons (ps_if (pt_cmpR op_eq (pv 0) pe_str (nomark _))
      (pss_one (ps_ret (pe_callF D.show_expression G_show_expression (hr.mono (by omega)) (by rfl) (pa_cons (pv 1) pa_nil))))
      pss_nil)
      (pss_cons (ps_if (pt_cmpR op_eq (pv 0) pe_str (nomark _))
      (pss_one (ps_ret (pe_op op_cat (pe_lst (pa_cons (pe_callTy call_str_int (by rfl) D.b_str bt_str (pa_cons (pe_callB call_len_seq (by rfl) D.b_len bt_len (pa_cons (pv 1) pa_nil)) pa_nil)) pa_nil)) (pe_callF D.show_parts G_show_parts (hr.mono (by omega)) (by rfl) (pa_cons (pe_op op_rep (pe_lst (pa_cons pe_str pa_nil)) (pe_callB call_len_seq (by rfl) D.b_len bt_len (pa_cons (pv 1) pa_nil))) (pa_cons (pv 1) pa_nil))))))
      pss_nil)
      (pss_cons (ps_if (pt_cmpR op_eq (pv 0) pe_str (nomark _))
      (pss_one (ps_ret (pe_callTy call_list_of (by rfl) D.b_list bt_list (pa_cons (pv 1) pa_nil))))
      pss_nil)
      (pss_one (ps_ret (pe_lst (pa_cons (pv 1) pa_nil))))))), ?_⟩
    exact ⟨_, rfl, rfl, _, rfl, itePos (decide_eq_true rfl) ⟨_, rfl, v, t, rfl, dv, ex, q⟩⟩
end
end K25
end
section
set_option autoImplicit false
namespace K25
open PySem PyProof.Rows L2
section
variable {P : Program} {w : World} {K : PySem.W.Frag} {mg : Str → Option Value} {base : Heap} {t : Adr}
theorem ok_partsL (D : Defs K mg t) {n k : Nat} (hn : n ≤ 4) (G_show_part : FnOk P w K mg base CX0 k t.show_part.1 t.show_part.2 ["form", "part"] (spPartE n)) : FnOk P w K mg base CX0 (k + 1) t.show_parts.1 t.show_parts.2 ["forms", "parts"] (spPartsL n) := by
  have hz : sizeLine = 16777216 := sizeLine_eq
  refine D.show_parts.fn.ok sc_show_parts (fun vs H Q E h => ?_) (fun cdv A outer s H vs Q E hr h => ?_)
  · obtain ⟨a, b, ys, ts, rfl, _⟩ := h
    rfl
  · obtain ⟨a, b, ys, ts, rfl, ha, hb, dl, ex, hl3, q⟩ := h
    have hyl : ys.length = ts.length := dl.length
    refine ⟨_, (pss_cons (ps_set (i := 2) sc_show_parts.nd rfl (Or.inl rfl) (pe_lst pa_nil))
      (pss_cons (ps_for PassesOwn.never rfl (pi_zipM rfl D.b_zip (pa_cons (pv 0) (pa_cons (pv 1) pa_nil))) (pg_tup rfl (pgs_cons (pg_name (i := 3) sc_show_parts.nd rfl (Or.inl rfl)) (pgs_cons (pg_name (i := 4) sc_show_parts.nd rfl (Or.inl rfl)) pgs_nil)))
      (pss_one (ps_expr (pe_bm PySem.F.plainAttrs_list PySem.F.slot_list_extend PySem.F.type_list_extend mt_extend (pv 2) (pa_cons (pe_callF D.show_part G_show_part (hr.mono (by omega)) (by rfl) (pa_cons (pv 3) (pa_cons (pv 4) pa_nil))) pa_nil)))))
      (pss_one (ps_ret (pv 2))))), ?_⟩
    refine ⟨Nat.zero_le _, fun l hl => ?_⟩
    have s1 : ∀ o, Same H (upd H l o) := fun o => Same.new hl
    refine ⟨_, rfl, _, rfl, a, b, _, ys, rfl, SqL.of (s1 _ a _ ha), SqT.of (s1 _ b _ hb), for_zipM (K := K) (a := a) (b := b) (xs := List.replicate ts.length (.str "e")) (ys := ys) (by rw [List.length_replicate, hyl]) (fun i σ H2 => ∃ (v3 v4 : Option V), σ = [some (.ref a), some (.ref b), some (.ref l), v3, v4] ∧ H2 l = some (.lst ((((ts.take i).map wdT).flatten).map V.str)) ∧ Same H H2)
      ⟨_, _, rfl, upd_same, s1 _⟩ (fun i σ H2 _ ⟨_, _, _, _, s⟩ => ⟨SqL.of (s a _ ha), SqT.of (s b _ hb)⟩) ?_ ?_⟩
    · rintro i x y σ H2 p hx hy ⟨v3, v4, rfl, hl2, s2⟩ hp
      have hit : i < ts.length := by
        have := (List.getElem?_eq_some_iff.mp hy).1
        omega
      have ex' : x = .str "e" := by
        have := List.mem_of_getElem? hx
        exact (List.mem_replicate.mp this).2
      subst ex'
      obtain ⟨y', ey, dy⟩ := dl.get (List.getElem?_eq_getElem hit)
      rw [hy] at ey
      cases ey
      have s3 : Same H2 (upd H2 p (.tup [.str "e", y])) := Same.new hp
      refine ⟨p, _, rfl, SqT.of upd_same, rfl, _, _, rfl, _, _, rfl, rfl, ?_⟩
      generalize upd H2 p (.tup [.str "e", y]) = H3 at s3
      have hl3' := s3 l _ hl2
      refine ⟨_, rfl, .inl ⟨rfl, _, SqL.of hl3'⟩, _, rfl, _, rfl, y, ts[i], rfl, dy.mono (Same.tups (s2.trans s3)), ex _ (List.getElem_mem hit), fun l2 H4 hln hl2' s4 => ?_⟩
      have hl4 := s4 l _ hl3'
      have fl := flat_len hn (as := ts.take i) fun a h => ex a (List.mem_of_mem_take h)
      have wl := wd_len hn (ex _ (List.getElem_mem hit))
      have tl : (ts.take i).length ≤ 3 := by rw [List.length_take]; omega
      have tm := Nat.mul_le_mul_right 9350 tl
      refine ⟨l, l2, _, _, rfl, rfl, hl4, hl2', by rw [List.length_map, List.length_map]; omega, ?_⟩
      refine ⟨_, _, rfl, ?_, fun c o e => ?_⟩
      · rw [upd_same, take_snoc hit, List.map_append, List.flatten_append, List.map_append]
        show _ = some (HO.lst (_ ++ (wdT ts[i] ++ []).map V.str))
        rw [List.append_nil]
      · rw [upd_ne (ne_of_none e hl)]
        exact s4 c o (s3 c o (s2 c o e))
    · rintro σ H2 ⟨v3, v4, rfl, hl2, s2⟩
      rw [List.length_replicate, List.take_of_length_le (Nat.le_refl _)] at hl2
      exact ⟨_, rfl, q l H2 hl hl2 s2⟩
end
end K25
end
section
set_option autoImplicit false
namespace K25
open PySem PyProof.Rows L2
theorem bins_in : ∀ w ∈ bins, (w, (["e", "e"] : List Str)) ∈ exprs := by decide +kernel
theorem ExOk.cls {n : Nat} {t : T} (h : ExOk (n + 1) t) : t = .non ∨ (∃ i ∈ nums, t = .int i) ∨ ∃ (wd : Str) (ts : List T) (fs : List Str), t = .tup (.str wd :: ts) ∧ (wd, fs) ∈ exprs ∧ PsW n fs ts (ts.map wdT) ∧ ts.length ≤ 4 := by
  have S : ∀ (f x : Str), f = "x" ∨ f = "name" ∨ f = "kind" → PartW n f (.str x) (wdT (.str x)) := fun f x h => .inr (.inr (.inr ⟨h, x, rfl, wdT_str x⟩))
  have E : ∀ e, ExOk n e → PartW n "e" e (wdT e) := fun e h => .inl ⟨rfl, h, rfl⟩
  have A : ∀ as : List T, (∀ a ∈ as, ExOk n a) → as.length ≤ 3 → PartW n "args" (.tup as) (wdT (.tup as)) := fun as h hl => .inr (.inl ⟨rfl, as, rfl, h, hl, rfl⟩)
  rcases h with rfl | ⟨i, hi, rfl⟩ | rfl | ⟨w, x, hw, hx, rfl⟩ | ⟨e, x, he, hx, rfl⟩ | ⟨e, x, as, he, hx, ha, hl, rfl⟩ | ⟨x, as, hx, ha, hl, rfl⟩ | ⟨w, e1, e2, hw, h1, h2, rfl⟩
  · exact .inl rfl
  · exact .inr (.inl ⟨i, hi, rfl⟩)
  · exact .inr (.inr ⟨"me", [], [], rfl, by decide +kernel, .nil, by decide⟩)
  · rcases hw with rfl | rfl
    · exact .inr (.inr ⟨"name", _, ["x"], rfl, by decide +kernel, .cons (S _ _ (.inl rfl)) .nil, by show 1 ≤ 4; decide⟩)
    · exact .inr (.inr ⟨"new", _, ["kind"], rfl, by decide +kernel, .cons (S _ _ (.inr (.inr rfl))) .nil, by show 1 ≤ 4; decide⟩)
  · exact .inr (.inr ⟨"get", _, ["e", "name"], rfl, by decide +kernel, .cons (E _ he) (.cons (S _ _ (.inr (.inl rfl))) .nil), by show 2 ≤ 4; decide⟩)
  · exact .inr (.inr ⟨"ask", _, ["e", "name", "args"], rfl, by decide +kernel, .cons (E _ he) (.cons (S _ _ (.inr (.inl rfl))) (.cons (A _ ha hl) .nil)), by show 3 ≤ 4; decide⟩)
  · exact .inr (.inr ⟨"up", _, ["name", "args"], rfl, by decide +kernel, .cons (S _ _ (.inr (.inl rfl))) (.cons (A _ ha hl) .nil), by show 2 ≤ 4; decide⟩)
  · exact .inr (.inr ⟨w, _, ["e", "e"], rfl, bins_in w hw, .cons (E _ h1) (.cons (E _ h2) .nil), by show 2 ≤ 4; decide⟩)
theorem psw_len {n : Nat} (hn : n + 1 ≤ 4) {fs : List Str} {ts : List T} {wss : List (List Str)} (h : PsW n fs ts wss) : (wss.flatten).length ≤ ts.length * 30000 := by
  induction h with
  | nil => exact Nat.zero_le _
  | cons a _ ih =>
    rw [List.flatten_cons, List.length_append, List.length_cons, Nat.succ_mul]
    have := a.len (by omega : n ≤ 4)
    omega
section
variable {P : Program} {w : World} {K : PySem.W.Frag} {mg : Str → Option Value} {base : Heap} {t : Adr}
theorem ok_part (D : Defs K mg t) {n k j : Nat} (hn : n ≤ 4) (hj : j ≤ k) (G_show_expression : FnOk P w K mg base CX0 j t.show_expression.1 t.show_expression.2 ["expression"] (spExpr n)) (G_show_parts : FnOk P w K mg base CX0 k t.show_parts.1 t.show_parts.2 ["forms", "parts"] (spPartsL n)) : FnOk P w K mg base CX0 (k + 1) t.show_part.1 t.show_part.2 ["form", "part"] (spPart n) := by
  have hz : sizeLine = 16777216 := sizeLine_eq
  refine D.show_part.fn.ok sc_show_part (fun vs H Q E h => ?_) (fun cdv A outer s H vs Q E hr h => ?_)
  · obtain ⟨f, v, t, ws, rfl, _⟩ := h
    rfl
  · obtain ⟨f, v, t, ws, rfl, dv, pw, q⟩ := h
    refine ⟨_, (pss_cons (ps_if (pt_cmpR op_eq (pv 0) pe_str (nomark _))
      (pss_one (ps_ret (pe_callF D.show_expression G_show_expression (hr.mono (by omega)) (by rfl) (pa_cons (pv 1) pa_nil))))
      pss_nil)
      (pss_cons (ps_if (pt_cmpR op_eq (pv 0) pe_str (nomark _))
      (pss_one (ps_ret (pe_op op_cat (pe_lst (pa_cons (pe_callTy call_str_int (by rfl) D.b_str bt_str (pa_cons (pe_callB call_len_seq (by rfl) D.b_len bt_len (pa_cons (pv 1) pa_nil)) pa_nil)) pa_nil)) (pe_callF D.show_parts G_show_parts (hr.mono (by omega)) (by rfl) (pa_cons (pe_op op_rep (pe_lst (pa_cons pe_str pa_nil)) (pe_callB call_len_seq (by rfl) D.b_len bt_len (pa_cons (pv 1) pa_nil))) (pa_cons (pv 1) pa_nil))))))
      pss_nil)
      (pss_cons (ps_if (pt_cmpR op_eq (pv 0) pe_str (nomark _))
      (pss_one (ps_ret (pe_callTy call_list_of (by rfl) D.b_list bt_list (pa_cons (pv 1) pa_nil))))
      pss_nil)
      (pss_one (ps_ret (pe_lst (pa_cons (pv 1) pa_nil))))))), ?_⟩
    rcases pw with ⟨rfl, ex, rfl⟩ | ⟨rfl, as, rfl, ex, hl3, rfl⟩ | ⟨rfl, ks, rfl, hk, rfl⟩ | ⟨hf, x, rfl, rfl⟩
    · exact ⟨_, rfl, rfl, _, rfl, itePos (decide_eq_true rfl) ⟨_, rfl, v, t, rfl, dv, ex, q⟩⟩
    · obtain ⟨a, ys, rfl, ha, dl⟩ := L2.Dp.of_tup dv
      have hyl : ys.length = as.length := dl.length
      refine ⟨_, rfl, rfl, _, rfl, iteNeg (ne_str (by decide +kernel)) ?_⟩
      refine ⟨_, rfl, rfl, _, rfl, itePos (decide_eq_true rfl) ?_⟩
      refine ⟨_, rfl, a, _, rfl, .inr (SqT.of ha), _, rfl, log_small (by omega) (by omega), by show 1 ≤ sizeLine; decide, fun l1 hl1 => ?_⟩
      have s1 : ∀ o, Same H (upd H l1 o) := fun o => Same.new hl1
      have hl11 : ∀ o, (upd H l1 o) l1 = some o := fun o => upd_same
      refine ⟨by show 1 ≤ sizeLine; decide, fun l2 hl2 => ?_⟩
      have ha2 := ((s1 _).trans (Same.new (o := .lst [.str "e"]) hl2)) a _ ha
      refine ⟨_, rfl, a, _, rfl, .inr (SqT.of ha2), ?_⟩
      refine ⟨l2, _, _, rfl, rfl, upd_same, by omega, by omega, by show 1 * ((ys.length : Nat) : Int).toNat ≤ sizeLine; omega, fun l3 hl3' => ?_⟩
      have e3 : (List.replicate ((ys.length : Nat) : Int).toNat [V.str "e"]).flatten = List.replicate as.length (V.str "e") := by
        rw [show ((ys.length : Nat) : Int).toNat = as.length by omega]
        clear hl3 dl dv ex hyl q
        induction as with
        | nil => rfl
        | cons _ as ih =>
          rw [List.length_cons, List.replicate_succ, List.flatten_cons, ih, List.replicate_succ]
          rfl
      rw [e3]
      have hl1a := ((Same.new hl2).trans (Same.new (o := .lst (List.replicate as.length (V.str "e"))) hl3')) l1 _ (hl11 _)
      have hl3a : (upd (upd (upd H l1 (.lst [.str ((toString ((ys.length : Nat) : Int) : String) : Str)])) l2 (.lst [.str "e"])) l3 (.lst (List.replicate as.length (V.str "e")))) l3 = some (.lst (List.replicate as.length (V.str "e"))) := upd_same
      have s3 : Same H (upd (upd (upd H l1 (.lst [.str ((toString ((ys.length : Nat) : Int) : String) : Str)])) l2 (.lst [.str "e"])) l3 (.lst (List.replicate as.length (V.str "e")))) := (s1 _).trans ((Same.new hl2).trans (Same.new hl3'))
      generalize upd (upd (upd H l1 (.lst [.str ((toString ((ys.length : Nat) : Int) : String) : Str)])) l2 (.lst [.str "e"])) l3 (.lst (List.replicate as.length (V.str "e"))) = H3 at hl1a hl3a s3
      refine ⟨_, rfl, l3, a, ys, as, rfl, hl3a, s3 a _ ha, dl.mono (Same.tups s3), ex, hl3, fun l4 H4 hn4 hl4 s4 => ?_⟩
      have fl := flat_len hn ex
      refine ⟨l1, l4, _, _, rfl, rfl, s4 l1 _ hl1a, hl4, by rw [List.length_map]; show 1 + _ ≤ sizeLine; omega, fun l5 hl5 => ?_⟩
      have s45 := (s3.trans s4)
      refine q l5 _ ?_ ?_ (s45.trans (Same.new hl5))
      · cases e : H l5 with
        | none => rfl
        | some o => rw [s45 l5 o e] at hl5; cases hl5
      · rw [upd_same, args_wd ex, List.map_cons, ← hyl]
        rfl
    · obtain ⟨a, ys, rfl, ha, dl⟩ := L2.Dp.of_tup dv
      rw [DpL.of_strs dl] at ha
      refine ⟨_, rfl, rfl, _, rfl, iteNeg (ne_str (by decide +kernel)) ?_⟩
      refine ⟨_, rfl, rfl, _, rfl, iteNeg (ne_str (by decide +kernel)) ?_⟩
      refine ⟨_, rfl, rfl, _, rfl, itePos (decide_eq_true rfl) ?_⟩
      exact ⟨_, rfl, a, _, rfl, .inr (SqT.of ha), fun l hl => q l _ hl upd_same (Same.new hl)⟩
    · have ev := L2.Dp.of_str dv
      subst ev
      have n1 : ¬ f = "e" := by rcases hf with rfl | rfl | rfl <;> decide +kernel
      have n2 : ¬ f = "args" := by rcases hf with rfl | rfl | rfl <;> decide +kernel
      have n3 : ¬ f = "elders" := by rcases hf with rfl | rfl | rfl <;> decide +kernel
      refine ⟨_, rfl, rfl, _, rfl, iteNeg (ne_str n1) ?_⟩
      refine ⟨_, rfl, rfl, _, rfl, iteNeg (ne_str n2) ?_⟩
      refine ⟨_, rfl, rfl, _, rfl, iteNeg (ne_str n3) ?_⟩
      exact ⟨_, rfl, by show 1 ≤ sizeLine; decide, fun l hl => q l _ hl upd_same (Same.new hl)⟩
theorem ok_partsT (D : Defs K mg t) {n k : Nat} (hn : n ≤ 4) (G_show_part : FnOk P w K mg base CX0 k t.show_part.1 t.show_part.2 ["form", "part"] (spPart n)) : FnOk P w K mg base CX0 (k + 1) t.show_parts.1 t.show_parts.2 ["forms", "parts"] (spPartsT K n) := by
  have hz : sizeLine = 16777216 := sizeLine_eq
  refine D.show_parts.fn.ok sc_show_parts (fun vs H Q E h => ?_) (fun cdv A outer s H vs Q E hr h => ?_)
  · obtain ⟨a, b, ys, fs, ts, wss, rfl, _⟩ := h
    rfl
  · obtain ⟨a, b, ys, fs, ts, wss, rfl, ha, hb, dl, pw, hl4, q⟩ := h
    have hyl : ys.length = ts.length := dl.length
    obtain ⟨pl1, pl2⟩ := pw.len
    refine ⟨_, (pss_cons (ps_set (i := 2) sc_show_parts.nd rfl (Or.inl rfl) (pe_lst pa_nil))
      (pss_cons (ps_for PassesOwn.never rfl (pi_zip2 rfl D.b_zip (pa_cons (pv 0) (pa_cons (pv 1) pa_nil))) (pg_tup rfl (pgs_cons (pg_name (i := 3) sc_show_parts.nd rfl (Or.inl rfl)) (pgs_cons (pg_name (i := 4) sc_show_parts.nd rfl (Or.inl rfl)) pgs_nil)))
      (pss_one (ps_expr (pe_bm PySem.F.plainAttrs_list PySem.F.slot_list_extend PySem.F.type_list_extend mt_extend (pv 2) (pa_cons (pe_callF D.show_part G_show_part (hr.mono (by omega)) (by rfl) (pa_cons (pv 3) (pa_cons (pv 4) pa_nil))) pa_nil)))))
      (pss_one (ps_ret (pv 2))))), ?_⟩
    refine ⟨Nat.zero_le _, fun l hl => ?_⟩
    have s1 : ∀ o, Same H (upd H l o) := fun o => Same.new hl
    refine ⟨_, rfl, _, rfl, a, b, _, ys, rfl, ha _, SqT.of (s1 _ b _ hb), for_zip2 (K := K) (a := a) (b := b) (xs := fs.map V.str) (ys := ys) (n := ts.length) (by rw [List.length_map]; omega) (fun i σ H2 => ∃ (v3 v4 : Option V), σ = [some (.ref a), some (.ref b), some (.ref l), v3, v4] ∧ H2 l = some (.lst (((wss.take i).flatten).map V.str)) ∧ ((wss.take i).flatten).length ≤ i * 30000 ∧ Same H H2)
      ⟨_, _, rfl, upd_same, Nat.zero_le _, s1 _⟩ (fun i σ H2 _ ⟨_, _, _, _, _, s⟩ => ⟨ha _, SqT.of (s b _ hb)⟩) ?_ ?_⟩
    · rintro i x y σ H2 p hx hy ⟨v3, v4, rfl, hl2, ll2, s2⟩ hp
      have hit : i < ts.length := by
        have := (List.getElem?_eq_some_iff.mp hy).1
        omega
      have hif : i < fs.length := by omega
      have hiw : i < wss.length := by omega
      have ex' : x = .str fs[i] := by
        rw [List.getElem?_map, List.getElem?_eq_getElem hif] at hx
        exact (Option.some.inj hx).symm
      subst ex'
      obtain ⟨y', ey, dy⟩ := dl.get (List.getElem?_eq_getElem hit)
      rw [hy] at ey
      cases ey
      have pwi := pw.get i hif hit hiw
      have s3 : Same H2 (upd H2 p (.tup [.str fs[i], y])) := Same.new hp
      refine ⟨p, _, rfl, SqT.of upd_same, rfl, _, _, rfl, _, _, rfl, rfl, ?_⟩
      generalize upd H2 p (.tup [.str fs[i], y]) = H3 at s3
      have hl3' := s3 l _ hl2
      refine ⟨_, rfl, .inl ⟨rfl, _, SqL.of hl3'⟩, _, rfl, _, rfl, fs[i], y, ts[i], wss[i], rfl, dy.mono (Same.tups (s2.trans s3)), pwi, fun l2 H4 hln hl2' s4 => ?_⟩
      have hl4' := s4 l _ hl3'
      have wl := pwi.len hn
      have hi4 : i ≤ 4 := by omega
      refine ⟨l, l2, _, _, rfl, rfl, hl4', hl2', by rw [List.length_map, List.length_map]; omega, ?_⟩
      have ew : (wss.take (i + 1)).flatten = (wss.take i).flatten ++ wss[i] := by
        rw [take_snoc hiw, List.flatten_append]
        show _ ++ (wss[i] ++ []) = _
        rw [List.append_nil]
      refine ⟨_, _, rfl, ?_, ?_, fun c o e => ?_⟩
      · rw [upd_same, ew, List.map_append]
      · rw [ew, List.length_append]
        omega
      · rw [upd_ne (ne_of_none e hl)]
        exact s4 c o (s3 c o (s2 c o e))
    · rintro σ H2 ⟨v3, v4, rfl, hl2, _, s2⟩
      rw [List.take_of_length_le (by omega)] at hl2
      exact ⟨_, rfl, q l H2 hl hl2 s2⟩
theorem ok_expr_step (D : Defs K mg t) (GL : Glb P w K mg t) {n k : Nat} (hn : n + 1 ≤ 4) (G_show_parts : FnOk P w K mg base CX0 k t.show_parts.1 t.show_parts.2 ["forms", "parts"] (spPartsT K n)) : FnOk P w K mg base CX0 (k + 1) t.show_expression.1 t.show_expression.2 ["expression"] (spExpr (n + 1)) := by
  have hz : sizeLine = 16777216 := sizeLine_eq
  refine D.show_expression.fn.ok sc_show_expression (fun vs H Q E h => ?_) (fun cdv A outer s H vs Q E hr h => ?_)
  · obtain ⟨v, t, rfl, _⟩ := h
    rfl
  · obtain ⟨v, t0, rfl, dv, ex, q⟩ := h
    refine ⟨_, (pss_cons (ps_if (pt_cmpR op_isN (pv 0) pe_non (nomark _))
      (pss_one (ps_ret (pe_lst (pa_cons pe_str pa_nil))))
      pss_nil)
      (pss_cons (ps_if (pt_not (pt_val (pe_callB call_isinst (by rfl) D.b_isinstance bt_isinstance (pa_cons (pv 0) (pa_cons (pe_bltn (v := V.ty "tuple") rfl D.b_tuple bt_tuple rfl) pa_nil)))))
      (pss_one (ps_ret (pe_lst (pa_cons (pe_callTy call_str_int (by rfl) D.b_str bt_str (pa_cons (pv 0) pa_nil)) pa_nil))))
      pss_nil)
      (pss_one (ps_ret (pe_op op_cat (pe_lst (pa_cons (pe_ix ix_tup (pv 0) pe_int (fun _ _ => rfl)) pa_nil)) (pe_callF D.show_parts G_show_parts (hr.mono (by omega)) (by rfl) (pa_cons (pe_kget (pe_glob (v := V.ref t.cEXPRESSIONS) (by rfl) GL.g_EXPRESSIONS rfl) (pe_ix ix_tup (pv 0) pe_int (fun _ _ => rfl)) (fun _ _ => rfl)) (pa_cons (pe_slice sl_tupW (pv 0) (po_some pe_int) po_none) pa_nil)))))))), ?_⟩
    rcases ex.cls with rfl | ⟨i, hi, rfl⟩ | ⟨wd, ts, fs, rfl, hm, pw, hl4⟩
    · rw [Dp] at dv
      subst dv
      refine ⟨_, rfl, rfl, _, rfl, itePos (decide_eq_true rfl) ?_⟩
      refine ⟨by show 1 ≤ sizeLine; decide, fun l hl => q l _ hl ?_ (Same.new hl)⟩
      rw [upd_same, wdT]
      rfl
    · rw [Dp] at dv
      subst dv
      obtain ⟨h0, h1⟩ := nums_in i hi
      refine ⟨_, rfl, rfl, _, rfl, iteNeg (by rw [decide_eq_false (fun z => nomatch z)]; exact Bool.false_ne_true) ?_⟩
      refine ⟨_, rfl, _, _, _, false, rfl, .int i, kit_it K, _, rfl, iteT ?_⟩
      refine ⟨_, rfl, _, rfl, log_small h0 h1, by show 1 ≤ sizeLine; decide, fun l hl => q l _ hl ?_ (Same.new hl)⟩
      rw [upd_same, wdT]
      rfl
    · obtain ⟨a, xs, rfl, ha, dl⟩ := L2.Dp.of_tup dv
      obtain ⟨x1, ys, rfl, d1, dl'⟩ := dl.cases
      have e1 := L2.Dp.of_str d1
      subst e1
      refine ⟨_, rfl, rfl, _, rfl, iteNeg (by rw [decide_eq_false (fun z => nomatch z)]; exact Bool.false_ne_true) ?_⟩
      refine ⟨_, rfl, _, _, _, true, rfl, .tup ha, kit_same K "tuple", _, rfl, iteF ?_⟩
      refine ⟨_, rfl, a, _, _, _, rfl, rfl, SqT.of ha, atI_nat (j := 0) rfl, by show 1 ≤ sizeLine; decide, fun l1 hl1 => ?_⟩
      have s1 : Same H (upd H l1 (.lst [.str wd])) := Same.new hl1
      have hl11 : (upd H l1 (.lst [.str wd])) l1 = some (.lst [.str wd]) := upd_same
      generalize upd H l1 (.lst [.str wd]) = H1 at s1 hl11
      refine ⟨_, rfl, a, _, _, _, rfl, rfl, SqT.of (s1 a _ ha), atI_nat (j := 0) rfl, t.cEXPRESSIONS, _, .inr wd, _, rfl, GL.t_EXPRESSIONS.d, rfl, tab_val GL.t_EXPRESSIONS hm, ?_⟩
      refine ⟨_, rfl, _, rfl, a, _, rfl, s1 a _ ha, fun b H2 hb s2 => ?_⟩
      rw [cut1_from] at hb
      have pl := pw.len
      refine ⟨t.ad "e" wd, b, ys, fs, ts, ts.map wdT, rfl, GL.t_EXPRESSIONS.s (wd, fs) hm, hb, dl'.mono (Same.tups (s1.trans s2)), pw, hl4, fun l2 H3 hn2 hl2 s3 => ?_⟩
      have s13 := s2.trans s3
      have fl : ((ts.map wdT).flatten).length ≤ 4 * 30000 := by
        have hp := psw_len hn pw
        have := Nat.mul_le_mul_right 30000 hl4
        omega
      refine ⟨l1, l2, _, _, rfl, rfl, s13 l1 _ hl11, hl2, by rw [List.length_map]; show 1 + _ ≤ sizeLine; omega, fun l5 hl5 => ?_⟩
      have s45 := s1.trans s13
      refine q l5 _ ?_ ?_ (s45.trans (Same.new hl5))
      · cases e : H l5 with
        | none => rfl
        | some o => rw [s45 l5 o e] at hl5; cases hl5
      · rw [upd_same, wdT_tup, List.map_cons]
        rfl
theorem ok_expr (D : Defs K mg t) (GL : Glb P w K mg t) : ∀ n, n ≤ 4 → FnOk P w K mg base CX0 (5 * n) t.show_expression.1 t.show_expression.2 ["expression"] (spExpr n)
  | 0, _ => fn_no fun vs H Q E ⟨v, t, _, _, ex, _⟩ => ex
  | n + 1, hn => by
    have h := ok_expr_step D GL hn (ok_partsT D (by omega) (ok_part D (j := 5 * n) (k := 5 * n + 2) (by omega) (by omega) (ok_expr D GL n (by omega)) (ok_partsL D (k := 5 * n + 1) (by omega) (ok_partE D (k := 5 * n) (ok_expr D GL n (by omega))))))
    exact h
theorem ok_part4 (D : Defs K mg t) (GL : Glb P w K mg t) : FnOk P w K mg base CX0 23 t.show_part.1 t.show_part.2 ["form", "part"] (spPart 4) :=
  ok_part D (j := 20) (by omega) (by omega) (ok_expr D GL 4 (by omega)) (ok_partsL D (by omega) (ok_partE D (ok_expr D GL 4 (by omega))))
end
end K25
end
section
set_option autoImplicit false
namespace K25
open PySem PyProof.Rows L2
abbrev RowsP := T → List (List Str) → Nat → Prop
def ones : List Str := [("tell" : Str), ("do" : Str), ("give" : Str), ("throw" : Str)]
def StN (B : RowsP) (t : T) (rows : List (List Str)) (c : Nat) : Prop :=
  (∃ (w : Str) (e : T), w ∈ ones ∧ ExOk 4 e ∧ t = .tup [.str w, e] ∧ rows = [w :: wdT e] ∧ c = 1) ∨
  (∃ (x : Str) (e : T), x.length ≤ 100 ∧ ExOk 4 e ∧ t = .tup [.str ("let" : Str), .str x, e] ∧ rows = [("let" : Str) :: x :: wdT e] ∧ c = 1) ∨
  (∃ (e : T) (x : Str) (e2 : T), ExOk 4 e ∧ x.length ≤ 100 ∧ ExOk 4 e2 ∧ t = .tup [.str ("put" : Str), e, .str x, e2] ∧ rows = [("put" : Str) :: (wdT e ++ x :: wdT e2)] ∧ c = 1) ∨
  (∃ (w : Str) (e : T) (x : Str), (w = ("drop" : Str) ∨ w = ("become" : Str)) ∧ ExOk 4 e ∧ x.length ≤ 100 ∧ t = .tup [.str w, e, .str x] ∧ rows = [w :: (wdT e ++ [x])] ∧ c = 1) ∨
  (∃ a b d f : Str, a.length ≤ 100 ∧ b.length ≤ 100 ∧ d.length ≤ 100 ∧ f.length ≤ 100 ∧ t = .tup [.str ("turn" : Str), .str a, .str b, .str d, .str f] ∧ rows = [[("turn" : Str), a, b, d, f]] ∧ c = 1) ∨
  (∃ a b : Str, a.length ≤ 100 ∧ b.length ≤ 100 ∧ t = .tup [.str ("strip" : Str), .str a, .str b] ∧ rows = [[("strip" : Str), a, b]] ∧ c = 1) ∨
  (∃ (a : Str) (ks : List Str), a.length ≤ 100 ∧ ks.length ≤ 7 ∧ (∀ x ∈ ks, x.length ≤ 100) ∧ t = .tup [.str ("elders" : Str), .str a, .tup (ks.map T.str)] ∧ rows = [("elders" : Str) :: a :: ks] ∧ c = 1) ∨
  (∃ (e b1 b2 : T) (r1 r2 : List (List Str)) (c1 c2 : Nat), ExOk 4 e ∧ B b1 r1 c1 ∧ B b2 r2 c2 ∧ t = .tup [.str ("if" : Str), e, b1, b2] ∧ rows = (("if" : Str) :: wdT e) :: (r1 ++ [("else" : Str)] :: (r2 ++ [[("end" : Str)]])) ∧ c = 1 + c1 + c2) ∨
  (∃ (w : Str) (e b : T) (r : List (List Str)) (c1 : Nat), (w = ("while" : Str) ∨ w = ("repeat" : Str)) ∧ ExOk 4 e ∧ B b r c1 ∧ t = .tup [.str w, e, b] ∧ rows = (w :: wdT e) :: (r ++ [[("end" : Str)]]) ∧ c = 1 + c1) ∨
  (∃ (b1 b2 : T) (x : Str) (r1 r2 : List (List Str)) (c1 c2 : Nat), B b1 r1 c1 ∧ x.length ≤ 100 ∧ B b2 r2 c2 ∧ t = .tup [.str ("try" : Str), b1, .str x, b2] ∧ rows = [("try" : Str)] :: (r1 ++ [("catch" : Str), x] :: (r2 ++ [[("end" : Str)]])) ∧ c = 1 + c1 + c2)
inductive StL (R : RowsP) : List T → List (List (List Str)) → Nat → Prop
  | nil : StL R [] [] 0
  | cons {s : T} {r : List (List Str)} {d : Nat} {ss : List T} {rss : List (List (List Str))} {c : Nat} : R s r d → StL R ss rss c → StL R (s :: ss) (r :: rss) (d + c)
theorem StL.snoc {R : RowsP} {ss : List T} {rss : List (List (List Str))} {c d : Nat} {s : T} {r : List (List Str)} (h : StL R ss rss c) (hs : R s r d) : StL R (ss ++ [s]) (rss ++ [r]) (c + d) := by
  induction h with
  | nil =>
    have := StL.cons hs StL.nil
    rw [Nat.add_zero] at this
    rw [Nat.zero_add]
    exact this
  | cons a _ ih =>
    rw [Nat.add_assoc]
    exact StL.cons a ih
theorem StL.len {R : RowsP} {ss : List T} {rss : List (List (List Str))} {c : Nat} (h : StL R ss rss c) : ss.length = rss.length := by
  induction h with
  | nil => rfl
  | cons _ _ ih => rw [List.length_cons, List.length_cons, ih]
theorem StL.get {R : RowsP} {ss : List T} {rss : List (List (List Str))} {c : Nat} (h : StL R ss rss c) : ∀ (i : Nat) (h1 : i < ss.length) (h2 : i < rss.length), ∃ d, d ≤ c ∧ R ss[i] rss[i] d := by
  induction h with
  | nil => exact fun i h => absurd h (Nat.not_lt_zero _)
  | cons a _ ih =>
    intro i h1 h2
    cases i with
    | zero => exact ⟨_, Nat.le_add_right _ _, a⟩
    | succ i =>
      obtain ⟨d, hd, hr⟩ := ih i (by simpa using h1) (by simpa using h2)
      exact ⟨d, by omega, hr⟩
def SB : Nat → RowsP
  | 0 => fun _ _ _ => False
  | n + 1 => fun t rows c => ∃ ss rss, t = .tup ss ∧ StL (StN (SB n)) ss rss c ∧ rows = rss.flatten
def RowOk (r : List Str) : Prop := r ≠ [] ∧ wt r ≤ 19000
theorem ones_len : ∀ w ∈ ones, w.length ≤ 5 := by decide +kernel
theorem wtE {e : T} (h : ExOk 4 e) : wt (wdT e) ≤ 9350 := (ExOk.wt h).2
theorem wt_strs : ∀ {ks : List Str}, (∀ x ∈ ks, x.length ≤ 100) → wt ks ≤ ks.length * 101
  | [], _ => Nat.zero_le _
  | x :: ks, h => by
    rw [wt_cons, List.length_cons, Nat.succ_mul]
    have := wt_strs fun y hy => h y (List.mem_cons_of_mem _ hy)
    have := h x List.mem_cons_self
    omega
def BOk (B : RowsP) : Prop := ∀ t rows c, B t rows c → rows.length ≤ 3 * c ∧ ∀ r ∈ rows, RowOk r
theorem stn_ok {B : RowsP} (hB : BOk B) : BOk (StN B) := by
  have one : ∀ {r : List Str} {c : Nat}, c = 1 → RowOk r → ([r] : List (List Str)).length ≤ 3 * c ∧ ∀ q ∈ [r], RowOk q := fun {r c} e h => ⟨by rw [e]; show 1 ≤ 3; decide, fun q hq => by rw [List.mem_singleton.mp hq]; exact h⟩
  have small : ∀ (x : Str), x.length ≤ 100 → RowOk [x] := fun x hx => ⟨List.cons_ne_nil _ _, by rw [wt_cons, wt_nil]; omega⟩
  intro t rows c h
  rcases h with ⟨w, e, hw, he, rfl, rfl, rfl⟩ | ⟨x, e, hx, he, rfl, rfl, rfl⟩ | ⟨e, x, e2, he, hx, he2, rfl, rfl, rfl⟩ | ⟨w, e, x, hw, he, hx, rfl, rfl, rfl⟩ | ⟨a, b, d, f, ha, hb, hd, hf, rfl, rfl, rfl⟩ | ⟨a, b, ha, hb, rfl, rfl, rfl⟩ | ⟨a, ks, ha, hl, hk, rfl, rfl, rfl⟩ | ⟨e, b1, b2, r1, r2, c1, c2, he, h1, h2, rfl, rfl, rfl⟩ | ⟨w, e, b, r, c1, hw, he, h1, rfl, rfl, rfl⟩ | ⟨b1, b2, x, r1, r2, c1, c2, h1, hx, h2, rfl, rfl, rfl⟩
  · refine one rfl ⟨List.cons_ne_nil _ _, ?_⟩
    have := ones_len w hw
    have := wtE he
    rw [wt_cons]
    omega
  · refine one rfl ⟨List.cons_ne_nil _ _, ?_⟩
    have := wtE he
    have e3 : ("let" : Str).length = 3 := rfl
    rw [wt_cons, wt_cons]
    omega
  · refine one rfl ⟨List.cons_ne_nil _ _, ?_⟩
    have := wtE he
    have := wtE he2
    have e3 : ("put" : Str).length = 3 := rfl
    rw [wt_cons, wt_app, wt_cons]
    omega
  · refine one rfl ⟨List.cons_ne_nil _ _, ?_⟩
    have := wtE he
    have e3 : w.length ≤ 6 := by rcases hw with rfl | rfl <;> decide +kernel
    rw [wt_cons, wt_app, wt_cons, wt_nil]
    omega
  · refine one rfl ⟨List.cons_ne_nil _ _, ?_⟩
    have e3 : ("turn" : Str).length = 4 := rfl
    rw [wt_cons, wt_cons, wt_cons, wt_cons, wt_cons, wt_nil]
    omega
  · refine one rfl ⟨List.cons_ne_nil _ _, ?_⟩
    have e3 : ("strip" : Str).length = 5 := rfl
    rw [wt_cons, wt_cons, wt_cons, wt_nil]
    omega
  · refine one rfl ⟨List.cons_ne_nil _ _, ?_⟩
    have e3 : ("elders" : Str).length = 6 := rfl
    have := wt_strs hk
    rw [wt_cons, wt_cons]
    omega
  · obtain ⟨l1, k1⟩ := hB _ _ _ h1
    obtain ⟨l2, k2⟩ := hB _ _ _ h2
    refine ⟨?_, fun q hq => ?_⟩
    · rw [List.length_cons, List.length_append, List.length_cons, List.length_append, List.length_singleton]
      omega
    · rcases List.mem_cons.mp hq with rfl | hq
      · refine ⟨List.cons_ne_nil _ _, ?_⟩
        have := wtE he
        have e3 : ("if" : Str).length = 2 := rfl
        rw [wt_cons]
        omega
      rcases List.mem_append.mp hq with hq | hq
      · exact k1 q hq
      rcases List.mem_cons.mp hq with rfl | hq
      · exact small _ (by decide +kernel)
      rcases List.mem_append.mp hq with hq | hq
      · exact k2 q hq
      · rw [List.mem_singleton.mp hq]
        exact small _ (by decide +kernel)
  · obtain ⟨l1, k1⟩ := hB _ _ _ h1
    refine ⟨?_, fun q hq => ?_⟩
    · rw [List.length_cons, List.length_append, List.length_singleton]
      omega
    · rcases List.mem_cons.mp hq with rfl | hq
      · refine ⟨List.cons_ne_nil _ _, ?_⟩
        have := wtE he
        have e3 : w.length ≤ 6 := by rcases hw with rfl | rfl <;> decide +kernel
        rw [wt_cons]
        omega
      rcases List.mem_append.mp hq with hq | hq
      · exact k1 q hq
      · rw [List.mem_singleton.mp hq]
        exact small _ (by decide +kernel)
  · obtain ⟨l1, k1⟩ := hB _ _ _ h1
    obtain ⟨l2, k2⟩ := hB _ _ _ h2
    refine ⟨?_, fun q hq => ?_⟩
    · rw [List.length_cons, List.length_append, List.length_cons, List.length_append, List.length_singleton]
      omega
    · rcases List.mem_cons.mp hq with rfl | hq
      · exact small _ (by decide +kernel)
      rcases List.mem_append.mp hq with hq | hq
      · exact k1 q hq
      rcases List.mem_cons.mp hq with rfl | hq
      · refine ⟨List.cons_ne_nil _ _, ?_⟩
        have e3 : ("catch" : Str).length = 5 := rfl
        rw [wt_cons, wt_cons, wt_nil]
        omega
      rcases List.mem_append.mp hq with hq | hq
      · exact k2 q hq
      · rw [List.mem_singleton.mp hq]
        exact small _ (by decide +kernel)
theorem stl_ok {R : RowsP} (hR : BOk R) {ss : List T} {rss : List (List (List Str))} {c : Nat} (h : StL R ss rss c) : (rss.flatten).length ≤ 3 * c ∧ ∀ r ∈ rss.flatten, RowOk r := by
  induction h with
  | nil => exact ⟨Nat.zero_le _, fun r h => by cases h⟩
  | cons a _ ih =>
    obtain ⟨l1, k1⟩ := hR _ _ _ a
    rw [List.flatten_cons]
    refine ⟨by rw [List.length_append]; omega, fun r hr => ?_⟩
    rcases List.mem_append.mp hr with h | h
    · exact k1 r h
    · exact ih.2 r h
theorem sb_ok : ∀ n, BOk (SB n)
  | 0 => fun _ _ _ h => h.elim
  | n + 1 => fun t rows c ⟨ss, rss, _, h, e⟩ => by
    rw [e]
    exact stl_ok (stn_ok (sb_ok n)) h
inductive Stp (B : RowsP) : List Str → List T → List (List Str) → List Str → List Str → List (List Str) → Prop
  | nil {init : List (List Str)} {last : List Str} {js : List Str} : Stp B [] [] init last js (init ++ [last])
  | block {b : T} {r : List (List Str)} {c : Nat} {fs : List Str} {ts : List T} {init : List (List Str)} {last : List Str} {jj : Str} {js : List Str} {out : List (List Str)} : B b r c → c ≤ 16 → Stp B fs ts (init ++ [last] ++ r) [jj] js out → Stp B (("block" : Str) :: fs) (b :: ts) init last (jj :: js) out
  | part {f : Str} {t : T} {ws : List Str} {fs : List Str} {ts : List T} {init : List (List Str)} {last : List Str} {js : List Str} {out : List (List Str)} : PartW 4 f t ws → ¬ f = ("block" : Str) → Stp B fs ts init (last ++ ws) js out → Stp B (f :: fs) (t :: ts) init last js out
theorem Stp.len {B : RowsP} {fs : List Str} {ts : List T} {init : List (List Str)} {last js : List Str} {out : List (List Str)} (h : Stp B fs ts init last js out) : fs.length = ts.length ∧ init.length + 1 ≤ out.length := by
  induction h with
  | nil => exact ⟨rfl, by rw [List.length_append]; exact Nat.le_refl _⟩
  | block _ _ _ ih =>
    refine ⟨by rw [List.length_cons, List.length_cons, ih.1], ?_⟩
    have := ih.2
    rw [List.length_append, List.length_append, List.length_singleton] at this
    omega
  | part _ _ _ ih => exact ⟨by rw [List.length_cons, List.length_cons, ih.1], ih.2⟩
theorem ones_in : ∀ w ∈ ones, (w, ([("e" : Str)] : List Str)) ∈ stats ∧ ∀ p ∈ joints, ¬ p.1 = w := by decide +kernel
theorem stn_stp {B : RowsP} {t : T} {rows : List (List Str)} {c : Nat} (hc : c ≤ 16) (h : StN B t rows c) : ∃ (w : Str) (ps : List T) (fs js : List Str), t = .tup (.str w :: ps) ∧ (w, fs) ∈ stats ∧ ((w, js) ∈ joints ∨ (js = [] ∧ ∀ p ∈ joints, ¬ p.1 = w)) ∧ Stp B fs ps [] [w] js rows ∧ ps.length ≤ 4 := by
  have S : ∀ (f x : Str), f = ("x" : Str) ∨ f = ("name" : Str) ∨ f = ("kind" : Str) → PartW 4 f (.str x) [x] := fun f x h => .inr (.inr (.inr ⟨h, x, rfl, rfl⟩))
  have E : ∀ e, ExOk 4 e → PartW 4 ("e" : Str) e (wdT e) := fun e h => .inl ⟨rfl, h, rfl⟩
  rcases h with ⟨w, e, hw, he, rfl, rfl, rfl⟩ | ⟨x, e, hx, he, rfl, rfl, rfl⟩ | ⟨e, x, e2, he, hx, he2, rfl, rfl, rfl⟩ | ⟨w, e, x, hw, he, hx, rfl, rfl, rfl⟩ | ⟨a, b, d, f, ha, hb, hd, hf, rfl, rfl, rfl⟩ | ⟨a, b, ha, hb, rfl, rfl, rfl⟩ | ⟨a, ks, ha, hl, hk, rfl, rfl, rfl⟩ | ⟨e, b1, b2, r1, r2, c1, c2, he, h1, h2, rfl, rfl, rfl⟩ | ⟨w, e, b, r, c1, hw, he, h1, rfl, rfl, rfl⟩ | ⟨b1, b2, x, r1, r2, c1, c2, h1, hx, h2, rfl, rfl, rfl⟩
  · exact ⟨w, _, _, [], rfl, (ones_in w hw).1, .inr ⟨rfl, (ones_in w hw).2⟩, .part (E _ he) (by decide +kernel) .nil, by show 1 ≤ 4; decide⟩
  · exact ⟨("let" : Str), _, [("x" : Str), ("e" : Str)], [], rfl, by decide +kernel, .inr ⟨rfl, by decide +kernel⟩, .part (S _ x (.inl rfl)) (by decide +kernel) (.part (E _ he) (by decide +kernel) .nil), by show 2 ≤ 4; decide⟩
  · refine ⟨("put" : Str), _, [("e" : Str), ("name" : Str), ("e" : Str)], [], rfl, by decide +kernel, .inr ⟨rfl, by decide +kernel⟩, .part (E _ he) (by decide +kernel) (.part (S _ x (.inr (.inl rfl))) (by decide +kernel) (.part (E _ he2) (by decide +kernel) ?_)), by show 3 ≤ 4; decide⟩
    have : ([("put" : Str)] ++ wdT e ++ [x] ++ wdT e2 : List Str) = ("put" : Str) :: (wdT e ++ x :: wdT e2) := by simp
    rw [this]
    exact .nil
  · rcases hw with rfl | rfl
    · refine ⟨("drop" : Str), _, [("e" : Str), ("name" : Str)], [], rfl, by decide +kernel, .inr ⟨rfl, by decide +kernel⟩, .part (E _ he) (by decide +kernel) (.part (S _ x (.inr (.inl rfl))) (by decide +kernel) ?_), by show 2 ≤ 4; decide⟩
      have : ([("drop" : Str)] ++ wdT e ++ [x] : List Str) = ("drop" : Str) :: (wdT e ++ [x]) := by simp
      rw [this]
      exact .nil
    · refine ⟨("become" : Str), _, [("e" : Str), ("kind" : Str)], [], rfl, by decide +kernel, .inr ⟨rfl, by decide +kernel⟩, .part (E _ he) (by decide +kernel) (.part (S _ x (.inr (.inr rfl))) (by decide +kernel) ?_), by show 2 ≤ 4; decide⟩
      have : ([("become" : Str)] ++ wdT e ++ [x] : List Str) = ("become" : Str) :: (wdT e ++ [x]) := by simp
      rw [this]
      exact .nil
  · exact ⟨("turn" : Str), _, [("kind" : Str), ("name" : Str), ("kind" : Str), ("name" : Str)], [], rfl, by decide +kernel, .inr ⟨rfl, by decide +kernel⟩, .part (S _ a (.inr (.inr rfl))) (by decide +kernel) (.part (S _ b (.inr (.inl rfl))) (by decide +kernel) (.part (S _ d (.inr (.inr rfl))) (by decide +kernel) (.part (S _ f (.inr (.inl rfl))) (by decide +kernel) .nil))), by show 4 ≤ 4; decide⟩
  · exact ⟨("strip" : Str), _, [("kind" : Str), ("name" : Str)], [], rfl, by decide +kernel, .inr ⟨rfl, by decide +kernel⟩, .part (S _ a (.inr (.inr rfl))) (by decide +kernel) (.part (S _ b (.inr (.inl rfl))) (by decide +kernel) .nil), by show 2 ≤ 4; decide⟩
  · exact ⟨("elders" : Str), _, [("kind" : Str), ("elders" : Str)], [], rfl, by decide +kernel, .inr ⟨rfl, by decide +kernel⟩, .part (S _ a (.inr (.inr rfl))) (by decide +kernel) (.part (.inr (.inr (.inl ⟨rfl, ks, rfl, by omega, rfl⟩))) (by decide +kernel) .nil), by show 2 ≤ 4; decide⟩
  · refine ⟨("if" : Str), _, [("e" : Str), ("block" : Str), ("block" : Str)], [("else" : Str), ("end" : Str)], rfl, by decide +kernel, .inl (by decide +kernel), .part (E _ he) (by decide +kernel) (.block h1 (by omega) (.block h2 (by omega) ?_)), by show 3 ≤ 4; decide⟩
    have : ([] ++ [[("if" : Str)] ++ wdT e] ++ r1 ++ [[("else" : Str)]] ++ r2 ++ [[("end" : Str)]] : List (List Str)) = (("if" : Str) :: wdT e) :: (r1 ++ [("else" : Str)] :: (r2 ++ [[("end" : Str)]])) := by simp
    rw [← this]
    exact .nil
  · rcases hw with rfl | rfl
    · refine ⟨("while" : Str), _, [("e" : Str), ("block" : Str)], [("end" : Str)], rfl, by decide +kernel, .inl (by decide +kernel), .part (E _ he) (by decide +kernel) (.block h1 (by omega) ?_), by show 2 ≤ 4; decide⟩
      have : ([] ++ [[("while" : Str)] ++ wdT e] ++ r ++ [[("end" : Str)]] : List (List Str)) = (("while" : Str) :: wdT e) :: (r ++ [[("end" : Str)]]) := by simp
      rw [← this]
      exact .nil
    · refine ⟨("repeat" : Str), _, [("e" : Str), ("block" : Str)], [("end" : Str)], rfl, by decide +kernel, .inl (by decide +kernel), .part (E _ he) (by decide +kernel) (.block h1 (by omega) ?_), by show 2 ≤ 4; decide⟩
      have : ([] ++ [[("repeat" : Str)] ++ wdT e] ++ r ++ [[("end" : Str)]] : List (List Str)) = (("repeat" : Str) :: wdT e) :: (r ++ [[("end" : Str)]]) := by simp
      rw [← this]
      exact .nil
  · refine ⟨("try" : Str), _, [("block" : Str), ("x" : Str), ("block" : Str)], [("catch" : Str), ("end" : Str)], rfl, by decide +kernel, .inl (by decide +kernel), .block h1 (by omega) (.part (S _ x (.inl rfl)) (by decide +kernel) (.block h2 (by omega) ?_)), by show 3 ≤ 4; decide⟩
    have : ([] ++ [[("try" : Str)]] ++ r1 ++ [[("catch" : Str)] ++ [x]] ++ r2 ++ [[("end" : Str)]] : List (List Str)) = [("try" : Str)] :: (r1 ++ [("catch" : Str), x] :: (r2 ++ [[("end" : Str)]])) := by simp
    rw [← this]
    exact .nil
def RowsF (H H' : Hp) (vs : List V) (rows : List (List Str)) : Prop := Paired (fun (v : V) (r : List Str) => ∃ a, v = .ref a ∧ H a = none ∧ H' a = some (.lst (r.map V.str))) vs rows
end K25
end
section
set_option autoImplicit false
namespace K25
open PySem PyProof.Rows L2
theorem RowsF.keep {H H1 H2 : Hp} {vs : List V} {rows : List (List Str)} (h : RowsF H H1 vs rows) (s : ∀ a, H a = none → ∀ o, H1 a = some o → H2 a = some o) : RowsF H H2 vs rows := Paired.mapP h fun v r ⟨a, e, n, q⟩ => ⟨a, e, n, s a n _ q⟩
theorem sameNone {H H' : Hp} (s : Same H H') {a : Addr} (h : H' a = none) : H a = none := by
  cases e : H a with
  | none => rfl
  | some o => rw [s a o e] at h; cases h
theorem valV_key {κ : Type} [DecidableEq κ] : ∀ {kvs : List (κ × V)} {k : κ}, (valV kvs k).isSome = true ↔ k ∈ kvs.map (·.1)
  | [], k => by simp [valV]
  | p :: kvs, k => by
    by_cases e : p.1 = k
    · rw [valV_pos e]
      simp [e]
    · rw [valV_neg e, valV_key]
      have : ¬ k = p.1 := fun z => e z.symm
      simp [this]
theorem pairedApp {α β : Type} {F : α → β → Prop} {as as' : List α} {bs bs' : List β} (h : Paired F as bs) (h' : Paired F as' bs') : Paired F (as ++ as') (bs ++ bs') := by
  induction h with
  | nil => exact h'
  | cons a _ ih => exact .cons a ih
def RowsZ (H H' : Hp) (x y z : Addr) (vs : List V) (rows : List (List Str)) : Prop := Paired (fun (v : V) (r : List Str) => ∃ a, v = .ref a ∧ H a = none ∧ a ≠ x ∧ a ≠ y ∧ a ≠ z ∧ H' a = some (.lst (r.map V.str))) vs rows
section
variable {P : Program} {w : World} {K : PySem.W.Frag} {mg : Str → Option Value} {base : Heap} {t : Adr}
def spBlk (B : RowsP) : Sp := fun vs H Q _ => ∃ (v : V) (t : T) (rows : List (List Str)) (c : Nat), vs = [v] ∧ Dp H t v ∧ B t rows c ∧ c ≤ 16 ∧ ∀ (l : Addr) (us : List V) H', H l = none → H' l = some (.lst us) → RowsF H H' us rows → Same H H' → Q (.ref l) H'
theorem ok_stm (D : Defs K mg t) (GL : Glb P w K mg t) {B : RowsP} (hB : BOk B) {j k : Nat} (hj : j ≤ k) (hk : 23 ≤ k) (G_show_block : FnOk P w K mg base CX0 j t.show_block.1 t.show_block.2 ["block"] (spBlk B)) : FnOk P w K mg base CX0 (k + 1) t.show_statement.1 t.show_statement.2 ["statement"] (spBlk (StN B)) := by
  have G_show_part : FnOk P w K mg base CX0 23 t.show_part.1 t.show_part.2 _ (spPart 4) := ok_part4 D GL
  have hz : sizeLine = 16777216 := sizeLine_eq
  refine D.show_statement.fn.ok sc_show_statement (fun vs H Q E h => ?_) (fun cdv A outer s H vs Q E hr h => ?_)
  · obtain ⟨v, t, rows, c, rfl, _⟩ := h
    rfl
  · obtain ⟨v, t0, out, c, rfl, dv, hst, hc, q⟩ := h
    obtain ⟨ol, _⟩ := stn_ok hB _ _ _ hst
    obtain ⟨wd, ps, fs, js, rfl, hm, hjs, stp, hp4⟩ := stn_stp hc hst
    obtain ⟨a, xs, rfl, ha, dl⟩ := L2.Dp.of_tup dv
    obtain ⟨x1, ys, rfl, d1, dl'⟩ := dl.cases
    have e1 := L2.Dp.of_str d1
    subst e1
    have hyl : ys.length = ps.length := dl'.length
    refine ⟨_, (pss_cons (ps_set (i := 1) sc_show_statement.nd rfl (Or.inl rfl) (pe_ix ix_tup (pv 0) pe_int (fun _ _ => rfl)))
      (pss_cons (ps_set (i := 2) sc_show_statement.nd rfl (Or.inl rfl) (pe_lst (pa_cons (pe_lst (pa_cons (pv 1) pa_nil)) pa_nil)))
      (pss_cons (ps_set (i := 3) sc_show_statement.nd rfl (Or.inl rfl) (pe_callTy call_list_of (by rfl) D.b_list bt_list (pa_cons (pe_kget2 (pe_glob (v := V.ref t.cJOINTS) (by rfl) GL.g_JOINTS rfl) (pv 1) (pe_tup pa_nil) ⟨by rfl, by rfl, by rfl, by rfl⟩) pa_nil)))
      (pss_cons (ps_for PassesOwn.never rfl (pi_zip2 rfl D.b_zip (pa_cons (pe_kget (pe_glob (v := V.ref t.cSTATEMENTS) (by rfl) GL.g_STATEMENTS rfl) (pv 1) (fun _ _ => rfl)) (pa_cons (pe_slice sl_tupW (pv 0) (po_some pe_int) po_none) pa_nil))) (pg_tup rfl (pgs_cons (pg_name (i := 4) sc_show_statement.nd rfl (Or.inl rfl)) (pgs_cons (pg_name (i := 5) sc_show_statement.nd rfl (Or.inl rfl)) pgs_nil)))
      (pss_one (ps_if (pt_cmpR op_eq (pv 4) pe_str (nomark _))
      (pss_cons (ps_expr (pe_bm PySem.F.plainAttrs_list PySem.F.slot_list_extend PySem.F.type_list_extend mt_extend (pv 2) (pa_cons (pe_callF D.show_block G_show_block (hr.mono (by omega)) (by rfl) (pa_cons (pv 5) pa_nil)) pa_nil)))
      (pss_one (ps_expr (pe_bm PySem.F.plainAttrs_list PySem.F.slot_list_append PySem.F.type_list_append mt_append (pv 2) (pa_cons (pe_lst (pa_cons (pe_bm PySem.F.plainAttrs_list PySem.F.slot_list_pop PySem.F.type_list_pop mt_popAt (pv 3) (pa_cons pe_int pa_nil)) pa_nil)) pa_nil)))))
      (pss_one (ps_expr (pe_bm PySem.F.plainAttrs_list PySem.F.slot_list_extend PySem.F.type_list_extend mt_extend (pe_ix ix_list (pv 2) (pe_un un_neg pe_int) (fun _ _ => rfl)) (pa_cons (pe_callF D.show_part G_show_part (hr.mono (by omega)) (by rfl) (pa_cons (pv 4) (pa_cons (pv 5) pa_nil))) pa_nil)))))))
      (pss_one (ps_ret (pv 2))))))), ?_⟩
    refine ⟨_, rfl, a, _, _, _, rfl, rfl, SqT.of ha, atI_nat (j := 0) rfl, ?_⟩
    refine ⟨_, rfl, by show 1 ≤ sizeLine; decide, fun la hla => ⟨by show 1 ≤ sizeLine; decide, fun r hr0 => ?_⟩⟩
    have lar : la ≠ r := ne_of_none upd_same hr0
    have hrH : H r = none := by rw [upd_ne lar.symm] at hr0; exact hr0
    have s1 : Same H (upd (upd H la (.lst [.str wd])) r (.lst [.ref la])) := (Same.new hla).trans (Same.new hr0)
    have hla1 : (upd (upd H la (.lst [.str wd])) r (.lst [.ref la])) la = some (.lst [.str wd]) := by rw [upd_ne lar, upd_same]
    have hr1 : (upd (upd H la (.lst [.str wd])) r (.lst [.ref la])) r = some (.lst [.ref la]) := upd_same
    generalize upd (upd H la (.lst [.str wd])) r (.lst [.ref la]) = H1 at s1 hla1 hr1
    refine ⟨t.cJOINTS, _, rfl, GL.t_JOINTS.d, _, rfl, Nat.zero_le _, fun e0 he0 => ⟨.inr wd, rfl, ?_⟩⟩
    have s2 : Same H1 (upd H1 e0 (.tup [])) := Same.new he0
    have he2 : (upd H1 e0 (.tup [])) e0 = some (.tup []) := upd_same
    generalize upd H1 e0 (.tup []) = H2 at s2 he2
    obtain ⟨jt, hjt, hjv⟩ : ∃ jt : Addr, ((valV (joints.map fun p => ((.inr p.1 : Key), V.ref (t.ad "j" p.1))) (.inr wd)).getD (.ref e0)) = V.ref jt ∧ SqT K H2 jt (js.map V.str) := by
      rcases hjs with hjs | ⟨rfl, hno⟩
      · exact ⟨t.ad "j" wd, by rw [tab_val GL.t_JOINTS hjs]; rfl, GL.t_JOINTS.s _ hjs H2⟩
      · refine ⟨e0, ?_, SqT.of he2⟩
        have : valV (joints.map fun p => ((.inr p.1 : Key), V.ref (t.ad "j" p.1))) (.inr wd) = none := by
          cases e : valV (joints.map fun p => ((.inr p.1 : Key), V.ref (t.ad "j" p.1))) (.inr wd) with
          | none => rfl
          | some y =>
            have h1 : (valV (joints.map fun p => ((.inr p.1 : Key), V.ref (t.ad "j" p.1))) (.inr wd)).isSome = true := by rw [e]; rfl
            rw [valV_key, List.map_map, List.mem_map] at h1
            obtain ⟨z, hz', ez⟩ := h1
            have ez : (Sum.inr z.1 : Key) = Sum.inr wd := ez
            injection ez with ez
            exact absurd ez (hno z hz')
        rw [this]
        rfl
    rw [hjt]
    refine ⟨jt, _, rfl, .inr hjv, fun jl hjl => ?_⟩
    have s3 : Same H2 (upd H2 jl (.lst (js.map V.str))) := Same.new hjl
    have hjl3 : (upd H2 jl (.lst (js.map V.str))) jl = some (.lst (js.map V.str)) := upd_same
    have s03 : Same H (upd H2 jl (.lst (js.map V.str))) := (s1.trans s2).trans s3
    have hla3 := (s2.trans s3) la _ hla1
    have hr3 := (s2.trans s3) r _ hr1
    have jlH : H jl = none := sameNone (s1.trans s2) hjl
    have lajl : la ≠ jl := ne_of_none (s2 la _ hla1) hjl
    have rjl : r ≠ jl := ne_of_none (s2 r _ hr1) hjl
    generalize upd H2 jl (.lst (js.map V.str)) = H3 at s3 hjl3 s03 hla3 hr3
    refine ⟨_, rfl, t.cSTATEMENTS, _, .inr wd, _, rfl, GL.t_STATEMENTS.d, rfl, tab_val GL.t_STATEMENTS hm, ?_⟩
    refine ⟨_, rfl, _, rfl, a, _, rfl, s03 a _ ha, fun pb H4 hpb s4 => ?_⟩
    rw [cut1_from] at hpb
    have hpb : H4 pb = some (.tup ys) := hpb
    have s04 := s03.trans s4
    obtain ⟨fl, _⟩ := stp.len
    refine ⟨t.ad "s" wd, pb, _, ys, rfl, GL.t_STATEMENTS.s (wd, fs) hm H4, SqT.of hpb, ?_⟩
    have hpbH : ∀ H5 : Hp, (∀ b zs, H4 b = some (.tup zs) → H5 b = some (.tup zs)) → SqT K H5 pb ys := fun H5 h => SqT.of (h pb _ hpb)
    refine for_zip2 (K := K) (a := t.ad "s" wd) (b := pb) (xs := fs.map V.str) (ys := ys) (n := ps.length) (by rw [List.length_map]; omega) (fun i σ H5 => ∃ (vs : List V) (la : Addr) (init : List (List Str)) (last js : List Str) (v4 v5 : Option V), σ = [some (.ref a), some (.str wd), some (.ref r), some (.ref jl), v4, v5] ∧ H5 r = some (.lst (vs ++ [.ref la])) ∧ RowsZ H H5 la r jl vs init ∧ H5 la = some (.lst (last.map V.str)) ∧ H la = none ∧ la ≠ r ∧ la ≠ jl ∧ H5 jl = some (.lst (js.map V.str)) ∧ Stp B (fs.drop i) (ps.drop i) init last js out ∧ last.length ≤ 1 + i * 30000 ∧ Same H H5 ∧ Tups H4 H5)
      ⟨[], la, [], [wd], js, _, _, rfl, s4 r _ hr3, .nil, s4 la _ hla3, hla, lar, lajl, s4 jl _ hjl3, by rw [List.drop_zero, List.drop_zero]; exact stp, Nat.le_refl _, s04, fun _ _ e => e⟩ (fun i σ H5 _ ⟨_, _, _, _, _, _, _, _, _, _, _, _, _, _, _, _, _, _, tu⟩ => ⟨GL.t_STATEMENTS.s (wd, fs) hm H5, hpbH H5 tu⟩) ?_ ?_
    · rintro i x y σ H5 p hx hy ⟨vs, la, init, last, js, v4, v5, rfl, hr5, rz, hla5, laH, lar, lajl, hjl5, st, ll, s05, tu5⟩ hp
      have hit : i < ps.length := by
        have := (List.getElem?_eq_some_iff.mp hy).1
        omega
      have hif : i < fs.length := by omega
      have ex' : x = .str fs[i] := by
        rw [List.getElem?_map, List.getElem?_eq_getElem hif] at hx
        exact (Option.some.inj hx).symm
      subst ex'
      obtain ⟨y', ey, dy⟩ := dl'.get (List.getElem?_eq_getElem hit)
      rw [hy] at ey
      cases ey
      have s6 : Same H5 (upd H5 p (.tup [.str fs[i], y])) := Same.new hp
      refine ⟨p, _, rfl, SqT.of upd_same, rfl, _, _, rfl, _, _, rfl, rfl, ?_⟩
      generalize upd H5 p (.tup [.str fs[i], y]) = H6 at s6
      have s06 := s05.trans s6
      have tu6 : Tups H4 H6 := tu5.trans (Same.tups s6)
      have hr6 := s6 r _ hr5
      have hla6 := s6 la _ hla5
      have hjl6 := s6 jl _ hjl5
      have rz6 : RowsZ H H6 la r jl vs init := Paired.mapP rz fun v rw' ⟨b, e, n, n1, n2, n3, q⟩ => ⟨b, e, n, n1, n2, n3, s6 b _ q⟩
      have il : init.length + 1 ≤ out.length := st.len.2
      have vl : vs.length = init.length := Paired.length rz
      rw [List.drop_eq_getElem_cons hif, List.drop_eq_getElem_cons hit] at st
      have dy6 := dy.mono (Same.tups s06)
      generalize hfe : fs[i] = ff at st
      generalize hte : ps[i] = tt at st dy6
      cases st with
      | @block bb rr cc _ _ _ _ jj js' _ hb hcc st' =>
        refine ⟨_, rfl, rfl, _, rfl, itePos (decide_eq_true rfl) ?_⟩
        refine ⟨_, rfl, .inl ⟨rfl, _, SqL.of hr6⟩, _, rfl, y, tt, rr, cc, rfl, dy6, hb, hcc, fun l2 vs2 H7 hn2 hl2 rf2 s7 => ?_⟩
        have hr7 := s7 r _ hr6
        have hla7 := s7 la _ hla6
        have hjl7 := s7 jl _ hjl6
        have rl := (hB _ _ _ hb).1
        have v2l : vs2.length = rr.length := Paired.length rf2
        refine ⟨r, l2, _, _, rfl, rfl, hr7, hl2, by rw [List.length_append, List.length_singleton]; omega, ?_⟩
        have kp8 : ∀ b o, b ≠ r → H7 b = some o → (upd H7 r (.lst (vs ++ [.ref la] ++ vs2))) b = some o := fun b o hb e => by rw [upd_ne hb]; exact e
        have hr8 : (upd H7 r (.lst (vs ++ [.ref la] ++ vs2))) r = some (.lst (vs ++ [.ref la] ++ vs2)) := upd_same
        generalize upd H7 r (.lst (vs ++ [.ref la] ++ vs2)) = H8 at kp8 hr8
        have hla8 := kp8 la _ lar hla7
        have hjl8 := kp8 jl _ rjl.symm hjl7
        refine ⟨_, rfl, .inl ⟨rfl, _, SqL.of hr8⟩, _, rfl, .inl ⟨rfl, _, SqL.of hjl8⟩, jl, _, 0, 0, .str jj, rfl, rfl, hjl8, by decide, by decide, ?_, rfl, ?_⟩
        · rw [List.map_cons, List.length_cons]
          unfold seqIndex?
          simp
        refine ⟨by show 1 ≤ sizeLine; decide, fun nl hnl => ?_⟩
        have ejs : ((jj :: js').map V.str).eraseIdx 0 = js'.map V.str := rfl
        rw [ejs] at hnl ⊢
        have kp9 : ∀ b o, b ≠ jl → H8 b = some o → (upd H8 jl (.lst (js'.map V.str))) b = some o := fun b o hb e => by rw [upd_ne hb]; exact e
        have hjl9 : (upd H8 jl (.lst (js'.map V.str))) jl = some (.lst (js'.map V.str)) := upd_same
        generalize upd H8 jl (.lst (js'.map V.str)) = H9 at kp9 hjl9 hnl
        have hr9 := kp9 r _ rjl hr8
        have hla9 := kp9 la _ lajl hla8
        have nlr : nl ≠ r := (ne_of_none hr9 hnl).symm
        have nljl : nl ≠ jl := (ne_of_none hjl9 hnl).symm
        have s10 : Same H9 (upd H9 nl (.lst [.str jj])) := Same.new hnl
        have hnl10 : (upd H9 nl (.lst [.str jj])) nl = some (.lst [.str jj]) := upd_same
        generalize upd H9 nl (.lst [.str jj]) = H10 at s10 hnl10
        refine ⟨r, _, .ref nl, rfl, rfl, s10 r _ hr9, by rw [List.length_append, List.length_append, List.length_singleton]; omega, ?_⟩
        have H9H : ∀ b o, b ≠ r → b ≠ jl → H7 b = some o → H9 b = some o := fun b o h1 h2 e => kp9 b o h2 (kp8 b o h1 e)
        have same11 : ∀ b o, b ≠ r → b ≠ jl → H7 b = some o → (upd H10 r (.lst (vs ++ [.ref la] ++ vs2 ++ [.ref nl]))) b = some o := fun b o h1 h2 e => by
          rw [upd_ne h1]
          exact s10 b o (H9H b o h1 h2 e)
        have nlH : ∀ b o, H7 b = some o → b ≠ r → b ≠ jl → b ≠ nl := fun b o e h1 h2 => ne_of_none (H9H b o h1 h2 e) hnl
        have s0 : Same H (upd H10 r (.lst (vs ++ [.ref la] ++ vs2 ++ [.ref nl]))) := fun b o e => same11 b o (ne_of_none e hrH) (ne_of_none e jlH) (s7 b o (s06 b o e))
        have nlH0 : H nl = none := by
          cases e : H nl with
          | none => rfl
          | some o => rw [H9H nl o nlr nljl (s7 nl o (s06 nl o e))] at hnl; cases hnl
        refine ⟨vs ++ [.ref la] ++ vs2, nl, init ++ [last] ++ rr, [jj], js', _, _, rfl, upd_same, ?_, by rw [upd_ne nlr]; exact hnl10, nlH0, nlr, nljl, by rw [upd_ne rjl.symm]; exact s10 jl _ hjl9, st', by show 1 ≤ _; omega, s0, fun b zs e => ?_⟩
        · refine pairedApp (pairedApp ?_ (.cons ?_ .nil)) ?_
          · exact Paired.mapP rz6 fun v rw' ⟨b, e, n, n1, n2, n3, q⟩ => ⟨b, e, n, nlH b _ (s7 b _ q) n2 n3, n2, n3, same11 b _ n2 n3 (s7 b _ q)⟩
          · exact ⟨la, rfl, laH, nlH la _ hla7 lar lajl, lar, lajl, same11 la _ lar lajl hla7⟩
          · refine Paired.mapP rf2 fun v rw' ⟨b, e, n, q⟩ => ?_
            have nr : b ≠ r := fun z => by rw [z, hr6] at n; cases n
            have nj : b ≠ jl := fun z => by rw [z, hjl6] at n; cases n
            exact ⟨b, e, sameNone s06 n, nlH b _ q nr nj, nr, nj, same11 b _ nr nj q⟩
        · have e7 := s7 b _ (tu6 b _ e)
          exact same11 b _ (ne_of e7 hr7 (fun z => nomatch z)) (ne_of e7 hjl7 (fun z => nomatch z)) e7
      | @part _ _ ws _ _ _ _ _ _ pw hf st' =>
        refine ⟨_, rfl, rfl, _, rfl, iteNeg (ne_str hf) ?_⟩
        refine ⟨_, rfl, _, rfl, r, _, _, _, rfl, rfl, SqL.of hr6, atI_last _ _, .inl ⟨rfl, _, SqL.of hla6⟩, _, rfl, _, rfl, ff, y, tt, ws, rfl, dy6, pw, fun l2 H7 hn2 hl2 s7 => ?_⟩
        have hla7 := s7 la _ hla6
        have wl := pw.len (by decide)
        have hi4 : i ≤ 4 := by omega
        refine ⟨la, l2, _, _, rfl, rfl, hla7, hl2, by rw [List.length_map, List.length_map]; omega, ?_⟩
        have kp8 : ∀ b o, b ≠ la → H7 b = some o → (upd H7 la (.lst (last.map V.str ++ ws.map V.str))) b = some o := fun b o hb e => by rw [upd_ne hb]; exact e
        refine ⟨vs, la, init, last ++ ws, js, _, _, rfl, kp8 r _ lar.symm (s7 r _ hr6), ?_, by rw [upd_same, List.map_append], laH, lar, lajl, kp8 jl _ lajl.symm (s7 jl _ hjl6), st', by rw [List.length_append]; omega, fun b o e => kp8 b o (ne_of_none e laH) (s7 b o (s06 b o e)), fun b zs e => ?_⟩
        · exact Paired.mapP rz6 fun v rw' ⟨b, e, n, n1, n2, n3, q⟩ => ⟨b, e, n, n1, n2, n3, kp8 b _ n1 (s7 b _ q)⟩
        · have e7 := s7 b _ (tu6 b _ e)
          exact kp8 b _ (ne_of e7 hla7 (fun z => nomatch z)) e7
    · rintro σ H5 ⟨vs, la, init, last, js, v4, v5, rfl, hr5, rz, hla5, laH, lar, lajl, hjl5, st, ll, s05, tu5⟩
      rw [List.drop_of_length_le (by omega), List.drop_of_length_le (Nat.le_refl _)] at st
      cases st
      refine ⟨_, rfl, q r _ H5 hrH hr5 (pairedApp (Paired.mapP rz fun v rw' ⟨b, e, n, _, _, _, q⟩ => ⟨b, e, n, q⟩) (.cons ⟨la, rfl, laH, hla5⟩ .nil)) s05⟩
end
end K25
end
section
set_option autoImplicit false
namespace K25
open PySem PyProof.Rows L2
structure KR where
  kind : Str
  elders : List Str
  fields : List Str
def krT (r : KR) : T := .tup [.str r.kind, .tup (r.elders.map T.str), .tup (r.fields.map T.str)]
def kindW (r : KR) : List Str := "kind" :: r.kind :: nS r.elders.length :: (r.elders ++ r.fields)
theorem Dp.of_kr {H : Hp} {r : KR} {v : V} (d : Dp H (krT r) v) : ∃ q e f, v = .ref q ∧ H q = some (.tup [.str r.kind, .ref e, .ref f]) ∧ H e = some (.tup (r.elders.map V.str)) ∧ H f = some (.tup (r.fields.map V.str)) := by
  obtain ⟨q, xs, rfl, hq, dl⟩ := L2.Dp.of_tup d
  obtain ⟨x1, r1, rfl, d1, dl⟩ := dl.cases
  obtain ⟨x2, r2, rfl, d2, dl⟩ := dl.cases
  obtain ⟨x3, r3, rfl, d3, dl⟩ := dl.cases
  have e1 := L2.Dp.of_str d1
  have e4 := dl.of_nil
  obtain ⟨e, ys, rfl, he, dl2⟩ := L2.Dp.of_tup d2
  obtain ⟨f, zs, rfl, hf, dl3⟩ := L2.Dp.of_tup d3
  subst e1 e4
  rw [DpL.of_strs dl2] at he
  rw [DpL.of_strs dl3] at hf
  exact ⟨q, e, f, rfl, hq, he, hf⟩
structure DR where
  kind : Str
  name : Str
  params : List Str
  block : T
def drT (d : DR) : T := .tup [.str d.kind, .str d.name, .tup (d.params.map T.str), d.block]
def deedW (d : DR) : List Str := "deed" :: d.kind :: d.name :: d.params
theorem Dp.of_dr {H : Hp} {d : DR} {v : V} (h : Dp H (drT d) v) : ∃ q p b, v = .ref q ∧ H q = some (.tup [.str d.kind, .str d.name, .ref p, b]) ∧ H p = some (.tup (d.params.map V.str)) ∧ Dp H d.block b := by
  obtain ⟨q, xs, rfl, hq, dl⟩ := L2.Dp.of_tup h
  obtain ⟨x1, r1, rfl, d1, dl⟩ := dl.cases
  obtain ⟨x2, r2, rfl, d2, dl⟩ := dl.cases
  obtain ⟨x3, r3, rfl, d3, dl⟩ := dl.cases
  obtain ⟨x4, r4, rfl, d4, dl⟩ := dl.cases
  have e1 := L2.Dp.of_str d1
  have e2 := L2.Dp.of_str d2
  have e4 := dl.of_nil
  obtain ⟨p, ys, rfl, hp, dl2⟩ := L2.Dp.of_tup d3
  subst e1 e2 e4
  rw [DpL.of_strs dl2] at hp
  exact ⟨q, p, _, rfl, hq, hp, d4⟩
def KOk (r : KR) : Prop := r.kind.length ≤ 100 ∧ r.elders.length ≤ 7 ∧ r.fields.length ≤ 7 ∧ (∀ x ∈ r.elders, x.length ≤ 100) ∧ ∀ x ∈ r.fields, x.length ≤ 100
def DOk (d : DR) (rows : List (List Str)) : Prop := d.kind.length ≤ 100 ∧ d.name.length ≤ 100 ∧ d.params.length ≤ 7 ∧ (∀ x ∈ d.params, x.length ≤ 100) ∧ ∃ c, c ≤ 16 ∧ SB 3 d.block rows c
def deedR (d : DR) (b : List (List Str)) : List (List Str) := deedW d :: (b ++ [[("end" : Str)]])
theorem kind_row {r : KR} (h : KOk r) : RowOk (kindW r) := by
  obtain ⟨h1, h2, h3, h4, h5⟩ := h
  refine ⟨List.cons_ne_nil _ _, ?_⟩
  have e : ("kind" : Str).length = 4 := rfl
  have := nS_small r.elders.length h2
  have := wt_strs h4
  have := wt_strs h5
  unfold kindW
  rw [wt_cons, wt_cons, wt_cons, wt_app]
  omega
theorem end_row : RowOk ["end"] := ⟨List.cons_ne_nil _ _, by show 4 ≤ 19000; decide⟩
theorem deed_rows {d : DR} {b : List (List Str)} (h : DOk d b) : (deedR d b).length ≤ 50 ∧ ∀ r ∈ deedR d b, RowOk r := by
  obtain ⟨h1, h2, h3, h4, c, hc, hb⟩ := h
  obtain ⟨l, k⟩ := sb_ok 3 _ _ _ hb
  refine ⟨by unfold deedR; rw [List.length_cons, List.length_append, List.length_singleton]; omega, fun r hr => ?_⟩
  rcases List.mem_cons.mp hr with rfl | hr
  · refine ⟨List.cons_ne_nil _ _, ?_⟩
    have e : ("deed" : Str).length = 4 := rfl
    have := wt_strs h4
    unfold deedW
    rw [wt_cons, wt_cons, wt_cons]
    omega
  rcases List.mem_append.mp hr with hr | hr
  · exact k r hr
  · rw [List.mem_singleton.mp hr]
    exact end_row
def runR (b : List (List Str)) : List (List Str) := [("run" : Str)] :: (b ++ [[("end" : Str)]])
section
variable {P : Program} {w : World} {K : PySem.W.Frag} {mg : Str → Option Value} {base : Heap} {t : Adr}
theorem ok_blk_step (D : Defs K mg t) {n k : Nat} (G_show_statement : FnOk P w K mg base CX0 k t.show_statement.1 t.show_statement.2 ["statement"] (spBlk (StN (SB n)))) : FnOk P w K mg base CX0 (k + 1) t.show_block.1 t.show_block.2 ["block"] (spBlk (SB (n + 1))) := by
  have hz : sizeLine = 16777216 := sizeLine_eq
  refine D.show_block.fn.ok sc_show_block (fun vs H Q E h => ?_) (fun cdv A outer s H vs Q E hr h => ?_)
  · obtain ⟨v, t, rows, c, rfl, _⟩ := h
    rfl
  · obtain ⟨v, t0, rows, c, rfl, dv, ⟨ss, rss, rfl, hst, rfl⟩, hc, q⟩ := h
    obtain ⟨a, xs, rfl, ha, dl⟩ := L2.Dp.of_tup dv
    have hxl : xs.length = ss.length := dl.length
    have hrl := hst.len
    obtain ⟨fl, _⟩ := stl_ok (stn_ok (sb_ok n)) hst
    refine ⟨_, (pss_cons (ps_set (i := 1) sc_show_block.nd rfl (Or.inl rfl) (pe_lst pa_nil))
      (pss_cons (ps_for PassesOwn.never rfl (pi_tup (pv 0)) (pg_name (i := 2) sc_show_block.nd rfl (Or.inl rfl))
      (pss_one (ps_expr (pe_bm PySem.F.plainAttrs_list PySem.F.slot_list_extend PySem.F.type_list_extend mt_extend (pv 1) (pa_cons (pe_callF D.show_statement G_show_statement (hr.mono (by omega)) (by rfl) (pa_cons (pv 2) pa_nil)) pa_nil)))))
      (pss_one (ps_ret (pv 1))))), ?_⟩
    refine ⟨Nat.zero_le _, fun l hl => ?_⟩
    have s1 : Same H (upd H l (.lst [])) := Same.new hl
    have hl1 : (upd H l (.lst [])) l = some (.lst []) := upd_same
    generalize upd H l (.lst []) = H1 at s1 hl1
    have pre : ∀ i, ((rss.take i).flatten).length ≤ 48 := fun i => by
      have : ((rss.take i).flatten).length ≤ (rss.flatten).length := by
        conv => rhs; rw [← List.take_append_drop i rss]
        rw [List.flatten_append, List.length_append]
        omega
      omega
    refine ⟨_, rfl, a, rfl, ⟨_, SqT.of (s1 a _ ha)⟩, for_tup (K := K) (a := a) (xs := xs) (fun i σ H2 => ∃ (us : List V) (v2 : Option V), σ = [some (.ref a), some (.ref l), v2] ∧ H2 l = some (.lst us) ∧ Paired (fun (v : V) (r : List Str) => ∃ b, v = .ref b ∧ H b = none ∧ b ≠ l ∧ H2 b = some (.lst (r.map V.str))) us (rss.take i).flatten ∧ Same H H2)
      ⟨[], _, rfl, hl1, .nil, s1⟩ (fun i σ H2 _ ⟨_, _, _, _, _, s⟩ => SqT.of (s a _ ha)) ?_ ?_⟩
    · rintro i x σ H2 hi ⟨us, v2, rfl, hl2, rf, s2⟩
      have hix : i < xs.length := (List.getElem?_eq_some_iff.mp hi).1
      have his : i < ss.length := by omega
      have hir : i < rss.length := by omega
      obtain ⟨x', ex, dx⟩ := dl.get (List.getElem?_eq_getElem his)
      rw [ex] at hi
      cases hi
      obtain ⟨d, hd, hs⟩ := hst.get i his hir
      refine ⟨_, rfl, .inl ⟨rfl, _, SqL.of hl2⟩, _, rfl, x, ss[i], rss[i], d, rfl, dx.mono (Same.tups s2), hs, by omega, fun l2 us2 H3 hn2 hl2' rf2 s3 => ?_⟩
      have hl3 := s3 l _ hl2
      have ew : (rss.take (i + 1)).flatten = (rss.take i).flatten ++ rss[i] := by
        rw [take_snoc hir, List.flatten_append]
        show _ ++ (rss[i] ++ []) = _
        rw [List.append_nil]
      have p1 := pre i
      have p2 := pre (i + 1)
      rw [ew, List.length_append] at p2
      have ul := Paired.length rf
      have ul2 := Paired.length rf2
      refine ⟨l, l2, _, _, rfl, rfl, hl3, hl2', by omega, ?_⟩
      refine ⟨us ++ us2, _, rfl, upd_same, ?_, fun b o e => by rw [upd_ne (ne_of_none e hl)]; exact s3 b o (s2 b o e)⟩
      rw [ew]
      refine pairedApp (Paired.mapP rf fun v r ⟨b, e, n, nb, q⟩ => ⟨b, e, n, nb, by rw [upd_ne nb]; exact s3 b _ q⟩) (Paired.mapP rf2 fun v r ⟨b, e, n, q⟩ => ?_)
      have nb : b ≠ l := fun z => by rw [z, hl2] at n; cases n
      exact ⟨b, e, sameNone s2 n, nb, by rw [upd_ne nb]; exact q⟩
    · rintro σ H2 ⟨us, v2, rfl, hl2, rf, s2⟩
      rw [List.take_of_length_le (by omega)] at rf
      exact ⟨_, rfl, q l us H2 hl hl2 (Paired.mapP rf fun v r ⟨b, e, n, _, q⟩ => ⟨b, e, n, q⟩) s2⟩
theorem ok_blk (D : Defs K mg t) (GL : Glb P w K mg t) : ∀ n, FnOk P w K mg base CX0 (26 + 2 * n) t.show_block.1 t.show_block.2 ["block"] (spBlk (SB (n + 1)))
  | 0 => ok_blk_step D (ok_stm D GL (sb_ok 0) (j := 0) (k := 24) (by omega) (by omega) (fn_no fun vs H Q E ⟨v, t, r, c, _, _, h, _⟩ => h))
  | n + 1 => by
    have h := ok_blk_step D (ok_stm D GL (sb_ok (n + 1)) (j := 26 + 2 * n) (k := 26 + 2 * n) (by omega) (by omega) (ok_blk D GL n))
    exact h
def spBody : Sp := fun vs H Q _ => ∃ (f : Addr) (v : V) (ws : List Str) (t : T) (rows : List (List Str)) (c : Nat), vs = [.ref f, v] ∧ H f = some (.lst (ws.map V.str)) ∧ Dp H t v ∧ SB 3 t rows c ∧ c ≤ 16 ∧ ∀ (l : Addr) (us : List V) H', H l = none → H' l = some (.lst (.ref f :: us)) → RowsF H H' us (rows ++ [[("end" : Str)]]) → Same H H' → Q (.ref l) H'
theorem ok_body (D : Defs K mg t) (GL : Glb P w K mg t) : FnOk P w K mg base CX0 31 t.show_body.1 t.show_body.2 ["first", "block"] spBody := by
  have G_show_block : FnOk P w K mg base CX0 30 t.show_block.1 t.show_block.2 _ (spBlk (SB 3)) := ok_blk D GL 2
  have hz : sizeLine = 16777216 := sizeLine_eq
  refine D.show_body.fn.ok sc_show_body (fun vs H Q E h => ?_) (fun cdv A outer s H vs Q E hr h => ?_)
  · obtain ⟨f, v, ws, t, rows, c, rfl, _⟩ := h
    rfl
  · obtain ⟨f, v, ws, t0, rows, c, rfl, hf, dv, sb, hc, q⟩ := h
    refine ⟨_, (pss_one (ps_ret (pe_op op_cat (pe_op op_cat (pe_lst (pa_cons (pv 0) pa_nil)) (pe_callF D.show_block G_show_block (hr.mono (by omega)) (by rfl) (pa_cons (pv 1) pa_nil))) (pe_lst (pa_cons (pe_lst (pa_cons pe_str pa_nil)) pa_nil))))), ?_⟩
    refine ⟨_, rfl, by show 1 ≤ sizeLine; decide, fun l1 hl1 => ?_⟩
    have s1 : Same H (upd H l1 (.lst [.ref f])) := Same.new hl1
    have hl11 : (upd H l1 (.lst [.ref f])) l1 = some (.lst [.ref f]) := upd_same
    generalize upd H l1 (.lst [.ref f]) = H1 at s1 hl11
    refine ⟨_, rfl, v, t0, rows, c, rfl, dv.mono (Same.tups s1), sb, hc, fun l2 us H2 hn2 hl2 rf s2 => ?_⟩
    have rl := (sb_ok 3 _ _ _ sb).1
    have ul := Paired.length rf
    refine ⟨l1, l2, _, _, rfl, rfl, s2 l1 _ hl11, hl2, by show 1 + us.length ≤ sizeLine; omega, fun l3 hl3 => ?_⟩
    have s3 : Same H2 (upd H2 l3 (.lst ([.ref f] ++ us))) := Same.new hl3
    have hl33 : (upd H2 l3 (.lst ([.ref f] ++ us))) l3 = some (.lst ([.ref f] ++ us)) := upd_same
    generalize upd H2 l3 (.lst ([.ref f] ++ us)) = H3 at s3 hl33
    refine ⟨by show 1 ≤ sizeLine; decide, fun e1 he1 => ⟨by show 1 ≤ sizeLine; decide, fun e2 he2 => ?_⟩⟩
    have s4 : Same H3 (upd (upd H3 e1 (.lst [.str "end"])) e2 (.lst [.ref e1])) := (Same.new he1).trans (Same.new he2)
    have he11 : (upd (upd H3 e1 (.lst [.str "end"])) e2 (.lst [.ref e1])) e1 = some (.lst [.str "end"]) := by rw [upd_ne (ne_of_none upd_same he2), upd_same]
    have he22 : (upd (upd H3 e1 (.lst [.str "end"])) e2 (.lst [.ref e1])) e2 = some (.lst [.ref e1]) := upd_same
    generalize upd (upd H3 e1 (.lst [.str "end"])) e2 (.lst [.ref e1]) = H4 at s4 he11 he22
    refine ⟨l3, e2, _, _, rfl, rfl, s4 l3 _ hl33, he22, by show ([V.ref f] ++ us).length + 1 ≤ sizeLine; rw [List.length_append, List.length_singleton]; omega, fun l5 hl5 => ?_⟩
    have s5 := s4.trans (Same.new (o := .lst ([.ref f] ++ us ++ [.ref e1])) hl5)
    have s03 := (s1.trans s2).trans s3
    refine q l5 (us ++ [.ref e1]) _ (sameNone (s03.trans s4) hl5) (by rw [upd_same]; rfl) (pairedApp (Paired.mapP rf fun v r ⟨b, e, n, q⟩ => ⟨b, e, sameNone s1 n, (s3.trans s5) b _ q⟩) (.cons ⟨e1, rfl, sameNone s03 he1, (Same.new hl5) e1 _ he11⟩ .nil)) (s03.trans s5)
def spKind : Sp := fun vs H Q _ => ∃ (v : V) (r : KR), vs = [v] ∧ Dp H (krT r) v ∧ KOk r ∧ ∀ (l : Addr) H', H l = none → H' l = some (.lst ((kindW r).map V.str)) → Same H H' → Q (.ref l) H'
theorem ok_kind (D : Defs K mg t) : FnOk P w K mg base CX0 1 t.show_kind.1 t.show_kind.2 ["row"] spKind := by
  have hz : sizeLine = 16777216 := sizeLine_eq
  refine D.show_kind.fn.ok sc_show_kind (fun vs H Q E h => ?_) (fun cdv A outer s H vs Q E hr h => ?_)
  · obtain ⟨v, r, rfl, _⟩ := h
    rfl
  · obtain ⟨v, r, rfl, dv, ⟨_, h2, h3, _, _⟩, q⟩ := h
    obtain ⟨q0, e, f, rfl, hq0, he, hf⟩ := K25.Dp.of_kr dv
    refine ⟨_, (pss_cons (ps_asg (pv 0) (pg_tup rfl (pgs_cons (pg_name (i := 1) sc_show_kind.nd rfl (Or.inl rfl)) (pgs_cons (pg_name (i := 2) sc_show_kind.nd rfl (Or.inl rfl)) (pgs_cons (pg_name (i := 3) sc_show_kind.nd rfl (Or.inl rfl)) pgs_nil)))))
      (pss_one (ps_ret (pe_op op_cat (pe_op op_cat (pe_lst (pa_cons pe_str (pa_cons (pv 1) (pa_cons (pe_callTy call_str_int (by rfl) D.b_str bt_str (pa_cons (pe_callB call_len_seq (by rfl) D.b_len bt_len (pa_cons (pv 2) pa_nil)) pa_nil)) pa_nil)))) (pe_callTy call_list_of (by rfl) D.b_list bt_list (pa_cons (pv 2) pa_nil))) (pe_callTy call_list_of (by rfl) D.b_list bt_list (pa_cons (pv 3) pa_nil)))))), ?_⟩
    refine ⟨_, rfl, q0, _, rfl, SqT.of hq0, rfl, _, _, rfl, _, _, rfl, _, _, rfl, rfl, ?_⟩
    refine ⟨_, rfl, _, rfl, e, _, rfl, .inr (SqT.of he), _, rfl, log_small (by omega) (by rw [List.length_map]; omega), by show 3 ≤ sizeLine; decide, fun l1 hl1 => ?_⟩
    have ew : ((toString (((r.elders.map V.str).length : Nat) : Int) : String) : Str) = nS r.elders.length := by rw [List.length_map]; rfl
    rw [ew]
    have s1 : Same H (upd H l1 (.lst [.str "kind", .str r.kind, .str (nS r.elders.length)])) := Same.new hl1
    have hl11 : (upd H l1 (.lst [.str "kind", .str r.kind, .str (nS r.elders.length)])) l1 = some (.lst [.str "kind", .str r.kind, .str (nS r.elders.length)]) := upd_same
    generalize upd H l1 (.lst [.str "kind", .str r.kind, .str (nS r.elders.length)]) = H1 at s1 hl11
    refine ⟨_, rfl, e, _, rfl, .inr (SqT.of (s1 e _ he)), fun l2 hl2 => ?_⟩
    have s2 : Same H1 (upd H1 l2 (.lst (r.elders.map V.str))) := Same.new hl2
    have hl22 : (upd H1 l2 (.lst (r.elders.map V.str))) l2 = some (.lst (r.elders.map V.str)) := upd_same
    generalize upd H1 l2 (.lst (r.elders.map V.str)) = H2 at s2 hl22
    refine ⟨l1, l2, _, _, rfl, rfl, s2 l1 _ hl11, hl22, by rw [List.length_map]; show 3 + _ ≤ sizeLine; omega, fun l3 hl3 => ?_⟩
    have s3 : Same H2 (upd H2 l3 (.lst ([.str "kind", .str r.kind, .str (nS r.elders.length)] ++ r.elders.map V.str))) := Same.new hl3
    have hl33 : (upd H2 l3 (.lst ([.str "kind", .str r.kind, .str (nS r.elders.length)] ++ r.elders.map V.str))) l3 = some (.lst ([.str "kind", .str r.kind, .str (nS r.elders.length)] ++ r.elders.map V.str)) := upd_same
    generalize upd H2 l3 (.lst ([.str "kind", .str r.kind, .str (nS r.elders.length)] ++ r.elders.map V.str)) = H3 at s3 hl33
    have s03 := (s1.trans s2).trans s3
    refine ⟨_, rfl, f, _, rfl, .inr (SqT.of (s03 f _ hf)), fun l4 hl4 => ?_⟩
    have s4 : Same H3 (upd H3 l4 (.lst (r.fields.map V.str))) := Same.new hl4
    have hl44 : (upd H3 l4 (.lst (r.fields.map V.str))) l4 = some (.lst (r.fields.map V.str)) := upd_same
    generalize upd H3 l4 (.lst (r.fields.map V.str)) = H4 at s4 hl44
    refine ⟨l3, l4, _, _, rfl, rfl, s4 l3 _ hl33, hl44, by rw [List.length_append, List.length_map, List.length_map]; show 3 + _ + _ ≤ sizeLine; omega, fun l5 hl5 => ?_⟩
    refine q l5 _ (sameNone (s03.trans s4) hl5) ?_ ((s03.trans s4).trans (Same.new hl5))
    rw [upd_same]
    unfold kindW
    rw [List.map_cons, List.map_cons, List.map_cons, List.map_append]
    rfl
end
end K25
end
section
set_option autoImplicit false
namespace L2
open PySem PySem.Spec PyProof.Rows
theorem pe_bm_K {X : Cx} {K : PySem.W.Frag} {o e : Expr} {es : List Expr} {to : TE} {t : TA} {name : Str} {apos cpos : Pos} {T id : String} {r : V → List V → Hp → VK → Prop} (hK : X.K = K) (pa : PlainAttrs T) (slot : Slot T name id) (hty : typeOf (.builtin id) = pure (.type "method_descriptor")) (hm : MtR X id r) (ho : PE X o to) (ha : PA X (e :: es) t)
    (hbase : attributeBase o name X.env (eval o X.env) = eval o X.env := by rfl)
    (hfew : ((backTo cpos (starEach (e :: es) X.env)).all (fun x => !x.1) && (backToKw cpos (keywordEach [] X.env)).all (fun x => x.1.isSome) && decide ((e :: es).length + ([] : List Keyword).length + (if ([] : List Keyword).isEmpty then 0 else 1) < 30)) = true := by rfl)
    (hline : (apos.endLine == cpos.line) = true := by rfl) (hs : starEach (e :: es) X.env = (false, eval e X.env) :: starEach es X.env := by rfl) (hplain : (backTo cpos (starEach es X.env)).any (·.1) = false := by rfl) : PE X (.Call (.Attribute o name apos) (e :: es) [] cpos) (tBM K T r to t) := by
  subst hK
  exact pe_bm pa slot hty hm ho ha hbase hfew hline hs hplain
end L2
namespace K25
open PySem PyProof.Rows L2
def ProgAt (H : Hp) (v : V) (ks : List KR) (ds : List DR) (run : T) : Prop := ∃ q kv dv rv, v = .ref q ∧ H q = some (.tup [kv, dv, rv]) ∧ Dp H (.tup (ks.map krT)) kv ∧ Dp H (.tup (ds.map drT)) dv ∧ Dp H run rv
theorem ProgAt.mono {H H' : Hp} {v : V} {ks : List KR} {ds : List DR} {run : T} (h : ProgAt H v ks ds run) (s : Tups H H') : ProgAt H' v ks ds run := by
  obtain ⟨q, kv, dv, rv, e, hq, d1, d2, d3⟩ := h
  exact ⟨q, kv, dv, rv, e, s q _ hq, d1.mono s, d2.mono s, d3.mono s⟩
structure GoodP (ks : List KR) (ds : List DR) (run : T) (brs : List (List (List Str))) (rr : List (List Str)) : Prop where
  kl : ks.length ≤ 7
  ko : ∀ r ∈ ks, KOk r
  dl : ds.length ≤ 8
  bl : brs.length = ds.length
  dk : ∀ i (h1 : i < ds.length) (h2 : i < brs.length), DOk ds[i] brs[i]
  rc : ∃ c, c ≤ 16 ∧ SB 3 run rr c
def progR (ks : List KR) (ds : List DR) (brs : List (List (List Str))) (rr : List (List Str)) : List (List Str) := ks.map kindW ++ (List.zipWith deedR ds brs).flatten ++ runR rr
def ptext (rows : List (List Str)) : Str := Txt.join "\n" (rows.map jn)
theorem zip_ok : ∀ {ds : List DR} {brs : List (List (List Str))}, brs.length = ds.length → (∀ i (h1 : i < ds.length) (h2 : i < brs.length), DOk ds[i] brs[i]) → ((List.zipWith deedR ds brs).flatten).length ≤ ds.length * 50 ∧ ∀ r ∈ (List.zipWith deedR ds brs).flatten, RowOk r
  | [], brs, _, _ => ⟨Nat.zero_le _, fun r h => by cases h⟩
  | d :: ds, [], h, _ => by cases h
  | d :: ds, b :: brs, h, k => by
    obtain ⟨l1, k1⟩ := deed_rows (k 0 (Nat.zero_lt_succ _) (Nat.zero_lt_succ _))
    have l1 : (deedR d b).length ≤ 50 := l1
    obtain ⟨l2, k2⟩ := zip_ok (ds := ds) (brs := brs) (by simpa using h) fun i h1 h2 => k (i + 1) (by simpa using h1) (by simpa using h2)
    rw [List.zipWith_cons_cons, List.flatten_cons]
    refine ⟨by rw [List.length_append, List.length_cons, Nat.succ_mul]; omega, fun r hr => ?_⟩
    rcases List.mem_append.mp hr with h | h
    · exact k1 r h
    · exact k2 r h
theorem run_ok {run : T} {rr : List (List Str)} (h : ∃ c, c ≤ 16 ∧ SB 3 run rr c) : (runR rr).length ≤ 50 ∧ ∀ r ∈ runR rr, RowOk r := by
  obtain ⟨c, hc, hb⟩ := h
  obtain ⟨l, k⟩ := sb_ok 3 _ _ _ hb
  refine ⟨by unfold runR; rw [List.length_cons, List.length_append, List.length_singleton]; omega, fun r hr => ?_⟩
  rcases List.mem_cons.mp hr with rfl | hr
  · exact ⟨List.cons_ne_nil _ _, by show 4 ≤ 19000; decide⟩
  rcases List.mem_append.mp hr with hr | hr
  · exact k r hr
  · rw [List.mem_singleton.mp hr]
    exact end_row
theorem prog_ok {ks : List KR} {ds : List DR} {run : T} {brs : List (List (List Str))} {rr : List (List Str)} (G : GoodP ks ds run brs rr) : (progR ks ds brs rr).length ≤ 457 ∧ ∀ r ∈ progR ks ds brs rr, RowOk r := by
  obtain ⟨l1, k1⟩ := zip_ok G.bl G.dk
  obtain ⟨l2, k2⟩ := run_ok G.rc
  have := G.kl
  have h8 := Nat.mul_le_mul_right 50 G.dl
  unfold progR
  refine ⟨by rw [List.length_append, List.length_append, List.length_map]; omega, fun r hr => ?_⟩
  rcases List.mem_append.mp hr with hr | hr
  · rcases List.mem_append.mp hr with hr | hr
    · obtain ⟨x, hx, rfl⟩ := List.mem_map.mp hr
      exact kind_row (G.ko x hx)
    · exact k1 r hr
  · exact k2 r hr
theorem sum_le {B : Nat} : ∀ {xs : List Str}, (∀ x ∈ xs, x.length ≤ B) → (xs.map (·.length)).sum ≤ xs.length * B
  | [], _ => Nat.zero_le _
  | x :: xs, h => by
    rw [List.map_cons, List.sum_cons, List.length_cons, Nat.succ_mul]
    have := sum_le fun y hy => h y (List.mem_cons_of_mem _ hy)
    have := h x List.mem_cons_self
    omega
theorem text_fits {rows : List (List Str)} (hl : rows.length ≤ 457) (h : ∀ r ∈ rows, RowOk r) : ((rows.map jn).map (·.length)).sum + (rows.map jn).length * ("\n" : Str).length ≤ 16777216 := by
  have h1 := sum_le (B := 19000) (xs := rows.map jn) fun x hx => by
    obtain ⟨r, hr, rfl⟩ := List.mem_map.mp hx
    exact Nat.le_trans (jn_len r) (h r hr).2
  have e : ("\n" : Str).length = 1 := rfl
  rw [List.length_map] at h1
  rw [List.length_map, e]
  have := Nat.mul_le_mul_right 19000 hl
  omega
theorem row_fits {r : List Str} (h : RowOk r) : (r.map (·.length)).sum + r.length * (" " : Str).length ≤ 16777216 := by
  have e : (" " : Str).length = 1 := rfl
  rw [e]
  have := wt_sum r
  have := h.2
  omega
section
variable {P : Program} {w : World} {K : PySem.W.Frag} {mg : Str → Option Value} {base : Heap} {t : Adr}
def spShow : Sp := fun vs H Q _ => ∃ (v : V) (ks : List KR) (ds : List DR) (run : T) (brs : List (List (List Str))) (rr : List (List Str)), vs = [v] ∧ ProgAt H v ks ds run ∧ GoodP ks ds run brs rr ∧ ∀ H', Same H H' → Q (.str (ptext (progR ks ds brs rr))) H'
theorem ok_show (D : Defs K mg t) (GL : Glb P w K mg t) : FnOk P w K mg base CX0 32 t.show_program.1 t.show_program.2 ["program"] spShow := by
  have G_show_kind : FnOk P w K mg base CX0 1 t.show_kind.1 t.show_kind.2 _ spKind := ok_kind D
  have G_show_body : FnOk P w K mg base CX0 31 t.show_body.1 t.show_body.2 _ spBody := ok_body D GL
  have hz : sizeLine = 16777216 := sizeLine_eq
  refine D.show_program.fn.ok sc_show_program (fun vs H Q E h => ?_) (fun cdv A outer s H vs Q E hr h => ?_)
  · obtain ⟨v, ks, ds, run, brs, rr, rfl, _⟩ := h
    rfl
  · obtain ⟨v, ks, ds, run, brs, rr, rfl, ⟨p0, kv, dv, rv, rfl, hp0, dk, dd, dr⟩, G, k⟩ := h
    have k7 := G.kl
    have d8 := G.dl
    have b8 := G.bl
    obtain ⟨a, xs, rfl, ha, dl⟩ := L2.Dp.of_tup dk
    obtain ⟨da, dxs, rfl, hda, ddl⟩ := L2.Dp.of_tup dd
    have hxl : xs.length = ks.length := by have := dl.length; rwa [List.length_map] at this
    have hdl : dxs.length = ds.length := by have := ddl.length; rwa [List.length_map] at this
    obtain ⟨zl, zk⟩ := zip_ok G.bl G.dk
    refine ⟨_, (pss_cons (ps_asg (pv 0) (pg_tup rfl (pgs_cons (pg_name (i := 1) sc_show_program.nd rfl (Or.inl rfl)) (pgs_cons (pg_name (i := 2) sc_show_program.nd rfl (Or.inl rfl)) (pgs_cons (pg_name (i := 3) sc_show_program.nd rfl (Or.inl rfl)) pgs_nil)))))
      (pss_cons (ps_setc (i := 4) rfl sc_show_program.nd rfl (Or.inl rfl) (CompScope.of ["row"] [] ["row"] (defScope (top 4)) ["program", "kinds", "deeds", "run", "rows", "kind", "deed", "params", "block"] rfl rfl (by decide +kernel)) ⟨fun _ _ _ _ _ => (pg_name (i := 0) (show List.Nodup [("row" : Str)] by decide +kernel) rfl (Or.inl (lookup_relabel_local rfl)) (.inr (lookup_relabel_local rfl))), fun _ _ _ _ _ => pts_nil, fun _ _ _ _ _ => (pe_callF D.show_kind G_show_kind (hr.mono (by omega)) (by rfl) (pa_cons (pv 0) pa_nil))⟩ (pi_tup (pv 1)))
      (pss_cons (ps_for PassesOwn.never rfl (pi_tup (pv 2)) (pg_tup rfl (pgs_cons (pg_name (i := 5) sc_show_program.nd rfl (Or.inl rfl)) (pgs_cons (pg_name (i := 6) sc_show_program.nd rfl (Or.inl rfl)) (pgs_cons (pg_name (i := 7) sc_show_program.nd rfl (Or.inl rfl)) (pgs_cons (pg_name (i := 8) sc_show_program.nd rfl (Or.inl rfl)) pgs_nil)))))
      (pss_one (ps_expr (pe_bm PySem.F.plainAttrs_list PySem.F.slot_list_extend PySem.F.type_list_extend mt_extend (pv 4) (pa_cons (pe_callF D.show_body G_show_body (hr.mono (by omega)) (by rfl) (pa_cons (pe_op op_cat (pe_lst (pa_cons pe_str (pa_cons (pv 5) (pa_cons (pv 6) pa_nil)))) (pe_callTy call_list_of (by rfl) D.b_list bt_list (pa_cons (pv 7) pa_nil))) (pa_cons (pv 8) pa_nil))) pa_nil)))))
      (pss_cons (ps_expr (pe_bm PySem.F.plainAttrs_list PySem.F.slot_list_extend PySem.F.type_list_extend mt_extend (pv 4) (pa_cons (pe_callF D.show_body G_show_body (hr.mono (by omega)) (by rfl) (pa_cons (pe_lst (pa_cons pe_str pa_nil)) (pa_cons (pv 3) pa_nil))) pa_nil)))
      (pss_one (ps_ret (pe_bm PySem.F.plainAttrs_str PySem.F.slot_str_join PySem.F.type_str_join mt_join pe_str (pa_cons (pe_comp rfl (CompScope.of ["row"] [] ["row"] (defScope (top 4)) ["program", "kinds", "deeds", "run", "rows", "kind", "deed", "params", "block"] rfl rfl (by decide +kernel)) ⟨fun _ _ _ _ _ => (pg_name (i := 0) (show List.Nodup [("row" : Str)] by decide +kernel) rfl (Or.inl (lookup_relabel_local rfl)) (.inr (lookup_relabel_local rfl))), fun _ _ _ _ _ => pts_nil, fun _ _ _ _ _ => (pe_bm_K (K := K) rfl PySem.F.plainAttrs_str PySem.F.slot_str_join PySem.F.type_str_join (mt_join_K (K := K) rfl) pe_str (pa_cons (pv 0) pa_nil))⟩ (pi_list (pv 4))) pa_nil)))))))), ?_⟩
    refine ⟨_, rfl, p0, _, rfl, SqT.of hp0, rfl, _, _, rfl, _, _, rfl, _, _, rfl, rfl, ?_⟩
    refine ⟨_, rfl, a, rfl, ⟨_, SqT.of ha⟩, fun l hl => ?_⟩
    refine comp_by (n := xs.length) (fun i ys H2 => RowsX H2 l ys ((ks.take i).map kindW) ∧ H2 l = some (.lst ys) ∧ Same H H2) ⟨.nil, upd_same, Same.new hl⟩ ?_ ?_
    rotate_left
    · rintro i ys H2 hi ⟨rx, hl2, s2⟩
      have hik : i < ks.length := by omega
      obtain ⟨x, ex, dx⟩ := dl.get (i := i) (t := krT ks[i]) (by rw [List.getElem?_map, List.getElem?_eq_getElem hik]; rfl)
      refine ⟨⟨_, _, SqT.of (s2 a _ ha), ex⟩, ?_⟩
      rintro v H3 ⟨rfl, yy⟩ σo ho
      obtain ⟨oo, rfl⟩ := own1 ho
      have ev := yy _ (SqT.of (s2 a _ ha))
      rw [ex] at ev
      cases ev
      refine ⟨⟨[_], rfl, rfl⟩, yes_by ⟨_, rfl, x, ks[i], rfl, dx.mono (Same.tups s2), G.ko _ (List.getElem_mem hik), fun l2 H4 hn2 hl2' s4 => ?_⟩⟩
      have hl4 := s4 l _ hl2
      have yl := Paired.length rx
      rw [List.length_map, List.length_take] at yl
      have n2 : l2 ≠ l := fun z => by rw [z, hl2] at hn2; cases hn2
      refine ⟨by omega, hl4, less_by hi ⟨?_, upd_same, fun b o e => by rw [upd_ne (ne_of_none e hl)]; exact s4 b o (s2 b o e)⟩⟩
      rw [take_snoc hik, List.map_append]
      exact pairedApp (rx.grow s4) (.cons ⟨l2, rfl, n2, by rw [upd_ne n2]; exact hl2'⟩ .nil)
    rintro ys H2 ⟨rx, hl2, s2⟩
    rw [List.take_of_length_le (by omega)] at rx
    refine ⟨⟨_, SqT.of (s2 a _ ha), Nat.le_refl _⟩, ?_⟩
    refine ⟨_, rfl, da, rfl, ⟨_, SqT.of (s2 da _ hda)⟩, for_tup (K := K) (a := da) (xs := dxs) (fun i σ H3 => ∃ (ys : List V) (v5 v6 v7 v8 : Option V), σ = [some (.ref p0), some (.ref a), some (.ref da), some rv, some (.ref l), v5, v6, v7, v8] ∧ RowsX H3 l ys (ks.map kindW ++ ((List.zipWith deedR ds brs).take i).flatten) ∧ H3 l = some (.lst ys) ∧ Same H H3)
      ⟨ys, _, _, _, _, rfl, by rw [List.take_zero, List.flatten_nil, List.append_nil]; exact rx, hl2, s2⟩ (fun i σ H3 _ ⟨_, _, _, _, _, _, _, _, s⟩ => SqT.of (s da _ hda)) ?_ ?_⟩
    · rintro i x σ H3 hi ⟨ys, v5, v6, v7, v8, rfl, rx, hl3, s3⟩
      have hix : i < dxs.length := (List.getElem?_eq_some_iff.mp hi).1
      have hid : i < ds.length := by omega
      have hib : i < brs.length := by omega
      obtain ⟨x', ex, dx⟩ := ddl.get (i := i) (t := drT ds[i]) (by rw [List.getElem?_map, List.getElem?_eq_getElem hid]; rfl)
      rw [ex] at hi
      cases hi
      obtain ⟨q, pp, bv, rfl, hq, hpp, dbv⟩ := K25.Dp.of_dr (dx.mono (Same.tups s3))
      obtain ⟨_, _, p7, _, c, hc, sb⟩ := G.dk i hid hib
      have hzw : i < (List.zipWith deedR ds brs).length := by rw [List.length_zipWith]; omega
      have ezw : (List.zipWith deedR ds brs)[i] = deedR ds[i] brs[i] := List.getElem_zipWith
      refine ⟨q, _, rfl, SqT.of hq, rfl, _, _, rfl, _, _, rfl, _, _, rfl, _, _, rfl, rfl, ?_⟩
      refine ⟨_, rfl, .inl ⟨rfl, _, SqL.of hl3⟩, _, rfl, _, rfl, by show 3 ≤ sizeLine; decide, fun l1 hl1 => ?_⟩
      have s4 : Same H3 (upd H3 l1 (.lst [.str "deed", .str ds[i].kind, .str ds[i].name])) := Same.new hl1
      have hl11 : (upd H3 l1 (.lst [.str "deed", .str ds[i].kind, .str ds[i].name])) l1 = some (.lst [.str "deed", .str ds[i].kind, .str ds[i].name]) := upd_same
      generalize upd H3 l1 (.lst [.str "deed", .str ds[i].kind, .str ds[i].name]) = H4 at s4 hl11
      refine ⟨_, rfl, pp, _, rfl, .inr (SqT.of (s4 pp _ hpp)), fun l2 hl2' => ?_⟩
      have s5 : Same H4 (upd H4 l2 (.lst (ds[i].params.map V.str))) := Same.new hl2'
      have hl22 : (upd H4 l2 (.lst (ds[i].params.map V.str))) l2 = some (.lst (ds[i].params.map V.str)) := upd_same
      generalize upd H4 l2 (.lst (ds[i].params.map V.str)) = H5 at s5 hl22
      refine ⟨l1, l2, _, _, rfl, rfl, s5 l1 _ hl11, hl22, by rw [List.length_map]; show 3 + _ ≤ sizeLine; omega, fun f hf => ?_⟩
      have s6 : Same H5 (upd H5 f (.lst ([.str "deed", .str ds[i].kind, .str ds[i].name] ++ ds[i].params.map V.str))) := Same.new hf
      have hff : (upd H5 f (.lst ([.str "deed", .str ds[i].kind, .str ds[i].name] ++ ds[i].params.map V.str))) f = some (.lst ((deedW ds[i]).map V.str)) := upd_same
      have hlf := (s4.trans s5) l _ hl3
      have fl : f ≠ l := fun z => by rw [z, hlf] at hf; cases hf
      generalize upd H5 f (.lst ([.str "deed", .str ds[i].kind, .str ds[i].name] ++ ds[i].params.map V.str)) = H6 at s6 hff
      have s36 := (s4.trans s5).trans s6
      have hl6 := s36 l _ hl3
      refine ⟨_, rfl, f, bv, deedW ds[i], ds[i].block, brs[i], c, rfl, hff, dbv.mono (Same.tups s36), sb, hc, fun l7 us H7 hn7 hl7 rf s7 => ?_⟩
      have hl8 := s7 l _ hl6
      have yl := Paired.length rx
      have ul := Paired.length rf
      have ptl : ((List.zipWith deedR ds brs).take i).flatten.length ≤ (List.zipWith deedR ds brs).flatten.length := by
        conv => rhs; rw [← List.take_append_drop i (List.zipWith deedR ds brs)]
        rw [List.flatten_append, List.length_append]
        omega
      have rl := (sb_ok 3 _ _ _ sb).1
      have h8 := Nat.mul_le_mul_right 50 d8
      rw [List.length_append, List.length_map] at yl
      rw [List.length_append, List.length_singleton] at ul
      refine ⟨l, l7, _, _, rfl, rfl, hl8, hl7, by rw [List.length_cons]; omega, ?_⟩
      refine ⟨ys ++ (.ref f :: us), _, _, _, _, rfl, ?_, upd_same, fun b o e => by rw [upd_ne (ne_of_none e hl)]; exact s7 b o (s36 b o (s3 b o e))⟩
      rw [take_snoc hzw, ezw, List.flatten_append, ← List.append_assoc]
      refine pairedApp (rx.grow (s36.trans s7)) ?_
      have e9 : ([deedR ds[i] brs[i]] : List (List (List Str))).flatten = deedW ds[i] :: (brs[i] ++ [[("end" : Str)]]) := by
        show deedR ds[i] brs[i] ++ [] = _
        rw [List.append_nil]
        rfl
      rw [e9]
      refine .cons ⟨f, rfl, fl, by rw [upd_ne fl]; exact s7 f _ hff⟩ (Paired.mapP rf fun v r ⟨b, e, n, q⟩ => ?_)
      have nb : b ≠ l := fun z => by rw [z, hl6] at n; cases n
      exact ⟨b, e, nb, by rw [upd_ne nb]; exact q⟩
    · rintro σ H3 ⟨ys, v5, v6, v7, v8, rfl, rx, hl3, s3⟩
      rw [List.take_of_length_le (by rw [List.length_zipWith]; omega)] at rx
      obtain ⟨c, hc, sb⟩ := G.rc
      refine ⟨_, rfl, .inl ⟨rfl, _, SqL.of hl3⟩, by show 1 ≤ sizeLine; decide, fun f hf => ?_⟩
      have s6 : Same H3 (upd H3 f (.lst [.str "run"])) := Same.new hf
      have hff : (upd H3 f (.lst [.str "run"])) f = some (.lst (([("run" : Str)]).map V.str)) := upd_same
      have fl : f ≠ l := fun z => by rw [z, hl3] at hf; cases hf
      generalize upd H3 f (.lst [.str "run"]) = H6 at s6 hff
      have hl6 := s6 l _ hl3
      refine ⟨_, rfl, f, rv, ["run"], run, rr, c, rfl, hff, dr.mono (Same.tups (s3.trans s6)), sb, hc, fun l7 us H7 hn7 hl7 rf s7 => ?_⟩
      have hl8 := s7 l _ hl6
      have yl := Paired.length rx
      have ul := Paired.length rf
      have rl := (sb_ok 3 _ _ _ sb).1
      have h8 := Nat.mul_le_mul_right 50 d8
      rw [List.length_append, List.length_map] at yl
      rw [List.length_append, List.length_singleton] at ul
      refine ⟨l, l7, _, _, rfl, rfl, hl8, hl7, by rw [List.length_cons]; omega, ?_⟩
      have rx9 : RowsX (upd H7 l (.lst (ys ++ (.ref f :: us)))) l (ys ++ (.ref f :: us)) (progR ks ds brs rr) := by
        refine pairedApp (rx.grow (s6.trans s7)) (.cons ⟨f, rfl, fl, by rw [upd_ne fl]; exact s7 f _ hff⟩ (Paired.mapP rf fun v r ⟨b, e, n, q⟩ => ?_))
        have nb : b ≠ l := fun z => by rw [z, hl6] at n; cases n
        exact ⟨b, e, nb, by rw [upd_ne nb]; exact q⟩
      have hl9 : (upd H7 l (.lst (ys ++ (.ref f :: us)))) l = some (.lst (ys ++ (.ref f :: us))) := upd_same
      have s9 : Same H (upd H7 l (.lst (ys ++ (.ref f :: us)))) := fun b o e => by rw [upd_ne (ne_of_none e hl)]; exact s7 b o (s6 b o (s3 b o e))
      generalize ys ++ (.ref f :: us) = zs at rx9 hl9 s9
      generalize upd H7 l (.lst zs) = H9 at rx9 hl9 s9
      obtain ⟨pl, pk⟩ := prog_ok G
      have zl9 := Paired.length rx9
      refine ⟨rfl, _, rfl, l, rfl, ⟨_, SqL.of hl9⟩, fun D2 hD2 => ?_⟩
      have s10 : ∀ o, Same H9 (upd H9 D2 o) := fun o => Same.new hD2
      refine comp_by (n := zs.length) (fun i ts H10 => ts = (((progR ks ds brs rr).take i).map jn).map V.str ∧ H10 = upd H9 D2 (.lst ts)) ⟨rfl, rfl⟩ ?_ ?_
      · rintro ts H10 ⟨rfl, rfl⟩
        rw [List.take_of_length_le (by omega)]
        refine ⟨⟨_, SqL.of (s10 _ l _ hl9), Nat.le_refl _⟩, "\n", D2, _, rfl, rfl, .inl (SqL.of upd_same), text_fits pl pk, k _ (s9.trans (s10 _))⟩
      · rintro i ts H10 hi ⟨rfl, rfl⟩
        obtain ⟨b, hrb, eb, _, hb⟩ := (rx9.mono (s10 (.lst ((((progR ks ds brs rr).take i).map jn).map V.str)))).get hi
        refine ⟨⟨_, _, SqL.of (s10 _ l _ hl9), eb⟩, ?_⟩
        rintro v H11 ⟨rfl, yy⟩ σo ho
        obtain ⟨oo, rfl⟩ := own1 ho
        have ev := yy _ (SqL.of (s10 _ l _ hl9))
        rw [eb] at ev
        cases ev
        refine ⟨⟨[_], rfl, rfl⟩, yes_by ⟨rfl, _, rfl, " ", b, _, rfl, rfl, .inl (SqL.of hb), row_fits (pk _ (List.getElem_mem hrb)), by rw [List.length_map, List.length_map, List.length_take]; omega, upd_same, less_by hi ⟨?_, by rw [upd_upd]⟩⟩⟩
        rw [take_snoc hrb, List.map_append, List.map_append]
        rfl
end
end K25
end
section
set_option autoImplicit false
namespace K25
open PySem PyProof.Rows L2
theorem be4 {n : Nat} (hn : n ≤ 4) : BE n ≤ 9350 := by
  rcases (by omega : n = 0 ∨ n = 1 ∨ n = 2 ∨ n = 3 ∨ n = 4) with rfl | rfl | rfl | rfl | rfl <;> decide
theorem exLen {n : Nat} (hn : n ≤ 4) {t : T} (h : ExOk n t) : (jn (wdT t)).length ≤ 9350 := Nat.le_trans (jn_len _) (Nat.le_trans (ExOk.wt h).2 (be4 hn))
theorem sp_len : (" " : Str).length = 1 := rfl
theorem few_fit {xs : List Str} (hl : xs.length ≤ 100) (h : ∀ x ∈ xs, x.length ≤ 9350) : (xs.map (·.length)).sum + xs.length * (" " : Str).length ≤ 16777216 := by
  have := sum_le h
  have := Nat.mul_le_mul_right 9350 hl
  rw [sp_len]
  omega
theorem map_jn (as : List T) : as.map (fun a => jn (wdT a)) = (as.map wdT).map jn := by rw [List.map_map]; rfl
section
variable {P : Program} {w : World} {K : PySem.W.Frag} {mg : Str → Option Value} {base : Heap} {t : Adr}
def spText (n : Nat) : Sp := fun vs H Q _ => ∃ (v : V) (t : T), vs = [v] ∧ Dp H t v ∧ ExOk n t ∧ ∀ H', Same H H' → Q (.str (jn (wdT t))) H'
theorem ok_text_step (D : Defs K mg t) {n k : Nat} (hn : n + 1 ≤ 4) (G__law_e_text : FnOk P w K mg base CX0 k t._law_e_text.1 t._law_e_text.2 ["_law_part"] (spText n)) : FnOk P w K mg base CX0 (k + 1) t._law_e_text.1 t._law_e_text.2 ["_law_part"] (spText (n + 1)) := by
  have hz : sizeLine = 16777216 := sizeLine_eq
  refine D._law_e_text.fn.ok sc__law_e_text (fun vs H Q E h => ?_) (fun cdv A outer s H vs Q E hr h => ?_)
  · obtain ⟨v, t, rfl, _⟩ := h
    rfl
  · obtain ⟨v, t0, rfl, dv, ex, q⟩ := h
    refine ⟨_, (@pss_cons _ _ _ _ _ (@ps_if _ _ _ _ _ _ _ _ (pt_cmpR op_isN (pv 0) pe_non (nomark _))
      (@pss_one _ _ _ (@ps_ret _ _ _ _ pe_str))
      pss_nil)
      (@pss_cons _ _ _ _ _ (@ps_if _ _ _ _ _ _ _ _ (pt_not (pt_val (@pe_callB _ _ _ _ _ _ _ _ _ call_isinst (by rfl) D.b_isinstance bt_isinstance (@pa_cons _ _ _ _ _ (pv 0) (@pa_cons _ _ _ _ _ (pe_bltn (v := V.ty "tuple") rfl D.b_tuple bt_tuple rfl) pa_nil (by rfl)) (by rfl)) (by decide) (by decide) (by rfl) (by rfl))))
      (@pss_one _ _ _ (@ps_ret _ _ _ _ (pe_callTy call_str_int (by rfl) D.b_str bt_str (@pa_cons _ _ _ _ _ (pv 0) pa_nil (by rfl)))))
      pss_nil)
      (@pss_cons _ _ _ _ _ (@ps_if _ _ _ _ _ _ _ _ (PW.pt (pw_or (pt_cmpR op_eq (@pe_ix _ _ _ _ _ _ _ ix_tup (pv 0) pe_int (fun _ _ => rfl)) pe_str (nomark _)) (pw_or1 (pt_cmpR op_eq (@pe_ix _ _ _ _ _ _ _ ix_tup (pv 0) pe_int (fun _ _ => rfl)) pe_str (nomark _)))))
      (@pss_one _ _ _ (@ps_ret _ _ _ _ (@pe_op _ _ _ _ _ _ _ _ op_add_str (@pe_op _ _ _ _ _ _ _ _ op_add_str (@pe_ix _ _ _ _ _ _ _ ix_tup (pv 0) pe_int (fun _ _ => rfl)) pe_str) (@pe_ix _ _ _ _ _ _ _ ix_tup (pv 0) pe_int (fun _ _ => rfl)))))
      pss_nil)
      (@pss_cons _ _ _ _ _ (@ps_if _ _ _ _ _ _ _ _ (pt_cmpR op_eq (@pe_ix _ _ _ _ _ _ _ ix_tup (pv 0) pe_int (fun _ _ => rfl)) pe_str (nomark _))
      (@pss_one _ _ _ (@ps_ret _ _ _ _ (@pe_op _ _ _ _ _ _ _ _ op_add_str (@pe_op _ _ _ _ _ _ _ _ op_add_str (@pe_op _ _ _ _ _ _ _ _ op_add_str pe_str (@pe_callF _ _ _ _ _ _ _ _ _ _ _ _ _ D._law_e_text G__law_e_text (hr.mono (by omega)) (by rfl) (@pa_cons _ _ _ _ _ (@pe_ix _ _ _ _ _ _ _ ix_tup (pv 0) pe_int (fun _ _ => rfl)) pa_nil (by rfl)) (by decide) (by rfl) (by rfl))) pe_str) (@pe_ix _ _ _ _ _ _ _ ix_tup (pv 0) pe_int (fun _ _ => rfl)))))
      pss_nil)
      (@pss_cons _ _ _ _ _ (@ps_if _ _ _ _ _ _ _ _ (pt_cmpR op_eq (@pe_ix _ _ _ _ _ _ _ ix_tup (pv 0) pe_int (fun _ _ => rfl)) pe_str (nomark _))
      (@pss_cons _ _ _ _ _ (ps_setc (i := 1) rfl sc__law_e_text.nd rfl (Or.inl rfl) (CompScope.of ["_law_one"] [] ["_law_one"] (defScope (top 25)) ["_law_part", "_law_args"] rfl rfl (by decide +kernel)) ⟨fun _ _ _ _ _ => (pg_name (i := 0) (show List.Nodup [("_law_one" : Str)] by decide +kernel) rfl (Or.inl (lookup_relabel_local rfl)) (.inr (lookup_relabel_local rfl))), fun _ _ _ _ _ => pts_nil, fun _ _ _ _ _ => (@pe_callF _ _ _ _ _ _ _ _ _ _ _ _ _ D._law_e_text G__law_e_text (hr.mono (by omega)) (by rfl) (@pa_cons _ _ _ _ _ (pv 0) pa_nil (by rfl)) (by decide) (by rfl) (by rfl))⟩ (pi_tup (@pe_ix _ _ _ _ _ _ _ ix_tup (pv 0) pe_int (fun _ _ => rfl))))
      (@pss_one _ _ _ (@ps_ret _ _ _ _ (pe_bm PySem.F.plainAttrs_str PySem.F.slot_str_join PySem.F.type_str_join mt_join pe_str (@pa_cons _ _ _ _ _ (@pe_op _ _ _ _ _ _ _ _ op_cat (@pe_lst _ _ _ _ (@pa_cons _ _ _ _ _ pe_str (@pa_cons _ _ _ _ _ (@pe_callF _ _ _ _ _ _ _ _ _ _ _ _ _ D._law_e_text G__law_e_text (hr.mono (by omega)) (by rfl) (@pa_cons _ _ _ _ _ (@pe_ix _ _ _ _ _ _ _ ix_tup (pv 0) pe_int (fun _ _ => rfl)) pa_nil (by rfl)) (by decide) (by rfl) (by rfl)) (@pa_cons _ _ _ _ _ (@pe_ix _ _ _ _ _ _ _ ix_tup (pv 0) pe_int (fun _ _ => rfl)) (@pa_cons _ _ _ _ _ (pe_callTy call_str_int (by rfl) D.b_str bt_str (@pa_cons _ _ _ _ _ (@pe_callB _ _ _ _ _ _ _ _ _ call_len_seq (by rfl) D.b_len bt_len (@pa_cons _ _ _ _ _ (pv 1) pa_nil (by rfl)) (by decide) (by decide) (by rfl) (by rfl)) pa_nil (by rfl))) pa_nil (by rfl)) (by rfl)) (by rfl)) (by rfl))) (pv 1)) pa_nil (by rfl))))))
      pss_nil)
      (@pss_cons _ _ _ _ _ (@ps_if _ _ _ _ _ _ _ _ (pt_cmpR op_eq (@pe_ix _ _ _ _ _ _ _ ix_tup (pv 0) pe_int (fun _ _ => rfl)) pe_str (nomark _))
      (@pss_one _ _ _ (@ps_ret _ _ _ _ (pe_bm PySem.F.plainAttrs_str PySem.F.slot_str_join PySem.F.type_str_join mt_join pe_str (@pa_cons _ _ _ _ _ (@pe_op _ _ _ _ _ _ _ _ op_cat (@pe_lst _ _ _ _ (@pa_cons _ _ _ _ _ pe_str (@pa_cons _ _ _ _ _ (@pe_ix _ _ _ _ _ _ _ ix_tup (pv 0) pe_int (fun _ _ => rfl)) (@pa_cons _ _ _ _ _ (pe_callTy call_str_int (by rfl) D.b_str bt_str (@pa_cons _ _ _ _ _ (@pe_callB _ _ _ _ _ _ _ _ _ call_len_seq (by rfl) D.b_len bt_len (@pa_cons _ _ _ _ _ (@pe_ix _ _ _ _ _ _ _ ix_tup (pv 0) pe_int (fun _ _ => rfl)) pa_nil (by rfl)) (by decide) (by decide) (by rfl) (by rfl)) pa_nil (by rfl))) pa_nil (by rfl)) (by rfl)) (by rfl))) (pe_comp rfl (CompScope.of ["_law_one"] [] ["_law_one"] (defScope (top 25)) ["_law_part", "_law_args"] rfl rfl (by decide +kernel)) ⟨fun _ _ _ _ _ => (pg_name (i := 0) (show List.Nodup [("_law_one" : Str)] by decide +kernel) rfl (Or.inl (lookup_relabel_local rfl)) (.inr (lookup_relabel_local rfl))), fun _ _ _ _ _ => pts_nil, fun _ _ _ _ _ => (@pe_callF _ _ _ _ _ _ _ _ _ _ _ _ _ D._law_e_text G__law_e_text (hr.mono (by omega)) (by rfl) (@pa_cons _ _ _ _ _ (pv 0) pa_nil (by rfl)) (by decide) (by rfl) (by rfl))⟩ (pi_tup (@pe_ix _ _ _ _ _ _ _ ix_tup (pv 0) pe_int (fun _ _ => rfl))))) pa_nil (by rfl)))))
      pss_nil)
      (@pss_one _ _ _ (@ps_ret _ _ _ _ (pe_bm PySem.F.plainAttrs_str PySem.F.slot_str_join PySem.F.type_str_join mt_join pe_str (@pa_cons _ _ _ _ _ (@pe_op _ _ _ _ _ _ _ _ op_cat (@pe_lst _ _ _ _ (@pa_cons _ _ _ _ _ (@pe_ix _ _ _ _ _ _ _ ix_tup (pv 0) pe_int (fun _ _ => rfl)) pa_nil (by rfl))) (pe_comp rfl (CompScope.of ["_law_one"] [] ["_law_one"] (defScope (top 25)) ["_law_part", "_law_args"] rfl rfl (by decide +kernel)) ⟨fun _ _ _ _ _ => (pg_name (i := 0) (show List.Nodup [("_law_one" : Str)] by decide +kernel) rfl (Or.inl (lookup_relabel_local rfl)) (.inr (lookup_relabel_local rfl))), fun _ _ _ _ _ => pts_nil, fun _ _ _ _ _ => (@pe_callF _ _ _ _ _ _ _ _ _ _ _ _ _ D._law_e_text G__law_e_text (hr.mono (by omega)) (by rfl) (@pa_cons _ _ _ _ _ (pv 0) pa_nil (by rfl)) (by decide) (by rfl) (by rfl))⟩ (pi_tup (pe_slice sl_tupW (pv 0) (po_some pe_int) po_none)))) pa_nil (by rfl))))))))))), ?_⟩
    rcases ex with rfl | ⟨i, hi, rfl⟩ | rfl | ⟨wd, x, hw, hx, rfl⟩ | ⟨e, x, he, hx, rfl⟩ | ⟨e, x, as, he, hx, hA, hl, rfl⟩ | ⟨x, as, hx, hA, hl, rfl⟩ | ⟨wd, e1, e2, hw, h1, h2, rfl⟩
    · rw [Dp] at dv
      subst dv
      refine ⟨_, rfl, rfl, _, rfl, itePos (decide_eq_true rfl) ?_⟩
      have := q H (Same.refl H)
      rw [wdT, jn_one] at this
      exact this
    · rw [Dp] at dv
      subst dv
      obtain ⟨h0, h1⟩ := nums_in i hi
      refine ⟨_, rfl, rfl, _, rfl, iteNeg (by rw [decide_eq_false (fun z => nomatch z)]; exact Bool.false_ne_true) ?_⟩
      refine ⟨_, rfl, _, _, _, false, rfl, .int i, kit_it K, _, rfl, iteT ?_⟩
      refine ⟨_, rfl, _, rfl, log_small h0 h1, ?_⟩
      have := q H (Same.refl H)
      rw [wdT, jn_one] at this
      exact this
    all_goals
      obtain ⟨a, xs, rfl, ha, dl⟩ := L2.Dp.of_tup dv
      obtain ⟨x1, ys, rfl, d1, dl'⟩ := dl.cases
      have e1 := L2.Dp.of_str d1
      subst e1
      refine ⟨_, rfl, rfl, _, rfl, iteNeg (by rw [decide_eq_false (fun z => nomatch z)]; exact Bool.false_ne_true) ?_⟩
      refine ⟨_, rfl, _, _, _, true, rfl, .tup ha, kit_same K "tuple", _, rfl, iteF ?_⟩
    · skip
      refine ⟨_, rfl, a, _, _, _, rfl, rfl, SqT.of ha, atI_nat (j := 0) rfl, rfl, _, rfl, iteNeg (ne_str (by decide +kernel)) ?_⟩
      refine ⟨_, rfl, a, _, _, _, rfl, rfl, SqT.of ha, atI_nat (j := 0) rfl, rfl, _, rfl, iteNeg (ne_str (by decide +kernel)) ?_⟩
      refine ⟨_, rfl, a, _, _, _, rfl, rfl, SqT.of ha, atI_nat (j := 0) rfl, rfl, _, rfl, iteNeg (ne_str (by decide +kernel)) ?_⟩
      refine ⟨_, rfl, a, _, _, _, rfl, rfl, SqT.of ha, atI_nat (j := 0) rfl, rfl, _, rfl, iteNeg (ne_str (by decide +kernel)) ?_⟩
      refine ⟨_, rfl, a, _, _, _, rfl, rfl, SqT.of ha, atI_nat (j := 0) rfl, rfl, _, rfl, iteNeg (ne_str (by decide +kernel)) ?_⟩
      refine ⟨rfl, _, rfl, a, _, _, _, rfl, rfl, SqT.of ha, atI_nat (j := 0) rfl, by show 1 ≤ sizeLine; decide, fun l1 hl1 => ?_⟩
      have s1 : Same H (upd H l1 (.lst [.str "me"])) := Same.new hl1
      have hl11 : (upd H l1 (.lst [.str "me"])) l1 = some (.lst [.str "me"]) := upd_same
      generalize upd H l1 (.lst [.str "me"]) = H1 at s1 hl11
      refine ⟨_, rfl, _, rfl, a, _, rfl, s1 a _ ha, fun b H2 hb s2 => ?_⟩
      rw [cut1_from] at hb
      have hb : H2 b = some (.tup ys) := hb
      have s02 := s1.trans s2
      have dl2 := dl'.mono (Same.tups s02)
      refine ⟨b, rfl, ⟨_, SqT.of hb⟩, fun D1 hD1 => ?_⟩
      have asl : ([] : List T).length ≤ 3 := by show 0 ≤ 3; decide
      refine comp_by (n := ys.length) (fun i zs H5 => zs = ((([] : List T).take i).map (fun a => jn (wdT a))).map V.str ∧ H5 D1 = some (.lst zs) ∧ Same H2 H5) ⟨rfl, upd_same, Same.new hD1⟩ ?_ ?_
      rotate_left
      · rintro i zs H5 hi ⟨rfl, hD5, s5⟩
        have hia : i < ([] : List T).length := by have := dl2.length; omega
        obtain ⟨x5, ex5, dx5⟩ := dl2.get (List.getElem?_eq_getElem hia)
        refine ⟨⟨_, _, SqT.of (s5 b _ hb), ex5⟩, ?_⟩
        rintro v5 H6 ⟨rfl, yy⟩ σo ho
        obtain ⟨oo, rfl⟩ := own1 ho
        have ev := yy _ (SqT.of (s5 b _ hb))
        rw [ex5] at ev
        cases ev
        refine ⟨⟨[_], rfl, rfl⟩, yes_by ⟨_, rfl, x5, ([] : List T)[i], rfl, dx5.mono (Same.tups s5), (fun x (h : x ∈ ([] : List T)) => (nomatch h : ExOk n x)) _ (List.getElem_mem hia), fun H7 s7 => ?_⟩⟩
        refine ⟨by rw [List.length_map, List.length_map, List.length_take]; omega, s7 D1 _ hD5, less_by hi ⟨?_, upd_same, fun b o e => by rw [upd_ne (ne_of_none e hD1)]; exact s7 b o (s5 b o e)⟩⟩
        rw [take_snoc hia, List.map_append, List.map_append]
        rfl
      rintro zs H5 ⟨rfl, hD5, s5⟩
      rw [List.take_of_length_le (by have := dl2.length; omega)] at hD5
      refine ⟨⟨_, SqT.of (s5 b _ hb), Nat.le_refl _⟩, ?_⟩
      have s05 := s02.trans s5
      refine ⟨l1, D1, _, _, rfl, rfl, (s2.trans s5) l1 _ hl11, hD5, by rw [List.length_map, List.length_map]; show 1 + 0 ≤ sizeLine; omega, fun l3 hl3 => ?_⟩
      have el : ([V.str "me"] ++ (([] : List T).map (fun a => jn (wdT a))).map V.str : List V) = (([[("me" : Str)]] ++ ([] : List T).map wdT).map jn).map V.str := by
        rw [map_jn, List.map_append, List.map_append]
        show _ = [V.str (jn ["me"])] ++ _
        rw [jn_one]
      refine ⟨" ", l3, ([[("me" : Str)]] ++ ([] : List T).map wdT).map jn, rfl, rfl, .inl (SqL.of (by rw [upd_same, el])), few_fit (by rw [List.length_map, List.length_append, List.length_map]; show 1 + 0 ≤ 100; omega) ?_, ?_⟩
      · intro x hx
        obtain ⟨r, hr', rfl⟩ := List.mem_map.mp hx
        rcases List.mem_append.mp hr' with hr' | hr'
        · rw [List.mem_singleton.mp hr', jn_one]
          exact by decide +kernel
        · obtain ⟨b, hb, rfl⟩ := List.mem_map.mp hr'
          exact exLen (by omega) ((fun x (h : x ∈ ([] : List T)) => (nomatch h : ExOk n x)) b hb)
      · have := q _ (s05.trans (Same.new (o := .lst ([V.str "me"] ++ (([] : List T).map (fun a => jn (wdT a))).map V.str)) hl3))
        show Q (.str (jn (([[("me" : Str)]] ++ ([] : List T).map wdT).map jn))) _
        rw [jn_map (by
          intro l hl
          rcases List.mem_append.mp hl with hl | hl
          · rw [List.mem_singleton.mp hl]
            exact List.cons_ne_nil _ _
          · obtain ⟨b, hb, rfl⟩ := List.mem_map.mp hl
            exact (ExOk.wt ((fun x (h : x ∈ ([] : List T)) => (nomatch h : ExOk n x)) b hb)).1)]
        rw [wdT_tup] at this
        exact this
    · skip
      obtain ⟨x2, r2, rfl, d2, dl3⟩ := dl'.cases
      have e2 := L2.Dp.of_str d2
      have e3 := dl3.of_nil
      subst e2 e3
      have fin : Q (.str (wd ++ " " ++ x)) H := by
        have := q H (Same.refl H)
        rw [wdT_tup] at this
        have e : ([T.str x].map wdT).flatten = [x] := by
          show wdT (.str x) ++ [] = _
          rw [wdT_str]
          rfl
        rw [e, jn_cons, jn_one] at this
        exact this
      have wl : wd.length ≤ 4 := by rcases hw with rfl | rfl <;> decide +kernel
      rcases hw with rfl | rfl
      · refine ⟨_, rfl, a, _, _, _, rfl, rfl, SqT.of ha, atI_nat (j := 0) rfl, rfl, _, rfl, itePos (decide_eq_true rfl) (iteT ?_)⟩
        refine ⟨_, rfl, a, _, _, _, rfl, rfl, SqT.of ha, atI_nat (j := 0) rfl, _, _, rfl, rfl, by rw [sp_len]; omega, _, rfl, a, _, _, _, rfl, rfl, SqT.of ha, atI_nat (j := 1) rfl, _, _, rfl, rfl, by rw [str_len_app, sp_len]; omega, fin⟩
      · refine ⟨_, rfl, a, _, _, _, rfl, rfl, SqT.of ha, atI_nat (j := 0) rfl, rfl, _, rfl, iteNeg (ne_str (by decide +kernel)) ?_⟩
        refine ⟨_, rfl, a, _, _, _, rfl, rfl, SqT.of ha, atI_nat (j := 0) rfl, rfl, _, rfl, itePos (decide_eq_true rfl) ?_⟩
        refine ⟨_, rfl, a, _, _, _, rfl, rfl, SqT.of ha, atI_nat (j := 0) rfl, _, _, rfl, rfl, by rw [sp_len]; omega, _, rfl, a, _, _, _, rfl, rfl, SqT.of ha, atI_nat (j := 1) rfl, _, _, rfl, rfl, by rw [str_len_app, sp_len]; omega, fin⟩
    · skip
      refine ⟨_, rfl, a, _, _, _, rfl, rfl, SqT.of ha, atI_nat (j := 0) rfl, rfl, _, rfl, iteNeg (ne_str (by decide +kernel)) ?_⟩
      refine ⟨_, rfl, a, _, _, _, rfl, rfl, SqT.of ha, atI_nat (j := 0) rfl, rfl, _, rfl, iteNeg (ne_str (by decide +kernel)) ?_⟩
      refine ⟨_, rfl, a, _, _, _, rfl, rfl, SqT.of ha, atI_nat (j := 0) rfl, rfl, _, rfl, itePos (decide_eq_true rfl) ?_⟩
      obtain ⟨x2, r2, rfl, d2, dl3⟩ := dl'.cases
      obtain ⟨x3, r3, rfl, d3, dl4⟩ := dl3.cases
      have e3 := L2.Dp.of_str d3
      have e4 := dl4.of_nil
      subst e3 e4
      have el := exLen (by omega) he
      refine ⟨_, rfl, a, _, _, _, rfl, rfl, SqT.of ha, atI_nat (j := 1) rfl, x2, e, rfl, d2, he, fun H1 s1 => ?_⟩
      have e5 : ("get " : Str).length = 4 := rfl
      refine ⟨_, _, rfl, rfl, by rw [e5]; omega, _, _, rfl, rfl, by rw [str_len_app, e5, sp_len]; omega, _, rfl, a, _, _, _, rfl, rfl, SqT.of (s1 a _ ha), atI_nat (j := 2) rfl, _, _, rfl, rfl, by rw [str_len_app, str_len_app, e5, sp_len]; omega, ?_⟩
      have := q H1 s1
      rw [wdT_tup] at this
      have e6 : ([e, T.str x].map wdT).flatten = wdT e ++ [x] := by
        show wdT e ++ (wdT (.str x) ++ []) = _
        rw [wdT_str]
        rfl
      have e7 : ("get " : Str) = "get" ++ " " := by decide +kernel
      rw [e6, jn_cons' _ (by simp), jn_app (ExOk.wt he).1 (List.cons_ne_nil _ _), jn_one] at this
      rw [e7]
      simp only [Str.append_assoc] at this ⊢
      exact this
    · skip
      refine ⟨_, rfl, a, _, _, _, rfl, rfl, SqT.of ha, atI_nat (j := 0) rfl, rfl, _, rfl, iteNeg (ne_str (by decide +kernel)) ?_⟩
      refine ⟨_, rfl, a, _, _, _, rfl, rfl, SqT.of ha, atI_nat (j := 0) rfl, rfl, _, rfl, iteNeg (ne_str (by decide +kernel)) ?_⟩
      refine ⟨_, rfl, a, _, _, _, rfl, rfl, SqT.of ha, atI_nat (j := 0) rfl, rfl, _, rfl, iteNeg (ne_str (by decide +kernel)) ?_⟩
      refine ⟨_, rfl, a, _, _, _, rfl, rfl, SqT.of ha, atI_nat (j := 0) rfl, rfl, _, rfl, itePos (decide_eq_true rfl) ?_⟩
      obtain ⟨x2, r2, rfl, d2, dl3⟩ := dl'.cases
      obtain ⟨x3, r3, rfl, d3, dl4⟩ := dl3.cases
      obtain ⟨x4, r4, rfl, d4, dl5⟩ := dl4.cases
      have e3 := L2.Dp.of_str d3
      have e4 := dl5.of_nil
      subst e3 e4
      obtain ⟨b, zs, rfl, hb, dla⟩ := L2.Dp.of_tup d4
      have el := exLen (by omega) he
      refine ⟨_, rfl, a, _, _, _, rfl, rfl, SqT.of ha, atI_nat (j := 3) rfl, b, rfl, ⟨_, SqT.of hb⟩, fun D1 hD1 => ?_⟩
      refine comp_by (n := zs.length) (fun i zs H5 => zs = ((as.take i).map (fun a => jn (wdT a))).map V.str ∧ H5 D1 = some (.lst zs) ∧ Same H H5) ⟨rfl, upd_same, Same.new hD1⟩ ?_ ?_
      rotate_left
      · rintro i zs H5 hi ⟨rfl, hD5, s5⟩
        have hia : i < as.length := by have := dla.length; omega
        obtain ⟨x5, ex5, dx5⟩ := dla.get (List.getElem?_eq_getElem hia)
        refine ⟨⟨_, _, SqT.of (s5 b _ hb), ex5⟩, ?_⟩
        rintro v5 H6 ⟨rfl, yy⟩ σo ho
        obtain ⟨oo, rfl⟩ := own1 ho
        have ev := yy _ (SqT.of (s5 b _ hb))
        rw [ex5] at ev
        cases ev
        refine ⟨⟨[_], rfl, rfl⟩, yes_by ⟨_, rfl, x5, as[i], rfl, dx5.mono (Same.tups s5), hA _ (List.getElem_mem hia), fun H7 s7 => ?_⟩⟩
        refine ⟨by rw [List.length_map, List.length_map, List.length_take]; omega, s7 D1 _ hD5, less_by hi ⟨?_, upd_same, fun b o e => by rw [upd_ne (ne_of_none e hD1)]; exact s7 b o (s5 b o e)⟩⟩
        rw [take_snoc hia, List.map_append, List.map_append]
        rfl
      rintro zs H5 ⟨rfl, hD5, s5⟩
      rw [List.take_of_length_le (by have := dla.length; omega)] at hD5
      refine ⟨⟨_, SqT.of (s5 b _ hb), Nat.le_refl _⟩, ?_⟩
      refine ⟨rfl, _, rfl, a, _, _, _, rfl, rfl, SqT.of (s5 a _ ha), atI_nat (j := 1) rfl, x2, e, rfl, d2.mono (Same.tups s5), he, fun H6 s6 => ?_⟩
      have s06 := s5.trans s6
      have hD6 := s6 D1 _ hD5
      refine ⟨_, rfl, a, _, _, _, rfl, rfl, SqT.of (s06 a _ ha), atI_nat (j := 2) rfl, _, rfl, D1, _, rfl, .inl (SqL.of hD6), _, rfl, log_small (by omega) (by rw [List.length_map, List.length_map]; omega), by show 4 ≤ sizeLine; decide, fun l1 hl1 => ?_⟩
      have ew : ((toString (((((as.map (fun a => jn (wdT a))).map V.str).length : Nat)) : Int) : String) : Str) = nS as.length := by rw [List.length_map, List.length_map]; rfl
      rw [ew]
      have s7 : Same H6 (upd H6 l1 (.lst [.str "ask", .str (jn (wdT e)), .str x, .str (nS as.length)])) := Same.new hl1
      have hl11 : (upd H6 l1 (.lst [.str "ask", .str (jn (wdT e)), .str x, .str (nS as.length)])) l1 = some (.lst [.str "ask", .str (jn (wdT e)), .str x, .str (nS as.length)]) := upd_same
      generalize upd H6 l1 (.lst [.str "ask", .str (jn (wdT e)), .str x, .str (nS as.length)]) = H7 at s7 hl11
      refine ⟨_, rfl, l1, D1, _, _, rfl, rfl, hl11, s7 D1 _ hD6, by rw [List.length_map, List.length_map]; show 4 + as.length ≤ sizeLine; omega, fun l3 hl3 => ?_⟩
      have el2 : ([V.str "ask", V.str (jn (wdT e)), V.str x, V.str (nS as.length)] ++ (as.map (fun a => jn (wdT a))).map V.str : List V) = (([[("ask" : Str)], wdT e, [x], [nS as.length]] ++ as.map wdT).map jn).map V.str := by
        rw [map_jn, List.map_append, List.map_append]
        show _ = [V.str (jn [("ask" : Str)]), V.str (jn (wdT e)), V.str (jn [x]), V.str (jn [nS as.length])] ++ _
        rw [jn_one, jn_one, jn_one]
      have each : ∀ r ∈ ([[("ask" : Str)], wdT e, [x], [nS as.length]] ++ as.map wdT : List (List Str)), r ≠ [] ∧ (jn r).length ≤ 9350 := fun r hr' => by
        rcases List.mem_append.mp hr' with hr' | hr'
        · rcases List.mem_cons.mp hr' with rfl | hr'
          · exact ⟨List.cons_ne_nil _ _, by rw [jn_one]; decide +kernel⟩
          rcases List.mem_cons.mp hr' with rfl | hr'
          · exact ⟨(ExOk.wt he).1, el⟩
          rcases List.mem_cons.mp hr' with rfl | hr'
          · exact ⟨List.cons_ne_nil _ _, by rw [jn_one]; omega⟩
          · rw [List.mem_singleton.mp hr']
            have := nS_small as.length (by omega)
            exact ⟨List.cons_ne_nil _ _, by rw [jn_one]; omega⟩
        · obtain ⟨b, hb, rfl⟩ := List.mem_map.mp hr'
          exact ⟨(ExOk.wt (hA b hb)).1, exLen (by omega) (hA b hb)⟩
      refine ⟨" ", l3, ([[("ask" : Str)], wdT e, [x], [nS as.length]] ++ as.map wdT).map jn, rfl, rfl, .inl (SqL.of (by rw [upd_same, el2])), few_fit (by rw [List.length_map, List.length_append, List.length_map]; show 4 + as.length ≤ 100; omega) ?_, ?_⟩
      · intro y hy
        obtain ⟨r, hr', rfl⟩ := List.mem_map.mp hy
        exact (each r hr').2
      · have := q _ ((s06.trans s7).trans (Same.new (o := .lst ([V.str "ask", V.str (jn (wdT e)), V.str x, V.str (nS as.length)] ++ (as.map (fun a => jn (wdT a))).map V.str)) hl3))
        show Q (.str (jn (([[("ask" : Str)], wdT e, [x], [nS as.length]] ++ as.map wdT).map jn))) _
        rw [jn_map fun r hr' => (each r hr').1]
        have e8 : (([[("ask" : Str)], wdT e, [x], [nS as.length]] ++ as.map wdT : List (List Str))).flatten = wdT (.tup [.str "ask", e, .str x, .tup as]) := by
          rw [wdT_tup, List.flatten_append]
          show ([("ask" : Str)] ++ (wdT e ++ ([x] ++ ([nS as.length] ++ [])))) ++ _ = ("ask" : Str) :: (wdT e ++ (wdT (.str x) ++ (wdT (.tup as) ++ [])))
          rw [wdT_str, args_wd hA]
          simp
        rw [e8]
        exact this
    · skip
      refine ⟨_, rfl, a, _, _, _, rfl, rfl, SqT.of ha, atI_nat (j := 0) rfl, rfl, _, rfl, iteNeg (ne_str (by decide +kernel)) ?_⟩
      refine ⟨_, rfl, a, _, _, _, rfl, rfl, SqT.of ha, atI_nat (j := 0) rfl, rfl, _, rfl, iteNeg (ne_str (by decide +kernel)) ?_⟩
      refine ⟨_, rfl, a, _, _, _, rfl, rfl, SqT.of ha, atI_nat (j := 0) rfl, rfl, _, rfl, iteNeg (ne_str (by decide +kernel)) ?_⟩
      refine ⟨_, rfl, a, _, _, _, rfl, rfl, SqT.of ha, atI_nat (j := 0) rfl, rfl, _, rfl, iteNeg (ne_str (by decide +kernel)) ?_⟩
      refine ⟨_, rfl, a, _, _, _, rfl, rfl, SqT.of ha, atI_nat (j := 0) rfl, rfl, _, rfl, itePos (decide_eq_true rfl) ?_⟩
      obtain ⟨x3, r3, rfl, d3, dl4⟩ := dl'.cases
      obtain ⟨x4, r4, rfl, d4, dl5⟩ := dl4.cases
      have e3 := L2.Dp.of_str d3
      have e4 := dl5.of_nil
      subst e3 e4
      obtain ⟨b, zs, rfl, hb, dla⟩ := L2.Dp.of_tup d4
      have zl : zs.length = as.length := dla.length
      refine ⟨rfl, _, rfl, a, _, _, _, rfl, rfl, SqT.of ha, atI_nat (j := 1) rfl, _, rfl, a, _, _, _, rfl, rfl, SqT.of ha, atI_nat (j := 2) rfl, b, _, rfl, .inr (SqT.of hb), _, rfl, log_small (by omega) (by omega), by show 3 ≤ sizeLine; decide, fun l1 hl1 => ?_⟩
      have ew : ((toString (((zs.length : Nat)) : Int) : String) : Str) = nS as.length := by rw [zl]; rfl
      rw [ew]
      have s1 : Same H (upd H l1 (.lst [.str "up", .str x, .str (nS as.length)])) := Same.new hl1
      have hl11 : (upd H l1 (.lst [.str "up", .str x, .str (nS as.length)])) l1 = some (.lst [.str "up", .str x, .str (nS as.length)]) := upd_same
      generalize upd H l1 (.lst [.str "up", .str x, .str (nS as.length)]) = H1 at s1 hl11
      have ha1 := s1 a _ ha
      have hb0 := s1 b _ hb
      have dla1 := dla.mono (Same.tups s1)
      clear hb
      have hb := hb0
      refine ⟨_, rfl, a, _, _, _, rfl, rfl, SqT.of ha1, atI_nat (j := 2) rfl, b, rfl, ⟨_, SqT.of hb⟩, fun D1 hD1 => ?_⟩
      refine comp_by (n := zs.length) (fun i zs H5 => zs = ((as.take i).map (fun a => jn (wdT a))).map V.str ∧ H5 D1 = some (.lst zs) ∧ Same H1 H5) ⟨rfl, upd_same, Same.new hD1⟩ ?_ ?_
      rotate_left
      · rintro i zs H5 hi ⟨rfl, hD5, s5⟩
        have hia : i < as.length := by have := dla1.length; omega
        obtain ⟨x5, ex5, dx5⟩ := dla1.get (List.getElem?_eq_getElem hia)
        refine ⟨⟨_, _, SqT.of (s5 b _ hb), ex5⟩, ?_⟩
        rintro v5 H6 ⟨rfl, yy⟩ σo ho
        obtain ⟨oo, rfl⟩ := own1 ho
        have ev := yy _ (SqT.of (s5 b _ hb))
        rw [ex5] at ev
        cases ev
        refine ⟨⟨[_], rfl, rfl⟩, yes_by ⟨_, rfl, x5, as[i], rfl, dx5.mono (Same.tups s5), hA _ (List.getElem_mem hia), fun H7 s7 => ?_⟩⟩
        refine ⟨by rw [List.length_map, List.length_map, List.length_take]; omega, s7 D1 _ hD5, less_by hi ⟨?_, upd_same, fun b o e => by rw [upd_ne (ne_of_none e hD1)]; exact s7 b o (s5 b o e)⟩⟩
        rw [take_snoc hia, List.map_append, List.map_append]
        rfl
      rintro zs H5 ⟨rfl, hD5, s5⟩
      rw [List.take_of_length_le (by have := dla1.length; omega)] at hD5
      refine ⟨⟨_, SqT.of (s5 b _ hb), Nat.le_refl _⟩, ?_⟩
      refine ⟨l1, D1, _, _, rfl, rfl, s5 l1 _ hl11, hD5, by rw [List.length_map, List.length_map]; show 3 + as.length ≤ sizeLine; omega, fun l3 hl3 => ?_⟩
      have el2 : ([V.str "up", V.str x, V.str (nS as.length)] ++ (as.map (fun a => jn (wdT a))).map V.str : List V) = (([[("up" : Str)], [x], [nS as.length]] ++ as.map wdT).map jn).map V.str := by
        rw [map_jn, List.map_append, List.map_append]
        show _ = [V.str (jn [("up" : Str)]), V.str (jn [x]), V.str (jn [nS as.length])] ++ _
        rw [jn_one, jn_one, jn_one]
      have each : ∀ r ∈ ([[("up" : Str)], [x], [nS as.length]] ++ as.map wdT : List (List Str)), r ≠ [] ∧ (jn r).length ≤ 9350 := fun r hr' => by
        rcases List.mem_append.mp hr' with hr' | hr'
        · rcases List.mem_cons.mp hr' with rfl | hr'
          · exact ⟨List.cons_ne_nil _ _, by rw [jn_one]; decide +kernel⟩
          rcases List.mem_cons.mp hr' with rfl | hr'
          · exact ⟨List.cons_ne_nil _ _, by rw [jn_one]; omega⟩
          · rw [List.mem_singleton.mp hr']
            have := nS_small as.length (by omega)
            exact ⟨List.cons_ne_nil _ _, by rw [jn_one]; omega⟩
        · obtain ⟨b, hb, rfl⟩ := List.mem_map.mp hr'
          exact ⟨(ExOk.wt (hA b hb)).1, exLen (by omega) (hA b hb)⟩
      refine ⟨" ", l3, ([[("up" : Str)], [x], [nS as.length]] ++ as.map wdT).map jn, rfl, rfl, .inl (SqL.of (by rw [upd_same, el2])), few_fit (by rw [List.length_map, List.length_append, List.length_map]; show 3 + as.length ≤ 100; omega) ?_, ?_⟩
      · intro y hy
        obtain ⟨r, hr', rfl⟩ := List.mem_map.mp hy
        exact (each r hr').2
      · have := q _ ((s1.trans s5).trans (Same.new (o := .lst ([V.str "up", V.str x, V.str (nS as.length)] ++ (as.map (fun a => jn (wdT a))).map V.str)) hl3))
        show Q (.str (jn (([[("up" : Str)], [x], [nS as.length]] ++ as.map wdT).map jn))) _
        rw [jn_map fun r hr' => (each r hr').1]
        have e8 : (([[("up" : Str)], [x], [nS as.length]] ++ as.map wdT : List (List Str))).flatten = wdT (.tup [.str "up", .str x, .tup as]) := by
          rw [wdT_tup, List.flatten_append]
          show ([("up" : Str)] ++ ([x] ++ ([nS as.length] ++ []))) ++ _ = ("up" : Str) :: (wdT (.str x) ++ (wdT (.tup as) ++ []))
          rw [wdT_str, args_wd hA]
          simp
        rw [e8]
        exact this
    · skip
      have hex : ∀ x ∈ [e1, e2], ExOk n x := fun x hx => by
        rcases List.mem_cons.mp hx with rfl | hx
        · exact h1
        · rw [List.mem_singleton.mp hx]
          exact h2
      refine ⟨_, rfl, a, _, _, _, rfl, rfl, SqT.of ha, atI_nat (j := 0) rfl, rfl, _, rfl, iteNeg (ne_str (fun z => absurd (z ▸ hw : ("name" : Str) ∈ bins) (by decide +kernel))) ?_⟩
      refine ⟨_, rfl, a, _, _, _, rfl, rfl, SqT.of ha, atI_nat (j := 0) rfl, rfl, _, rfl, iteNeg (ne_str (fun z => absurd (z ▸ hw : ("new" : Str) ∈ bins) (by decide +kernel))) ?_⟩
      refine ⟨_, rfl, a, _, _, _, rfl, rfl, SqT.of ha, atI_nat (j := 0) rfl, rfl, _, rfl, iteNeg (ne_str (fun z => absurd (z ▸ hw : ("get" : Str) ∈ bins) (by decide +kernel))) ?_⟩
      refine ⟨_, rfl, a, _, _, _, rfl, rfl, SqT.of ha, atI_nat (j := 0) rfl, rfl, _, rfl, iteNeg (ne_str (fun z => absurd (z ▸ hw : ("ask" : Str) ∈ bins) (by decide +kernel))) ?_⟩
      refine ⟨_, rfl, a, _, _, _, rfl, rfl, SqT.of ha, atI_nat (j := 0) rfl, rfl, _, rfl, iteNeg (ne_str (fun z => absurd (z ▸ hw : ("up" : Str) ∈ bins) (by decide +kernel))) ?_⟩
      refine ⟨rfl, _, rfl, a, _, _, _, rfl, rfl, SqT.of ha, atI_nat (j := 0) rfl, by show 1 ≤ sizeLine; decide, fun l1 hl1 => ?_⟩
      have s1 : Same H (upd H l1 (.lst [.str wd])) := Same.new hl1
      have hl11 : (upd H l1 (.lst [.str wd])) l1 = some (.lst [.str wd]) := upd_same
      generalize upd H l1 (.lst [.str wd]) = H1 at s1 hl11
      refine ⟨_, rfl, _, rfl, a, _, rfl, s1 a _ ha, fun b H2 hb s2 => ?_⟩
      rw [cut1_from] at hb
      have hb : H2 b = some (.tup ys) := hb
      have s02 := s1.trans s2
      have dl2 := dl'.mono (Same.tups s02)
      refine ⟨b, rfl, ⟨_, SqT.of hb⟩, fun D1 hD1 => ?_⟩
      have asl : [e1, e2].length ≤ 3 := by show 2 ≤ 3; decide
      refine comp_by (n := ys.length) (fun i zs H5 => zs = (([e1, e2].take i).map (fun a => jn (wdT a))).map V.str ∧ H5 D1 = some (.lst zs) ∧ Same H2 H5) ⟨rfl, upd_same, Same.new hD1⟩ ?_ ?_
      rotate_left
      · rintro i zs H5 hi ⟨rfl, hD5, s5⟩
        have hia : i < [e1, e2].length := by have := dl2.length; omega
        obtain ⟨x5, ex5, dx5⟩ := dl2.get (List.getElem?_eq_getElem hia)
        refine ⟨⟨_, _, SqT.of (s5 b _ hb), ex5⟩, ?_⟩
        rintro v5 H6 ⟨rfl, yy⟩ σo ho
        obtain ⟨oo, rfl⟩ := own1 ho
        have ev := yy _ (SqT.of (s5 b _ hb))
        rw [ex5] at ev
        cases ev
        refine ⟨⟨[_], rfl, rfl⟩, yes_by ⟨_, rfl, x5, [e1, e2][i], rfl, dx5.mono (Same.tups s5), hex _ (List.getElem_mem hia), fun H7 s7 => ?_⟩⟩
        refine ⟨by rw [List.length_map, List.length_map, List.length_take]; omega, s7 D1 _ hD5, less_by hi ⟨?_, upd_same, fun b o e => by rw [upd_ne (ne_of_none e hD1)]; exact s7 b o (s5 b o e)⟩⟩
        rw [take_snoc hia, List.map_append, List.map_append]
        rfl
      rintro zs H5 ⟨rfl, hD5, s5⟩
      rw [List.take_of_length_le (by have := dl2.length; omega)] at hD5
      refine ⟨⟨_, SqT.of (s5 b _ hb), Nat.le_refl _⟩, ?_⟩
      have s05 := s02.trans s5
      refine ⟨l1, D1, _, _, rfl, rfl, (s2.trans s5) l1 _ hl11, hD5, by rw [List.length_map, List.length_map]; show 1 + 2 ≤ sizeLine; omega, fun l3 hl3 => ?_⟩
      have el : ([V.str wd] ++ ([e1, e2].map (fun a => jn (wdT a))).map V.str : List V) = (([[wd]] ++ [e1, e2].map wdT).map jn).map V.str := by
        rw [map_jn, List.map_append, List.map_append]
        show _ = [V.str (jn [wd])] ++ _
        rw [jn_one]
      refine ⟨" ", l3, ([[wd]] ++ [e1, e2].map wdT).map jn, rfl, rfl, .inl (SqL.of (by rw [upd_same, el])), few_fit (by rw [List.length_map, List.length_append, List.length_map]; show 1 + 2 ≤ 100; omega) ?_, ?_⟩
      · intro x hx
        obtain ⟨r, hr', rfl⟩ := List.mem_map.mp hx
        rcases List.mem_append.mp hr' with hr' | hr'
        · rw [List.mem_singleton.mp hr', jn_one]
          exact Nat.le_trans (bins_len wd hw) (by decide)
        · obtain ⟨b, hb, rfl⟩ := List.mem_map.mp hr'
          exact exLen (by omega) (hex b hb)
      · have := q _ (s05.trans (Same.new (o := .lst ([V.str wd] ++ ([e1, e2].map (fun a => jn (wdT a))).map V.str)) hl3))
        show Q (.str (jn (([[wd]] ++ [e1, e2].map wdT).map jn))) _
        rw [jn_map (by
          intro l hl
          rcases List.mem_append.mp hl with hl | hl
          · rw [List.mem_singleton.mp hl]
            exact List.cons_ne_nil _ _
          · obtain ⟨b, hb, rfl⟩ := List.mem_map.mp hl
            exact (ExOk.wt (hex b hb)).1)]
        rw [wdT_tup] at this
        exact this
theorem ok_text (D : Defs K mg t) : ∀ n, n ≤ 4 → FnOk P w K mg base CX0 n t._law_e_text.1 t._law_e_text.2 ["_law_part"] (spText n)
  | 0, _ => fn_no fun vs H Q E ⟨v, t, _, _, ex, _⟩ => ex
  | n + 1, hn => ok_text_step D hn (ok_text D n (by omega))
end
end K25
end
section
set_option autoImplicit false
namespace K25
open PySem PyProof.Rows L2
section
variable {P : Program} {w : World} {K : PySem.W.Frag} {mg : Str → Option Value} {base : Heap} {t : Adr}
def spRows (B : RowsP) : Sp := fun vs H Q _ => ∃ (v : V) (t : T) (rows : List (List Str)) (c : Nat), vs = [v] ∧ Dp H t v ∧ B t rows c ∧ c ≤ 16 ∧ ∀ (l : Addr) H', H l = none → H' l = some (.lst ((rows.map jn).map V.str)) → Same H H' → Q (.ref l) H'
theorem ok_srows (D : Defs K mg t) {B : RowsP} (hB : BOk B) {j k : Nat} (hj : j ≤ k) (hk4 : 4 ≤ k) (G__law_b_rows : FnOk P w K mg base CX0 j t._law_b_rows.1 t._law_b_rows.2 ["_law_block"] (spRows B)) : FnOk P w K mg base CX0 (k + 1) t._law_s_rows.1 t._law_s_rows.2 ["_law_part"] (spRows (StN B)) := by
  have G__law_e_text : FnOk P w K mg base CX0 4 t._law_e_text.1 t._law_e_text.2 _ (spText 4) := ok_text D 4 (by decide)
  have hz : sizeLine = 16777216 := sizeLine_eq
  refine D._law_s_rows.fn.ok sc__law_s_rows (fun vs H Q E h => ?_) (fun cdv A outer s H vs Q E hr h => ?_)
  · obtain ⟨v, t, rows, c, rfl, _⟩ := h
    rfl
  · obtain ⟨v, t0, rows, c, rfl, dv, hst, hc, q⟩ := h
    refine ⟨_, (pss_cons (ps_set (i := 1) sc__law_s_rows.nd rfl (Or.inl rfl) (pe_ix ix_tup (pv 0) pe_int (fun _ _ => rfl)))
      (pss_cons (ps_if (pt_cmpR op_eq (pv 1) pe_str (nomark _))
      (pss_one (ps_ret (pe_lst (pa_cons (pe_op op_add_str (pe_op op_add_str (pe_op op_add_str pe_str (pe_ix ix_tup (pv 0) pe_int (fun _ _ => rfl))) pe_str) (pe_callF D._law_e_text G__law_e_text (hr.mono (by omega)) (by rfl) (pa_cons (pe_ix ix_tup (pv 0) pe_int (fun _ _ => rfl)) pa_nil))) pa_nil))))
      pss_nil)
      (pss_cons (ps_if (pt_cmpR op_eq (pv 1) pe_str (nomark _))
      (pss_one (ps_ret (pe_lst (pa_cons (pe_op op_add_str (pe_op op_add_str (pe_op op_add_str (pe_op op_add_str (pe_op op_add_str pe_str (pe_callF D._law_e_text G__law_e_text (hr.mono (by omega)) (by rfl) (pa_cons (pe_ix ix_tup (pv 0) pe_int (fun _ _ => rfl)) pa_nil))) pe_str) (pe_ix ix_tup (pv 0) pe_int (fun _ _ => rfl))) pe_str) (pe_callF D._law_e_text G__law_e_text (hr.mono (by omega)) (by rfl) (pa_cons (pe_ix ix_tup (pv 0) pe_int (fun _ _ => rfl)) pa_nil))) pa_nil))))
      pss_nil)
      (pss_cons (ps_if (PW.pt (pw_or (pt_cmpR op_eq (pv 1) pe_str (nomark _)) (pw_or1 (pt_cmpR op_eq (pv 1) pe_str (nomark _)))))
      (pss_one (ps_ret (pe_lst (pa_cons (pe_op op_add_str (pe_op op_add_str (pe_op op_add_str (pe_op op_add_str (pv 1) pe_str) (pe_callF D._law_e_text G__law_e_text (hr.mono (by omega)) (by rfl) (pa_cons (pe_ix ix_tup (pv 0) pe_int (fun _ _ => rfl)) pa_nil))) pe_str) (pe_ix ix_tup (pv 0) pe_int (fun _ _ => rfl))) pa_nil))))
      pss_nil)
      (pss_cons (ps_if (PW.pt (pw_or (pt_cmpR op_eq (pv 1) pe_str (nomark _)) (pw_or1 (pt_cmpR op_eq (pv 1) pe_str (nomark _)))))
      (pss_one (ps_ret (pe_lst (pa_cons (pe_bm PySem.F.plainAttrs_str PySem.F.slot_str_join PySem.F.type_str_join mt_join pe_str (pa_cons (pv 0) pa_nil)) pa_nil))))
      pss_nil)
      (pss_cons (ps_if (pt_cmpR op_eq (pv 1) pe_str (nomark _))
      (pss_one (ps_ret (pe_lst (pa_cons (pe_bm PySem.F.plainAttrs_str PySem.F.slot_str_join PySem.F.type_str_join mt_join pe_str (pa_cons (pe_op op_cat (pe_lst (pa_cons (pv 1) (pa_cons (pe_ix ix_tup (pv 0) pe_int (fun _ _ => rfl)) pa_nil))) (pe_callTy call_list_of (by rfl) D.b_list bt_list (pa_cons (pe_ix ix_tup (pv 0) pe_int (fun _ _ => rfl)) pa_nil))) pa_nil)) pa_nil))))
      pss_nil)
      (pss_cons (ps_if (pt_cmpR op_eq (pv 1) pe_str (nomark _))
      (pss_one (ps_ret (pe_op op_cat (pe_op op_cat (pe_op op_cat (pe_op op_cat (pe_lst (pa_cons pe_str pa_nil)) (pe_callF D._law_b_rows G__law_b_rows (hr.mono (by omega)) (by rfl) (pa_cons (pe_ix ix_tup (pv 0) pe_int (fun _ _ => rfl)) pa_nil))) (pe_lst (pa_cons (pe_op op_add_str pe_str (pe_ix ix_tup (pv 0) pe_int (fun _ _ => rfl))) pa_nil))) (pe_callF D._law_b_rows G__law_b_rows (hr.mono (by omega)) (by rfl) (pa_cons (pe_ix ix_tup (pv 0) pe_int (fun _ _ => rfl)) pa_nil))) (pe_lst (pa_cons pe_str pa_nil)))))
      pss_nil)
      (pss_cons (ps_set (i := 2) sc__law_s_rows.nd rfl (Or.inl rfl) (pe_lst (pa_cons (pe_op op_add_str (pe_op op_add_str (pv 1) pe_str) (pe_callF D._law_e_text G__law_e_text (hr.mono (by omega)) (by rfl) (pa_cons (pe_ix ix_tup (pv 0) pe_int (fun _ _ => rfl)) pa_nil))) pa_nil)))
      (pss_cons (ps_if (pt_cmpR op_eq (pv 1) pe_str (nomark _))
      (pss_one (ps_ret (pe_op op_cat (pe_op op_cat (pe_op op_cat (pe_op op_cat (pv 2) (pe_callF D._law_b_rows G__law_b_rows (hr.mono (by omega)) (by rfl) (pa_cons (pe_ix ix_tup (pv 0) pe_int (fun _ _ => rfl)) pa_nil))) (pe_lst (pa_cons pe_str pa_nil))) (pe_callF D._law_b_rows G__law_b_rows (hr.mono (by omega)) (by rfl) (pa_cons (pe_ix ix_tup (pv 0) pe_int (fun _ _ => rfl)) pa_nil))) (pe_lst (pa_cons pe_str pa_nil)))))
      pss_nil)
      (pss_cons (ps_if (PW.pt (pw_or (pt_cmpR op_eq (pv 1) pe_str (nomark _)) (pw_or1 (pt_cmpR op_eq (pv 1) pe_str (nomark _)))))
      (pss_one (ps_ret (pe_op op_cat (pe_op op_cat (pv 2) (pe_callF D._law_b_rows G__law_b_rows (hr.mono (by omega)) (by rfl) (pa_cons (pe_ix ix_tup (pv 0) pe_int (fun _ _ => rfl)) pa_nil))) (pe_lst (pa_cons pe_str pa_nil)))))
      pss_nil)
      (pss_one (ps_ret (pv 2))))))))))))), ?_⟩
    rcases hst with ⟨wd, e, hw, he, rfl, rfl, rfl⟩ | ⟨x, e, hx, he, rfl, rfl, rfl⟩ | ⟨e, x, e2, he, hx, he2, rfl, rfl, rfl⟩ | ⟨wd, e, x, hw, he, hx, rfl, rfl, rfl⟩ | ⟨x, b, d, f, hx, hb, hd, hf, rfl, rfl, rfl⟩ | ⟨x, b, hx, hb, rfl, rfl, rfl⟩ | ⟨x, ks, hx, hl, hk, rfl, rfl, rfl⟩ | ⟨e, b1, b2, r1', r2', c1, c2, he, h1, h2, rfl, rfl, rfl⟩ | ⟨wd, e, b, r', c1, hw, he, h1, rfl, rfl, rfl⟩ | ⟨b1, b2, x, r1', r2', c1, c2, h1, hx, h2, rfl, rfl, rfl⟩
    all_goals
      obtain ⟨a, xs, rfl, ha, dl⟩ := L2.Dp.of_tup dv
      obtain ⟨x1, ys, rfl, d1, dl'⟩ := dl.cases
      have e1 := L2.Dp.of_str d1
      subst e1
      refine ⟨_, rfl, a, _, _, _, rfl, rfl, SqT.of ha, atI_nat (j := 0) rfl, ?_⟩
    · skip
      obtain ⟨x2, r2, rfl, d2, dl2⟩ := dl'.cases
      have n2e := dl2.of_nil
      subst n2e
      have wl := ones_len wd hw
      have N : ∀ x : Str, ¬ x ∈ ones → ¬ wd = x := fun x hx z => hx (z ▸ hw)
      refine ⟨_, rfl, rfl, _, rfl, iteNeg (ne_str (N _ (by decide +kernel))) ?_⟩
      refine ⟨_, rfl, rfl, _, rfl, iteNeg (ne_str (N _ (by decide +kernel))) ?_⟩
      refine ⟨_, rfl, rfl, _, rfl, iteNeg (ne_str (N _ (by decide +kernel))) ?_⟩
      refine ⟨_, rfl, rfl, _, rfl, iteNeg (ne_str (N _ (by decide +kernel))) ?_⟩
      refine ⟨_, rfl, rfl, _, rfl, iteNeg (ne_str (N _ (by decide +kernel))) ?_⟩
      refine ⟨_, rfl, rfl, _, rfl, iteNeg (ne_str (N _ (by decide +kernel))) ?_⟩
      refine ⟨_, rfl, rfl, _, rfl, iteNeg (ne_str (N _ (by decide +kernel))) ?_⟩
      refine ⟨_, rfl, rfl, _, rfl, iteNeg (ne_str (N _ (by decide +kernel))) ?_⟩
      have el := exLen (by decide) he
      refine ⟨_, rfl, _, _, rfl, rfl, by rw [sp_len]; omega, _, rfl, a, _, _, _, rfl, rfl, SqT.of ha, atI_nat (j := 1) rfl, x2, e, rfl, d2, he, fun H0 s0 => ?_⟩
      refine ⟨_, _, rfl, rfl, by rw [str_len_app, sp_len]; omega, by show 1 ≤ sizeLine; decide, fun l1 hl1 => ?_⟩
      have ef : wd ++ " " ++ jn (wdT e) = jn (wd :: wdT e) := (jn_cons' _ (ExOk.wt he).1).symm
      rw [ef]
      have s1 : Same H (upd H0 l1 (.lst [.str (jn (wd :: wdT e))])) := s0.trans (Same.new hl1)
      have hl11 : (upd H0 l1 (.lst [.str (jn (wd :: wdT e))])) l1 = some (.lst [.str (jn (wd :: wdT e))]) := upd_same
      have l1H : H l1 = none := sameNone s0 hl1
      generalize upd H0 l1 (.lst [.str (jn (wd :: wdT e))]) = H1 at s1 hl11
      refine ⟨_, rfl, rfl, _, rfl, iteNeg (ne_str (N _ (by decide +kernel))) ?_⟩
      refine ⟨_, rfl, rfl, _, rfl, iteNeg (ne_str (N _ (by decide +kernel))) ?_⟩
      refine ⟨_, rfl, rfl, _, rfl, iteNeg (ne_str (N _ (by decide +kernel))) ?_⟩
      refine ⟨_, rfl, q l1 H1 l1H ?_ s1⟩
      rw [hl11]
      rfl
    · skip
      refine ⟨_, rfl, rfl, _, rfl, itePos (decide_eq_true rfl) ?_⟩
      obtain ⟨x2, r2, rfl, d2, dl2⟩ := dl'.cases
      obtain ⟨x3, r3, rfl, d3, dl3⟩ := dl2.cases
      have s2e := L2.Dp.of_str d2
      subst s2e
      have n3e := dl3.of_nil
      subst n3e
      have el := exLen (by decide) he
      have e5 : ("let " : Str).length = 4 := rfl
      refine ⟨_, rfl, a, _, _, _, rfl, rfl, SqT.of ha, atI_nat (j := 1) rfl, _, _, rfl, rfl, by rw [e5]; omega, _, _, rfl, rfl, by rw [str_len_app, e5, sp_len]; omega, _, rfl, a, _, _, _, rfl, rfl, SqT.of ha, atI_nat (j := 2) rfl, x3, e, rfl, d3, he, fun H1 s1 => ?_⟩
      refine ⟨_, _, rfl, rfl, by rw [str_len_app, str_len_app, e5, sp_len]; omega, ?_⟩
      have e7 : ("let " : Str) = "let" ++ " " := by decide +kernel
      have eq : ("let " : Str) ++ x ++ " " ++ jn (wdT e) = jn ("let" :: x :: wdT e) := by
        rw [jn_cons, jn_cons' _ (ExOk.wt he).1, e7]
        simp only [Str.append_assoc]
      refine ⟨by show 1 ≤ sizeLine; decide, fun l hl => ?_⟩
      refine q l _ (sameNone s1 hl) ?_ (s1.trans (Same.new hl))
      rw [upd_same]
      show some (HO.lst [V.str _]) = some (HO.lst [V.str (jn _)])
      rw [eq]
    · skip
      refine ⟨_, rfl, rfl, _, rfl, iteNeg (ne_str (by decide +kernel)) ?_⟩
      refine ⟨_, rfl, rfl, _, rfl, itePos (decide_eq_true rfl) ?_⟩
      obtain ⟨x2, r2, rfl, d2, dl2⟩ := dl'.cases
      obtain ⟨x3, r3, rfl, d3, dl3⟩ := dl2.cases
      obtain ⟨x4, r4, rfl, d4, dl4⟩ := dl3.cases
      have s3e := L2.Dp.of_str d3
      subst s3e
      have n4e := dl4.of_nil
      subst n4e
      have el := exLen (by decide) he
      have el2 := exLen (by decide) he2
      have e5 : ("put " : Str).length = 4 := rfl
      refine ⟨_, rfl, a, _, _, _, rfl, rfl, SqT.of ha, atI_nat (j := 1) rfl, x2, e, rfl, d2, he, fun H1 s1 => ?_⟩
      refine ⟨_, _, rfl, rfl, by rw [e5]; omega, _, _, rfl, rfl, by rw [str_len_app, e5, sp_len]; omega, _, rfl, a, _, _, _, rfl, rfl, SqT.of (s1 a _ ha), atI_nat (j := 2) rfl, _, _, rfl, rfl, by rw [str_len_app, str_len_app, e5, sp_len]; omega, _, _, rfl, rfl, by rw [str_len_app, str_len_app, str_len_app, e5, sp_len]; omega, ?_⟩
      refine ⟨_, rfl, a, _, _, _, rfl, rfl, SqT.of (s1 a _ ha), atI_nat (j := 3) rfl, x4, e2, rfl, d4.mono (Same.tups s1), he2, fun H2 s2 => ?_⟩
      refine ⟨_, _, rfl, rfl, by rw [str_len_app, str_len_app, str_len_app, str_len_app, e5, sp_len]; omega, ?_⟩
      have e7 : ("put " : Str) = "put" ++ " " := by decide +kernel
      have s02 := s1.trans s2
      have eq : ("put " : Str) ++ jn (wdT e) ++ " " ++ x ++ " " ++ jn (wdT e2) = jn ("put" :: (wdT e ++ x :: wdT e2)) := by
        rw [jn_cons' _ (by simp), jn_app (ExOk.wt he).1 (List.cons_ne_nil _ _), jn_cons' _ (ExOk.wt he2).1, e7]
        simp only [Str.append_assoc]
      refine ⟨by show 1 ≤ sizeLine; decide, fun l hl => ?_⟩
      refine q l _ (sameNone s02 hl) ?_ (s02.trans (Same.new hl))
      rw [upd_same]
      show some (HO.lst [V.str _]) = some (HO.lst [V.str (jn _)])
      rw [eq]
    · skip
      obtain ⟨x2, r2, rfl, d2, dl2⟩ := dl'.cases
      obtain ⟨x3, r3, rfl, d3, dl3⟩ := dl2.cases
      have s3e := L2.Dp.of_str d3
      subst s3e
      have n3e := dl3.of_nil
      subst n3e
      have el := exLen (by decide) he
      have wl : wd.length ≤ 6 := by rcases hw with rfl | rfl <;> decide +kernel
      have eq : wd ++ " " ++ jn (wdT e) ++ " " ++ x = jn (wd :: (wdT e ++ [x])) := by
        rw [jn_cons' _ (by simp), jn_app (ExOk.wt he).1 (List.cons_ne_nil _ _), jn_one]
        simp only [Str.append_assoc]
      have n1 : ¬ wd = "let" := by rcases hw with rfl | rfl <;> decide +kernel
      have n2 : ¬ wd = "put" := by rcases hw with rfl | rfl <;> decide +kernel
      refine ⟨_, rfl, rfl, _, rfl, iteNeg (ne_str n1) ?_⟩
      refine ⟨_, rfl, rfl, _, rfl, iteNeg (ne_str n2) ?_⟩
      apply by_rest (fun H' => H = H')
      case use =>
        intro rest
        rcases hw with hw | hw
        · refine ⟨_, rfl, rfl, _, rfl, itePos (by rw [hw]; exact decide_eq_true rfl) (iteT ?_)⟩
          exact rest H rfl
        · refine ⟨_, rfl, rfl, _, rfl, iteNeg (ne_str (by rw [hw]; decide +kernel)) ?_⟩
          refine ⟨_, rfl, rfl, _, rfl, itePos (by rw [hw]; exact decide_eq_true rfl) ?_⟩
          exact rest H rfl
      case rest =>
      rintro _ rfl
      refine ⟨_, rfl, _, _, rfl, rfl, by rw [sp_len]; omega, _, rfl, a, _, _, _, rfl, rfl, SqT.of ha, atI_nat (j := 1) rfl, x2, e, rfl, d2, he, fun H1 s1 => ?_⟩
      refine ⟨_, _, rfl, rfl, by rw [str_len_app, sp_len]; omega, _, _, rfl, rfl, by rw [str_len_app, str_len_app, sp_len]; omega, _, rfl, a, _, _, _, rfl, rfl, SqT.of (s1 a _ ha), atI_nat (j := 2) rfl, _, _, rfl, rfl, by rw [str_len_app, str_len_app, str_len_app, sp_len]; omega, ?_⟩
      refine ⟨by show 1 ≤ sizeLine; decide, fun l hl => ?_⟩
      refine q l _ (sameNone s1 hl) ?_ (s1.trans (Same.new hl))
      rw [upd_same]
      show some (HO.lst [V.str _]) = some (HO.lst [V.str (jn _)])
      rw [eq]
    · skip
      refine ⟨_, rfl, rfl, _, rfl, iteNeg (ne_str (by decide +kernel)) ?_⟩
      refine ⟨_, rfl, rfl, _, rfl, iteNeg (ne_str (by decide +kernel)) ?_⟩
      refine ⟨_, rfl, rfl, _, rfl, iteNeg (ne_str (by decide +kernel)) ?_⟩
      refine ⟨_, rfl, rfl, _, rfl, iteNeg (ne_str (by decide +kernel)) ?_⟩
      refine ⟨_, rfl, rfl, _, rfl, itePos (decide_eq_true rfl) (iteT ?_)⟩
      obtain ⟨x2, r2, rfl, d2, dl2⟩ := dl'.cases
      obtain ⟨x3, r3, rfl, d3, dl3⟩ := dl2.cases
      obtain ⟨x4, r4, rfl, d4, dl4⟩ := dl3.cases
      obtain ⟨x5, r5, rfl, d5, dl5⟩ := dl4.cases
      have s2e := L2.Dp.of_str d2
      subst s2e
      have s3e := L2.Dp.of_str d3
      subst s3e
      have s4e := L2.Dp.of_str d4
      subst s4e
      have s5e := L2.Dp.of_str d5
      subst s5e
      have n5e := dl5.of_nil
      subst n5e
      refine ⟨rfl, _, rfl, " ", a, (["turn", x, b, d, f] : List Str), rfl, rfl, .inr (SqT.of ha), ?_, ?_⟩
      · refine few_fit (by show 5 ≤ 100; decide) fun y hy => ?_
        simp only [List.mem_cons, List.not_mem_nil, or_false] at hy
        rcases hy with rfl | rfl | rfl | rfl | rfl
        · decide +kernel
        all_goals omega
      refine ⟨by show 1 ≤ sizeLine; decide, fun l hl => ?_⟩
      refine q l _ (hl) ?_ ((Same.refl H).trans (Same.new hl))
      rw [upd_same]
      rfl
    · skip
      refine ⟨_, rfl, rfl, _, rfl, iteNeg (ne_str (by decide +kernel)) ?_⟩
      refine ⟨_, rfl, rfl, _, rfl, iteNeg (ne_str (by decide +kernel)) ?_⟩
      refine ⟨_, rfl, rfl, _, rfl, iteNeg (ne_str (by decide +kernel)) ?_⟩
      refine ⟨_, rfl, rfl, _, rfl, iteNeg (ne_str (by decide +kernel)) ?_⟩
      refine ⟨_, rfl, rfl, _, rfl, iteNeg (ne_str (by decide +kernel)) ?_⟩
      refine ⟨_, rfl, rfl, _, rfl, itePos (decide_eq_true rfl) ?_⟩
      obtain ⟨x2, r2, rfl, d2, dl2⟩ := dl'.cases
      obtain ⟨x3, r3, rfl, d3, dl3⟩ := dl2.cases
      have s2e := L2.Dp.of_str d2
      subst s2e
      have s3e := L2.Dp.of_str d3
      subst s3e
      have n3e := dl3.of_nil
      subst n3e
      refine ⟨rfl, _, rfl, " ", a, (["strip", x, b] : List Str), rfl, rfl, .inr (SqT.of ha), ?_, ?_⟩
      · refine few_fit (by show 3 ≤ 100; decide) fun y hy => ?_
        simp only [List.mem_cons, List.not_mem_nil, or_false] at hy
        rcases hy with rfl | rfl | rfl
        · decide +kernel
        all_goals omega
      refine ⟨by show 1 ≤ sizeLine; decide, fun l hl => ?_⟩
      refine q l _ (hl) ?_ ((Same.refl H).trans (Same.new hl))
      rw [upd_same]
      rfl
    · skip
      refine ⟨_, rfl, rfl, _, rfl, iteNeg (ne_str (by decide +kernel)) ?_⟩
      refine ⟨_, rfl, rfl, _, rfl, iteNeg (ne_str (by decide +kernel)) ?_⟩
      refine ⟨_, rfl, rfl, _, rfl, iteNeg (ne_str (by decide +kernel)) ?_⟩
      refine ⟨_, rfl, rfl, _, rfl, iteNeg (ne_str (by decide +kernel)) ?_⟩
      refine ⟨_, rfl, rfl, _, rfl, iteNeg (ne_str (by decide +kernel)) ?_⟩
      refine ⟨_, rfl, rfl, _, rfl, iteNeg (ne_str (by decide +kernel)) ?_⟩
      refine ⟨_, rfl, rfl, _, rfl, itePos (decide_eq_true rfl) ?_⟩
      obtain ⟨x2, r2, rfl, d2, dl2⟩ := dl'.cases
      obtain ⟨x3, r3, rfl, d3, dl3⟩ := dl2.cases
      have s2e := L2.Dp.of_str d2
      subst s2e
      have n3e := dl3.of_nil
      subst n3e
      obtain ⟨b, ys2, rfl, hb, dlb⟩ := L2.Dp.of_tup d3
      rw [DpL.of_strs dlb] at hb
      refine ⟨rfl, _, rfl, _, rfl, a, _, _, _, rfl, rfl, SqT.of ha, atI_nat (j := 1) rfl, by show 2 ≤ sizeLine; decide, fun l1 hl1 => ?_⟩
      have s1 : Same H (upd H l1 (.lst [.str "elders", .str x])) := Same.new hl1
      have hl11 : (upd H l1 (.lst [.str "elders", .str x])) l1 = some (.lst [.str "elders", .str x]) := upd_same
      generalize upd H l1 (.lst [.str "elders", .str x]) = H1 at s1 hl11
      refine ⟨_, rfl, a, _, _, _, rfl, rfl, SqT.of (s1 a _ ha), atI_nat (j := 2) rfl, b, _, rfl, .inr (SqT.of (s1 b _ hb)), fun l2 hl2 => ?_⟩
      have s2 : Same H1 (upd H1 l2 (.lst (ks.map V.str))) := Same.new hl2
      have hl22 : (upd H1 l2 (.lst (ks.map V.str))) l2 = some (.lst (ks.map V.str)) := upd_same
      generalize upd H1 l2 (.lst (ks.map V.str)) = H2 at s2 hl22
      refine ⟨l1, l2, _, _, rfl, rfl, s2 l1 _ hl11, hl22, by rw [List.length_map]; show 2 + _ ≤ sizeLine; omega, fun l3 hl3 => ?_⟩
      have s3 := (s1.trans s2).trans (Same.new (o := .lst ([.str "elders", .str x] ++ ks.map V.str)) hl3)
      refine ⟨" ", l3, (("elders" : Str) :: x :: ks), rfl, rfl, .inl (SqL.of (by rw [upd_same]; rfl)), ?_, ?_⟩
      · refine few_fit (by rw [List.length_cons, List.length_cons]; omega) fun y hy => ?_
        rcases List.mem_cons.mp hy with rfl | hy
        · decide +kernel
        rcases List.mem_cons.mp hy with rfl | hy
        · omega
        · have := hk y hy
          omega
      refine ⟨by show 1 ≤ sizeLine; decide, fun l hl => ?_⟩
      refine q l _ (sameNone s3 hl) ?_ (s3.trans (Same.new hl))
      rw [upd_same]
      rfl
    · skip
      refine ⟨_, rfl, rfl, _, rfl, iteNeg (ne_str (by decide +kernel)) ?_⟩
      refine ⟨_, rfl, rfl, _, rfl, iteNeg (ne_str (by decide +kernel)) ?_⟩
      refine ⟨_, rfl, rfl, _, rfl, iteNeg (ne_str (by decide +kernel)) ?_⟩
      refine ⟨_, rfl, rfl, _, rfl, iteNeg (ne_str (by decide +kernel)) ?_⟩
      refine ⟨_, rfl, rfl, _, rfl, iteNeg (ne_str (by decide +kernel)) ?_⟩
      refine ⟨_, rfl, rfl, _, rfl, iteNeg (ne_str (by decide +kernel)) ?_⟩
      refine ⟨_, rfl, rfl, _, rfl, iteNeg (ne_str (by decide +kernel)) ?_⟩
      refine ⟨_, rfl, rfl, _, rfl, iteNeg (ne_str (by decide +kernel)) ?_⟩
      obtain ⟨x2, r2, rfl, d2, dl2⟩ := dl'.cases
      obtain ⟨x3, r3, rfl, d3, dl3⟩ := dl2.cases
      obtain ⟨x4, r4, rfl, d4, dl4⟩ := dl3.cases
      have n4e := dl4.of_nil
      subst n4e
      have wl : ("if" : Str).length ≤ 6 := by decide +kernel
      have el := exLen (by decide) he
      refine ⟨_, rfl, _, _, rfl, rfl, by rw [sp_len]; omega, _, rfl, a, _, _, _, rfl, rfl, SqT.of ha, atI_nat (j := 1) rfl, x2, e, rfl, d2, he, fun H0 s0 => ?_⟩
      refine ⟨_, _, rfl, rfl, by rw [str_len_app, sp_len]; omega, by show 1 ≤ sizeLine; decide, fun l1 hl1 => ?_⟩
      have ef : "if" ++ " " ++ jn (wdT e) = jn ("if" :: wdT e) := (jn_cons' _ (ExOk.wt he).1).symm
      rw [ef]
      have s1 : Same H (upd H0 l1 (.lst [.str (jn ("if" :: wdT e))])) := s0.trans (Same.new hl1)
      have hl11 : (upd H0 l1 (.lst [.str (jn ("if" :: wdT e))])) l1 = some (.lst [.str (jn ("if" :: wdT e))]) := upd_same
      have l1H : H l1 = none := sameNone s0 hl1
      generalize upd H0 l1 (.lst [.str (jn ("if" :: wdT e))]) = H1 at s1 hl11
      refine ⟨_, rfl, rfl, _, rfl, itePos (decide_eq_true rfl) ?_⟩
      have hc1 : c1 ≤ 16 := by omega
      have hc2 : c2 ≤ 16 := by omega
      have k1 := (hB _ _ _ h1).1
      have k2 := (hB _ _ _ h2).1
      refine ⟨_, rfl, _, rfl, a, _, _, _, rfl, rfl, SqT.of (s1 a _ ha), atI_nat (j := 2) rfl, x3, b1, r1', c1, rfl, d3.mono (Same.tups s1), h1, hc1, fun l2 H2 _ hl2 s2 => ?_⟩
      refine ⟨l1, l2, _, _, rfl, rfl, s2 l1 _ hl11, hl2, by rw [List.length_map, List.length_map]; show 1 + _ ≤ sizeLine; omega, fun l3 hl3 => ?_⟩
      have s3 := (s1.trans s2).trans (Same.new (o := .lst ([.str (jn ("if" :: wdT e))] ++ (r1'.map jn).map V.str)) hl3)
      have hl33 : (upd H2 l3 (.lst ([.str (jn ("if" :: wdT e))] ++ (r1'.map jn).map V.str))) l3 = some (.lst ([.str (jn ("if" :: wdT e))] ++ (r1'.map jn).map V.str)) := upd_same
      generalize upd H2 l3 (.lst ([.str (jn ("if" :: wdT e))] ++ (r1'.map jn).map V.str)) = H3 at s3 hl33
      refine ⟨by show 1 ≤ sizeLine; decide, fun l4 hl4 => ?_⟩
      have s4 : Same H3 (upd H3 l4 (.lst [.str "else"])) := Same.new hl4
      have hl44 : (upd H3 l4 (.lst [.str "else"])) l4 = some (.lst [.str "else"]) := upd_same
      generalize upd H3 l4 (.lst [.str "else"]) = H4 at s4 hl44
      refine ⟨l3, l4, _, _, rfl, rfl, s4 l3 _ hl33, hl44, by rw [List.length_append, List.length_map, List.length_map]; show 1 + _ + 1 ≤ sizeLine; omega, fun l5 hl5 => ?_⟩
      have s5 := (s3.trans s4).trans (Same.new (o := .lst ([.str (jn ("if" :: wdT e))] ++ (r1'.map jn).map V.str ++ [.str "else"])) hl5)
      have hl55 : (upd H4 l5 (.lst ([.str (jn ("if" :: wdT e))] ++ (r1'.map jn).map V.str ++ [.str "else"]))) l5 = some (.lst ([.str (jn ("if" :: wdT e))] ++ (r1'.map jn).map V.str ++ [.str "else"])) := upd_same
      generalize upd H4 l5 (.lst ([.str (jn ("if" :: wdT e))] ++ (r1'.map jn).map V.str ++ [.str "else"])) = H5 at s5 hl55
      refine ⟨_, rfl, a, _, _, _, rfl, rfl, SqT.of (s5 a _ ha), atI_nat (j := 3) rfl, x4, b2, r2', c2, rfl, d4.mono (Same.tups s5), h2, hc2, fun l6 H6 _ hl6 s6 => ?_⟩
      refine ⟨l5, l6, _, _, rfl, rfl, s6 l5 _ hl55, hl6, by rw [List.length_append, List.length_append, List.length_map, List.length_map, List.length_map, List.length_map]; show 1 + _ + 1 + _ ≤ sizeLine; omega, fun l7 hl7 => ?_⟩
      have s7 := (s5.trans s6).trans (Same.new (o := .lst ([.str (jn ("if" :: wdT e))] ++ (r1'.map jn).map V.str ++ [.str "else"] ++ (r2'.map jn).map V.str)) hl7)
      have hl77 : (upd H6 l7 (.lst ([.str (jn ("if" :: wdT e))] ++ (r1'.map jn).map V.str ++ [.str "else"] ++ (r2'.map jn).map V.str))) l7 = some (.lst ([.str (jn ("if" :: wdT e))] ++ (r1'.map jn).map V.str ++ [.str "else"] ++ (r2'.map jn).map V.str)) := upd_same
      generalize upd H6 l7 (.lst ([.str (jn ("if" :: wdT e))] ++ (r1'.map jn).map V.str ++ [.str "else"] ++ (r2'.map jn).map V.str)) = H7 at s7 hl77
      refine ⟨by show 1 ≤ sizeLine; decide, fun l8 hl8 => ?_⟩
      have s8 : Same H7 (upd H7 l8 (.lst [.str "end"])) := Same.new hl8
      have hl88 : (upd H7 l8 (.lst [.str "end"])) l8 = some (.lst [.str "end"]) := upd_same
      generalize upd H7 l8 (.lst [.str "end"]) = H8 at s8 hl88
      refine ⟨l7, l8, _, _, rfl, rfl, s8 l7 _ hl77, hl88, by rw [List.length_append, List.length_append, List.length_append, List.length_map, List.length_map, List.length_map, List.length_map]; show 1 + _ + 1 + _ + 1 ≤ sizeLine; omega, fun l hl => ?_⟩
      have s9 := s7.trans s8
      refine q l _ (sameNone s9 hl) ?_ (s9.trans (Same.new hl))
      rw [upd_same]
      simp only [List.map_cons, List.map_append, List.map_nil, jn_one, List.append_assoc, List.cons_append, List.nil_append]
    · skip
      have wl : wd.length ≤ 6 := by rcases hw with rfl | rfl <;> decide +kernel
      have N : ∀ x : Str, ¬ x = "while" → ¬ x = "repeat" → ¬ wd = x := fun x n1 n2 z => by
        rcases hw with h | h
        · exact n1 (z ▸ h)
        · exact n2 (z ▸ h)
      refine ⟨_, rfl, rfl, _, rfl, iteNeg (ne_str (N _ (by decide +kernel) (by decide +kernel))) ?_⟩
      refine ⟨_, rfl, rfl, _, rfl, iteNeg (ne_str (N _ (by decide +kernel) (by decide +kernel))) ?_⟩
      refine ⟨_, rfl, rfl, _, rfl, iteNeg (ne_str (N _ (by decide +kernel) (by decide +kernel))) ?_⟩
      refine ⟨_, rfl, rfl, _, rfl, iteNeg (ne_str (N _ (by decide +kernel) (by decide +kernel))) ?_⟩
      refine ⟨_, rfl, rfl, _, rfl, iteNeg (ne_str (N _ (by decide +kernel) (by decide +kernel))) ?_⟩
      refine ⟨_, rfl, rfl, _, rfl, iteNeg (ne_str (N _ (by decide +kernel) (by decide +kernel))) ?_⟩
      refine ⟨_, rfl, rfl, _, rfl, iteNeg (ne_str (N _ (by decide +kernel) (by decide +kernel))) ?_⟩
      refine ⟨_, rfl, rfl, _, rfl, iteNeg (ne_str (N _ (by decide +kernel) (by decide +kernel))) ?_⟩
      obtain ⟨x2, r2, rfl, d2, dl2⟩ := dl'.cases
      obtain ⟨x3, r3, rfl, d3, dl3⟩ := dl2.cases
      have n3e := dl3.of_nil
      subst n3e
      have el := exLen (by decide) he
      refine ⟨_, rfl, _, _, rfl, rfl, by rw [sp_len]; omega, _, rfl, a, _, _, _, rfl, rfl, SqT.of ha, atI_nat (j := 1) rfl, x2, e, rfl, d2, he, fun H0 s0 => ?_⟩
      refine ⟨_, _, rfl, rfl, by rw [str_len_app, sp_len]; omega, by show 1 ≤ sizeLine; decide, fun l1 hl1 => ?_⟩
      have ef : wd ++ " " ++ jn (wdT e) = jn (wd :: wdT e) := (jn_cons' _ (ExOk.wt he).1).symm
      rw [ef]
      have s1 : Same H (upd H0 l1 (.lst [.str (jn (wd :: wdT e))])) := s0.trans (Same.new hl1)
      have hl11 : (upd H0 l1 (.lst [.str (jn (wd :: wdT e))])) l1 = some (.lst [.str (jn (wd :: wdT e))]) := upd_same
      have l1H : H l1 = none := sameNone s0 hl1
      generalize upd H0 l1 (.lst [.str (jn (wd :: wdT e))]) = H1 at s1 hl11
      refine ⟨_, rfl, rfl, _, rfl, iteNeg (ne_str (N _ (by decide +kernel) (by decide +kernel))) ?_⟩
      have hc1 : c1 ≤ 16 := by omega
      have k1 := (hB _ _ _ h1).1
      apply by_rest (fun H' => H1 = H')
      case use =>
        intro rest
        rcases hw with hw | hw
        · refine ⟨_, rfl, rfl, _, rfl, itePos (by rw [hw]; exact decide_eq_true rfl) (iteT ?_)⟩
          exact rest H1 rfl
        · refine ⟨_, rfl, rfl, _, rfl, iteNeg (ne_str (by rw [hw]; decide +kernel)) ?_⟩
          refine ⟨_, rfl, rfl, _, rfl, itePos (by rw [hw]; exact decide_eq_true rfl) ?_⟩
          exact rest H1 rfl
      case rest =>
      rintro _ rfl
      refine ⟨_, rfl, _, rfl, a, _, _, _, rfl, rfl, SqT.of (s1 a _ ha), atI_nat (j := 2) rfl, x3, b, r', c1, rfl, d3.mono (Same.tups s1), h1, hc1, fun l2 H2 _ hl2 s2 => ?_⟩
      refine ⟨l1, l2, _, _, rfl, rfl, s2 l1 _ hl11, hl2, by rw [List.length_map, List.length_map]; show 1 + _ ≤ sizeLine; omega, fun l3 hl3 => ?_⟩
      have s3 := (s1.trans s2).trans (Same.new (o := .lst ([.str (jn (wd :: wdT e))] ++ (r'.map jn).map V.str)) hl3)
      have hl33 : (upd H2 l3 (.lst ([.str (jn (wd :: wdT e))] ++ (r'.map jn).map V.str))) l3 = some (.lst ([.str (jn (wd :: wdT e))] ++ (r'.map jn).map V.str)) := upd_same
      generalize upd H2 l3 (.lst ([.str (jn (wd :: wdT e))] ++ (r'.map jn).map V.str)) = H3 at s3 hl33
      refine ⟨by show 1 ≤ sizeLine; decide, fun l8 hl8 => ?_⟩
      have s8 : Same H3 (upd H3 l8 (.lst [.str "end"])) := Same.new hl8
      have hl88 : (upd H3 l8 (.lst [.str "end"])) l8 = some (.lst [.str "end"]) := upd_same
      generalize upd H3 l8 (.lst [.str "end"]) = H8 at s8 hl88
      refine ⟨l3, l8, _, _, rfl, rfl, s8 l3 _ hl33, hl88, by rw [List.length_append, List.length_map, List.length_map]; show 1 + _ + 1 ≤ sizeLine; omega, fun l hl => ?_⟩
      have s9 := s3.trans s8
      refine q l _ (sameNone s9 hl) ?_ (s9.trans (Same.new hl))
      rw [upd_same]
      simp only [List.map_cons, List.map_append, List.map_nil, jn_one, List.append_assoc, List.cons_append, List.nil_append]
    · skip
      refine ⟨_, rfl, rfl, _, rfl, iteNeg (ne_str (by decide +kernel)) ?_⟩
      refine ⟨_, rfl, rfl, _, rfl, iteNeg (ne_str (by decide +kernel)) ?_⟩
      refine ⟨_, rfl, rfl, _, rfl, iteNeg (ne_str (by decide +kernel)) ?_⟩
      refine ⟨_, rfl, rfl, _, rfl, iteNeg (ne_str (by decide +kernel)) ?_⟩
      refine ⟨_, rfl, rfl, _, rfl, iteNeg (ne_str (by decide +kernel)) ?_⟩
      refine ⟨_, rfl, rfl, _, rfl, iteNeg (ne_str (by decide +kernel)) ?_⟩
      refine ⟨_, rfl, rfl, _, rfl, iteNeg (ne_str (by decide +kernel)) ?_⟩
      refine ⟨_, rfl, rfl, _, rfl, itePos (decide_eq_true rfl) ?_⟩
      obtain ⟨x2, r2, rfl, d2, dl2⟩ := dl'.cases
      obtain ⟨x3, r3, rfl, d3, dl3⟩ := dl2.cases
      obtain ⟨x4, r4, rfl, d4, dl4⟩ := dl3.cases
      have s3e := L2.Dp.of_str d3
      subst s3e
      have n4e := dl4.of_nil
      subst n4e
      have hc1 : c1 ≤ 16 := by omega
      have hc2 : c2 ≤ 16 := by omega
      have k1 := (hB _ _ _ h1).1
      have k2 := (hB _ _ _ h2).1
      refine ⟨by show 1 ≤ sizeLine; decide, fun l1 hl1 => ?_⟩
      have s1 : Same H (upd H l1 (.lst [.str "try"])) := Same.new hl1
      have hl11 : (upd H l1 (.lst [.str "try"])) l1 = some (.lst [.str "try"]) := upd_same
      generalize upd H l1 (.lst [.str "try"]) = H1 at s1 hl11
      refine ⟨_, rfl, a, _, _, _, rfl, rfl, SqT.of (s1 a _ ha), atI_nat (j := 1) rfl, x2, b1, r1', c1, rfl, d2.mono (Same.tups s1), h1, hc1, fun l2 H2 _ hl2 s2 => ?_⟩
      refine ⟨l1, l2, _, _, rfl, rfl, s2 l1 _ hl11, hl2, by rw [List.length_map, List.length_map]; show 1 + _ ≤ sizeLine; omega, fun l3 hl3 => ?_⟩
      have s3 := (s1.trans s2).trans (Same.new (o := .lst ([.str "try"] ++ (r1'.map jn).map V.str)) hl3)
      have hl33 : (upd H2 l3 (.lst ([.str "try"] ++ (r1'.map jn).map V.str))) l3 = some (.lst ([.str "try"] ++ (r1'.map jn).map V.str)) := upd_same
      generalize upd H2 l3 (.lst ([.str "try"] ++ (r1'.map jn).map V.str)) = H3 at s3 hl33
      have e5 : ("catch " : Str).length = 6 := rfl
      refine ⟨_, rfl, a, _, _, _, rfl, rfl, SqT.of (s3 a _ ha), atI_nat (j := 2) rfl, _, _, rfl, rfl, by rw [e5]; omega, by show 1 ≤ sizeLine; decide, fun l4 hl4 => ?_⟩
      have s4 : Same H3 (upd H3 l4 (.lst [.str ("catch " ++ x)])) := Same.new hl4
      have hl44 : (upd H3 l4 (.lst [.str ("catch " ++ x)])) l4 = some (.lst [.str ("catch " ++ x)]) := upd_same
      generalize upd H3 l4 (.lst [.str ("catch " ++ x)]) = H4 at s4 hl44
      refine ⟨l3, l4, _, _, rfl, rfl, s4 l3 _ hl33, hl44, by rw [List.length_append, List.length_map, List.length_map]; show 1 + _ + 1 ≤ sizeLine; omega, fun l5 hl5 => ?_⟩
      have s5 := (s3.trans s4).trans (Same.new (o := .lst ([.str "try"] ++ (r1'.map jn).map V.str ++ [.str ("catch " ++ x)])) hl5)
      have hl55 : (upd H4 l5 (.lst ([.str "try"] ++ (r1'.map jn).map V.str ++ [.str ("catch " ++ x)]))) l5 = some (.lst ([.str "try"] ++ (r1'.map jn).map V.str ++ [.str ("catch " ++ x)])) := upd_same
      generalize upd H4 l5 (.lst ([.str "try"] ++ (r1'.map jn).map V.str ++ [.str ("catch " ++ x)])) = H5 at s5 hl55
      refine ⟨_, rfl, a, _, _, _, rfl, rfl, SqT.of (s5 a _ ha), atI_nat (j := 3) rfl, x4, b2, r2', c2, rfl, d4.mono (Same.tups s5), h2, hc2, fun l6 H6 _ hl6 s6 => ?_⟩
      refine ⟨l5, l6, _, _, rfl, rfl, s6 l5 _ hl55, hl6, by rw [List.length_append, List.length_append, List.length_map, List.length_map, List.length_map, List.length_map]; show 1 + _ + 1 + _ ≤ sizeLine; omega, fun l7 hl7 => ?_⟩
      have s7 := (s5.trans s6).trans (Same.new (o := .lst ([.str "try"] ++ (r1'.map jn).map V.str ++ [.str ("catch " ++ x)] ++ (r2'.map jn).map V.str)) hl7)
      have hl77 : (upd H6 l7 (.lst ([.str "try"] ++ (r1'.map jn).map V.str ++ [.str ("catch " ++ x)] ++ (r2'.map jn).map V.str))) l7 = some (.lst ([.str "try"] ++ (r1'.map jn).map V.str ++ [.str ("catch " ++ x)] ++ (r2'.map jn).map V.str)) := upd_same
      generalize upd H6 l7 (.lst ([.str "try"] ++ (r1'.map jn).map V.str ++ [.str ("catch " ++ x)] ++ (r2'.map jn).map V.str)) = H7 at s7 hl77
      refine ⟨by show 1 ≤ sizeLine; decide, fun l8 hl8 => ?_⟩
      have s8 : Same H7 (upd H7 l8 (.lst [.str "end"])) := Same.new hl8
      have hl88 : (upd H7 l8 (.lst [.str "end"])) l8 = some (.lst [.str "end"]) := upd_same
      generalize upd H7 l8 (.lst [.str "end"]) = H8 at s8 hl88
      refine ⟨l7, l8, _, _, rfl, rfl, s8 l7 _ hl77, hl88, by rw [List.length_append, List.length_append, List.length_append, List.length_map, List.length_map, List.length_map, List.length_map]; show 1 + _ + 1 + _ + 1 ≤ sizeLine; omega, fun l hl => ?_⟩
      have s9 := s7.trans s8
      refine q l _ (sameNone s9 hl) ?_ (s9.trans (Same.new hl))
      have ec : jn [("catch" : Str), x] = "catch " ++ x := by
        rw [jn_cons, jn_one, show ("catch " : Str) = "catch" ++ " " by decide +kernel]
      rw [upd_same]
      simp only [List.map_cons, List.map_append, List.map_nil, jn_one, ec, List.append_assoc, List.cons_append, List.nil_append]
end
end K25
end
section
set_option autoImplicit false
namespace K25
open PySem PyProof.Rows L2
section
variable {P : Program} {w : World} {K : PySem.W.Frag} {mg : Str → Option Value} {base : Heap} {t : Adr}
theorem ok_brows_step (D : Defs K mg t) {n k : Nat} (G__law_s_rows : FnOk P w K mg base CX0 k t._law_s_rows.1 t._law_s_rows.2 ["_law_part"] (spRows (StN (SB n)))) : FnOk P w K mg base CX0 (k + 1) t._law_b_rows.1 t._law_b_rows.2 ["_law_block"] (spRows (SB (n + 1))) := by
  have hz : sizeLine = 16777216 := sizeLine_eq
  refine D._law_b_rows.fn.ok sc__law_b_rows (fun vs H Q E h => ?_) (fun cdv A outer s H vs Q E hr h => ?_)
  · obtain ⟨v, t, rows, c, rfl, _⟩ := h
    rfl
  · obtain ⟨v, t0, rows, c, rfl, dv, ⟨ss, rss, rfl, hst, rfl⟩, hc, q⟩ := h
    obtain ⟨a, xs, rfl, ha, dl⟩ := L2.Dp.of_tup dv
    have hxl : xs.length = ss.length := dl.length
    have hrl := hst.len
    obtain ⟨fl, _⟩ := stl_ok (stn_ok (sb_ok n)) hst
    refine ⟨_, (pss_cons (ps_set (i := 1) sc__law_b_rows.nd rfl (Or.inl rfl) (pe_lst pa_nil))
      (pss_cons (ps_for PassesOwn.never rfl (pi_tup (pv 0)) (pg_name (i := 2) sc__law_b_rows.nd rfl (Or.inl rfl))
      (pss_one (ps_set (i := 1) sc__law_b_rows.nd rfl (Or.inl rfl) (pe_op op_cat (pv 1) (pe_callF D._law_s_rows G__law_s_rows (hr.mono (by omega)) (by rfl) (pa_cons (pv 2) pa_nil))))))
      (pss_one (ps_ret (pv 1))))), ?_⟩
    refine ⟨Nat.zero_le _, fun l hl => ?_⟩
    have s1 : Same H (upd H l (.lst [])) := Same.new hl
    have hl1 : (upd H l (.lst [])) l = some (.lst []) := upd_same
    generalize upd H l (.lst []) = H1 at s1 hl1
    have pre : ∀ i, ((rss.take i).flatten).length ≤ 48 := fun i => by
      have : ((rss.take i).flatten).length ≤ (rss.flatten).length := by
        conv => rhs; rw [← List.take_append_drop i rss]
        rw [List.flatten_append, List.length_append]
        omega
      omega
    refine ⟨_, rfl, a, rfl, ⟨_, SqT.of (s1 a _ ha)⟩, for_tup (K := K) (a := a) (xs := xs) (fun i σ H2 => ∃ (l : Addr) (v2 : Option V), σ = [some (.ref a), some (.ref l), v2] ∧ H l = none ∧ H2 l = some (.lst ((((rss.take i).flatten).map jn).map V.str)) ∧ Same H H2)
      ⟨l, _, rfl, hl, hl1, s1⟩ (fun i σ H2 _ ⟨_, _, _, _, _, s⟩ => SqT.of (s a _ ha)) ?_ ?_⟩
    · rintro i x σ H2 hi ⟨l, v2, rfl, hlH, hl2, s2⟩
      have hix : i < xs.length := (List.getElem?_eq_some_iff.mp hi).1
      have his : i < ss.length := by omega
      have hir : i < rss.length := by omega
      obtain ⟨x', ex, dx⟩ := dl.get (List.getElem?_eq_getElem his)
      rw [ex] at hi
      cases hi
      obtain ⟨d, hd, hs⟩ := hst.get i his hir
      refine ⟨_, rfl, _, rfl, x, ss[i], rss[i], d, rfl, dx.mono (Same.tups s2), hs, by omega, fun l2 H3 hn2 hl2' s3 => ?_⟩
      have ew : (rss.take (i + 1)).flatten = (rss.take i).flatten ++ rss[i] := by
        rw [take_snoc hir, List.flatten_append]
        show _ ++ (rss[i] ++ []) = _
        rw [List.append_nil]
      have p2 := pre (i + 1)
      rw [ew, List.length_append] at p2
      refine ⟨l, l2, _, _, rfl, rfl, s3 l _ hl2, hl2', by rw [List.length_map, List.length_map, List.length_map, List.length_map]; omega, fun l3 hl3 => ?_⟩
      have s23 := s2.trans s3
      exact ⟨l3, _, rfl, sameNone s23 hl3, by rw [upd_same, ew, List.map_append, List.map_append], s23.trans (Same.new hl3)⟩
    · rintro σ H2 ⟨l, v2, rfl, hlH, hl2, s2⟩
      rw [List.take_of_length_le (by omega)] at hl2
      exact ⟨_, rfl, q l H2 hlH hl2 s2⟩
theorem ok_brows (D : Defs K mg t) : ∀ n, FnOk P w K mg base CX0 (6 + 2 * n) t._law_b_rows.1 t._law_b_rows.2 ["_law_block"] (spRows (SB (n + 1)))
  | 0 => ok_brows_step D (ok_srows D (sb_ok 0) (j := 0) (k := 4) (by omega) (by omega) (fn_no fun vs H Q E ⟨v, t, r, c, _, _, h, _⟩ => h))
  | n + 1 => by
    have h := ok_brows_step D (ok_srows D (sb_ok (n + 1)) (j := 6 + 2 * n) (k := 6 + 2 * n) (by omega) (by omega) (ok_brows D n))
    exact h
def spTextP : Sp := fun vs H Q _ => ∃ (v : V) (ks : List KR) (ds : List DR) (run : T) (brs : List (List (List Str))) (rr : List (List Str)), vs = [v] ∧ ProgAt H v ks ds run ∧ GoodP ks ds run brs rr ∧ ∀ H', Same H H' → Q (.str (ptext (progR ks ds brs rr))) H'
theorem ok_textP (D : Defs K mg t) : FnOk P w K mg base CX0 11 t._law_text.1 t._law_text.2 ["_law_program"] spTextP := by
  have G__law_b_rows : FnOk P w K mg base CX0 10 t._law_b_rows.1 t._law_b_rows.2 _ (spRows (SB 3)) := ok_brows D 2
  have hz : sizeLine = 16777216 := sizeLine_eq
  refine D._law_text.fn.ok sc__law_text (fun vs H Q E h => ?_) (fun cdv A outer s H vs Q E hr h => ?_)
  · obtain ⟨v, ks, ds, run, brs, rr, rfl, _⟩ := h
    rfl
  · obtain ⟨v, ks, ds, run, brs, rr, rfl, ⟨p0, kv, dv, rv, rfl, hp0, dk, dd, dr⟩, G, k⟩ := h
    have k7 := G.kl
    have d8 := G.dl
    have b8 := G.bl
    obtain ⟨a, xs, rfl, ha, dl⟩ := L2.Dp.of_tup dk
    obtain ⟨da, dxs, rfl, hda, ddl⟩ := L2.Dp.of_tup dd
    have hxl : xs.length = ks.length := by have := dl.length; rwa [List.length_map] at this
    have hdl : dxs.length = ds.length := by have := ddl.length; rwa [List.length_map] at this
    obtain ⟨zl, zk⟩ := zip_ok G.bl G.dk
    have h8 := Nat.mul_le_mul_right 50 d8
    refine ⟨_, (pss_cons (ps_setc (i := 1) rfl sc__law_text.nd rfl (Or.inl rfl) (CompScope.of ["_law_row"] [] ["_law_row"] (defScope (top 28)) ["_law_program", "_law_rows", "_law_row"] rfl rfl (by decide +kernel)) ⟨fun _ _ _ _ _ => (pg_name (i := 0) (show List.Nodup [("_law_row" : Str)] by decide +kernel) rfl (Or.inl (lookup_relabel_local rfl)) (.inr (lookup_relabel_local rfl))), fun _ _ _ _ _ => pts_nil, fun _ _ _ _ _ => (pe_bm_K (K := K) rfl PySem.F.plainAttrs_str PySem.F.slot_str_join PySem.F.type_str_join (mt_join_K (K := K) rfl) pe_str (pa_cons (pe_op op_cat (pe_op op_cat (pe_lst (pa_cons pe_str (pa_cons (pe_ix (ix_tup_K (K := K) rfl) (pv 0) pe_int (fun _ _ => rfl)) (pa_cons (pe_callTy call_str_int (by rfl) D.b_str bt_str (pa_cons (pe_callB (call_len_seqK (K := K) rfl) (by rfl) D.b_len bt_len (pa_cons (pe_ix (ix_tup_K (K := K) rfl) (pv 0) pe_int (fun _ _ => rfl)) pa_nil)) pa_nil)) pa_nil)))) (pe_callTy (call_list_ofK (K := K) rfl) (by rfl) D.b_list bt_list (pa_cons (pe_ix (ix_tup_K (K := K) rfl) (pv 0) pe_int (fun _ _ => rfl)) pa_nil))) (pe_callTy (call_list_ofK (K := K) rfl) (by rfl) D.b_list bt_list (pa_cons (pe_ix (ix_tup_K (K := K) rfl) (pv 0) pe_int (fun _ _ => rfl)) pa_nil))) pa_nil))⟩ (pi_tup (pe_ix ix_tup (pv 0) pe_int (fun _ _ => rfl))))
      (pss_cons (ps_for PassesOwn.never rfl (pi_tup (pe_ix ix_tup (pv 0) pe_int (fun _ _ => rfl))) (pg_name (i := 2) sc__law_text.nd rfl (Or.inl rfl))
      (pss_one (ps_set (i := 1) sc__law_text.nd rfl (Or.inl rfl) (pe_op op_cat (pe_op op_cat (pe_op op_cat (pv 1) (pe_lst (pa_cons (pe_bm PySem.F.plainAttrs_str PySem.F.slot_str_join PySem.F.type_str_join mt_join pe_str (pa_cons (pe_op op_cat (pe_lst (pa_cons pe_str (pa_cons (pe_ix ix_tup (pv 2) pe_int (fun _ _ => rfl)) (pa_cons (pe_ix ix_tup (pv 2) pe_int (fun _ _ => rfl)) pa_nil)))) (pe_callTy (call_list_ofK (K := K) rfl) (by rfl) D.b_list bt_list (pa_cons (pe_ix ix_tup (pv 2) pe_int (fun _ _ => rfl)) pa_nil))) pa_nil)) pa_nil))) (pe_callF D._law_b_rows G__law_b_rows (hr.mono (by omega)) (by rfl) (pa_cons (pe_ix ix_tup (pv 2) pe_int (fun _ _ => rfl)) pa_nil))) (pe_lst (pa_cons pe_str pa_nil))))))
      (pss_one (ps_ret (pe_bm PySem.F.plainAttrs_str PySem.F.slot_str_join PySem.F.type_str_join mt_join pe_str (pa_cons (pe_op op_cat (pe_op op_cat (pe_op op_cat (pv 1) (pe_lst (pa_cons pe_str pa_nil))) (pe_callF D._law_b_rows G__law_b_rows (hr.mono (by omega)) (by rfl) (pa_cons (pe_ix ix_tup (pv 0) pe_int (fun _ _ => rfl)) pa_nil))) (pe_lst (pa_cons pe_str pa_nil))) pa_nil)))))), ?_⟩
    refine ⟨_, rfl, p0, _, _, _, rfl, rfl, SqT.of hp0, atI_nat (j := 0) rfl, a, rfl, ⟨_, SqT.of ha⟩, fun l hl => ?_⟩
    refine comp_by (n := xs.length) (fun i ys H2 => ys = (((ks.take i).map kindW).map jn).map V.str ∧ H2 l = some (.lst ys) ∧ Same H H2) ⟨rfl, upd_same, Same.new hl⟩ ?_ ?_
    rotate_left
    · rintro i ys H2 hi ⟨rfl, hl2, s2⟩
      have hik : i < ks.length := by omega
      obtain ⟨x, ex, dx⟩ := dl.get (i := i) (t := krT ks[i]) (by rw [List.getElem?_map, List.getElem?_eq_getElem hik]; rfl)
      refine ⟨⟨_, _, SqT.of (s2 a _ ha), ex⟩, ?_⟩
      rintro v H3 ⟨rfl, yy⟩ σo ho
      obtain ⟨oo, rfl⟩ := own1 ho
      have ev := yy _ (SqT.of (s2 a _ ha))
      rw [ex] at ev
      cases ev
      obtain ⟨q, e, f, rfl, hq, he, hf⟩ := K25.Dp.of_kr (dx.mono (Same.tups s2))
      have kok := G.ko _ (List.getElem_mem hik)
      obtain ⟨_, e7, f7, _, _⟩ := id kok
      refine ⟨⟨[_], rfl, rfl⟩, yes_by ⟨rfl, _, rfl, q, _, _, _, rfl, rfl, SqT.of hq, atI_nat (j := 0) rfl, _, rfl, q, _, _, _, rfl, rfl, SqT.of hq, atI_nat (j := 1) rfl, e, _, rfl, .inr (SqT.of he), _, rfl, log_small (by omega) (by rw [List.length_map]; omega), by show 3 ≤ sizeLine; decide, fun l1 hl1 => ?_⟩⟩
      have ew : ((toString (((ks[i].elders.map V.str).length : Nat) : Int) : String) : Str) = nS ks[i].elders.length := by rw [List.length_map]; rfl
      rw [ew]
      have sl1 : Same H3 (upd H3 l1 (.lst ([.str "kind", .str ks[i].kind, .str (nS ks[i].elders.length)]))) := Same.new hl1
      have hl1l1 : (upd H3 l1 (.lst ([.str "kind", .str ks[i].kind, .str (nS ks[i].elders.length)]))) l1 = some (.lst ([.str "kind", .str ks[i].kind, .str (nS ks[i].elders.length)])) := upd_same
      generalize upd H3 l1 (.lst ([.str "kind", .str ks[i].kind, .str (nS ks[i].elders.length)])) = H4 at sl1 hl1l1
      refine ⟨_, rfl, q, _, _, _, rfl, rfl, SqT.of (sl1 q _ hq), atI_nat (j := 1) rfl, e, _, rfl, .inr (SqT.of (sl1 e _ he)), fun l2 hl2' => ?_⟩
      have hl2 := hl2
      have hl0 := sl1 l _ hl2
      clear hl2
      have hl2 := hl2'
      have sl2 : Same H4 (upd H4 l2 (.lst (ks[i].elders.map V.str))) := Same.new hl2
      have hl2l2 : (upd H4 l2 (.lst (ks[i].elders.map V.str))) l2 = some (.lst (ks[i].elders.map V.str)) := upd_same
      generalize upd H4 l2 (.lst (ks[i].elders.map V.str)) = H5 at sl2 hl2l2
      refine ⟨l1, l2, _, _, rfl, rfl, sl2 l1 _ hl1l1, hl2l2, by rw [List.length_map]; show 3 + _ ≤ sizeLine; omega, fun l3 hl3 => ?_⟩
      have sl3 : Same H5 (upd H5 l3 (.lst ([.str "kind", .str ks[i].kind, .str (nS ks[i].elders.length)] ++ ks[i].elders.map V.str))) := Same.new hl3
      have hl3l3 : (upd H5 l3 (.lst ([.str "kind", .str ks[i].kind, .str (nS ks[i].elders.length)] ++ ks[i].elders.map V.str))) l3 = some (.lst ([.str "kind", .str ks[i].kind, .str (nS ks[i].elders.length)] ++ ks[i].elders.map V.str)) := upd_same
      generalize upd H5 l3 (.lst ([.str "kind", .str ks[i].kind, .str (nS ks[i].elders.length)] ++ ks[i].elders.map V.str)) = H6 at sl3 hl3l3
      have s36 := (sl1.trans sl2).trans sl3
      refine ⟨_, rfl, q, _, _, _, rfl, rfl, SqT.of (s36 q _ hq), atI_nat (j := 2) rfl, f, _, rfl, .inr (SqT.of (s36 f _ hf)), fun l4 hl4 => ?_⟩
      have sl4 : Same H6 (upd H6 l4 (.lst (ks[i].fields.map V.str))) := Same.new hl4
      have hl4l4 : (upd H6 l4 (.lst (ks[i].fields.map V.str))) l4 = some (.lst (ks[i].fields.map V.str)) := upd_same
      generalize upd H6 l4 (.lst (ks[i].fields.map V.str)) = H7 at sl4 hl4l4
      refine ⟨l3, l4, _, _, rfl, rfl, sl4 l3 _ hl3l3, hl4l4, by rw [List.length_append, List.length_map, List.length_map]; show 3 + _ + _ ≤ sizeLine; omega, fun l5 hl5 => ?_⟩
      have sl5 : Same H7 (upd H7 l5 (.lst ([.str "kind", .str ks[i].kind, .str (nS ks[i].elders.length)] ++ ks[i].elders.map V.str ++ ks[i].fields.map V.str))) := Same.new hl5
      have hl5l5 : (upd H7 l5 (.lst ([.str "kind", .str ks[i].kind, .str (nS ks[i].elders.length)] ++ ks[i].elders.map V.str ++ ks[i].fields.map V.str))) l5 = some (.lst ([.str "kind", .str ks[i].kind, .str (nS ks[i].elders.length)] ++ ks[i].elders.map V.str ++ ks[i].fields.map V.str)) := upd_same
      generalize upd H7 l5 (.lst ([.str "kind", .str ks[i].kind, .str (nS ks[i].elders.length)] ++ ks[i].elders.map V.str ++ ks[i].fields.map V.str)) = H8 at sl5 hl5l5
      have s38 := (s36.trans sl4).trans sl5
      have el : ([.str "kind", .str ks[i].kind, .str (nS ks[i].elders.length)] ++ ks[i].elders.map V.str ++ ks[i].fields.map V.str : List V) = (kindW ks[i]).map V.str := by
        unfold kindW
        rw [List.map_cons, List.map_cons, List.map_cons, List.map_append]
        rfl
      rw [el] at hl5l5
      have hl8 := ((sl2.trans sl3).trans (sl4.trans sl5)) l _ hl0
      refine ⟨" ", l5, kindW ks[i], rfl, rfl, .inl (SqL.of hl5l5), row_fits (kind_row kok), by rw [List.length_map, List.length_map, List.length_map, List.length_take]; omega, hl8, less_by hi ⟨?_, upd_same, fun b o e => by rw [upd_ne (ne_of_none e hl)]; exact s38 b o (s2 b o e)⟩⟩
      rw [take_snoc hik, List.map_append, List.map_append, List.map_append]
      rfl
    rintro ys H2 ⟨rfl, hl2, s2⟩
    rw [List.take_of_length_le (by omega)] at hl2
    refine ⟨⟨_, SqT.of (s2 a _ ha), Nat.le_refl _⟩, ?_⟩
    refine ⟨_, rfl, p0, _, _, _, rfl, rfl, SqT.of (s2 p0 _ hp0), atI_nat (j := 1) rfl, da, rfl, ⟨_, SqT.of (s2 da _ hda)⟩, for_tup (K := K) (a := da) (xs := dxs) (fun i σ H3 => ∃ (l : Addr) (v2 : Option V), σ = [some (.ref p0), some (.ref l), v2] ∧ H3 l = some (.lst (((ks.map kindW ++ ((List.zipWith deedR ds brs).take i).flatten).map jn).map V.str)) ∧ Same H H3)
      ⟨l, _, rfl, by rw [List.take_zero, List.flatten_nil, List.append_nil]; exact hl2, s2⟩ (fun i σ H3 _ ⟨_, _, _, _, s⟩ => SqT.of (s da _ hda)) ?_ ?_⟩
    · rintro i x σ H3 hi ⟨l, v2, rfl, hl3', s3⟩
      have hix : i < dxs.length := (List.getElem?_eq_some_iff.mp hi).1
      have hid : i < ds.length := by omega
      have hib : i < brs.length := by omega
      obtain ⟨x', ex, dx⟩ := ddl.get (i := i) (t := drT ds[i]) (by rw [List.getElem?_map, List.getElem?_eq_getElem hid]; rfl)
      rw [ex] at hi
      cases hi
      obtain ⟨q, pp, bv, rfl, hq, hpp, dbv⟩ := K25.Dp.of_dr (dx.mono (Same.tups s3))
      have dok := G.dk i hid hib
      obtain ⟨_, _, p7, _, c, hc, sb⟩ := id dok
      have drow := (deed_rows dok).2 (deedW ds[i]) List.mem_cons_self
      have hzw : i < (List.zipWith deedR ds brs).length := by rw [List.length_zipWith]; omega
      have ezw : (List.zipWith deedR ds brs)[i] = deedR ds[i] brs[i] := List.getElem_zipWith
      have ptl : ((List.zipWith deedR ds brs).take i).flatten.length ≤ (List.zipWith deedR ds brs).flatten.length := by
        conv => rhs; rw [← List.take_append_drop i (List.zipWith deedR ds brs)]
        rw [List.flatten_append, List.length_append]
        omega
      have rl := (sb_ok 3 _ _ _ sb).1
      generalize hpre : ks.map kindW ++ ((List.zipWith deedR ds brs).take i).flatten = pre at hl3'
      have prl : pre.length ≤ 407 := by rw [← hpre, List.length_append, List.length_map]; omega
      refine ⟨_, rfl, rfl, _, rfl, q, _, _, _, rfl, rfl, SqT.of hq, atI_nat (j := 0) rfl, _, rfl, q, _, _, _, rfl, rfl, SqT.of hq, atI_nat (j := 1) rfl, by show 3 ≤ sizeLine; decide, fun l1 hl1 => ?_⟩
      have sl1 : Same H3 (upd H3 l1 (.lst ([.str "deed", .str ds[i].kind, .str ds[i].name]))) := Same.new hl1
      have hl1l1 : (upd H3 l1 (.lst ([.str "deed", .str ds[i].kind, .str ds[i].name]))) l1 = some (.lst ([.str "deed", .str ds[i].kind, .str ds[i].name])) := upd_same
      generalize upd H3 l1 (.lst ([.str "deed", .str ds[i].kind, .str ds[i].name])) = H4 at sl1 hl1l1
      refine ⟨_, rfl, q, _, _, _, rfl, rfl, SqT.of (sl1 q _ hq), atI_nat (j := 2) rfl, pp, _, rfl, .inr (SqT.of (sl1 pp _ hpp)), fun l2 hl2 => ?_⟩
      have sl2 : Same H4 (upd H4 l2 (.lst (ds[i].params.map V.str))) := Same.new hl2
      have hl2l2 : (upd H4 l2 (.lst (ds[i].params.map V.str))) l2 = some (.lst (ds[i].params.map V.str)) := upd_same
      generalize upd H4 l2 (.lst (ds[i].params.map V.str)) = H5 at sl2 hl2l2
      refine ⟨l1, l2, _, _, rfl, rfl, sl2 l1 _ hl1l1, hl2l2, by rw [List.length_map]; show 3 + _ ≤ sizeLine; omega, fun l3 hl3 => ?_⟩
      have sl3 : Same H5 (upd H5 l3 (.lst ([.str "deed", .str ds[i].kind, .str ds[i].name] ++ ds[i].params.map V.str))) := Same.new hl3
      have hl3l3 : (upd H5 l3 (.lst ([.str "deed", .str ds[i].kind, .str ds[i].name] ++ ds[i].params.map V.str))) l3 = some (.lst ([.str "deed", .str ds[i].kind, .str ds[i].name] ++ ds[i].params.map V.str)) := upd_same
      generalize upd H5 l3 (.lst ([.str "deed", .str ds[i].kind, .str ds[i].name] ++ ds[i].params.map V.str)) = H6 at sl3 hl3l3
      have hw3 : H6 l3 = some (.lst ((deedW ds[i]).map V.str)) := hl3l3
      have s36 := (sl1.trans sl2).trans sl3
      refine ⟨" ", l3, deedW ds[i], rfl, rfl, .inl (SqL.of hw3), row_fits drow, by show 1 ≤ sizeLine; decide, fun l4 hl4 => ?_⟩
      rw [show Txt.join " " (deedW ds[i]) = jn (deedW ds[i]) from rfl]
      have sl4 : Same H6 (upd H6 l4 (.lst ([.str (jn (deedW ds[i]))]))) := Same.new hl4
      have hl4l4 : (upd H6 l4 (.lst ([.str (jn (deedW ds[i]))]))) l4 = some (.lst ([.str (jn (deedW ds[i]))])) := upd_same
      generalize upd H6 l4 (.lst ([.str (jn (deedW ds[i]))])) = H7 at sl4 hl4l4
      have s37 := s36.trans sl4
      refine ⟨l, l4, _, _, rfl, rfl, s37 l _ hl3', hl4l4, by rw [List.length_map, List.length_map]; show _ + 1 ≤ sizeLine; omega, fun l5 hl5 => ?_⟩
      have sl5 : Same H7 (upd H7 l5 (.lst ((pre.map jn).map V.str ++ [.str (jn (deedW ds[i]))]))) := Same.new hl5
      have hl5l5 : (upd H7 l5 (.lst ((pre.map jn).map V.str ++ [.str (jn (deedW ds[i]))]))) l5 = some (.lst ((pre.map jn).map V.str ++ [.str (jn (deedW ds[i]))])) := upd_same
      generalize upd H7 l5 (.lst ((pre.map jn).map V.str ++ [.str (jn (deedW ds[i]))])) = H8 at sl5 hl5l5
      have s38 := s37.trans sl5
      refine ⟨_, rfl, q, _, _, _, rfl, rfl, SqT.of (s38 q _ hq), atI_nat (j := 3) rfl, bv, ds[i].block, brs[i], c, rfl, dbv.mono (Same.tups s38), sb, hc, fun l6 H9 _ hl6 s9 => ?_⟩
      refine ⟨l5, l6, _, _, rfl, rfl, s9 l5 _ hl5l5, hl6, by rw [List.length_append, List.length_map, List.length_map, List.length_map, List.length_map]; show _ + 1 + _ ≤ sizeLine; omega, fun l7 hl7 => ?_⟩
      have sl7 : Same H9 (upd H9 l7 (.lst ((pre.map jn).map V.str ++ [.str (jn (deedW ds[i]))] ++ (brs[i].map jn).map V.str))) := Same.new hl7
      have hl7l7 : (upd H9 l7 (.lst ((pre.map jn).map V.str ++ [.str (jn (deedW ds[i]))] ++ (brs[i].map jn).map V.str))) l7 = some (.lst ((pre.map jn).map V.str ++ [.str (jn (deedW ds[i]))] ++ (brs[i].map jn).map V.str)) := upd_same
      generalize upd H9 l7 (.lst ((pre.map jn).map V.str ++ [.str (jn (deedW ds[i]))] ++ (brs[i].map jn).map V.str)) = H10 at sl7 hl7l7
      refine ⟨by show 1 ≤ sizeLine; decide, fun l8 hl8 => ?_⟩
      have sl8 : Same H10 (upd H10 l8 (.lst ([.str "end"]))) := Same.new hl8
      have hl8l8 : (upd H10 l8 (.lst ([.str "end"]))) l8 = some (.lst ([.str "end"])) := upd_same
      generalize upd H10 l8 (.lst ([.str "end"])) = H11 at sl8 hl8l8
      refine ⟨l7, l8, _, _, rfl, rfl, sl8 l7 _ hl7l7, hl8l8, by rw [List.length_append, List.length_append, List.length_map, List.length_map, List.length_map, List.length_map]; show _ + 1 + _ + 1 ≤ sizeLine; omega, fun l9 hl9 => ?_⟩
      have sT := (s3.trans s38).trans ((s9.trans sl7).trans sl8)
      refine ⟨l9, _, rfl, ?_, sT.trans (Same.new hl9)⟩
      have e9 : ks.map kindW ++ ((List.zipWith deedR ds brs).take (i + 1)).flatten = pre ++ (deedW ds[i] :: (brs[i] ++ [[("end" : Str)]])) := by
        rw [take_snoc hzw, ezw, List.flatten_append, ← List.append_assoc, hpre]
        show pre ++ (deedR ds[i] brs[i] ++ []) = _
        rw [List.append_nil]
        rfl
      rw [upd_same, e9]
      simp only [List.map_cons, List.map_append, List.map_nil, jn_one, List.append_assoc, List.cons_append, List.nil_append]
    · rintro σ H3 ⟨l, v2, rfl, hl3', s3⟩
      rw [List.take_of_length_le (by rw [List.length_zipWith]; omega)] at hl3'
      obtain ⟨c, hc, sb⟩ := G.rc
      have rl := (sb_ok 3 _ _ _ sb).1
      generalize hpre : ks.map kindW ++ (List.zipWith deedR ds brs).flatten = pre at hl3'
      have prl : pre.length ≤ 407 := by rw [← hpre, List.length_append, List.length_map]; omega
      refine ⟨rfl, _, rfl, by show 1 ≤ sizeLine; decide, fun l4 hl4 => ?_⟩
      have sl4 : Same H3 (upd H3 l4 (.lst ([.str "run"]))) := Same.new hl4
      have hl4l4 : (upd H3 l4 (.lst ([.str "run"]))) l4 = some (.lst ([.str "run"])) := upd_same
      generalize upd H3 l4 (.lst ([.str "run"])) = H7 at sl4 hl4l4
      refine ⟨l, l4, _, _, rfl, rfl, sl4 l _ hl3', hl4l4, by rw [List.length_map, List.length_map]; show _ + 1 ≤ sizeLine; omega, fun l5 hl5 => ?_⟩
      have sl5 : Same H7 (upd H7 l5 (.lst ((pre.map jn).map V.str ++ [.str "run"]))) := Same.new hl5
      have hl5l5 : (upd H7 l5 (.lst ((pre.map jn).map V.str ++ [.str "run"]))) l5 = some (.lst ((pre.map jn).map V.str ++ [.str "run"])) := upd_same
      generalize upd H7 l5 (.lst ((pre.map jn).map V.str ++ [.str "run"])) = H8 at sl5 hl5l5
      have s38 := s3.trans (sl4.trans sl5)
      refine ⟨_, rfl, p0, _, _, _, rfl, rfl, SqT.of (s38 p0 _ hp0), atI_nat (j := 2) rfl, rv, run, rr, c, rfl, dr.mono (Same.tups s38), sb, hc, fun l6 H9 _ hl6 s9 => ?_⟩
      refine ⟨l5, l6, _, _, rfl, rfl, s9 l5 _ hl5l5, hl6, by rw [List.length_append, List.length_map, List.length_map, List.length_map, List.length_map]; show _ + 1 + _ ≤ sizeLine; omega, fun l7 hl7 => ?_⟩
      have sl7 : Same H9 (upd H9 l7 (.lst ((pre.map jn).map V.str ++ [.str "run"] ++ (rr.map jn).map V.str))) := Same.new hl7
      have hl7l7 : (upd H9 l7 (.lst ((pre.map jn).map V.str ++ [.str "run"] ++ (rr.map jn).map V.str))) l7 = some (.lst ((pre.map jn).map V.str ++ [.str "run"] ++ (rr.map jn).map V.str)) := upd_same
      generalize upd H9 l7 (.lst ((pre.map jn).map V.str ++ [.str "run"] ++ (rr.map jn).map V.str)) = H10 at sl7 hl7l7
      refine ⟨by show 1 ≤ sizeLine; decide, fun l8 hl8 => ?_⟩
      have sl8 : Same H10 (upd H10 l8 (.lst ([.str "end"]))) := Same.new hl8
      have hl8l8 : (upd H10 l8 (.lst ([.str "end"]))) l8 = some (.lst ([.str "end"])) := upd_same
      generalize upd H10 l8 (.lst ([.str "end"])) = H11 at sl8 hl8l8
      refine ⟨l7, l8, _, _, rfl, rfl, sl8 l7 _ hl7l7, hl8l8, by rw [List.length_append, List.length_append, List.length_map, List.length_map, List.length_map, List.length_map]; show _ + 1 + _ + 1 ≤ sizeLine; omega, fun l9 hl9 => ?_⟩
      have sT := s38.trans ((s9.trans sl7).trans sl8)
      obtain ⟨pl, pk⟩ := prog_ok G
      have el : ((pre.map jn).map V.str ++ [.str "run"] ++ (rr.map jn).map V.str ++ [.str "end"] : List V) = ((progR ks ds brs rr).map jn).map V.str := by
        unfold progR runR
        rw [hpre]
        simp only [List.map_cons, List.map_append, List.map_nil, jn_one, List.append_assoc, List.cons_append, List.nil_append]
      exact ⟨"\n", l9, _, rfl, rfl, .inl (SqL.of (by rw [upd_same, el])), text_fits pl pk, k _ (sT.trans (Same.new hl9))⟩
end
end K25
end
section
set_option autoImplicit false
namespace K25
open PySem PyProof.Rows L2
structure Tls (H : Hp) (tl kl wl : Addr) (ks ws : List Str) : Prop where
  t : H tl = some (.tup [.ref kl, .ref wl])
  k : H kl = some (.lst (ks.map V.str))
  w : H wl = some (.lst (ws.map V.str))
  k1 : 1 ≤ ks.length ∧ ks.length ≤ 7
  w1 : 1 ≤ ws.length ∧ ws.length ≤ 100
  kx : ∀ x ∈ ks, x.length ≤ 100
  wx : ∀ x ∈ ws, x.length ≤ 100
theorem Tls.off {H H' : Hp} {p tl kl wl : Addr} {ks ws : List Str} (h : Tls H tl kl wl ks ws) (hp : Pu H p) (o : Off p H H') : Tls H' tl kl wl ks ws := by
  refine ⟨?_, o kl _ (hp.ne h.k) h.k, o wl _ (hp.ne h.w) h.w, h.k1, h.w1, h.kx, h.wx⟩
  obtain ⟨x1, x2, x3, ep⟩ := hp
  exact o tl _ (ne_of h.t ep (fun z => nomatch z)) h.t
theorem offT {H H' : Hp} {p : Addr} (hp : Pu H p) (o : Off p H H') : Tups H H' := fun c zs e => by
  obtain ⟨x1, x2, x3, ep⟩ := hp
  exact o c _ (ne_of e ep (fun z => nomatch z)) e
theorem ExOk.non (n : Nat) : ExOk (n + 1) .non := .inl rfl
theorem ExOk.int {n : Nat} {i : Int} (h : i ∈ nums) : ExOk (n + 1) (.int i) := .inr (.inl ⟨i, h, rfl⟩)
theorem ExOk.me (n : Nat) : ExOk (n + 1) (.tup [.str "me"]) := .inr (.inr (.inl rfl))
theorem ExOk.nm {n : Nat} {x : Str} (h : x.length ≤ 100) (w : Str) (hw : w = "name" ∨ w = "new") : ExOk (n + 1) (.tup [.str w, .str x]) := .inr (.inr (.inr (.inl ⟨w, x, hw, h, rfl⟩)))
theorem ExOk.get {n : Nat} {e : T} {x : Str} (he : ExOk n e) (h : x.length ≤ 100) : ExOk (n + 1) (.tup [.str "get", e, .str x]) := .inr (.inr (.inr (.inr (.inl ⟨e, x, he, h, rfl⟩))))
theorem ExOk.ask {n : Nat} {e : T} {x : Str} {as : List T} (he : ExOk n e) (h : x.length ≤ 100) (ha : ∀ a ∈ as, ExOk n a) (hl : as.length ≤ 3) : ExOk (n + 1) (.tup [.str "ask", e, .str x, .tup as]) := .inr (.inr (.inr (.inr (.inr (.inl ⟨e, x, as, he, h, ha, hl, rfl⟩)))))
theorem ExOk.up {n : Nat} {x : Str} {as : List T} (h : x.length ≤ 100) (ha : ∀ a ∈ as, ExOk n a) (hl : as.length ≤ 3) : ExOk (n + 1) (.tup [.str "up", .str x, .tup as]) := .inr (.inr (.inr (.inr (.inr (.inr (.inl ⟨x, as, h, ha, hl, rfl⟩))))))
theorem ExOk.bin {n : Nat} {w : Str} {e1 e2 : T} (hw : w ∈ bins) (h1 : ExOk n e1) (h2 : ExOk n e2) : ExOk (n + 1) (.tup [.str w, e1, e2]) := .inr (.inr (.inr (.inr (.inr (.inr (.inr ⟨w, e1, e2, hw, h1, h2, rfl⟩))))))
section
variable {P : Program} {w : World} {K : PySem.W.Frag} {mg : Str → Option Value} {base : Heap} {t : Adr}
def spE (n : Nat) : Sp := fun vs H Q _ => ∃ (p tl kl wl : Addr) (ks ws : List Str), vs = [.ref p, .int n, .ref tl] ∧ Pu H p ∧ Tls H tl kl wl ks ws ∧ 1 ≤ n ∧ ∀ (v : V) (t : T) H', Dp H' t v → ExOk n t → Off p H H' → Pu H' p → Q v H'
theorem ok_e_step (D : Defs K mg t) {n k : Nat} (hk : 1 ≤ k) (hn : n + 1 ≤ 4) (G__law_e : FnOk P w K mg base CX0 k t._law_e.1 t._law_e.2 ["_law_purse_here", "_law_deep", "_law_tools"] (spE n)) : FnOk P w K mg base CX0 (k + 1) t._law_e.1 t._law_e.2 ["_law_purse_here", "_law_deep", "_law_tools"] (spE (n + 1)) := by
  have G__law_take : FnOk P w K mg base CX0 1 t._law_take.1 t._law_take.2 _ spTake := ok_take D
  have hz : sizeLine = 16777216 := sizeLine_eq
  refine D._law_e.fn.ok sc__law_e (fun vs H Q E h => ?_) (fun cdv A outer s H vs Q E hr h => ?_)
  · obtain ⟨p, tl, kl, wl, ks, ws, rfl, _⟩ := h
    rfl
  · obtain ⟨p, tl, kl, wl, ks, ws, rfl, hp, ht, _, q⟩ := h
    obtain ⟨k1a, k1b⟩ := ht.k1
    obtain ⟨w1a, w1b⟩ := ht.w1
    refine ⟨_, (@pss_cons _ _ _ _ _ (ps_asg (pv 2) (pg_tup rfl (pgs_cons (pg_name (i := 3) sc__law_e.nd rfl (Or.inl rfl)) (pgs_cons (pg_name (i := 4) sc__law_e.nd rfl (Or.inl rfl)) pgs_nil))))
      (@pss_cons _ _ _ _ _ (ps_set (i := 5) sc__law_e.nd rfl (Or.inl rfl) (@pe_callF _ _ _ _ _ _ _ _ _ _ _ _ _ D._law_take G__law_take (hr.mono (by omega)) (by rfl) (@pa_cons _ _ _ _ _ (pv 0) (@pa_cons _ _ _ _ _ pe_int pa_nil (by rfl)) (by rfl)) (by decide) (by rfl) (by rfl)))
      (@pss_cons _ _ _ _ _ (ps_set (i := 6) sc__law_e.nd rfl (Or.inl rfl) (@pe_ix _ _ _ _ _ _ _ ix_list (pv 4) (@pe_callF _ _ _ _ _ _ _ _ _ _ _ _ _ D._law_take G__law_take (hr.mono (by omega)) (by rfl) (@pa_cons _ _ _ _ _ (pv 0) (@pa_cons _ _ _ _ _ (@pe_callB _ _ _ _ _ _ _ _ _ call_len_seq (by rfl) D.b_len bt_len (@pa_cons _ _ _ _ _ (pv 4) pa_nil (by rfl)) (by decide) (by decide) (by rfl) (by rfl)) pa_nil (by rfl)) (by rfl)) (by decide) (by rfl) (by rfl)) (fun _ _ => rfl)))
      (@pss_cons _ _ _ _ _ (@ps_if _ _ _ _ _ _ _ _ (PW.pt (pw_or (pt_cmpR op_lt (pv 1) pe_int (nomark _)) (pw_or1 (pt_cmpR op_lt (pv 5) pe_int (nomark _)))))
      (@pss_cons _ _ _ _ _ (ps_set (i := 7) sc__law_e.nd rfl (Or.inl rfl) (@pe_ix _ _ _ _ _ _ _ ix_list (@pe_lst _ _ _ _ (@pa_cons _ _ _ _ _ pe_int (@pa_cons _ _ _ _ _ pe_int (@pa_cons _ _ _ _ _ pe_int (@pa_cons _ _ _ _ _ pe_int pa_nil (by rfl)) (by rfl)) (by rfl)) (by rfl))) (@pe_callF _ _ _ _ _ _ _ _ _ _ _ _ _ D._law_take G__law_take (hr.mono (by omega)) (by rfl) (@pa_cons _ _ _ _ _ (pv 0) (@pa_cons _ _ _ _ _ pe_int pa_nil (by rfl)) (by rfl)) (by decide) (by rfl) (by rfl)) (fun _ _ => rfl)))
      (@pss_cons _ _ _ _ _ (ps_set (i := 8) sc__law_e.nd rfl (Or.inl rfl) (@pe_ix _ _ _ _ _ _ _ ix_list (pv 3) (@pe_callF _ _ _ _ _ _ _ _ _ _ _ _ _ D._law_take G__law_take (hr.mono (by omega)) (by rfl) (@pa_cons _ _ _ _ _ (pv 0) (@pa_cons _ _ _ _ _ (@pe_callB _ _ _ _ _ _ _ _ _ call_len_seq (by rfl) D.b_len bt_len (@pa_cons _ _ _ _ _ (pv 3) pa_nil (by rfl)) (by decide) (by decide) (by rfl) (by rfl)) pa_nil (by rfl)) (by rfl)) (by decide) (by rfl) (by rfl)) (fun _ _ => rfl)))
      (@pss_one _ _ _ (@ps_ret _ _ _ _ (@pe_ix _ _ _ _ _ _ _ ix_list (@pe_lst _ _ _ _ (@pa_cons _ _ _ _ _ pe_non (@pa_cons _ _ _ _ _ (pv 7) (@pa_cons _ _ _ _ _ (@pe_tup _ _ _ _ _ (@pa_cons _ _ _ _ _ pe_str pa_nil (by rfl))) (@pa_cons _ _ _ _ _ (@pe_tup _ _ _ _ _ (@pa_cons _ _ _ _ _ pe_str (@pa_cons _ _ _ _ _ (pv 6) pa_nil (by rfl)) (by rfl))) (@pa_cons _ _ _ _ _ (@pe_tup _ _ _ _ _ (@pa_cons _ _ _ _ _ pe_str (@pa_cons _ _ _ _ _ (pv 8) pa_nil (by rfl)) (by rfl))) pa_nil (by rfl)) (by rfl)) (by rfl)) (by rfl)) (by rfl))) (@pe_callF _ _ _ _ _ _ _ _ _ _ _ _ _ D._law_take G__law_take (hr.mono (by omega)) (by rfl) (@pa_cons _ _ _ _ _ (pv 0) (@pa_cons _ _ _ _ _ pe_int pa_nil (by rfl)) (by rfl)) (by decide) (by rfl) (by rfl)) (fun _ _ => rfl))))))
      pss_nil)
      (@pss_cons _ _ _ _ _ (@ps_if _ _ _ _ _ _ _ _ (PW.pt (pw_or (pt_cmpR op_eq (pv 5) pe_int (nomark _)) (pw_or1 (pt_cmpR op_eq (pv 5) pe_int (nomark _)))))
      (@pss_cons _ _ _ _ _ (ps_set (i := 9) sc__law_e.nd rfl (Or.inl rfl) (pe_callTy call_tuple_of (by rfl) D.b_tuple bt_tuple (@pa_cons _ _ _ _ _ (pe_comp rfl (CompScope.of ["_law_k"] [0, 2, 1] ["_law_k", "_law_purse_here", "_law_tools", "_law_deep"] (defScope (top 21)) ["_law_purse_here", "_law_deep", "_law_tools", "_law_kinds_here", "_law_words_here", "_law_pick", "_law_word_here", "_law_number", "_law_kind", "_law_args", "_law_one"] rfl rfl (by decide +kernel)) ⟨fun _ _ _ _ _ => (pg_name (i := 0) (show List.Nodup [("_law_k" : Str), ("_law_purse_here" : Str), ("_law_tools" : Str), ("_law_deep" : Str)] by decide +kernel) rfl (Or.inl (lookup_relabel_local rfl)) (.inr (lookup_relabel_local rfl))), fun _ _ _ _ _ => pts_nil, fun _ _ _ _ _ => (@pe_callF _ _ _ _ _ _ _ _ _ _ _ _ _ D._law_e G__law_e (hr.mono (by omega)) (by rfl) (@pa_cons _ _ _ _ _ (pv 1) (@pa_cons _ _ _ _ _ (@pe_op _ _ _ _ _ _ _ _ op_sub (pv 3) pe_int) (@pa_cons _ _ _ _ _ (pv 2) pa_nil (by rfl)) (by rfl)) (by rfl)) (by decide) (by rfl) (by rfl))⟩ (pi_range1 rfl D.b_range (@pa_cons _ _ _ _ _ (@pe_callF _ _ _ _ _ _ _ _ _ _ _ _ _ D._law_take G__law_take (hr.mono (by omega)) (by rfl) (@pa_cons _ _ _ _ _ (pv 0) (@pa_cons _ _ _ _ _ pe_int pa_nil (by rfl)) (by rfl)) (by decide) (by rfl) (by rfl)) pa_nil (by rfl)))) pa_nil (by rfl))))
      (@pss_one _ _ _ (@ps_ret _ _ _ _ (@pe_ix _ _ _ _ _ _ _ ix_list (@pe_lst _ _ _ _ (@pa_cons _ _ _ _ _ (@pe_tup _ _ _ _ _ (@pa_cons _ _ _ _ _ pe_str (@pa_cons _ _ _ _ _ (@pe_callF _ _ _ _ _ _ _ _ _ _ _ _ _ D._law_e G__law_e (hr.mono (by omega)) (by rfl) (@pa_cons _ _ _ _ _ (pv 0) (@pa_cons _ _ _ _ _ (@pe_op _ _ _ _ _ _ _ _ op_sub (pv 1) pe_int) (@pa_cons _ _ _ _ _ (pv 2) pa_nil (by rfl)) (by rfl)) (by rfl)) (by decide) (by rfl) (by rfl)) (@pa_cons _ _ _ _ _ (pv 6) (@pa_cons _ _ _ _ _ (pv 9) pa_nil (by rfl)) (by rfl)) (by rfl)) (by rfl))) (@pa_cons _ _ _ _ _ (@pe_tup _ _ _ _ _ (@pa_cons _ _ _ _ _ pe_str (@pa_cons _ _ _ _ _ (pv 6) (@pa_cons _ _ _ _ _ (pv 9) pa_nil (by rfl)) (by rfl)) (by rfl))) pa_nil (by rfl)) (by rfl))) (@pe_op _ _ _ _ _ _ _ _ op_sub (pv 5) pe_int) (fun _ _ => rfl)))))
      pss_nil)
      (@pss_cons _ _ _ _ _ (ps_set (i := 10) sc__law_e.nd rfl (Or.inl rfl) (@pe_callF _ _ _ _ _ _ _ _ _ _ _ _ _ D._law_e G__law_e (hr.mono (by omega)) (by rfl) (@pa_cons _ _ _ _ _ (pv 0) (@pa_cons _ _ _ _ _ (@pe_op _ _ _ _ _ _ _ _ op_sub (pv 1) pe_int) (@pa_cons _ _ _ _ _ (pv 2) pa_nil (by rfl)) (by rfl)) (by rfl)) (by decide) (by rfl) (by rfl)))
      (@pss_cons _ _ _ _ _ (@ps_if _ _ _ _ _ _ _ _ (pt_cmpR op_eq (pv 5) pe_int (nomark _))
      (@pss_one _ _ _ (@ps_ret _ _ _ _ (@pe_tup _ _ _ _ _ (@pa_cons _ _ _ _ _ pe_str (@pa_cons _ _ _ _ _ (pv 10) (@pa_cons _ _ _ _ _ (pv 6) pa_nil (by rfl)) (by rfl)) (by rfl)))))
      pss_nil)
      (@pss_one _ _ _ (@ps_ret _ _ _ _ (@pe_tup _ _ _ _ _ (@pa_cons _ _ _ _ _ (@pe_ix _ _ _ _ _ _ _ ix_list (@pe_lst _ _ _ _ (pa_strs ["plus", "minus", "less", "alike", "or"] (by rfl))) (@pe_op _ _ _ _ _ _ _ _ op_mod (pv 5) pe_int) (fun _ _ => rfl)) (@pa_cons _ _ _ _ _ (pv 10) (@pa_cons _ _ _ _ _ (@pe_callF _ _ _ _ _ _ _ _ _ _ _ _ _ D._law_e G__law_e (hr.mono (by omega)) (by rfl) (@pa_cons _ _ _ _ _ (pv 0) (@pa_cons _ _ _ _ _ (@pe_op _ _ _ _ _ _ _ _ op_sub (pv 1) pe_int) (@pa_cons _ _ _ _ _ (pv 2) pa_nil (by rfl)) (by rfl)) (by rfl)) (by decide) (by rfl) (by rfl)) pa_nil (by rfl)) (by rfl)) (by rfl)))))))))))), ?_⟩
    refine ⟨_, rfl, tl, _, rfl, SqT.of ht.t, rfl, _, _, rfl, _, _, rfl, rfl, ?_⟩
    refine ⟨_, rfl, p, 14, rfl, hp, by decide, by decide, fun pick a1 b1 c1 l1 u1 => ?_⟩
    have oH1 : Off p H (upd H p (.lst [.int a1, .int b1, .int c1])) := (Off.refl p H).trans Off.upd
    have pH1 : Pu (upd H p (.lst [.int a1, .int b1, .int c1])) p := Pu.upd
    generalize upd H p (.lst [.int a1, .int b1, .int c1]) = H1 at oH1 pH1
    have t1 := ht.off hp oH1
    refine ⟨_, rfl, _, rfl, _, rfl, wl, _, rfl, .inl (SqL.of t1.w), p, _, rfl, pH1, by rw [List.length_map]; omega, by rw [List.length_map]; omega, fun r2 a2 b2 c2 l2 u2 => ?_⟩
    rw [List.length_map] at u2
    obtain ⟨x, hx, hxm, _⟩ := atI_strs (ns := ws) l2 u2
    have hx100 := ht.wx x hxm
    have oH2 : Off p H (upd H1 p (.lst [.int a2, .int b2, .int c2])) := oH1.trans Off.upd
    have pH2 : Pu (upd H1 p (.lst [.int a2, .int b2, .int c2])) p := Pu.upd
    generalize upd H1 p (.lst [.int a2, .int b2, .int c2]) = H2 at oH2 pH2
    have t2 := ht.off hp oH2
    refine ⟨wl, _, _, _, rfl, rfl, SqL.of t2.w, hx, ?_⟩
    by_cases hleaf : (n : Int) + 1 < 2 ∨ pick < 4
    · apply by_rest (fun H' => H2 = H')
      case use =>
        intro rest
        rcases hleaf with hd | hd
        · refine ⟨_, rfl, _, _, rfl, rfl, _, rfl, itePos (by show decide (((n + 1 : Nat) : Int) < 2) = true; exact decide_eq_true (by omega)) (iteT ?_)⟩
          exact rest H2 rfl
        · refine ⟨_, rfl, _, _, rfl, rfl, _, rfl, ite2 (fun _ => iteT ?_) (fun _ => ?_)⟩
          · exact rest H2 rfl
          · refine ⟨_, rfl, _, _, rfl, rfl, _, rfl, itePos (decide_eq_true hd) ?_⟩
            exact rest H2 rfl
      case rest =>
      rintro _ rfl
      refine ⟨by show 4 ≤ sizeLine; decide, fun m hm => ?_⟩
      have sm : Same H2 (upd H2 m (.lst [.int 0, .int 1, .int 7, .int 999999999])) := Same.new hm
      have hmm : (upd H2 m (.lst [.int 0, .int 1, .int 7, .int 999999999])) m = some (.lst [.int 0, .int 1, .int 7, .int 999999999]) := upd_same
      generalize upd H2 m (.lst [.int 0, .int 1, .int 7, .int 999999999]) = H3 at sm hmm
      have pH3 : Pu H3 p := pH2.same sm
      have mp : m ≠ p := (pH2.neN hm).symm
      refine ⟨_, rfl, p, 4, rfl, pH3, by decide, by decide, fun r4 a4 b4 c4 l4 u4 => ?_⟩
      have oH3 : Off p H H3 := oH2.trans sm.off
      have hm4 : (upd H3 p (.lst [.int a4, .int b4, .int c4])) m = some (.lst [.int 0, .int 1, .int 7, .int 999999999]) := by rw [upd_ne mp]; exact hmm
      have oH4 : Off p H (upd H3 p (.lst [.int a4, .int b4, .int c4])) := oH3.trans Off.upd
      have pH4 : Pu (upd H3 p (.lst [.int a4, .int b4, .int c4])) p := Pu.upd
      generalize upd H3 p (.lst [.int a4, .int b4, .int c4]) = H4 at oH4 pH4 hm4
      obtain ⟨nu, hnu, nuM⟩ : ∃ nu : Int, atI [V.int 0, V.int 1, V.int 7, V.int 999999999] r4 = some (.int nu) ∧ nu ∈ nums := by
        rcases (by omega : r4 = 0 ∨ r4 = 1 ∨ r4 = 2 ∨ r4 = 3) with rfl | rfl | rfl | rfl
        · exact ⟨_, atI_nat (j := 0) rfl, by decide +kernel⟩
        · exact ⟨_, atI_nat (j := 1) rfl, by decide +kernel⟩
        · exact ⟨_, atI_nat (j := 2) rfl, by decide +kernel⟩
        · exact ⟨_, atI_nat (j := 3) rfl, by decide +kernel⟩
      refine ⟨m, _, _, _, rfl, rfl, SqL.of hm4, hnu, ?_⟩
      have t4 := ht.off hp oH4
      refine ⟨_, rfl, _, rfl, _, rfl, kl, _, rfl, .inl (SqL.of t4.k), p, _, rfl, pH4, by rw [List.length_map]; omega, by rw [List.length_map]; omega, fun r5 a5 b5 c5 l5 u5 => ?_⟩
      rw [List.length_map] at u5
      obtain ⟨y, hy, hym, _⟩ := atI_strs (ns := ks) l5 u5
      have hy100 := ht.kx y hym
      have oH5 : Off p H (upd H4 p (.lst [.int a5, .int b5, .int c5])) := oH4.trans Off.upd
      have pH5 : Pu (upd H4 p (.lst [.int a5, .int b5, .int c5])) p := Pu.upd
      generalize upd H4 p (.lst [.int a5, .int b5, .int c5]) = H5 at oH5 pH5
      have t5 := ht.off hp oH5
      refine ⟨kl, _, _, _, rfl, rfl, SqL.of t5.k, hy, ?_⟩
      refine ⟨_, rfl, by show 1 ≤ sizeLine; decide, fun e1 he1 => ?_⟩
      have se1 : Same H5 (upd H5 e1 (.tup [.str "me"])) := Same.new he1
      have he1e1 : (upd H5 e1 (.tup [.str "me"])) e1 = some (.tup [.str "me"]) := upd_same
      generalize upd H5 e1 (.tup [.str "me"]) = H6 at se1 he1e1
      refine ⟨_, rfl, by show 2 ≤ sizeLine; decide, fun e2 he2 => ?_⟩
      have se2 : Same H6 (upd H6 e2 (.tup [.str "name", .str x])) := Same.new he2
      have he2e2 : (upd H6 e2 (.tup [.str "name", .str x])) e2 = some (.tup [.str "name", .str x]) := upd_same
      generalize upd H6 e2 (.tup [.str "name", .str x]) = H7 at se2 he2e2
      refine ⟨_, rfl, by show 2 ≤ sizeLine; decide, fun e3 he3 => ?_⟩
      have se3 : Same H7 (upd H7 e3 (.tup [.str "new", .str y])) := Same.new he3
      have he3e3 : (upd H7 e3 (.tup [.str "new", .str y])) e3 = some (.tup [.str "new", .str y]) := upd_same
      generalize upd H7 e3 (.tup [.str "new", .str y]) = H8 at se3 he3e3
      refine ⟨by show 5 ≤ sizeLine; decide, fun m5 hm5 => ?_⟩
      have sm5 : Same H8 (upd H8 m5 (.lst [.non, .int nu, .ref e1, .ref e2, .ref e3])) := Same.new hm5
      have hm5m5 : (upd H8 m5 (.lst [.non, .int nu, .ref e1, .ref e2, .ref e3])) m5 = some (.lst [.non, .int nu, .ref e1, .ref e2, .ref e3]) := upd_same
      generalize upd H8 m5 (.lst [.non, .int nu, .ref e1, .ref e2, .ref e3]) = H9 at sm5 hm5m5
      have s59 := ((se1.trans se2).trans se3).trans sm5
      have pH9 := pH5.same s59
      have m5p : m5 ≠ p := (((pH5.same se1).same (se2.trans se3)).neN hm5).symm
      refine ⟨_, rfl, p, 5, rfl, pH9, by decide, by decide, fun r6 a6 b6 c6 l6 u6 => ?_⟩
      have hm6 : (upd H9 p (.lst [.int a6, .int b6, .int c6])) m5 = some (.lst [.non, .int nu, .ref e1, .ref e2, .ref e3]) := by rw [upd_ne m5p]; exact hm5m5
      have tu : Tups H9 (upd H9 p (.lst [.int a6, .int b6, .int c6])) := offT pH9 Off.upd
      have oF : Off p H (upd H9 p (.lst [.int a6, .int b6, .int c6])) := (oH5.trans s59.off).trans Off.upd
      have pF : Pu (upd H9 p (.lst [.int a6, .int b6, .int c6])) p := Pu.upd
      generalize upd H9 p (.lst [.int a6, .int b6, .int c6]) = HF at hm6 tu oF pF
      obtain ⟨v, tt, hv, dv, ev⟩ : ∃ (v : V) (tt : T), atI [V.non, V.int nu, V.ref e1, V.ref e2, V.ref e3] r6 = some v ∧ Dp HF tt v ∧ ExOk (n + 1) tt := by
        rcases (by omega : r6 = 0 ∨ r6 = 1 ∨ r6 = 2 ∨ r6 = 3 ∨ r6 = 4) with rfl | rfl | rfl | rfl | rfl
        · exact ⟨_, .non, atI_nat (j := 0) rfl, by rw [Dp], ExOk.non n⟩
        · exact ⟨_, .int nu, atI_nat (j := 1) rfl, L2.Dp.int nu, ExOk.int nuM⟩
        · exact ⟨_, _, atI_nat (j := 2) rfl, L2.Dp.tup (tu e1 _ (((se2.trans se3).trans sm5) e1 _ he1e1)) (.cons (L2.Dp.str _) .nil), ExOk.me n⟩
        · exact ⟨_, _, atI_nat (j := 3) rfl, L2.Dp.tup (tu e2 _ ((se3.trans sm5) e2 _ he2e2)) (.cons (L2.Dp.str _) (.cons (L2.Dp.str _) .nil)), ExOk.nm hx100 _ (.inl rfl)⟩
        · exact ⟨_, _, atI_nat (j := 4) rfl, L2.Dp.tup (tu e3 _ (sm5 e3 _ he3e3)) (.cons (L2.Dp.str _) (.cons (L2.Dp.str _) .nil)), ExOk.nm hy100 _ (.inr rfl)⟩
      exact ⟨m5, _, _, _, rfl, rfl, SqL.of hm6, hv, q v tt HF dv ev oF pF⟩
    · have hd2 : ¬ ((n : Int) + 1 < 2) := fun z => hleaf (.inl z)
      have hp4 : ¬ pick < 4 := fun z => hleaf (.inr z)
      have hn1 : 1 ≤ n := by omega
      have edeep : ((n + 1 : Nat) : Int) - 1 = (n : Int) := by omega
      refine ⟨_, rfl, _, _, rfl, rfl, _, rfl, iteNeg (by show ¬ decide (((n + 1 : Nat) : Int) < 2) = true; rw [decide_eq_false (by omega)]; exact Bool.false_ne_true) ?_⟩
      refine ⟨_, rfl, _, _, rfl, rfl, _, rfl, iteNeg (by rw [decide_eq_false hp4]; exact Bool.false_ne_true) ?_⟩
      by_cases h56 : pick = 5 ∨ pick = 6
      · apply by_rest (fun H' => H2 = H')
        case use =>
          intro rest
          rcases h56 with h5 | h5
          · refine ⟨_, rfl, rfl, _, rfl, itePos (by rw [h5]; exact decide_eq_true rfl) (iteT ?_)⟩
            exact rest H2 rfl
          · refine ⟨_, rfl, rfl, _, rfl, iteNeg (by rw [h5]; simp) ?_⟩
            refine ⟨_, rfl, rfl, _, rfl, itePos (by rw [h5]; exact decide_eq_true rfl) ?_⟩
            exact rest H2 rfl
        case rest =>
        rintro _ rfl
        refine ⟨_, rfl, p, 4, rfl, pH2, by decide, by decide, fun m a3 b3 c3 l3 u3 => ⟨m, rfl, by omega, by omega, fun D1 hD1 => ?_⟩⟩
        have oH3 : Off p H (upd H2 p (.lst [.int a3, .int b3, .int c3])) := oH2.trans Off.upd
        have pH3 : Pu (upd H2 p (.lst [.int a3, .int b3, .int c3])) p := Pu.upd
        generalize upd H2 p (.lst [.int a3, .int b3, .int c3]) = H3 at oH3 pH3 hD1
        have t3 := ht.off hp oH3
        have pD : p ≠ D1 := pH3.neN hD1
        have D1H : H D1 = none := by
          cases e : H D1 with
          | none => rfl
          | some o => rw [oH3 D1 o pD.symm e] at hD1; cases hD1
        refine comp_by (n := m.toNat) (fun i ys H5 => ∃ ts : List T, DpL H5 ts ys ∧ ts.length = i ∧ (∀ a ∈ ts, ExOk n a) ∧ H5 D1 = some (.lst ys) ∧ Off p H H5 ∧ Pu H5 p)
          ⟨[], .nil, rfl, by simp, upd_same, oH3.trans (Off.new hD1), pH3.upd_ne pD⟩ ?_ ?_
        rotate_left
        · rintro i ys H5 hi ⟨ts, dl, hl, hex, hD5, o5, p5⟩
          refine ⟨hi, ?_⟩
          rintro v H6 ⟨rfl, rfl⟩ σo ho
          obtain ⟨oo, rfl⟩ := own1 ho
          refine ⟨⟨[_], rfl, rfl⟩, yes_by ⟨_, rfl, _, rfl, _, _, rfl, rfl, _, rfl, p, tl, kl, wl, ks, ws, by show [V.ref p, V.int (((n + 1 : Nat) : Int) - 1), V.ref tl] = _; rw [edeep], p5, ht.off hp o5, hn1, fun v tt H7 dv ev o7 p7 => ?_⟩⟩
          have yl := dl.length
          have hD7 := o7 D1 _ pD.symm hD5
          have tu : Tups H7 (upd H7 D1 (.lst (ys ++ [v]))) := fun c zs e => by
            rw [upd_ne (ne_of e hD7 (fun z => nomatch z))]
            exact e
          refine ⟨by omega, hD7, less_by hi ⟨ts ++ [tt], (dl.mono ((offT p5 o7).trans tu)).append (.cons (dv.mono tu) .nil), by rw [List.length_append, hl]; rfl, fun a ha => ?_, upd_same, fun b o hb e => ?_, p7.upd_ne pD⟩⟩
          · rcases List.mem_append.mp ha with h | h
            · exact hex a h
            · rw [List.mem_singleton.mp h]
              exact ev
          · rw [upd_ne (ne_of_none e D1H)]
            exact o7 b o hb (o5 b o hb e)
        rintro ys H5 ⟨as, dl, hl, hA, hD5, o5, p5⟩
        refine ⟨Nat.le_refl _, D1, _, rfl, .inl ⟨SqL.of hD5, fun qa hqa => ?_⟩⟩
        have sqa : Same H5 (upd H5 qa (.tup ys)) := Same.new hqa
        have hqaqa : (upd H5 qa (.tup ys)) qa = some (.tup ys) := upd_same
        generalize upd H5 qa (.tup ys) = H6 at sqa hqaqa
        have o6 : Off p H H6 := o5.trans sqa.off
        have p6 : Pu H6 p := p5.same sqa
        refine ⟨_, rfl, _, rfl, _, _, rfl, rfl, _, rfl, p, tl, kl, wl, ks, ws, by show [V.ref p, V.int (((n + 1 : Nat) : Int) - 1), V.ref tl] = _; rw [edeep], p6, ht.off hp o6, hn1, fun v tt H7 dv ev o7 p7 => ?_⟩
        have tu67 := offT p6 o7
        refine ⟨_, rfl, _, rfl, by show 4 ≤ sizeLine; decide, fun q1 hq1 => ?_⟩
        have sq1 : Same H7 (upd H7 q1 (.tup [.str "ask", v, .str x, .ref qa])) := Same.new hq1
        have hq1q1 : (upd H7 q1 (.tup [.str "ask", v, .str x, .ref qa])) q1 = some (.tup [.str "ask", v, .str x, .ref qa]) := upd_same
        generalize upd H7 q1 (.tup [.str "ask", v, .str x, .ref qa]) = H8 at sq1 hq1q1
        refine ⟨_, rfl, _, rfl, by show 3 ≤ sizeLine; decide, fun q2 hq2 => ?_⟩
        have sq2 : Same H8 (upd H8 q2 (.tup [.str "up", .str x, .ref qa])) := Same.new hq2
        have hq2q2 : (upd H8 q2 (.tup [.str "up", .str x, .ref qa])) q2 = some (.tup [.str "up", .str x, .ref qa]) := upd_same
        generalize upd H8 q2 (.tup [.str "up", .str x, .ref qa]) = H9 at sq2 hq2q2
        refine ⟨by show 2 ≤ sizeLine; decide, fun m2 hm2 => ?_⟩
        have sm2 : Same H9 (upd H9 m2 (.lst [.ref q1, .ref q2])) := Same.new hm2
        have hm2m2 : (upd H9 m2 (.lst [.ref q1, .ref q2])) m2 = some (.lst [.ref q1, .ref q2]) := upd_same
        generalize upd H9 m2 (.lst [.ref q1, .ref q2]) = HA at sm2 hm2m2
        have s7A := (sq1.trans sq2).trans sm2
        have dA : DpL HA as ys := dl.mono ((Same.tups sqa).trans (tu67.trans (Same.tups s7A)))
        have hqaA := s7A qa _ (tu67 qa _ hqaqa)
        have al3 : as.length ≤ 3 := by omega
        obtain ⟨vr, tr, hvr, dvr, evr⟩ : ∃ (vr : V) (tr : T), atI [V.ref q1, V.ref q2] (pick - 5) = some vr ∧ Dp HA tr vr ∧ ExOk (n + 1) tr := by
          rcases h56 with rfl | rfl
          · exact ⟨_, _, atI_nat (j := 0) rfl, L2.Dp.tup ((sq2.trans sm2) q1 _ hq1q1) (.cons (L2.Dp.str _) (.cons (dv.mono (Same.tups s7A)) (.cons (L2.Dp.str _) (.cons (L2.Dp.tup hqaA dA) .nil)))), ExOk.ask ev hx100 hA al3⟩
          · exact ⟨_, _, atI_nat (j := 1) rfl, L2.Dp.tup (sm2 q2 _ hq2q2) (.cons (L2.Dp.str _) (.cons (L2.Dp.str _) (.cons (L2.Dp.tup hqaA dA) .nil))), ExOk.up hx100 hA al3⟩
        exact ⟨_, rfl, _, _, rfl, rfl, m2, _, _, _, rfl, rfl, SqL.of hm2m2, hvr, q vr tr HA dvr evr ((o6.trans o7).trans s7A.off) (p7.same s7A)⟩
      · have n5 : ¬ pick = 5 := fun z => h56 (.inl z)
        have n6 : ¬ pick = 6 := fun z => h56 (.inr z)
        refine ⟨_, rfl, rfl, _, rfl, iteNeg (by rw [decide_eq_false (by intro z; injection z with z; exact n5 z)]; exact Bool.false_ne_true) ?_⟩
        refine ⟨_, rfl, rfl, _, rfl, iteNeg (by rw [decide_eq_false (by intro z; injection z with z; exact n6 z)]; exact Bool.false_ne_true) ?_⟩
        refine ⟨_, rfl, _, rfl, _, _, rfl, rfl, _, rfl, p, tl, kl, wl, ks, ws, by show [V.ref p, V.int (((n + 1 : Nat) : Int) - 1), V.ref tl] = _; rw [edeep], pH2, t2, hn1, fun v tt H3 dv ev o3 p3 => ?_⟩
        have oH3 : Off p H H3 := oH2.trans o3
        by_cases h4 : pick = 4
        · subst h4
          refine ⟨_, rfl, rfl, _, rfl, itePos (decide_eq_true rfl) ?_⟩
          refine ⟨_, rfl, _, rfl, by show 3 ≤ sizeLine; decide, fun q1 hq1 => ?_⟩
          exact q _ _ _ (L2.Dp.tup upd_same (.cons (L2.Dp.str _) (.cons (dv.mono (Same.tups (Same.new hq1))) (.cons (L2.Dp.str _) .nil)))) (ExOk.get ev hx100) (oH3.trans (Off.new hq1)) (p3.upd_ne (p3.neN hq1))
        · refine ⟨_, rfl, rfl, _, rfl, iteNeg (by rw [decide_eq_false (by intro z; injection z with z; exact h4 z)]; exact Bool.false_ne_true) ?_⟩
          refine ⟨by show 5 ≤ sizeLine; decide, fun m hm => ?_⟩
          have sm : Same H3 (upd H3 m (.lst (bins.map V.str))) := Same.new hm
          have hmm : (upd H3 m (.lst (bins.map V.str))) m = some (.lst (bins.map V.str)) := upd_same
          obtain ⟨wd, hwd, hwm, _⟩ := atI_strs (ns := bins) (i := pick % 5) (by omega) (by show pick % 5 < 5; omega)
          refine ⟨_, rfl, _, _, rfl, rfl, (show (0 : Int) < 5 by decide), m, _, _, _, rfl, rfl, SqL.of hmm, hwd, ?_⟩
          have p4 := p3.same sm
          refine ⟨_, rfl, _, rfl, _, rfl, _, _, rfl, rfl, _, rfl, p, tl, kl, wl, ks, ws, by show [V.ref p, V.int (((n + 1 : Nat) : Int) - 1), V.ref tl] = _; rw [edeep], p4, ht.off hp (oH3.trans sm.off), hn1, fun v2 t2' H4 dv2 ev2 o4 p4' => ?_⟩
          refine ⟨by show 3 ≤ sizeLine; decide, fun q1 hq1 => ?_⟩
          have d1 := dv.mono ((Same.tups sm).trans ((offT p4 o4).trans (Same.tups (Same.new (o := .tup [.str wd, v, v2]) hq1))))
          exact q _ _ _ (L2.Dp.tup upd_same (.cons (L2.Dp.str _) (.cons d1 (.cons (dv2.mono (Same.tups (Same.new hq1))) .nil)))) (ExOk.bin hwm ev ev2) (((oH3.trans sm.off).trans o4).trans (Off.new hq1)) (p4'.upd_ne (p4'.neN hq1))
theorem ok_e (D : Defs K mg t) : ∀ n, n ≤ 4 → FnOk P w K mg base CX0 (n + 1) t._law_e.1 t._law_e.2 ["_law_purse_here", "_law_deep", "_law_tools"] (spE n)
  | 0, _ => by
    have h0 : FnOk P w K mg base CX0 0 t._law_e.1 t._law_e.2 ["_law_purse_here", "_law_deep", "_law_tools"] (fun _ _ _ _ => False) := fn_no fun _ _ _ _ h => h
    exact D._law_e.fn.ok sc__law_e (fun vs H Q E ⟨_, _, _, _, _, _, _, _, _, h, _⟩ => absurd h (by omega)) (fun cdv A outer s H vs Q E hr ⟨_, _, _, _, _, _, _, _, _, h, _⟩ => absurd h (by omega))
  | n + 1, hn => ok_e_step D (by omega) hn (ok_e D n (by omega))
end
end K25
end
section
set_option autoImplicit false
namespace K25
open PySem PyProof.Rows L2
def Off2 (p r : Addr) (H H' : Hp) : Prop := ∀ b o, b ≠ p → b ≠ r → H b = some o → H' b = some o
theorem Off2.refl (p r : Addr) (H : Hp) : Off2 p r H H := fun _ _ _ _ e => e
theorem Off2.trans {p r : Addr} {H H1 H2 : Hp} (a : Off2 p r H H1) (b : Off2 p r H1 H2) : Off2 p r H H2 := fun c o n m e => b c o n m (a c o n m e)
theorem Off2.updP {p r : Addr} {H : Hp} {o : HO} : Off2 p r H (upd H p o) := fun c u n _ e => by rw [upd_ne n]; exact e
theorem Off2.updR {p r : Addr} {H : Hp} {o : HO} : Off2 p r H (upd H r o) := fun c u _ n e => by rw [upd_ne n]; exact e
theorem Off2.off {p r : Addr} {H H' : Hp} (h : Off p H H') : Off2 p r H H' := fun b o n _ e => h b o n e
theorem Off2.same {p r : Addr} {H H' : Hp} (h : Same H H') : Off2 p r H H' := fun b o _ _ e => h b o e
def Rm (H : Hp) (r : Addr) (n : Int) : Prop := H r = some (.lst [.int n])
theorem Rm.ne {H : Hp} {p r : Addr} {n : Int} (h : Rm H r n) (hp : Pu H p) : r ≠ p := by
  obtain ⟨a, b, c, e⟩ := hp
  exact ne_of h e (fun z => by injection z with z; injection z with _ z; injection z)
theorem off2T {H H' : Hp} {p r : Addr} {n : Int} (hp : Pu H p) (hr : Rm H r n) (o : Off2 p r H H') : Tups H H' := fun c zs e => by
  obtain ⟨x1, x2, x3, ep⟩ := hp
  exact o c _ (ne_of e ep (fun z => nomatch z)) (ne_of e hr (fun z => nomatch z)) e
theorem Tls.off2 {H H' : Hp} {p r tl kl wl : Addr} {n : Int} {ks ws : List Str} (h : Tls H tl kl wl ks ws) (hp : Pu H p) (hr : Rm H r n) (o : Off2 p r H H') : Tls H' tl kl wl ks ws := by
  have ne : ∀ {l : Addr} {xs : List Str}, H l = some (.lst (xs.map V.str)) → l ≠ r := fun {l xs} e => ne_of e hr (fun z => by
    injection z with z
    cases xs with
    | nil => cases z
    | cons x xs =>
      injection z with z _
      cases z)
  exact ⟨off2T hp hr o tl _ h.t, o kl _ (hp.ne h.k) (ne h.k) h.k, o wl _ (hp.ne h.w) (ne h.w) h.w, h.k1, h.w1, h.kx, h.wx⟩
theorem ExOk.succ : ∀ {n : Nat} {t : T}, ExOk n t → ExOk (n + 1) t
  | 0, _, h => h.elim
  | n + 1, t, h => by
    rcases h with rfl | ⟨i, hi, rfl⟩ | rfl | ⟨w, x, hw, hx, rfl⟩ | ⟨e, x, he, hx, rfl⟩ | ⟨e, x, as, he, hx, ha, hl, rfl⟩ | ⟨x, as, hx, ha, hl, rfl⟩ | ⟨w, e1, e2, hw, h1, h2, rfl⟩
    · exact ExOk.non _
    · exact ExOk.int hi
    · exact ExOk.me _
    · exact ExOk.nm hx w hw
    · exact ExOk.get (ExOk.succ he) hx
    · exact ExOk.ask (ExOk.succ he) hx (fun a h => ExOk.succ (ha a h)) hl
    · exact ExOk.up hx (fun a h => ExOk.succ (ha a h)) hl
    · exact ExOk.bin hw (ExOk.succ h1) (ExOk.succ h2)
theorem ExOk.mono {n m : Nat} {t : T} (h : ExOk n t) (hm : n ≤ m) : ExOk m t := by
  induction hm with
  | refl => exact h
  | step _ ih => exact ih.succ
theorem fn_ex {P : Program} {w : World} {K : PySem.W.Frag} {mg : Str → Option Value} {base : Heap} {k : Nat} {f : Addr} {fd : FuncData} {ps : List Str} {sp : Nat → Sp} (F : ∀ n, FnOk P w K mg base CX0 k f fd ps (sp n)) : FnOk P w K mg base CX0 k f fd ps (fun vs H Q E => ∃ n, sp n vs H Q E) :=
  ⟨fun vs H Q E h => by obtain ⟨n, h⟩ := h; exact (F n).len vs H Q E h, fun A outer s H args us vs Q E hr he hb hv hs => by obtain ⟨n, hs⟩ := hs; exact (F n).run A outer s H args us vs Q E hr he hb hv hs⟩
section
variable {P : Program} {w : World} {K : PySem.W.Frag} {mg : Str → Option Value} {base : Heap} {t : Adr}
def spE4 : Sp := fun vs H Q _ => ∃ (p tl kl wl : Addr) (ks ws : List Str) (d : Int), vs = [.ref p, .int d, .ref tl] ∧ Pu H p ∧ Tls H tl kl wl ks ws ∧ 1 ≤ d ∧ d ≤ 4 ∧ ∀ (v : V) (t : T) H', Dp H' t v → ExOk 4 t → Off p H H' → Pu H' p → Q v H'
theorem ok_e4 (D : Defs K mg t) : FnOk P w K mg base CX0 5 t._law_e.1 t._law_e.2 ["_law_purse_here", "_law_deep", "_law_tools"] spE4 := by
  have F : ∀ n : Nat, FnOk P w K mg base CX0 5 t._law_e.1 t._law_e.2 ["_law_purse_here", "_law_deep", "_law_tools"] (fun vs H Q E => n ≤ 4 ∧ spE n vs H Q E) := fun n => by
    by_cases hn : n ≤ 4
    · exact ((ok_e D n hn).mono (by omega)).imp fun vs H Q E h => h.2
    · exact (fn_no fun vs H Q E h => hn h.1).mono (by omega)
  refine (fn_ex F).imp fun vs H Q E ⟨p, tl, kl, wl, ks, ws, d, e, hp, ht, d1, d4, q⟩ => ?_
  refine ⟨d.toNat, by omega, p, tl, kl, wl, ks, ws, by rw [e, show ((d.toNat : Nat) : Int) = d by omega], hp, ht, by omega, fun v t H' dv ev o p' => q v t H' dv (ev.mono (by omega)) o p'⟩
def spS (B : RowsP) (m : Nat) (n : Nat) : Sp := fun vs H Q _ => ∃ (p rm tl kl wl : Addr) (ks ws : List Str) (r : Int), vs = [.ref p, .int n, .ref rm, .ref tl] ∧ Pu H p ∧ Tls H tl kl wl ks ws ∧ Rm H rm r ∧ 0 ≤ r ∧ r ≤ 16 ∧ ∀ (v : V) (t : T) (rows : List (List Str)) (c : Nat) (r' : Int) H', Dp H' t v → B t rows c → (c : Int) ≤ m + (r - r') → 0 ≤ r' → r' ≤ r → Rm H' rm r' → Off2 p rm H H' → Pu H' p → Q v H'
theorem ok_s (D : Defs K mg t) {n j k : Nat} (hj : j ≤ k) (hk : 5 ≤ k) (G__law_b : FnOk P w K mg base CX0 j t._law_b.1 t._law_b.2 ["_law_purse_here", "_law_deep", "_law_room", "_law_tools"] (fun vs H Q E => ∃ m, n = m + 1 ∧ spS (SB n) 0 m vs H Q E)) : FnOk P w K mg base CX0 (k + 1) t._law_s.1 t._law_s.2 ["_law_purse_here", "_law_deep", "_law_room", "_law_tools"] (spS (StN (SB n)) 1 n) := by
  have G__law_take : FnOk P w K mg base CX0 1 t._law_take.1 t._law_take.2 _ spTake := ok_take D
  have G__law_some : FnOk P w K mg base CX0 2 t._law_some.1 t._law_some.2 _ spSome := ok_some D
  have G__law_e : FnOk P w K mg base CX0 5 t._law_e.1 t._law_e.2 _ spE4 := ok_e4 D
  have hz : sizeLine = 16777216 := sizeLine_eq
  refine D._law_s.fn.ok sc__law_s (fun vs H Q E h => ?_) (fun cdv A outer s H vs Q E hr h => ?_)
  · obtain ⟨p, rm, tl, kl, wl, ks, ws, r, rfl, _⟩ := h
    rfl
  · obtain ⟨p, rm, tl, kl, wl, ks, ws, r, rfl, hp, ht, hrm, r0, r16, q⟩ := h
    obtain ⟨k1a, k1b⟩ := ht.k1
    obtain ⟨w1a, w1b⟩ := ht.w1
    have rmp := hrm.ne hp
    refine ⟨_, (@pss_cons _ _ _ _ _ (ps_asg (pv 3) (pg_tup rfl (pgs_cons (pg_name (i := 4) sc__law_s.nd rfl (Or.inl rfl)) (pgs_cons (pg_name (i := 5) sc__law_s.nd rfl (Or.inl rfl)) pgs_nil))))
      (@pss_cons _ _ _ _ _ (ps_set (i := 6) sc__law_s.nd rfl (Or.inl rfl) (@pe_callF _ _ _ _ _ _ _ _ _ _ _ _ _ D._law_take G__law_take (hr.mono (by omega)) (by rfl) (@pa_cons _ _ _ _ _ (pv 0) (@pa_cons _ _ _ _ _ pe_int pa_nil (by rfl)) (by rfl)) (by decide) (by rfl) (by rfl)))
      (@pss_cons _ _ _ _ _ (ps_set (i := 7) sc__law_s.nd rfl (Or.inl rfl) (@pe_callF _ _ _ _ _ _ _ _ _ _ _ _ _ D._law_e G__law_e (hr.mono (by omega)) (by rfl) (@pa_cons _ _ _ _ _ (pv 0) (@pa_cons _ _ _ _ _ (@pe_op _ _ _ _ _ _ _ _ op_add pe_int (@pe_callF _ _ _ _ _ _ _ _ _ _ _ _ _ D._law_take G__law_take (hr.mono (by omega)) (by rfl) (@pa_cons _ _ _ _ _ (pv 0) (@pa_cons _ _ _ _ _ pe_int pa_nil (by rfl)) (by rfl)) (by decide) (by rfl) (by rfl))) (@pa_cons _ _ _ _ _ (pv 3) pa_nil (by rfl)) (by rfl)) (by rfl)) (by decide) (by rfl) (by rfl)))
      (@pss_cons _ _ _ _ _ (ps_set (i := 8) sc__law_s.nd rfl (Or.inl rfl) (@pe_ix _ _ _ _ _ _ _ ix_list (pv 5) (@pe_callF _ _ _ _ _ _ _ _ _ _ _ _ _ D._law_take G__law_take (hr.mono (by omega)) (by rfl) (@pa_cons _ _ _ _ _ (pv 0) (@pa_cons _ _ _ _ _ (@pe_callB _ _ _ _ _ _ _ _ _ call_len_seq (by rfl) D.b_len bt_len (@pa_cons _ _ _ _ _ (pv 5) pa_nil (by rfl)) (by decide) (by decide) (by rfl) (by rfl)) pa_nil (by rfl)) (by rfl)) (by decide) (by rfl) (by rfl)) (fun _ _ => rfl)))
      (@pss_cons _ _ _ _ _ (@ps_if _ _ _ _ _ _ _ _ (PW.pt (pw_and (pt_cmpR op_lt (pv 6) pe_int (nomark _)) (pw_and1 (pt_cmpR op_gt (pv 1) pe_int (nomark _)))))
      (@pss_cons _ _ _ _ _ (ps_set (i := 9) sc__law_s.nd rfl (Or.inl rfl) (@pe_callF _ _ _ _ _ _ _ _ _ _ _ _ _ D._law_b G__law_b (hr.mono (by omega)) (by rfl) (@pa_cons _ _ _ _ _ (pv 0) (@pa_cons _ _ _ _ _ (@pe_op _ _ _ _ _ _ _ _ op_sub (pv 1) pe_int) (@pa_cons _ _ _ _ _ (pv 2) (@pa_cons _ _ _ _ _ (pv 3) pa_nil (by rfl)) (by rfl)) (by rfl)) (by rfl)) (by decide) (by rfl) (by rfl)))
      (@pss_cons _ _ _ _ _ (ps_set (i := 10) sc__law_s.nd rfl (Or.inl rfl) (@pe_callF _ _ _ _ _ _ _ _ _ _ _ _ _ D._law_b G__law_b (hr.mono (by omega)) (by rfl) (@pa_cons _ _ _ _ _ (pv 0) (@pa_cons _ _ _ _ _ (@pe_op _ _ _ _ _ _ _ _ op_sub (pv 1) pe_int) (@pa_cons _ _ _ _ _ (pv 2) (@pa_cons _ _ _ _ _ (pv 3) pa_nil (by rfl)) (by rfl)) (by rfl)) (by rfl)) (by decide) (by rfl) (by rfl)))
      (@pss_one _ _ _ (@ps_ret _ _ _ _ (@pe_ix _ _ _ _ _ _ _ ix_list (@pe_lst _ _ _ _ (@pa_cons _ _ _ _ _ (@pe_tup _ _ _ _ _ (@pa_cons _ _ _ _ _ pe_str (@pa_cons _ _ _ _ _ (pv 7) (@pa_cons _ _ _ _ _ (pv 9) (@pa_cons _ _ _ _ _ (pv 10) pa_nil (by rfl)) (by rfl)) (by rfl)) (by rfl))) (@pa_cons _ _ _ _ _ (@pe_tup _ _ _ _ _ (@pa_cons _ _ _ _ _ pe_str (@pa_cons _ _ _ _ _ (pv 7) (@pa_cons _ _ _ _ _ (pv 9) pa_nil (by rfl)) (by rfl)) (by rfl))) (@pa_cons _ _ _ _ _ (@pe_tup _ _ _ _ _ (@pa_cons _ _ _ _ _ pe_str (@pa_cons _ _ _ _ _ (pv 7) (@pa_cons _ _ _ _ _ (pv 9) pa_nil (by rfl)) (by rfl)) (by rfl))) (@pa_cons _ _ _ _ _ (@pe_tup _ _ _ _ _ (@pa_cons _ _ _ _ _ pe_str (@pa_cons _ _ _ _ _ (pv 9) (@pa_cons _ _ _ _ _ (pv 8) (@pa_cons _ _ _ _ _ (pv 10) pa_nil (by rfl)) (by rfl)) (by rfl)) (by rfl))) pa_nil (by rfl)) (by rfl)) (by rfl)) (by rfl))) (pv 6) (fun _ _ => rfl))))))
      pss_nil)
      (@pss_cons _ _ _ _ _ (ps_set (i := 11) sc__law_s.nd rfl (Or.inl rfl) (@pe_ix _ _ _ _ _ _ _ ix_list (pv 4) (@pe_callF _ _ _ _ _ _ _ _ _ _ _ _ _ D._law_take G__law_take (hr.mono (by omega)) (by rfl) (@pa_cons _ _ _ _ _ (pv 0) (@pa_cons _ _ _ _ _ (@pe_callB _ _ _ _ _ _ _ _ _ call_len_seq (by rfl) D.b_len bt_len (@pa_cons _ _ _ _ _ (pv 4) pa_nil (by rfl)) (by decide) (by decide) (by rfl) (by rfl)) pa_nil (by rfl)) (by rfl)) (by decide) (by rfl) (by rfl)) (fun _ _ => rfl)))
      (@pss_cons _ _ _ _ _ (ps_set (i := 12) sc__law_s.nd rfl (Or.inl rfl) (@pe_ix _ _ _ _ _ _ _ ix_list (pv 4) (@pe_callF _ _ _ _ _ _ _ _ _ _ _ _ _ D._law_take G__law_take (hr.mono (by omega)) (by rfl) (@pa_cons _ _ _ _ _ (pv 0) (@pa_cons _ _ _ _ _ (@pe_callB _ _ _ _ _ _ _ _ _ call_len_seq (by rfl) D.b_len bt_len (@pa_cons _ _ _ _ _ (pv 4) pa_nil (by rfl)) (by decide) (by decide) (by rfl) (by rfl)) pa_nil (by rfl)) (by rfl)) (by decide) (by rfl) (by rfl)) (fun _ _ => rfl)))
      (@pss_cons _ _ _ _ _ (ps_set (i := 13) sc__law_s.nd rfl (Or.inl rfl) (@pe_callF _ _ _ _ _ _ _ _ _ _ _ _ _ D._law_some G__law_some (hr.mono (by omega)) (by rfl) (@pa_cons _ _ _ _ _ (pv 0) (@pa_cons _ _ _ _ _ (pv 4) (@pa_cons _ _ _ _ _ (@pe_ix _ _ _ _ _ _ _ ix_list (@pe_lst _ _ _ _ (@pa_cons _ _ _ _ _ pe_int (@pa_cons _ _ _ _ _ pe_int pa_nil (by rfl)) (by rfl))) (@pe_callF _ _ _ _ _ _ _ _ _ _ _ _ _ D._law_take G__law_take (hr.mono (by omega)) (by rfl) (@pa_cons _ _ _ _ _ (pv 0) (@pa_cons _ _ _ _ _ pe_int pa_nil (by rfl)) (by rfl)) (by decide) (by rfl) (by rfl)) (fun _ _ => rfl)) pa_nil (by rfl)) (by rfl)) (by rfl)) (by decide) (by rfl) (by rfl)))
      (@pss_cons _ _ _ _ _ (ps_set (i := 14) sc__law_s.nd rfl (Or.inl rfl) (@pe_callF _ _ _ _ _ _ _ _ _ _ _ _ _ D._law_e G__law_e (hr.mono (by omega)) (by rfl) (@pa_cons _ _ _ _ _ (pv 0) (@pa_cons _ _ _ _ _ (@pe_op _ _ _ _ _ _ _ _ op_add pe_int (@pe_callF _ _ _ _ _ _ _ _ _ _ _ _ _ D._law_take G__law_take (hr.mono (by omega)) (by rfl) (@pa_cons _ _ _ _ _ (pv 0) (@pa_cons _ _ _ _ _ pe_int pa_nil (by rfl)) (by rfl)) (by decide) (by rfl) (by rfl))) (@pa_cons _ _ _ _ _ (pv 3) pa_nil (by rfl)) (by rfl)) (by rfl)) (by decide) (by rfl) (by rfl)))
      (@pss_cons _ _ _ _ _ (@ps_if _ _ _ _ _ _ _ _ (pt_cmpR op_gt (@pe_op _ _ _ _ _ _ _ _ op_mod (pv 6) pe_int) pe_int (nomark _))
      (@pss_one _ _ _ (@ps_ret _ _ _ _ (@pe_ix _ _ _ _ _ _ _ ix_list (@pe_lst _ _ _ _ (@pa_cons _ _ _ _ _ (@pe_tup _ _ _ _ _ (@pa_cons _ _ _ _ _ pe_str (@pa_cons _ _ _ _ _ (pv 11) (@pa_cons _ _ _ _ _ (pv 8) (@pa_cons _ _ _ _ _ (pv 12) (@pa_cons _ _ _ _ _ (@pe_ix _ _ _ _ _ _ _ ix_list (pv 5) pe_int (fun _ _ => rfl)) pa_nil (by rfl)) (by rfl)) (by rfl)) (by rfl)) (by rfl))) (@pa_cons _ _ _ _ _ (@pe_tup _ _ _ _ _ (@pa_cons _ _ _ _ _ pe_str (@pa_cons _ _ _ _ _ (pv 11) (@pa_cons _ _ _ _ _ (pv 8) pa_nil (by rfl)) (by rfl)) (by rfl))) (@pa_cons _ _ _ _ _ (@pe_tup _ _ _ _ _ (@pa_cons _ _ _ _ _ pe_str (@pa_cons _ _ _ _ _ (pv 11) (@pa_cons _ _ _ _ _ (pv 13) pa_nil (by rfl)) (by rfl)) (by rfl))) pa_nil (by rfl)) (by rfl)) (by rfl))) (@pe_op _ _ _ _ _ _ _ _ op_sub (@pe_op _ _ _ _ _ _ _ _ op_mod (pv 6) pe_int) pe_int) (fun _ _ => rfl))))
      pss_nil)
      (@pss_cons _ _ _ _ _ (@ps_if _ _ _ _ _ _ _ _ (pt_cmpR op_gt (@pe_op _ _ _ _ _ _ _ _ op_mod (pv 6) pe_int) pe_int (nomark _))
      (@pss_one _ _ _ (@ps_ret _ _ _ _ (@pe_ix _ _ _ _ _ _ _ ix_list (@pe_lst _ _ _ _ (@pa_cons _ _ _ _ _ (@pe_tup _ _ _ _ _ (@pa_cons _ _ _ _ _ pe_str (@pa_cons _ _ _ _ _ (pv 7) (@pa_cons _ _ _ _ _ (pv 8) (@pa_cons _ _ _ _ _ (pv 14) pa_nil (by rfl)) (by rfl)) (by rfl)) (by rfl))) (@pa_cons _ _ _ _ _ (@pe_tup _ _ _ _ _ (@pa_cons _ _ _ _ _ pe_str (@pa_cons _ _ _ _ _ (pv 7) (@pa_cons _ _ _ _ _ (pv 11) pa_nil (by rfl)) (by rfl)) (by rfl))) (@pa_cons _ _ _ _ _ (@pe_tup _ _ _ _ _ (@pa_cons _ _ _ _ _ pe_str (@pa_cons _ _ _ _ _ (pv 14) pa_nil (by rfl)) (by rfl))) pa_nil (by rfl)) (by rfl)) (by rfl))) (@pe_op _ _ _ _ _ _ _ _ op_sub (@pe_op _ _ _ _ _ _ _ _ op_mod (pv 6) pe_int) pe_int) (fun _ _ => rfl))))
      pss_nil)
      (@pss_cons _ _ _ _ _ (@ps_if _ _ _ _ _ _ _ _ (pt_cmpR op_eq (@pe_op _ _ _ _ _ _ _ _ op_mod (pv 6) pe_int) pe_int (nomark _))
      (@pss_one _ _ _ (@ps_ret _ _ _ _ (@pe_tup _ _ _ _ _ (@pa_cons _ _ _ _ _ (@pe_ix _ _ _ _ _ _ _ ix_list (@pe_lst _ _ _ _ (pa_strs ["tell", "do", "give", "throw"] (by rfl))) (@pe_callF _ _ _ _ _ _ _ _ _ _ _ _ _ D._law_take G__law_take (hr.mono (by omega)) (by rfl) (@pa_cons _ _ _ _ _ (pv 0) (@pa_cons _ _ _ _ _ pe_int pa_nil (by rfl)) (by rfl)) (by decide) (by rfl) (by rfl)) (fun _ _ => rfl)) (@pa_cons _ _ _ _ _ (pv 7) pa_nil (by rfl)) (by rfl)))))
      pss_nil)
      (@pss_one _ _ _ (@ps_ret _ _ _ _ (@pe_ix _ _ _ _ _ _ _ ix_list (@pe_lst _ _ _ _ (@pa_cons _ _ _ _ _ (@pe_tup _ _ _ _ _ (@pa_cons _ _ _ _ _ pe_str (@pa_cons _ _ _ _ _ (pv 8) (@pa_cons _ _ _ _ _ (pv 7) pa_nil (by rfl)) (by rfl)) (by rfl))) (@pa_cons _ _ _ _ _ (@pe_tup _ _ _ _ _ (@pa_cons _ _ _ _ _ pe_str (@pa_cons _ _ _ _ _ (pv 7) (@pa_cons _ _ _ _ _ (pv 8) pa_nil (by rfl)) (by rfl)) (by rfl))) (@pa_cons _ _ _ _ _ (@pe_tup _ _ _ _ _ (@pa_cons _ _ _ _ _ pe_str (@pa_cons _ _ _ _ _ (pv 7) pa_nil (by rfl)) (by rfl))) (@pa_cons _ _ _ _ _ (@pe_tup _ _ _ _ _ (@pa_cons _ _ _ _ _ pe_str (@pa_cons _ _ _ _ _ (pv 14) pa_nil (by rfl)) (by rfl))) pa_nil (by rfl)) (by rfl)) (by rfl)) (by rfl))) (@pe_op _ _ _ _ _ _ _ _ op_mod (@pe_op _ _ _ _ _ _ _ _ op_mod (pv 6) pe_int) pe_int) (fun _ _ => rfl)))))))))))))))), ?_⟩
    refine ⟨_, rfl, tl, _, rfl, SqT.of ht.t, rfl, _, _, rfl, _, _, rfl, rfl, ?_⟩
    have oH : Off2 p rm H H := Off2.refl p rm H
    refine ⟨_, rfl, p, 15, rfl, hp, by decide, by decide, fun pick a1 b1 c1 l1 u1 => ?_⟩
    have rH1 : Rm (upd H p (.lst [.int a1, .int b1, .int c1])) rm r := by unfold Rm; rw [upd_ne rmp]; exact hrm
    have oH1 : Off2 p rm H (upd H p (.lst [.int a1, .int b1, .int c1])) := oH.trans Off2.updP
    have pH1 : Pu (upd H p (.lst [.int a1, .int b1, .int c1])) p := Pu.upd
    generalize upd H p (.lst [.int a1, .int b1, .int c1]) = H1 at oH1 pH1 rH1
    refine ⟨_, rfl, _, rfl, p, 4, rfl, pH1, by decide, by decide, fun d2 a2 b2 c2 l2 u2 => ⟨_, _, rfl, rfl, ?_⟩⟩
    have rH2 : Rm (upd H1 p (.lst [.int a2, .int b2, .int c2])) rm r := by unfold Rm; rw [upd_ne rmp]; exact rH1
    have oH2 : Off2 p rm H (upd H1 p (.lst [.int a2, .int b2, .int c2])) := oH1.trans Off2.updP
    have pH2 : Pu (upd H1 p (.lst [.int a2, .int b2, .int c2])) p := Pu.upd
    generalize upd H1 p (.lst [.int a2, .int b2, .int c2]) = H2 at oH2 pH2 rH2
    refine ⟨_, rfl, p, tl, kl, wl, ks, ws, 1 + d2, rfl, pH2, ht.off2 hp hrm oH2, by omega, by omega, fun v tv H3 dv ev o3 pH3 => ?_⟩
    have oH3 : Off2 p rm H H3 := oH2.trans (Off2.off o3)
    have rH3 : Rm H3 rm r := o3 rm _ rmp rH2
    have t3 := ht.off2 hp hrm oH3
    refine ⟨_, rfl, _, rfl, _, rfl, wl, _, rfl, .inl (SqL.of t3.w), p, _, rfl, pH3, by rw [List.length_map]; omega, by rw [List.length_map]; omega, fun i4 a4 b4 c4 l4 u4 => ?_⟩
    rw [List.length_map] at u4
    obtain ⟨x, hx, hxm, _⟩ := atI_strs (ns := ws) l4 u4
    have hx100 := ht.wx x hxm
    have tu4 : Tups H3 (upd H3 p (.lst [.int a4, .int b4, .int c4])) := offT pH3 Off.upd
    have rH4 : Rm (upd H3 p (.lst [.int a4, .int b4, .int c4])) rm r := by unfold Rm; rw [upd_ne rmp]; exact rH3
    have oH4 : Off2 p rm H (upd H3 p (.lst [.int a4, .int b4, .int c4])) := oH3.trans Off2.updP
    have pH4 : Pu (upd H3 p (.lst [.int a4, .int b4, .int c4])) p := Pu.upd
    generalize upd H3 p (.lst [.int a4, .int b4, .int c4]) = H4 at oH4 pH4 rH4 tu4
    have t4 := ht.off2 hp hrm oH4
    have dv4 := dv.mono tu4
    refine ⟨wl, _, _, _, rfl, rfl, SqL.of t4.w, hx, ?_⟩
    by_cases hblk : pick < 4 ∧ (0 : Int) < n
    · obtain ⟨hp4, hn0⟩ := hblk
      obtain ⟨m, rfl⟩ : ∃ m, n = m + 1 := ⟨n - 1, by omega⟩
      have edeep : (((m + 1 : Nat)) : Int) - 1 = (m : Int) := by omega
      refine ⟨_, rfl, _, _, rfl, rfl, _, rfl, itePos (decide_eq_true hp4) ?_⟩
      refine ⟨_, rfl, _, _, rfl, rfl, _, rfl, itePos (decide_eq_true hn0) ?_⟩
      refine ⟨_, rfl, _, rfl, _, _, rfl, rfl, _, rfl, _, rfl, m, rfl, p, rm, tl, kl, wl, ks, ws, r, by show [V.ref p, V.int ((((m + 1 : Nat)) : Int) - 1), V.ref rm, V.ref tl] = _; rw [edeep], pH4, t4, rH4, r0, r16, fun v1 tv1 rows1 c1' r1 H5 dv1 hb1 hc1 r10 r1r rH5 o5 pH5 => ?_⟩
      have oH5 := oH4.trans o5
      have tu5 := off2T pH4 rH4 o5
      refine ⟨_, rfl, _, rfl, _, _, rfl, rfl, _, rfl, _, rfl, m, rfl, p, rm, tl, kl, wl, ks, ws, r1, by show [V.ref p, V.int ((((m + 1 : Nat)) : Int) - 1), V.ref rm, V.ref tl] = _; rw [edeep], pH5, ht.off2 hp hrm oH5, rH5, r10, by omega, fun v2 tv2 rows2 c2' r2 H6 dv2 hb2 hc2 r20 r2r rH6 o6 pH6 => ?_⟩
      have oH6 := oH5.trans o6
      have tu6 := off2T pH5 rH5 o6
      have dv6 := (dv4.mono tu5).mono tu6
      have dv16 := dv1.mono tu6
      refine ⟨_, rfl, _, rfl, _, rfl, by show 4 ≤ sizeLine; decide, fun q1 hq1 => ?_⟩
      have sq1 : Same H6 (upd H6 q1 (.tup [.str "if", v, v1, v2])) := Same.new hq1
      have hq1q1 : (upd H6 q1 (.tup [.str "if", v, v1, v2])) q1 = some (.tup [.str "if", v, v1, v2]) := upd_same
      generalize upd H6 q1 (.tup [.str "if", v, v1, v2]) = H7 at sq1 hq1q1
      refine ⟨_, rfl, _, rfl, by show 3 ≤ sizeLine; decide, fun q2 hq2 => ?_⟩
      have sq2 : Same H7 (upd H7 q2 (.tup [.str "while", v, v1])) := Same.new hq2
      have hq2q2 : (upd H7 q2 (.tup [.str "while", v, v1])) q2 = some (.tup [.str "while", v, v1]) := upd_same
      generalize upd H7 q2 (.tup [.str "while", v, v1]) = H8 at sq2 hq2q2
      refine ⟨_, rfl, _, rfl, by show 3 ≤ sizeLine; decide, fun q3 hq3 => ?_⟩
      have sq3 : Same H8 (upd H8 q3 (.tup [.str "repeat", v, v1])) := Same.new hq3
      have hq3q3 : (upd H8 q3 (.tup [.str "repeat", v, v1])) q3 = some (.tup [.str "repeat", v, v1]) := upd_same
      generalize upd H8 q3 (.tup [.str "repeat", v, v1]) = H9 at sq3 hq3q3
      refine ⟨_, rfl, _, rfl, _, rfl, by show 4 ≤ sizeLine; decide, fun q4 hq4 => ?_⟩
      have sq4 : Same H9 (upd H9 q4 (.tup [.str "try", v1, .str x, v2])) := Same.new hq4
      have hq4q4 : (upd H9 q4 (.tup [.str "try", v1, .str x, v2])) q4 = some (.tup [.str "try", v1, .str x, v2]) := upd_same
      generalize upd H9 q4 (.tup [.str "try", v1, .str x, v2]) = HA at sq4 hq4q4
      refine ⟨by show 4 ≤ sizeLine; decide, fun ml hml => ?_⟩
      have sml : Same HA (upd HA ml (.lst [.ref q1, .ref q2, .ref q3, .ref q4])) := Same.new hml
      have hmlml : (upd HA ml (.lst [.ref q1, .ref q2, .ref q3, .ref q4])) ml = some (.lst [.ref q1, .ref q2, .ref q3, .ref q4]) := upd_same
      generalize upd HA ml (.lst [.ref q1, .ref q2, .ref q3, .ref q4]) = HB at sml hmlml
      have s6B := (((sq1.trans sq2).trans sq3).trans sq4).trans sml
      have dvB := dv6.mono (Same.tups s6B)
      have dv1B := dv16.mono (Same.tups s6B)
      have dv2B := dv2.mono (Same.tups s6B)
      obtain ⟨vr, tr, rows, c, hvr, dvr, hst, hc⟩ : ∃ (vr : V) (tr : T) (rows : List (List Str)) (c : Nat), atI [V.ref q1, V.ref q2, V.ref q3, V.ref q4] pick = some vr ∧ Dp HB tr vr ∧ StN (SB (m + 1)) tr rows c ∧ (c : Int) ≤ 1 + (r - r2) := by
        rcases (by omega : pick = 0 ∨ pick = 1 ∨ pick = 2 ∨ pick = 3) with rfl | rfl | rfl | rfl
        · exact ⟨_, _, _, _, atI_nat (j := 0) rfl, L2.Dp.tup ((((sq2.trans sq3).trans sq4).trans sml) q1 _ hq1q1) (.cons (L2.Dp.str _) (.cons dvB (.cons dv1B (.cons dv2B .nil)))), .inr (.inr (.inr (.inr (.inr (.inr (.inr (.inl ⟨tv, tv1, tv2, rows1, rows2, c1', c2', ev, hb1, hb2, rfl, rfl, rfl⟩))))))), by omega⟩
        · exact ⟨_, _, _, _, atI_nat (j := 1) rfl, L2.Dp.tup (((sq3.trans sq4).trans sml) q2 _ hq2q2) (.cons (L2.Dp.str _) (.cons dvB (.cons dv1B .nil))), .inr (.inr (.inr (.inr (.inr (.inr (.inr (.inr (.inl ⟨"while", tv, tv1, rows1, c1', .inl rfl, ev, hb1, rfl, rfl, rfl⟩)))))))), by omega⟩
        · exact ⟨_, _, _, _, atI_nat (j := 2) rfl, L2.Dp.tup ((sq4.trans sml) q3 _ hq3q3) (.cons (L2.Dp.str _) (.cons dvB (.cons dv1B .nil))), .inr (.inr (.inr (.inr (.inr (.inr (.inr (.inr (.inl ⟨"repeat", tv, tv1, rows1, c1', .inr rfl, ev, hb1, rfl, rfl, rfl⟩)))))))), by omega⟩
        · exact ⟨_, _, _, _, atI_nat (j := 3) rfl, L2.Dp.tup (sml q4 _ hq4q4) (.cons (L2.Dp.str _) (.cons dv1B (.cons (L2.Dp.str _) (.cons dv2B .nil)))), .inr (.inr (.inr (.inr (.inr (.inr (.inr (.inr (.inr ⟨tv1, tv2, x, rows1, rows2, c1', c2', hb1, hx100, hb2, rfl, rfl, rfl⟩)))))))), by omega⟩
      exact ⟨_, rfl, ml, _, _, _, rfl, rfl, SqL.of hmlml, hvr, q vr tr rows c r2 HB dvr hst hc r20 (by omega) (s6B rm _ rH6) (oH6.trans (Off2.same s6B)) (pH6.same s6B)⟩
    · apply by_rest (fun H' => H4 = H')
      case use =>
        intro rest
        refine ⟨_, rfl, _, _, rfl, rfl, _, rfl, ite2 (fun h1 => ?_) (fun h1 => iteF ?_)⟩
        · refine ⟨_, rfl, _, _, rfl, rfl, _, rfl, iteNeg (fun h2 => hblk ⟨of_decide_eq_true h1, of_decide_eq_true h2⟩) ?_⟩
          exact rest H4 rfl
        · exact rest H4 rfl
      case rest =>
      rintro _ rfl
      refine ⟨_, rfl, _, rfl, _, rfl, kl, _, rfl, .inl (SqL.of t4.k), p, _, rfl, pH4, by rw [List.length_map]; omega, by rw [List.length_map]; omega, fun i5 a5 b5 c5 l5 u5 => ?_⟩
      rw [List.length_map] at u5
      obtain ⟨y, hy, hym, _⟩ := atI_strs (ns := ks) l5 u5
      have hy100 := ht.kx y hym
      have tu5 : Tups H4 (upd H4 p (.lst [.int a5, .int b5, .int c5])) := offT pH4 Off.upd
      have rH5 : Rm (upd H4 p (.lst [.int a5, .int b5, .int c5])) rm r := by unfold Rm; rw [upd_ne rmp]; exact rH4
      have oH5 : Off2 p rm H (upd H4 p (.lst [.int a5, .int b5, .int c5])) := oH4.trans Off2.updP
      have pH5 : Pu (upd H4 p (.lst [.int a5, .int b5, .int c5])) p := Pu.upd
      generalize upd H4 p (.lst [.int a5, .int b5, .int c5]) = H5 at oH5 pH5 rH5 tu5
      have t5 := ht.off2 hp hrm oH5
      refine ⟨kl, _, _, _, rfl, rfl, SqL.of t5.k, hy, ?_⟩
      refine ⟨_, rfl, _, rfl, _, rfl, kl, _, rfl, .inl (SqL.of t5.k), p, _, rfl, pH5, by rw [List.length_map]; omega, by rw [List.length_map]; omega, fun i6 a6 b6 c6 l6 u6 => ?_⟩
      rw [List.length_map] at u6
      obtain ⟨z, hz', hzm, _⟩ := atI_strs (ns := ks) l6 u6
      have hz100 := ht.kx z hzm
      have tu6 : Tups H5 (upd H5 p (.lst [.int a6, .int b6, .int c6])) := offT pH5 Off.upd
      have rH6 : Rm (upd H5 p (.lst [.int a6, .int b6, .int c6])) rm r := by unfold Rm; rw [upd_ne rmp]; exact rH5
      have oH6 : Off2 p rm H (upd H5 p (.lst [.int a6, .int b6, .int c6])) := oH5.trans Off2.updP
      have pH6 : Pu (upd H5 p (.lst [.int a6, .int b6, .int c6])) p := Pu.upd
      generalize upd H5 p (.lst [.int a6, .int b6, .int c6]) = H6 at oH6 pH6 rH6 tu6
      have t6 := ht.off2 hp hrm oH6
      refine ⟨kl, _, _, _, rfl, rfl, SqL.of t6.k, hz', ?_⟩
      refine ⟨_, rfl, _, rfl, by show 2 ≤ sizeLine; decide, fun m3 hm3 => ?_⟩
      have sm3 : Same H6 (upd H6 m3 (.lst [.int 3, .int 12])) := Same.new hm3
      have hm3m3 : (upd H6 m3 (.lst [.int 3, .int 12])) m3 = some (.lst [.int 3, .int 12]) := upd_same
      generalize upd H6 m3 (.lst [.int 3, .int 12]) = H7 at sm3 hm3m3
      have pH7 := pH6.same sm3
      have m3p : m3 ≠ p := (pH6.neN hm3).symm
      refine ⟨_, rfl, p, 2, rfl, pH7, by decide, by decide, fun i8 a8 b8 c8 l8 u8 => ?_⟩
      have oH7 : Off2 p rm H H7 := oH6.trans (Off2.same sm3)
      have rH7 : Rm H7 rm r := sm3 rm _ rH6
      have hm8 : (upd H7 p (.lst [.int a8, .int b8, .int c8])) m3 = some (.lst [.int 3, .int 12]) := by rw [upd_ne m3p]; exact hm3m3
      have tu8 : Tups H7 (upd H7 p (.lst [.int a8, .int b8, .int c8])) := offT pH7 Off.upd
      have rH8 : Rm (upd H7 p (.lst [.int a8, .int b8, .int c8])) rm r := by unfold Rm; rw [upd_ne rmp]; exact rH7
      have oH8 : Off2 p rm H (upd H7 p (.lst [.int a8, .int b8, .int c8])) := oH7.trans Off2.updP
      have pH8 : Pu (upd H7 p (.lst [.int a8, .int b8, .int c8])) p := Pu.upd
      generalize upd H7 p (.lst [.int a8, .int b8, .int c8]) = H8 at oH8 pH8 rH8 tu8 hm8
      obtain ⟨zn, hzn, zn12⟩ : ∃ zn : Nat, atI [V.int 3, V.int 12] i8 = some (.int (zn : Nat)) ∧ zn ≤ 12 := by
        rcases (by omega : i8 = 0 ∨ i8 = 1) with rfl | rfl
        · exact ⟨3, atI_nat (j := 0) rfl, by decide⟩
        · exact ⟨12, atI_nat (j := 1) rfl, by decide⟩
      have t8 := ht.off2 hp hrm oH8
      refine ⟨m3, _, _, _, rfl, rfl, SqL.of hm8, hzn, p, kl, ks, zn, rfl, pH8, t8.k, by omega, by omega, fun qm es H9 hqm sub nde _ o9 pH9 => ?_⟩
      have oH9 : Off2 p rm H H9 := oH8.trans (Off2.off o9)
      have rH9 : Rm H9 rm r := o9 rm _ rmp rH8
      have tu9 := offT pH8 o9
      have es7 : es.length ≤ 7 := Nat.le_trans (nodup_le nde (m := ks) sub) k1b
      have dv9 := ((((dv4.mono tu5).mono tu6).mono (Same.tups sm3)).mono tu8).mono tu9
      refine ⟨_, rfl, _, rfl, p, 4, rfl, pH9, by decide, by decide, fun dA aA bA cA lA uA => ⟨_, _, rfl, rfl, ?_⟩⟩
      have tuA : Tups H9 (upd H9 p (.lst [.int aA, .int bA, .int cA])) := offT pH9 Off.upd
      have rHA : Rm (upd H9 p (.lst [.int aA, .int bA, .int cA])) rm r := by unfold Rm; rw [upd_ne rmp]; exact rH9
      have oHA : Off2 p rm H (upd H9 p (.lst [.int aA, .int bA, .int cA])) := oH9.trans Off2.updP
      have pHA : Pu (upd H9 p (.lst [.int aA, .int bA, .int cA])) p := Pu.upd
      generalize upd H9 p (.lst [.int aA, .int bA, .int cA]) = HA at oHA pHA rHA tuA
      refine ⟨_, rfl, p, tl, kl, wl, ks, ws, 1 + dA, rfl, pHA, ht.off2 hp hrm oHA, by omega, by omega, fun v2 tv2 HB dv2 ev2 oB pHB => ?_⟩
      have oHB : Off2 p rm H HB := oHA.trans (Off2.off oB)
      have rHB : Rm HB rm r := oB rm _ rmp rHA
      have tuB := offT pHA oB
      have dvB := (dv9.mono tuA).mono tuB
      have hqmB := tuB qm _ (tuA qm _ hqm)
      have tB := ht.off2 hp hrm oHB
      have five : (0 : Int) < 11 := by decide
      have pm0 := Int.emod_nonneg pick (show (11 : Int) ≠ 0 by decide)
      have pm1 := Int.emod_lt_of_pos pick five
      have fin : ∀ (vr : V) (tr : T) (rows : List (List Str)) (HC : Hp), Dp HC tr vr → StN (SB n) tr rows 1 → Same HB HC → Q vr HC := fun vr tr rows HC d hs sC => q vr tr rows 1 r HC d hs (by show (1 : Int) ≤ 1 + (r - r); omega) r0 (Int.le_refl _) (sC rm _ rHB) (oHB.trans (Off2.same sC)) (pHB.same sC)
      by_cases h7 : 7 < pick % 11
      · refine ⟨_, rfl, _, _, rfl, rfl, five, _, _, rfl, rfl, _, rfl, itePos (decide_eq_true h7) ?_⟩
        obtain ⟨w0, ws', ews⟩ : ∃ w0 ws', ws = w0 :: ws' := List.exists_cons_of_ne_nil (fun e => by rw [e] at w1a; exact absurd w1a (by decide))
        have hw0 : w0.length ≤ 100 := ht.wx w0 (by rw [ews]; exact List.mem_cons_self)
        have a0 : atI (ws.map V.str) 0 = some (.str w0) := by rw [ews]; exact atI_nat (j := 0) rfl
        refine ⟨_, rfl, _, rfl, _, rfl, _, rfl, wl, _, _, _, rfl, rfl, SqL.of tB.w, a0, by show 5 ≤ sizeLine; decide, fun q1 hq1 => ?_⟩
        have sq1 : Same HB (upd HB q1 (.tup [.str "turn", .str y, .str x, .str z, .str w0])) := Same.new hq1
        have hq1q1 : (upd HB q1 (.tup [.str "turn", .str y, .str x, .str z, .str w0])) q1 = some (.tup [.str "turn", .str y, .str x, .str z, .str w0]) := upd_same
        generalize upd HB q1 (.tup [.str "turn", .str y, .str x, .str z, .str w0]) = HC at sq1 hq1q1
        refine ⟨_, rfl, _, rfl, by show 3 ≤ sizeLine; decide, fun q2 hq2 => ?_⟩
        have sq2 : Same HC (upd HC q2 (.tup [.str "strip", .str y, .str x])) := Same.new hq2
        have hq2q2 : (upd HC q2 (.tup [.str "strip", .str y, .str x])) q2 = some (.tup [.str "strip", .str y, .str x]) := upd_same
        generalize upd HC q2 (.tup [.str "strip", .str y, .str x]) = HD at sq2 hq2q2
        refine ⟨_, rfl, _, rfl, by show 3 ≤ sizeLine; decide, fun q3 hq3 => ?_⟩
        have sq3 : Same HD (upd HD q3 (.tup [.str "elders", .str y, .ref qm])) := Same.new hq3
        have hq3q3 : (upd HD q3 (.tup [.str "elders", .str y, .ref qm])) q3 = some (.tup [.str "elders", .str y, .ref qm]) := upd_same
        generalize upd HD q3 (.tup [.str "elders", .str y, .ref qm]) = HE at sq3 hq3q3
        refine ⟨by show 3 ≤ sizeLine; decide, fun ml hml => ?_⟩
        have sml : Same HE (upd HE ml (.lst [.ref q1, .ref q2, .ref q3])) := Same.new hml
        have hmlml : (upd HE ml (.lst [.ref q1, .ref q2, .ref q3])) ml = some (.lst [.ref q1, .ref q2, .ref q3]) := upd_same
        generalize upd HE ml (.lst [.ref q1, .ref q2, .ref q3]) = HF at sml hmlml
        have sBF := ((sq1.trans sq2).trans sq3).trans sml
        obtain ⟨vr, tr, rows, hvr, dvr, hst⟩ : ∃ (vr : V) (tr : T) (rows : List (List Str)), atI [V.ref q1, V.ref q2, V.ref q3] (pick % 11 - 8) = some vr ∧ Dp HF tr vr ∧ StN (SB n) tr rows 1 := by
          rcases (by omega : pick % 11 - 8 = 0 ∨ pick % 11 - 8 = 1 ∨ pick % 11 - 8 = 2) with e | e | e <;> rw [e]
          · exact ⟨_, _, _, atI_nat (j := 0) rfl, L2.Dp.tup (((sq2.trans sq3).trans sml) q1 _ hq1q1) (.cons (L2.Dp.str _) (.cons (L2.Dp.str _) (.cons (L2.Dp.str _) (.cons (L2.Dp.str _) (.cons (L2.Dp.str _) .nil))))), .inr (.inr (.inr (.inr (.inl ⟨y, x, z, w0, hy100, hx100, hz100, hw0, rfl, rfl, rfl⟩))))⟩
          · exact ⟨_, _, _, atI_nat (j := 1) rfl, L2.Dp.tup ((sq3.trans sml) q2 _ hq2q2) (.cons (L2.Dp.str _) (.cons (L2.Dp.str _) (.cons (L2.Dp.str _) .nil))), .inr (.inr (.inr (.inr (.inr (.inl ⟨y, x, hy100, hx100, rfl, rfl, rfl⟩)))))⟩
          · exact ⟨_, _, _, atI_nat (j := 2) rfl, L2.Dp.tup (sml q3 _ hq3q3) (.cons (L2.Dp.str _) (.cons (L2.Dp.str _) (.cons (L2.Dp.tup (sBF qm _ hqmB) (DpL.strs es)) .nil))), .inr (.inr (.inr (.inr (.inr (.inr (.inl ⟨y, es, hy100, es7, fun e he => ht.kx e (sub e he), rfl, rfl, rfl⟩))))))⟩
        exact ⟨_, rfl, _, _, rfl, rfl, five, _, _, rfl, rfl, ml, _, _, _, rfl, rfl, SqL.of hmlml, hvr, fin vr tr rows HF dvr hst sBF⟩
      refine ⟨_, rfl, _, _, rfl, rfl, five, _, _, rfl, rfl, _, rfl, iteNeg (by rw [decide_eq_false h7]; exact Bool.false_ne_true) ?_⟩
      by_cases h4 : 4 < pick % 11
      · refine ⟨_, rfl, _, _, rfl, rfl, five, _, _, rfl, rfl, _, rfl, itePos (decide_eq_true h4) ?_⟩
        refine ⟨_, rfl, _, rfl, _, rfl, by show 4 ≤ sizeLine; decide, fun q1 hq1 => ?_⟩
        have sq1 : Same HB (upd HB q1 (.tup [.str "put", v, .str x, v2])) := Same.new hq1
        have hq1q1 : (upd HB q1 (.tup [.str "put", v, .str x, v2])) q1 = some (.tup [.str "put", v, .str x, v2]) := upd_same
        generalize upd HB q1 (.tup [.str "put", v, .str x, v2]) = HC at sq1 hq1q1
        refine ⟨_, rfl, _, rfl, by show 3 ≤ sizeLine; decide, fun q2 hq2 => ?_⟩
        have sq2 : Same HC (upd HC q2 (.tup [.str "become", v, .str y])) := Same.new hq2
        have hq2q2 : (upd HC q2 (.tup [.str "become", v, .str y])) q2 = some (.tup [.str "become", v, .str y]) := upd_same
        generalize upd HC q2 (.tup [.str "become", v, .str y]) = HD at sq2 hq2q2
        refine ⟨_, rfl, by show 2 ≤ sizeLine; decide, fun q3 hq3 => ?_⟩
        have sq3 : Same HD (upd HD q3 (.tup [.str "do", v2])) := Same.new hq3
        have hq3q3 : (upd HD q3 (.tup [.str "do", v2])) q3 = some (.tup [.str "do", v2]) := upd_same
        generalize upd HD q3 (.tup [.str "do", v2]) = HE at sq3 hq3q3
        refine ⟨by show 3 ≤ sizeLine; decide, fun ml hml => ?_⟩
        have sml : Same HE (upd HE ml (.lst [.ref q1, .ref q2, .ref q3])) := Same.new hml
        have hmlml : (upd HE ml (.lst [.ref q1, .ref q2, .ref q3])) ml = some (.lst [.ref q1, .ref q2, .ref q3]) := upd_same
        generalize upd HE ml (.lst [.ref q1, .ref q2, .ref q3]) = HF at sml hmlml
        have sBF := ((sq1.trans sq2).trans sq3).trans sml
        have dvF := dvB.mono (Same.tups sBF)
        have dv2F := dv2.mono (Same.tups sBF)
        obtain ⟨vr, tr, rows, hvr, dvr, hst⟩ : ∃ (vr : V) (tr : T) (rows : List (List Str)), atI [V.ref q1, V.ref q2, V.ref q3] (pick % 11 - 5) = some vr ∧ Dp HF tr vr ∧ StN (SB n) tr rows 1 := by
          rcases (by omega : pick % 11 - 5 = 0 ∨ pick % 11 - 5 = 1 ∨ pick % 11 - 5 = 2) with e | e | e <;> rw [e]
          · exact ⟨_, _, _, atI_nat (j := 0) rfl, L2.Dp.tup (((sq2.trans sq3).trans sml) q1 _ hq1q1) (.cons (L2.Dp.str _) (.cons dvF (.cons (L2.Dp.str _) (.cons dv2F .nil)))), .inr (.inr (.inl ⟨tv, x, tv2, ev, hx100, ev2, rfl, rfl, rfl⟩))⟩
          · exact ⟨_, _, _, atI_nat (j := 1) rfl, L2.Dp.tup ((sq3.trans sml) q2 _ hq2q2) (.cons (L2.Dp.str _) (.cons dvF (.cons (L2.Dp.str _) .nil))), .inr (.inr (.inr (.inl ⟨"become", tv, y, .inr rfl, ev, hy100, rfl, rfl, rfl⟩)))⟩
          · exact ⟨_, _, _, atI_nat (j := 2) rfl, L2.Dp.tup (sml q3 _ hq3q3) (.cons (L2.Dp.str _) (.cons dv2F .nil)), .inl ⟨"do", tv2, by decide +kernel, ev2, rfl, rfl, rfl⟩⟩
        exact ⟨_, rfl, _, _, rfl, rfl, five, _, _, rfl, rfl, ml, _, _, _, rfl, rfl, SqL.of hmlml, hvr, fin vr tr rows HF dvr hst sBF⟩
      refine ⟨_, rfl, _, _, rfl, rfl, five, _, _, rfl, rfl, _, rfl, iteNeg (by rw [decide_eq_false h4]; exact Bool.false_ne_true) ?_⟩
      by_cases he4 : pick % 11 = 4
      · refine ⟨_, rfl, _, _, rfl, rfl, five, rfl, _, rfl, itePos (by show decide (V.int (pick % 11) = V.int 4) = true; rw [he4]; exact decide_eq_true rfl) ?_⟩
        refine ⟨by show 4 ≤ sizeLine; decide, fun ml hml => ?_⟩
        have sml : Same HB (upd HB ml (.lst (ones.map V.str))) := Same.new hml
        have hmlml : (upd HB ml (.lst (ones.map V.str))) ml = some (.lst (ones.map V.str)) := upd_same
        have mlp : ml ≠ p := (pHB.neN hml).symm
        refine ⟨_, rfl, p, 4, rfl, pHB.same sml, by decide, by decide, fun iC aC bC cC lC uC => ?_⟩
        obtain ⟨wd, hwd, hwm, _⟩ := atI_strs (ns := ones) (i := iC) lC (by show iC < 4; exact uC)
        refine ⟨ml, _, _, _, rfl, rfl, SqL.of (by rw [upd_ne mlp]; exact hmlml), hwd, _, rfl, by show 2 ≤ sizeLine; decide, fun q1 hq1 => ?_⟩
        have tuC : Tups (upd HB ml (.lst (ones.map V.str))) (upd (upd HB ml (.lst (ones.map V.str))) p (.lst [.int aC, .int bC, .int cC])) := offT (pHB.same sml) Off.upd
        have rmC : Rm (upd (upd HB ml (.lst (ones.map V.str))) p (.lst [.int aC, .int bC, .int cC])) rm r := by unfold Rm; rw [upd_ne rmp]; exact sml rm _ rHB
        have oC : Off2 p rm H (upd (upd HB ml (.lst (ones.map V.str))) p (.lst [.int aC, .int bC, .int cC])) := (oHB.trans (Off2.same sml)).trans Off2.updP
        have pC : Pu (upd (upd HB ml (.lst (ones.map V.str))) p (.lst [.int aC, .int bC, .int cC])) p := Pu.upd
        have sC : Same (upd (upd HB ml (.lst (ones.map V.str))) p (.lst [.int aC, .int bC, .int cC])) _ := Same.new (o := .tup [.str wd, v]) hq1
        exact q _ _ _ 1 r _ (L2.Dp.tup upd_same (.cons (L2.Dp.str _) (.cons (((dvB.mono (Same.tups sml)).mono tuC).mono (Same.tups sC)) .nil))) (.inl ⟨wd, tv, hwm, ev, rfl, rfl, rfl⟩) (by show (1 : Int) ≤ 1 + (r - r); omega) r0 (Int.le_refl _) (sC rm _ rmC) (oC.trans (Off2.same sC)) (pC.same sC)
      refine ⟨_, rfl, _, _, rfl, rfl, five, rfl, _, rfl, iteNeg (by rw [decide_eq_false (by intro z; injection z with z; exact he4 z)]; exact Bool.false_ne_true) ?_⟩
      refine ⟨_, rfl, _, rfl, by show 3 ≤ sizeLine; decide, fun q1 hq1 => ?_⟩
      have sq1 : Same HB (upd HB q1 (.tup [.str "let", .str x, v])) := Same.new hq1
      have hq1q1 : (upd HB q1 (.tup [.str "let", .str x, v])) q1 = some (.tup [.str "let", .str x, v]) := upd_same
      generalize upd HB q1 (.tup [.str "let", .str x, v]) = HC at sq1 hq1q1
      refine ⟨_, rfl, _, rfl, by show 3 ≤ sizeLine; decide, fun q2 hq2 => ?_⟩
      have sq2 : Same HC (upd HC q2 (.tup [.str "drop", v, .str x])) := Same.new hq2
      have hq2q2 : (upd HC q2 (.tup [.str "drop", v, .str x])) q2 = some (.tup [.str "drop", v, .str x]) := upd_same
      generalize upd HC q2 (.tup [.str "drop", v, .str x]) = HD at sq2 hq2q2
      refine ⟨_, rfl, by show 2 ≤ sizeLine; decide, fun q3 hq3 => ?_⟩
      have sq3 : Same HD (upd HD q3 (.tup [.str "tell", v])) := Same.new hq3
      have hq3q3 : (upd HD q3 (.tup [.str "tell", v])) q3 = some (.tup [.str "tell", v]) := upd_same
      generalize upd HD q3 (.tup [.str "tell", v]) = HE at sq3 hq3q3
      refine ⟨_, rfl, by show 2 ≤ sizeLine; decide, fun q4 hq4 => ?_⟩
      have sq4 : Same HE (upd HE q4 (.tup [.str "give", v2])) := Same.new hq4
      have hq4q4 : (upd HE q4 (.tup [.str "give", v2])) q4 = some (.tup [.str "give", v2]) := upd_same
      generalize upd HE q4 (.tup [.str "give", v2]) = HF at sq4 hq4q4
      refine ⟨by show 4 ≤ sizeLine; decide, fun ml hml => ?_⟩
      have sml : Same HF (upd HF ml (.lst [.ref q1, .ref q2, .ref q3, .ref q4])) := Same.new hml
      have hmlml : (upd HF ml (.lst [.ref q1, .ref q2, .ref q3, .ref q4])) ml = some (.lst [.ref q1, .ref q2, .ref q3, .ref q4]) := upd_same
      generalize upd HF ml (.lst [.ref q1, .ref q2, .ref q3, .ref q4]) = HG at sml hmlml
      have sBG := (((sq1.trans sq2).trans sq3).trans sq4).trans sml
      have dvG := dvB.mono (Same.tups sBG)
      have dv2G := dv2.mono (Same.tups sBG)
      obtain ⟨vr, tr, rows, hvr, dvr, hst⟩ : ∃ (vr : V) (tr : T) (rows : List (List Str)), atI [V.ref q1, V.ref q2, V.ref q3, V.ref q4] (pick % 11 % 4) = some vr ∧ Dp HG tr vr ∧ StN (SB n) tr rows 1 := by
        rcases (by omega : pick % 11 % 4 = 0 ∨ pick % 11 % 4 = 1 ∨ pick % 11 % 4 = 2 ∨ pick % 11 % 4 = 3) with e | e | e | e <;> rw [e]
        · exact ⟨_, _, _, atI_nat (j := 0) rfl, L2.Dp.tup ((((sq2.trans sq3).trans sq4).trans sml) q1 _ hq1q1) (.cons (L2.Dp.str _) (.cons (L2.Dp.str _) (.cons dvG .nil))), .inr (.inl ⟨x, tv, hx100, ev, rfl, rfl, rfl⟩)⟩
        · exact ⟨_, _, _, atI_nat (j := 1) rfl, L2.Dp.tup (((sq3.trans sq4).trans sml) q2 _ hq2q2) (.cons (L2.Dp.str _) (.cons dvG (.cons (L2.Dp.str _) .nil))), .inr (.inr (.inr (.inl ⟨"drop", tv, x, .inl rfl, ev, hx100, rfl, rfl, rfl⟩)))⟩
        · exact ⟨_, _, _, atI_nat (j := 2) rfl, L2.Dp.tup ((sq4.trans sml) q3 _ hq3q3) (.cons (L2.Dp.str _) (.cons dvG .nil)), .inl ⟨"tell", tv, by decide +kernel, ev, rfl, rfl, rfl⟩⟩
        · exact ⟨_, _, _, atI_nat (j := 3) rfl, L2.Dp.tup (sml q4 _ hq4q4) (.cons (L2.Dp.str _) (.cons dv2G .nil)), .inl ⟨"give", tv2, by decide +kernel, ev2, rfl, rfl, rfl⟩⟩
      exact ⟨_, rfl, _, _, rfl, rfl, five, _, _, rfl, rfl, (show (0 : Int) < 4 by decide), ml, _, _, _, rfl, rfl, SqL.of hmlml, hvr, fin vr tr rows HG dvr hst sBG⟩
theorem ok_b_step (D : Defs K mg t) {n k : Nat} (hk : 1 ≤ k) (G__law_s : FnOk P w K mg base CX0 k t._law_s.1 t._law_s.2 ["_law_purse_here", "_law_deep", "_law_room", "_law_tools"] (spS (StN (SB n)) 1 n)) : FnOk P w K mg base CX0 (k + 1) t._law_b.1 t._law_b.2 ["_law_purse_here", "_law_deep", "_law_room", "_law_tools"] (spS (SB (n + 1)) 0 n) := by
  have G__law_take : FnOk P w K mg base CX0 1 t._law_take.1 t._law_take.2 _ spTake := ok_take D
  have hz : sizeLine = 16777216 := sizeLine_eq
  refine D._law_b.fn.ok sc__law_b (fun vs H Q E h => ?_) (fun cdv A outer s H vs Q E hr h => ?_)
  · obtain ⟨p, rm, tl, kl, wl, ks, ws, r, rfl, _⟩ := h
    rfl
  · obtain ⟨p, rm, tl, kl, wl, ks, ws, r, rfl, hp, ht, hrm, r0, r16, q⟩ := h
    have rmp := hrm.ne hp
    refine ⟨_, (pss_cons (ps_set (i := 4) sc__law_b.nd rfl (Or.inl rfl) (pe_lst pa_nil))
      (pss_cons (ps_for PassesOwn.never rfl (pi_range1 rfl D.b_range (pa_cons (pe_callF D._law_take G__law_take (hr.mono (by omega)) (by rfl) (pa_cons (pv 0) (pa_cons (pe_ix ix_list (pe_lst (pa_cons pe_int (pa_cons pe_int pa_nil))) (pe_callTy call_int1 (by rfl) D.b_int bt_int (pa_cons (pe_cmpR op_gt (pe_ix ix_list (pv 2) pe_int (fun _ _ => rfl)) pe_int (nomark _)) pa_nil)) (fun _ _ => rfl)) pa_nil))) pa_nil)) (pg_name (i := 5) sc__law_b.nd rfl (Or.inl rfl))
      (pss_one (ps_if (pt_cmpR op_gt (pe_ix ix_list (pv 2) pe_int (fun _ _ => rfl)) pe_int (nomark _))
      (pss_cons (ps_asg (pe_op op_sub (pe_ix ix_list (pv 2) pe_int (fun _ _ => rfl)) pe_int) (pg_sub (pv 2) pe_int set_list))
      (pss_one (ps_expr (pe_bm PySem.F.plainAttrs_list PySem.F.slot_list_append PySem.F.type_list_append mt_append (pv 4) (pa_cons (pe_callF D._law_s G__law_s (hr.mono (by omega)) (by rfl) (pa_cons (pv 0) (pa_cons (pv 1) (pa_cons (pv 2) (pa_cons (pv 3) pa_nil))))) pa_nil)))))
      pss_nil)))
      (pss_one (ps_ret (pe_callTy call_tuple_of (by rfl) D.b_tuple bt_tuple (pa_cons (pv 4) pa_nil)))))), ?_⟩
    refine ⟨Nat.zero_le _, fun bl hbl => ?_⟩
    have sbl : Same H (upd H bl (.lst [])) := Same.new hbl
    have hbl1 : (upd H bl (.lst [])) bl = some (.lst []) := upd_same
    have blp : bl ≠ p := (hp.neN hbl).symm
    have blr : bl ≠ rm := (ne_of_none hrm hbl).symm
    generalize upd H bl (.lst []) = H1 at sbl hbl1
    have p1 := hp.same sbl
    have r1 : Rm H1 rm r := sbl rm _ hrm
    refine ⟨_, rfl, by show 2 ≤ sizeLine; decide, fun m hm => ?_⟩
    have sm : Same H1 (upd H1 m (.lst [.int 5, .int 18])) := Same.new hm
    have hmm : (upd H1 m (.lst [.int 5, .int 18])) m = some (.lst [.int 5, .int 18]) := upd_same
    generalize upd H1 m (.lst [.int 5, .int 18]) = H2 at sm hmm
    have p2 := p1.same sm
    have r2 : Rm H2 rm r := sm rm _ r1
    have hbl2 := sm bl _ hbl1
    obtain ⟨zz, hzz, zz0, zz18⟩ : ∃ zz : Int, atI [V.int 5, V.int 18] (if decide (15 < r) = true then 1 else 0) = some (.int zz) ∧ 0 < zz ∧ zz ≤ 18 := by
      by_cases hb : decide (15 < r) = true
      · rw [if_pos hb]
        exact ⟨18, atI_nat (j := 1) rfl, by decide, by decide⟩
      · rw [if_neg hb]
        exact ⟨5, atI_nat (j := 0) rfl, by decide, by decide⟩
    refine ⟨_, rfl, rm, _, _, _, rfl, rfl, SqL.of r2, rfl, _, _, rfl, rfl, .inr ⟨_, rfl, m, _, _, _, rfl, rfl, SqL.of hmm, hzz, ?_⟩⟩
    refine ⟨p, zz, rfl, p2, zz0, by omega, fun nn a3 b3 c3 l3 u3 => ⟨nn, rfl, by omega, by omega, ?_⟩⟩
    have tu3 : Tups H2 (upd H2 p (.lst [.int a3, .int b3, .int c3])) := offT p2 Off.upd
    refine for_range (lo := 0) (n := nn.toNat) (fun i σ H5 => ∃ (ys : List V) (ss : List T) (rss : List (List (List Str))) (c : Nat) (r' : Int) (v5 : Option V), σ = [some (.ref p), some (.int n), some (.ref rm), some (.ref tl), some (.ref bl), v5] ∧ H5 bl = some (.lst ys) ∧ DpL H5 ss ys ∧ StL (StN (SB n)) ss rss c ∧ (c : Int) ≤ r - r' ∧ 0 ≤ r' ∧ r' ≤ r ∧ Rm H5 rm r' ∧ ys.length ≤ i ∧ Off2 p rm H H5 ∧ Pu H5 p)
      ⟨[], [], [], 0, r, _, rfl, by rw [upd_ne blp]; exact hbl2, .nil, .nil, by show (0 : Int) ≤ r - r; omega, r0, Int.le_refl _, by unfold Rm; rw [upd_ne rmp]; exact r2, Nat.le_refl _, ((Off2.same sbl).trans (Off2.same sm)).trans Off2.updP, Pu.upd⟩ ?_ ?_
    · rintro i σ H5 hi ⟨ys, ss, rss, c, r', v5, rfl, hbl5, dl, hst, hc, r'0, r'r, rH5, yl, o5, p5⟩
      refine ⟨_, rfl, rm, _, _, _, rfl, rfl, SqL.of rH5, rfl, _, _, rfl, rfl, _, rfl, ite2 (fun hb => ?_) (fun hb => ⟨ys, ss, rss, c, r', _, rfl, hbl5, dl, hst, hc, r'0, r'r, rH5, by omega, o5, p5⟩)⟩
      have hb : (0 : Int) < r' := of_decide_eq_true hb
      refine ⟨_, rfl, rm, _, _, _, rfl, rfl, SqL.of rH5, rfl, _, _, rfl, rfl, _, rfl, rm, _, _, 0, rfl, rfl, rH5, rfl, ?_⟩
      have rH6 : Rm (upd H5 rm (.lst [.int (r' - 1)])) rm (r' - 1) := upd_same
      have o6 : Off2 p rm H (upd H5 rm (.lst [.int (r' - 1)])) := o5.trans Off2.updR
      have p6 : Pu (upd H5 rm (.lst [.int (r' - 1)])) p := p5.upd_ne rmp.symm
      have hbl6 : (upd H5 rm (.lst [.int (r' - 1)])) bl = some (.lst ys) := by rw [upd_ne blr]; exact hbl5
      have tu6 : Tups H5 (upd H5 rm (.lst [.int (r' - 1)])) := fun c zs e => by rw [upd_ne (ne_of e rH5 (fun z => nomatch z))]; exact e
      refine ⟨_, rfl, .inl ⟨rfl, _, SqL.of hbl6⟩, _, rfl, _, rfl, _, rfl, _, rfl, p, rm, tl, kl, wl, ks, ws, r' - 1, rfl, p6, ht.off2 hp hrm o6, rH6, by omega, by omega, fun v tv rows cs r2 H7 dv hs hcs r20 r2r rH7 o7 p7 => ?_⟩
      have hbl7 := o7 bl _ blp blr hbl6
      have tu7 := off2T p6 rH6 o7
      refine ⟨bl, ys, v, rfl, rfl, hbl7, by omega, ?_⟩
      have tu8 : Tups H7 (upd H7 bl (.lst (ys ++ [v]))) := fun c zs e => by rw [upd_ne (ne_of e hbl7 (fun z => nomatch z))]; exact e
      refine ⟨ys ++ [v], ss ++ [tv], rss ++ [rows], c + cs, r2, _, rfl, upd_same, (dl.mono (tu6.trans (tu7.trans tu8))).append (.cons (dv.mono tu8) .nil), hst.snoc hs, by omega, r20, by omega, by unfold Rm; rw [upd_ne blr.symm]; exact rH7, by rw [List.length_append]; show ys.length + 1 ≤ i + 1; omega, fun b o h1 h2 e => ?_, p7.upd_ne blp.symm⟩
      rw [upd_ne (ne_of_none e hbl)]
      exact o7 b o h1 h2 (o6 b o h1 h2 e)
    · rintro σ H5 ⟨ys, ss, rss, c, r', v5, rfl, hbl5, dl, hst, hc, r'0, r'r, rH5, yl, o5, p5⟩
      refine ⟨_, rfl, bl, _, rfl, .inl ⟨SqL.of hbl5, fun q1 hq1 => ?_⟩⟩
      have s1 := Same.new (o := .tup ys) hq1
      exact q _ (.tup ss) rss.flatten c r' _ (L2.Dp.tup upd_same (dl.mono (Same.tups s1))) ⟨ss, rss, rfl, hst, rfl⟩ (by show (c : Int) ≤ 0 + (r - r'); omega) r'0 r'r (s1 rm _ rH5) (o5.trans (Off2.same s1)) (p5.same s1)
theorem ok_b (D : Defs K mg t) : ∀ n, FnOk P w K mg base CX0 (7 + 2 * n) t._law_b.1 t._law_b.2 ["_law_purse_here", "_law_deep", "_law_room", "_law_tools"] (spS (SB (n + 1)) 0 n)
  | 0 => ok_b_step D (by omega) (ok_s D (j := 0) (k := 5) (by omega) (by omega) (fn_no fun vs H Q E ⟨m, h, _⟩ => absurd h (by omega)))
  | n + 1 => by
    have h := ok_b_step D (n := n + 1) (by omega) (ok_s D (j := 7 + 2 * n) (k := 7 + 2 * n) (by omega) (by omega) ((ok_b D n).imp fun vs H Q E ⟨m, e, h⟩ => by
      have e : m = n := by omega
      subst e
      exact h))
    exact h
end
end K25
end
section
set_option autoImplicit false
namespace K25
open PySem PyProof.Rows L2
theorem Dp.kr {H : Hp} {q e f : Addr} {r : KR} (hq : H q = some (.tup [.str r.kind, .ref e, .ref f])) (he : H e = some (.tup (r.elders.map V.str))) (hf : H f = some (.tup (r.fields.map V.str))) : Dp H (krT r) (.ref q) :=
  L2.Dp.tup hq (.cons (L2.Dp.str _) (.cons (L2.Dp.tup he (DpL.strs _)) (.cons (L2.Dp.tup hf (DpL.strs _)) .nil)))
section
variable {P : Program} {w : World} {K : PySem.W.Frag} {mg : Str → Option Value} {base : Heap} {t : Adr}
def spWordsW : Sp := fun vs H Q _ => ∃ (p u : Addr) (n : Int), vs = [.ref p, .int n, .ref u] ∧ Pu H p ∧ H u = some (.lst []) ∧ 0 ≤ n ∧ n ≤ 25 ∧ ∀ (l : Addr) (ws : List Str) H', H l = none → ws.length = n.toNat → (ws.Nodup ∧ ∀ x ∈ ws, x.length ≤ 100) → H' l = some (.lst (ws.map V.str)) → Off p H H' → Pu H' p → Q (.ref l) H'
theorem ok_wordsW (D : Defs K mg t) : FnOk P w K mg base CX0 3 t._law_words.1 t._law_words.2 ["_law_purse_here", "_law_many", "_law_used"] spWordsW := by
  have G__law_word : FnOk P w K mg base CX0 2 t._law_word.1 t._law_word.2 _ spWord := ok_word D
  have hz : sizeLine = 16777216 := sizeLine_eq
  refine D._law_words.fn.ok sc__law_words (fun vs H Q E h => ?_) (fun cdv A outer s H vs Q E hr h => ?_)
  · obtain ⟨p, u, n, rfl, _⟩ := h
    rfl
  · obtain ⟨p, u, n, rfl, hp, hu, h0, h1, k⟩ := h
    refine ⟨_, (pss_cons (ps_set (i := 3) sc__law_words.nd rfl (Or.inl rfl) (pe_lst pa_nil))
      (pss_cons (ps_for PassesOwn.never rfl (pi_range1 rfl D.b_range (pa_cons (pv 1) pa_nil)) (pg_name (i := 4) sc__law_words.nd rfl (Or.inl rfl))
      (pss_one (ps_expr (pe_bm PySem.F.plainAttrs_list PySem.F.slot_list_append PySem.F.type_list_append mt_append (pv 3) (pa_cons (pe_callF D._law_word G__law_word (hr.mono (by omega)) (by rfl) (pa_cons (pv 0) (pa_cons (pe_op op_cat (pv 2) (pv 3)) pa_nil))) pa_nil)))))
      (pss_one (ps_ret (pv 3))))), ?_⟩
    refine ⟨Nat.zero_le _, fun l hl => ?_⟩
    have ul : u ≠ l := ne_of_none hu hl
    have pl : p ≠ l := by
      obtain ⟨a, b, c, e⟩ := hp
      exact ne_of_none e hl
    have up : u ≠ p := by
      obtain ⟨a, b, c, e⟩ := hp
      exact (ne_of e hu (by intro z; cases z)).symm
    refine ⟨_, rfl, n, rfl, by omega, by omega, for_range (lo := 0) (n := n.toNat) (fun i σ H2 => ∃ (ws : List Str) (v : Option V), σ = [some (.ref p), some (.int n), some (.ref u), some (.ref l), v] ∧ ws.length = i ∧ (ws.Nodup ∧ ∀ x ∈ ws, x.length ≤ 100) ∧ H2 l = some (.lst (ws.map V.str)) ∧ Off p H H2 ∧ Pu H2 p)
      ⟨[], _, rfl, rfl, ⟨List.nodup_nil, by simp⟩, upd_same, Off.new hl, ?_⟩ ?_ ?_⟩
    · obtain ⟨a, b, c, e⟩ := hp
      exact ⟨a, b, c, by rw [upd_ne pl]; exact e⟩
    · rintro i σ H2 hi ⟨ws, v, rfl, hw, nd, hl2, o2, p2⟩
      have hu2 : H2 u = some (.lst []) := o2 u _ up hu
      refine ⟨_, rfl, .inl ⟨rfl, _, SqL.of hl2⟩, _, rfl, _, rfl, _, rfl, u, l, [], ws.map V.str, rfl, rfl, hu2, hl2, by rw [List.length_map]; show 0 + ws.length ≤ sizeLine; omega, fun q hq => ?_⟩
      have pq : p ≠ q := by
        obtain ⟨a, b, c, e⟩ := p2
        exact ne_of_none e hq
      have lq : l ≠ q := ne_of_none hl2 hq
      have p3 : Pu (upd H2 q (.lst ([] ++ ws.map V.str))) p := by
        obtain ⟨a, b, c, e⟩ := p2
        exact ⟨a, b, c, by rw [upd_ne pq]; exact e⟩
      refine ⟨p, q, ws, rfl, p3, upd_same, by omega, fun x H3 hx hn o3 p3 => ?_⟩
      have hl3 : H3 l = some (.lst (ws.map V.str)) := o3 l _ pl.symm (by rw [upd_ne lq]; exact hl2)
      refine ⟨l, ws.map V.str, .str x, rfl, rfl, hl3, by rw [List.length_map]; omega, ws ++ [x], _, rfl, by rw [List.length_append, hw]; rfl, ⟨nd_snoc nd.1 hn, fun y hy => by
        rcases List.mem_append.mp hy with hy | hy
        · exact nd.2 y hy
        · rw [List.mem_singleton.mp hy]
          exact hx⟩, by rw [upd_same, List.map_append]; rfl, ?_, ?_⟩
      · intro b o hb e
        have bl : b ≠ l := ne_of_none e hl
        rw [upd_ne bl]
        exact o3 b o hb ((Off.new hq : Off p H2 _) b o hb (o2 b o hb e))
      · obtain ⟨a, b, c, e⟩ := p3
        exact ⟨a, b, c, by rw [upd_ne pl]; exact e⟩
    · rintro σ H2 ⟨ws, v, rfl, hw, nd, hl2, o2, p2⟩
      exact ⟨_, rfl, k l ws H2 hl hw nd hl2 o2 p2⟩
def spKinds : Sp := fun vs H Q _ => ∃ (p u fl : Addr) (n : Int) (fs : List Str), vs = [.ref p, .int n, .ref u, .ref fl] ∧ Pu H p ∧ H u = some (.lst []) ∧ 1 ≤ n ∧ n ≤ 7 ∧ H fl = some (.lst (fs.map V.str)) ∧ fs.length ≤ 100 ∧ (∀ x ∈ fs, x.length ≤ 100) ∧
  ∀ (v : V) (ks : List KR) H', Dp H' (.tup (ks.map krT)) v → (∀ r ∈ ks, KOk r) → ks.length = n.toNat → Off p H H' → Pu H' p → Q v H'
theorem ok_kinds (D : Defs K mg t) : FnOk P w K mg base CX0 4 t._law_kinds.1 t._law_kinds.2 ["_law_purse_here", "_law_many", "_law_used", "_law_fields"] spKinds := by
  have G__law_take : FnOk P w K mg base CX0 1 t._law_take.1 t._law_take.2 _ spTake := ok_take D
  have G__law_words : FnOk P w K mg base CX0 3 t._law_words.1 t._law_words.2 _ spWordsW := ok_wordsW D
  have G__law_some : FnOk P w K mg base CX0 2 t._law_some.1 t._law_some.2 _ spSome := ok_some D
  have G__law_merge : FnOk P w K mg base CX0 1 t._law_merge.1 t._law_merge.2 _ spMerge := ok_merge D
  have hz : sizeLine = 16777216 := sizeLine_eq
  refine D._law_kinds.fn.ok sc__law_kinds (fun vs H Q E h => ?_) (fun cdv A outer s H vs Q E hr h => ?_)
  · obtain ⟨p, u, fl, n, fs, rfl, _⟩ := h
    rfl
  · obtain ⟨p, u, fl, n, fs, rfl, hp, hu, hn1, hn7, hfl, hfs, hfx, k⟩ := h
    have flp : fl ≠ p := hp.ne hfl
    refine ⟨_, (pss_cons (ps_set (i := 4) sc__law_kinds.nd rfl (Or.inl rfl) (pe_callF D._law_words G__law_words (hr.mono (by omega)) (by rfl) (pa_cons (pv 0) (pa_cons (pv 1) (pa_cons (pv 2) pa_nil)))))
      (pss_cons (ps_asg (pe_tup (pa_cons (pe_lst pa_nil) (pa_cons pe_dnewK pa_nil))) (pg_tup rfl (pgs_cons (pg_name (i := 5) sc__law_kinds.nd rfl (Or.inl rfl)) (pgs_cons (pg_name (i := 6) sc__law_kinds.nd rfl (Or.inr rfl)) pgs_nil))))
      (pss_cons (ps_for PassesOwn.never rfl (pi_enumerate rfl D.b_enumerate (pa_cons (pv 4) pa_nil)) (pg_tup rfl (pgs_cons (pg_name (i := 7) sc__law_kinds.nd rfl (Or.inl rfl)) (pgs_cons (pg_name (i := 8) sc__law_kinds.nd rfl (Or.inl rfl)) pgs_nil)))
      (pss_cons (ps_set (i := 9) sc__law_kinds.nd rfl (Or.inr rfl) (pe_callF D._law_some G__law_some (hr.mono (by omega)) (by rfl) (pa_cons (pv 0) (pa_cons (pe_slice sl_list (pv 4) po_none (po_some (pv 7))) (pa_cons (pe_ix ix_list (pe_lst (pa_cons pe_int (pa_cons pe_int pa_nil))) (pe_callTy call_int1 (by rfl) D.b_int bt_int (pa_cons (pe_cmpR op_eq (pe_callF D._law_take G__law_take (hr.mono (by omega)) (by rfl) (pa_cons (pv 0) (pa_cons pe_int pa_nil))) pe_int (nomark _)) pa_nil)) (fun _ _ => rfl)) pa_nil)))))
      (pss_cons (ps_set (i := 10) sc__law_kinds.nd rfl (Or.inl rfl) (pe_callF D._law_merge G__law_merge (hr.mono (by omega)) (by rfl) (pa_cons (pv 8) (pa_cons (pe_op op_cat (pe_comp rfl (CompScope.of ["_law_one"] [6] ["_law_one", "_law_orders"] (defScope (top 20)) ["_law_purse_here", "_law_many", "_law_used", "_law_fields", "_law_names", "_law_kinds_here", "_law_orders", "_law_k", "_law_kind", "_law_elders", "_law_order", "_law_turn"] rfl rfl (by decide +kernel)) ⟨fun _ _ _ _ _ => (pg_name (i := 0) (show List.Nodup [("_law_one" : Str), ("_law_orders" : Str)] by decide +kernel) rfl (Or.inl (lookup_relabel_local rfl)) (.inr (lookup_relabel_local rfl))), fun _ _ _ _ _ => pts_nil, fun _ _ _ _ _ => (pe_dget (hu_of hr) (pv 1) (pv 0) (fun _ _ => rfl))⟩ (pi_tup (pv 9))) (pe_lst (pa_cons (pv 9) pa_nil))) pa_nil))))
      (pss_cons (ps_for PassesOwn.never rfl (pi_range1 rfl D.b_range (pa_cons pe_int pa_nil)) (pg_name (i := 11) sc__law_kinds.nd rfl (Or.inl rfl))
      (pss_one (ps_if (pt_cmpR op_isN (pv 10) pe_non (nomark _))
      (pss_cons (ps_set (i := 9) sc__law_kinds.nd rfl (Or.inr rfl) (pe_ix ix_list (pe_lst (pa_cons (pe_callTy call_tuple_of (by rfl) D.b_tuple bt_tuple (pa_cons (pe_comp rfl (CompScope.of ["_law_one"] [9] ["_law_one", "_law_elders"] (defScope (top 20)) ["_law_purse_here", "_law_many", "_law_used", "_law_fields", "_law_names", "_law_kinds_here", "_law_orders", "_law_k", "_law_kind", "_law_elders", "_law_order", "_law_turn"] rfl rfl (by decide +kernel)) ⟨fun _ _ _ _ _ => (pg_name (i := 0) (show List.Nodup [("_law_one" : Str), ("_law_elders" : Str)] by decide +kernel) rfl (Or.inl (lookup_relabel_local rfl)) (.inr (lookup_relabel_local rfl))), fun _ _ _ _ _ => (pts_one (pt_cmpR (op_in_K (K := K) rfl) (pv 0) (pv 1) (by with_unfolding_all rfl))), fun _ _ _ _ _ => (pv 0)⟩ (pi_list (pe_slK (pe_slice sl_list (pv 4) po_none (po_some (pv 7))) (pe_un un_neg pe_int)))) pa_nil)) (pa_cons (pe_slice sl_tupW (pv 9) po_none (po_some pe_int)) pa_nil))) (pv 11) (fun _ _ => rfl)))
      (pss_one (ps_set (i := 10) sc__law_kinds.nd rfl (Or.inl rfl) (pe_callF D._law_merge G__law_merge (hr.mono (by omega)) (by rfl) (pa_cons (pv 8) (pa_cons (pe_op op_cat (pe_comp rfl (CompScope.of ["_law_one"] [6] ["_law_one", "_law_orders"] (defScope (top 20)) ["_law_purse_here", "_law_many", "_law_used", "_law_fields", "_law_names", "_law_kinds_here", "_law_orders", "_law_k", "_law_kind", "_law_elders", "_law_order", "_law_turn"] rfl rfl (by decide +kernel)) ⟨fun _ _ _ _ _ => (pg_name (i := 0) (show List.Nodup [("_law_one" : Str), ("_law_orders" : Str)] by decide +kernel) rfl (Or.inl (lookup_relabel_local rfl)) (.inr (lookup_relabel_local rfl))), fun _ _ _ _ _ => pts_nil, fun _ _ _ _ _ => (pe_dget (hu_of hr) (pv 1) (pv 0) (fun _ _ => rfl))⟩ (pi_tup (pv 9))) (pe_lst (pa_cons (pv 9) pa_nil))) pa_nil))))))
      pss_nil)))
      (pss_cons (ps_dput (hu_of hr) (pv 6) (pv 8) (pv 10) rfl)
      (pss_one (ps_expr (pe_bm PySem.F.plainAttrs_list PySem.F.slot_list_append PySem.F.type_list_append mt_append (pv 5) (pa_cons (pe_tup (pa_cons (pv 8) (pa_cons (pv 9) (pa_cons (pe_callF D._law_some G__law_some (hr.mono (by omega)) (by rfl) (pa_cons (pv 0) (pa_cons (pv 3) (pa_cons pe_int pa_nil)))) pa_nil)))) pa_nil)))))))))
      (pss_one (ps_ret (pe_callTy call_tuple_of (by rfl) D.b_tuple bt_tuple (pa_cons (pv 5) pa_nil))))))), ?_⟩
    refine ⟨_, rfl, _, rfl, _, rfl, p, u, n, rfl, hp, hu, by omega, by omega, fun l ns H1 _ hns nd0 hl1 o1 p1 => ?_⟩
    obtain ⟨nd, nx⟩ := nd0
    have lp : l ≠ p := p1.ne hl1
    have hns7 : ns.length ≤ 7 := by omega
    refine ⟨Nat.zero_le _, fun rl hrl od hod => ⟨by show 2 ≤ sizeLine; decide, fun tq htq => ?_⟩⟩
    have p3 := ((p1.upd_ne (o := .lst []) (p1.neN hrl)).upd_ne (o := .dK []) ((p1.upd_ne (p1.neN hrl)).neN hod)).upd_ne (o := .tup [.ref rl, .ref od]) (((p1.upd_ne (p1.neN hrl)).upd_ne ((p1.upd_ne (p1.neN hrl)).neN hod)).neN htq)
    have o3 : Off p H (upd (upd (upd H1 rl (.lst [])) od (.dK [])) tq (.tup [.ref rl, .ref od])) := o1.trans ((Off.new hrl).trans ((Off.new hod).trans (Off.new htq)))
    have rlo : rl ≠ od := ne_of_none upd_same hod
    have odt : od ≠ tq := ne_of_none upd_same htq
    have rlt : rl ≠ tq := fun e => by rw [← e, upd_ne rlo, upd_same] at htq; cases htq
    have hrl3 : (upd (upd (upd H1 rl (.lst [])) od (.dK [])) tq (.tup [.ref rl, .ref od])) rl = some (.lst []) := by rw [upd_ne rlt, upd_ne rlo, upd_same]
    have hod3 : (upd (upd (upd H1 rl (.lst [])) od (.dK [])) tq (.tup [.ref rl, .ref od])) od = some (.dK []) := by rw [upd_ne odt, upd_same]
    have lrl : l ≠ rl := ne_of_none hl1 hrl
    have lod : l ≠ od := fun e => by rw [← e, upd_ne lrl, hl1] at hod; cases hod
    have ltq : l ≠ tq := fun e => by rw [← e, upd_ne lod, upd_ne lrl, hl1] at htq; cases htq
    have hl3 : (upd (upd (upd H1 rl (.lst [])) od (.dK [])) tq (.tup [.ref rl, .ref od])) l = some (.lst (ns.map V.str)) := by rw [upd_ne ltq, upd_ne lod, upd_ne lrl]; exact hl1
    have nof : ∀ {b : Addr}, b ≠ p → H1 b = none → H b = none := fun {b} hb hn => by
      cases q : H b with
      | none => rfl
      | some o => rw [o1 b o hb q] at hn; cases hn
    have hrlH : H rl = none := nof (p1.neN hrl).symm hrl
    have hodH : H od = none := nof ((p1.upd_ne (p1.neN hrl)).neN hod).symm (by rw [upd_ne rlo.symm] at hod; exact hod)
    have rlp : rl ≠ p := (p1.neN hrl).symm
    have odp : od ≠ p := ((p1.upd_ne (p1.neN hrl)).neN hod).symm
    refine ⟨tq, _, rfl, SqT.of upd_same, rfl, _, _, rfl, _, _, rfl, rfl, ?_⟩
    generalize upd (upd (upd H1 rl (.lst [])) od (.dK [])) tq (.tup [.ref rl, .ref od]) = H3 at p3 o3 hrl3 hod3 hl3
    refine ⟨_, rfl, l, _, rfl, SqL.of hl3, for_enum (K := K) (a := l) (xs := ns.map V.str) (fun i σ H2 => ∃ (rs : List KR) (ys : List V) (kvs : List (Key × V)) (g : Str → List Str) (v7 v8 v9 v10 v11 : Option V), σ = [some (.ref p), some (.int n), some (.ref u), some (.ref fl), some (.ref l), some (.ref rl), some (.ref od), v7, v8, v9, v10, v11] ∧
      (rs.length = i ∧ ∀ r ∈ rs, KOk r) ∧ kvs.length ≤ i ∧ OrdsG H2 kvs g (ns.take i) ∧ GOk g (ns.take i) ∧ H2 rl = some (.lst ys) ∧ DpL H2 (rs.map krT) ys ∧ H2 od = some (.dK kvs) ∧ H2 l = some (.lst (ns.map V.str)) ∧ Off p H H2 ∧ Pu H2 p)
      ⟨[], [], [], fun _ => [], _, _, _, _, _, rfl, ⟨rfl, by simp⟩, Nat.le_refl _, fun x hx => by simp at hx, fun x hx => by simp at hx, hrl3, .nil, hod3, hl3, o3, p3⟩ (fun i σ H2 _ ⟨_, _, _, _, _, _, _, _, _, _, _, _, _, _, _, _, _, e, _⟩ => SqL.of e) ?_ ?_⟩
    · rintro i x σ H2 q0 hi ⟨rs, ys, kvs, g, v7, v8, v9, v10, v11, rfl, ko, hkl, og, gg, hrl2, dl2, hod2, hl2, o2, p2⟩ hq0
      have hil : i < ns.length := by
        have := (List.getElem?_eq_some_iff.mp hi).1
        rwa [List.length_map] at this
      have ex : x = .str ns[i] := by
        rw [List.getElem?_map, List.getElem?_eq_getElem hil] at hi
        exact (Option.some.inj hi).symm
      subst ex
      have hni : ¬ ns[i] ∈ ns.take i := fun h => by
        have nd' := nd
        rw [← List.take_append_drop i ns] at nd'
        exact (List.nodup_append.mp nd').2.2 _ h _ (by rw [List.drop_eq_getElem_cons hil]; exact List.mem_cons_self) rfl
      refine ⟨q0, _, rfl, SqT.of upd_same, rfl, _, _, rfl, _, _, rfl, rfl, ?_⟩
      have s0 : Same H2 (upd H2 q0 (.tup [.int i, .str ns[i]])) := Same.new hq0
      refine ⟨_, rfl, _, rfl, _, rfl, _, rfl, l, _, rfl, SqL.of (s0 l _ hl2), fun m hm => ?_⟩
      have s1 := s0.trans (Same.new (o := .lst (cutV (ns.map V.str) none (some (i : Int)))) hm)
      have hm1 : (upd (upd H2 q0 (.tup [.int i, .str ns[i]])) m (.lst (cutV (ns.map V.str) none (some (i : Int))))) m = some (.lst ((ns.take i).map V.str)) := by rw [upd_same, cutV_to _ _ (by rw [List.length_map]; omega), List.map_take]
      generalize upd (upd H2 q0 (.tup [.int i, .str ns[i]])) m (.lst (cutV (ns.map V.str) none (some (i : Int)))) = H4 at s1 hm1
      have hti : (ns.take i).length ≤ 7 := by rw [List.length_take]; omega
      refine ⟨by show 2 ≤ sizeLine; decide, fun m3 hm3 => ?_⟩
      have p4 : Pu H4 p := p2.same s1
      have pm3 : p ≠ m3 := p4.neN hm3
      have mm3 : m ≠ m3 := ne_of_none hm1 hm3
      refine ⟨_, rfl, p, 4, rfl, p4.upd_ne pm3, by decide, by decide, fun r a1 b1 c1 l1 u1 => ?_⟩
      have mp : m ≠ p := p4.ne hm1
      have o4 : Off p H2 (upd (upd H4 m3 (.lst [.int 3, .int 12])) p (.lst [.int a1, .int b1, .int c1])) := s1.off.trans ((Off.new hm3).trans Off.upd)
      have p4' : Pu (upd (upd H4 m3 (.lst [.int 3, .int 12])) p (.lst [.int a1, .int b1, .int c1])) p := Pu.upd
      have hm34 : (upd (upd H4 m3 (.lst [.int 3, .int 12])) p (.lst [.int a1, .int b1, .int c1])) m3 = some (.lst [.int 3, .int 12]) := by rw [upd_ne pm3.symm, upd_same]
      have hm4 : (upd (upd H4 m3 (.lst [.int 3, .int 12])) p (.lst [.int a1, .int b1, .int c1])) m = some (.lst ((ns.take i).map V.str)) := by rw [upd_ne mp, upd_ne mm3]; exact hm1
      generalize upd (upd H4 m3 (.lst [.int 3, .int 12])) p (.lst [.int a1, .int b1, .int c1]) = H4' at o4 p4' hm34 hm4
      obtain ⟨z, hz', hz12⟩ : ∃ z : Nat, atI [V.int 3, V.int 12] (if decide (V.int r = V.int 1) = true then 1 else 0) = some (.int (z : Nat)) ∧ z ≤ 12 := by
        by_cases hb : decide (V.int r = V.int 1) = true
        · rw [if_pos hb]
          exact ⟨12, atI_nat (j := 1) rfl, by decide⟩
        · rw [if_neg hb]
          exact ⟨3, atI_nat (j := 0) rfl, by decide⟩
      refine ⟨rfl, .inr ⟨_, rfl, m3, _, _, _, rfl, rfl, SqL.of hm34, hz', ?_⟩⟩
      refine ⟨p, m, ns.take i, z, rfl, p4', hm4, by omega, by omega, fun q es H5 hq sub nde _ o5 p5 => ?_⟩
      have o5 : Off p H2 H5 := o4.trans o5
      have hod5 := o5 od _ odp hod2
      have tu5 : Tups H2 H5 := fun c zs e => by
        obtain ⟨x1, x2, x3, ep⟩ := p2
        exact o5 c _ (ne_of e ep (fun z => nomatch z)) e
      have og5 := og.mono tu5
      have hel : es.length ≤ 7 := Nat.le_trans (nodup_le nde (m := ns.take i) sub) hti
      refine ⟨_, rfl, _, rfl, q, rfl, ⟨_, SqT.of hq⟩, fun D1 hD1 => ?_⟩
      have s4 : ∀ u, Same H5 (upd H5 D1 u) := fun u => Same.new hD1
      refine comp_by (n := (es.map V.str).length) (fun j ys H6 => RowsT H5 ys ((es.take j).map g) ∧ H6 = upd H5 D1 (.lst ys)) ⟨.nil, rfl⟩ ?_ ?_
      rotate_left
      · rintro j ys H6 hj ⟨rt, rfl⟩
        have hj' : j < es.length := by rw [List.length_map] at hj; exact hj
        have ej : (es.map V.str)[j]? = some (.str es[j]) := by rw [List.getElem?_map, List.getElem?_eq_getElem hj']; rfl
        refine ⟨⟨_, _, SqT.of (s4 _ q _ hq), ej⟩, ?_⟩
        rintro y H7 ⟨rfl, yy⟩ σo ho
        obtain ⟨oo, rfl⟩ := own1 ho
        have ey := yy _ (SqT.of (s4 _ q _ hq))
        rw [ej] at ey
        cases ey
        obtain ⟨q', h1, h2, _⟩ := og5 es[j] (sub _ (List.getElem_mem hj'))
        refine ⟨⟨[_], rfl, rfl⟩, yes_by ⟨_, rfl, _, rfl, od, .ref q', rfl, .inl ⟨kvs, .inr es[j], .inl (s4 _ od _ hod5), rfl, h1.symm⟩, by rw [Paired.length rt, List.length_map, List.length_take]; omega, upd_same, less_by hj ⟨?_, by rw [upd_upd]⟩⟩⟩
        rw [take_snoc hj', List.map_append]
        exact pairedSnoc rt ⟨q', rfl, h2⟩
      rintro us H6 ⟨rt, rfl⟩
      rw [List.length_map, List.take_of_length_le (Nat.le_refl _)] at rt
      refine ⟨⟨_, SqT.of (s4 _ q _ hq), Nat.le_refl _⟩, ?_⟩
      have hyl : us.length = es.length := by rw [Paired.length rt, List.length_map]
      refine ⟨_, rfl, by show 1 ≤ sizeLine; decide, fun m2 hm2 => ?_⟩
      have s6 := (s4 (.lst us)).trans (Same.new (o := .lst [.ref q]) hm2)
      have hD6 : (upd (upd H5 D1 (.lst us)) m2 (.lst [.ref q])) D1 = some (.lst us) := by rw [upd_ne (ne_of_none upd_same hm2), upd_same]
      refine ⟨D1, m2, us, [.ref q], rfl, rfl, hD6, upd_same, by show us.length + 1 ≤ sizeLine; omega, fun ra hra => ?_⟩
      have s7 := s6.trans (Same.new (o := .lst (us ++ [.ref q])) hra)
      have hra7 : (upd (upd (upd H5 D1 (.lst us)) m2 (.lst [.ref q])) ra (.lst (us ++ [.ref q]))) ra = some (.lst (us ++ [.ref q])) := upd_same
      generalize upd (upd (upd H5 D1 (.lst us)) m2 (.lst [.ref q])) ra (.lst (us ++ [.ref q])) = H7 at s7 hra7
      have rt7 : RowsT H7 (us ++ [.ref q]) (rowsG g es) := pairedSnoc (rt.mono (Same.tups s7)) ⟨q, rfl, s7 q _ hq⟩
      have tt := tot_rowsG (g := g) (es := es) fun x hx => by
        obtain ⟨_, _, _, h⟩ := og5 x (sub x hx)
        exact h
      refine ⟨ns[i], ra, _, rowsG g es, rfl, hra7, rt7, by omega, by unfold rowsG; rw [List.length_append, List.length_map, List.length_singleton]; omega, fun v r H8 hm res s8 => ?_⟩
      have s58 := s7.trans s8
      have p8 : Pu H8 p := p5.same s58
      have o8 : Off p H2 H8 := o5.trans s58.off
      have hq8 := s58 q _ hq
      refine ⟨2, rfl, by omega, by omega, ?_⟩
      refine for_range (lo := 0) (n := 2) (fun j σ H3 => ∃ (q : Addr) (es : List Str) (vo : V) (r : Option (List Str)) (v11 : Option V), σ = [some (.ref p), some (.int n), some (.ref u), some (.ref fl), some (.ref l), some (.ref rl), some (.ref od), some (.int i), some (.str ns[i]), some (.ref q), some vo, v11] ∧ H3 q = some (.tup (es.map V.str)) ∧ ResM H3 ns[i] r vo ∧ Mg (full (rowsG g es)) r ∧ (∀ x ∈ es, x ∈ ns.take i) ∧ es.length ≤ 7 ∧ (j = 2 → r ≠ none) ∧ Off p H2 H3 ∧ Pu H3 p)
        ⟨q, es, v, r, _, rfl, hq8, res, hm, sub, hel, fun z => absurd z (by decide), o8, p8⟩ ?_ ?_
      · clear hq8 o8 p8 s58 hm res hel sub nde hq
        rintro j σ HX hj ⟨q, es, vo, r, v11, rfl, hq, res, hm, sub, hel, _, oX, pX⟩
        have hlX := oX l _ lp hl2
        have hodX := oX od _ odp hod2
        have tu2X : Tups H2 HX := fun c zs e => by
          obtain ⟨x1, x2, x3, ep⟩ := p2
          exact oX c _ (ne_of e ep (fun z => nomatch z)) e
        cases r with
        | some os =>
          have rv : ∃ a, vo = V.ref a := by
            obtain ⟨a, h, _⟩ := res
            exact ⟨a, h⟩
          obtain ⟨a0, ea0⟩ := rv
          subst ea0
          refine ⟨_, rfl, rfl, _, rfl, iteNeg (by rw [decide_eq_false (fun z => nomatch z)]; exact Bool.false_ne_true) ?_⟩
          exact ⟨q, es, _, some os, _, rfl, hq, res, hm, sub, hel, (fun _ z => by cases z), oX, pX⟩
        | none =>
          have ev : vo = .non := res
          subst ev
          refine ⟨_, rfl, rfl, _, rfl, itePos (decide_eq_true rfl) ?_⟩
          refine ⟨_, rfl, _, rfl, _, rfl, l, _, rfl, SqL.of hlX, fun m hm' => ?_⟩
          have sm : Same HX (upd HX m (.lst (cutV (ns.map V.str) none (some (i : Int))))) := Same.new hm'
          have hmm : (upd HX m (.lst (cutV (ns.map V.str) none (some (i : Int))))) m = some (.lst ((ns.take i).map V.str)) := by rw [upd_same, cutV_to _ _ (by rw [List.length_map]; omega), List.map_take]
          generalize upd HX m (.lst (cutV (ns.map V.str) none (some (i : Int)))) = HY at sm hmm
          refine ⟨_, rfl, m, _, _, rfl, rfl, SqL.of hmm, .inr ⟨rfl, fun m2 hm2 => ?_⟩⟩
          have sm2 : Same HY (upd HY m2 (.lst ((ns.take i).map V.str).reverse)) := Same.new hm2
          have hmm2 : (upd HY m2 (.lst ((ns.take i).map V.str).reverse)) m2 = some (.lst (((ns.take i).reverse).map V.str)) := by rw [upd_same, List.map_reverse]
          generalize upd HY m2 (.lst ((ns.take i).map V.str).reverse) = HZ at sm2 hmm2
          generalize hrv : (ns.take i).reverse = rv at hmm2
          have rvl : rv.length ≤ 7 := by rw [← hrv, List.length_reverse]; exact hti
          have hqZ := (sm.trans sm2) q _ hq
          refine ⟨m2, rfl, ⟨_, SqL.of hmm2⟩, fun D1 hD1 => ?_⟩
          refine comp_by (n := (rv.map V.str).length) (fun b ys H6 => ys = ((rv.take b).filter (fun x => decide (x ∈ es))).map V.str ∧ H6 D1 = some (.lst ys) ∧ Same HZ H6) ⟨rfl, upd_same, Same.new hD1⟩ ?_ ?_
          rotate_left
          · rintro b ys H6 hb ⟨rfl, hD6, s6⟩
            have hb' : b < rv.length := by rw [List.length_map] at hb; exact hb
            have ej : (rv.map V.str)[b]? = some (.str rv[b]) := by rw [List.getElem?_map, List.getElem?_eq_getElem hb']; rfl
            refine ⟨⟨_, _, SqL.of (s6 m2 _ hmm2), ej⟩, ?_⟩
            rintro y H7 ⟨rfl, yy⟩ σo ho
            obtain ⟨oo, rfl⟩ := own1 ho
            have ey := yy _ (SqL.of (s6 m2 _ hmm2))
            rw [ej] at ey
            cases ey
            have ef : (rv.take (b + 1)).filter (fun x => decide (x ∈ es)) = (rv.take b).filter (fun x => decide (x ∈ es)) ++ (if decide (rv[b] ∈ es) = true then [rv[b]] else []) := by
              rw [take_snoc hb', List.filter_append, List.filter_cons]
              rfl
            have fl' : ((rv.take b).filter (fun x => decide (x ∈ es))).length ≤ 7 := Nat.le_trans (List.length_filter_le _ _) (by rw [List.length_take]; omega)
            refine ⟨⟨[_], rfl, rfl⟩, _, rfl, _, rfl, q, _, rfl, .inr (SqT.of (s6 q _ hqZ)), rfl, flat_strs es, _, rfl, ?_⟩
            have ei : inV (.str rv[b]) (es.map V.str) = decide (rv[b] ∈ es) := inV_strs ..
            by_cases hin : rv[b] ∈ es
            · refine itePos (by rw [ei]; exact decide_eq_true hin) ?_
              refine ⟨_, rfl, by rw [List.length_map]; omega, hD6, less_by hb ⟨?_, upd_same, fun c o e => by rw [upd_ne (ne_of_none e hD1)]; exact s6 c o e⟩⟩
              rw [ef, if_pos (decide_eq_true hin), List.map_append]
              rfl
            · refine iteNeg (by rw [ei, decide_eq_false hin]; exact Bool.false_ne_true) ?_
              refine less_by hb ⟨?_, hD6, s6⟩
              rw [ef, if_neg (by rw [decide_eq_false hin]; exact Bool.false_ne_true), List.append_nil]
          rintro ys H6 ⟨rfl, hD6, s6⟩
          rw [List.length_map, List.take_of_length_le (Nat.le_refl _)] at hD6
          refine ⟨⟨_, SqL.of (s6 m2 _ hmm2), Nat.le_refl _⟩, D1, _, rfl, .inl ⟨SqL.of hD6, fun qt hqt => ?_⟩⟩
          generalize hfe : rv.filter (fun x => decide (x ∈ es)) = fe at hqt hD6
          have sqt : Same H6 (upd H6 qt (.tup (fe.map V.str))) := Same.new hqt
          have hqtt : (upd H6 qt (.tup (fe.map V.str))) qt = some (.tup (fe.map V.str)) := upd_same
          show _
          generalize upd H6 qt (.tup (fe.map V.str)) = HT at sqt hqtt
          have sXT := ((sm.trans sm2).trans s6).trans sqt
          refine ⟨_, rfl, _, rfl, q, _, rfl, sXT q _ hq, fun qs HS hqs sS => ?_⟩
          rw [cut1_to, ← List.map_take] at hqs
          refine ⟨by show 2 ≤ sizeLine; decide, fun m5 hm5 => ?_⟩
          have s5m : Same HS (upd HS m5 (.lst [.ref qt, .ref qs])) := Same.new hm5
          have hm55 : (upd HS m5 (.lst [.ref qt, .ref qs])) m5 = some (.lst [.ref qt, .ref qs]) := upd_same
          generalize upd HS m5 (.lst [.ref qt, .ref qs]) = I5 at s5m hm55
          have sX5 := (sXT.trans sS).trans s5m
          obtain ⟨qb, eb, hvb, hqb, subb, helb, hlb⟩ : ∃ (qb : Addr) (eb : List Str), atI [V.ref qt, V.ref qs] (0 + (j : Int)) = some (.ref qb) ∧ I5 qb = some (.tup (eb.map V.str)) ∧ (∀ x ∈ eb, x ∈ ns.take i) ∧ eb.length ≤ 7 ∧ (j + 1 = 2 → eb.length ≤ 1) := by
            rcases (by omega : j = 0 ∨ j = 1) with rfl | rfl
            · refine ⟨qt, fe, atI_nat (j := 0) rfl, (sS.trans s5m) qt _ hqtt, fun x hx => ?_, ?_, fun z => absurd z (by decide)⟩
              · rw [← hfe] at hx
                have := (List.mem_filter.mp hx).1
                rw [← hrv] at this
                exact List.mem_reverse.mp this
              · rw [← hfe]
                exact Nat.le_trans (List.length_filter_le _ _) rvl
            · exact ⟨qs, es.take 1, atI_nat (j := 1) rfl, s5m qs _ hqs, fun x hx => sub x (List.mem_of_mem_take hx), by rw [List.length_take]; omega, fun _ => by rw [List.length_take]; omega⟩
          refine ⟨_, rfl, m5, _, _, _, rfl, rfl, SqL.of hm55, hvb, ?_⟩
          have hod6 := sX5 od _ hodX
          have og6 := og.mono (tu2X.trans (Same.tups sX5))
          refine ⟨_, rfl, _, rfl, qb, rfl, ⟨_, SqT.of hqb⟩, fun D1 hD1 => ?_⟩
          have s4 : ∀ u, Same I5 (upd I5 D1 u) := fun u => Same.new hD1
          refine comp_by (n := (eb.map V.str).length) (fun j ys I6 => RowsT I5 ys ((eb.take j).map g) ∧ I6 = upd I5 D1 (.lst ys)) ⟨.nil, rfl⟩ ?_ ?_
          rotate_left
          · rintro j ys I6 hj ⟨rt, rfl⟩
            have hj' : j < eb.length := by rw [List.length_map] at hj; exact hj
            have ej : (eb.map V.str)[j]? = some (.str eb[j]) := by rw [List.getElem?_map, List.getElem?_eq_getElem hj']; rfl
            refine ⟨⟨_, _, SqT.of (s4 _ qb _ hqb), ej⟩, ?_⟩
            rintro y I7 ⟨rfl, yy⟩ σo ho
            obtain ⟨oo, rfl⟩ := own1 ho
            have ey := yy _ (SqT.of (s4 _ qb _ hqb))
            rw [ej] at ey
            cases ey
            obtain ⟨q', h1, h2, _⟩ := og6 eb[j] (subb _ (List.getElem_mem hj'))
            refine ⟨⟨[_], rfl, rfl⟩, yes_by ⟨_, rfl, _, rfl, od, .ref q', rfl, .inl ⟨kvs, .inr eb[j], .inl (s4 _ od _ hod6), rfl, h1.symm⟩, by rw [Paired.length rt, List.length_map, List.length_take]; omega, upd_same, less_by hj ⟨?_, by rw [upd_upd]⟩⟩⟩
            rw [take_snoc hj', List.map_append]
            exact pairedSnoc rt ⟨q', rfl, h2⟩
          rintro us I6 ⟨rt, rfl⟩
          rw [List.length_map, List.take_of_length_le (Nat.le_refl _)] at rt
          refine ⟨⟨_, SqT.of (s4 _ qb _ hqb), Nat.le_refl _⟩, ?_⟩
          have hyl : us.length = eb.length := by rw [Paired.length rt, List.length_map]
          refine ⟨_, rfl, by show 1 ≤ sizeLine; decide, fun m2 hm2 => ?_⟩
          have s6 := (s4 (.lst us)).trans (Same.new (o := .lst [.ref qb]) hm2)
          have hD6 : (upd (upd I5 D1 (.lst us)) m2 (.lst [.ref qb])) D1 = some (.lst us) := by rw [upd_ne (ne_of_none upd_same hm2), upd_same]
          refine ⟨D1, m2, us, [.ref qb], rfl, rfl, hD6, upd_same, by show us.length + 1 ≤ sizeLine; omega, fun ra hra => ?_⟩
          have s7 := s6.trans (Same.new (o := .lst (us ++ [.ref qb])) hra)
          have hra7 : (upd (upd (upd I5 D1 (.lst us)) m2 (.lst [.ref qb])) ra (.lst (us ++ [.ref qb]))) ra = some (.lst (us ++ [.ref qb])) := upd_same
          generalize upd (upd (upd I5 D1 (.lst us)) m2 (.lst [.ref qb])) ra (.lst (us ++ [.ref qb])) = I7 at s7 hra7
          have rt7 : RowsT I7 (us ++ [.ref qb]) (rowsG g eb) := pairedSnoc (rt.mono (Same.tups s7)) ⟨qb, rfl, s7 qb _ hqb⟩
          have tt := tot_rowsG (g := g) (es := eb) fun x hx => by
            obtain ⟨_, _, _, h⟩ := og6 x (subb x hx)
            exact h
          refine ⟨ns[i], ra, _, rowsG g eb, rfl, hra7, rt7, by omega, by unfold rowsG; rw [List.length_append, List.length_map, List.length_singleton]; omega, fun vb rb I8 hmb resb s8 => ?_⟩
          have t58 := s7.trans s8
          have p9 : Pu I8 p := (pX.same sX5).same t58
          have o9 : Off p H2 I8 := (oX.trans sX5.off).trans t58.off
          refine ⟨qb, eb, vb, rb, _, rfl, t58 qb _ hqb, resb, hmb, subb, helb, fun h2 => ?_, o9, p9⟩
          obtain ⟨os, hos⟩ := mg_eld gg subb (.inl (hlb h2))
          have er := Mg.det hmb hos
          intro z
          rw [z] at er
          cases er
      · clear hq8 o8 p8 s58 hm res hel sub nde hq
        rintro σ H8 ⟨q, es, vo, r, v11, rfl, hq8, res, hos, sub, hel, hne, o8, p8⟩
        obtain ⟨os, rfl⟩ : ∃ os, r = some os := by
          cases r with
          | none => exact absurd rfl (hne rfl)
          | some os => exact ⟨os, rfl⟩
        obtain ⟨qo, rfl, hqo⟩ : ∃ qo, vo = V.ref qo ∧ H8 qo = some (.tup ((ns[i] :: os).map V.str)) := res
        have hod8 := o8 od _ odp hod2
        have hrl8 := o8 rl _ rlp hrl2
        have hl8 := o8 l _ lp hl2
        obtain ⟨ndo, subo⟩ := mg_new gg sub hos
        have hol : (ns[i] :: os).length ≤ 8 := by
          have := nodup_le ndo subo
          rw [List.length_cons]
          omega
        have tu28 : Tups H2 H8 := fun c zs e => by
          obtain ⟨x1, x2, x3, ep⟩ := p2
          exact o8 c _ (ne_of e ep (fun z => nomatch z)) e
        refine ⟨_, rfl, _, rfl, _, rfl, od, _, rfl, DPut.k (k := .inr ns[i]) hod8 (by omega), ?_⟩
        have tu9 : Tups H8 (upd H8 od (.dK (putK kvs (.inr ns[i]) (.ref qo)))) := fun c zs e => by
          rw [upd_ne (ne_of e hod8 (fun z => nomatch z))]
          exact e
        have og9 := (og.mono tu28).put (x := ns[i]) tu9 (tu9 qo _ hqo) hol
        have gg9 := gg.put hni ndo subo
        have p9 := p8.upd_ne (o := .dK (putK kvs (.inr ns[i]) (.ref qo))) odp.symm
        have kp9 : ∀ b u, b ≠ od → H8 b = some u → (upd H8 od (.dK (putK kvs (.inr ns[i]) (.ref qo)))) b = some u := fun b u hb e => by rw [upd_ne hb]; exact e
        have hod9 : (upd H8 od (.dK (putK kvs (.inr ns[i]) (.ref qo)))) od = some (.dK (putK kvs (.inr ns[i]) (.ref qo))) := upd_same
        have tu29 : Tups H2 (upd H8 od (.dK (putK kvs (.inr ns[i]) (.ref qo)))) := tu28.trans tu9
        have hq9 := tu9 q _ hq8
        have hrl9 := kp9 rl _ rlo hrl8
        have hl9 := kp9 l _ lod hl8
        have o9 : Off p H (upd H8 od (.dK (putK kvs (.inr ns[i]) (.ref qo)))) := fun b u hb e => kp9 b u (ne_of_none e hodH) (o8 b u hb (o2 b u hb e))
        have hkl9 : (putK kvs (.inr ns[i]) (V.ref qo)).length ≤ i + 1 := Nat.le_trans (length_putK _ _ _) (by omega)
        generalize hk9 : putK kvs (.inr ns[i]) (V.ref qo) = kvs9 at og9 p9 hod9 tu29 hq9 hrl9 hl9 o9 hkl9
        generalize upd H8 od (.dK kvs9) = H9 at og9 p9 hod9 tu29 hq9 hrl9 hl9 o9
        clear kp9 tu9 hk9
        have hfl9 := o9 fl _ flp hfl
        refine ⟨_, rfl, .inl ⟨rfl, _, SqL.of hrl9⟩, _, rfl, _, rfl, _, rfl, _, rfl, p, fl, fs, 3, rfl, p9, hfl9, by decide, hfs, fun qf fs' H13 hqf subf _ hfl' o13 p13 => ?_⟩
        refine ⟨by show 3 ≤ sizeLine; decide, fun qr hqr => ?_⟩
        have tu913 : Tups H9 H13 := fun c zs e => by
          obtain ⟨x1, x2, x3, ep⟩ := p9
          exact o13 c _ (ne_of e ep (fun z => nomatch z)) e
        have hrl13 := o13 rl _ rlp hrl9
        have hod13 := o13 od _ odp hod9
        have hl13 := o13 l _ lp hl9
        have hyl : ys.length = i := by
          have e1 := dl2.length
          rw [List.length_map] at e1
          have := ko.1
          omega
        have qrr : rl ≠ qr := ne_of_none hrl13 hqr
        refine ⟨rl, ys, .ref qr, rfl, rfl, by rw [upd_ne qrr]; exact hrl13, by omega, ?_⟩
        have tu15 : Tups H13 (upd (upd H13 qr (.tup [.str ns[i], .ref q, .ref qf])) rl (.lst (ys ++ [.ref qr]))) := fun c zs e => by
          rw [upd_ne (ne_of e hrl13 (fun z => nomatch z)), upd_ne (ne_of_none e hqr)]
          exact e
        refine ⟨rs ++ [⟨ns[i], es, fs'⟩], ys ++ [.ref qr], kvs9, putG g ns[i] (ns[i] :: os), _, _, _, _, _, rfl, ⟨by rw [List.length_append, ko.1]; rfl, fun r hr' => ?_⟩, hkl9, ?_, ?_, upd_same, ?_, ?_, ?_, ?_, ?_⟩
        · rcases List.mem_append.mp hr' with h' | h'
          · exact ko.2 r h'
          · rw [List.mem_singleton.mp h']
            exact ⟨nx _ (List.getElem_mem hil), hel, by show fs'.length ≤ 7; omega, fun x hx => nx x (List.mem_of_mem_take (sub x hx)), fun x hx => hfx x (subf x hx)⟩
        · rw [take_snoc hil]
          exact og9.mono (tu913.trans tu15)
        · rw [take_snoc hil]
          exact gg9
        · rw [List.map_append]
          refine (dl2.mono (tu29.trans (tu913.trans tu15))).append (.cons (K25.Dp.kr (e := q) (f := qf) ?_ ((tu913.trans tu15) q _ hq9) (tu15 qf _ hqf)) .nil)
          rw [upd_ne qrr.symm, upd_same]
        · rw [upd_ne rlo.symm, upd_ne (ne_of_none hod13 hqr)]
          exact hod13
        · rw [upd_ne lrl, upd_ne (ne_of_none hl13 hqr)]
          exact hl13
        · intro b u hb e
          rw [upd_ne (ne_of_none e hrlH)]
          exact (Off.new hqr : L2.Off p _ _) b u hb (o13 b u hb (o9 b u hb e))
        · exact (p13.upd_ne (p13.neN hqr)).upd_ne rlp.symm
    · rintro σ H2 ⟨rs, ys, kvs, g, v7, v8, v9, v10, v11, rfl, ko, hkl, og, gg, hrl2, dl2, hod2, hl2, o2, p2⟩
      rw [List.length_map] at ko
      refine ⟨_, rfl, rl, _, rfl, .inl ⟨SqL.of hrl2, fun q hq => ?_⟩⟩
      have hlen : rs.length = ns.length := ko.1
      exact k _ rs _ (L2.Dp.tup upd_same (dl2.mono (Same.tups (Same.new hq)))) ko.2 (by omega) (o2.trans (Off.new hq)) (p2.upd_ne (p2.neN hq))
end
end K25
end
section
set_option autoImplicit false
namespace L2
open PySem PySem.Spec PyProof.Rows
section
variable {X : Cx}
def rCatN : R2 := fun x y H Q => ∃ a b xs ys, x = .ref a ∧ y = .ref b ∧ H a = some (.tup xs) ∧ H b = some (.tup ys) ∧ xs.length + ys.length ≤ sizeLine ∧ ∀ p H', H' p = some (.tup (xs ++ ys)) → Same H H' → Q (.ref p) H'
theorem op_catN : OpR X (binaryOp .Add) rCatN := by
  intro pins s σ H x y v u Q I rx ry h
  obtain ⟨a, b, xs, ys, rfl, rfl, ha, hb, hz, q⟩ := h
  cases xs with
  | nil => exact op_catT0 pins s σ H (.ref a) (.ref b) v u Q I rx ry ⟨a, b, ys, rfl, rfl, ha, hb, q b H hb (Same.refl H)⟩
  | cons x0 xr => exact op_catW pins s σ H (.ref a) (.ref b) v u Q I rx ry ⟨a, b, x0 :: xr, ys, rfl, rfl, ha, hb, List.cons_ne_nil _ _, hz, q⟩
end
end L2
end
section
set_option autoImplicit false
namespace K25
open PySem PyProof.Rows L2
theorem by_restZ {G : Prop} (S : Int → Prop) {NX : Int → Prop} (use : (∀ z, S z → NX z) → G) (rest : ∀ z, S z → NX z) : G := use rest
def keyT (k : Str × Str) : T := .tup [.str k.1, .str k.2]
theorem Off2.fresh {p rm : Addr} {H H1 H' : Hp} (h : H rm = none) (s : Same H H1) (o : Off2 p rm H1 H') : Off p H H' := fun b o' n e => o b o' n (ne_of_none e h) (s b o' e)
section
variable {P : Program} {w : World} {K : PySem.W.Frag} {mg : Str → Option Value} {base : Heap} {t : Adr}
def spP : Sp := fun vs H Q _ => ∃ (p : Addr), vs = [.ref p] ∧ Pu H p ∧ ∀ (v : V) (ks : List KR) (ds : List DR) (run : T) (brs : List (List (List Str))) (rr : List (List Str)) H', ProgAt H' v ks ds run → GoodP ks ds run brs rr → Off p H H' → Q v H'
theorem ok_p (D : Defs K mg t) : FnOk P w K mg base CX0 12 t._law_p.1 t._law_p.2 ["_law_purse_here"] spP := by
  have G__law_take : FnOk P w K mg base CX0 1 t._law_take.1 t._law_take.2 _ spTake := ok_take D
  have G__law_words : FnOk P w K mg base CX0 3 t._law_words.1 t._law_words.2 _ spWordsW := ok_wordsW D
  have G__law_some : FnOk P w K mg base CX0 2 t._law_some.1 t._law_some.2 _ spSome := ok_some D
  have G__law_kinds : FnOk P w K mg base CX0 4 t._law_kinds.1 t._law_kinds.2 _ spKinds := ok_kinds D
  have G__law_b : FnOk P w K mg base CX0 11 t._law_b.1 t._law_b.2 _ (spS (SB 3) 0 2) := ok_b D 2
  have hz : sizeLine = 16777216 := sizeLine_eq
  refine D._law_p.fn.ok sc__law_p (fun vs H Q E h => ?_) (fun cdv A outer s H vs Q E hr h => ?_)
  · obtain ⟨p, rfl, _⟩ := h
    rfl
  · obtain ⟨p, rfl, hp, k⟩ := h
    refine ⟨_, (pss_cons (ps_set (i := 1) sc__law_p.nd rfl (Or.inl rfl) (pe_callTy call_int1 (by rfl) D.b_int bt_int (pa_cons (pe_cmpR op_eq (pe_callF D._law_take G__law_take (hr.mono (by omega)) (by rfl) (pa_cons (pv 0) (pa_cons pe_int pa_nil))) pe_int (nomark _)) pa_nil)))
      (pss_cons (ps_set (i := 2) sc__law_p.nd rfl (Or.inl rfl) (pe_callF D._law_words G__law_words (hr.mono (by omega)) (by rfl) (pa_cons (pv 0) (pa_cons (pe_op op_add pe_int (pe_callF D._law_take G__law_take (hr.mono (by omega)) (by rfl) (pa_cons (pv 0) (pa_cons pe_int pa_nil)))) (pa_cons (pe_lst pa_nil) pa_nil)))))
      (pss_cons (ps_set (i := 3) sc__law_p.nd rfl (Or.inl rfl) (pe_callF D._law_kinds G__law_kinds (hr.mono (by omega)) (by rfl) (pa_cons (pv 0) (pa_cons (pe_ix ix_list (pe_lst (pa_cons (pe_op op_add pe_int (pe_callF D._law_take G__law_take (hr.mono (by omega)) (by rfl) (pa_cons (pv 0) (pa_cons pe_int pa_nil)))) (pa_cons pe_int pa_nil))) (pv 1) (fun _ _ => rfl)) (pa_cons (pe_lst pa_nil) (pa_cons (pv 2) pa_nil))))))
      (pss_cons (ps_set (i := 4) sc__law_p.nd rfl (Or.inl rfl) (pe_tup (pa_cons (pe_comp rfl (CompScope.of ["_law_row"] [] ["_law_row"] (defScope (top 24)) ["_law_purse_here", "_law_great", "_law_words_here", "_law_kinds_here", "_law_tools", "_law_deeds", "_law_keys", "_law_k", "_law_key", "_law_block"] rfl rfl (by decide +kernel)) ⟨fun _ _ _ _ _ => (pg_name (i := 0) (show List.Nodup [("_law_row" : Str)] by decide +kernel) rfl (Or.inl (lookup_relabel_local rfl)) (.inr (lookup_relabel_local rfl))), fun _ _ _ _ _ => pts_nil, fun _ _ _ _ _ => (pe_ix (ix_tup_K (K := K) rfl) (pv 0) pe_int (fun _ _ => rfl))⟩ (pi_tup (pv 3))) (pa_cons (pv 2) pa_nil))))
      (pss_cons (ps_par (i := 5) (j := 6) rfl sc__law_p.nd rfl rfl (by decide) rfl rfl (pa_cons (pe_lst pa_nil) (pa_cons (pe_lst pa_nil) pa_nil)) rfl)
      (pss_cons (ps_for PassesOwn.never rfl (pi_range1 rfl D.b_range (pa_cons (pe_ix ix_list (pe_lst (pa_cons (pe_callF D._law_take G__law_take (hr.mono (by omega)) (by rfl) (pa_cons (pv 0) (pa_cons pe_int pa_nil))) (pa_cons pe_int pa_nil))) (pv 1) (fun _ _ => rfl)) pa_nil)) (pg_name (i := 7) sc__law_p.nd rfl (Or.inl rfl))
      (pss_cons (ps_set (i := 8) sc__law_p.nd rfl (Or.inl rfl) (pe_tup (pa_cons (pe_ix ix_list (pe_ix ix_tup (pv 4) pe_int (fun _ _ => rfl)) (pe_callF D._law_take G__law_take (hr.mono (by omega)) (by rfl) (pa_cons (pv 0) (pa_cons (pe_callB call_len_seq (by rfl) D.b_len bt_len (pa_cons (pv 3) pa_nil)) pa_nil))) (fun _ _ => rfl)) (pa_cons (pe_ix ix_list (pv 2) (pe_callF D._law_take G__law_take (hr.mono (by omega)) (by rfl) (pa_cons (pv 0) (pa_cons (pe_callB call_len_seq (by rfl) D.b_len bt_len (pa_cons (pv 2) pa_nil)) pa_nil))) (fun _ _ => rfl)) pa_nil))))
      (pss_cons (ps_set (i := 9) sc__law_p.nd rfl (Or.inl rfl) (pe_callF D._law_b G__law_b (hr.mono (by omega)) (by rfl) (pa_cons (pv 0) (pa_cons pe_int (pa_cons (pe_lst (pa_cons (pe_ix ix_list (pe_lst (pa_cons pe_int (pa_cons pe_int pa_nil))) (pe_callTy call_int1 (by rfl) D.b_int bt_int (pa_cons (pe_and (pe_cmpR op_eq (pv 1) pe_int (nomark _)) (pe_one (pe_cmpR op_eq (pv 7) pe_int (nomark _)))) pa_nil)) (fun _ _ => rfl)) pa_nil)) (pa_cons (pv 4) pa_nil))))))
      (pss_one (ps_if (PW.pt (pw_and (pt_cmpR (op_notInT (hu10 hr)) (pv 8) (pv 6) (by with_unfolding_all rfl)) (pw_and1 (pt_cmpR op_lt (pe_callB call_len_seq (by rfl) D.b_len bt_len (pa_cons (pv 6) pa_nil)) pe_int (nomark _)))))
      (pss_cons (ps_expr (pe_bm PySem.F.plainAttrs_list PySem.F.slot_list_append PySem.F.type_list_append mt_append (pv 6) (pa_cons (pv 8) pa_nil)))
      (pss_one (ps_expr (pe_bm PySem.F.plainAttrs_list PySem.F.slot_list_append PySem.F.type_list_append mt_append (pv 5) (pa_cons (pe_op op_catN (pv 8) (pe_tup (pa_cons (pe_callF D._law_some G__law_some (hr.mono (by omega)) (by rfl) (pa_cons (pv 0) (pa_cons (pv 2) (pa_cons pe_int pa_nil)))) (pa_cons (pv 9) pa_nil)))) pa_nil)))))
      pss_nil)))))
      (pss_one (ps_ret (pe_tup (pa_cons (pv 3) (pa_cons (pe_callTy call_tuple_of (by rfl) D.b_tuple bt_tuple (pa_cons (pv 5) pa_nil)) (pa_cons (pe_callF D._law_b G__law_b (hr.mono (by omega)) (by rfl) (pa_cons (pv 0) (pa_cons pe_int (pa_cons (pe_lst (pa_cons (pe_ix ix_list (pe_lst (pa_cons pe_int (pa_cons pe_int pa_nil))) (pv 1) (fun _ _ => rfl)) pa_nil)) (pa_cons (pv 4) pa_nil))))) pa_nil)))))))))))), ?_⟩
    have oH : Off p H H := Off.refl p H
    refine ⟨_, rfl, p, 6, rfl, hp, by decide, by decide, fun r1 a1 b1 c1 l1 u1 => ⟨rfl, .inr ⟨_, rfl, ?_⟩⟩⟩
    obtain ⟨gr, hgr, gr01⟩ : ∃ gr : Int, (if decide (V.int r1 = V.int 5) = true then (1 : Int) else 0) = gr ∧ (gr = 0 ∨ gr = 1) := by
      by_cases hb : decide (V.int r1 = V.int 5) = true
      · exact ⟨1, if_pos hb, .inr rfl⟩
      · exact ⟨0, if_neg hb, .inl rfl⟩
    rw [hgr]
    have oH1 : Off p H (upd H p (.lst [.int a1, .int b1, .int c1])) := oH.trans Off.upd
    have pH1 : Pu (upd H p (.lst [.int a1, .int b1, .int c1])) p := Pu.upd
    generalize upd H p (.lst [.int a1, .int b1, .int c1]) = H1 at oH1 pH1
    refine ⟨_, rfl, _, rfl, p, 4, rfl, pH1, by decide, by decide, fun r2 a2 b2 c2 l2 u2 => ⟨_, _, rfl, rfl, Nat.zero_le _, fun u hu => ?_⟩⟩
    have pu : p ≠ u := Pu.upd.neN hu
    refine ⟨p, u, 2 + r2, rfl, Pu.upd.upd_ne pu, upd_same, by omega, by omega, fun wl ws H2 _ hws wok hwl o2 pH2 => ?_⟩
    obtain ⟨_, wx⟩ := wok
    have oH2 : Off p H H2 := oH1.trans ((Off.upd.trans (Off.new hu)).trans o2)
    have wlp : wl ≠ p := pH2.ne hwl
    refine ⟨_, rfl, _, rfl, p, 5, rfl, pH2, by decide, by decide, fun r3 a3 b3 c3 l3 u3 => ⟨_, _, rfl, rfl, by show 2 ≤ sizeLine; decide, fun m hm => ?_⟩⟩
    have hwl3 : (upd H2 p (.lst [.int a3, .int b3, .int c3])) wl = some (.lst (ws.map V.str)) := by rw [upd_ne wlp]; exact hwl
    have oH3 : Off p H (upd H2 p (.lst [.int a3, .int b3, .int c3])) := oH2.trans Off.upd
    have pH3 : Pu (upd H2 p (.lst [.int a3, .int b3, .int c3])) p := Pu.upd
    generalize upd H2 p (.lst [.int a3, .int b3, .int c3]) = H3 at oH3 pH3 hm hwl3
    have sm : Same H3 (upd H3 m (.lst [.int (1 + r3), .int 7])) := Same.new hm
    have hmm : (upd H3 m (.lst [.int (1 + r3), .int 7])) m = some (.lst [.int (1 + r3), .int 7]) := upd_same
    generalize upd H3 m (.lst [.int (1 + r3), .int 7]) = H4 at sm hmm
    obtain ⟨zk, hzk, zk1, zk7⟩ : ∃ zk : Int, atI [V.int (1 + r3), V.int 7] gr = some (.int zk) ∧ 1 ≤ zk ∧ zk ≤ 7 := by
      rcases gr01 with rfl | rfl
      · exact ⟨1 + r3, atI_nat (j := 0) rfl, by omega, by omega⟩
      · exact ⟨7, atI_nat (j := 1) rfl, by decide, by decide⟩
    have pH4 := pH3.same sm
    refine ⟨_, rfl, m, _, _, _, rfl, rfl, SqL.of hmm, hzk, Nat.zero_le _, fun u4 hu4 => ?_⟩
    have pu4 : p ≠ u4 := pH4.neN hu4
    have hwl4 := sm wl _ hwl3
    refine ⟨_, rfl, p, u4, wl, zk, ws, rfl, pH4.upd_ne pu4, upd_same, zk1, zk7, by rw [upd_ne (ne_of_none hwl4 hu4)]; exact hwl4, by omega, wx, fun kv ks H5 dk kok hkl o5 pH5 => ?_⟩
    have oH5 : Off p H H5 := (oH3.trans sm.off).trans ((Off.new hu4).trans o5)
    have hwl5 := o5 wl _ wlp (by rw [upd_ne (ne_of_none hwl4 hu4)]; exact hwl4)
    obtain ⟨a, xs, rfl, ha, dl⟩ := L2.Dp.of_tup dk
    have hxl : xs.length = ks.length := by have := dl.length; rwa [List.length_map] at this
    refine ⟨_, rfl, a, rfl, ⟨_, SqT.of ha⟩, fun D1 hD1 => ?_⟩
    have s51 : ∀ o, Same H5 (upd H5 D1 o) := fun o => Same.new hD1
    refine comp_by (n := xs.length) (fun i ys H6 => ys = ((ks.take i).map (·.kind)).map V.str ∧ H6 = upd H5 D1 (.lst ys)) ⟨rfl, rfl⟩ ?_ ?_
    rotate_left
    · rintro i ys H6 hi ⟨rfl, rfl⟩
      have hir : i < ks.length := by omega
      obtain ⟨y, ey, dy⟩ := dl.get (i := i) (t := krT ks[i]) (by rw [List.getElem?_map, List.getElem?_eq_getElem hir]; rfl)
      refine ⟨⟨_, _, SqT.of (s51 _ a _ ha), ey⟩, ?_⟩
      rintro v H7 ⟨rfl, yy⟩ σo ho
      obtain ⟨oo, rfl⟩ := own1 ho
      have ev := yy _ (SqT.of (s51 _ a _ ha))
      rw [ey] at ev
      cases ev
      obtain ⟨q, e, f, rfl, hq, _, _⟩ := K25.Dp.of_kr (dy.mono (Same.tups (s51 _)))
      refine ⟨⟨[_], rfl, rfl⟩, yes_by ⟨_, rfl, q, _, _, _, rfl, rfl, SqT.of hq, atI_nat (j := 0) rfl, by rw [List.length_map, List.length_map, List.length_take]; omega, upd_same, less_by hi ⟨?_, by rw [upd_upd]⟩⟩⟩
      rw [take_snoc hir, List.map_append, List.map_append]
      rfl
    rintro ys H6 ⟨rfl, rfl⟩
    rw [List.take_of_length_le (by omega)]
    refine ⟨⟨_, SqT.of (s51 _ a _ ha), Nat.le_refl _⟩, _, rfl, by show 2 ≤ sizeLine; decide, fun tl htl => ?_⟩
    have sD : Same H5 (upd H5 D1 (.lst ((ks.map (·.kind)).map V.str))) := s51 _
    have hDD : (upd H5 D1 (.lst ((ks.map (·.kind)).map V.str))) D1 = some (.lst ((ks.map (·.kind)).map V.str)) := upd_same
    generalize upd H5 D1 (.lst ((ks.map (·.kind)).map V.str)) = H6 at sD hDD htl
    have stl : Same H6 (upd H6 tl (.tup [.ref D1, .ref wl])) := Same.new htl
    have htltl : (upd H6 tl (.tup [.ref D1, .ref wl])) tl = some (.tup [.ref D1, .ref wl]) := upd_same
    generalize upd H6 tl (.tup [.ref D1, .ref wl]) = H7 at stl htltl
    have s57 := sD.trans stl
    have T7 : Tls H7 tl D1 wl (ks.map (·.kind)) ws := ⟨htltl, stl D1 _ hDD, s57 wl _ hwl5, ⟨by rw [List.length_map]; omega, by rw [List.length_map]; omega⟩, ⟨by omega, by omega⟩, fun x hx => by
      obtain ⟨r, hr', rfl⟩ := List.mem_map.mp hx
      exact (kok r hr').1, wx⟩
    have pH7 := pH5.same s57
    have oH7 : Off p H H7 := oH5.trans s57.off
    have ha7 := s57 a _ ha
    have dl7 := dl.mono (Same.tups s57)
    refine ⟨Nat.zero_le _, fun de hde => ⟨Nat.zero_le _, fun ke hke => ⟨_, _, rfl, ?_⟩⟩⟩
    have pH8 : Pu (upd (upd H7 de (.lst [])) ke (.lst [])) p := (pH7.upd_ne (pH7.neN hde)).upd_ne ((pH7.upd_ne (pH7.neN hde)).neN hke)
    have dek : de ≠ ke := ne_of_none upd_same hke
    have hde8 : (upd (upd H7 de (.lst [])) ke (.lst [])) de = some (.lst []) := by rw [upd_ne dek, upd_same]
    have hke8 : (upd (upd H7 de (.lst [])) ke (.lst [])) ke = some (.lst []) := upd_same
    have s78 : Same H7 (upd (upd H7 de (.lst [])) ke (.lst [])) := (Same.new hde).trans (Same.new hke)
    have dep : de ≠ p := (pH7.neN hde).symm
    have kep : ke ≠ p := ((pH7.upd_ne (pH7.neN hde)).neN hke).symm
    have nn : ∀ {b : Addr} {o : HO}, H7 b = some o → b ≠ de ∧ b ≠ ke := fun {b o} e => ⟨ne_of_none e hde, ne_of_none ((Same.new hde) b o e) hke⟩
    have hdeH : H de = none := by
      cases e : H de with
      | none => rfl
      | some o => rw [oH7 de o dep e] at hde; cases hde
    have hkeH : H ke = none := by
      cases e : H ke with
      | none => rfl
      | some o => rw [upd_ne dek.symm, oH7 ke o kep e] at hke; cases hke
    generalize upd (upd H7 de (.lst [])) ke (.lst []) = H8 at pH8 hde8 hke8 s78
    have oH8 : Off p H H8 := oH7.trans s78.off
    refine ⟨_, rfl, p, 4, rfl, pH8, by decide, by decide, fun r9 a9 b9 c9 l9 u9 => ⟨by show 2 ≤ sizeLine; decide, fun m9 hm9 => ?_⟩⟩
    have tu9 : Tups H8 (upd H8 p (.lst [.int a9, .int b9, .int c9])) := offT pH8 Off.upd
    have hde9 : (upd H8 p (.lst [.int a9, .int b9, .int c9])) de = some (.lst []) := by rw [upd_ne dep]; exact hde8
    have hke9 : (upd H8 p (.lst [.int a9, .int b9, .int c9])) ke = some (.lst []) := by rw [upd_ne kep]; exact hke8
    have T9 : Tls (upd H8 p (.lst [.int a9, .int b9, .int c9])) tl D1 wl (ks.map (·.kind)) ws := (T7.off pH7 s78.off).off pH8 Off.upd
    have oH9 : Off p H (upd H8 p (.lst [.int a9, .int b9, .int c9])) := oH8.trans Off.upd
    have pH9 : Pu (upd H8 p (.lst [.int a9, .int b9, .int c9])) p := Pu.upd
    generalize upd H8 p (.lst [.int a9, .int b9, .int c9]) = H9 at oH9 pH9 hm9 tu9 hde9 hke9 T9
    have sm9 : Same H9 (upd H9 m9 (.lst [.int r9, .int 10])) := Same.new hm9
    have hm9m9 : (upd H9 m9 (.lst [.int r9, .int 10])) m9 = some (.lst [.int r9, .int 10]) := upd_same
    generalize upd H9 m9 (.lst [.int r9, .int 10]) = HA at sm9 hm9m9
    obtain ⟨zn, hzn, zn0, zn10⟩ : ∃ zn : Int, atI [V.int r9, V.int 10] gr = some (.int zn) ∧ 0 ≤ zn ∧ zn ≤ 10 := by
      rcases gr01 with rfl | rfl
      · exact ⟨r9, atI_nat (j := 0) rfl, by omega, by omega⟩
      · exact ⟨10, atI_nat (j := 1) rfl, by decide, by decide⟩
    refine ⟨_, rfl, m9, _, _, _, rfl, rfl, SqL.of hm9m9, hzn, zn, rfl, by omega, by omega, ?_⟩
    have TA := T9.off pH9 sm9.off
    have pHA := pH9.same sm9
    have oHA : Off p H HA := oH9.trans sm9.off
    have haA := sm9 a _ (tu9 a _ (s78 a _ ha7))
    have dlA := dl7.mono ((Same.tups s78).trans (tu9.trans (Same.tups sm9)))
    refine for_range (lo := 0) (n := zn.toNat) (fun i σ H2 => ∃ (ds : List DR) (brs : List (List (List Str))) (keys : List (Str × Str)) (ys zs : List V) (v7 v8 v9 : Option V), σ = [some (.ref p), some (.int gr), some (.ref wl), some (.ref a), some (.ref tl), some (.ref de), some (.ref ke), v7, v8, v9] ∧ H2 de = some (.lst ys) ∧ DpL H2 (ds.map drT) ys ∧ brs.length = ds.length ∧ (∀ i (h1 : i < ds.length) (h2 : i < brs.length), DOk ds[i] brs[i]) ∧ ds.length ≤ zs.length ∧ H2 ke = some (.lst zs) ∧ DpL H2 (keys.map keyT) zs ∧ zs.length ≤ 8 ∧ H2 a = some (.tup xs) ∧ DpL H2 (ks.map krT) xs ∧ Tls H2 tl D1 wl (ks.map (·.kind)) ws ∧ Off p H H2 ∧ Pu H2 p)
      ⟨[], [], [], [], [], _, _, _, rfl, sm9 de _ hde9, .nil, rfl, fun i h => absurd h (Nat.not_lt_zero _), Nat.le_refl _, sm9 ke _ hke9, .nil, by decide, haA, dlA, TA, oHA, pHA⟩ ?_ ?_
    · rintro i σ H2 hi ⟨ds, brs, keys, ys, zs, v7, v8, v9, rfl, hde2, dys, bl, dok, dz, hke2, dzs, z8, ha2, dl2, T2, o2, p2⟩
      refine ⟨_, rfl, tl, _, _, _, rfl, rfl, SqT.of T2.t, atI_nat (j := 0) rfl, _, rfl, _, rfl, a, _, rfl, .inr (SqT.of ha2), p, _, rfl, p2, by omega, by omega, fun i3 a3 b3 c3 l3 u3 => ?_⟩
      obtain ⟨kx, hkx, hkm, _⟩ := atI_strs (ns := ks.map (·.kind)) l3 (by rw [List.length_map]; omega)
      have o3 : Off p H2 (upd H2 p (.lst [.int a3, .int b3, .int c3])) := Off.upd
      have T3 := T2.off p2 o3
      have p3 : Pu (upd H2 p (.lst [.int a3, .int b3, .int c3])) p := Pu.upd
      generalize upd H2 p (.lst [.int a3, .int b3, .int c3]) = H3 at o3 T3 p3
      refine ⟨D1, _, _, _, rfl, rfl, SqL.of T3.k, hkx, ?_⟩
      refine ⟨_, rfl, _, rfl, _, rfl, wl, _, rfl, .inl (SqL.of T3.w), p, _, rfl, p3, by rw [List.length_map]; omega, by rw [List.length_map]; omega, fun i4 a4 b4 c4 l4 u4 => ?_⟩
      rw [List.length_map] at u4
      obtain ⟨x, hx, hxm, _⟩ := atI_strs (ns := ws) l4 u4
      have o4 : Off p H2 (upd H3 p (.lst [.int a4, .int b4, .int c4])) := o3.trans Off.upd
      have p4 : Pu (upd H3 p (.lst [.int a4, .int b4, .int c4])) p := Pu.upd
      have T4 := T2.off p2 o4
      generalize upd H3 p (.lst [.int a4, .int b4, .int c4]) = H4 at o4 p4 T4
      refine ⟨wl, _, _, _, rfl, rfl, SqL.of T4.w, hx, by show 2 ≤ sizeLine; decide, fun kq hkq => ?_⟩
      have skq : Same H4 (upd H4 kq (.tup [.str kx, .str x])) := Same.new hkq
      have hkqkq : (upd H4 kq (.tup [.str kx, .str x])) kq = some (.tup [.str kx, .str x]) := upd_same
      generalize upd H4 kq (.tup [.str kx, .str x]) = H5 at skq hkqkq
      have p5 := p4.same skq
      have o5 : Off p H2 H5 := o4.trans skq.off
      refine ⟨_, rfl, by show 2 ≤ sizeLine; decide, fun m6 hm6 => ?_⟩
      have sm6 : Same H5 (upd H5 m6 (.lst [.int 4, .int 16])) := Same.new hm6
      have hm6m6 : (upd H5 m6 (.lst [.int 4, .int 16])) m6 = some (.lst [.int 4, .int 16]) := upd_same
      generalize upd H5 m6 (.lst [.int 4, .int 16]) = H6 at sm6 hm6m6
      have p6 := p5.same sm6
      have o6 : Off p H2 H6 := o5.trans sm6.off
      apply by_restZ (fun z => 0 ≤ z ∧ z ≤ 16)
      case use =>
        intro rest
        refine ⟨_, rfl, rfl, _, rfl, ite2 (fun hb => ?_) (fun hb => ?_)⟩
        · obtain ⟨z, hz', hz0, hz16⟩ : ∃ z : Int, atI [V.int 4, V.int 16] (if decide (V.int (0 + (i : Int)) = V.int 0) = true then 1 else 0) = some (.int z) ∧ 0 ≤ z ∧ z ≤ 16 := by
            by_cases hb : decide (V.int (0 + (i : Int)) = V.int 0) = true
            · rw [if_pos hb]
              exact ⟨16, atI_nat (j := 1) rfl, by decide, by decide⟩
            · rw [if_neg hb]
              exact ⟨4, atI_nat (j := 0) rfl, by decide, by decide⟩
          refine ⟨_, rfl, rfl, .inr ⟨_, rfl, m6, _, _, _, rfl, rfl, SqL.of hm6m6, hz', ?_⟩⟩
          exact rest z ⟨hz0, hz16⟩
        · obtain ⟨z, hz', hz0, hz16⟩ : ∃ z : Int, atI [V.int 4, V.int 16] (if false = true then 1 else 0) = some (.int z) ∧ 0 ≤ z ∧ z ≤ 16 := ⟨4, atI_nat (j := 0) rfl, by decide, by decide⟩
          refine .inr ⟨_, rfl, m6, _, _, _, rfl, rfl, SqL.of hm6m6, hz', ?_⟩
          exact rest z ⟨hz0, hz16⟩
      case rest =>
      rintro z ⟨z0, z16⟩
      refine ⟨by show 1 ≤ sizeLine; decide, fun rm hrm => ?_⟩
      have srm : Same H6 (upd H6 rm (.lst [.int z])) := Same.new hrm
      have hrmrm : (upd H6 rm (.lst [.int z])) rm = some (.lst [.int z]) := upd_same
      generalize upd H6 rm (.lst [.int z]) = H7 at srm hrmrm
      have p7 := p6.same srm
      have T7' : Tls H7 tl D1 wl (ks.map (·.kind)) ws := T2.off p2 (o6.trans srm.off)
      refine ⟨_, rfl, p, rm, tl, D1, wl, ks.map (·.kind), ws, z, rfl, p7, T7', hrmrm, z0, z16, fun bv bt brow c r' H8 dbv hsb hc r'0 r'z _ o8 p8 => ?_⟩
      have o28 : Off p H2 H8 := (o6.trans (Off2.fresh hrm srm o8))
      have c16 : c ≤ 16 := by omega
      have tu28 := offT p2 o28
      have hde8 := o28 de _ dep hde2
      have hke8 := o28 ke _ kep hke2
      have T8 := T2.off p2 o28
      have hkq8 : H8 kq = some (.tup [.str kx, .str x]) := by
        have h7 := (sm6.trans srm) kq _ hkqkq
        obtain ⟨x1, x2, x3, ep⟩ := p7
        exact o8 kq _ (ne_of h7 ep (fun z => nomatch z)) (ne_of h7 hrmrm (fun z => nomatch z)) h7
      have kdl : zs.length = keys.length := by have := dzs.length; rwa [List.length_map] at this
      have yl : ys.length = ds.length := by have := dys.length; rwa [List.length_map] at this
      have same : ∀ (v7 v8 v9 : Option V), ∃ (ds : List DR) (brs : List (List (List Str))) (keys : List (Str × Str)) (ys zs : List V) (v7' v8' v9' : Option V), ([some (.ref p), some (.int gr), some (.ref wl), some (.ref a), some (.ref tl), some (.ref de), some (.ref ke), v7, v8, v9] : L2.St) = [some (.ref p), some (.int gr), some (.ref wl), some (.ref a), some (.ref tl), some (.ref de), some (.ref ke), v7', v8', v9'] ∧ H8 de = some (.lst ys) ∧ DpL H8 (ds.map drT) ys ∧ brs.length = ds.length ∧ (∀ i (h1 : i < ds.length) (h2 : i < brs.length), DOk ds[i] brs[i]) ∧ ds.length ≤ zs.length ∧ H8 ke = some (.lst zs) ∧ DpL H8 (keys.map keyT) zs ∧ zs.length ≤ 8 ∧ H8 a = some (.tup xs) ∧ DpL H8 (ks.map krT) xs ∧ Tls H8 tl D1 wl (ks.map (·.kind)) ws ∧ Off p H H8 ∧ Pu H8 p := fun v7 v8 v9 => ⟨ds, brs, keys, ys, zs, _, _, _, rfl, hde8, dys.mono tu28, bl, dok, dz, hke8, dzs.mono tu28, z8, tu28 a _ ha2, dl2.mono tu28, T8, o2.trans o28, p8⟩
      have dkey : Dp H8 (keyT (kx, x)) (.ref kq) := L2.Dp.tup hkq8 (.cons (L2.Dp.str _) (.cons (L2.Dp.str _) .nil))
      refine ⟨_, rfl, _, rfl, ke, zs, _, _, rfl, .inl hke8, dkey, dzs.mono tu28, fun t ht => ?_, _, rfl, ite2 (fun hb => ?_) (fun hb => iteF (same _ _ _))⟩
      · obtain ⟨kk, _, rfl⟩ := List.mem_map.mp ht
        intro t ht
        rcases List.mem_cons.mp ht with rfl | ht
        · trivial
        · rw [List.mem_singleton.mp ht]
          trivial
      refine ⟨_, rfl, ke, _, rfl, .inl (SqL.of hke8), _, _, rfl, rfl, _, rfl, ite2 (fun hb2 => ?_) (fun hb2 => same _ _ _)⟩
      have hlt : zs.length < 8 := by
        have : (zs.length : Int) < 8 := of_decide_eq_true hb2
        omega
      refine ⟨_, rfl, .inl ⟨rfl, _, SqL.of hke8⟩, _, rfl, ke, zs, .ref kq, rfl, rfl, hke8, by omega, ?_⟩
      have kpA : ∀ b o, b ≠ ke → H8 b = some o → (upd H8 ke (.lst (zs ++ [.ref kq]))) b = some o := fun b o hb e => by rw [upd_ne hb]; exact e
      have tuA : Tups H8 (upd H8 ke (.lst (zs ++ [.ref kq]))) := fun c ws' e => kpA c _ (ne_of e hke8 (fun z => nomatch z)) e
      have hkeA : (upd H8 ke (.lst (zs ++ [.ref kq]))) ke = some (.lst (zs ++ [.ref kq])) := upd_same
      have pA : Pu (upd H8 ke (.lst (zs ++ [.ref kq]))) p := p8.upd_ne kep.symm
      generalize upd H8 ke (.lst (zs ++ [.ref kq])) = HA' at kpA tuA hkeA pA
      have hdeA := kpA de _ dek hde8
      have wlke : wl ≠ ke := (nn T7.w).2
      have wlde : wl ≠ de := (nn T7.w).1
      have D1ke : D1 ≠ ke := (nn T7.k).2
      have D1de : D1 ≠ de := (nn T7.k).1
      have hwlA := kpA wl _ wlke T8.w
      refine ⟨_, rfl, .inl ⟨rfl, _, SqL.of hdeA⟩, _, rfl, _, rfl, _, rfl, p, wl, ws, 3, rfl, pA, hwlA, by decide, by omega, fun qs es HB hqs subs _ hes oB pB => ⟨_, rfl, by show 2 ≤ sizeLine; decide, fun q2 hq2 => ?_⟩⟩
      have tuB := offT pA oB
      have sq2 : Same HB (upd HB q2 (.tup [.ref qs, bv])) := Same.new hq2
      have hq2q2 : (upd HB q2 (.tup [.ref qs, bv])) q2 = some (.tup [.ref qs, bv]) := upd_same
      generalize upd HB q2 (.tup [.ref qs, bv]) = HC at sq2 hq2q2
      refine ⟨kq, q2, _, _, rfl, rfl, sq2 kq _ (tuB kq _ (tuA kq _ hkq8)), hq2q2, by show 2 + 2 ≤ sizeLine; decide, fun q3 HD hq3 sD3 => ?_⟩
      have sBD := sq2.trans sD3
      have hdeD := sBD de _ (oB de _ dep hdeA)
      have hkeD := sBD ke _ (oB ke _ kep hkeA)
      have pD := pB.same sBD
      refine ⟨de, ys, .ref q3, rfl, rfl, hdeD, by omega, ?_⟩
      have tuE : Tups HD (upd HD de (.lst (ys ++ [.ref q3]))) := fun c zs' e => by
        rw [upd_ne (ne_of e hdeD (fun z => nomatch z))]
        exact e
      have tuF : Tups H8 (upd HD de (.lst (ys ++ [.ref q3]))) := tuA.trans (tuB.trans ((Same.tups sBD).trans tuE))
      have dkeys : DpL (upd HD de (.lst (ys ++ [.ref q3]))) ((keys ++ [(kx, x)]).map keyT) (zs ++ [.ref kq]) := by
        rw [List.map_append]
        exact ((dzs.mono tu28).mono tuF).append (.cons (dkey.mono tuF) .nil)
      have TF : Tls (upd HD de (.lst (ys ++ [.ref q3]))) tl D1 wl (ks.map (·.kind)) ws := by
        refine ⟨tuF tl _ T8.t, ?_, ?_, T8.k1, T8.w1, T8.kx, T8.wx⟩
        · rw [upd_ne D1de]
          exact sBD D1 _ (oB D1 _ (p2.ne T2.k) (kpA D1 _ D1ke T8.k))
        · rw [upd_ne wlde]
          exact sBD wl _ (oB wl _ wlp hwlA)
      refine ⟨ds ++ [⟨kx, x, es, bt⟩], brs ++ [brow], keys ++ [(kx, x)], ys ++ [.ref q3], zs ++ [.ref kq], _, _, _, rfl, upd_same, ?_, by rw [List.length_append, List.length_append, bl]; rfl, fun j h1 h2 => ?_, by rw [List.length_append, List.length_append]; show ds.length + 1 ≤ zs.length + 1; omega, by rw [upd_ne dek.symm]; exact hkeD, dkeys, by rw [List.length_append]; show zs.length + 1 ≤ 8; omega, tuF a _ (tu28 a _ ha2), dl2.mono (tu28.trans tuF), TF, fun b o hb e => ?_, pD.upd_ne dep.symm⟩
      · rw [List.map_append]
        exact ((dys.mono tu28).mono tuF).append (.cons (L2.Dp.tup (tuE q3 _ hq3) (.cons (L2.Dp.str _) (.cons (L2.Dp.str _) (.cons (L2.Dp.tup (tuE qs _ (sBD qs _ hqs)) (DpL.strs _)) (.cons (dbv.mono tuF) .nil))))) .nil)
      · by_cases hj : j < ds.length
        · rw [List.getElem_append_left hj, List.getElem_append_left (by omega)]
          exact dok j hj (by omega)
        · have ej : j = ds.length := by rw [List.length_append, List.length_singleton] at h1; omega
          subst ej
          have e1 : (ds ++ [(⟨kx, x, es, bt⟩ : DR)])[ds.length] = ⟨kx, x, es, bt⟩ := by simp
          have e2 : (brs ++ [brow])[ds.length] = brow := by
            have : (brs ++ [brow])[ds.length]? = some brow := by rw [← bl]; simp
            exact (List.getElem?_eq_some_iff.mp this).2
          rw [e1, e2]
          exact ⟨T2.kx kx hkm, T2.wx x hxm, by show es.length ≤ 7; omega, fun y hy => T2.wx y (subs y hy), c, c16, hsb⟩
      · rw [upd_ne (ne_of_none e hdeH)]
        exact sBD b _ (oB b _ hb (kpA b _ (ne_of_none e hkeH) (o28 b _ hb (o2 b _ hb e))))
    · rintro σ H2 ⟨ds, brs, keys, ys, zs, v7, v8, v9, rfl, hde2, dys, bl, dok, dz, hke2, dzs, z8, ha2, dl2, T2, o2, p2⟩
      refine ⟨_, rfl, _, rfl, de, _, rfl, .inl ⟨SqL.of hde2, fun qd hqd => ?_⟩⟩
      have sqd : Same H2 (upd H2 qd (.tup ys)) := Same.new hqd
      have hqdqd : (upd H2 qd (.tup ys)) qd = some (.tup ys) := upd_same
      generalize upd H2 qd (.tup ys) = H3 at sqd hqdqd
      refine ⟨_, rfl, by show 2 ≤ sizeLine; decide, fun m6 hm6 => ?_⟩
      have sm6 : Same H3 (upd H3 m6 (.lst [.int 9, .int 16])) := Same.new hm6
      have hm6m6 : (upd H3 m6 (.lst [.int 9, .int 16])) m6 = some (.lst [.int 9, .int 16]) := upd_same
      generalize upd H3 m6 (.lst [.int 9, .int 16]) = H6 at sm6 hm6m6
      obtain ⟨z, hz', z0, z16⟩ : ∃ z : Int, atI [V.int 9, V.int 16] gr = some (.int z) ∧ 0 ≤ z ∧ z ≤ 16 := by
        rcases gr01 with rfl | rfl
        · exact ⟨9, atI_nat (j := 0) rfl, by decide, by decide⟩
        · exact ⟨16, atI_nat (j := 1) rfl, by decide, by decide⟩
      refine ⟨_, rfl, m6, _, _, _, rfl, rfl, SqL.of hm6m6, hz', by show 1 ≤ sizeLine; decide, fun rm hrm => ?_⟩
      have srm : Same H6 (upd H6 rm (.lst [.int z])) := Same.new hrm
      have hrmrm : (upd H6 rm (.lst [.int z])) rm = some (.lst [.int z]) := upd_same
      generalize upd H6 rm (.lst [.int z]) = H7 at srm hrmrm
      have s27 := (sqd.trans sm6).trans srm
      have p7 := p2.same s27
      refine ⟨_, rfl, p, rm, tl, D1, wl, ks.map (·.kind), ws, z, rfl, p7, T2.off p2 s27.off, hrmrm, z0, z16, fun bv bt brow c r' H8 dbv hsb hc r'0 r'z _ o8 p8 => ?_⟩
      have o28 : Off p H2 H8 := (sqd.trans sm6).off.trans (Off2.fresh hrm srm o8)
      have tu28 := offT p2 o28
      have tu38 : Tups H3 H8 := offT (p2.same sqd) (sm6.off.trans (Off2.fresh hrm srm o8))
      refine ⟨by show 3 ≤ sizeLine; decide, fun pr hpr => ?_⟩
      have sP := Same.new (o := .tup [.ref a, .ref qd, bv]) hpr
      refine k _ ks ds bt brs brow _ ⟨pr, .ref a, .ref qd, bv, rfl, upd_same, L2.Dp.tup (sP a _ (tu28 a _ ha2)) (dl2.mono (tu28.trans (Same.tups sP))), L2.Dp.tup (sP qd _ (tu38 qd _ hqdqd)) (dys.mono (tu28.trans (Same.tups sP))), dbv.mono (Same.tups sP)⟩ ⟨by omega, kok, by omega, bl, dok, c, by omega, hsb⟩ ((o2.trans o28).trans sP.off)
end
end K25
end
section
set_option autoImplicit false
namespace K25
open PySem PyProof.Rows L2
theorem SqL.keep {K : PySem.W.Frag} {H H' : Hp} {a : Addr} {xs : List V} (h : SqL K H a xs) (k : ∀ o, H a = some o → H' a = some o) : SqL K H' a xs := by
  rcases h with (h | ⟨o, h⟩) | h
  · exact .inl (.inl (k _ h))
  · exact .inl (.inr ⟨o, k _ h⟩)
  · exact .inr h
section
variable {P : Program} {w : World} {K : PySem.W.Frag} {mg : Str → Option Value} {base : Heap} {t : Adr}
def spLaw (K : PySem.W.Frag) : Sp := fun vs H Q _ => ∃ (a : Addr) (ns : List Int), vs = [.ref a] ∧ SqL K H a (ns.map V.int) ∧ ns.length ≤ 63 ∧ ∀ H', Q (.bl true) H'
theorem ok_law (D : Defs K mg t) (GL : Glb P w K mg t) : FnOk P w K mg base CX0 33 t.law.1 t.law.2 ["_law_script"] (spLaw K) := by
  have G__law_purse : FnOk P w K mg base CX0 1 t._law_purse.1 t._law_purse.2 _ spPurse := ok_purse D
  have G__law_cell : FnOk P w K mg base CX0 1 t._law_cell.1 t._law_cell.2 _ (spCell K) := ok_cell D
  have G__law_p : FnOk P w K mg base CX0 12 t._law_p.1 t._law_p.2 _ spP := ok_p D
  have G__law_text : FnOk P w K mg base CX0 11 t._law_text.1 t._law_text.2 _ spTextP := ok_textP D
  have G_show_program : FnOk P w K mg base CX0 32 t.show_program.1 t.show_program.2 _ spShow := ok_show D GL
  have hz : sizeLine = 16777216 := sizeLine_eq
  refine D.law.fn.ok sc_law (fun vs H Q E h => ?_) (fun cdv A outer s H vs Q E hr h => ?_)
  · obtain ⟨a, ns, rfl, _⟩ := h
    rfl
  · obtain ⟨a, ns, rfl, hS, hl, k⟩ := h
    refine ⟨_, (pss_cons (ps_for PassesOwn.never rfl (pi_range1 rfl D.b_range (pa_cons (pe_callB (call_max2 rfl) (by rfl) D.b_max bt_max (pa_cons pe_int (pa_cons (pe_callB (call_min2 rfl) (by rfl) D.b_min bt_min (pa_cons pe_int (pa_cons (pe_callB call_len_seq (by rfl) D.b_len bt_len (pa_cons (pv 0) pa_nil)) pa_nil))) pa_nil))) pa_nil)) (pg_name (i := 1) sc_law.nd rfl (Or.inl rfl))
      (pss_cons (ps_set (i := 2) sc_law.nd rfl (Or.inl rfl) (pe_callF D._law_p G__law_p (hr.mono (by omega)) (by rfl) (pa_cons (pe_callF D._law_purse G__law_purse (hr.mono (by omega)) (by rfl) (pa_cons (pe_callF D._law_cell G__law_cell (hr.mono (by omega)) (by rfl) (pa_cons (pv 0) (pa_cons (pv 1) pa_nil))) pa_nil)) pa_nil)))
      (pss_cons (ps_set (i := 3) sc_law.nd rfl (Or.inl rfl) (pe_callF D._law_text G__law_text (hr.mono (by omega)) (by rfl) (pa_cons (pv 2) pa_nil)))
      (pss_cons (ps_set (i := 4) sc_law.nd rfl (Or.inl rfl) (pe_callF D.show_program G_show_program (hr.mono (by omega)) (by rfl) (pa_cons (pv 2) pa_nil)))
      (pss_one (ps_if (PW.pt (pw_or (pt_not (pt_val (pe_callB call_isinst (by rfl) D.b_isinstance bt_isinstance (pa_cons (pv 4) (pa_cons (pe_bltn (v := V.ty "str") rfl D.b_str bt_str rfl) pa_nil))))) (pw_or (pt_cmpR op_ne (pv 4) (pv 3) (nomark _)) (pw_or1 (pt_cmpR op_ne (pe_callF D.show_program G_show_program (hr.mono (by omega)) (by rfl) (pa_cons (pv 2) pa_nil)) (pv 3) (nomark _))))))
      (pss_one (ps_ret pe_bl))
      pss_nil))))))
      (pss_one (ps_ret pe_bl))), ?_⟩
    refine ⟨_, rfl, a, _, rfl, .inl hS, _, _, rfl, _, _, rfl, _, rfl, ?_, ?_, ?_⟩
    · split <;> split <;> omega
    · rw [List.length_map]
      split <;> split <;> omega
    refine for_range (lo := 0) (fun i σ H2 => ∃ (v1 v2 v3 v4 : Option V), σ = [some (.ref a), v1, v2, v3, v4] ∧ SqL K H2 a (ns.map V.int)) ⟨_, _, _, _, rfl, hS⟩ ?_ ?_
    · rintro i σ H2 hi ⟨v1, v2, v3, v4, rfl, hS2⟩
      have hi7 : i < 7 := by
        revert hi
        split <;> split <;> omega
      refine ⟨_, rfl, _, rfl, a, ns, 0 + (i : Int), rfl, hS2, hl, by omega, by omega, fun n0 H3 s3 => ⟨n0, rfl, fun p a1 b1 c1 hp => ⟨p, rfl, Pu.upd, fun v ks ds run brs rr H5 pa G o5 => ?_⟩⟩⟩
      have hS5 : SqL K H5 a (ns.map V.int) := K25.SqL.keep hS2 fun o e => by
        have e3 := s3 a o e
        have ap := ne_of_none e3 hp
        exact o5 a o ap (by rw [upd_ne ap]; exact e3)
      refine ⟨_, rfl, v, ks, ds, run, brs, rr, rfl, pa, G, fun H6 s6 => ⟨_, rfl, v, ks, ds, run, brs, rr, rfl, pa.mono (Same.tups s6), G, fun H7 s7 => ?_⟩⟩
      have nn : ∀ x : Str, ¬ (!decide (V.str x = V.str x)) = true := fun x => by rw [decide_eq_true rfl]; exact Bool.false_ne_true
      refine ⟨_, rfl, _, _, _, true, rfl, .str _, kit_same K "str", _, rfl, iteF ?_⟩
      refine ⟨_, rfl, _, rfl, rfl, _, rfl, iteNeg (nn _) ?_⟩
      refine ⟨_, rfl, v, ks, ds, run, brs, rr, rfl, pa.mono (Same.tups (Same.trans s6 s7)), G, fun H8 s8 => ⟨_, rfl, rfl, _, rfl, iteNeg (nn _) ?_⟩⟩
      exact ⟨_, _, _, _, rfl, K25.SqL.keep hS5 fun o e => s8 a o (s7 a o (s6 a o e))⟩
    · rintro σ H2 ⟨v1, v2, v3, v4, rfl, hS2⟩
      exact k H2
end
end K25
end
section
set_option autoImplicit false
namespace K25
open PySem PyProof.Rows L2
inductive TabE (w : World) (K : PySem.W.Frag) (ad : Str → Addr) : List (Str × List Str) → List DictEntry → Prop
  | nil : TabE w K ad [] []
  | cons {k : Str} {tk : Tok} {a : Addr} {vs : List Str} {tb : List (Str × List Str)} {es : List DictEntry} {od : Option Addr} {its : Array Value} {n : Nat} {sl : Array (Option Value)} : ad k = a → K.lookup a = some ⟨.type "tuple", od, .seq its n, sl⟩ → Vals (vs.map V.str) its.toList → its.size ≤ sizeLine → TabE w K ad tb es → TabE w K ad ((k, vs) :: tb) (⟨PyData.keyHash w.params k, .str k tk, .ref a⟩ :: es)
theorem TabE.row {w : World} {K : PySem.W.Frag} {ad : Str → Addr} {tb : List (Str × List Str)} {es : List DictEntry} (h : TabE w K ad tb es) : ∀ p ∈ tb, ∀ H : Hp, SqT K H (ad p.1) (p.2.map V.str) := by
  induction h with
  | nil => exact fun p hp => nomatch hp
  | cons e lu va zi _ ih =>
    intro p hp H
    rcases List.mem_cons.mp hp with rfl | hp
    · subst e
      exact .inr ⟨_, _, _, lu, rfl, rfl, zi, va⟩
    · exact ih p hp H
theorem TabE.keys {P : Program} {w : World} {K : PySem.W.Frag} {ad : Str → Addr} {tb : List (Str × List Str)} {es : List DictEntry} (h : TabE w K ad tb es) : ∀ e ∈ es, ∃ k, (mixKind P w).is k e.key = true ∧ e.hash = (mixKind P w).hash k := by
  induction h with
  | nil => exact fun p hp => nomatch hp
  | @cons k tk _ _ _ _ _ _ _ _ e lu va zi _ ih =>
    intro p hp
    rcases List.mem_cons.mp hp with rfl | hp
    · exact ⟨.inr k, (show Value.isStrOf k (.str k tk) = true by simp [Value.isStrOf]), rfl⟩
    · exact ih p hp
theorem TabE.pairs {P : Program} {w : World} {K : PySem.W.Frag} {ad : Str → Addr} {tb : List (Str × List Str)} {es : List DictEntry} (h : TabE w K ad tb es) : Pairs (mixKind P w) es (tb.map fun p => ((.inr p.1 : Key), Value.ref (ad p.1))) := by
  induction h with
  | nil => exact .nil
  | @cons k tk _ _ _ _ _ _ _ _ e lu va zi _ ih =>
    exact .cons (show Value.isStrOf k (.str k tk) = true by simp [Value.isStrOf]) (congrArg Value.ref e.symm) ih
theorem kv_tab (ad : Str → Addr) : ∀ tb : List (Str × List Str), KV (tb.map fun p => ((.inr p.1 : Key), V.ref (ad p.1))) (tb.map fun p => ((.inr p.1 : Key), Value.ref (ad p.1)))
  | [] => .nil
  | _ :: r => .cons ⟨rfl, rfl⟩ (kv_tab ad r)
theorem nodup_tab (ad : Str → Addr) {tb : List (Str × List Str)} (h : (tb.map (·.1)).Nodup) : ((tb.map fun p => ((.inr p.1 : Key), Value.ref (ad p.1))).map (·.1)).Nodup := by
  have e : ((tb.map fun p => ((.inr p.1 : Key), Value.ref (ad p.1))).map (·.1)) = (tb.map (·.1)).map (Sum.inr : Str → Key) := by
    rw [List.map_map, List.map_map]
    rfl
  rw [e]
  exact h.map _ fun a b n q => n (Sum.inr.inj q)
theorem tab_mk {P : Program} {w : World} {K : PySem.W.Frag} {c : Addr} {ad : Str → Addr} {tb : List (Str × List Str)} {es : Array DictEntry} {ep : Nat} (h1 : (c == sysModules) = false) (lu : K.lookup c = some ⟨.type "dict", none, .dict es ep, #[]⟩) (h : TabE w K ad tb es.toList) (nd : (tb.map (·.1)).Nodup) : Tab P w K c ad tb :=
  ⟨⟨h1, _, es, ep, _, lu, ⟨rfl, rfl, rfl⟩, rfl, fun e he => h.keys e (Array.mem_toList_iff.mpr he), h.pairs, nodup_tab ad nd, kv_tab ad tb⟩, h.row⟩
theorem nd_exprs : (exprs.map (·.1)).Nodup := by decide +kernel
theorem nd_stats : (stats.map (·.1)).Nodup := by decide +kernel
theorem nd_joints : (joints.map (·.1)).Nodup := by decide +kernel
def adOf : List (Str × Addr) → Str → Addr
  | [], _ => 0
  | (k, a) :: r, x => if x = k then a else adOf r x
def adT : Str → Str → Addr := fun s => if s = "e" then adOf [("me", 16), ("name", 17), ("new", 18), ("get", 19), ("ask", 20), ("up", 21), ("plus", 22), ("minus", 23), ("less", 24), ("alike", 25), ("or", 26)] else if s = "s" then adOf [("let", 28), ("put", 29), ("drop", 30), ("tell", 31), ("do", 32), ("give", 33), ("throw", 34), ("become", 35), ("if", 36), ("while", 37), ("repeat", 38), ("try", 39), ("turn", 40), ("strip", 41), ("elders", 42)] else adOf [("if", 44), ("while", 45), ("repeat", 46), ("try", 47)]
end K25
end
section
set_option autoImplicit false
namespace K25
open PySem PyProof.Rows L2
theorem el1 {α : Type} {C : List α → Prop} (h : ∀ v0, C [v0]) : ∀ us : List α, us.length = 1 → C us
  | [v0], _ => h v0
theorem el2 {α : Type} {C : List α → Prop} (h : ∀ v0 v1, C [v0, v1]) : ∀ us : List α, us.length = 2 → C us
  | [v0, v1], _ => h v0 v1
theorem el3 {α : Type} {C : List α → Prop} (h : ∀ v0 v1 v2, C [v0, v1, v2]) : ∀ us : List α, us.length = 3 → C us
  | [v0, v1, v2], _ => h v0 v1 v2
theorem el4 {α : Type} {C : List α → Prop} (h : ∀ v0 v1 v2 v3, C [v0, v1, v2, v3]) : ∀ us : List α, us.length = 4 → C us
  | [v0, v1, v2, v3], _ => h v0 v1 v2 v3
theorem all_mk {l : PySem.W.OpenLaw} {w : World} {K : PySem.W.Frag} {h : Heap} {mg : Str → Option Value} {fa f0 f1 f2 f3 f4 f5 f6 f7 f8 f9 f10 f11 f12 f13 f14 f15 f16 f17 f18 f19 f20 f21 f22 f23 f24 : Addr} (X : K.In h) (G : h.Ns mainGlobals mg) (hfa : mg "law" = some (.ref fa))
    {od0 an0 od1 an1 od2 an2 od3 an3 od4 an4 od5 an5 od6 an6 od7 an7 od8 an8 od9 an9 od10 an10 od11 an11 od12 an12 od13 an13 od14 an14 od15 an15 od16 an16 od17 an17 od18 an18 od19 an19 od20 an20 od21 an21 od22 an22 od23 an23 od24 an24 : Option Addr} {sl0 sl1 sl2 sl3 sl4 sl5 sl6 sl7 sl8 sl9 sl10 sl11 sl12 sl13 sl14 sl15 sl16 sl17 sl18 sl19 sl20 sl21 sl22 sl23 sl24 : Array (Option Value)} {oc0 kV0 dc0 pm0 cd0 ct0 oc1 kV1 dc1 pm1 cd1 ct1 oc2 kV2 dc2 pm2 cd2 ct2 oc3 kV3 dc3 pm3 cd3 ct3 oc4 kV4 dc4 pm4 cd4 ct4 oc5 kV5 dc5 pm5 cd5 ct5 oc6 kV6 dc6 pm6 cd6 ct6 oc7 kV7 dc7 pm7 cd7 ct7 oc8 kV8 dc8 pm8 cd8 ct8 oc9 kV9 dc9 pm9 cd9 ct9 oc10 kV10 dc10 pm10 cd10 ct10 oc11 kV11 dc11 pm11 cd11 ct11 oc12 kV12 dc12 pm12 cd12 ct12 oc13 kV13 dc13 pm13 cd13 ct13 oc14 kV14 dc14 pm14 cd14 ct14 oc15 kV15 dc15 pm15 cd15 ct15 oc16 kV16 dc16 pm16 cd16 ct16 oc17 kV17 dc17 pm17 cd17 ct17 oc18 kV18 dc18 pm18 cd18 ct18 oc19 kV19 dc19 pm19 cd19 ct19 oc20 kV20 dc20 pm20 cd20 ct20 oc21 kV21 dc21 pm21 cd21 ct21 oc22 kV22 dc22 pm22 cd22 ct22 oc23 kV23 dc23 pm23 cd23 ct23 oc24 kV24 dc24 pm24 cd24 ct24 : Value}
    (a0 : PySem.W.nsIn K mainGlobals "show_program" = some (some (.ref f0))) (l0 : K.lookup f0 = some ⟨oc0, od0, .func (PySem.W.fnOf "show_program" "show_program" (defArgs (top 4)) (defBody (top 4)) (defScope (top 4)) .none kV0 dc0 pm0 an0 cd0 ct0), sl0⟩) (c0 : PySem.W.codeIn K cd0 "show_program" = true) (k0 : PySem.W.keepIn K (.ref f0) = true)
    (a1 : PySem.W.nsIn K mainGlobals "show_kind" = some (some (.ref f1))) (l1 : K.lookup f1 = some ⟨oc1, od1, .func (PySem.W.fnOf "show_kind" "show_kind" (defArgs (top 5)) (defBody (top 5)) (defScope (top 5)) .none kV1 dc1 pm1 an1 cd1 ct1), sl1⟩) (c1 : PySem.W.codeIn K cd1 "show_kind" = true) (k1 : PySem.W.keepIn K (.ref f1) = true)
    (a2 : PySem.W.nsIn K mainGlobals "show_body" = some (some (.ref f2))) (l2 : K.lookup f2 = some ⟨oc2, od2, .func (PySem.W.fnOf "show_body" "show_body" (defArgs (top 6)) (defBody (top 6)) (defScope (top 6)) .none kV2 dc2 pm2 an2 cd2 ct2), sl2⟩) (c2 : PySem.W.codeIn K cd2 "show_body" = true) (k2 : PySem.W.keepIn K (.ref f2) = true)
    (a3 : PySem.W.nsIn K mainGlobals "show_block" = some (some (.ref f3))) (l3 : K.lookup f3 = some ⟨oc3, od3, .func (PySem.W.fnOf "show_block" "show_block" (defArgs (top 7)) (defBody (top 7)) (defScope (top 7)) .none kV3 dc3 pm3 an3 cd3 ct3), sl3⟩) (c3 : PySem.W.codeIn K cd3 "show_block" = true) (k3 : PySem.W.keepIn K (.ref f3) = true)
    (a4 : PySem.W.nsIn K mainGlobals "show_statement" = some (some (.ref f4))) (l4 : K.lookup f4 = some ⟨oc4, od4, .func (PySem.W.fnOf "show_statement" "show_statement" (defArgs (top 8)) (defBody (top 8)) (defScope (top 8)) .none kV4 dc4 pm4 an4 cd4 ct4), sl4⟩) (c4 : PySem.W.codeIn K cd4 "show_statement" = true) (k4 : PySem.W.keepIn K (.ref f4) = true)
    (a5 : PySem.W.nsIn K mainGlobals "show_part" = some (some (.ref f5))) (l5 : K.lookup f5 = some ⟨oc5, od5, .func (PySem.W.fnOf "show_part" "show_part" (defArgs (top 9)) (defBody (top 9)) (defScope (top 9)) .none kV5 dc5 pm5 an5 cd5 ct5), sl5⟩) (c5 : PySem.W.codeIn K cd5 "show_part" = true) (k5 : PySem.W.keepIn K (.ref f5) = true)
    (a6 : PySem.W.nsIn K mainGlobals "show_parts" = some (some (.ref f6))) (l6 : K.lookup f6 = some ⟨oc6, od6, .func (PySem.W.fnOf "show_parts" "show_parts" (defArgs (top 10)) (defBody (top 10)) (defScope (top 10)) .none kV6 dc6 pm6 an6 cd6 ct6), sl6⟩) (c6 : PySem.W.codeIn K cd6 "show_parts" = true) (k6 : PySem.W.keepIn K (.ref f6) = true)
    (a7 : PySem.W.nsIn K mainGlobals "show_expression" = some (some (.ref f7))) (l7 : K.lookup f7 = some ⟨oc7, od7, .func (PySem.W.fnOf "show_expression" "show_expression" (defArgs (top 11)) (defBody (top 11)) (defScope (top 11)) .none kV7 dc7 pm7 an7 cd7 ct7), sl7⟩) (c7 : PySem.W.codeIn K cd7 "show_expression" = true) (k7 : PySem.W.keepIn K (.ref f7) = true)
    (a8 : PySem.W.nsIn K mainGlobals "_law_cell" = some (some (.ref f8))) (l8 : K.lookup f8 = some ⟨oc8, od8, .func (PySem.W.fnOf "_law_cell" "_law_cell" (defArgs (top 13)) (defBody (top 13)) (defScope (top 13)) .none kV8 dc8 pm8 an8 cd8 ct8), sl8⟩) (c8 : PySem.W.codeIn K cd8 "_law_cell" = true) (k8 : PySem.W.keepIn K (.ref f8) = true)
    (a9 : PySem.W.nsIn K mainGlobals "_law_purse" = some (some (.ref f9))) (l9 : K.lookup f9 = some ⟨oc9, od9, .func (PySem.W.fnOf "_law_purse" "_law_purse" (defArgs (top 14)) (defBody (top 14)) (defScope (top 14)) .none kV9 dc9 pm9 an9 cd9 ct9), sl9⟩) (c9 : PySem.W.codeIn K cd9 "_law_purse" = true) (k9 : PySem.W.keepIn K (.ref f9) = true)
    (a10 : PySem.W.nsIn K mainGlobals "_law_take" = some (some (.ref f10))) (l10 : K.lookup f10 = some ⟨oc10, od10, .func (PySem.W.fnOf "_law_take" "_law_take" (defArgs (top 15)) (defBody (top 15)) (defScope (top 15)) .none kV10 dc10 pm10 an10 cd10 ct10), sl10⟩) (c10 : PySem.W.codeIn K cd10 "_law_take" = true) (k10 : PySem.W.keepIn K (.ref f10) = true)
    (a11 : PySem.W.nsIn K mainGlobals "_law_word" = some (some (.ref f11))) (l11 : K.lookup f11 = some ⟨oc11, od11, .func (PySem.W.fnOf "_law_word" "_law_word" (defArgs (top 16)) (defBody (top 16)) (defScope (top 16)) .none kV11 dc11 pm11 an11 cd11 ct11), sl11⟩) (c11 : PySem.W.codeIn K cd11 "_law_word" = true) (k11 : PySem.W.keepIn K (.ref f11) = true)
    (a12 : PySem.W.nsIn K mainGlobals "_law_words" = some (some (.ref f12))) (l12 : K.lookup f12 = some ⟨oc12, od12, .func (PySem.W.fnOf "_law_words" "_law_words" (defArgs (top 17)) (defBody (top 17)) (defScope (top 17)) .none kV12 dc12 pm12 an12 cd12 ct12), sl12⟩) (c12 : PySem.W.codeIn K cd12 "_law_words" = true) (k12 : PySem.W.keepIn K (.ref f12) = true)
    (a13 : PySem.W.nsIn K mainGlobals "_law_merge" = some (some (.ref f13))) (l13 : K.lookup f13 = some ⟨oc13, od13, .func (PySem.W.fnOf "_law_merge" "_law_merge" (defArgs (top 18)) (defBody (top 18)) (defScope (top 18)) .none kV13 dc13 pm13 an13 cd13 ct13), sl13⟩) (c13 : PySem.W.codeIn K cd13 "_law_merge" = true) (k13 : PySem.W.keepIn K (.ref f13) = true)
    (a14 : PySem.W.nsIn K mainGlobals "_law_some" = some (some (.ref f14))) (l14 : K.lookup f14 = some ⟨oc14, od14, .func (PySem.W.fnOf "_law_some" "_law_some" (defArgs (top 19)) (defBody (top 19)) (defScope (top 19)) .none kV14 dc14 pm14 an14 cd14 ct14), sl14⟩) (c14 : PySem.W.codeIn K cd14 "_law_some" = true) (k14 : PySem.W.keepIn K (.ref f14) = true)
    (a15 : PySem.W.nsIn K mainGlobals "_law_kinds" = some (some (.ref f15))) (l15 : K.lookup f15 = some ⟨oc15, od15, .func (PySem.W.fnOf "_law_kinds" "_law_kinds" (defArgs (top 20)) (defBody (top 20)) (defScope (top 20)) .none kV15 dc15 pm15 an15 cd15 ct15), sl15⟩) (c15 : PySem.W.codeIn K cd15 "_law_kinds" = true) (k15 : PySem.W.keepIn K (.ref f15) = true)
    (a16 : PySem.W.nsIn K mainGlobals "_law_e" = some (some (.ref f16))) (l16 : K.lookup f16 = some ⟨oc16, od16, .func (PySem.W.fnOf "_law_e" "_law_e" (defArgs (top 21)) (defBody (top 21)) (defScope (top 21)) .none kV16 dc16 pm16 an16 cd16 ct16), sl16⟩) (c16 : PySem.W.codeIn K cd16 "_law_e" = true) (k16 : PySem.W.keepIn K (.ref f16) = true)
    (a17 : PySem.W.nsIn K mainGlobals "_law_s" = some (some (.ref f17))) (l17 : K.lookup f17 = some ⟨oc17, od17, .func (PySem.W.fnOf "_law_s" "_law_s" (defArgs (top 22)) (defBody (top 22)) (defScope (top 22)) .none kV17 dc17 pm17 an17 cd17 ct17), sl17⟩) (c17 : PySem.W.codeIn K cd17 "_law_s" = true) (k17 : PySem.W.keepIn K (.ref f17) = true)
    (a18 : PySem.W.nsIn K mainGlobals "_law_b" = some (some (.ref f18))) (l18 : K.lookup f18 = some ⟨oc18, od18, .func (PySem.W.fnOf "_law_b" "_law_b" (defArgs (top 23)) (defBody (top 23)) (defScope (top 23)) .none kV18 dc18 pm18 an18 cd18 ct18), sl18⟩) (c18 : PySem.W.codeIn K cd18 "_law_b" = true) (k18 : PySem.W.keepIn K (.ref f18) = true)
    (a19 : PySem.W.nsIn K mainGlobals "_law_p" = some (some (.ref f19))) (l19 : K.lookup f19 = some ⟨oc19, od19, .func (PySem.W.fnOf "_law_p" "_law_p" (defArgs (top 24)) (defBody (top 24)) (defScope (top 24)) .none kV19 dc19 pm19 an19 cd19 ct19), sl19⟩) (c19 : PySem.W.codeIn K cd19 "_law_p" = true) (k19 : PySem.W.keepIn K (.ref f19) = true)
    (a20 : PySem.W.nsIn K mainGlobals "_law_e_text" = some (some (.ref f20))) (l20 : K.lookup f20 = some ⟨oc20, od20, .func (PySem.W.fnOf "_law_e_text" "_law_e_text" (defArgs (top 25)) (defBody (top 25)) (defScope (top 25)) .none kV20 dc20 pm20 an20 cd20 ct20), sl20⟩) (c20 : PySem.W.codeIn K cd20 "_law_e_text" = true) (k20 : PySem.W.keepIn K (.ref f20) = true)
    (a21 : PySem.W.nsIn K mainGlobals "_law_s_rows" = some (some (.ref f21))) (l21 : K.lookup f21 = some ⟨oc21, od21, .func (PySem.W.fnOf "_law_s_rows" "_law_s_rows" (defArgs (top 26)) (defBody (top 26)) (defScope (top 26)) .none kV21 dc21 pm21 an21 cd21 ct21), sl21⟩) (c21 : PySem.W.codeIn K cd21 "_law_s_rows" = true) (k21 : PySem.W.keepIn K (.ref f21) = true)
    (a22 : PySem.W.nsIn K mainGlobals "_law_b_rows" = some (some (.ref f22))) (l22 : K.lookup f22 = some ⟨oc22, od22, .func (PySem.W.fnOf "_law_b_rows" "_law_b_rows" (defArgs (top 27)) (defBody (top 27)) (defScope (top 27)) .none kV22 dc22 pm22 an22 cd22 ct22), sl22⟩) (c22 : PySem.W.codeIn K cd22 "_law_b_rows" = true) (k22 : PySem.W.keepIn K (.ref f22) = true)
    (a23 : PySem.W.nsIn K mainGlobals "_law_text" = some (some (.ref f23))) (l23 : K.lookup f23 = some ⟨oc23, od23, .func (PySem.W.fnOf "_law_text" "_law_text" (defArgs (top 28)) (defBody (top 28)) (defScope (top 28)) .none kV23 dc23 pm23 an23 cd23 ct23), sl23⟩) (c23 : PySem.W.codeIn K cd23 "_law_text" = true) (k23 : PySem.W.keepIn K (.ref f23) = true)
    (a24 : PySem.W.nsIn K mainGlobals "law" = some (some (.ref f24))) (l24 : K.lookup f24 = some ⟨oc24, od24, .func (PySem.W.fnOf "law" "law" (defArgs (top 29)) (defBody (top 29)) (defScope (top 29)) .none kV24 dc24 pm24 an24 cd24 ct24), sl24⟩) (c24 : PySem.W.codeIn K cd24 "law" = true) (k24 : PySem.W.keepIn K (.ref f24) = true)
    (z0 : PySem.W.nsIn K mainGlobals "abs" = some none) (z1 : PySem.W.nsIn K mainGlobals "any" = some none) (z2 : PySem.W.nsIn K mainGlobals "enumerate" = some none) (z3 : PySem.W.nsIn K mainGlobals "int" = some none) (z4 : PySem.W.nsIn K mainGlobals "isinstance" = some none) (z5 : PySem.W.nsIn K mainGlobals "len" = some none) (z6 : PySem.W.nsIn K mainGlobals "list" = some none) (z7 : PySem.W.nsIn K mainGlobals "max" = some none) (z8 : PySem.W.nsIn K mainGlobals "min" = some none) (z9 : PySem.W.nsIn K mainGlobals "range" = some none) (z10 : PySem.W.nsIn K mainGlobals "str" = some none) (z11 : PySem.W.nsIn K mainGlobals "tuple" = some none) (z12 : PySem.W.nsIn K mainGlobals "zip" = some none)
    {cEXPRESSIONS cSTATEMENTS cJOINTS : Addr} {esEXPRESSIONS esSTATEMENTS esJOINTS : Array DictEntry} {epEXPRESSIONS epSTATEMENTS epJOINTS : Nat}
    (yEXPRESSIONS : PySem.W.nsIn K mainGlobals "EXPRESSIONS" = some (some (.ref cEXPRESSIONS))) (mEXPRESSIONS : (cEXPRESSIONS == sysModules) = false) (luEXPRESSIONS : K.lookup cEXPRESSIONS = some ⟨.type "dict", none, .dict esEXPRESSIONS epEXPRESSIONS, #[]⟩) (teEXPRESSIONS : TabE w K (adT "e") exprs esEXPRESSIONS.toList) (ySTATEMENTS : PySem.W.nsIn K mainGlobals "STATEMENTS" = some (some (.ref cSTATEMENTS))) (mSTATEMENTS : (cSTATEMENTS == sysModules) = false) (luSTATEMENTS : K.lookup cSTATEMENTS = some ⟨.type "dict", none, .dict esSTATEMENTS epSTATEMENTS, #[]⟩) (teSTATEMENTS : TabE w K (adT "s") stats esSTATEMENTS.toList) (yJOINTS : PySem.W.nsIn K mainGlobals "JOINTS" = some (some (.ref cJOINTS))) (mJOINTS : (cJOINTS == sysModules) = false) (luJOINTS : K.lookup cJOINTS = some ⟨.type "dict", none, .dict esJOINTS epJOINTS, #[]⟩) (teJOINTS : TabE w K (adT "j") joints esJOINTS.toList) :
    ∃ fd : FuncData, (∀ (s : Shared) (v : Value), BindsTo s fd ⟨[v], []⟩ [("_law_script", v)]) ∧ ∀ base : Heap, K.In base → base.Ns mainGlobals mg → FnOk l.prog w K mg base CX0 33 fa fd ["_law_script"] (spLaw K) := by
  have e := hfa.symm.trans (PySem.W.mg_of X G a24)
  cases e
  have F0 := fun_mk (st := top 4) l0 c0 k0
  have b0 := F0.binds (ps := ["program"]) fun _ _ _ _ _ _ => el1 fun _ => rfl
  have F1 := fun_mk (st := top 5) l1 c1 k1
  have b1 := F1.binds (ps := ["row"]) fun _ _ _ _ _ _ => el1 fun _ => rfl
  have F2 := fun_mk (st := top 6) l2 c2 k2
  have b2 := F2.binds (ps := ["first", "block"]) fun _ _ _ _ _ _ => el2 fun _ _ => rfl
  have F3 := fun_mk (st := top 7) l3 c3 k3
  have b3 := F3.binds (ps := ["block"]) fun _ _ _ _ _ _ => el1 fun _ => rfl
  have F4 := fun_mk (st := top 8) l4 c4 k4
  have b4 := F4.binds (ps := ["statement"]) fun _ _ _ _ _ _ => el1 fun _ => rfl
  have F5 := fun_mk (st := top 9) l5 c5 k5
  have b5 := F5.binds (ps := ["form", "part"]) fun _ _ _ _ _ _ => el2 fun _ _ => rfl
  have F6 := fun_mk (st := top 10) l6 c6 k6
  have b6 := F6.binds (ps := ["forms", "parts"]) fun _ _ _ _ _ _ => el2 fun _ _ => rfl
  have F7 := fun_mk (st := top 11) l7 c7 k7
  have b7 := F7.binds (ps := ["expression"]) fun _ _ _ _ _ _ => el1 fun _ => rfl
  have F8 := fun_mk (st := top 13) l8 c8 k8
  have b8 := F8.binds (ps := ["_law_script", "_law_k"]) fun _ _ _ _ _ _ => el2 fun _ _ => rfl
  have F9 := fun_mk (st := top 14) l9 c9 k9
  have b9 := F9.binds (ps := ["_law_cell_here"]) fun _ _ _ _ _ _ => el1 fun _ => rfl
  have F10 := fun_mk (st := top 15) l10 c10 k10
  have b10 := F10.binds (ps := ["_law_purse_here", "_law_many"]) fun _ _ _ _ _ _ => el2 fun _ _ => rfl
  have F11 := fun_mk (st := top 16) l11 c11 k11
  have b11 := F11.binds (ps := ["_law_purse_here", "_law_used"]) fun _ _ _ _ _ _ => el2 fun _ _ => rfl
  have F12 := fun_mk (st := top 17) l12 c12 k12
  have b12 := F12.binds (ps := ["_law_purse_here", "_law_many", "_law_used"]) fun _ _ _ _ _ _ => el3 fun _ _ _ => rfl
  have F13 := fun_mk (st := top 18) l13 c13 k13
  have b13 := F13.binds (ps := ["_law_kind", "_law_rows"]) fun _ _ _ _ _ _ => el2 fun _ _ => rfl
  have F14 := fun_mk (st := top 19) l14 c14 k14
  have b14 := F14.binds (ps := ["_law_purse_here", "_law_menu", "_law_most"]) fun _ _ _ _ _ _ => el3 fun _ _ _ => rfl
  have F15 := fun_mk (st := top 20) l15 c15 k15
  have b15 := F15.binds (ps := ["_law_purse_here", "_law_many", "_law_used", "_law_fields"]) fun _ _ _ _ _ _ => el4 fun _ _ _ _ => rfl
  have F16 := fun_mk (st := top 21) l16 c16 k16
  have b16 := F16.binds (ps := ["_law_purse_here", "_law_deep", "_law_tools"]) fun _ _ _ _ _ _ => el3 fun _ _ _ => rfl
  have F17 := fun_mk (st := top 22) l17 c17 k17
  have b17 := F17.binds (ps := ["_law_purse_here", "_law_deep", "_law_room", "_law_tools"]) fun _ _ _ _ _ _ => el4 fun _ _ _ _ => rfl
  have F18 := fun_mk (st := top 23) l18 c18 k18
  have b18 := F18.binds (ps := ["_law_purse_here", "_law_deep", "_law_room", "_law_tools"]) fun _ _ _ _ _ _ => el4 fun _ _ _ _ => rfl
  have F19 := fun_mk (st := top 24) l19 c19 k19
  have b19 := F19.binds (ps := ["_law_purse_here"]) fun _ _ _ _ _ _ => el1 fun _ => rfl
  have F20 := fun_mk (st := top 25) l20 c20 k20
  have b20 := F20.binds (ps := ["_law_part"]) fun _ _ _ _ _ _ => el1 fun _ => rfl
  have F21 := fun_mk (st := top 26) l21 c21 k21
  have b21 := F21.binds (ps := ["_law_part"]) fun _ _ _ _ _ _ => el1 fun _ => rfl
  have F22 := fun_mk (st := top 27) l22 c22 k22
  have b22 := F22.binds (ps := ["_law_block"]) fun _ _ _ _ _ _ => el1 fun _ => rfl
  have F23 := fun_mk (st := top 28) l23 c23 k23
  have b23 := F23.binds (ps := ["_law_program"]) fun _ _ _ _ _ _ => el1 fun _ => rfl
  have F24 := fun_mk (st := top 29) l24 c24 k24
  have b24 := F24.binds (ps := ["_law_script"]) fun _ _ _ _ _ _ => el1 fun _ => rfl
  have T : Defs K mg ⟨(f0, PySem.W.fnOf "show_program" "show_program" (defArgs (top 4)) (defBody (top 4)) (defScope (top 4)) .none kV0 dc0 pm0 an0 cd0 ct0), (f1, PySem.W.fnOf "show_kind" "show_kind" (defArgs (top 5)) (defBody (top 5)) (defScope (top 5)) .none kV1 dc1 pm1 an1 cd1 ct1), (f2, PySem.W.fnOf "show_body" "show_body" (defArgs (top 6)) (defBody (top 6)) (defScope (top 6)) .none kV2 dc2 pm2 an2 cd2 ct2), (f3, PySem.W.fnOf "show_block" "show_block" (defArgs (top 7)) (defBody (top 7)) (defScope (top 7)) .none kV3 dc3 pm3 an3 cd3 ct3), (f4, PySem.W.fnOf "show_statement" "show_statement" (defArgs (top 8)) (defBody (top 8)) (defScope (top 8)) .none kV4 dc4 pm4 an4 cd4 ct4), (f5, PySem.W.fnOf "show_part" "show_part" (defArgs (top 9)) (defBody (top 9)) (defScope (top 9)) .none kV5 dc5 pm5 an5 cd5 ct5), (f6, PySem.W.fnOf "show_parts" "show_parts" (defArgs (top 10)) (defBody (top 10)) (defScope (top 10)) .none kV6 dc6 pm6 an6 cd6 ct6), (f7, PySem.W.fnOf "show_expression" "show_expression" (defArgs (top 11)) (defBody (top 11)) (defScope (top 11)) .none kV7 dc7 pm7 an7 cd7 ct7), (f8, PySem.W.fnOf "_law_cell" "_law_cell" (defArgs (top 13)) (defBody (top 13)) (defScope (top 13)) .none kV8 dc8 pm8 an8 cd8 ct8), (f9, PySem.W.fnOf "_law_purse" "_law_purse" (defArgs (top 14)) (defBody (top 14)) (defScope (top 14)) .none kV9 dc9 pm9 an9 cd9 ct9), (f10, PySem.W.fnOf "_law_take" "_law_take" (defArgs (top 15)) (defBody (top 15)) (defScope (top 15)) .none kV10 dc10 pm10 an10 cd10 ct10), (f11, PySem.W.fnOf "_law_word" "_law_word" (defArgs (top 16)) (defBody (top 16)) (defScope (top 16)) .none kV11 dc11 pm11 an11 cd11 ct11), (f12, PySem.W.fnOf "_law_words" "_law_words" (defArgs (top 17)) (defBody (top 17)) (defScope (top 17)) .none kV12 dc12 pm12 an12 cd12 ct12), (f13, PySem.W.fnOf "_law_merge" "_law_merge" (defArgs (top 18)) (defBody (top 18)) (defScope (top 18)) .none kV13 dc13 pm13 an13 cd13 ct13), (f14, PySem.W.fnOf "_law_some" "_law_some" (defArgs (top 19)) (defBody (top 19)) (defScope (top 19)) .none kV14 dc14 pm14 an14 cd14 ct14), (f15, PySem.W.fnOf "_law_kinds" "_law_kinds" (defArgs (top 20)) (defBody (top 20)) (defScope (top 20)) .none kV15 dc15 pm15 an15 cd15 ct15), (f16, PySem.W.fnOf "_law_e" "_law_e" (defArgs (top 21)) (defBody (top 21)) (defScope (top 21)) .none kV16 dc16 pm16 an16 cd16 ct16), (f17, PySem.W.fnOf "_law_s" "_law_s" (defArgs (top 22)) (defBody (top 22)) (defScope (top 22)) .none kV17 dc17 pm17 an17 cd17 ct17), (f18, PySem.W.fnOf "_law_b" "_law_b" (defArgs (top 23)) (defBody (top 23)) (defScope (top 23)) .none kV18 dc18 pm18 an18 cd18 ct18), (f19, PySem.W.fnOf "_law_p" "_law_p" (defArgs (top 24)) (defBody (top 24)) (defScope (top 24)) .none kV19 dc19 pm19 an19 cd19 ct19), (f20, PySem.W.fnOf "_law_e_text" "_law_e_text" (defArgs (top 25)) (defBody (top 25)) (defScope (top 25)) .none kV20 dc20 pm20 an20 cd20 ct20), (f21, PySem.W.fnOf "_law_s_rows" "_law_s_rows" (defArgs (top 26)) (defBody (top 26)) (defScope (top 26)) .none kV21 dc21 pm21 an21 cd21 ct21), (f22, PySem.W.fnOf "_law_b_rows" "_law_b_rows" (defArgs (top 27)) (defBody (top 27)) (defScope (top 27)) .none kV22 dc22 pm22 an22 cd22 ct22), (f23, PySem.W.fnOf "_law_text" "_law_text" (defArgs (top 28)) (defBody (top 28)) (defScope (top 28)) .none kV23 dc23 pm23 an23 cd23 ct23), (fa, PySem.W.fnOf "law" "law" (defArgs (top 29)) (defBody (top 29)) (defScope (top 29)) .none kV24 dc24 pm24 an24 cd24 ct24), cEXPRESSIONS, cSTATEMENTS, cJOINTS, adT⟩ := ⟨⟨F0, b0, PySem.W.mg_of X G a0⟩, ⟨F1, b1, PySem.W.mg_of X G a1⟩, ⟨F2, b2, PySem.W.mg_of X G a2⟩, ⟨F3, b3, PySem.W.mg_of X G a3⟩, ⟨F4, b4, PySem.W.mg_of X G a4⟩, ⟨F5, b5, PySem.W.mg_of X G a5⟩, ⟨F6, b6, PySem.W.mg_of X G a6⟩, ⟨F7, b7, PySem.W.mg_of X G a7⟩, ⟨F8, b8, PySem.W.mg_of X G a8⟩, ⟨F9, b9, PySem.W.mg_of X G a9⟩, ⟨F10, b10, PySem.W.mg_of X G a10⟩, ⟨F11, b11, PySem.W.mg_of X G a11⟩, ⟨F12, b12, PySem.W.mg_of X G a12⟩, ⟨F13, b13, PySem.W.mg_of X G a13⟩, ⟨F14, b14, PySem.W.mg_of X G a14⟩, ⟨F15, b15, PySem.W.mg_of X G a15⟩, ⟨F16, b16, PySem.W.mg_of X G a16⟩, ⟨F17, b17, PySem.W.mg_of X G a17⟩, ⟨F18, b18, PySem.W.mg_of X G a18⟩, ⟨F19, b19, PySem.W.mg_of X G a19⟩, ⟨F20, b20, PySem.W.mg_of X G a20⟩, ⟨F21, b21, PySem.W.mg_of X G a21⟩, ⟨F22, b22, PySem.W.mg_of X G a22⟩, ⟨F23, b23, PySem.W.mg_of X G a23⟩, ⟨F24, b24, PySem.W.mg_of X G a24⟩, PySem.W.mg_none_of X G z0, PySem.W.mg_none_of X G z1, PySem.W.mg_none_of X G z2, PySem.W.mg_none_of X G z3, PySem.W.mg_none_of X G z4, PySem.W.mg_none_of X G z5, PySem.W.mg_none_of X G z6, PySem.W.mg_none_of X G z7, PySem.W.mg_none_of X G z8, PySem.W.mg_none_of X G z9, PySem.W.mg_none_of X G z10, PySem.W.mg_none_of X G z11, PySem.W.mg_none_of X G z12⟩
  exact ⟨PySem.W.fnOf "law" "law" (defArgs (top 29)) (defBody (top 29)) (defScope (top 29)) .none kV24 dc24 pm24 an24 cd24 ct24, fun s v => .of_eq rfl, fun base _ _ => ok_law T ⟨PySem.W.mg_of X G yEXPRESSIONS, tab_mk mEXPRESSIONS luEXPRESSIONS teEXPRESSIONS nd_exprs, PySem.W.mg_of X G ySTATEMENTS, tab_mk mSTATEMENTS luSTATEMENTS teSTATEMENTS nd_stats, PySem.W.mg_of X G yJOINTS, tab_mk mJOINTS luJOINTS teJOINTS nd_joints⟩⟩
theorem walk {l : PySem.W.OpenLaw} {q : Program} {loose : List Str} {XP : (Str → Option Value) → Heap → Prop} {YP : World → Heap → Prop} {d : DefRec} {K : Params → PySem.W.Frag} (hn : l.most = some 63) (hdf : d.params.defaults = [])
    (hY : ∀ (w : World) (h : Heap), YP w h → (K w.params).In h)
    (F : ∀ (w : World) (mg : Str → Option Value) (fa : Addr) (h : Heap), (K w.params).In h → h.Ns mainGlobals mg → mg d.name = some (.ref fa) →
      ∃ fd : FuncData, (∀ (s : Shared) (u : Value), BindsTo s fd ⟨[u], []⟩ [("_law_script", u)]) ∧ ∀ base : Heap, (K w.params).In base → base.Ns mainGlobals mg → FnOk l.prog w (K w.params) mg base CX0 33 fa fd ["_law_script"] (spLaw (K w.params))) :
    PySem.W.WalkO q loose XP YP l.row.toRowW d [] (fun f vs => PySem.call f vs) :=
  L2.walk_of (n := 63) (k := 33) (x := "_law_script") (CX := fun _ => CX0) (sp := fun w => spLaw (K w.params)) hn (by decide) hdf ⟨rfl, by decide, by decide⟩ hY F (fun _ _ a ns hl _ hS => ⟨a, ns, rfl, hS, hl, fun _ => rfl⟩) fun _ _ _ _ _ z => z
end K25
theorem PySem.W.Fast.tw17439342631121374481 : True := trivial
theorem PySem.W.Fast.tw7274124393256672017 : True := trivial
theorem PySem.W.Fast.tw1611098398908588424 : True := trivial
theorem PySem.W.Fast.tw13611385660661163628 : True := trivial
theorem PySem.W.Fast.tw2274802703814861049 : True := trivial
theorem PySem.W.Fast.tw2046666775971789678 : True := trivial
theorem PySem.W.Fast.tw8379227413536065189 : True := trivial
theorem PySem.W.Fast.tw13995710174932941712 : True := trivial
theorem PySem.W.Fast.tw6254204507218000906 : True := trivial
theorem PySem.W.Fast.tw14634835834572570367 : True := trivial
theorem PySem.W.Fast.tw8301766420544803628 : True := trivial
theorem PySem.W.Fast.tw9557557605267958977 : True := trivial
theorem PySem.W.Fast.tw8168388966534677540 : True := trivial
theorem PySem.W.Fast.tw3810504949510367049 : True := trivial
theorem PySem.W.Fast.tw12547865459867123482 : True := trivial
theorem PySem.W.Fast.tw17252615588598271218 : True := trivial
theorem PySem.W.Fast.tw17119901132770722481 : True := trivial
theorem PySem.W.Fast.tw3241924647085025678 : True := trivial
theorem PySem.W.Fast.tw18260460699520587917 : True := trivial
theorem PySem.W.Fast.tw11854780415617029761 : True := trivial
theorem PySem.W.Fast.tw3671543189727877507 : True := trivial
theorem PySem.W.Fast.tw1859395537600777307 : True := trivial
theorem PySem.W.Fast.tw1244484153492204427 : True := trivial
theorem PySem.W.Fast.tw14503366512998235600 : True := trivial
theorem PySem.W.Fast.tw4021408174929945301 : True := trivial
theorem PySem.W.Fast.tw586057829721574569 : True := trivial
theorem PySem.W.Fast.tw9068893921436850978 : True := trivial
theorem PySem.W.Fast.tw7531030725098702557 : True := trivial
theorem PySem.W.Fast.tw12008964934790113074 : True := trivial
theorem PySem.W.Fast.tw5806425847806564878 : True := trivial
theorem PySem.W.Fast.tw3813476332655194280 : True := trivial
theorem PySem.W.Fast.tw10473232525686517637 : True := trivial
theorem PySem.W.Fast.tw9622277612014232916 : True := trivial
theorem PySem.W.Fast.tw16083119061937335324 : True := trivial
theorem PySem.W.Fast.tw8040414814392588011 : True := trivial
theorem PySem.W.Fast.tw6866280633936090147 : True := trivial
theorem PySem.W.Fast.tw16176741482259551452 : True := trivial
theorem PySem.W.Fast.tw7810037471654552931 : True := trivial
theorem PySem.W.Fast.tw2549579420381895582 : True := trivial
theorem PySem.W.Fast.tw3609528274013431847 : True := trivial
theorem PySem.W.Fast.tw6618294171185589362 : True := trivial
theorem PySem.W.Fast.tw18022044634528632012 : True := trivial
theorem PySem.W.Fast.tw3344040852361911809 : True := trivial
theorem PySem.W.Fast.tw10677108697577452471 : True := trivial
theorem PySem.W.Fast.tw2707405294718127219 : True := trivial
theorem PySem.W.Fast.tw7718435633650643336 : True := trivial
theorem PySem.W.Fast.tw14740668433376377985 : True := trivial
theorem PySem.W.Fast.tw10529551636556804606 : True := trivial
theorem PySem.W.Fast.tw3934360576056956456 : True := trivial
theorem PySem.W.Fast.tw15064384487372690215 : True := trivial
theorem PySem.W.Fast.tw1401614124011782709 : True := trivial
theorem PySem.W.Fast.tw8073363394171289954 : True := trivial
theorem PySem.W.Fast.tw802635242617707010 : True := trivial
theorem PySem.W.Fast.tw2997804923515967790 : True := trivial
open PySem PySem.W PyProof.Rows
set_option maxRecDepth 100000 in
set_option maxHeartbeats 0 in
theorem PySem.Challenge.cw_warmrows_k25_programs_written_holds : PySem.Challenge.rw_warmrows_k25_programs_written.Holds := by
  w_on; o_law; k_head; (case hw => w_witness2)
  k_fill
  refine K25.walk (l := PySem.Challenge.rw_warmrows_k25_programs_written) rfl rfl (fun w h Y => PySem.W.kIn_of Y) ?F
  case F =>
    intro w mg fa h KX G hmg
    refine' K25.all_mk KX G hmg ?a0 ?l0 ?c0 ?k0 ?a1 ?l1 ?c1 ?k1 ?a2 ?l2 ?c2 ?k2 ?a3 ?l3 ?c3 ?k3 ?a4 ?l4 ?c4 ?k4 ?a5 ?l5 ?c5 ?k5 ?a6 ?l6 ?c6 ?k6 ?a7 ?l7 ?c7 ?k7 ?a8 ?l8 ?c8 ?k8 ?a9 ?l9 ?c9 ?k9 ?a10 ?l10 ?c10 ?k10 ?a11 ?l11 ?c11 ?k11 ?a12 ?l12 ?c12 ?k12 ?a13 ?l13 ?c13 ?k13 ?a14 ?l14 ?c14 ?k14 ?a15 ?l15 ?c15 ?k15 ?a16 ?l16 ?c16 ?k16 ?a17 ?l17 ?c17 ?k17 ?a18 ?l18 ?c18 ?k18 ?a19 ?l19 ?c19 ?k19 ?a20 ?l20 ?c20 ?k20 ?a21 ?l21 ?c21 ?k21 ?a22 ?l22 ?c22 ?k22 ?a23 ?l23 ?c23 ?k23 ?a24 ?l24 ?c24 ?k24 ?z0 ?z1 ?z2 ?z3 ?z4 ?z5 ?z6 ?z7 ?z8 ?z9 ?z10 ?z11 ?z12 ?yEXPRESSIONS ?mEXPRESSIONS ?luEXPRESSIONS ?teEXPRESSIONS ?ySTATEMENTS ?mSTATEMENTS ?luSTATEMENTS ?teSTATEMENTS ?yJOINTS ?mJOINTS ?luJOINTS ?teJOINTS
    (case a0 => k_is); (case l0 => k_is); (case c0 => k_is); (case k0 => k_is)
    (case a1 => k_is); (case l1 => k_is); (case c1 => k_is); (case k1 => k_is)
    (case a2 => k_is); (case l2 => k_is); (case c2 => k_is); (case k2 => k_is)
    (case a3 => k_is); (case l3 => k_is); (case c3 => k_is); (case k3 => k_is)
    (case a4 => k_is); (case l4 => k_is); (case c4 => k_is); (case k4 => k_is)
    (case a5 => k_is); (case l5 => k_is); (case c5 => k_is); (case k5 => k_is)
    (case a6 => k_is); (case l6 => k_is); (case c6 => k_is); (case k6 => k_is)
    (case a7 => k_is); (case l7 => k_is); (case c7 => k_is); (case k7 => k_is)
    (case a8 => k_is); (case l8 => k_is); (case c8 => k_is); (case k8 => k_is)
    (case a9 => k_is); (case l9 => k_is); (case c9 => k_is); (case k9 => k_is)
    (case a10 => k_is); (case l10 => k_is); (case c10 => k_is); (case k10 => k_is)
    (case a11 => k_is); (case l11 => k_is); (case c11 => k_is); (case k11 => k_is)
    (case a12 => k_is); (case l12 => k_is); (case c12 => k_is); (case k12 => k_is)
    (case a13 => k_is); (case l13 => k_is); (case c13 => k_is); (case k13 => k_is)
    (case a14 => k_is); (case l14 => k_is); (case c14 => k_is); (case k14 => k_is)
    (case a15 => k_is); (case l15 => k_is); (case c15 => k_is); (case k15 => k_is)
    (case a16 => k_is); (case l16 => k_is); (case c16 => k_is); (case k16 => k_is)
    (case a17 => k_is); (case l17 => k_is); (case c17 => k_is); (case k17 => k_is)
    (case a18 => k_is); (case l18 => k_is); (case c18 => k_is); (case k18 => k_is)
    (case a19 => k_is); (case l19 => k_is); (case c19 => k_is); (case k19 => k_is)
    (case a20 => k_is); (case l20 => k_is); (case c20 => k_is); (case k20 => k_is)
    (case a21 => k_is); (case l21 => k_is); (case c21 => k_is); (case k21 => k_is)
    (case a22 => k_is); (case l22 => k_is); (case c22 => k_is); (case k22 => k_is)
    (case a23 => k_is); (case l23 => k_is); (case c23 => k_is); (case k23 => k_is)
    (case a24 => k_is); (case l24 => k_is); (case c24 => k_is); (case k24 => k_is)
    (case z0 => k_is); (case z1 => k_is); (case z2 => k_is); (case z3 => k_is); (case z4 => k_is); (case z5 => k_is); (case z6 => k_is); (case z7 => k_is); (case z8 => k_is); (case z9 => k_is); (case z10 => k_is); (case z11 => k_is); (case z12 => k_is)
    (case yEXPRESSIONS => k_is); (case mEXPRESSIONS => rfl); (case luEXPRESSIONS => k_is)
    case teEXPRESSIONS =>
      refine' K25.TabE.cons ?rae0 ?rbe0 ?rce0 ?rde0 ?ree0
      (case rae0 => decide +kernel); (case rbe0 => k_is); (case rce0 => exact .nil); (case rde0 => show 0 ≤ sizeLine; decide)
      refine' K25.TabE.cons ?rae1 ?rbe1 ?rce1 ?rde1 ?ree1
      (case rae1 => decide +kernel); (case rbe1 => k_is); (case rce1 => exact (.cons ⟨_, rfl⟩ .nil)); (case rde1 => show 1 ≤ sizeLine; decide)
      refine' K25.TabE.cons ?rae2 ?rbe2 ?rce2 ?rde2 ?ree2
      (case rae2 => decide +kernel); (case rbe2 => k_is); (case rce2 => exact (.cons ⟨_, rfl⟩ .nil)); (case rde2 => show 1 ≤ sizeLine; decide)
      refine' K25.TabE.cons ?rae3 ?rbe3 ?rce3 ?rde3 ?ree3
      (case rae3 => decide +kernel); (case rbe3 => k_is); (case rce3 => exact (.cons ⟨_, rfl⟩ (.cons ⟨_, rfl⟩ .nil))); (case rde3 => show 2 ≤ sizeLine; decide)
      refine' K25.TabE.cons ?rae4 ?rbe4 ?rce4 ?rde4 ?ree4
      (case rae4 => decide +kernel); (case rbe4 => k_is); (case rce4 => exact (.cons ⟨_, rfl⟩ (.cons ⟨_, rfl⟩ (.cons ⟨_, rfl⟩ .nil)))); (case rde4 => show 3 ≤ sizeLine; decide)
      refine' K25.TabE.cons ?rae5 ?rbe5 ?rce5 ?rde5 ?ree5
      (case rae5 => decide +kernel); (case rbe5 => k_is); (case rce5 => exact (.cons ⟨_, rfl⟩ (.cons ⟨_, rfl⟩ .nil))); (case rde5 => show 2 ≤ sizeLine; decide)
      refine' K25.TabE.cons ?rae6 ?rbe6 ?rce6 ?rde6 ?ree6
      (case rae6 => decide +kernel); (case rbe6 => k_is); (case rce6 => exact (.cons ⟨_, rfl⟩ (.cons ⟨_, rfl⟩ .nil))); (case rde6 => show 2 ≤ sizeLine; decide)
      refine' K25.TabE.cons ?rae7 ?rbe7 ?rce7 ?rde7 ?ree7
      (case rae7 => decide +kernel); (case rbe7 => k_is); (case rce7 => exact (.cons ⟨_, rfl⟩ (.cons ⟨_, rfl⟩ .nil))); (case rde7 => show 2 ≤ sizeLine; decide)
      refine' K25.TabE.cons ?rae8 ?rbe8 ?rce8 ?rde8 ?ree8
      (case rae8 => decide +kernel); (case rbe8 => k_is); (case rce8 => exact (.cons ⟨_, rfl⟩ (.cons ⟨_, rfl⟩ .nil))); (case rde8 => show 2 ≤ sizeLine; decide)
      refine' K25.TabE.cons ?rae9 ?rbe9 ?rce9 ?rde9 ?ree9
      (case rae9 => decide +kernel); (case rbe9 => k_is); (case rce9 => exact (.cons ⟨_, rfl⟩ (.cons ⟨_, rfl⟩ .nil))); (case rde9 => show 2 ≤ sizeLine; decide)
      refine' K25.TabE.cons ?rae10 ?rbe10 ?rce10 ?rde10 ?ree10
      (case rae10 => decide +kernel); (case rbe10 => k_is); (case rce10 => exact (.cons ⟨_, rfl⟩ (.cons ⟨_, rfl⟩ .nil))); (case rde10 => show 2 ≤ sizeLine; decide)
      exact .nil
    (case ySTATEMENTS => k_is); (case mSTATEMENTS => rfl); (case luSTATEMENTS => k_is)
    case teSTATEMENTS =>
      refine' K25.TabE.cons ?ras0 ?rbs0 ?rcs0 ?rds0 ?res0
      (case ras0 => decide +kernel); (case rbs0 => k_is); (case rcs0 => exact (.cons ⟨_, rfl⟩ (.cons ⟨_, rfl⟩ .nil))); (case rds0 => show 2 ≤ sizeLine; decide)
      refine' K25.TabE.cons ?ras1 ?rbs1 ?rcs1 ?rds1 ?res1
      (case ras1 => decide +kernel); (case rbs1 => k_is); (case rcs1 => exact (.cons ⟨_, rfl⟩ (.cons ⟨_, rfl⟩ (.cons ⟨_, rfl⟩ .nil)))); (case rds1 => show 3 ≤ sizeLine; decide)
      refine' K25.TabE.cons ?ras2 ?rbs2 ?rcs2 ?rds2 ?res2
      (case ras2 => decide +kernel); (case rbs2 => k_is); (case rcs2 => exact (.cons ⟨_, rfl⟩ (.cons ⟨_, rfl⟩ .nil))); (case rds2 => show 2 ≤ sizeLine; decide)
      refine' K25.TabE.cons ?ras3 ?rbs3 ?rcs3 ?rds3 ?res3
      (case ras3 => decide +kernel); (case rbs3 => k_is); (case rcs3 => exact (.cons ⟨_, rfl⟩ .nil)); (case rds3 => show 1 ≤ sizeLine; decide)
      refine' K25.TabE.cons ?ras4 ?rbs4 ?rcs4 ?rds4 ?res4
      (case ras4 => decide +kernel); (case rbs4 => k_is); (case rcs4 => exact (.cons ⟨_, rfl⟩ .nil)); (case rds4 => show 1 ≤ sizeLine; decide)
      refine' K25.TabE.cons ?ras5 ?rbs5 ?rcs5 ?rds5 ?res5
      (case ras5 => decide +kernel); (case rbs5 => k_is); (case rcs5 => exact (.cons ⟨_, rfl⟩ .nil)); (case rds5 => show 1 ≤ sizeLine; decide)
      refine' K25.TabE.cons ?ras6 ?rbs6 ?rcs6 ?rds6 ?res6
      (case ras6 => decide +kernel); (case rbs6 => k_is); (case rcs6 => exact (.cons ⟨_, rfl⟩ .nil)); (case rds6 => show 1 ≤ sizeLine; decide)
      refine' K25.TabE.cons ?ras7 ?rbs7 ?rcs7 ?rds7 ?res7
      (case ras7 => decide +kernel); (case rbs7 => k_is); (case rcs7 => exact (.cons ⟨_, rfl⟩ (.cons ⟨_, rfl⟩ .nil))); (case rds7 => show 2 ≤ sizeLine; decide)
      refine' K25.TabE.cons ?ras8 ?rbs8 ?rcs8 ?rds8 ?res8
      (case ras8 => decide +kernel); (case rbs8 => k_is); (case rcs8 => exact (.cons ⟨_, rfl⟩ (.cons ⟨_, rfl⟩ (.cons ⟨_, rfl⟩ .nil)))); (case rds8 => show 3 ≤ sizeLine; decide)
      refine' K25.TabE.cons ?ras9 ?rbs9 ?rcs9 ?rds9 ?res9
      (case ras9 => decide +kernel); (case rbs9 => k_is); (case rcs9 => exact (.cons ⟨_, rfl⟩ (.cons ⟨_, rfl⟩ .nil))); (case rds9 => show 2 ≤ sizeLine; decide)
      refine' K25.TabE.cons ?ras10 ?rbs10 ?rcs10 ?rds10 ?res10
      (case ras10 => decide +kernel); (case rbs10 => k_is); (case rcs10 => exact (.cons ⟨_, rfl⟩ (.cons ⟨_, rfl⟩ .nil))); (case rds10 => show 2 ≤ sizeLine; decide)
      refine' K25.TabE.cons ?ras11 ?rbs11 ?rcs11 ?rds11 ?res11
      (case ras11 => decide +kernel); (case rbs11 => k_is); (case rcs11 => exact (.cons ⟨_, rfl⟩ (.cons ⟨_, rfl⟩ (.cons ⟨_, rfl⟩ .nil)))); (case rds11 => show 3 ≤ sizeLine; decide)
      refine' K25.TabE.cons ?ras12 ?rbs12 ?rcs12 ?rds12 ?res12
      (case ras12 => decide +kernel); (case rbs12 => k_is); (case rcs12 => exact (.cons ⟨_, rfl⟩ (.cons ⟨_, rfl⟩ (.cons ⟨_, rfl⟩ (.cons ⟨_, rfl⟩ .nil))))); (case rds12 => show 4 ≤ sizeLine; decide)
      refine' K25.TabE.cons ?ras13 ?rbs13 ?rcs13 ?rds13 ?res13
      (case ras13 => decide +kernel); (case rbs13 => k_is); (case rcs13 => exact (.cons ⟨_, rfl⟩ (.cons ⟨_, rfl⟩ .nil))); (case rds13 => show 2 ≤ sizeLine; decide)
      refine' K25.TabE.cons ?ras14 ?rbs14 ?rcs14 ?rds14 ?res14
      (case ras14 => decide +kernel); (case rbs14 => k_is); (case rcs14 => exact (.cons ⟨_, rfl⟩ (.cons ⟨_, rfl⟩ .nil))); (case rds14 => show 2 ≤ sizeLine; decide)
      exact .nil
    (case yJOINTS => k_is); (case mJOINTS => rfl); (case luJOINTS => k_is)
    case teJOINTS =>
      refine' K25.TabE.cons ?raj0 ?rbj0 ?rcj0 ?rdj0 ?rej0
      (case raj0 => decide +kernel); (case rbj0 => k_is); (case rcj0 => exact (.cons ⟨_, rfl⟩ (.cons ⟨_, rfl⟩ .nil))); (case rdj0 => show 2 ≤ sizeLine; decide)
      refine' K25.TabE.cons ?raj1 ?rbj1 ?rcj1 ?rdj1 ?rej1
      (case raj1 => decide +kernel); (case rbj1 => k_is); (case rcj1 => exact (.cons ⟨_, rfl⟩ .nil)); (case rdj1 => show 1 ≤ sizeLine; decide)
      refine' K25.TabE.cons ?raj2 ?rbj2 ?rcj2 ?rdj2 ?rej2
      (case raj2 => decide +kernel); (case rbj2 => k_is); (case rcj2 => exact (.cons ⟨_, rfl⟩ .nil)); (case rdj2 => show 1 ≤ sizeLine; decide)
      refine' K25.TabE.cons ?raj3 ?rbj3 ?rcj3 ?rdj3 ?rej3
      (case raj3 => decide +kernel); (case rbj3 => k_is); (case rcj3 => exact (.cons ⟨_, rfl⟩ (.cons ⟨_, rfl⟩ .nil))); (case rdj3 => show 2 ≤ sizeLine; decide)
      exact .nil
end
