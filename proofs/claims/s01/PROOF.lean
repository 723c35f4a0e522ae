import PyProof.Rows.All
import Wide.All
import OpenK.AllK
import Wide.FinOn
import PyProof.EqAt
import PyProof.EqKinds
import PyProof.TupleCall
import KE.BitLaws
import Open.SpecLaws
import KE.OsHead
import KE.OsGo
import PyProof.CollectIter
import PyProof.DictWalks
import PyProof.Rows.SortShellAny
import KE.KSortTupG
import PyProof.EnumMake
import PyProof.TupleIter
import PyProof.Draws
import KE.KSortTupUse
import PySem.Challenge.RW_supplierdays_s01_answers
set_option Elab.async false
set_option linter.all false
set_option maxRecDepth 100000
set_option maxHeartbeats 2000000
noncomputable section
namespace L2
open PySem PySem.Spec PyProof.Rows
abbrev Key := Sum Int Str
def keyIs : Key → Value → Bool
  | .inl k, v => Value.isInt k v
  | .inr x, v => Value.isStrOf x v
def keyH (w : World) : Key → Int
  | .inl k => hashInt k
  | .inr x => hashStr w x
theorem keyIs_shape : ∀ {k : Key} {v : Value}, keyIs k v = true → (∃ i t, k = Sum.inl i ∧ v = Value.int i t) ∨ (∃ x t, k = Sum.inr x ∧ v = Value.str x t)
  | .inl i, v, h => by
    obtain ⟨t, e⟩ := Value.isInt_shape (k := i) (v := v) h
    exact .inl ⟨i, t, rfl, e⟩
  | .inr x, v, h => by
    obtain ⟨t, e⟩ := Value.isStrOf_shape (x := x) (v := v) h
    exact .inr ⟨x, t, rfl, e⟩
theorem keyIs_int (i : Int) (t : Tok) : keyIs (.inl i) (.int i t) = true := by simp [keyIs, Value.isInt]
theorem keyIs_str (x : Str) (t : Tok) : keyIs (.inr x) (.str x t) = true := by simp [keyIs, Value.isStrOf]
theorem key_ll (a b : Int) : decide ((Sum.inl a : Key) = Sum.inl b) = (a == b) := by
  by_cases e : a = b
  · subst e; simp
  · have h : ¬ (Sum.inl a : Key) = Sum.inl b := fun q => e (Sum.inl.inj q)
    rw [decide_eq_false h]
    exact (beq_eq_false_iff_ne.mpr e).symm
theorem key_rr (a b : Str) : decide ((Sum.inr a : Key) = Sum.inr b) = decide (a = b) := by
  by_cases e : a = b
  · subst e; simp
  · have h : ¬ (Sum.inr a : Key) = Sum.inr b := fun q => e (Sum.inr.inj q)
    rw [decide_eq_false h, decide_eq_false e]
theorem key_lr (a : Int) (b : Str) : decide ((Sum.inl a : Key) = Sum.inr b) = false := decide_eq_false (fun q => nomatch q)
theorem key_rl (a : Str) (b : Int) : decide ((Sum.inr a : Key) = Sum.inl b) = false := decide_eq_false (fun q => nomatch q)
def mixKind (prog : Program) (w : World) : PySem.KeyKind prog w Key where
  is := keyIs
  hash := keyH w
  inj := fun v a b ha hb => by
    rcases keyIs_shape ha with ⟨i, t, rfl, rfl⟩ | ⟨x, t, rfl, rfl⟩
    · rcases keyIs_shape hb with ⟨j, u, rfl, e⟩ | ⟨y, u, rfl, e⟩
      · injection e with e1 _; rw [e1]
      · exact nomatch e
    · rcases keyIs_shape hb with ⟨j, u, rfl, e⟩ | ⟨y, u, rfl, e⟩
      · exact nomatch e
      · injection e with e1 _; rw [e1]
  byValue := fun k v h => by
    rcases keyIs_shape h with ⟨i, t, rfl, rfl⟩ | ⟨x, t, rfl, rfl⟩ <;> rfl
  pyHash := fun hv h => by
    rcases keyIs_shape hv with ⟨i, t, rfl, rfl⟩ | ⟨x, t, rfl, rfl⟩
    · exact wpAny_pyHash_int h
    · exact wpAny_pyHash_str h
  eqBool := fun hu hv h => by
    rcases keyIs_shape hu with ⟨i, t, rfl, rfl⟩ | ⟨x, t, rfl, rfl⟩
    · rcases keyIs_shape hv with ⟨j, u, rfl, rfl⟩ | ⟨y, u, rfl, rfl⟩
      · rw [key_ll] at h; exact wpAny_eqBool_int h
      · rw [key_lr] at h; exact SeqAt.EqAt.int_str i t y u _ _ _ _ h
    · rcases keyIs_shape hv with ⟨j, u, rfl, rfl⟩ | ⟨y, u, rfl, rfl⟩
      · rw [key_rl] at h; exact SeqAt.EqAt.str_int x t j u _ _ _ _ h
      · rw [key_rr] at h; exact wpAny_eqBool_str h
  «strs» := fun k x t v h => by
    rcases keyIs_shape h with ⟨i, u, rfl, e⟩ | ⟨y, u, rfl, e⟩
    · exact nomatch e
    · injection e with e1 _
      subst e1
      cases v <;> rfl
theorem mixKind_int (prog : Program) (w : World) (i : Int) (t : Tok) : (mixKind prog w).is (.inl i) (.int i t) = true := keyIs_int i t
theorem mixKind_str (prog : Program) (w : World) (x : Str) (t : Tok) : (mixKind prog w).is (.inr x) (.str x t) = true := keyIs_str x t
inductive V where
  | non | bl (b : Bool) | int (i : Int) | str (x : Str) | byt (b : Array UInt8) | flt (b : UInt64) | ref (a : Addr) | ty (n : String)
  deriving DecidableEq
def RelV : V → Value → Prop
  | .non, u => u = Value.none
  | .bl b, u => u = Value.bool b
  | .int i, u => ∃ t, u = Value.int i t
  | .str x, u => ∃ t, u = Value.str x t
  | .byt b, u => ∃ t, u = Value.bytes b t
  | .flt b, u => ∃ t, u = Value.float b t
  | .ref a, u => u = Value.ref a
  | .ty n, u => u = Value.type n
abbrev Vals : List V → List Value → Prop := Paired RelV
theorem Vals.length {xs : List V} {us : List Value} (r : Vals xs us) : xs.length = us.length := Paired.length r
theorem Vals.get : ∀ {xs : List V} {us : List Value} {i : Nat} {x : V}, Vals xs us → xs[i]? = some x → ∃ u, us[i]? = some u ∧ RelV x u
  | _, _, _, _, .nil, e => by simp at e
  | _, _, 0, _, .cons r _, e => by simp at e; subst e; exact ⟨_, rfl, r⟩
  | _, _, i + 1, x, .cons _ t, e => by
    obtain ⟨u, h1, h2⟩ := Vals.get (i := i) (x := x) t (by simpa using e)
    exact ⟨u, by simpa using h1, h2⟩
theorem Vals.set {x : V} {u : Value} (r : RelV x u) : ∀ {xs : List V} {us : List Value} (i : Nat), Vals xs us → Vals (xs.set i x) (us.set i u)
  | _, _, _, .nil => .nil
  | _, _, 0, .cons _ t => .cons r t
  | _, _, i + 1, .cons q t => .cons q (Vals.set r i t)
theorem Vals.append : ∀ {xs ys : List V} {us ws : List Value}, Vals xs us → Vals ys ws → Vals (xs ++ ys) (us ++ ws)
  | _, _, _, _, .nil, s => s
  | _, _, _, _, .cons r t, s => .cons r (Vals.append t s)
theorem Vals.take : ∀ {xs : List V} {us : List Value} (n : Nat), Vals xs us → Vals (xs.take n) (us.take n)
  | _, _, 0, _ => .nil
  | _, _, _ + 1, .nil => .nil
  | _, _, n + 1, .cons r t => .cons r (Vals.take n t)
theorem Vals.drop : ∀ {xs : List V} {us : List Value} (n : Nat), Vals xs us → Vals (xs.drop n) (us.drop n)
  | _, _, 0, r => r
  | _, _, _ + 1, .nil => .nil
  | _, _, n + 1, .cons _ t => Vals.drop n t
def RelO : Option V → Option Value → Prop
  | some v, some u => RelV v u
  | none, none => True
  | _, _ => False
def KV {κ : Type} : List (κ × V) → List (κ × Value) → Prop := Paired fun (p : κ × V) (q : κ × Value) => p.1 = q.1 ∧ RelV p.2 q.2
def kV : Key → V
  | .inl i => .int i
  | .inr x => .str x
inductive HO where
  | lst (xs : List V)
  | tup (xs : List V)
  | dK (kvs : List (Key × V)) | dT (kvs : List (List Key × V))
  | set (S : Int → Bool) (n : Nat)
  | ins (C dx : Addr) (fs : List (Str × V))
  | own (x : Addr)
  | xd (fs : List (Str × V))
  | met (f x : Addr)
  | rng (lo hi : Int)
  | frz (o : Obj) (u : HO)
  | tbl (ps : Array Value)
  | ext (φ : Heap → Prop)
abbrev Hp := Addr → Option HO
def upd (H : Hp) (a : Addr) (o : HO) : Hp := fun b => if b = a then some o else H b
theorem upd_same {H : Hp} {a : Addr} {o : HO} : upd H a o a = some o := by unfold upd; rw [if_pos rfl]
theorem upd_ne {H : Hp} {a b : Addr} {o : HO} (h : b ≠ a) : upd H a o b = H b := by unfold upd; rw [if_neg h]
theorem ne_of {H : Hp} {a b : Addr} {o u : HO} (h : H a = some o) (h' : H b = some u) (d : o ≠ u) : a ≠ b := by
  intro e; subst e; rw [h] at h'; exact d (Option.some.inj h')
theorem ne_of_none {H : Hp} {a b : Addr} {o : HO} (h : H a = some o) (h' : H b = none) : a ≠ b := by
  intro e; subst e; rw [h] at h'; cases h'
section
variable (P : Program) (w : World)
def ObjOk (H : Hp) (h : Heap) (a : Addr) : HO → Prop
  | .lst xs => xs.length ≤ sizeLine ∧ ∃ (its : List Value) (n : Nat), Vals xs its ∧ h.get? a = some { cls := .type "list", data := .seq its.toArray n }
  | .tup xs => xs.length ≤ sizeLine ∧ ∃ its : List Value, Vals xs its ∧ IsTup h a its.toArray
  | .dK kvs => kvs.length ≤ sizeLine ∧ (a == sysModules) = false ∧ ∃ vs, KV kvs vs ∧ h.DictOf (mixKind P w) a vs
  | .dT kvs => kvs.length ≤ sizeLine ∧ (a == sysModules) = false ∧ ∃ xs : List (List Key × Addr × Value),
      Paired (fun (p : List Key × V) (q : List Key × Addr × Value) => p.1 = q.1 ∧ H q.2.1 = some (.tup (p.1.map kV)) ∧ RelV p.2 q.2.2) kvs xs ∧
      ∃ o es ep, h.get? a = some o ∧ o.ExactDict ∧ o.data = .dict es ep ∧ es.toList = xs.map (entryOfKey (tupleKind (mixKind P w))) ∧ (xs.map (·.1)).Nodup
  | .set S n => h.SetOf (intKind P w) a S n
  | .ins C dx fs => H dx = some (.own a) ∧ fs.length ≤ 1000 ∧ dx ≠ a ∧ h.get? a = some (PySem.W.instObj C dx) ∧
      ∃ mA, h.Ns1 dx mA ∧ (∀ f, RelO (fs.lookup f) (mA f)) ∧ PySem.Within mA (fs.map (·.1))
  | .own _ => ∃ o, h.get? a = some o
  | .xd fs => ∃ mA, h.Ns1 a mA ∧ ∀ f, RelO (fs.lookup f) (mA f)
  | .rng lo hi => ∃ t u v, h.get? a = some { cls := .type "range", data := .fields #[.int lo t, .int hi u, .int 1 v] }
  | .frz o u => h.get? a = some o ∧ ObjOk H h a u
  | .tbl ps => h.get? a = some { cls := .none, data := .fields ps }
  | .met f x => h.get? a = some (PySem.W.methodObj (.ref f) (.ref x))
  | .ext φ => φ h ∧ (∃ o, h.get? a = some o) ∧ ∀ h1 h2 : Heap, φ h1 → (∀ o, h1.get? a = some o → h2.get? a = some o) → φ h2
def HOk (H : Hp) (h : Heap) : Prop := ∀ a o, H a = some o → ObjOk P w H h a o
end
section
variable {P : Program} {w : World} {H H' : Hp} {h h' : Heap} {a : Addr} {o : HO}
theorem ObjOk.lt (x : ObjOk P w H h a o) : a < h.objs.size := by
  cases o with
  | lst xs => obtain ⟨_, _, _, _, e⟩ := x; exact Heap.lt_size e
  | tup xs => obtain ⟨_, _, _, p⟩ := x; exact p.lt
  | dK kvs => obtain ⟨_, _, _, _, o, _, _, e, _⟩ := x; exact Heap.lt_size e
  | dT kvs => obtain ⟨_, _, _, _, o, _, _, e, _⟩ := x; exact Heap.lt_size e
  | set S n => obtain ⟨o, _, _, _, e, _⟩ := x; exact Heap.lt_size e
  | ins C dx fs => obtain ⟨_, _, _, e, _⟩ := x; exact Heap.lt_size e
  | own y => obtain ⟨_, e⟩ := x; exact Heap.lt_size e
  | xd fs => obtain ⟨_, ⟨_, _, _, e, _⟩, _⟩ := x; exact Heap.lt_size e
  | rng lo hi => obtain ⟨_, _, _, e⟩ := x; exact Heap.lt_size e
  | frz ob u => obtain ⟨e, _⟩ := x; exact Heap.lt_size e
  | tbl ps => exact Heap.lt_size (show h.get? a = some _ from x)
  | met f y => exact Heap.lt_size (show h.get? a = some _ from x)
  | ext φ => obtain ⟨_, ⟨_, e⟩, _⟩ := x; exact Heap.lt_size e
theorem Paired.mapP {α β : Type} {F G : α → β → Prop} : ∀ {l₁ : List α} {l₂ : List β}, Paired F l₁ l₂ → (∀ a b, F a b → G a b) → Paired G l₁ l₂
  | _, _, .nil, _ => .nil
  | _, _, .cons r t, f => .cons (f _ _ r) (Paired.mapP t f)
theorem ObjOk.stay (x : ObjOk P w H h a o) (k : ∀ b u, (b = a ∨ H b = some (.own a)) → h.get? b = some u → h'.get? b = some u)
    (ho : ∀ b, H b = some (.own a) → H' b = some (.own a)) (ht : ∀ b xs, H b = some (.tup xs) → H' b = some (.tup xs)) : ObjOk P w H' h' a o := by
  induction o with
  | lst xs => obtain ⟨z, its, n, r, e⟩ := x; exact ⟨z, its, n, r, k _ _ (.inl rfl) e⟩
  | tup xs => obtain ⟨z, its, r, ob, e, c⟩ := x; exact ⟨z, its, r, ob, k _ _ (.inl rfl) e, c⟩
  | dK kvs => obtain ⟨z, y, vs, r, ob, es, ep, e, c⟩ := x; exact ⟨z, y, vs, r, ob, es, ep, k _ _ (.inl rfl) e, c⟩
  | dT kvs =>
    obtain ⟨z, y, xs, r, ob, es, ep, e, c⟩ := x
    exact ⟨z, y, xs, Paired.mapP r fun p q z => ⟨z.1, ht _ _ z.2.1, z.2.2⟩, ob, es, ep, k _ _ (.inl rfl) e, c⟩
  | set S n => obtain ⟨ob, es, ep, t, e, c⟩ := x; exact ⟨ob, es, ep, t, k _ _ (.inl rfl) e, c⟩
  | ins C dx fs =>
    obtain ⟨d, z, ne, e, mA, ⟨od, es, ep, e2, c⟩, r⟩ := x
    exact ⟨ho _ d, z, ne, k _ _ (.inl rfl) e, mA, ⟨od, es, ep, k _ _ (.inr d) e2, c⟩, r⟩
  | own y => obtain ⟨ob, e⟩ := x; exact ⟨ob, k _ _ (.inl rfl) e⟩
  | xd fs => obtain ⟨mA, ⟨od, es, ep, e, c⟩, r⟩ := x; exact ⟨mA, ⟨od, es, ep, k _ _ (.inl rfl) e, c⟩, r⟩
  | rng lo hi => obtain ⟨t, u, v, e⟩ := x; exact ⟨t, u, v, k _ _ (.inl rfl) e⟩
  | frz ob u ih => obtain ⟨e, q⟩ := x; exact ⟨k _ _ (.inl rfl) e, ih q⟩
  | tbl ps =>
    have e : h.get? a = some { cls := .none, data := .fields ps } := x
    show h'.get? a = some { cls := .none, data := .fields ps }
    exact k a _ (.inl rfl) e
  | met f y =>
    have e : h.get? a = some (PySem.W.methodObj (.ref f) (.ref y)) := x
    show h'.get? a = some (PySem.W.methodObj (.ref f) (.ref y))
    exact k a _ (.inl rfl) e
  | ext φ => obtain ⟨p, ⟨o, e⟩, st⟩ := x; exact ⟨st _ _ p fun o q => k _ _ (.inl rfl) q, ⟨o, k _ _ (.inl rfl) e⟩, st⟩
theorem HOk.lt (x : HOk P w H h) (e : H a = some o) : a < h.objs.size := (x a o e).lt
theorem HOk.fresh (x : HOk P w H h) (e : h.objs.size ≤ a) : H a = none := by
  cases q : H a with
  | none => rfl
  | some u => exact absurd (Nat.lt_of_lt_of_le (x.lt q) e) (Nat.lt_irrefl _)
theorem HOk.kept (x : HOk P w H h) (k : ∀ b u, h.get? b = some u → h'.get? b = some u) : HOk P w H h' := fun a o e =>
  (x a o e).stay (fun b u _ q => k b u q) (fun _ q => q) fun _ _ q => q
theorem HOk.laid (x : HOk P w H h) (k : ∀ b u, h.get? b = some u → h'.get? b = some u) (hp : h.objs.size ≤ a) (new : ObjOk P w (upd H a o) h' a o) : HOk P w (upd H a o) h' := fun b u e => by
  have hn := x.fresh hp
  by_cases hb : b = a
  · subst hb; rw [upd_same] at e; cases e; exact new
  · rw [upd_ne hb] at e
    exact (x b u e).stay (fun c v _ q => k c v q) (fun c q => by rw [upd_ne (ne_of_none q hn)]; exact q) fun c xs q => by rw [upd_ne (ne_of_none q hn)]; exact q
end
def Rd (H : Hp) (a : Addr) (u : HO) : Prop := H a = some u ∨ ∃ o, H a = some (.frz o u)
theorem Rd.ok {P : Program} {w : World} {H : Hp} {h : Heap} {a : Addr} {u : HO} (r : Rd H a u) (x : HOk P w H h) : ObjOk P w H h a u := by
  rcases r with r | ⟨o, r⟩
  · exact x a u r
  · obtain ⟨_, q⟩ := x a _ r
    exact q
def Mut : Option HO → Prop
  | some (.lst _) => True
  | some (.dK _) => True
  | some (.dT _) => True
  | some (.set _ _) => True
  | some (.ins _ _ _) => True
  | some (.ext _) => True
  | _ => False
section
variable {P : Program} {w : World} {H : Hp} {h h' : Heap} {x e : Addr} {o' : HO}
theorem HOk.write (ok : HOk P w H h) (mu : Mut (H x)) (he : e = x ∨ H e = some (.own x)) (k : ∀ b u, b ≠ e → h.get? b = some u → h'.get? b = some u) (heo : ∃ u, h'.get? e = some u)
    (new : ObjOk P w (upd H x o') h' x o') : HOk P w (upd H x o') h' := fun b u q => by
  have nown : ∀ c y, H c = some (.own y) → c ≠ x := fun c y r z => by subst z; rw [r] at mu; exact mu
  have ntup : ∀ c xs, H c = some (.tup xs) → c ≠ x := fun c xs r z => by subst z; rw [r] at mu; exact mu
  by_cases hb : b = x
  · subst hb; rw [upd_same] at q; cases q; exact new
  · rw [upd_ne hb] at q
    by_cases hbe : b = e
    · have q' : H b = some (.own x) := by
        rcases he with z | z
        · exact absurd (hbe.trans z) hb
        · rw [hbe]; exact z
      rw [q] at q'; cases q'
      obtain ⟨v, hv⟩ := heo
      exact ⟨v, by rw [hbe]; exact hv⟩
    · refine (ok b u q).stay (fun c v hc r => k c v ?_ r) (fun c r => by rw [upd_ne (nown c b r)]; exact r) fun c xs r => by rw [upd_ne (ntup c xs r)]; exact r
      rcases hc with rfl | hc
      · exact hbe
      · rintro rfl
        rcases he with z | z
        · exact nown c b hc z
        · rw [hc] at z; cases z; exact hb rfl
end
structure Un (fs ex : List Addr) (H H' : Hp) (h h' : Heap) : Prop where
  keep : ∀ b o, h.get? b = some o → H b = none → b ∉ fs → b ∉ ex → h'.get? b = some o
  slot : ∀ b o, h.get? b = some o → H b = none → b ∈ fs → b ∉ ex → ∃ sl, h'.get? b = some { o with slots := sl }
  free : ∀ b o, h.get? b = some o → H b = none → b ∉ ex → H' b = none
  there : ∀ b o, h.get? b = some o → b ∉ ex → ∃ o', h'.get? b = some o'
  tups : ∀ b xs, H b = some (.tup xs) → H' b = some (.tup xs)
  frzs : ∀ b o u, H b = some (.frz o u) → H' b = some (.frz o u)
  tbls : ∀ b ps, H b = some (.tbl ps) → ∃ more, H' b = some (.tbl (ps ++ more))
section
variable {fs fs' ex ex' : List Addr} {H H1 H2 : Hp} {h h1 h2 h' : Heap} {a x e : Addr} {o : HO}
theorem Un.any (u : Un fs ex H H1 h h1) {b : Addr} {ob : Obj} (q : h.get? b = some ob) (n : H b = none) (hx : b ∉ ex) : ∃ sl, h1.get? b = some { ob with slots := sl } := by
  by_cases hb : b ∈ fs
  · exact u.slot b ob q n hb hx
  · exact ⟨ob.slots, u.keep b ob q n hb hx⟩
theorem Un.kept (k : ∀ b u, h.get? b = some u → h'.get? b = some u) : Un fs ex H H h h' :=
  ⟨fun b ob q _ _ _ => k b ob q, fun b ob q _ _ _ => ⟨ob.slots, k b ob q⟩, fun _ _ _ n _ => n, fun b ob q _ => ⟨ob, k b ob q⟩, fun _ _ q => q, fun _ _ _ q => q, fun _ ps q => ⟨#[], by rw [q]; simp⟩⟩
theorem Un.refl : Un fs ex H H h h := Un.kept fun _ _ q => q
theorem Un.laid (k : ∀ b u, h.get? b = some u → h'.get? b = some u) (hp : h.objs.size ≤ a) (hn : H a = none) : Un fs ex H (upd H a o) h h' where
  keep := fun b u q _ _ _ => k b u q
  slot := fun b u q _ _ _ => ⟨u.slots, k b u q⟩
  free := fun b u q n _ => by rw [upd_ne (Nat.ne_of_lt (Nat.lt_of_lt_of_le (Heap.lt_size q) hp))]; exact n
  there := fun b u q _ => ⟨u, k b u q⟩
  tups := fun b xs q => by rw [upd_ne (ne_of_none q hn)]; exact q
  frzs := fun b u xs q => by rw [upd_ne (ne_of_none q hn)]; exact q
  tbls := fun b ps q => ⟨#[], by rw [upd_ne (ne_of_none q hn), q]; simp⟩
theorem Un.write (mu : Mut (H x)) (he : e = x ∨ H e = some (.own x)) (k : ∀ b u, b ≠ e → h.get? b = some u → h'.get? b = some u) (heo : ∃ u, h'.get? e = some u) : Un fs ex H (upd H x o) h h' := by
  have hx : ∀ b, H b = none → b ≠ x := fun b n z => by subst z; rw [n] at mu; exact mu
  have hb : ∀ b, H b = none → b ≠ e := fun b n z => by
    subst z
    rcases he with r | r
    · exact hx b n r
    · rw [n] at r; cases r
  have hm : ∀ b u, H b = some u → ¬ Mut (some u) → b ≠ x := fun b u q nm z => by subst z; rw [q] at mu; exact nm mu
  refine ⟨fun b u q n _ _ => k b u (hb b n) q, fun b u q n _ _ => ⟨u.slots, k b u (hb b n) q⟩, fun b u q n _ => by rw [upd_ne (hx b n)]; exact n, fun b u q _ => ?_,
    fun b xs q => by rw [upd_ne (hm b _ q fun z => z)]; exact q, fun b u xs q => by rw [upd_ne (hm b _ q fun z => z)]; exact q, fun b ps q => ⟨#[], by rw [upd_ne (hm b _ q fun z => z), q]; simp⟩⟩
  by_cases hbe : b = e
  · subst hbe; exact heo
  · exact ⟨u, k b u hbe q⟩
end
def trk (h : Heap) (H : Hp) : List Addr := (List.range h.objs.size).filter fun a => (H a).isSome
def hidT (h : Heap) (H : Hp) : Heap := PySem.W.hideAll h (trk h H)
theorem hidT_size (h : Heap) (H : Hp) : (hidT h H).objs.size = h.objs.size := PySem.W.hideAll_size _ _
theorem hidT_get {h : Heap} {H : Hp} {b : Addr} {o : Obj} (e : h.get? b = some o) (n : H b = none) : (hidT h H).get? b = some o :=
  PySem.W.hideAll_get _ e fun hm => by
    have q : (H b).isSome = true := (List.mem_filter.mp hm).2
    rw [n] at q; simp at q
theorem of_hidT {h : Heap} {H : Hp} {b : Addr} {o : Obj} (e : (hidT h H).get? b = some o) : h.get? b = some o ∧ H b = none := by
  have e' : h.get? b = some o := PySem.W.of_hideAll (trk h H) e
  refine ⟨e', ?_⟩
  cases q : H b with
  | none => rfl
  | some x =>
    have hm : b ∈ trk h H := List.mem_filter.mpr ⟨List.mem_range.mpr (Heap.lt_size e'), by simp [q]⟩
    have z : (hidT h H).get? b = none := PySem.W.hideAll_none (trk h H) hm
    rw [z] at e; cases e
structure Mod (K : PySem.W.Frag) (mg : Str → Option Value) (base : Heap) : Prop where
  kin : K.In base
  glob : base.Ns mainGlobals mg
  blt : ∃ mb, base.Ns builtinsNs mb ∧ ∀ x : Str, x ≠ "__name__" → mb x = bootBuiltins x
  nolimit : base.NoLimit
structure Cx where
  prog : Program
  w : World
  K : PySem.W.Frag
  mg : Str → Option Value
  base : Heap
  A : Around
  N : List Str
  s_0 : Shared
  H_0 : Hp
  env : Env
  outer : List Env
  stack : List Env
  ex : List Addr
  fn : Str → Bool
  calm : Bool
  pn : List (Addr × Obj)
  xe : Value → Shared → Prop
def frs (l : List Env) : List Addr := l.filterMap (·.frame)
abbrev Cx.fs (X : Cx) : List Addr := frs X.outer
def Vis (sc : Scope) (x : Str) : Prop := sc.names.lookup x = some .local ∨ sc.names.lookup x = some .cell ∨ sc.names.lookup x = some .free
def Loc (sc : Scope) (x : Str) : Prop := sc.names.lookup x = some .local ∨ sc.names.lookup x = some .cell
def Look (env : Env) (h : Heap) (m : Str → Option Value) (x : Str) (u : Value) : Prop :=
  (env.kindOf x = some .local ∧ m x = some u) ∨ ((env.kindOf x = some .cell ∨ env.kindOf x = some .free) ∧ ∃ c, env.cells.lookup x = some c ∧ h.IsCell c (some u))
structure Cx.Ok (X : Cx) : Prop where
  mod : Mod X.K X.mg X.base
  kind : X.env.scope.kind = .function
  glob : X.env.globals = mainGlobals
  blt : X.env.builtins = builtinsNs
  above : X.s_0.heap.objs.size ≤ X.env.locals
  inj : ∀ x y c, X.env.cells.lookup x = some c → X.env.cells.lookup y = some c → x = y
  has : ∀ x, (X.env.kindOf x = some .cell ∨ X.env.kindOf x = some .free) → ∃ c, X.env.cells.lookup x = some c
  cab : ∀ x c, X.fn x = true → X.env.cells.lookup x = some c → X.s_0.heap.objs.size ≤ c
  hd : X.calm = true → X.A.handled = none
  frames : X.A.frames = some X.stack
  stk : X.stack = X.outer ∨ (X.stack = X.env :: X.outer ∧ X.env.frame = some X.env.locals)
  exf : ∀ b ∈ X.ex, b ≠ X.env.locals ∧ ∀ x c, X.env.cells.lookup x = some c → c ≠ b
  bs : ∀ b o, X.base.get? b = some o → X.s_0.heap.get? b = some o ∧ X.H_0 b = none
  bsz : X.base.objs.size ≤ X.s_0.heap.objs.size
  noex : ∀ b o, X.base.get? b = some o → b ∉ X.ex
  exfs : ∀ b ∈ X.ex, b ∉ X.fs
  funs : X.s_0.heap.FunFrames X.base X.outer
  frf : ∀ b ∈ X.fs, X.H_0 b = none
structure Inv (X : Cx) (pins : List (Addr × Obj)) (σ : List (Option V)) (H : Hp) (s : Shared) : Prop where
  ok : X.Ok
  os : s.os = X.s_0.os
  bare : AllBare s.gens
  base : Un X.fs X.ex X.H_0 H X.s_0.heap s.heap
  loc : ∃ m, s.heap.Ns X.env.locals m ∧ ∀ (i : Nat) (x : Str) (v : V), X.N[i]? = some x → σ[i]? = some (some v) → Vis X.env.scope x → ∃ u, RelV v u ∧ Look X.env s.heap m x u
  cell : ∀ x c, X.env.cells.lookup x = some c → ∃ v, s.heap.IsCell c v
  free : H X.env.locals = none
  freeC : ∀ x c, X.env.cells.lookup x = some c → H c = none
  pin : ∀ p ∈ X.pn ++ pins, s.heap.get? p.1 = some p.2 ∧ H p.1 = none ∧ p.1 ≠ X.env.locals ∧ p.1 ∉ X.fs ∧ ∀ v, p.2.data ≠ .cell v
  hok : HOk X.prog X.w H s.heap
  len : σ.length = X.N.length
section
variable {X : Cx} {pins : List (Addr × Obj)} {σ : List (Option V)} {H H' : Hp} {s : Shared} {h' : Heap}
theorem Cx.Ok.nofr (ok : X.Ok) {b : Addr} {o : Obj} (e : X.base.get? b = some o) : b ∉ X.fs := fun hb => by
  have := (ok.funs.mem hb).1
  rw [e] at this; cases this
theorem Inv.bs (I : Inv X pins σ H s) : ∀ b o, X.base.get? b = some o → s.heap.get? b = some o ∧ H b = none := fun b o e =>
  ⟨I.base.keep b o (I.ok.bs b o e).1 (I.ok.bs b o e).2 (I.ok.nofr e) (I.ok.noex b o e), I.base.free b o (I.ok.bs b o e).1 (I.ok.bs b o e).2 (I.ok.noex b o e)⟩
theorem Inv.bk (I : Inv X pins σ H s) : ∀ b o, X.base.get? b = some o → s.heap.get? b = some o := fun b o e => (I.bs b o e).1
theorem Inv.mod (I : Inv X pins σ H s) : Mod X.K X.mg X.base := I.ok.mod
theorem Inv.kIn (I : Inv X pins σ H s) : X.K.In s.heap := I.ok.mod.kin.keeps I.bk
theorem Inv.lt (I : Inv X pins σ H s) : X.env.locals < s.heap.objs.size := let ⟨_, hn, _⟩ := I.loc; hn.lt
theorem Inv.sz (I : Inv X pins σ H s) : X.s_0.heap.objs.size ≤ s.heap.objs.size := Nat.le_trans I.ok.above (Nat.le_of_lt I.lt)
theorem Inv.nofs (I : Inv X pins σ H s) {a : Addr} (h : s.heap.objs.size ≤ a) : a ∉ X.fs := fun hb => by
  obtain ⟨_, o, ho, _⟩ := I.ok.funs.mem hb
  exact absurd (Nat.lt_of_lt_of_le (Heap.lt_size ho) (Nat.le_trans I.sz h)) (Nat.lt_irrefl _)
theorem Inv.cne (I : Inv X pins σ H s) : ∀ x c, X.env.cells.lookup x = some c → c ≠ X.env.locals := fun x c e z => by
  obtain ⟨v, o, ho, hd⟩ := I.cell x c e
  obtain ⟨m, ⟨o', es, ep, ho', hd', _⟩, _⟩ := I.loc
  rw [z, ho'] at ho; cases ho; rw [hd'] at hd; cases hd
theorem Inv.funs (I : Inv X pins σ H s) : s.heap.FunFrames X.base X.outer := by
  have all : ∀ (l : List Env), (∀ b ∈ frs l, b ∈ X.fs) → X.s_0.heap.FunFrames X.base l → s.heap.FunFrames X.base l := by
    intro l
    induction l with
    | nil => intro _ _; trivial
    | cons env r ih =>
      intro hs hl
      obtain ⟨hk, ⟨L, o, hf, hn, ho, hd⟩, hr⟩ := hl
      have hL : L ∈ X.fs := hs L (by unfold frs; rw [List.filterMap_cons, hf]; exact List.mem_cons_self)
      obtain ⟨sl, e⟩ := I.base.slot L o ho (I.ok.frf L hL) hL fun z => I.ok.exfs L z hL
      exact ⟨hk, ⟨L, _, hf, hn, e, hd⟩, ih (fun b hb => hs b (by unfold frs; rw [List.filterMap_cons, hf]; exact List.mem_cons_of_mem _ hb)) hr⟩
  exact all X.outer (fun _ hb => hb) I.ok.funs
theorem Inv.stack (I : Inv X pins σ H s) : s.heap.FunFrames X.base X.stack := by
  rcases I.ok.stk with e | ⟨e, hf⟩
  · rw [e]; exact I.funs
  · rw [e]
    obtain ⟨m, hn, _⟩ := I.loc
    refine .cons (by rw [I.ok.kind]; decide) hf hn ?_ I.funs
    exact Heap.get?_none_of_le (Nat.le_trans I.ok.bsz I.ok.above)
theorem Inv.stkSub (I : Inv X pins σ H s) : ∀ b ∈ frs X.stack, b ∈ X.env.locals :: X.fs := fun b hb => by
  rcases I.ok.stk with e | ⟨e, hf⟩
  · rw [e] at hb; exact List.mem_cons_of_mem _ hb
  · rw [e] at hb
    unfold frs at hb
    rw [List.filterMap_cons, hf] at hb
    exact hb
theorem Inv.stkFree (I : Inv X pins σ H s) : ∀ b ∈ frs X.stack, H b = none := fun b hb => by
  rcases List.mem_cons.mp (I.stkSub b hb) with e | hb
  · rw [e]; exact I.free
  · obtain ⟨_, o, ho, _⟩ := I.ok.funs.mem hb
    exact I.base.free b o ho (I.ok.frf b hb) fun z => I.ok.exfs b z hb
theorem Inv.step {g' : Array GenState} {t' : Nat} {d' : Drawn} {ch : List Addr} (I : Inv X pins σ H s)
    (hch : ∀ b ∈ ch, (b ∈ X.ex ∨ X.s_0.heap.objs.size ≤ b) ∧ b ≠ X.env.locals ∧ (∀ x c, X.env.cells.lookup x = some c → c ≠ b) ∧ ∀ p ∈ X.pn ++ pins, p.1 ≠ b)
    (keep : ∀ b o, b ≠ X.env.locals → b ∉ X.fs → b ∉ ch → s.heap.get? b = some o → H b = none → h'.get? b = some o)
    (slot : ∀ b o, b ≠ X.env.locals → b ∈ X.fs → b ∉ ch → s.heap.get? b = some o → H b = none → ∃ sl, h'.get? b = some { o with slots := sl }) (free : ∀ b o, b ∉ ch → s.heap.get? b = some o → H b = none → H' b = none)
    (there : ∀ b o, b ∉ ch → s.heap.get? b = some o → ∃ o', h'.get? b = some o')
    (tups : ∀ b xs, H b = some (.tup xs) → H' b = some (.tup xs)) (frzs : ∀ b o u, H b = some (.frz o u) → H' b = some (.frz o u)) (tbls : ∀ b ps, H b = some (.tbl ps) → ∃ more, H' b = some (.tbl (ps ++ more)))
    (ns : ∀ m, s.heap.Ns X.env.locals m → h'.Ns X.env.locals m) (hok : HOk X.prog X.w H' h') (hg : AllBare g') :
    Inv X pins σ H' { s with heap := h', gens := g', drawn := d', toks := t' } := by
  have neL : ∀ b o, X.s_0.heap.get? b = some o → b ≠ X.env.locals := fun b o e => Nat.ne_of_lt (Nat.lt_of_lt_of_le (Heap.lt_size e) I.ok.above)
  have neC : ∀ b o, X.s_0.heap.get? b = some o → b ∉ X.ex → b ∉ ch := fun b o e hx hb => by
    rcases (hch b hb).1 with z | z
    · exact hx z
    · exact absurd (Nat.lt_of_lt_of_le (Heap.lt_size e) z) (Nat.lt_irrefl _)
  have cellK : ∀ x c, X.env.cells.lookup x = some c → ∀ v, s.heap.IsCell c v → h'.IsCell c v := fun x c e v ⟨o, ho, hd⟩ => by
    have nch : c ∉ ch := fun z => (hch c z).2.2.1 x c e rfl
    by_cases hc : c ∈ X.fs
    · obtain ⟨sl, q⟩ := slot c o (I.cne x c e) hc nch ho (I.freeC x c e)
      exact ⟨_, q, hd⟩
    · exact ⟨o, keep c o (I.cne x c e) hc nch ho (I.freeC x c e), hd⟩
  refine ⟨I.ok, I.os, hg, ⟨fun b o e n hb hx => ?_, fun b o e n hb hx => ?_, fun b o e n hx => ?_, fun b o e hx => ?_, fun b xs e => tups b xs (I.base.tups b xs e), fun b o xs e => frzs b o xs (I.base.frzs b o xs e), fun b ps e => ?_⟩, ?_, fun x c e => ?_, ?_, fun x c e => ?_, fun p hp => ?_, hok, I.len⟩
  · exact keep b o (neL b o e) hb (neC b o e hx) (I.base.keep b o e n hb hx) (I.base.free b o e n hx)
  · obtain ⟨sl, e1⟩ := I.base.slot b o e n hb hx
    obtain ⟨sl', e2⟩ := slot b _ (neL b o e) hb (neC b o e hx) e1 (I.base.free b o e n hx)
    exact ⟨sl', e2⟩
  · obtain ⟨o', e1⟩ := I.base.there b o e hx
    exact free b o' (neC b o e hx) e1 (I.base.free b o e n hx)
  · obtain ⟨o', e1⟩ := I.base.there b o e hx
    exact there b o' (neC b o e hx) e1
  · obtain ⟨m1, e1⟩ := I.base.tbls b ps e
    obtain ⟨m2, e2⟩ := tbls b _ e1
    exact ⟨m1 ++ m2, by rw [e2, Array.append_assoc]⟩
  · obtain ⟨m, hn, hl⟩ := I.loc
    refine ⟨m, ns m hn, fun i x v e1 e2 e3 => ?_⟩
    obtain ⟨u, r, l⟩ := hl i x v e1 e2 e3
    refine ⟨u, r, ?_⟩
    rcases l with l | ⟨k, c, e, z⟩
    · exact .inl l
    · exact .inr ⟨k, c, e, cellK x c e _ z⟩
  · obtain ⟨v, z⟩ := I.cell x c e
    exact ⟨v, cellK x c e v z⟩
  · obtain ⟨m, ⟨o, _, _, ho, _⟩, _⟩ := I.loc
    exact free _ o (fun z => (hch _ z).2.1 rfl) ho I.free
  · obtain ⟨v, o, ho, hd⟩ := I.cell x c e
    exact free c o (fun z => (hch c z).2.2.1 x c e rfl) ho (I.freeC x c e)
  · obtain ⟨e, n, ne, nf, d⟩ := I.pin p hp
    have nch : p.1 ∉ ch := fun z => (hch p.1 z).2.2.2 p hp rfl
    exact ⟨keep p.1 p.2 ne nf nch e n, free p.1 p.2 nch e n, ne, nf, d⟩
theorem Inv.un {t' : Nat} (I : Inv X pins σ H s) (u : Un X.fs [] H H' s.heap h') (hok : HOk X.prog X.w H' h') : Inv X pins σ H' { s with heap := h', toks := t' } := by
  obtain ⟨m, ⟨o, es, ep, ho, r⟩, _⟩ := id I.loc
  obtain ⟨sl, hL⟩ := u.any ho I.free (by simp)
  exact I.step (g' := s.gens) (d' := s.drawn) (ch := []) (fun _ z => nomatch z) (fun b o _ hb _ e n => u.keep b o e n hb (by simp)) (fun b o _ hb _ e n => u.slot b o e n hb (by simp)) (fun b o _ e n => u.free b o e n (by simp)) (fun b o _ e => u.there b o e (by simp)) u.tups u.frzs u.tbls (fun m' hm => by
    obtain ⟨o', es', ep', ho', r'⟩ := hm
    rw [ho] at ho'; cases ho'
    exact ⟨_, es', ep', hL, r'⟩) hok I.bare
theorem Inv.call {g' : Array GenState} {t' : Nat} {d' : Drawn} {ch : List Addr} (I : Inv X pins σ H s) (u : Un (frs X.stack) ch H H' s.heap h') (hok : HOk X.prog X.w H' h') (hg : AllBare g')
    (hch : ∀ b ∈ ch, (b ∈ X.ex ∨ X.s_0.heap.objs.size ≤ b) ∧ b ≠ X.env.locals ∧ (∀ x c, X.env.cells.lookup x = some c → c ≠ b) ∧ ∀ p ∈ X.pn ++ pins, p.1 ≠ b) :
    Inv X pins σ H' { s with heap := h', gens := g', drawn := d', toks := t' } := by
  obtain ⟨m, ⟨o, es, ep, ho, r⟩, _⟩ := id I.loc
  obtain ⟨sl, hL⟩ := u.any ho I.free fun z => (hch _ z).2.1 rfl
  exact I.step (ch := ch) hch (fun b o hL hb hc e n => u.keep b o e n (fun z => (List.mem_cons.mp (I.stkSub b z)).elim hL hb) hc) (fun b o _ _ hc e n => u.any e n hc) (fun b o hc e n => u.free b o e n hc) (fun b o hc e => u.there b o e hc) u.tups u.frzs u.tbls (fun m' hm => by
    obtain ⟨o', es', ep', ho', r'⟩ := hm
    rw [ho] at ho'; cases ho'
    exact ⟨_, es', ep', hL, r'⟩) hok hg
theorem Inv.turned {t' : Nat} {it : Addr} (I : Inv X pins σ H s) (k : ∀ b o, b ≠ it → s.heap.get? b = some o → h'.get? b = some o) (hn : H it = none) (hL : it ≠ X.env.locals)
    (h1 : it ∈ X.ex ∨ X.s_0.heap.objs.size ≤ it) (h2 : ∀ x c, X.env.cells.lookup x = some c → c ≠ it) (h3 : ∀ p ∈ X.pn ++ pins, p.1 ≠ it) : Inv X pins σ H { s with heap := h', toks := t' } := by
  have nit : ∀ b u, H b = some u → b ≠ it := fun b u e z => by rw [z, hn] at e; cases e
  refine I.step (g' := s.gens) (d' := s.drawn) (ch := [it]) (fun b hb => ?_) (fun b o _ _ hc e _ => k b o (fun z => hc (by simp [z])) e) (fun b o _ _ hc e _ => ⟨o.slots, k b o (fun z => hc (by simp [z])) e⟩) (fun _ _ _ _ n => n)
    (fun b o hc e => ⟨o, k b o (fun z => hc (by simp [z])) e⟩) (fun _ _ e => e) (fun _ _ _ e => e) (fun b ps e => ⟨#[], by rw [e]; simp⟩) (fun m hm => ?_) (fun b u e => ?_) I.bare
  · have e : b = it := by simpa using hb
    subst e
    exact ⟨h1, hL, h2, h3⟩
  · obtain ⟨o, es, ep, ho, r⟩ := hm
    exact ⟨o, es, ep, k _ o (Ne.symm hL) ho, r⟩
  · refine (I.hok b u e).stay (fun c v hc q => k c v ?_ q) (fun _ q => q) fun _ _ q => q
    rcases hc with z | z
    · rw [z]; exact nit b u e
    · exact nit c _ z
theorem Inv.tok (I : Inv X pins σ H s) (t : Nat) : Inv X pins σ H { s with toks := t } := I.un (h' := s.heap) (t' := t) Un.refl I.hok
theorem Inv.kept {t' : Nat} (I : Inv X pins σ H s) (k : ∀ b u, s.heap.get? b = some u → h'.get? b = some u) : Inv X pins σ H { s with heap := h', toks := t' } := I.un (Un.kept k) (I.hok.kept k)
theorem Inv.laid {a : Addr} {o : HO} {t' : Nat} (I : Inv X pins σ H s) (k : ∀ b u, s.heap.get? b = some u → h'.get? b = some u) (hp : s.heap.objs.size ≤ a) (new : ObjOk X.prog X.w (upd H a o) h' a o) :
    Inv X pins σ (upd H a o) { s with heap := h', toks := t' } := I.un (Un.laid k hp (I.hok.fresh hp)) (I.hok.laid k hp new)
theorem Inv.write {x e : Addr} {o : HO} {t' : Nat} (I : Inv X pins σ H s) (mu : Mut (H x)) (he : e = x ∨ H e = some (.own x)) (k : ∀ b u, b ≠ e → s.heap.get? b = some u → h'.get? b = some u) (heo : ∃ u, h'.get? e = some u)
    (new : ObjOk X.prog X.w (upd H x o) h' x o) : Inv X pins σ (upd H x o) { s with heap := h', toks := t' } := I.un (Un.write mu he k heo) (I.hok.write mu he k heo new)
theorem Inv.weak {σ' : List (Option V)} (I : Inv X pins σ H s) (hl : σ'.length = σ.length) (w : ∀ (i : Nat) v, σ'[i]? = some (some v) → σ[i]? = some (some v)) : Inv X pins σ' H s :=
  ⟨I.ok, I.os, I.bare, I.base, let ⟨m, hn, hl'⟩ := I.loc; ⟨m, hn, fun i x v e1 e2 e3 => hl' i x v e1 (w i v e2) e3⟩, I.cell, I.free, I.freeC, I.pin, I.hok, hl.trans I.len⟩
theorem Inv.pins_of {pins' : List (Addr × Obj)} (I : Inv X pins σ H s) (h : ∀ p ∈ pins', s.heap.get? p.1 = some p.2 ∧ H p.1 = none ∧ p.1 ≠ X.env.locals ∧ p.1 ∉ X.fs ∧ ∀ v, p.2.data ≠ .cell v) : Inv X pins' σ H s :=
  ⟨I.ok, I.os, I.bare, I.base, I.loc, I.cell, I.free, I.freeC, fun p hp => (List.mem_append.mp hp).elim (fun z => I.pin p (List.mem_append_left _ z)) (h p), I.hok, I.len⟩
theorem nodup_ix {N : List Str} (hN : N.Nodup) {i j : Nat} {x : Str} (a : N[i]? = some x) (b : N[j]? = some x) : i = j := by
  obtain ⟨h1, e1⟩ := List.getElem?_eq_some_iff.mp a
  obtain ⟨h2, e2⟩ := List.getElem?_eq_some_iff.mp b
  exact (List.getElem_inj hN).mp (e1.trans e2.symm)
theorem store_ok2 {M : Model} {A : Around} {E : Value → Shared → Prop} {i : Nat} {x : Str} {v : V} {u : Value} {Q : Unit → Shared → Prop} (I : Inv X pins σ H s) (hN : X.N.Nodup) (hi : X.N[i]? = some x) (hx : Loc X.env.scope x) (r : RelV v u)
    (h : ∀ s', Inv X pins (σ.set i (some v)) H s' → (∃ a, Heap.SameBut a s.heap s'.heap ∧ (a = X.env.locals ∨ X.env.cells.lookup x = some a)) → Q () s') (hf : X.fn x = true ∨ X.env.scope.names.lookup x = some .local := by first | exact .inl rfl | exact .inr rfl | assumption) : wpAny M A (storeName X.env x u) Q E s := by
  obtain ⟨m, hn, hl⟩ := id I.loc
  have hcls : (X.env.scope.kind == .class || (X.env.scope.kind == .module && X.env.locals != X.env.globals)) = false := by rw [I.ok.kind]; rfl
  have hiσ : i < σ.length := by rw [I.len]; exact (List.getElem?_eq_some_iff.mp hi).1
  have cne := I.cne
  have tracked : ∀ {a : Addr} {h' : Heap}, (∃ o, s.heap.get? a = some o ∧ H a = none) → Heap.SameBut a s.heap h' → HOk X.prog X.w H h' := fun {a h'} ha hs b ob e => by
    obtain ⟨_, _, hfree⟩ := ha
    refine (I.hok b ob e).stay (fun c w' hc q => (hs.2 c ?_).trans q) (fun _ q => q) fun _ _ q => q
    rintro rfl
    rcases hc with rfl | hc
    · rw [hfree] at e; cases e
    · rw [hfree] at hc; cases hc
  rcases hx with hk | hk
  · refine wpAny_storeName_local hk hn (fun h' hn' hs => ?_) hcls
    obtain ⟨oL, _, _, hoL, _⟩ := id hn
    refine h _ ⟨I.ok, I.os, I.bare, ⟨fun b o e n hb hx => ?_, fun b o e n hb hx => ?_, I.base.free, fun b o e hx => ?_, I.base.tups, I.base.frzs, I.base.tbls⟩, ⟨_, hn', fun j y v' e1 e2 e3 => ?_⟩, fun y c e => ?_, I.free, I.freeC, fun p hp => ?_, tracked ⟨oL, hoL, I.free⟩ hs, by simpa using I.len⟩ ⟨_, hs, .inl rfl⟩
    · exact (hs.2 b (Nat.ne_of_lt (Nat.lt_of_lt_of_le (Heap.lt_size e) I.ok.above))).trans (I.base.keep b o e n hb hx)
    · obtain ⟨sl, e1⟩ := I.base.slot b o e n hb hx
      exact ⟨sl, (hs.2 b (Nat.ne_of_lt (Nat.lt_of_lt_of_le (Heap.lt_size e) I.ok.above))).trans e1⟩
    · obtain ⟨o', e1⟩ := I.base.there b o e hx
      exact ⟨o', (hs.2 b (Nat.ne_of_lt (Nat.lt_of_lt_of_le (Heap.lt_size e) I.ok.above))).trans e1⟩
    · by_cases hj : j = i
      · subst hj
        rw [hi] at e1; cases e1
        rw [List.getElem?_set_self hiσ] at e2
        cases e2
        exact ⟨u, r, .inl ⟨hk, by simp⟩⟩
      · rw [List.getElem?_set_ne (Ne.symm hj)] at e2
        obtain ⟨u', r', q⟩ := hl j y v' e1 e2 e3
        refine ⟨u', r', ?_⟩
        rcases q with ⟨k, e⟩ | ⟨k, c, e, z⟩
        · refine .inl ⟨k, ?_⟩
          have : y ≠ x := fun e => hj (nodup_ix hN e1 (e ▸ hi))
          simp [this, e]
        · exact .inr ⟨k, c, e, z.sameBut hs (cne y c e)⟩
    · obtain ⟨w', z⟩ := I.cell y c e
      exact ⟨w', z.sameBut hs (cne y c e)⟩
    · obtain ⟨e, n, ne, nf, d⟩ := I.pin p hp
      exact ⟨(hs.2 p.1 ne).trans e, n, ne, nf, d⟩
  · have hfn : X.fn x = true := by
      rcases hf with z | z
      · exact z
      · rw [z] at hk; cases hk
    obtain ⟨c, hc⟩ := I.ok.has x (.inl hk)
    obtain ⟨w', z⟩ := I.cell x c hc
    refine wpAny_storeName_cell I.ok.kind hk hc z (fun h' hc' hs => ?_)
    obtain ⟨oc, hoc, hocd⟩ := id z
    refine h { s with heap := h' } ⟨I.ok, I.os, I.bare, ⟨fun b o e n hb hx => ?_, fun b o e n hb hx => ?_, I.base.free, fun b o e hx => ?_, I.base.tups, I.base.frzs, I.base.tbls⟩, ⟨m, hn.sameBut hs (Ne.symm (cne x c hc)), fun j y v' e1 e2 e3 => ?_⟩, fun y c' e => ?_, I.free, I.freeC, fun p hp => ?_, tracked ⟨oc, hoc, I.freeC x c hc⟩ hs, by simpa using I.len⟩ ⟨c, hs, .inr hc⟩
    · exact (hs.2 b (Nat.ne_of_lt (Nat.lt_of_lt_of_le (Heap.lt_size e) (I.ok.cab x c hfn hc)))).trans (I.base.keep b o e n hb hx)
    · obtain ⟨sl, e1⟩ := I.base.slot b o e n hb hx
      exact ⟨sl, (hs.2 b (Nat.ne_of_lt (Nat.lt_of_lt_of_le (Heap.lt_size e) (I.ok.cab x c hfn hc)))).trans e1⟩
    · obtain ⟨o', e1⟩ := I.base.there b o e hx
      exact ⟨o', (hs.2 b (Nat.ne_of_lt (Nat.lt_of_lt_of_le (Heap.lt_size e) (I.ok.cab x c hfn hc)))).trans e1⟩
    · by_cases hj : j = i
      · subst hj
        rw [hi] at e1; cases e1
        rw [List.getElem?_set_self hiσ] at e2
        cases e2
        exact ⟨u, r, .inr ⟨.inl hk, c, hc, hc'⟩⟩
      · rw [List.getElem?_set_ne (Ne.symm hj)] at e2
        obtain ⟨u', r', q⟩ := hl j y v' e1 e2 e3
        refine ⟨u', r', ?_⟩
        rcases q with q | ⟨k, c', e, z'⟩
        · exact .inl q
        · refine .inr ⟨k, c', e, z'.sameBut hs ?_⟩
          rintro rfl
          exact hj (nodup_ix hN e1 (I.ok.inj _ _ _ e hc ▸ hi))
    · by_cases hcc : c' = c
      · subst hcc; exact ⟨_, hc'⟩
      · obtain ⟨w2, z2⟩ := I.cell y c' e
        exact ⟨w2, z2.sameBut hs hcc⟩
    · obtain ⟨e, n, ne, nf, d⟩ := I.pin p hp
      refine ⟨(hs.2 p.1 ?_).trans e, n, ne, nf, d⟩
      intro q
      rw [q, hoc] at e
      have q' : oc = p.2 := Option.some.inj e
      exact d w' (by rw [← q']; exact hocd)
theorem store_ok {M : Model} {A : Around} {E : Value → Shared → Prop} {i : Nat} {x : Str} {v : V} {u : Value} {Q : Unit → Shared → Prop} (I : Inv X pins σ H s) (hN : X.N.Nodup) (hi : X.N[i]? = some x) (hx : Loc X.env.scope x) (r : RelV v u)
    (h : ∀ s', Inv X pins (σ.set i (some v)) H s' → Q () s') (hf : X.fn x = true ∨ X.env.scope.names.lookup x = some .local := by first | exact .inl rfl | exact .inr rfl | assumption) : wpAny M A (storeName X.env x u) Q E s :=
  store_ok2 I hN hi hx r (fun s' I' _ => h s' I') hf
theorem Inv.call' {s' : Shared} {ch : List Addr} (I : Inv X pins σ H s) (ho : s'.os = s.os) (u : Un (frs X.stack) ch H H' s.heap s'.heap) (hok : HOk X.prog X.w H' s'.heap) (hg : AllBare s'.gens)
    (hch : ∀ b ∈ ch, (b ∈ X.ex ∨ X.s_0.heap.objs.size ≤ b) ∧ b ≠ X.env.locals ∧ (∀ x c, X.env.cells.lookup x = some c → c ≠ b) ∧ ∀ p ∈ X.pn ++ pins, p.1 ≠ b) : Inv X pins σ H' s' := by
  obtain ⟨h', g', d', t', o'⟩ := s'
  have e : o' = s.os := ho
  subst e
  exact I.call (g' := g') (t' := t') (d' := d') u hok hg hch
end
abbrev XK := Value → Option Addr → Hp → Prop
abbrev St := List (Option V)
abbrev VK := V → Hp → Prop
abbrev TE := St → Hp → VK → Prop
abbrev TT := St → Hp → (Bool → Hp → Prop) → Prop
abbrev TA := St → Hp → (List V → Hp → Prop) → Prop
structure Ends where
  nx : St → Hp → Prop
  rt : VK
  bk : St → Hp → Prop := fun _ _ => False
  ct : St → Hp → Prop := fun _ _ => False
abbrev TS := Ends → St → Hp → Prop
def EP (X : Cx) (pins : List (Addr × Obj)) (σ : St) (Q : VK) (u : Value) (s' : Shared) : Prop := ∃ v H', Inv X pins σ H' s' ∧ RelV v u ∧ Q v H'
def TP (X : Cx) (pins : List (Addr × Obj)) (σ : St) (Q : Bool → Hp → Prop) (b : Bool) (s' : Shared) : Prop := ∃ H', Inv X pins σ H' s' ∧ Q b H'
def AP (X : Cx) (pins : List (Addr × Obj)) (σ : St) (Q : List V → Hp → Prop) (us : List Value) (s' : Shared) : Prop := ∃ vs H', Inv X pins σ H' s' ∧ Vals vs us ∧ Q vs H'
def SP (X : Cx) (pins : List (Addr × Obj)) (D : Ends) (f : Flow) (s' : Shared) : Prop :=
  match f with
  | .next => ∃ σ' H', Inv X pins σ' H' s' ∧ D.nx σ' H'
  | .brk => ∃ σ' H', Inv X pins σ' H' s' ∧ D.bk σ' H'
  | .cont => ∃ σ' H', Inv X pins σ' H' s' ∧ D.ct σ' H'
  | .ret u => ∃ v σ' H', Inv X pins σ' H' s' ∧ RelV v u ∧ D.rt v H'
def PE (X : Cx) (e : Expr) (t : TE) : Prop :=
  ∀ (pins : List (Addr × Obj)) (s : Shared) (σ : St) (H : Hp) (Q : VK), Inv X pins σ H s → t σ H Q → wpAny (model X.prog X.w) X.A (eval e X.env) (EP X pins σ Q) X.xe s
def PT (X : Cx) (e : Expr) (t : TT) : Prop :=
  ∀ (pins : List (Addr × Obj)) (s : Shared) (σ : St) (H : Hp) (Q : Bool → Hp → Prop), Inv X pins σ H s → t σ H Q → wpAny (model X.prog X.w) X.A (isTrue e X.env (eval e X.env)) (TP X pins σ Q) X.xe s
def PW (X : Cx) (e : Expr) (t : TT) : Prop :=
  ∀ (whole : Sem Value) (pins : List (Addr × Obj)) (s : Shared) (σ : St) (H : Hp) (Q : Bool → Hp → Prop), Inv X pins σ H s → t σ H Q → wpAny (model X.prog X.w) X.A (isTrue e X.env whole) (TP X pins σ Q) X.xe s
theorem PW.pt {X : Cx} {e : Expr} {t : TT} (h : PW X e t) : PT X e t := h _
def PA (X : Cx) (es : List Expr) (t : TA) : Prop :=
  ∀ (pos : Pos) (pins : List (Addr × Obj)) (s : Shared) (σ : St) (H : Hp) (Q : List V → Hp → Prop), Inv X pins σ H s → t σ H Q → wpAny (model X.prog X.w) X.A (spliced (backTo pos (starEach es X.env))) (AP X pins σ Q) X.xe s
def PS (X : Cx) (st : Stmt) (t : TS) : Prop :=
  ∀ (pins : List (Addr × Obj)) (s : Shared) (σ : St) (H : Hp) (D : Ends), Inv X pins σ H s → t D σ H → wpAny (model X.prog X.w) X.A (exec st X.env) (SP X pins D) X.xe s
def PSs (X : Cx) (st : List Stmt) (t : TS) : Prop :=
  ∀ (pins : List (Addr × Obj)) (s : Shared) (σ : St) (H : Hp) (D : Ends), Inv X pins σ H s → t D σ H → wpAny (model X.prog X.w) X.A (execs st X.env) (SP X pins D) X.xe s
theorem thn {α : Type} {t : Sem α} {Q Q' : α → Shared → Prop} {M : Model} {A : Around} {E : Value → Shared → Prop} {s : Shared} (h : wpAny M A t Q E s) (hQ : ∀ a s, Q a s → Q' a s) : wpAny M A t Q' E s := wpAny_mono h hQ fun _ _ x => x
section
variable {X : Cx}
def tVar (i : Nat) : TE := fun σ H Q => ∃ v, σ[i]? = some (some v) ∧ Q v H
def tC (v : V) : TE := fun _ H Q => Q v H
theorem pe_var {i : Nat} {x : Str} {pos : Pos} (hN : X.N[i]? = some x) (hv : Vis X.env.scope x) (hd : (x == ("__debug__" : Str)) = false := by decide) (hcd : (x == ("__classdict__" : Str)) = false := by decide) : PE X (.Name x pos) (tVar i) := by
  intro pins s σ H Q I h
  obtain ⟨v, e, h⟩ := h
  obtain ⟨m, hn, hl⟩ := I.loc
  obtain ⟨u, r, l⟩ := hl i x v hN e hv
  have fin : EP X pins σ Q u s := ⟨v, H, I, r, h⟩
  rcases l with ⟨hk, hm⟩ | ⟨hk, c, hc, hcell⟩
  · exact wpAny_Name (wpAny_loadName_local I.ok.kind hk hn hm fin) hd
  · rcases hk with hk | hk
    · exact wpAny_Name (wpAny_loadName_cell I.ok.kind hk hc hcell fin) hd
    · exact wpAny_Name (wpAny_loadName_free I.ok.kind hk hc hcell fin hcd) hd
theorem pe_int {i j pos} : PE X (.Constant (.int i) j pos) (tC (.int i)) := fun _ _ _ H _ I h => wpAny_Constant_int ⟨.int i, H, I.tok _, ⟨_, rfl⟩, h⟩
theorem pe_bl {b j pos} : PE X (.Constant (.bool b) j pos) (tC (.bl b)) := fun _ _ _ H _ I h => Constant_bool ⟨.bl b, H, I, rfl, h⟩
def Gl (X : Cx) (x : Str) : Prop := X.env.kindOf x = some .globalImplicit
theorem ld_glob {E : Value → Shared → Prop} {pins : List (Addr × Obj)} {s : Shared} {σ : St} {H : Hp} {x : Str} {u : Value} {pos : Pos} {Q : Value → Shared → Prop} (I : Inv X pins σ H s) (hg : Gl X x) (hm : X.mg x = some u) (h : Q u s)
    (hd : (x == ("__debug__" : Str)) = false := by decide) : wpAny (model X.prog X.w) X.A (eval (.Name x pos) X.env) Q E s :=
  Calls.Name_function_global I.ok.kind hg (Calls.loadGlobal_global (by rw [I.ok.glob]; exact I.mod.glob.keeps I.bk) hm h) hd
theorem ld_blt {E : Value → Shared → Prop} {pins : List (Addr × Obj)} {s : Shared} {σ : St} {H : Hp} {x : Str} {u : Value} {pos : Pos} {Q : Value → Shared → Prop} (I : Inv X pins σ H s) (hg : Gl X x) (hm : X.mg x = none) (hv : bootBuiltins x = some u) (h : Q u s)
    (hn : x ≠ "__name__" := by decide) (hd : (x == ("__debug__" : Str)) = false := by decide) : wpAny (model X.prog X.w) X.A (eval (.Name x pos) X.env) Q E s := by
  obtain ⟨mb, h1, h2⟩ := I.mod.blt
  exact Calls.Name_function_global I.ok.kind hg (Calls.loadGlobal_builtin (by rw [I.ok.glob]; exact I.mod.glob.keeps I.bk) hm (by rw [I.ok.blt]; exact h1.keeps I.bk) ((h2 x hn).trans hv) h) hd
theorem pe_glob {x : Str} {v : V} {u : Value} {pos : Pos} (hg : Gl X x) (hm : X.mg x = some u) (r : RelV v u) (hd : (x == ("__debug__" : Str)) = false := by decide) : PE X (.Name x pos) (tC v) :=
  fun _ _ _ H _ I h => ld_glob I hg hm ⟨v, H, I, r, h⟩ hd
variable {a b : Expr} {ta tb : TE} {pos : Pos}
def PC (X : Cx) (op : CmpOp) (a b : Expr) (t : TE) : Prop :=
  ∀ (pins : List (Addr × Obj)) (s : Shared) (σ : St) (H : Hp) (Q : VK), Inv X pins σ H s → t σ H Q →
    wpAny (model X.prog X.w) X.A (eval a X.env) (fun v s₁ => wpAny (model X.prog X.w) X.A (eval b X.env) (fun u s₂ => wpAny (model X.prog X.w) X.A (compareOp op v u) (EP X pins σ Q) X.xe s₂) X.xe s₁) X.xe s
def tB (t : TE) : TT := fun σ H Q => t σ H fun x H1 => ∃ c, x = .bl c ∧ Q c H1
theorem pe_cmp {op : CmpOp} {t : TE} (h : PC X op a b t) (h1 : behindInMarks op b = false := by first | exact nobehind _ (by decide) (by decide) | rfl) : PE X (.Compare a [op] [b] pos) t := fun pins s σ H Q I hw => wpAny_Compare1 (h pins s σ H Q I hw) h1
theorem pt_cmp {op : CmpOp} {t : TE} (h : PC X op a b t) (h1 : behindInMarks op b = false := by first | exact nobehind _ (by decide) (by decide) | rfl) : PT X (.Compare a [op] [b] pos) (tB t) := by
  intro pins s σ H Q I hw
  refine wpAny_isTrue_Compare1 (thn (h pins s σ H _ I hw) fun v s1 h1 => thn h1 fun u s2 h2 => thn h2 fun c s3 ⟨x, H1, I1, r1, q1⟩ => ?_) h1
  obtain ⟨d, rfl, q⟩ := q1
  cases r1
  exact wpAny_truthy_bool ⟨H1, I1, q⟩
theorem pt_val {e : Expr} {t : TE} (h : PE X e t) (he : ∀ whole, isTrue e X.env whole = (do let v ← whole; standAt e.pos; holding [v] (truthy v)) := by intro _; rfl) : PT X e (tB t) := by
  intro pins s σ H Q I hw
  refine isTrue_plain (thn (h pins s σ H _ I hw) fun v s1 ⟨x, H1, I1, r1, q1⟩ => ?_) (he _)
  obtain ⟨d, rfl, q⟩ := q1
  cases r1
  exact wpAny_truthy_bool ⟨H1, I1, q⟩
variable {tA tB' : TT} {rest : List Expr}
def tAnd (t u : TT) : TT := fun σ H Q => t σ H fun c H1 => if c = true then u σ H1 Q else Q false H1
def tOr (t u : TT) : TT := fun σ H Q => t σ H fun c H1 => if c = true then Q true H1 else u σ H1 Q
def tNot (t : TT) : TT := fun σ H Q => t σ H fun c H1 => Q (!c) H1
theorem pw_and1 (ha : PT X a tA) : PW X (.BoolOp .And [a] pos) tA := by
  intro wh pins s σ H Q I h
  refine isTrue_and (thn (ha pins s σ H Q I h) fun c s1 e => ?_)
  cases c with
  | true => exact isTrue_and_nil e
  | false => exact e
theorem pw_or1 (ha : PT X a tA) : PW X (.BoolOp .Or [a] pos) tA := by
  intro wh pins s σ H Q I h
  refine isTrue_or (thn (ha pins s σ H Q I h) fun c s1 e => ?_)
  cases c with
  | false => exact isTrue_or_nil e
  | true => exact e
theorem pw_and (ha : PT X a tA) (hb : PW X (.BoolOp .And (b :: rest) pos) tB') : PW X (.BoolOp .And (a :: b :: rest) pos) (tAnd tA tB') := by
  intro wh pins s σ H Q I h
  refine isTrue_and (thn (ha pins s σ H _ I h) fun c s1 ⟨H1, I1, q1⟩ => ?_)
  cases c with
  | true => exact hb wh pins s1 σ H1 Q I1 q1
  | false => exact ⟨H1, I1, q1⟩
theorem pw_or (ha : PT X a tA) (hb : PW X (.BoolOp .Or (b :: rest) pos) tB') : PW X (.BoolOp .Or (a :: b :: rest) pos) (tOr tA tB') := by
  intro wh pins s σ H Q I h
  refine isTrue_or (thn (ha pins s σ H _ I h) fun c s1 ⟨H1, I1, q1⟩ => ?_)
  cases c with
  | true => exact ⟨H1, I1, q1⟩
  | false => exact hb wh pins s1 σ H1 Q I1 q1
theorem pt_not (ha : PT X a tA) : PT X (.UnaryOp .Not a pos) (tNot tA) := by
  intro pins s σ H Q I h
  exact isTrue_not (ha pins s σ H (fun c H1 => Q (!c) H1) I h)
def tOrV (ta tb : TE) : TE := fun σ H Q => ta σ H fun x H1 => ∃ c, x = .bl c ∧ if c = true then Q (.bl true) H1 else tb σ H1 Q
theorem pe_one {op} {t : TE} (h : PE X a t) : PE X (.BoolOp op [a] pos) t := fun pins s σ H Q I hw => BoolOp_one (h pins s σ H Q I hw)
theorem pe_or (ha : PE X a ta) (hb : PE X (.BoolOp .Or (b :: rest) pos) tb) : PE X (.BoolOp .Or (a :: b :: rest) pos) (tOrV ta tb) := by
  intro pins s σ H Q I h
  refine BoolOp_or (thn (ha pins s σ H _ I h) fun v s1 ⟨x, H1, I1, r1, q1⟩ => ?_)
  obtain ⟨c, rfl, q1⟩ := q1
  cases r1
  refine wpAny_truthy_bool ?_
  cases c with
  | false => exact hb pins s1 σ H1 Q I1 q1
  | true => exact ⟨.bl true, H1, I1, rfl, q1⟩
def tIf (t : TT) (ta tb : TE) : TE := fun σ H Q => t σ H fun c H1 => if c = true then ta σ H1 Q else tb σ H1 Q
theorem pe_ifExp {c : Expr} (hc : PT X c tA) (ha : PE X a ta) (hb : PE X b tb) : PE X (.IfExp c a b pos) (tIf tA ta tb) := by
  intro pins s σ H Q I h
  refine wpAny_IfExp (thn (hc pins s σ H _ I h) fun d s1 ⟨H1, I1, q1⟩ => ?_)
  cases d with
  | true => exact ha pins s1 σ H1 Q I1 q1
  | false => exact hb pins s1 σ H1 Q I1 q1
end
def SqL (K : PySem.W.Frag) (H : Hp) (a : Addr) (xs : List V) : Prop :=
  Rd H a (.lst xs) ∨
    ∃ (o : Obj) (its : Array Value) (n : Nat), K.lookup a = some o ∧ o.cls = .type "list" ∧ o.dict = none ∧ o.data = .seq its n ∧ its.size ≤ sizeLine ∧ Vals xs its.toList
def SqT (K : PySem.W.Frag) (H : Hp) (a : Addr) (xs : List V) : Prop :=
  Rd H a (.tup xs) ∨
    ∃ (o : Obj) (its : Array Value) (n : Nat), K.lookup a = some o ∧ o.cls = .type "tuple" ∧ o.data = .seq its n ∧ its.size ≤ sizeLine ∧ Vals xs its.toList
def absV : Value → Option V
  | .none => some .non
  | .bool b => some (.bl b)
  | .int i _ => some (.int i)
  | .str x _ => some (.str x)
  | .bytes b _ => some (.byt b)
  | .float b _ => some (.flt b)
  | .ref a => some (.ref a)
  | .type n => some (.ty n)
  | _ => none
theorem RelV.abs {x : V} {u : Value} (r : RelV x u) : absV u = some x := by
  cases x with
  | non => cases r; rfl
  | bl _ => cases r; rfl
  | int _ => obtain ⟨t, rfl⟩ := r; rfl
  | str _ => obtain ⟨t, rfl⟩ := r; rfl
  | byt _ => obtain ⟨t, rfl⟩ := r; rfl
  | flt _ => obtain ⟨t, rfl⟩ := r; rfl
  | ref _ => cases r; rfl
  | ty _ => cases r; rfl
theorem RelV.inj {x y : V} {u : Value} (r : RelV x u) (q : RelV y u) : x = y := Option.some.inj (r.abs.symm.trans q.abs)
theorem Vals.inj : ∀ {xs ys : List V} {us : List Value}, Vals xs us → Vals ys us → xs = ys
  | _, _, _, .nil, .nil => rfl
  | _, _, _, .cons r t, .cons r' t' => by rw [r.inj r', Vals.inj t t']
section
variable {X : Cx} {pins : List (Addr × Obj)} {σ : St} {H : Hp} {s : Shared} {a : Addr} {xs ys : List V}
theorem SqL.of {K : PySem.W.Frag} (h : H a = some (.lst xs)) : SqL K H a xs := .inl (.inl h)
theorem SqT.of {K : PySem.W.Frag} (h : H a = some (.tup xs)) : SqT K H a xs := .inl (.inl h)
theorem Inv.list (I : Inv X pins σ H s) (h : SqL X.K H a xs) : ∃ its : List Value, Vals xs its ∧ PlainL s.heap a its.toArray ∧ xs.length ≤ sizeLine := by
  rcases h with h | ⟨o, its, n, hk, hc, hd, hs, hz, r⟩
  · obtain ⟨z, its, n, r, e⟩ := h.ok I.hok
    exact ⟨its, r, ⟨_, n, e, rfl, rfl, rfl⟩, z⟩
  · refine ⟨its.toList, r, ⟨o, n, I.kIn a o hk, hc, hd, by simpa using hs⟩, ?_⟩
    have e := r.length
    simp only [Array.length_toList] at e
    omega
theorem Inv.tuple (I : Inv X pins σ H s) (h : SqT X.K H a xs) : ∃ its : List Value, Vals xs its ∧ IsTup s.heap a its.toArray ∧ xs.length ≤ sizeLine := by
  rcases h with h | ⟨o, its, n, hk, hc, hs, hz, r⟩
  · obtain ⟨z, its, r, p⟩ := h.ok I.hok
    exact ⟨its, r, p, z⟩
  · refine ⟨its.toList, r, ⟨o, I.kIn a o hk, hc, n, by simpa using hs⟩, ?_⟩
    have e := r.length
    simp only [Array.length_toList] at e
    omega
theorem Inv.list_inj (I : Inv X pins σ H s) (h : SqL X.K H a xs) (h' : SqL X.K H a ys) : xs = ys := by
  obtain ⟨its, r, ⟨o, n, e, _, _, d⟩, _⟩ := I.list h
  obtain ⟨its', r', ⟨o', n', e', _, _, d'⟩, _⟩ := I.list h'
  rw [e] at e'; cases e'
  rw [d] at d'
  injection d' with d1 _
  have : its = its' := by simpa using congrArg Array.toList d1
  subst this
  exact r.inj r'
theorem Inv.tuple_inj (I : Inv X pins σ H s) (h : SqT X.K H a xs) (h' : SqT X.K H a ys) : xs = ys := by
  obtain ⟨its, r, ⟨o, e, _, n, d⟩, _⟩ := I.tuple h
  obtain ⟨its', r', ⟨o', e', _, n', d'⟩, _⟩ := I.tuple h'
  rw [e] at e'; cases e'
  rw [d] at d'
  injection d' with d1 _
  have : its = its' := by simpa using congrArg Array.toList d1
  subst this
  exact r.inj r'
end
abbrev Cx.wish (X : Cx) (E : Value → Shared → Prop) : Cx := { X with xe := E }
abbrev Cx.nox (X : Cx) : Cx := X.wish fun _ _ => False
theorem Cx.Ok.wish {X : Cx} (ok : X.Ok) (E : Value → Shared → Prop) : (X.wish E).Ok :=
  ⟨ok.mod, ok.kind, ok.glob, ok.blt, ok.above, ok.inj, ok.has, ok.cab, ok.hd, ok.frames, ok.stk, ok.exf, ok.bs, ok.bsz, ok.noex, ok.exfs, ok.funs, ok.frf⟩
theorem Cx.Ok.unwish {X : Cx} {E : Value → Shared → Prop} (ok : (X.wish E).Ok) : X.Ok :=
  ⟨ok.mod, ok.kind, ok.glob, ok.blt, ok.above, ok.inj, ok.has, ok.cab, ok.hd, ok.frames, ok.stk, ok.exf, ok.bs, ok.bsz, ok.noex, ok.exfs, ok.funs, ok.frf⟩
section
variable {X : Cx} {pins : List (Addr × Obj)} {σ : St} {H : Hp} {s : Shared} {E : Value → Shared → Prop}
theorem Inv.wish (I : Inv X pins σ H s) (E : Value → Shared → Prop) : Inv (X.wish E) pins σ H s := ⟨I.ok.wish E, I.os, I.bare, I.base, I.loc, I.cell, I.free, I.freeC, I.pin, I.hok, I.len⟩
theorem Inv.unwish (I : Inv (X.wish E) pins σ H s) : Inv X pins σ H s := ⟨I.ok.unwish, I.os, I.bare, I.base, I.loc, I.cell, I.free, I.freeC, I.pin, I.hok, I.len⟩
theorem SP.unwish {D : Ends} {f : Flow} {s' : Shared} (h : SP (X.wish E) pins D f s') : SP X pins D f s' := by
  cases f with
  | next => obtain ⟨σ', H', I, q⟩ := h; exact ⟨σ', H', I.unwish, q⟩
  | brk => obtain ⟨σ', H', I, q⟩ := h; exact ⟨σ', H', I.unwish, q⟩
  | cont => obtain ⟨σ', H', I, q⟩ := h; exact ⟨σ', H', I.unwish, q⟩
  | ret u => obtain ⟨v, σ', H', I, r, q⟩ := h; exact ⟨v, σ', H', I.unwish, r, q⟩
theorem PSs.nox {st : List Stmt} {t : TS} (h : PSs X.nox st t) : PSs X st t := fun pins s σ H D I hw =>
  wpAny_mono (h pins s σ H D (I.wish _) hw) (fun _ _ q => q.unwish) fun _ _ z => False.elim z
end
section
variable {X : Cx} {st : Stmt} {rest : List Stmt} {t u : TS} {e : Expr} {te : TE} {pos : Pos}
def tNext : TS := fun D σ H => D.nx σ H
def tSeq (t u : TS) : TS := fun D σ H => t { D with nx := u D } σ H
theorem pss_nil : PSs X [] tNext := fun _ _ σ H _ I h => wpAny_execs_nil ⟨σ, H, I, h⟩
theorem pss_cons (h1 : PS X st t) (h2 : PSs X rest u) : PSs X (st :: rest) (tSeq t u) := by
  intro pins s σ H D I h
  refine wpAny_execs_cons (thn (h1 pins s σ H { D with nx := u D } I h) fun f s1 q => ?_)
  cases f with
  | next =>
    obtain ⟨σ', H', I', q⟩ := q
    exact h2 pins s1 σ' H' D I' q
  | ret v => exact q
  | brk => exact q
  | cont => exact q
theorem pss_one (h1 : PS X st t) : PSs X [st] t := by
  intro pins s σ H D I h
  refine wpAny_execs_cons (thn (h1 pins s σ H D I h) fun f s1 q => ?_)
  cases f with
  | next => exact wpAny_execs_nil q
  | ret v => exact q
  | brk => exact q
  | cont => exact q
theorem Inv.quiet {pins : List (Addr × Obj)} {σ : St} {H : Hp} {s : Shared} (I : Inv X pins σ H s) : interactive X.env = false := by simp [interactive, I.ok.kind]
def tDrop (te : TE) : TS := fun D σ H => te σ H fun _ H1 => D.nx σ H1
theorem ps_expr (he : PE X e te) (hs : swapsWith e none pos.line X.env = pure false := by rfl) : PS X (.Expr e pos) (tDrop te) := by
  intro pins s σ H D I h
  exact wpAny_Expr_any (thn (he pins s σ H _ I h) fun v s1 ⟨x, H1, I1, r1, q1⟩ => ⟨σ, H1, I1, q1⟩) I.quiet hs
def tRet (te : TE) : TS := fun D σ H => te σ H D.rt
theorem ps_ret (he : PE X e te) : PS X (.Return (some e) pos) (tRet te) := by
  intro pins s σ H D I h
  exact wpAny_Return_some (thn (he pins s σ H _ I h) fun v s1 ⟨x, H1, I1, r1, q1⟩ => ⟨x, σ, H1, I1, r1, q1⟩)
def tIfS (c : TT) (t u : TS) : TS := fun D σ H => c σ H fun b H1 => if b = true then t D σ H1 else u D σ H1
theorem ps_if {c : Expr} {a b : List Stmt} {tc : TT} (hc : PT X c tc) (ha : PSs X a t) (hb : PSs X b u) : PS X (.If c a b pos) (tIfS tc t u) := by
  intro pins s σ H D I h
  refine wpAny_If (thn (hc pins s σ H _ I h) fun d s1 ⟨H1, I1, q1⟩ => ?_)
  cases d with
  | true => exact ha pins s1 σ H1 D I1 q1
  | false => exact hb pins s1 σ H1 D I1 q1
end
abbrev TG := V → St → Hp → (St → Hp → Prop) → Prop
abbrev TGs := List V → St → Hp → (St → Hp → Prop) → Prop
def PG (X : Cx) (target : Expr) (t : TG) : Prop :=
  ∀ (pins : List (Addr × Obj)) (s : Shared) (σ : St) (H : Hp) (v : V) (u : Value) (Q : St → Hp → Prop), Inv X pins σ H s → RelV v u → t v σ H Q →
    wpAny (model X.prog X.w) X.A (assign target X.env u) (fun _ s' => ∃ σ' H', Inv X pins σ' H' s' ∧ Q σ' H') X.xe s
def PGs (X : Cx) (ts : List Expr) (t : TGs) : Prop :=
  ∀ (pins : List (Addr × Obj)) (s : Shared) (σ : St) (H : Hp) (vs : List V) (us : List Value) (Q : St → Hp → Prop), Inv X pins σ H s → Vals vs us → t vs σ H Q →
    wpAny (model X.prog X.w) X.A (assignInOrder ((assignEach ts X.env).map (·.2)) us) (fun _ s' => ∃ σ' H', Inv X pins σ' H' s' ∧ Q σ' H') X.xe s
abbrev TSet := V → V → V → Hp → (Hp → Prop) → Prop
def PSet (X : Cx) (t : TSet) : Prop :=
  ∀ (pins : List (Addr × Obj)) (s : Shared) (σ : St) (H : Hp) (o i v : V) (ov iv u : Value) (Q : Hp → Prop), Inv X pins σ H s → RelV o ov → RelV i iv → RelV v u → t o i v H Q →
    wpAny (model X.prog X.w) X.A (setItem ov iv u) (fun _ s' => ∃ H', Inv X pins σ H' s' ∧ Q H') X.xe s
abbrev TIp := V → V → Hp → VK → Prop
def PIp (X : Cx) (op : Operator) (t : TIp) : Prop :=
  ∀ (pins : List (Addr × Obj)) (s : Shared) (σ : St) (H : Hp) (x y : V) (v u : Value) (Q : VK), Inv X pins σ H s → RelV x v → RelV y u → t x y H Q →
    wpAny (model X.prog X.w) X.A (inplaceOp op v u) (EP X pins σ Q) X.xe s
section
variable {X : Cx} {pos : Pos}
def gName (i : Nat) : TG := fun v σ H Q => Q (σ.set i (some v)) H
theorem pg_name {i : Nat} {x : Str} (hN : X.N.Nodup) (hi : X.N[i]? = some x) (hx : Loc X.env.scope x) (hf : X.fn x = true ∨ X.env.scope.names.lookup x = some .local := by first | exact .inl rfl | exact .inr rfl | assumption) : PG X (.Name x pos) (gName i) := by
  intro pins s σ H v u Q I r h
  exact wpAny_assign_Name (store_ok I hN hi hx r (fun s' I' => ⟨_, H, I', h⟩) hf)
def gNil : TGs := fun vs σ H Q => vs = [] ∧ Q σ H
def gCons (t : TG) (u : TGs) : TGs := fun vs σ H Q => ∃ v r, vs = v :: r ∧ t v σ H fun σ' H' => u r σ' H' Q
theorem pgs_nil : PGs X [] gNil := by
  intro pins s σ H vs us Q I r h
  obtain ⟨e, h⟩ := h
  subst e
  cases r
  exact assignInOrder_nil ⟨σ, H, I, h⟩
theorem pgs_cons {e : Expr} {es : List Expr} {t : TG} {u : TGs} (h1 : PG X e t) (h2 : PGs X es u)
    (hs : (assignEach (e :: es) X.env).map (·.2) = assign e X.env :: (assignEach es X.env).map (·.2) := by rfl) : PGs X (e :: es) (gCons t u) := by
  intro pins s σ H vs us Q I r h
  obtain ⟨v, vr, e1, h⟩ := h
  subst e1
  cases r with
  | cons r rr =>
    rw [hs]
    refine assignInOrder_cons (thn (h1 pins s σ H _ _ _ I r h) fun _ s1 ⟨σ1, H1, I1, q1⟩ => ?_)
    exact h2 pins s1 σ1 H1 _ _ Q I1 rr q1
def gTup (K : PySem.W.Frag) (n : Nat) (t : TGs) : TG := fun v σ H Q => ∃ a xs, v = .ref a ∧ SqT K H a xs ∧ xs.length = n ∧ t xs σ H Q
theorem pg_tup {es : List Expr} {k : Nat} {t : TGs} {n : Nat} (hc : X.calm = true) (h : PGs X es t)
    (hn : (assignEach es X.env).length = n := by rfl) (hst : (assignEach es X.env).findIdx? (·.1) = none := by rfl) : PG X (.Tuple es k pos) (gTup X.K n t) := by
  intro pins s σ H v u Q I r hw
  obtain ⟨a, xs, e1, hq, hl, hw⟩ := hw
  subst e1
  cases r
  obtain ⟨its, rv, ht, hz⟩ := I.tuple hq
  refine assign_Tuple_tuple (I.ok.hd hc) ht (by simp [hn, ← hl, rv.length]) hst fun h' hx => ?_
  have I1 : Inv X pins σ H { s with heap := h' } := I.kept (t' := s.toks) fun b o e => hx b o (Nat.ne_of_lt (Heap.lt_size e)) e
  exact h pins _ σ H xs _ Q I1 (by simpa using rv) hw
def tAsg (te : TE) (g : TG) : TS := fun D σ H => te σ H fun x H1 => g x σ H1 D.nx
theorem ps_set {i : Nat} {x : Str} {e : Expr} {te : TE} {pos' : Pos} (hN : X.N.Nodup) (hi : X.N[i]? = some x) (hx : Loc X.env.scope x) (he : PE X e te) (hs : swapsWith e (some (.Name x pos')) pos.line X.env = pure false := by rfl) (hf : X.fn x = true ∨ X.env.scope.names.lookup x = some .local := by first | exact .inl rfl | exact .inr rfl | assumption) :
    PS X (.Assign [.Name x pos'] e pos) (tAsg te (gName i)) := by
  intro pins s σ H D I h
  refine wpAny_Assign_Name (thn (he pins s σ H _ I h) fun v s1 ⟨y, H1, I1, r1, q1⟩ => ?_) hs
  exact store_ok I1 hN hi hx r1 (fun s2 I2 => ⟨_, H1, I2, q1⟩) hf
def tAug (i : Nat) (te : TE) (ti : TIp) : TS := fun D σ H => ∃ x, σ[i]? = some (some x) ∧ te σ H fun y H1 => ti x y H1 fun z H2 => D.nx (σ.set i (some z)) H2
theorem ps_aug {i : Nat} {x : Str} {e : Expr} {te : TE} {op : Operator} {ti : TIp} {pos' : Pos} (hN : X.N.Nodup) (hi : X.N[i]? = some x) (hx : Loc X.env.scope x) (he : PE X e te) (ho : PIp X op ti) (hf : X.fn x = true ∨ X.env.scope.names.lookup x = some .local := by first | exact .inl rfl | exact .inr rfl | assumption) :
    PS X (.AugAssign (.Name x pos') op e pos) (tAug i te ti) := by
  intro pins s σ H D I h
  obtain ⟨v, e1, h⟩ := h
  obtain ⟨m, hn, hl⟩ := I.loc
  have vis : Vis X.env.scope x := by rcases hx with k | k; exact .inl k; exact .inr (.inl k)
  obtain ⟨u, r, l⟩ := hl i x v hi e1 vis
  refine wpAny_AugAssign_Name ?_
  have go : wpAny (model X.prog X.w) X.A (eval e X.env) (fun w s₂ => wpAny (model X.prog X.w) X.A (inplaceOp op u w) (fun r s₃ => wpAny (model X.prog X.w) X.A (storeName X.env x r) (fun _ => SP X pins D .next) X.xe s₃) X.xe s₂) X.xe s := by
    refine thn (he pins s σ H _ I h) fun w s1 ⟨y, H1, I1, r1, q1⟩ => ?_
    refine thn (ho pins s1 σ H1 v y u w _ I1 r r1 q1) fun z s2 ⟨zv, H2, I2, r2, q2⟩ => ?_
    exact store_ok I2 hN hi hx r2 (fun s3 I3 => ⟨_, H2, I3, q2⟩) hf
  rcases l with ⟨hk, hm⟩ | ⟨hk, c, hc, hcell⟩
  · exact wpAny_loadName_local I.ok.kind hk hn hm go
  · rcases hk with hk | hk
    · exact wpAny_loadName_cell I.ok.kind hk hc hcell go
    · rcases hx with k | k
      · have : X.env.scope.names.lookup x = some .free := hk
        rw [k] at this; cases this
      · have : X.env.scope.names.lookup x = some .free := hk
        rw [k] at this; cases this
def tAugS (to ti te : TE) (tget : V → V → Hp → VK → Prop) (tip : TIp) (tset : TSet) : TS := fun D σ H => to σ H fun o H1 => ti σ H1 fun i H2 => tget o i H2 fun x H3 => te σ H3 fun y H4 => tip x y H4 fun z H5 => tset o i z H5 fun H6 => D.nx σ H6
def PGet (X : Cx) (t : V → V → Hp → VK → Prop) : Prop :=
  ∀ (pins : List (Addr × Obj)) (s : Shared) (σ : St) (H : Hp) (o i : V) (ov iv : Value) (Q : VK), Inv X pins σ H s → RelV o ov → RelV i iv → t o i H Q →
    wpAny (model X.prog X.w) X.A (getItem ov iv) (EP X pins σ Q) X.xe s
theorem ps_augS {o i e : Expr} {to ti te : TE} {tget : V → V → Hp → VK → Prop} {tip : TIp} {tset : TSet} {op : Operator} {tpos : Pos} (ho : PE X o to) (hi : PE X i ti) (hg : PGet X tget) (he : PE X e te) (hp : PIp X op tip) (hs : PSet X tset)
    (ha : ∀ ov iv new, augStore i ov iv new = (do holding [new, ov, iv] (setItem ov iv new); release [new, ov, iv] []; pure .next) := by intros; rfl) : PS X (.AugAssign (.Subscript o i tpos) op e pos) (tAugS to ti te tget tip tset) := by
  intro pins s σ H D I h
  refine wpAny_AugAssign_SubscriptAny (thn (ho pins s σ H _ I h) fun ov s1 ⟨x1, H1, I1, r1, q1⟩ => ?_) ha
  refine thn (hi pins s1 σ H1 _ I1 q1) fun iv s2 ⟨x2, H2, I2, r2, q2⟩ => ?_
  refine thn (hg pins s2 σ H2 x1 x2 ov iv _ I2 r1 r2 q2) fun old s3 ⟨x3, H3, I3, r3, q3⟩ => ?_
  refine thn (he pins s3 σ H3 _ I3 q3) fun v s4 ⟨x4, H4, I4, r4, q4⟩ => ?_
  refine thn (hp pins s4 σ H4 x3 x4 old v _ I4 r3 r4 q4) fun new s5 ⟨x5, H5, I5, r5, q5⟩ => ?_
  exact thn (hs pins s5 σ H5 x1 x2 x5 ov iv new _ I5 r1 r2 r5 q5) fun _ s6 ⟨H6, I6, q6⟩ => ⟨σ, H6, I6, q6⟩
def ipI (f : Int → Int → Int) : TIp := fun x y H Q => ∃ i j, x = .int i ∧ y = .int j ∧ Q (.int (f i j)) H
theorem ip_add : PIp X .Add (ipI fun i j => i + j) := by
  intro pins s σ H x y v u Q I r1 r2 h
  obtain ⟨i, j, e1, e2, q⟩ := h
  subst e1; subst e2
  obtain ⟨t, rfl⟩ := r1
  obtain ⟨t', rfl⟩ := r2
  exact iadd_int ⟨.int _, H, I.tok _, ⟨_, rfl⟩, q⟩
theorem ip_sub : PIp X .Sub (ipI fun i j => i - j) := by
  intro pins s σ H x y v u Q I r1 r2 h
  obtain ⟨i, j, e1, e2, q⟩ := h
  subst e1; subst e2
  obtain ⟨t, rfl⟩ := r1
  obtain ⟨t', rfl⟩ := r2
  exact isub_int ⟨.int _, H, I.tok _, ⟨_, rfl⟩, q⟩
end
section
variable {X : Cx} {pos : Pos}
def tWhile (c : TT) (tb : TS) : TS := fun D σ H => ∃ W : Nat → St → Hp → Prop, (∃ m, W m σ H) ∧ ∀ m σ H, W m σ H →
  c σ H fun b H1 => if b = true then ∃ N : St → Hp → Prop, (∀ σ' H', N σ' H' → ∃ m', m' < m ∧ W m' σ' H') ∧ tb { D with nx := N, ct := N, bk := D.nx } σ H1 else D.nx σ H1
theorem ps_while {c : Expr} {body : List Stmt} {tc : TT} {tb : TS} (hp : PassesOwn (model X.prog X.w) X.A X.env X.xe) (hc : PT X c tc) (hb : PSs X body tb) : PS X (.While c body [] pos) (tWhile tc tb) := by
  intro pins s σ H D I h
  obtain ⟨W, ⟨m0, w0⟩, turn⟩ := h
  refine wpAny_While (codeAny_whileLoop (fun n s' => ∃ σ' H', Inv X pins σ' H' s' ∧ W n σ' H') ?_ m0 ⟨σ, H, I, w0⟩)
  rintro n s1 ⟨σ1, H1, I1, w1⟩
  refine wpAny_passesOwn hp (thn (hc pins s1 σ1 H1 _ I1 (turn n σ1 H1 w1)) fun b s2 ⟨H2, I2, q2⟩ => ?_)
  cases b with
  | true =>
    obtain ⟨N, hN, q2⟩ := q2
    rw [if_pos rfl]
    refine wpAny_passesOwn hp (thn (hb pins s2 σ1 H2 _ I2 q2) fun f s3 q3 => ?_)
    cases f with
    | next =>
      obtain ⟨σ3, H3, I3, n3⟩ := q3
      obtain ⟨m', hm, w3⟩ := hN σ3 H3 n3
      exact ⟨m', hm, σ3, H3, I3, w3⟩
    | cont =>
      obtain ⟨σ3, H3, I3, n3⟩ := q3
      obtain ⟨m', hm, w3⟩ := hN σ3 H3 n3
      exact ⟨m', hm, σ3, H3, I3, w3⟩
    | brk => exact q3
    | ret v => exact q3
  | false =>
    rw [if_neg Bool.false_ne_true]
    exact wpAny_execs_nil ⟨σ1, H2, I2, q2⟩
end
structure It where
  go : Nat → Hp → Prop
  yld : Nat → Hp → V → Hp → Prop
  stop : Nat → Hp → Prop
def FpOk (X : Cx) (pins : List (Addr × Obj)) (H : Hp) (b : Addr) : Prop :=
  H b = none ∧ b ≠ X.env.locals ∧ b ∉ X.fs ∧ (b ∈ X.ex ∨ X.s_0.heap.objs.size ≤ b) ∧ (∀ x c, X.env.cells.lookup x = some c → c ≠ b) ∧ ∀ p ∈ X.pn ++ pins, p.1 ≠ b
theorem Inv.fpOk {X : Cx} {pins : List (Addr × Obj)} {σ : St} {H H' : Hp} {s : Shared} {b : Addr} (I : Inv X pins σ H s) (hb : s.heap.objs.size ≤ b) (hn : H' b = none) : FpOk X pins H' b := by
  refine ⟨hn, Nat.ne_of_gt (Nat.lt_of_lt_of_le I.lt hb), I.nofs hb, .inr (Nat.le_trans I.sz hb), fun x c e z => ?_, fun p hp z => ?_⟩
  · obtain ⟨v, q⟩ := I.cell x c e
    exact absurd (Nat.lt_of_lt_of_le q.lt (by rw [z]; exact hb)) (Nat.lt_irrefl _)
  · exact absurd (Nat.lt_of_lt_of_le (Heap.lt_size (I.pin p hp).1) (by rw [z]; exact hb)) (Nat.lt_irrefl _)
structure Turn (P : Program) (w : World) (K : PySem.W.Frag) (tg : Expr) (J : It) (fp : List Addr) (it : Addr) (tn : Nat → Heap → Prop) : Prop where
  mem : it ∈ fp
  obj : ∀ i h, tn i h → ∀ b ∈ fp, ∃ o, h.get? b = some o ∧ ∀ v, o.data ≠ .cell v
  keep : ∀ i h h', tn i h → (∀ b ∈ fp, ∀ o, h.get? b = some o → h'.get? b = some o) → tn i h'
  item : ∀ (X : Cx), X.prog = P → X.w = w → X.K = K → X.calm = true → ∀ (i : Nat) (pins : List (Addr × Obj)) (s : Shared) (σ : St) (H : Hp) (E : Value → Shared → Prop), Inv X pins σ H s → (∀ b ∈ fp, FpOk X pins H b) → tn i s.heap → J.go i H →
    wpAny (model P w) X.A (pyNext (.ref it)) (fun r s1 => ∃ u, r = some u ∧
      wpAny (model P w) X.A (letOwnedTupleGo tg (.ref it) u) (fun _ s2 => ∃ x H', Inv X pins σ H' s2 ∧ RelV x u ∧ J.yld i H x H' ∧ tn (i + 1) s2.heap ∧ ∀ b ∈ fp, H' b = none) E s1) E s
  done : ∀ (X : Cx), X.prog = P → X.w = w → X.K = K → X.calm = true → ∀ (i : Nat) (pins : List (Addr × Obj)) (s : Shared) (σ : St) (H : Hp) (E : Value → Shared → Prop), Inv X pins σ H s → (∀ b ∈ fp, FpOk X pins H b) → tn i s.heap → J.stop i H →
    wpAny (model P w) X.A (pyNext (.ref it)) (fun r s1 => r = none ∧ Inv X pins σ H s1) E s
  self : ∀ (A : Around) (i : Nat) (s : Shared) (Q : Value → Shared → Prop) (E : Value → Shared → Prop), tn i s.heap → Q (.ref it) s → wpAny (model P w) A (pyIter (.ref it)) Q E s
abbrev TI := St → Hp → (It → Hp → Prop) → Prop
def PIE (X : Cx) (pins : List (Addr × Obj)) (σ : St) (tg : Expr) (R : It → Hp → Prop) (itv : Value) (s2 : Shared) : Prop :=
  ∃ (it : Addr) (fp : List Addr) (tn : Nat → Heap → Prop) (J : It) (H' : Hp), itv = .ref it ∧ Inv X pins σ H' s2 ∧ Turn X.prog X.w X.K tg J fp it tn ∧ tn 0 s2.heap ∧ (∀ b ∈ fp, FpOk X pins H' b) ∧ R J H'
def PI (X : Cx) (tg iter : Expr) (wi : TI) : Prop :=
  ∀ (pins : List (Addr × Obj)) (s : Shared) (σ : St) (H : Hp) (R : It → Hp → Prop), Inv X pins σ H s → wi σ H R →
    wpAny (model X.prog X.w) X.A (eval iter X.env) (fun v s1 => wpAny (model X.prog X.w) X.A (pyIter v) (PIE X pins σ tg R) X.xe s1) X.xe s
theorem go_of {M : Model} {A : Around} {E : Value → Shared → Prop} {s : Shared} {tg : Expr} {it : Addr} {u : Value} {o : Obj} {n : String} {vs : Array Value} {Q : Unit → Shared → Prop} (ho : s.heap.get? it = some o) (hc : o.cls = .type n) (hd : o.data = .fields vs)
    (hn : ["enumerate", "zip", "dict_itemiterator", "dict_reverseitemiterator", "odict_iterator", "itertools.zip_longest", "itertools.pairwise"].contains n = false) (hQ : Q () s) : wpAny M A (letOwnedTupleGo tg (.ref it) u) Q E s := by
  unfold letOwnedTupleGo
  cases tg <;> first
    | exact wpAny_pure hQ
    | (cases u <;> first
        | exact wpAny_pure hQ
        | (refine wpAny_bind (wpAny_load ho ?_)
           rw [hc, hd]
           show wpAny M A (if (["enumerate", "zip", "dict_itemiterator", "dict_reverseitemiterator", "odict_iterator", "itertools.zip_longest", "itertools.pairwise"].contains n && vs[0]? == some (rawInt _)) = true then _ else _) Q E s
           rw [if_neg (by intro h; rw [hn, Bool.false_and] at h; cases h)]
           exact wpAny_pure hQ))
def Itl (K : PySem.W.Frag) (a : Addr) : It :=
  ⟨fun i H => ∃ xs x, SqL K H a xs ∧ xs[i]? = some x, fun i H x H' => H' = H ∧ ∀ xs, SqL K H a xs → xs[i]? = some x, fun i H => ∃ xs, SqL K H a xs ∧ xs.length ≤ i⟩
def Itr (lo : Int) (n : Nat) : It := ⟨fun i _ => i < n, fun i H x H' => H' = H ∧ x = .int (lo + i), fun i _ => n ≤ i⟩
theorem turn_list {P : Program} {w : World} {K : PySem.W.Frag} {tg : Expr} (a it : Addr) : Turn P w K tg (Itl K a) [it] it (fun i h => h.IsListIter it a i) where
  mem := by simp
  obj := fun i h st b hb => by
    have e : b = it := by simpa using hb
    subst e
    obtain ⟨o, e, c, d⟩ := st
    exact ⟨o, e, fun v z => by rw [d] at z; cases z⟩
  keep := fun i h h' st k => st.at fun o e => k it (by simp) o e
  item := by
    intro X hP hw hK hc i pins s σ H E I hf st hg
    subst hP hw hK
    obtain ⟨xs, x, hq, hx⟩ := hg
    obtain ⟨its, rv, p, hz⟩ := I.list hq
    obtain ⟨u, hu, ru⟩ := rv.get hx
    obtain ⟨f0, f1, f2, f3, f4, f5⟩ := hf it (by simp)
    refine wpAny_pyNext_list_item st p.isList (x := u) (by simpa using hu) fun h' st' sb => ?_
    have I1 : Inv X pins σ H { s with heap := h' } := I.turned (t' := s.toks) (fun b o hb e => (sb.2 b hb).trans e) f0 f1 f3 f4 f5
    obtain ⟨o, e, c, d⟩ := id st'
    exact ⟨u, rfl, go_of (s := { s with heap := h' }) e c d (by decide) ⟨x, H, I1, ru, ⟨rfl, fun ys hy => by rw [I.list_inj hy hq]; exact hx⟩, st', fun b hb => (hf b hb).1⟩⟩
  done := by
    intro X hP hw hK hc i pins s σ H E I hf st hg
    subst hP hw hK
    obtain ⟨xs, hq, hx⟩ := hg
    obtain ⟨its, rv, p, hz⟩ := I.list hq
    obtain ⟨f0, f1, f2, f3, f4, f5⟩ := hf it (by simp)
    have hl := rv.length
    exact wpAny_pyNext_list_end (I.ok.hd hc) st p.isList (by simp; omega) fun h' eb => ⟨rfl, I.turned (t' := s.toks) (fun b o hb e => eb b o hb e) f0 f1 f3 f4 f5⟩
  self := fun _ _ _ _ _ st h => wpAny_pyIter_listiter st h
theorem turn_range {P : Program} {w : World} {K : PySem.W.Frag} {tg : Expr} (it : Addr) (lo : Int) (n : Nat) : Turn P w K tg (Itr lo n) [it] it (fun i h => IsRangeIter h it (lo + (i : Nat) * 1) ((n : Int) - (i : Nat)) 1) where
  mem := by simp
  obj := fun i h st b hb => by
    have e : b = it := by simpa using hb
    subst e
    exact ⟨_, st, fun v z => by
      have z' : Data.fields _ = Data.cell v := z
      cases z'⟩
  keep := fun i h h' st k => k it (by simp) _ st
  item := by
    intro X hP hw hK hc i pins s σ H E I hf st hg
    subst hP hw hK
    obtain ⟨f0, f1, f2, f3, f4, f5⟩ := hf it (by simp)
    have W := Walks.range (prog := X.prog) (w := X.w) (I.ok.hd hc) it lo 1 n
    refine W.item i s _ _ hg st fun v h' tk hv st' kk => ?_
    obtain ⟨t, rfl⟩ := hv
    have I1 : Inv X pins σ H { s with heap := h', toks := tk } := I.turned (fun b o hb e => kk b o (by simpa using hb) e) f0 f1 f3 f4 f5
    refine ⟨_, rfl, go_of (s := { s with heap := h', toks := tk }) (n := "range_iterator") st' rfl rfl (by decide) ⟨.int (lo + i), H, I1, ⟨t, ?_⟩, ⟨rfl, rfl⟩, st', fun b hb => (hf b hb).1⟩⟩
    rw [Int.mul_one]
  done := by
    intro X hP hw hK hc i pins s σ H E I hf st hg
    subst hP hw hK
    obtain ⟨f0, f1, f2, f3, f4, f5⟩ := hf it (by simp)
    exact wpAny_pyNext_range_end (I.ok.hd hc) st (by have : n ≤ i := hg; omega) fun h' eb => ⟨rfl, I.turned (t' := s.toks) (fun b o hb e => eb b o hb e) f0 f1 f3 f4 f5⟩
  self := fun _ _ _ _ _ st h => wpAny_pyIter_rangeiter st h
section
variable {X : Cx} {tg : Expr}
def iList (K : PySem.W.Frag) (tl : TE) : TI := fun σ H R => tl σ H fun x H1 => ∃ a, x = .ref a ∧ (∃ xs, SqL K H1 a xs) ∧ R (Itl K a) H1
theorem pi_list {l : Expr} {tl : TE} (hl : PE X l tl) : PI X tg l (iList X.K tl) := by
  intro pins s σ H R I h
  refine thn (hl pins s σ H _ I h) fun v s1 ⟨x, H1, I1, r1, q1⟩ => ?_
  obtain ⟨a, e, ⟨xs, hq⟩, q⟩ := q1
  subst e
  cases r1
  obtain ⟨its, rv, p, hz⟩ := I1.list hq
  refine wpAny_pyIter_list p.isList ?_
  refine ⟨s1.heap.objs.size, [s1.heap.objs.size], _, _, H1, rfl, I1.kept (t' := s1.toks) fun b o e => Heap.get?_push_of_some _ e, turn_list a _, ⟨_, Heap.get?_push_size _ rfl, rfl, rfl⟩, fun b hb => ?_, q⟩
  have e : b = s1.heap.objs.size := by simpa using hb
  subst e
  exact I1.fpOk (Nat.le_refl _) (I1.hok.fresh (Nat.le_refl _))
theorem range_it {pins : List (Addr × Obj)} {σ : St} {H : Hp} {s : Shared} {R : It → Hp → Prop} {E : Value → Shared → Prop} {lo hi : Int} {t u v : Tok} {tk : Nat} (I : Inv X pins σ H s) (h1 : -(2 ^ 62) ≤ lo) (h2 : lo < 2 ^ 62) (h3 : -(2 ^ 62) ≤ hi) (h4 : hi < 2 ^ 62)
    (q : R (Itr lo (hi - lo).toNat) H) : wpAny (model X.prog X.w) X.A (pyIter (.ref s.heap.objs.size)) (PIE X pins σ tg R) E { s with heap := s.heap.push { cls := .type "range", data := .fields #[.int lo t, .int hi u, .int 1 v] }, toks := tk } := by
  refine wpAny_pyIter_range (IsRange.new ..) (small_one h1 h2 h3 h4) ?_
  have I1 : Inv X pins σ H { s with heap := s.heap.push { cls := .type "range", data := .fields #[.int lo t, .int hi u, .int 1 v] }, toks := tk } := I.kept fun b o e => Heap.get?_push_of_some _ e
  refine ⟨(s.heap.push { cls := .type "range", data := .fields #[.int lo t, .int hi u, .int 1 v] }).objs.size, [(s.heap.push { cls := .type "range", data := .fields #[.int lo t, .int hi u, .int 1 v] }).objs.size], _, _, H, rfl,
    I1.kept (t' := tk) fun b o e => Heap.get?_push_of_some _ e, turn_range _ lo (hi - lo).toNat, ?_, fun b hb => ?_, q⟩
  · have e1 : lo + ((0 : Nat) : Int) * 1 = lo := by simp
    have e2 : (((hi - lo).toNat : Nat) : Int) - ((0 : Nat) : Int) = Builtin.Range.rangeSize lo hi 1 := by rw [rangeSize_one]; split <;> omega
    show IsRangeIter _ _ (lo + ((0 : Nat) : Int) * 1) ((((hi - lo).toNat : Nat) : Int) - ((0 : Nat) : Int)) 1
    rw [e1, e2]
    exact Heap.get?_push_size _ rfl
  · have e : b = (s.heap.push { cls := .type "range", data := .fields #[.int lo t, .int hi u, .int 1 v] }).objs.size := by simpa using hb
    subst e
    exact I1.fpOk (Nat.le_refl _) (I1.hok.fresh (Nat.le_refl _))
def iRng2 (ta : TA) : TI := fun σ H R => ta σ H fun vs H1 => ∃ i j : Int, vs = [.int i, .int j] ∧ (-(2 ^ 62) ≤ i ∧ i < 2 ^ 62 ∧ -(2 ^ 62) ≤ j ∧ j < 2 ^ 62) ∧ R (Itr i (j - i).toNat) H1
theorem pi_range2 {a b : Expr} {ta : TA} {p pos : Pos} (hg : Gl X "range") (hm : X.mg "range" = none) (ha : PA X [a, b] ta) (hs : starEach [a, b] X.env = [(false, eval a X.env), (false, eval b X.env)] := by rfl) (hs2 : starEach [b] X.env = [(false, eval b X.env)] := by rfl) :
    PI X tg (.Call (.Name "range" p) [a, b] [] pos) (iRng2 ta) := by
  intro pins s σ H R I h
  refine Call_ (ld_blt I hg hm boot_range (PyProof.Rows.callWith_type1 (thn (ha pos pins s σ H _ I h) fun us s1 ⟨vs, H1, I1, r1, q1⟩ => ?_) (by rw [hs, hs2]) (by rw [hs2]; rfl)))
  obtain ⟨i, j, e, ⟨q1, q2, q3, q4⟩, q⟩ := q1
  subst e
  cases r1 with
  | cons r rr =>
    cases rr with
    | cons r' rr =>
      cases rr
      obtain ⟨t, rfl⟩ := r
      obtain ⟨t', rfl⟩ := r'
      exact call_range_2 (range_it I1 q1 q2 q3 q4 q)
def tFor (wi : TI) (g : TG) (tb : TS) : TS := fun D σ H => wi σ H fun J H1 => ∃ W : Nat → Nat → St → Hp → Prop, (∃ m, W 0 m σ H1) ∧ ∀ i m σ H, W i m σ H →
  (J.stop i H ∧ D.nx σ H) ∨ (J.go i H ∧ ∃ N : St → Hp → Prop, (∀ σ' H', N σ' H' → ∃ m', m' < m ∧ W (i + 1) m' σ' H') ∧ ∀ x H', J.yld i H x H' → g x σ H' fun σ2 H2 => tb { D with nx := N, ct := N, bk := D.nx } σ2 H2)
def pinsAt (fp : List Addr) (h : Heap) : List (Addr × Obj) := fp.filterMap fun b => (h.get? b).map fun o => (b, o)
theorem mem_pinsAt {fp : List Addr} {h : Heap} {b : Addr} {o : Obj} (hb : b ∈ fp) (e : h.get? b = some o) : (b, o) ∈ pinsAt fp h := List.mem_filterMap.mpr ⟨b, hb, by rw [e]; rfl⟩
theorem of_pinsAt {fp : List Addr} {h : Heap} {p : Addr × Obj} (hp : p ∈ pinsAt fp h) : p.1 ∈ fp ∧ h.get? p.1 = some p.2 := by
  obtain ⟨b, hb, e⟩ := List.mem_filterMap.mp hp
  cases q : h.get? b with
  | none => rw [q] at e; cases e
  | some o =>
    rw [q] at e
    have e' : (b, o) = p := Option.some.inj e
    subst e'
    exact ⟨hb, q⟩
theorem Inv.pinned {pins : List (Addr × Obj)} {σ : St} {H : Hp} {s : Shared} {fp : List Addr} (I : Inv X pins σ H s) (hf : ∀ b ∈ fp, FpOk X pins H b) (ho : ∀ b ∈ fp, ∃ o, s.heap.get? b = some o ∧ ∀ v, o.data ≠ .cell v) : Inv X (pins ++ pinsAt fp s.heap) σ H s :=
  I.pins_of fun p hp => (List.mem_append.mp hp).elim (fun z => I.pin p (List.mem_append_right _ z)) fun z => by
    obtain ⟨hb, e⟩ := of_pinsAt z
    obtain ⟨f0, f1, f2, _⟩ := hf p.1 hb
    obtain ⟨o, e', d⟩ := ho p.1 hb
    rw [e] at e'; cases e'
    exact ⟨e, f0, f1, f2, d⟩
theorem Inv.unpinned {pins pl : List (Addr × Obj)} {σ : St} {H : Hp} {s : Shared} (I : Inv X (pins ++ pl) σ H s) : Inv X pins σ H s := I.pins_of fun p hp => I.pin p (List.mem_append_right _ (List.mem_append_left _ hp))
theorem ps_for {iter : Expr} {body : List Stmt} {wi : TI} {g : TG} {tb : TS} {pos : Pos} (hp : PassesOwn (model X.prog X.w) X.A X.env X.xe) (hc : X.calm = true) (hi : PI X tg iter wi) (hg : PG X tg g) (hb : PSs X body tb)
    (hs : ∀ x, foldedSetIterable iter X.env x = pure x := by intro _; rfl) : PS X (.For tg iter body [] pos) (tFor wi g tb) := by
  intro pins s σ H D I h
  refine wpAny_For (thn (hi pins s σ H _ I h) fun v s1 h1 => thn h1 fun itv s2 h2 => ?_) hs
  obtain ⟨it, fp, tn, J, H2, e, I2, T, st2, f2, W, ⟨m0, w0⟩, turn⟩ := h2
  subst e
  -- what stays true of the iterator's objects through the loop
  have stat : ∀ {H' : Hp}, (∀ b ∈ fp, H' b = none) → ∀ b ∈ fp, FpOk X pins H' b := fun hn b hb => ⟨hn b hb, (f2 b hb).2⟩
  refine codeAny_forLoop_any (fun n s' => ∃ i σ' H', Inv X pins σ' H' s' ∧ tn i s'.heap ∧ (∀ b ∈ fp, H' b = none) ∧ W i n σ' H') ?_ m0 ⟨0, σ, H2, I2, st2, fun b hb => (f2 b hb).1, w0⟩
  rintro n s3 ⟨i, σ3, H3, I3, st3, fr3, w3⟩
  rcases turn i n σ3 H3 w3 with ⟨stop, qn⟩ | ⟨go, N, hN, step⟩
  · refine wpAny_passesOwn hp (thn (T.done X rfl rfl rfl hc i pins s3 σ3 H3 X.xe I3 (stat fr3) st3 stop) fun r s4 ⟨hr, I4⟩ => ?_)
    subst hr
    exact wpAny_execs_nil ⟨σ3, H3, I4, qn⟩
  · refine wpAny_passesOwn hp (thn (T.item X rfl rfl rfl hc i pins s3 σ3 H3 X.xe I3 (stat fr3) st3 go) fun r s4 ⟨u, hr, h4⟩ => ?_)
    subst hr
    refine wpAny_passesOwn hp (thn h4 fun _ s5 ⟨x, H5, I5, r5, y5, st5, fr5⟩ => ?_)
    have I5' := I5.pinned (stat fr5) (T.obj _ _ st5)
    refine wpAny_passesOwn hp (thn (hg _ s5 σ3 H5 x u _ I5' r5 (step x H5 y5)) fun _ s6 ⟨σ6, H6, I6, q6⟩ => ?_)
    refine wpAny_passesOwn hp (thn (hb _ s6 σ6 H6 _ I6 q6) fun f s7 q7 => ?_)
    have again : ∀ {σ7 : St} {H7 : Hp}, Inv X (pins ++ pinsAt fp s5.heap) σ7 H7 s7 → N σ7 H7 → ∃ m, m < n ∧ ∃ i σ' H', Inv X pins σ' H' s7 ∧ tn i s7.heap ∧ (∀ b ∈ fp, H' b = none) ∧ W i m σ' H' := fun {σ7 H7} I7 n7 => by
      obtain ⟨m', hm, w7⟩ := hN σ7 H7 n7
      refine ⟨m', hm, i + 1, σ7, H7, I7.unpinned, T.keep _ _ _ st5 fun b hb o e => (I7.pin (b, o) (List.mem_append_right _ (List.mem_append_right _ (mem_pinsAt hb e)))).1, fun b hb => ?_, w7⟩
      obtain ⟨o, e, d⟩ := T.obj _ _ st5 b hb
      exact (I7.pin (b, o) (List.mem_append_right _ (List.mem_append_right _ (mem_pinsAt hb e)))).2.1
    cases f with
    | next => obtain ⟨σ7, H7, I7, n7⟩ := q7; exact again I7 n7
    | cont => obtain ⟨σ7, H7, I7, n7⟩ := q7; exact again I7 n7
    | brk => obtain ⟨σ7, H7, I7, q7⟩ := q7; exact ⟨σ7, H7, I7.unpinned, q7⟩
    | ret v => obtain ⟨x7, σ7, H7, I7, r7, q7⟩ := q7; exact ⟨x7, σ7, H7, I7.unpinned, r7, q7⟩
end
theorem for_list {K : PySem.W.Frag} {a : Addr} {xs : List V} {g : TG} {tb : TS} {D : Ends} {σ : St} {H : Hp} (Pv : Nat → St → Hp → Prop) (h0 : Pv 0 σ H) (hl : ∀ i σ H, i ≤ xs.length → Pv i σ H → SqL K H a xs)
    (hs : ∀ i x σ H, xs[i]? = some x → Pv i σ H → g x σ H fun σ2 H2 => tb { D with nx := Pv (i + 1), ct := Pv (i + 1), bk := D.nx } σ2 H2) (hd : ∀ σ H, Pv xs.length σ H → D.nx σ H) :
    ∃ W : Nat → Nat → St → Hp → Prop, (∃ m, W 0 m σ H) ∧ ∀ i m σ H, W i m σ H →
      ((Itl K a).stop i H ∧ D.nx σ H) ∨ ((Itl K a).go i H ∧ ∃ N : St → Hp → Prop, (∀ σ' H', N σ' H' → ∃ m', m' < m ∧ W (i + 1) m' σ' H') ∧ ∀ x H', (Itl K a).yld i H x H' → g x σ H' fun σ2 H2 => tb { D with nx := N, ct := N, bk := D.nx } σ2 H2) := by
  refine ⟨fun i m σ H => m = xs.length - i ∧ i ≤ xs.length ∧ Pv i σ H, ⟨xs.length, by simp, Nat.zero_le _, h0⟩, ?_⟩
  rintro i m σ H ⟨rfl, hi, p⟩
  have q := hl i σ H hi p
  by_cases hlt : i < xs.length
  · refine .inr ⟨⟨xs, xs[i], q, by simp [hlt]⟩, Pv (i + 1), fun σ' H' p' => ⟨xs.length - (i + 1), by omega, rfl, hlt, p'⟩, fun x H' y => ?_⟩
    obtain ⟨e, y⟩ := y
    subst e
    exact hs i x σ _ (y xs q) p
  · have e : i = xs.length := by omega
    subst e
    exact .inl ⟨⟨xs, q, Nat.le_refl _⟩, hd σ H p⟩
theorem for_range {lo : Int} {n : Nat} {g : TG} {tb : TS} {D : Ends} {σ : St} {H : Hp} (Pv : Nat → St → Hp → Prop) (h0 : Pv 0 σ H)
    (hs : ∀ i σ H, i < n → Pv i σ H → g (.int (lo + i)) σ H fun σ2 H2 => tb { D with nx := Pv (i + 1), ct := Pv (i + 1), bk := D.nx } σ2 H2) (hd : ∀ σ H, Pv n σ H → D.nx σ H) :
    ∃ W : Nat → Nat → St → Hp → Prop, (∃ m, W 0 m σ H) ∧ ∀ i m σ H, W i m σ H →
      ((Itr lo n).stop i H ∧ D.nx σ H) ∨ ((Itr lo n).go i H ∧ ∃ N : St → Hp → Prop, (∀ σ' H', N σ' H' → ∃ m', m' < m ∧ W (i + 1) m' σ' H') ∧ ∀ x H', (Itr lo n).yld i H x H' → g x σ H' fun σ2 H2 => tb { D with nx := N, ct := N, bk := D.nx } σ2 H2) := by
  refine ⟨fun i m σ H => m = n - i ∧ i ≤ n ∧ Pv i σ H, ⟨n, by simp, Nat.zero_le _, h0⟩, ?_⟩
  rintro i m σ H ⟨rfl, hi, p⟩
  by_cases hlt : i < n
  · refine .inr ⟨hlt, Pv (i + 1), fun σ' H' p' => ⟨n - (i + 1), by omega, rfl, hlt, p'⟩, fun x H' y => ?_⟩
    obtain ⟨e, y⟩ := y
    subst e y
    exact hs i σ _ hlt p
  · have e : i = n := by omega
    subst e
    exact .inl ⟨Nat.le_refl _, hd σ H p⟩
abbrev R2 := V → V → Hp → VK → Prop
def OpR (X : Cx) (f : Value → Value → Sem Value) (r : R2) : Prop :=
  ∀ (pins : List (Addr × Obj)) (s : Shared) (σ : St) (H : Hp) (x y : V) (v u : Value) (Q : VK), Inv X pins σ H s → RelV x v → RelV y u → r x y H Q →
    wpAny (model X.prog X.w) X.A (f v u) (EP X pins σ Q) X.xe s
def UnR (X : Cx) (f : Value → Sem Value) (r : V → Hp → VK → Prop) : Prop :=
  ∀ (pins : List (Addr × Obj)) (s : Shared) (σ : St) (H : Hp) (x : V) (v : Value) (Q : VK), Inv X pins σ H s → RelV x v → r x H Q →
    wpAny (model X.prog X.w) X.A (f v) (EP X pins σ Q) X.xe s
def CallR (X : Cx) (f : Value) (r : List V → Hp → VK → Prop) : Prop :=
  ∀ (pins : List (Addr × Obj)) (s : Shared) (σ : St) (H : Hp) (xs : List V) (us : List Value) (Q : VK), Inv X pins σ H s → Vals xs us → r xs H Q →
    wpAny (model X.prog X.w) X.A (call f us) (EP X pins σ Q) X.xe s
def tOp (r : R2) (ta tb : TE) : TE := fun σ H Q => ta σ H fun x H1 => tb σ H1 fun y H2 => r x y H2 Q
def tUn (r : V → Hp → VK → Prop) (ta : TE) : TE := fun σ H Q => ta σ H fun x H1 => r x H1 Q
def rI (C : Int → Int → Prop) (g : Int → Int → V) : R2 := fun x y H Q => ∃ i j, x = .int i ∧ y = .int j ∧ C i j ∧ Q (g i j) H
def rI0 (g : Int → Int → V) : R2 := fun x y H Q => ∃ i j, x = .int i ∧ y = .int j ∧ Q (g i j) H
def rU (g : Int → V) : V → Hp → VK → Prop := fun x H Q => ∃ i, x = .int i ∧ Q (g i) H
section
variable {X : Cx} {a b c : Expr} {ta tb tc : TE} {pos : Pos}
theorem binT (ha : PE X a ta) (hb : PE X b tb) {pins : List (Addr × Obj)} {s : Shared} {σ : St} {H : Hp} {R : V → V → Hp → Prop} (I : Inv X pins σ H s)
    (h : ta σ H fun x H1 => tb σ H1 fun y H2 => R x y H2) {Q : Value → Shared → Prop} {f : Value → Value → Sem Value}
    (hf : ∀ v u s2 x y H2, Inv X pins σ H2 s2 → RelV x v → RelV y u → R x y H2 → wpAny (model X.prog X.w) X.A (f v u) Q X.xe s2) :
    wpAny (model X.prog X.w) X.A (eval a X.env) (fun v s₁ => wpAny (model X.prog X.w) X.A (eval b X.env) (fun u s₂ => wpAny (model X.prog X.w) X.A (f v u) Q X.xe s₂) X.xe s₁) X.xe s := by
  refine thn (ha pins s σ H _ I h) fun v s1 ⟨x, H1, I1, r1, q1⟩ => ?_
  refine thn (hb pins s1 σ H1 _ I1 q1) fun u s2 ⟨y, H2, I2, r2, q2⟩ => ?_
  exact hf v u s2 x y H2 I2 r1 r2 q2
theorem pe_op {op : Operator} {r : R2} (ho : OpR X (binaryOp op) r) (ha : PE X a ta) (hb : PE X b tb) : PE X (.BinOp a op b pos) (tOp r ta tb) := by
  intro pins s σ H Q I h
  exact wpAny_BinOp (binT ha hb I h fun v u s2 x y H2 I2 rx ry q => ho pins s2 σ H2 x y v u Q I2 rx ry q)
theorem pe_un {op : UnaryOp} {r : V → Hp → VK → Prop} (ho : UnR X (unaryOp op) r) (ha : PE X a ta) : PE X (.UnaryOp op a pos) (tUn r ta) := by
  intro pins s σ H Q I h
  exact UnaryOp_ (thn (ha pins s σ H _ I h) fun v s1 ⟨x, H1, I1, r1, q1⟩ => ho pins s1 σ H1 x v Q I1 r1 q1)
theorem opI {f : Value → Value → Sem Value} {C : Int → Int → Prop} {g : Int → Int → Int}
    (rule : ∀ (i j : Int) (t u : Tok) (s : Shared) (Q : Value → Shared → Prop) (E : Value → Shared → Prop), C i j → Q (.int (g i j) s.toks) { s with toks := s.toks + 1 } → wpAny (model X.prog X.w) X.A (f (.int i t) (.int j u)) Q E s) :
    OpR X f (rI C fun i j => .int (g i j)) := by
  intro pins s σ H x y v u Q I rx ry h
  obtain ⟨i, j, rfl, rfl, hc, q⟩ := h
  obtain ⟨t, rfl⟩ := rx
  obtain ⟨t', rfl⟩ := ry
  exact rule i j t t' s _ _ hc ⟨.int (g i j), H, I.tok _, ⟨_, rfl⟩, q⟩
theorem opI0 {f : Value → Value → Sem Value} {g : Int → Int → Int}
    (rule : ∀ (i j : Int) (t u : Tok) (s : Shared) (Q : Value → Shared → Prop) (E : Value → Shared → Prop), Q (.int (g i j) s.toks) { s with toks := s.toks + 1 } → wpAny (model X.prog X.w) X.A (f (.int i t) (.int j u)) Q E s) :
    OpR X f (rI0 fun i j => .int (g i j)) := by
  intro pins s σ H x y v u Q I rx ry h
  obtain ⟨i, j, rfl, rfl, q⟩ := h
  obtain ⟨t, rfl⟩ := rx
  obtain ⟨t', rfl⟩ := ry
  exact rule i j t t' s _ _ ⟨.int (g i j), H, I.tok _, ⟨_, rfl⟩, q⟩
theorem opB0 {f : Value → Value → Sem Value} {g : Int → Int → Bool}
    (rule : ∀ (i j : Int) (t u : Tok) (s : Shared) (Q : Value → Shared → Prop) (E : Value → Shared → Prop), Q (.bool (g i j)) s → wpAny (model X.prog X.w) X.A (f (.int i t) (.int j u)) Q E s) :
    OpR X f (rI0 fun i j => .bl (g i j)) := by
  intro pins s σ H x y v u Q I rx ry h
  obtain ⟨i, j, rfl, rfl, q⟩ := h
  obtain ⟨t, rfl⟩ := rx
  obtain ⟨t', rfl⟩ := ry
  exact rule i j t t' s _ _ ⟨.bl (g i j), H, I, rfl, q⟩
def CDiv (i j : Int) : Prop := 0 < j ∧ j < 1073741824
def CMul (i j : Int) : Prop := (-(2 ^ 64) < i ∧ i < 2 ^ 64) ∨ (-(2 ^ 64) < j ∧ j < 2 ^ 64)
theorem CMul.ok {i j : Int} (h : CMul i j) : IntMulOk i j := by
  rcases h with ⟨h1, h2⟩ | ⟨h1, h2⟩
  · exact .of_left (intBits_le_64 h1 h2)
  · exact .of_right (intBits_le_64 h1 h2)
theorem op_add : OpR X (binaryOp .Add) (rI0 fun i j => .int (i + j)) := opI0 fun _ _ _ _ _ _ _ q => add_int q
theorem op_sub : OpR X (binaryOp .Sub) (rI0 fun i j => .int (i - j)) := opI0 fun _ _ _ _ _ _ _ q => sub_int q
theorem op_mul : OpR X (binaryOp .Mult) (rI CMul fun i j => .int (i * j)) := opI fun _ _ _ _ _ _ _ hc q => mul_int q hc.ok
theorem op_fdiv : OpR X (binaryOp .FloorDiv) (rI CDiv fun i j => .int (i / j)) := opI fun i j _ _ _ _ _ hc q => by
  have h1 : (0 : Int) < j := hc.1
  have h2 : j < 1073741824 := hc.2
  exact floordiv_int (by omega) (by rw [Int.fdiv_eq_ediv_of_nonneg i (by omega)]; exact q) (.inl (PyProof.noPylong_small (by omega)))
theorem op_mod : OpR X (binaryOp .Mod) (rI (fun _ j => 0 < j) fun i j => .int (i % j)) := opI fun i j _ _ _ _ _ hc q => by
  have h1 : (0 : Int) < j := hc
  exact mod_int' (by omega) (by rw [Int.fmod_eq_emod_of_nonneg i (by omega)]; exact q)
theorem unI {f : Value → Sem Value} {g : Int → Int}
    (rule : ∀ (i : Int) (t : Tok) (s : Shared) (Q : Value → Shared → Prop) (E : Value → Shared → Prop), Q (.int (g i) s.toks) { s with toks := s.toks + 1 } → wpAny (model X.prog X.w) X.A (f (.int i t)) Q E s) :
    UnR X f (rU fun i => .int (g i)) := by
  intro pins s σ H x v Q I rx h
  obtain ⟨i, rfl, q⟩ := h
  obtain ⟨t, rfl⟩ := rx
  exact rule i t s _ _ ⟨.int (g i), H, I.tok _, ⟨_, rfl⟩, q⟩
theorem un_neg : UnR X (unaryOp .USub) (rU fun i => .int (-i)) := unI fun _ _ _ _ _ q => neg_int q
end
def scal : V → V → Bool
  | .non, .non => true | .non, .int _ => true | .int _, .non => true | .non, .bl _ => true | .bl _, .non => true | .non, .str _ => true | .str _, .non => true
  | .int _, .int _ => true | .bl _, .bl _ => true | .str _, .str _ => true | .byt _, .byt _ => true
  | .int _, .str _ => true | .str _, .int _ => true | .bl _, .str _ => true | .str _, .bl _ => true
  | _, _ => false
def rEq : R2 := fun x y H Q => scal x y = true ∧ Q (.bl (decide (x = y))) H
def rNe : R2 := fun x y H Q => scal x y = true ∧ Q (.bl (!decide (x = y))) H
theorem dec_int {i j : Int} : decide (V.int i = V.int j) = (i == j) := by
  rw [Bool.eq_iff_iff]
  simp
theorem dec_bl {i j : Bool} : decide (V.bl i = V.bl j) = (i == j) := by
  rw [Bool.eq_iff_iff]
  simp
theorem dec_str {i j : Str} : decide (V.str i = V.str j) = (i == j) := by
  rw [Bool.eq_iff_iff]
  simp
theorem dec_byt {i j : Array UInt8} : decide (V.byt i = V.byt j) = (i.toList == j.toList) := by
  rw [Bool.eq_iff_iff]
  cases i
  cases j
  simp
section
variable {X : Cx} {a b c : Expr} {ta tb tc : TE} {pos : Pos}
theorem fin_bl {pins : List (Addr × Obj)} {σ : St} {H : Hp} {s : Shared} {Q : VK} {k k' : Bool} (I : Inv X pins σ H s) (q : Q (.bl k) H) (e : k = k') : EP X pins σ Q (.bool k') s := by
  subst e
  exact ⟨.bl k, H, I, rfl, q⟩
theorem op_eq : OpR X (compareOp .Eq) rEq := by
  intro pins s σ H x y v u Q I rx ry h
  obtain ⟨hs, q⟩ := h
  cases x with
  | non =>
    cases rx
    cases y with
    | non => cases ry; exact PySem.EqNone.eq_none_none (fin_bl I q (by simp))
    | bl j => cases ry; exact PySem.EqNone.eq_none_bool (fin_bl I q (by simp))
    | int j => obtain ⟨t', rfl⟩ := ry; exact PySem.EqNone.eq_none_int (fin_bl I q (by simp))
    | str j => obtain ⟨t', rfl⟩ := ry; exact PySem.EqNone.eq_none_str (fin_bl I q (by simp))
    | _ => exact absurd (show false = true from hs) Bool.false_ne_true
  | bl i =>
    cases rx
    cases y with
    | non => cases ry; exact PySem.EqNone.eq_bool_none (fin_bl I q (by simp))
    | bl j => cases ry; exact eq_bool (fin_bl I q dec_bl)
    | str j => obtain ⟨t', rfl⟩ := ry; exact PySem.EqMixed.eq_bool_str (fin_bl I q (by simp))
    | _ => exact absurd (show false = true from hs) Bool.false_ne_true
  | int i =>
    obtain ⟨t, rfl⟩ := rx
    cases y with
    | non => cases ry; exact PySem.EqNone.eq_int_none (fin_bl I q (by simp))
    | int j => obtain ⟨t', rfl⟩ := ry; exact eq_int (fin_bl I q dec_int)
    | str j => obtain ⟨t', rfl⟩ := ry; exact PySem.EqMixed.eq_int_str (fin_bl I q (by simp))
    | _ => exact absurd (show false = true from hs) Bool.false_ne_true
  | str i =>
    obtain ⟨t, rfl⟩ := rx
    cases y with
    | non => cases ry; exact PySem.EqNone.eq_str_none (fin_bl I q (by simp))
    | bl j => cases ry; exact PySem.EqMixed.eq_str_bool (fin_bl I q (by simp))
    | int j => obtain ⟨t', rfl⟩ := ry; exact PySem.EqMixed.eq_str_int (fin_bl I q (by simp))
    | str j => obtain ⟨t', rfl⟩ := ry; exact eq_str (fin_bl I q dec_str)
    | _ => exact absurd (show false = true from hs) Bool.false_ne_true
  | byt i =>
    obtain ⟨t, rfl⟩ := rx
    cases y with
    | byt j => obtain ⟨t', rfl⟩ := ry; exact PySem.W.eq_bytes (fin_bl I q dec_byt)
    | _ => exact absurd (show false = true from hs) Bool.false_ne_true
  | _ => cases y <;> exact absurd (show false = true from hs) Bool.false_ne_true
theorem op_ne : OpR X (compareOp .NotEq) rNe := by
  intro pins s σ H x y v u Q I rx ry h
  obtain ⟨hs, q⟩ := h
  cases x with
  | non =>
    cases rx
    cases y with
    | non => cases ry; exact PySem.EqNone.ne_none_none (fin_bl I q (by simp))
    | bl j => cases ry; exact PySem.EqNone.ne_none_bool (fin_bl I q (by simp))
    | int j => obtain ⟨t', rfl⟩ := ry; exact PySem.EqNone.ne_none_int (fin_bl I q (by simp))
    | str j => obtain ⟨t', rfl⟩ := ry; exact PySem.EqNone.ne_none_str (fin_bl I q (by simp))
    | _ => exact absurd (show false = true from hs) Bool.false_ne_true
  | bl i =>
    cases rx
    cases y with
    | non => cases ry; exact PySem.EqNone.ne_bool_none (fin_bl I q (by simp))
    | bl j => cases ry; exact ne_bool (fin_bl I q (congrArg not dec_bl))
    | str j => obtain ⟨t', rfl⟩ := ry; exact PySem.EqMixed.ne_bool_str (fin_bl I q (by simp))
    | _ => exact absurd (show false = true from hs) Bool.false_ne_true
  | int i =>
    obtain ⟨t, rfl⟩ := rx
    cases y with
    | non => cases ry; exact PySem.EqNone.ne_int_none (fin_bl I q (by simp))
    | int j => obtain ⟨t', rfl⟩ := ry; exact ne_int (fin_bl I q (congrArg not dec_int))
    | str j => obtain ⟨t', rfl⟩ := ry; exact PySem.EqMixed.ne_int_str (fin_bl I q (by simp))
    | _ => exact absurd (show false = true from hs) Bool.false_ne_true
  | str i =>
    obtain ⟨t, rfl⟩ := rx
    cases y with
    | non => cases ry; exact PySem.EqNone.ne_str_none (fin_bl I q (by simp))
    | bl j => cases ry; exact PySem.EqMixed.ne_str_bool (fin_bl I q (by simp))
    | int j => obtain ⟨t', rfl⟩ := ry; exact PySem.EqMixed.ne_str_int (fin_bl I q (by simp))
    | str j => obtain ⟨t', rfl⟩ := ry; exact ne_str (fin_bl I q (congrArg not dec_str))
    | _ => exact absurd (show false = true from hs) Bool.false_ne_true
  | byt i =>
    obtain ⟨t, rfl⟩ := rx
    cases y with
    | byt j => obtain ⟨t', rfl⟩ := ry; exact PySem.W.ne_bytes (fin_bl I q (congrArg not dec_byt))
    | _ => exact absurd (show false = true from hs) Bool.false_ne_true
  | _ => cases y <;> exact absurd (show false = true from hs) Bool.false_ne_true
theorem op_lt : OpR X (compareOp .Lt) (rI0 fun i j => .bl (decide (i < j))) := opB0 fun _ _ _ _ _ _ _ q => lt_int q
theorem op_le : OpR X (compareOp .LtE) (rI0 fun i j => .bl (decide (i ≤ j))) := opB0 fun _ _ _ _ _ _ _ q => le_int q
theorem op_gt : OpR X (compareOp .Gt) (rI0 fun i j => .bl (decide (j < i))) := opB0 fun _ _ _ _ _ _ _ q => gt_int q
theorem op_ge : OpR X (compareOp .GtE) (rI0 fun i j => .bl (decide (j ≤ i))) := opB0 fun _ _ _ _ _ _ _ q => ge_int q
theorem nomark (b : Expr) {op : CmpOp} (h : op ≠ .In := by decide) (h2 : op ≠ .NotIn := by decide) : behindInMarks op b = false := by
  have e1 : (op == CmpOp.In) = false := by cases op <;> first | rfl | exact absurd rfl h
  have e2 : (op == CmpOp.NotIn) = false := by cases op <;> first | rfl | exact absurd rfl h2
  cases b <;> simp [behindInMarks, e1, e2]
theorem pe_cmpR {op : CmpOp} {r : R2} (ho : OpR X (compareOp op) r) (ha : PE X a ta) (hb : PE X b tb) (hm : behindInMarks op b = false) : PE X (.Compare a [op] [b] pos) (tOp r ta tb) := by
  intro pins s σ H Q I h
  exact wpAny_Compare1 (binT ha hb I h fun v u s2 x y H2 I2 rx ry q => ho pins s2 σ H2 x y v u Q I2 rx ry q) hm
def tTest (t : TE) : TT := fun σ H Q => t σ H fun x H' => ∃ k, x = .bl k ∧ Q k H'
theorem pt_cmpR {op : CmpOp} {r : R2} (ho : OpR X (compareOp op) r) (ha : PE X a ta) (hb : PE X b tb) (hm : behindInMarks op b = false) : PT X (.Compare a [op] [b] pos) (tTest (tOp r ta tb)) := by
  intro pins s σ H Q I h
  refine wpAny_isTrue_Compare1 (thn (ha pins s σ H _ I h) fun v s1 ⟨x, H1, I1, r1, q1⟩ => thn (hb pins s1 σ H1 _ I1 q1) fun u s2 ⟨y, H2, I2, r2, q2⟩ =>
    thn (ho pins s2 σ H2 x y v u _ I2 r1 r2 q2) fun c s3 ⟨z, H3, I3, r3, k, e, q3⟩ => ?_) hm
  subst e
  cases r3
  exact wpAny_truthy_bool ⟨H3, I3, q3⟩
theorem line63 : (sizeLine : Nat) < 2 ^ 63 := by rw [sizeLine_eq]; decide
theorem vals1 {x : V} {us : List Value} (r : Vals [x] us) : ∃ u, us = [u] ∧ RelV x u := by
  cases r with
  | cons r1 r2 => cases r2; exact ⟨_, rfl, r1⟩
theorem vals2 {x y : V} {us : List Value} (r : Vals [x, y] us) : ∃ u w', us = [u, w'] ∧ RelV x u ∧ RelV y w' := by
  cases r with
  | cons r1 r2 =>
    cases r2 with
    | cons r3 r4 => cases r4; exact ⟨_, _, rfl, r1, r3⟩
theorem call_max2 (hc : X.calm = true) : CallR X (.builtin "max") (fun xs H Q => ∃ i j, xs = [.int i, .int j] ∧ Q (.int (if j > i then j else i)) H) := by
  intro pins s σ H xs us Q I r h
  obtain ⟨i, j, rfl, q⟩ := h
  obtain ⟨u, w', rfl, ⟨t, rfl⟩, ⟨t', rfl⟩⟩ := vals2 r
  refine max_two_ints (I.ok.hd hc) fun h' tk k => ⟨_, H, I.kept k, ?_, q⟩
  by_cases hj : j > i
  · rw [if_pos hj, if_pos hj]; exact ⟨_, rfl⟩
  · rw [if_neg hj, if_neg hj]; exact ⟨_, rfl⟩
theorem call_min2 (hc : X.calm = true) : CallR X (.builtin "min") (fun xs H Q => ∃ i j, xs = [.int i, .int j] ∧ Q (.int (if j < i then j else i)) H) := by
  intro pins s σ H xs us Q I r h
  obtain ⟨i, j, rfl, q⟩ := h
  obtain ⟨u, w', rfl, ⟨t, rfl⟩, ⟨t', rfl⟩⟩ := vals2 r
  refine min_two_ints (I.ok.hd hc) fun h' tk k => ⟨_, H, I.kept k, ?_, q⟩
  by_cases hj : j < i
  · rw [if_pos hj, if_pos hj]; exact ⟨_, rfl⟩
  · rw [if_neg hj, if_neg hj]; exact ⟨_, rfl⟩
end
structure ObjM (h : Heap) (x dx C : Addr) (mA : Str → Option Value) : Prop where
  obj : h.get? x = some (PySem.W.instObj C dx)
  ns : h.Ns1 dx mA
  ne : dx ≠ x
theorem lookIn_ns {h : Heap} {dx : Addr} {mA : Str → Option Value} (n : h.Ns1 dx mA) : ∃ od, h.get? dx = some od ∧ ∀ name, PySem.W.lookIn name od = some (mA name) := by
  obtain ⟨o, es, ep, ho, hd, hk, _, hm⟩ := n
  refine ⟨o, ho, fun name => ?_⟩
  have e := hm name
  unfold nsFind findBy at e
  rw [← Array.find?_toList] at e
  unfold PySem.W.lookIn
  rw [hd]
  dsimp only
  split
  · rename_i y q
    rw [q] at e
    exact congrArg some e
  · rename_i q
    rw [q] at e
    have a : es.toList.any (·.refKey) = false := by
      rw [List.any_eq_false]
      intro y hy
      obtain ⟨z, t, hkey⟩ := hk y (Array.mem_toList_iff.mp hy)
      simp [DictEntry.refKey, hkey]
    have a' : ¬ es.toList.any (·.refKey) = true := by rw [a]; exact Bool.false_ne_true
    rw [if_neg a']
    exact congrArg some e
theorem ObjM.look {h : Heap} {x dx C : Addr} {mA : Str → Option Value} (I : ObjM h x dx C mA) : ∃ od, PySem.W.InstAt h x (PySem.W.instObj C dx) C (some od) ∧ ∀ name, PySem.W.lookIn name od = some (mA name) :=
  let ⟨od, ho, hl⟩ := lookIn_ns I.ns
  ⟨od, ⟨I.obj, rfl, rfl, ho⟩, hl⟩
section
variable {prog : Program} {w : World} {A : Around} {E : Value → Shared → Prop} {s : Shared} {K : PySem.W.Frag} {x dx C f : Addr} {mA : Str → Option Value} {name : Str} {v : Value}
theorem get_map {expr : Bool} {Q : Value → Shared → Prop} (X : K.In s.heap) (I : ObjM s.heap x dx C mA) (hg : PySem.W.plainGet K C name = true) (hh : PySem.W.hasDictIn K C = true)
    (ha : PySem.W.findIn K (.ref C) name = some none) (hv : mA name = some v) (hv' : PySem.W.handedIn v = true) (h : Q v { s with toks := s.toks + 1 }) :
    wpAny (model prog w) A (getAttr (.ref x) name expr) Q E s := by
  obtain ⟨od, J, hl⟩ := I.look
  exact PySem.W.get_value X J (PySem.W.plainGet_of hg).1 (PySem.W.findObj_own hh ha rfl (by rw [hl, hv])) hv' h
theorem set_map {ns : List Str} {Q : Unit → Shared → Prop} (X : K.In s.heap) (I : ObjM s.heap x dx C mA)
    (hs : PySem.W.findIn K (.ref C) "__setattr__" = some (some (.builtin "object.__setattr__"))) (hp : PySem.W.plainOver K C = true) (ht : PySem.W.takerIn K C name = some none) (hh : PySem.W.hasDictIn K C = true)
    (hw : PySem.Within mA ns) (hsz : ns.length ≤ sizeLine)
    (h : ∀ h', ObjM h' x dx C (fun y => if y = name then some v else mA y) → Heap.SameBut dx s.heap h' → Q () { s with heap := h', toks := s.toks + 2 }) :
    wpAny (model prog w) A (setAttr (.ref x) name v) Q E s := by
  obtain ⟨od, J, hl⟩ := I.look
  refine PySem.W.set_plain X J hs (PySem.W.osa_open (s := { s with toks := s.toks + 1 }) (r := none) X J hp ht fun b => ?_)
  obtain ⟨cd, hc, hd'⟩ := PySem.W.any_some hh
  have hx : s.heap.get? x = some ⟨.ref C, some dx, .plain, #[]⟩ := I.obj
  refine wpAny_bind (wpAny_pure (wpAny_bind (wpAny_bind (wpAny_loadPart hx (wpAny_bind (PySem.W.Looks.here (s := { s with toks := s.toks + 1 }) (PySem.W.looks_clsIn X hc) ?_))))))
  rw [hd']
  refine wpAny_pure (a := some dx) (wpAny_bind (wpAny_pure (wpAny_bind ?_)))
  refine wpAny_nsSet1 (s := { s with toks := s.toks + 1 }) I.ns fun h' hn2 hs2 => ?_
  obtain ⟨oD, esD, epD, hoD, hdD, hcD⟩ := hn2.count (PySem.Within.cons name v hw)
  refine wpAny_bind (wpAny_lookBehind hoD (by rw [hdD]; exact pastItsLine_dict (Nat.le_trans hcD (by rw [List.length_cons]; omega))) ?_)
  exact wpAny_pure (h _ ⟨(hs2.2 _ (Ne.symm I.ne)).trans I.obj, hn2, I.ne⟩ hs2)
theorem make_map {R : Result → Shared → Prop} {vs : List Value} {kw : List (Str × Value)} (X : K.In s.heap) (hm : PySem.W.makesIn K C = true)
    (hi : PySem.W.findIn K (.ref C) "__init__" = some (some (.ref f))) (hf : PySem.W.typeIn K (.ref f) = some (.type "function"))
    (h : codeAny (model prog w) (A.under (.builtin "type.__call__" ⟨.ref C :: vs, kw⟩)) (.call (.ref f) ⟨.ref (s.heap.objs.size + 1) :: vs, kw⟩) (PySem.W.InitBack (s.heap.objs.size + 1) R)
      { s with heap := (s.heap.push PySem.W.emptyDict).push (PySem.W.instObj C s.heap.objs.size) }) :
    codeAny (model prog w) A (.call (.ref C) ⟨vs, kw⟩) R s := by
  obtain ⟨hh, g, d, t, os⟩ := s
  exact PySem.W.make_core (PySem.W.makes_of X hm) (PySem.W.looks_findIn X hi) (fun self => PySem.W.bind_fn X self hf) (.inl rfl) h
end
def putF (f : Str) (v : V) : List (Str × V) → List (Str × V)
  | [] => [(f, v)]
  | (g, x) :: r => if g = f then (g, v) :: r else (g, x) :: putF f v r
theorem lookup_putF (f g : Str) (v : V) : ∀ fs : List (Str × V), (putF f v fs).lookup g = if g = f then some v else fs.lookup g
  | [] => by
    show List.lookup g [(f, v)] = _
    by_cases h : g = f
    · have hb : (g == f) = true := beq_iff_eq.mpr h
      simp only [List.lookup, hb, if_pos h]
    · have hb : (g == f) = false := beq_eq_false_iff_ne.mpr h
      simp only [List.lookup, hb, if_neg h]
  | (k, x) :: r => by
    have ih := lookup_putF f g v r
    rw [show putF f v ((k, x) :: r) = (if k = f then (k, v) :: r else (k, x) :: putF f v r) from rfl]
    by_cases hk : k = f
    · rw [if_pos hk]
      by_cases h : g = k
      · have hb : (g == k) = true := beq_iff_eq.mpr h
        simp only [List.lookup, hb, if_pos (h.trans hk)]
      · have hb : (g == k) = false := beq_eq_false_iff_ne.mpr h
        simp only [List.lookup, hb, if_neg (fun e : g = f => h (e.trans hk.symm))]
    · rw [if_neg hk]
      by_cases h : g = k
      · have hb : (g == k) = true := beq_iff_eq.mpr h
        simp only [List.lookup, hb, if_neg (fun e : g = f => hk (h.symm.trans e))]
      · have hb : (g == k) = false := beq_eq_false_iff_ne.mpr h
        simp only [List.lookup, hb]
        exact ih
theorem keys_putF (f : Str) (v : V) : ∀ fs : List (Str × V), f ∈ (putF f v fs).map (·.1) ∧ ∀ g, g ∈ fs.map (·.1) → g ∈ (putF f v fs).map (·.1)
  | [] => ⟨by simp [putF], fun g h => by simp at h⟩
  | (k, x) :: r => by
    obtain ⟨i1, i2⟩ := keys_putF f v r
    rw [show putF f v ((k, x) :: r) = (if k = f then (k, v) :: r else (k, x) :: putF f v r) from rfl]
    by_cases hk : k = f
    · rw [if_pos hk]
      subst hk
      exact ⟨by simp, fun g h => by simpa using h⟩
    · rw [if_neg hk]
      refine ⟨?_, fun g h => ?_⟩
      · rw [List.map_cons]
        exact List.mem_cons_of_mem _ i1
      · rw [List.map_cons] at h ⊢
        rcases List.mem_cons.mp h with e | e
        · exact List.mem_cons.mpr (.inl e)
        · exact List.mem_cons_of_mem _ (i2 g e)
theorem length_putF (f : Str) (v : V) : ∀ fs : List (Str × V), (putF f v fs).length ≤ fs.length + 1
  | [] => by simp [putF]
  | (k, x) :: r => by
    have ih := length_putF f v r
    rw [show putF f v ((k, x) :: r) = (if k = f then (k, v) :: r else (k, x) :: putF f v r) from rfl]
    by_cases hk : k = f
    · rw [if_pos hk, List.length_cons, List.length_cons]; omega
    · rw [if_neg hk, List.length_cons, List.length_cons]; omega
theorem RelO.some_of {v : V} {o : Option Value} (r : RelO (some v) o) : ∃ u, o = some u ∧ RelV v u := by
  cases o with
  | none => exact (show False from r).elim
  | some u => exact ⟨u, rfl, r⟩
theorem handed_of {v : V} {u : Value} (r : RelV v u) : PySem.W.handedIn u = true := by
  cases v with
  | non => cases (show u = Value.none from r); rfl
  | bl b => cases (show u = Value.bool b from r); rfl
  | int i => obtain ⟨t, e⟩ := (show ∃ t, u = Value.int i t from r); cases e; rfl
  | str x => obtain ⟨t, e⟩ := (show ∃ t, u = Value.str x t from r); cases e; rfl
  | byt b => obtain ⟨t, e⟩ := (show ∃ t, u = Value.bytes b t from r); cases e; rfl
  | flt b => obtain ⟨t, e⟩ := (show ∃ t, u = Value.float b t from r); cases e; rfl
  | ref a => cases (show u = Value.ref a from r); rfl
  | ty n => cases (show u = Value.type n from r); rfl
section
variable {P : Program} {w : World} {H H' : Hp} {h h' : Heap} {a C dx : Addr} {fs fs' : List (Str × V)}
theorem ins_get (hok : HOk P w H h) (e : H a = some (.ins C dx fs)) : ∃ mA, ObjM h a dx C mA ∧ (∀ f, RelO (fs.lookup f) (mA f)) ∧ PySem.Within mA (fs.map (·.1)) ∧ fs.length ≤ 1000 ∧ H dx = some (.own a) := by
  obtain ⟨d, z, ne, ob, mA, n, r, q⟩ := (show ObjOk P w H h a (.ins C dx fs) from hok a _ e)
  exact ⟨mA, ⟨ob, n, ne⟩, r, q, z, d⟩
end
structure Cls (K : PySem.W.Frag) (C : Addr) : Prop where
  pg : PySem.W.plainGet K C Str.empty = true
  hd : PySem.W.hasDictIn K C = true
  po : PySem.W.plainOver K C = true
  sa : PySem.W.findIn K (.ref C) "__setattr__" = some (some (.builtin "object.__setattr__"))
theorem Cls.get {K : PySem.W.Frag} {C : Addr} (c : Cls K C) (f : Str) : PySem.W.plainGet K C f = true := c.pg
def NoAttr (K : PySem.W.Frag) (C : Addr) (f : Str) : Prop := PySem.W.findIn K (.ref C) f = some none
theorem NoAttr.taker {K : PySem.W.Frag} {C : Addr} {f : Str} (n : NoAttr K C f) : PySem.W.takerIn K C f = some none := by
  unfold PySem.W.takerIn
  rw [show PySem.W.findIn K (.ref C) f = some none from n]
  rfl
section
variable {X : Cx} {pins : List (Addr × Obj)} {σ : St} {H : Hp} {s : Shared} {a C dx : Addr} {fs : List (Str × V)} {f : Str} {v : V} {A : Around} {E : Value → Shared → Prop}
theorem getattr_ok {b : Bool} {Q : Value → Shared → Prop} (I : Inv X pins σ H s) (e : H a = some (.ins C dx fs)) (c : Cls X.K C) (n : NoAttr X.K C f) (l : fs.lookup f = some v)
    (h : ∀ u s', Inv X pins σ H s' → RelV v u → Q u s') : wpAny (model X.prog X.w) A (getAttr (.ref a) f b) Q E s := by
  obtain ⟨mA, O, r, _, _, _⟩ := ins_get I.hok e
  obtain ⟨u, hu, ru⟩ := RelO.some_of (v := v) (o := mA f) (by rw [← l]; exact r f)
  exact get_map I.kIn O (c.get f) c.hd n hu (handed_of ru) (h u _ (I.tok _) ru)
theorem setattr_ok {y : V} {u : Value} {Q : Unit → Shared → Prop} (I : Inv X pins σ H s) (e : H a = some (.ins C dx fs)) (c : Cls X.K C) (n : NoAttr X.K C f) (hl : fs.length < 1000) (ry : RelV y u)
    (h : ∀ s', Inv X pins σ (upd H a (.ins C dx (putF f y fs))) s' → Q () s') : wpAny (model X.prog X.w) A (setAttr (.ref a) f u) Q E s := by
  obtain ⟨mA, O, r, wi, _, ho⟩ := ins_get I.hok e
  have hz : (fs.map (·.1)).length ≤ sizeLine := by rw [List.length_map, sizeLine_eq]; omega
  refine set_map I.kIn O c.sa c.po n.taker c.hd wi hz fun h' O' sb => h _ ?_
  have hd : ∃ o, h'.get? dx = some o := let ⟨o, _, _, e', _⟩ := O'.ns; ⟨o, e'⟩
  refine I.write (x := a) (e := dx) (by rw [e]; exact True.intro) (.inr ho) (fun b q hb z => (sb.2 b hb).trans z) hd ?_
  refine ⟨by rw [upd_ne O.ne]; exact ho, ?_, O.ne, O'.obj, _, O'.ns, fun g => ?_, fun g hg => ?_⟩
  · have := length_putF f y fs; omega
  · show RelO ((putF f y fs).lookup g) (if g = f then some u else mA g)
    rw [lookup_putF]
    by_cases q : g = f
    · rw [if_pos q, if_pos q]; exact ry
    · rw [if_neg q, if_neg q]; exact r g
  · by_cases q : g = f
    · rw [q]; exact (keys_putF f y fs).1
    · refine (keys_putF f y fs).2 g (wi g fun z => hg ?_)
      show (if g = f then some u else mA g) = none
      rw [if_neg q]; exact z
theorem Inv.made (I : Inv X pins σ H s) : Inv X pins σ (upd (upd H s.heap.objs.size (.own (s.heap.objs.size + 1))) (s.heap.objs.size + 1) (.ins C s.heap.objs.size []))
    { s with heap := (s.heap.push PySem.W.emptyDict).push (PySem.W.instObj C s.heap.objs.size) } := by
  have e1 : (s.heap.push PySem.W.emptyDict).get? s.heap.objs.size = some PySem.W.emptyDict := Heap.get?_push_size s.heap rfl
  have e2 : ((s.heap.push PySem.W.emptyDict).push (PySem.W.instObj C s.heap.objs.size)).get? (s.heap.objs.size + 1) = some (PySem.W.instObj C s.heap.objs.size) := by
    have := Heap.get?_push_size (s.heap.push PySem.W.emptyDict) (o := PySem.W.instObj C s.heap.objs.size) rfl
    rwa [Heap.size_push] at this
  have e3 : (s.heap.push PySem.W.emptyDict).Ns s.heap.objs.size (fun _ => none) := ⟨PySem.W.emptyDict, #[], _, e1, rfl, (fun e he => absurd he (by simp)), fun _ => rfl⟩
  have I1 := I.laid (a := s.heap.objs.size) (o := .own (s.heap.objs.size + 1)) (h' := s.heap.push PySem.W.emptyDict) (t' := s.toks) (fun b u q => Heap.get?_push_of_some _ q) (Nat.le_refl _) ⟨_, e1⟩
  refine I1.laid (a := s.heap.objs.size + 1) (o := .ins C s.heap.objs.size []) (t' := s.toks) (fun b u q => Heap.get?_push_of_some _ q) (Nat.le_of_eq (Heap.size_push _ _)) ?_
  have ne : s.heap.objs.size ≠ s.heap.objs.size + 1 := Nat.ne_of_lt (Nat.lt_succ_self _)
  refine ⟨by rw [upd_ne ne, upd_same], Nat.zero_le _, ne, e2, fun _ => none, (Heap.Ns1.of_empty e3).at fun o q => Heap.get?_push_of_some _ q, fun _ => True.intro, fun y hy => absurd rfl hy⟩
theorem attr_of {prog : Program} {w : World} {env : Env} {e : Expr} {f : Str} {pos : Pos} {s : Shared} {Q : Value → Shared → Prop} (hb : attributeBase e f env (eval e env) = eval e env)
    (h : wpAny (model prog w) A (eval e env) (fun o s₁ => wpAny (model prog w) A (getAttr o f true) Q E s₁) E s) : wpAny (model prog w) A (eval (.Attribute e f pos) env) Q E s :=
  Attribute_any_ h (by rw [arm_eval_Attribute, hb])
end
def tFld (K : PySem.W.Frag) (ta : TE) (f : Str) : TE := fun σ H Q => ta σ H fun x H1 => ∃ a C dx fs v, x = .ref a ∧ H1 a = some (.ins C dx fs) ∧ Cls K C ∧ NoAttr K C f ∧ fs.lookup f = some v ∧ Q v H1
def sFld (K : PySem.W.Frag) (ta tv : TE) (f : Str) : TS := fun D σ H => tv σ H fun y H1 => ta σ H1 fun x H2 => ∃ a C dx fs, x = .ref a ∧ H2 a = some (.ins C dx fs) ∧ Cls K C ∧ NoAttr K C f ∧ fs.length < 1000 ∧
  D.nx σ (upd H2 a (.ins C dx (putF f y fs)))
def InOp (X : Cx) (op : Operator) (rd : V → V → Hp → VK → Prop) : Prop :=
  ∀ (pins : List (Addr × Obj)) (s : Shared) (σ : St) (H : Hp) (x y : V) (u v : Value) (Q : VK), Inv X pins σ H s → RelV x u → RelV y v → rd x y H Q → wpAny (model X.prog X.w) X.A (inplaceOp op u v) (EP X pins σ Q) X.xe s
def sFldAug (K : PySem.W.Frag) (ta tv : TE) (rd : V → V → Hp → VK → Prop) (f : Str) : TS := fun D σ H => ta σ H fun x H1 => ∃ a C dx fs v, x = .ref a ∧ H1 a = some (.ins C dx fs) ∧ Cls K C ∧ NoAttr K C f ∧ fs.lookup f = some v ∧
  tv σ H1 fun y H2 => rd v y H2 fun z H3 => ∃ dx' fs', H3 a = some (.ins C dx' fs') ∧ fs'.length < 1000 ∧ D.nx σ (upd H3 a (.ins C dx' (putF f z fs')))
section
variable {X : Cx} {o e value : Expr} {f : Str} {pos pos' tpos : Pos} {ta tv : TE}
theorem pe_fld (he : PE X e ta) (hb : attributeBase e f X.env (eval e X.env) = eval e X.env) : PE X (.Attribute e f pos) (tFld X.K ta f) := by
  intro pins s σ H Q I h
  refine attr_of hb (thn (he pins s σ H _ I h) fun u s1 ⟨x, H1, I1, rx, a, C, dx, fs, v, ex, ea, c, n, l, q⟩ => ?_)
  subst ex
  obtain rfl : u = Value.ref a := rx
  exact getattr_ok I1 ea c n l fun u' s2 I2 ru => ⟨v, H1, I2, ru, q⟩
theorem ps_fld (ha : PE X o ta) (hv : PE X value tv) (hs : swapsWith value (some (.Attribute o f pos')) pos.line X.env = pure false) : PS X (.Assign [.Attribute o f pos'] value pos) (sFld X.K ta tv f) := by
  intro pins s σ H D I h
  refine plainObj_wpAny_Assign_Attribute (thn (hv pins s σ H _ I h) fun u s1 ⟨y, H1, I1, ry, q⟩ => thn (ha pins s1 σ H1 _ I1 q) fun ov s2 ⟨x, H2, I2, rx, a, C, dx, fs, ex, ea, c, n, l, q2⟩ => ?_) hs
  subst ex
  obtain rfl : ov = Value.ref a := rx
  exact setattr_ok I2 ea c n l ry fun s3 I3 => ⟨σ, _, I3, q2⟩
theorem ps_fldaug {op : Operator} {rd : V → V → Hp → VK → Prop} (ha : PE X o ta) (hv : PE X value tv) (hop : InOp X op rd) : PS X (.AugAssign (.Attribute o f tpos) op value pos) (sFldAug X.K ta tv rd f) := by
  intro pins s σ H D I h
  refine wpAny_AugAssign_AttributeAny (thn (ha pins s σ H _ I h) fun ov s1 ⟨x, H1, I1, rx, a, C, dx, fs, v, ex, ea, c, n, l, q⟩ => ?_)
  subst ex
  obtain rfl : ov = Value.ref a := rx
  refine getattr_ok I1 ea c n l fun u s2 I2 ru => thn (hv pins s2 σ H1 _ I2 q) fun w3 s3 ⟨y, H2, I3, ry, q3⟩ => thn (hop pins s3 σ H2 v y u w3 _ I3 ru ry q3) fun w4 s4 ⟨z, H3, I4, rz, dx', fs', ea', l', q4⟩ => ?_
  exact setattr_ok I4 ea' c n l' rz fun s5 I5 => ⟨σ, _, I5, q4⟩
def rAdd : V → V → Hp → VK → Prop := fun x y H Q => ∃ i j, x = .int i ∧ y = .int j ∧ Q (.int (i + j)) H
theorem in_add : InOp X .Add rAdd := by
  rintro pins s σ H x y u v Q I rx ry ⟨i, j, rfl, rfl, q⟩
  obtain ⟨t, rfl⟩ := (show ∃ t, u = Value.int i t from rx)
  obtain ⟨t', rfl⟩ := (show ∃ t', v = Value.int j t' from ry)
  exact PyProof.Rows.iadd_int ⟨.int (i + j), H, I.tok _, ⟨_, rfl⟩, q⟩
end
structure Room (k : Nat) (A : Around) : Prop where
  hd : A.handled = none
  dp : A.depth + 3 * k + 5 < recursionLimit
  un : A.units + 16 * k + 200 < cLine
theorem Room.mono {j k : Nat} {A : Around} (r : Room k A) (h : j ≤ k) : Room j A := ⟨r.hd, by have := r.dp; omega, by have := r.un; omega⟩
theorem Room.deeper {k : Nat} {A : Around} (r : Room (k + 1) A) (env : Env) : Room k (A.deeper env) :=
  ⟨r.hd, by have := r.dp; show A.depth + 1 + 3 * k + 5 < _; omega, by have := r.un; show A.units + 3 + 16 * k + 200 < _; omega⟩
theorem make_depth {A : Around} {C : Addr} {us : List Value} {kw : List (Str × Value)} : (A.under (.builtin "type.__call__" ⟨.ref C :: us, kw⟩)).depth = A.depth + 1 := by
  first | rfl | simp [Around.under, Code.weight, Code.isCreation, Code.isGuard, Code.isCaller, Code.frames, Code.isFrame, guardIds]
theorem make_units {A : Around} {C : Addr} {us : List Value} {kw : List (Str × Value)} : (A.under (.builtin "type.__call__" ⟨.ref C :: us, kw⟩)).units = A.units + 1 := by
  first | rfl | simp [Around.under, Code.cUnits, Code.frames, Code.isFrame]
theorem Room.make {k : Nat} {A : Around} (r : Room (k + 1) A) (C : Addr) (us : List Value) (kw : List (Str × Value)) : Room k (A.under (.builtin "type.__call__" ⟨.ref C :: us, kw⟩)) :=
  ⟨r.hd, by have := r.dp; rw [make_depth]; omega, by have := r.un; rw [make_units]; omega⟩
theorem Room.depth {k : Nat} {A : Around} (r : Room k A) : A.depth < recursionLimit := by have := r.dp; omega
theorem Room.units {k : Nat} {A : Around} (r : Room k A) : A.units + 64 < cLine := by have := r.un; omega
def tNil : TA := fun _ H Q => Q [] H
def tCons (ta : TE) (tr : TA) : TA := fun σ H Q => ta σ H fun x H1 => tr σ H1 fun xs H2 => Q (x :: xs) H2
section
variable {X : Cx} {e : Expr} {es : List Expr} {te : TE} {t : TA} {pos : Pos}
theorem pa_nil : PA X [] tNil := fun _ _ _ _ H Q I h => Calls.spliced_nil ⟨[], H, I, .nil, h⟩
theorem pa_cons (ha : PE X e te) (hr : PA X es t) (hs : starEach (e :: es) X.env = (false, eval e X.env) :: starEach es X.env := by rfl) : PA X (e :: es) (tCons te t) := by
  intro pos pins s σ H Q I h
  rw [hs]
  show wpAny _ _ (spliced ((false, eval e X.env) :: backTo pos (starEach es X.env))) _ _ s
  refine Calls.spliced_cons (thn (ha pins s σ H _ I h) fun u s1 ⟨x, H1, I1, r1, q1⟩ => ?_)
  exact thn (hr pos pins s1 σ H1 _ I1 q1) fun us s2 ⟨xs, H2, I2, r2, q2⟩ => ⟨x :: xs, H2, I2, .cons r1 r2, q2⟩
def tTup (t : TA) : TE := fun σ H Q => t σ H fun xs H1 => xs.length ≤ sizeLine ∧ ∀ p, H1 p = none → Q (.ref p) (upd H1 p (.tup xs))
def tLst (t : TA) : TE := fun σ H Q => t σ H fun xs H1 => xs.length ≤ sizeLine ∧ ∀ p, H1 p = none → Q (.ref p) (upd H1 p (.lst xs))
theorem pe_tup {x1} (h : PA X es t) : PE X (.Tuple es x1 pos) (tTup t) := by
  intro pins s σ H Q I hq
  refine wpAny_Tuple_spliced (thn (h pos pins s σ H _ I hq) fun us s1 ⟨xs, H1, I1, r, z, q⟩ => ⟨by rw [← r.length]; exact z, ?_⟩)
  have hf : H1 s1.heap.objs.size = none := I1.hok.fresh (Nat.le_refl _)
  refine ⟨.ref s1.heap.objs.size, upd H1 s1.heap.objs.size (.tup xs), I1.laid (t' := s1.toks) (fun b u e => Heap.get?_push_of_some _ e) (Nat.le_refl _) ?_, rfl, q _ hf⟩
  exact ⟨z, us, r, ⟨_, Heap.get?_push_size _ rfl, rfl, _, rfl⟩⟩
theorem pe_lst (h : PA X es t) : PE X (.List es pos) (tLst t) := by
  intro pins s σ H Q I hq
  refine wpAny_List_spliced (thn (h pos pins s σ H _ I hq) fun us s1 ⟨xs, H1, I1, r, z, q⟩ => ⟨by rw [← r.length]; exact z, ?_⟩)
  have hf : H1 s1.heap.objs.size = none := I1.hok.fresh (Nat.le_refl _)
  refine ⟨.ref s1.heap.objs.size, upd H1 s1.heap.objs.size (.lst xs), I1.laid (t' := s1.toks) (fun b u e => Heap.get?_push_of_some _ e) (Nat.le_refl _) ?_, rfl, q _ hf⟩
  exact ⟨z, us, 0, r, Heap.get?_push_size _ rfl⟩
end
abbrev Sp := List V → Hp → VK → XK → Prop
abbrev CXT := List Env → Hp → Shared → XK → Value → Shared → Prop
structure Env0 (P : Program) (w : World) (K : PySem.W.Frag) (mg : Str → Option Value) (base : Heap) (A : Around) (outer : List Env) (s : Shared) (H : Hp) : Prop where
  frames : A.frames = some outer
  mod : Mod K mg base
  bs : ∀ b o, base.get? b = some o → s.heap.get? b = some o ∧ H b = none
  bsz : base.objs.size ≤ s.heap.objs.size
  funs : s.heap.FunFrames base outer
  frf : ∀ b ∈ frs outer, H b = none
  hok : HOk P w H s.heap
  bare : AllBare s.gens
def CE (outer : List Env) (P : Program) (w : World) (H : Hp) (s : Shared) (Q : VK) (u : Value) (s' : Shared) : Prop :=
  ∃ v H', s'.os = s.os ∧ AllBare s'.gens ∧ Un (frs outer) [] H H' s.heap s'.heap ∧ HOk P w H' s'.heap ∧ RelV v u ∧ Q v H'
def CR (CX : CXT) (outer : List Env) (P : Program) (w : World) (H : Hp) (s : Shared) (Q : VK) (E : XK) (r : Result) (s' : Shared) : Prop :=
  match r with
  | .ok (.ret u) => CE outer P w H s Q u s'
  | .ok _ => False
  | .error e => CX outer H s E e s'
structure FnOk (P : Program) (w : World) (K : PySem.W.Frag) (mg : Str → Option Value) (base : Heap) (CX : CXT) (k : Nat) (f : Addr) (fd : FuncData) (ps : List Str) (sp : Sp) : Prop where
  len : ∀ vs H Q E, sp vs H Q E → vs.length = ps.length
  run : ∀ (A : Around) (outer : List Env) (s : Shared) (H : Hp) (args : Args) (us : List Value) (vs : List V) (Q : VK) (E : XK), Room k A → Env0 P w K mg base A outer s H → BindsTo s fd args (ps.zip us) → Vals vs us → sp vs H Q E →
    codeAny (model P w) A (.call (.ref f) args) (CR CX outer P w H s Q E) s
theorem Env0.make {P : Program} {w : World} {K : PySem.W.Frag} {mg : Str → Option Value} {base : Heap} {A : Around} {outer : List Env} {s : Shared} {H : Hp} (e : Env0 P w K mg base A outer s H) (C : Addr) (us : List Value) (kw : List (Str × Value)) :
    Env0 P w K mg base (A.under (.builtin "type.__call__" ⟨.ref C :: us, kw⟩)) outer s H := ⟨by first | exact e.frames | (simpa [Around.under, Code.envs, Code.isFrame, pushEnvs] using e.frames), e.mod, e.bs, e.bsz, e.funs, e.frf, e.hok, e.bare⟩
section
variable {X : Cx} {pins : List (Addr × Obj)} {σ : St} {H : Hp} {s s' : Shared}
theorem Inv.env0 (I : Inv X pins σ H s) : Env0 X.prog X.w X.K X.mg X.base X.A X.stack s H :=
  ⟨I.ok.frames, I.ok.mod, I.bs, Nat.le_trans I.ok.bsz I.sz, I.stack, I.stkFree, I.hok, I.bare⟩
theorem Inv.after {Q : VK} {u : Value} (I : Inv X pins σ H s) (h : CE X.stack X.prog X.w H s Q u s') : EP X pins σ Q u s' := by
  obtain ⟨v, H', os, bare, un, hok, r, q⟩ := h
  obtain ⟨hh, g, d, t, os'⟩ := s'
  obtain rfl : os' = s.os := os
  exact ⟨v, H', I.call (h' := hh) (g' := g) (d' := d) (t' := t) (ch := []) un hok bare (fun b z => absurd z (by simp)), r, q⟩
end
def tCall (sp : Sp) (dvs : List V) (E : XK) (t : TA) : TE := fun σ H Q => t σ H fun vs H1 => sp (vs ++ dvs) H1 Q E
def tMake (C : Addr) (sp : Sp) (dvs : List V) (E : XK) (t : TA) : TE := fun σ H Q => t σ H fun vs H1 => ∀ x dx, H1 x = none → H1 dx = none → dx ≠ x →
  sp (.ref x :: (vs ++ dvs)) (upd (upd H1 dx (.own x)) x (.ins C dx [])) (fun v H2 => v = .non ∧ Q (.ref x) H2) E
def Binds (K : PySem.W.Frag) (fd : FuncData) (ps : List Str) (ds : List Value) : Prop :=
  ∀ (s : Shared) (us : List Value), K.In s.heap → (us ++ ds).length = ps.length → BindsTo s fd ⟨us, []⟩ (ps.zip (us ++ ds))
theorem Binds.all {K : PySem.W.Frag} {fd : FuncData} {ps : List Str} (h : ∀ us : List Value, us.length = ps.length → bindArgs fd ⟨us, []⟩ = pure (ps.zip us)) : Binds K fd ps [] := fun s us _ hl => by
  rw [List.append_nil] at hl ⊢
  exact .of_eq (h us hl)
def Passes (CX : CXT) (X : Cx) (E : XK) : Prop := ∀ (pins : List (Addr × Obj)) (σ : St) (H : Hp) (s : Shared) (e : Value) (s' : Shared), Inv X pins σ H s → CX X.stack H s E e s' → X.xe e s'
section
variable {X : Cx} {CX : CXT} {k : Nat} {f C : Addr} {fd : FuncData} {ps : List Str} {sp : Sp} {dvs : List V} {ds : List Value} {E : XK} {x m : Str} {p pos apos : Pos} {e o : Expr} {es : List Expr} {ta : TE} {t : TA}
theorem run_fn {pins : List (Addr × Obj)} {σ : St} {H : Hp} {s : Shared} {Q : VK} {us : List Value} {vs : List V} (F : FnOk X.prog X.w X.K X.mg X.base CX k f fd ps sp) (hr : Room k X.A) (hb : Binds X.K fd ps ds) (hd : Vals dvs ds) (hx : Passes CX X E)
    (I : Inv X pins σ H s) (r : Vals vs us) (h : sp (vs ++ dvs) H Q E) : wpAny (model X.prog X.w) X.A (call (.ref f) us) (EP X pins σ Q) X.xe s := by
  have r2 : Vals (vs ++ dvs) (us ++ ds) := r.append hd
  have hl : (us ++ ds).length = ps.length := by rw [← r2.length]; exact F.len _ _ _ _ h
  refine wpAny_call (codeAny_mono (F.run X.A X.stack s H ⟨us, []⟩ (us ++ ds) (vs ++ dvs) Q E hr I.env0 (hb s us I.kIn hl) r2 h) fun r s' hq => ?_)
  cases r with
  | error e => exact hx pins σ H s e s' I hq
  | ok fl =>
    cases fl with
    | ret u => exact I.after hq
    | next => exact False.elim hq
    | brk => exact False.elim hq
    | cont => exact False.elim hq
theorem pe_call (F : FnOk X.prog X.w X.K X.mg X.base CX k f fd ps sp) (hr : Room k X.A) (hg : Gl X x) (hm : X.mg x = some (.ref f)) (hk : PySem.W.keepIn X.K (.ref f) = true) (hb : Binds X.K fd ps ds) (hd : Vals dvs ds) (hx : Passes CX X E)
    (ha : PA X (e :: es) t) (hdb : (x == ("__debug__" : Str)) = false := by decide) (he : starEach (e :: es) X.env = (false, eval e X.env) :: starEach es X.env := by rfl) (hpl : (backTo pos (starEach es X.env)).any (·.1) = false := by rfl) :
    PE X (.Call (.Name x p) (e :: es) [] pos) (tCall sp dvs E t) := by
  intro pins s σ H Q I h
  refine wpAny_Call_Name_kw (ld_glob I hg hm ?_ hdb)
  refine PySem.W.callWith_K (h₀ := X.base) I.ok.mod.kin hk (thn (ha pos pins s σ H _ I h) fun us s1 ⟨vs, H1, I1, r, q⟩ => ⟨I1.kIn, ?_⟩) he hpl
  exact run_fn F hr hb hd hx I1 r q
structure Mk (K : PySem.W.Frag) (C f : Addr) : Prop where
  makes : PySem.W.makesIn K C = true
  init : PySem.W.findIn K (.ref C) "__init__" = some (some (.ref f))
  fn : PySem.W.isFn K (.ref f) = true
  kp : PySem.W.keepIn K (.ref C) = true
theorem run_make {pins : List (Addr × Obj)} {σ : St} {H : Hp} {s : Shared} {Q : VK} {us : List Value} {vs : List V} (M : Mk X.K C f) (F : FnOk X.prog X.w X.K X.mg X.base CX k f fd ps sp) (hr : Room (k + 1) X.A) (hb : Binds X.K fd ps ds) (hd : Vals dvs ds)
    (hx : Passes CX X E) (I : Inv X pins σ H s) (r : Vals vs us)
    (h : ∀ x dx, H x = none → H dx = none → dx ≠ x → sp (.ref x :: (vs ++ dvs)) (upd (upd H dx (.own x)) x (.ins C dx [])) (fun v H2 => v = .non ∧ Q (.ref x) H2) E) :
    wpAny (model X.prog X.w) X.A (call (.ref C) us) (EP X pins σ Q) X.xe s := by
  have hq := h (s.heap.objs.size + 1) s.heap.objs.size (I.hok.fresh (Nat.le_succ _)) (I.hok.fresh (Nat.le_refl _)) (Nat.ne_of_lt (Nat.lt_succ_self _))
  have I2 := Inv.made (C := C) I
  have r2 : Vals (V.ref (s.heap.objs.size + 1) :: (vs ++ dvs)) (Value.ref (s.heap.objs.size + 1) :: (us ++ ds)) := .cons rfl (r.append hd)
  have hl : (Value.ref (s.heap.objs.size + 1) :: us ++ ds).length = ps.length := by
    have e := r2.length
    rw [F.len _ _ _ _ hq] at e
    exact e.symm
  refine wpAny_call (make_map (f := f) I.kIn M.makes M.init (beq_iff_eq.mp M.fn) (codeAny_mono (F.run _ X.stack _ _ ⟨Value.ref (s.heap.objs.size + 1) :: us, []⟩ (Value.ref (s.heap.objs.size + 1) :: (us ++ ds)) _ _ E (hr.make C us [])
    (I2.env0.make C us []) (hb _ (Value.ref (s.heap.objs.size + 1) :: us) I2.kIn hl) r2 hq) fun r s' hq' => ?_))
  cases r with
  | error e => exact hx pins σ _ _ e s' I2 hq'
  | ok fl =>
    cases fl with
    | ret u =>
      obtain ⟨v, H', I3, rv, ev, q3⟩ := I2.after hq'
      subst ev
      exact ⟨rv, ⟨V.ref (s.heap.objs.size + 1), H', I3, rfl, q3⟩⟩
    | next => exact False.elim hq'
    | brk => exact False.elim hq'
    | cont => exact False.elim hq'
theorem pe_make (M : Mk X.K C f) (F : FnOk X.prog X.w X.K X.mg X.base CX k f fd ps sp) (hr : Room (k + 1) X.A) (hg : Gl X x) (hm : X.mg x = some (.ref C)) (hb : Binds X.K fd ps ds) (hd : Vals dvs ds) (hx : Passes CX X E)
    (ha : PA X (e :: es) t) (hdb : (x == ("__debug__" : Str)) = false := by decide) (he : starEach (e :: es) X.env = (false, eval e X.env) :: starEach es X.env := by rfl) (hpl : (backTo pos (starEach es X.env)).any (·.1) = false := by rfl) :
    PE X (.Call (.Name x p) (e :: es) [] pos) (tMake C sp dvs E t) := by
  intro pins s σ H Q I h
  refine wpAny_Call_Name_kw (ld_glob I hg hm ?_ hdb)
  refine PySem.W.callWith_K (h₀ := X.base) I.ok.mod.kin M.kp (thn (ha pos pins s σ H _ I h) fun us s1 ⟨vs, H1, I1, r, q⟩ => ⟨I1.kIn, ?_⟩) he hpl
  exact run_make M F hr hb hd hx I1 r q
theorem pe_make0 (M : Mk X.K C f) (F : FnOk X.prog X.w X.K X.mg X.base CX k f fd ps sp) (hr : Room (k + 1) X.A) (hg : Gl X x) (hm : X.mg x = some (.ref C)) (hb : Binds X.K fd ps ds) (hd : Vals dvs ds) (hx : Passes CX X E)
    (hdb : (x == ("__debug__" : Str)) = false := by decide) : PE X (.Call (.Name x p) [] [] pos) (tMake C sp dvs E tNil) := by
  intro pins s σ H Q I h
  refine wpAny_Call_Name_kw (ld_glob I hg hm ?_ hdb)
  exact PySem.W.callWith_K0 I.kIn M.kp (run_make (us := []) M F hr hb hd hx I .nil h)
end
structure FnScope (N P : List Str) (sc : Scope) : Prop where
  kind : sc.kind = .function
  co : sc.isCoroutine = false
  gen : sc.isGenerator = false
  nd : N.Nodup
  pre : N.take P.length = P
  par : ∀ x ∈ P, sc.names.lookup x = some .local ∨ sc.names.lookup x = some .cell
  nofree : ∀ y ∈ sc.names, y.2 ≠ .free
theorem bindL_out {kindOf : Str → Option NameKind} {x : Str} : ∀ {binds : List (Str × Value)} {m : Str → Option Value}, (∀ v, (x, v) ∉ binds) → bindL kindOf binds m x = m x
  | [], _, _ => rfl
  | (n, v) :: r, m, h => by
    unfold bindL
    rw [bindL_out fun w hw => h w (List.mem_cons_of_mem _ hw)]
    split
    · have : x ≠ n := by rintro rfl; exact h v List.mem_cons_self
      simp [this]
    · rfl
theorem bindC_out {kindOf : Str → Option NameKind} {x : Str} : ∀ {binds : List (Str × Value)} {m : Str → Option Value}, (∀ v, (x, v) ∉ binds) → bindC kindOf binds m x = m x
  | [], _, _ => rfl
  | (n, v) :: r, m, h => by
    unfold bindC
    rw [bindC_out fun w hw => h w (List.mem_cons_of_mem _ hw)]
    split
    · rfl
    · have : x ≠ n := by rintro rfl; exact h v List.mem_cons_self
      simp [this]
theorem bindL_get {kindOf : Str → Option NameKind} {x : Str} {v : Value} : ∀ {P : List Str} {vs : List Value} {i : Nat} {m : Str → Option Value}, P.Nodup → P[i]? = some x → vs[i]? = some v → kindOf x = some .local →
    bindL kindOf (P.zip vs) m x = some v
  | [], _, _, _, _, h, _, _ => by simp at h
  | _ :: _, [], _, _, _, _, h, _ => by simp at h
  | p :: P, w :: vs, 0, m, nd, h1, h2, hk => by
    simp at h1 h2; subst h1; subst h2
    show bindL kindOf ((p, w) :: P.zip vs) m p = _
    unfold bindL
    rw [bindL_out fun v hv => (List.nodup_cons.mp nd).1 (List.of_mem_zip hv).1, if_pos hk]
    simp
  | p :: P, w :: vs, i + 1, m, nd, h1, h2, hk => by
    show bindL kindOf ((p, w) :: P.zip vs) m x = _
    unfold bindL
    exact bindL_get (i := i) (List.nodup_cons.mp nd).2 (by simpa using h1) (by simpa using h2) hk
theorem bindC_get {kindOf : Str → Option NameKind} {x : Str} {v : Value} : ∀ {P : List Str} {vs : List Value} {i : Nat} {m : Str → Option Value}, P.Nodup → P[i]? = some x → vs[i]? = some v → kindOf x ≠ some .local →
    bindC kindOf (P.zip vs) m x = some v
  | [], _, _, _, _, h, _, _ => by simp at h
  | _ :: _, [], _, _, _, _, h, _ => by simp at h
  | p :: P, w :: vs, 0, m, nd, h1, h2, hk => by
    simp at h1 h2; subst h1; subst h2
    show bindC kindOf ((p, w) :: P.zip vs) m p = _
    unfold bindC
    rw [bindC_out fun v hv => (List.nodup_cons.mp nd).1 (List.of_mem_zip hv).1, if_neg hk]
    simp
  | p :: P, w :: vs, i + 1, m, nd, h1, h2, hk => by
    show bindC kindOf ((p, w) :: P.zip vs) m x = _
    unfold bindC
    exact bindC_get (i := i) (List.nodup_cons.mp nd).2 (by simpa using h1) (by simpa using h2) hk
def start (N : List Str) (vs : List V) : St := vs.map some ++ List.replicate (N.length - vs.length) none
def cxOf (CX : CXT) (P : Program) (w : World) (K : PySem.W.Frag) (mg : Str → Option Value) (base : Heap) (N : List Str) (qual : Str) (scope : Scope) (f : Addr) (cd : Value) (A : Around) (outer : List Env) (s : Shared) (H : Hp) (E : XK) : Cx where
  prog := P
  w := w
  K := K
  mg := mg
  base := base
  A := A.deeper (envOfC qual scope s.heap.objs.size f cd)
  N := N
  s_0 := s
  H_0 := H
  env := envOfC qual scope s.heap.objs.size f cd
  outer := outer
  stack := envOfC qual scope s.heap.objs.size f cd :: outer
  ex := []
  calm := true
  fn := fun _ => true
  pn := []
  xe := fun e s' => wpAny (model P w) (A.deeper (envOfC qual scope s.heap.objs.size f cd)) (leaving (envOfC qual scope s.heap.objs.size f cd) e) (fun _ s'' => CX outer H s E e s'') (fun e' s'' => CX outer H s E e' s'') s'
theorem cell_has {sc : Scope} {n : Nat} {x : Str} (h : sc.names.lookup x = some .cell) : ∃ c, (cellsFrom n sc.names []).lookup x = some c := by
  have q := PySem.W.cellsFrom_some sc.names n [] (.inl h)
  exact Option.isSome_iff_exists.mp q
theorem inv_start {CX : CXT} {P : Program} {w : World} {K : PySem.W.Frag} {mg : Str → Option Value} {base : Heap} {N ps : List Str} {qual : Str} {scope : Scope} {f : Addr} {cd : Value} {A : Around} {outer : List Env} {s s1 : Shared} {H : Hp} {E : XK} {us : List Value} {vs : List V}
    (S : FnScope N ps scope) (hd : A.handled = none) (e0 : Env0 P w K mg base A outer s H) (hl : vs.length = ps.length) (r : Vals vs us)
    (x : InCallC s s.heap.objs.size (bindL (envOfC qual scope s.heap.objs.size f cd).kindOf (ps.zip us) fun _ => none) (cellsFrom (s.heap.objs.size + 1) scope.names []) (bindC (envOfC qual scope s.heap.objs.size f cd).kindOf (ps.zip us) fun _ => none) s1) :
    Inv (cxOf CX P w K mg base N qual scope f cd A outer s H E) [] (start N vs) H s1 := by
  have hpl : ps.length ≤ N.length := by have := congrArg List.length S.pre; rw [List.length_take] at this; omega
  obtain ⟨h1, tk, rfl, hk⟩ := x.done
  have noA : ∀ b : Addr, b ∉ (cxOf CX P w K mg base N qual scope f cd A outer s H E).ex := fun b z => absurd (show b ∈ ([] : List Addr) from z) (by simp)
  refine ⟨⟨e0.mod, S.kind, rfl, rfl, Nat.le_refl _, fun y z c h1 h2 => ?_, fun y hy => ?_, fun y c _ h => ?_, fun _ => hd, Around.frames_deeper e0.frames, .inr ⟨rfl, rfl⟩, fun b z => absurd z (noA b), e0.bs, e0.bsz, fun b _ _ => noA b, fun b z => absurd z (noA b), e0.funs, e0.frf⟩,
    rfl, e0.bare, Un.kept hk, ⟨_, x.toInCall.ns, fun i y v h1 h2 h3 => ?_⟩, fun y c h => ⟨_, x.cell y c h⟩, e0.hok.fresh (Nat.le_refl _), fun y c h => ?_, fun p hp => absurd (show p ∈ ([] : List (Addr × Obj)) from hp) (by simp), e0.hok.kept hk, ?_⟩
  · exact name_of_addr x.apart (PySem.mem_of_lookup h1) (PySem.mem_of_lookup h2)
  · have hy : scope.names.lookup y = some .cell ∨ scope.names.lookup y = some .free := hy
    rcases hy with hy | hy
    · exact cell_has hy
    · exact absurd rfl (S.nofree _ (PySem.mem_of_lookup hy))
  · exact Nat.le_of_lt (x.above y c (PySem.mem_of_lookup h))
  · have hi : i < vs.length := by
      unfold start at h2
      by_cases hi : i < vs.length
      · exact hi
      · rw [List.getElem?_append_right (by simpa using hi)] at h2
        rw [List.getElem?_replicate] at h2
        split at h2 <;> cases h2
    have ha : vs[i]? = some v := by
      unfold start at h2
      rw [List.getElem?_append_left (by simpa using hi), List.getElem?_map] at h2
      cases e : vs[i]? with
      | none => rw [e] at h2; cases h2
      | some a => rw [e] at h2; cases h2; rfl
    obtain ⟨u, hu, rv⟩ := r.get ha
    have hp : ps[i]? = some y := by
      rw [← S.pre, List.getElem?_take_of_lt (by omega)]; exact h1
    have ndP : ps.Nodup := by rw [← S.pre]; exact S.nd.sublist (List.take_sublist _ _)
    refine ⟨u, rv, ?_⟩
    rcases S.par y (List.mem_of_getElem? hp) with k | k
    · exact .inl ⟨k, bindL_get ndP hp hu k⟩
    · obtain ⟨c, e⟩ := cell_has (n := s.heap.objs.size + 1) k
      refine .inr ⟨.inl k, c, e, ?_⟩
      have q := x.cell y c e
      rw [bindC_get ndP hp hu (by show scope.names.lookup y ≠ _; rw [k]; decide)] at q
      exact q
  · exact e0.hok.fresh (Nat.le_of_lt (x.above y c (PySem.mem_of_lookup h)))
  · unfold start
    show _ = N.length
    rw [List.length_append, List.length_map, List.length_replicate]
    omega
theorem fn_of {CX : CXT} {P : Program} {w : World} {K : PySem.W.Frag} {mg : Str → Option Value} {base : Heap} {k : Nat} {f : Addr} {name qual : Str} {params : Arguments} {body : List Stmt} {scope : Scope} {dV kV doc pm cdv ct oc : Value} {an od : Option Addr}
    {osl : Array (Option Value)} {N ps : List Str} {sp : Sp} (lk : K.lookup f = some ⟨oc, od, .func (PySem.W.fnOf name qual params body scope dV kV doc pm an cdv ct), osl⟩) (hcd : PySem.W.codeIn K cdv qual = true) (S : FnScope N ps scope)
    (len : ∀ vs H Q E, sp vs H Q E → vs.length = ps.length)
    (hbody : ∀ (A : Around) (outer : List Env) (s : Shared) (H : Hp) (vs : List V) (Q : VK) (E : XK), Room k (A.deeper (envOfC qual scope s.heap.objs.size f cdv)) → sp vs H Q E →
      ∃ t, PSs (cxOf CX P w K mg base N qual scope f cdv A outer s H E) body t ∧ t { nx := fun _ H' => Q .non H', rt := Q } (start N vs) H) :
    FnOk P w K mg base CX (k + 1) f (PySem.W.fnOf name qual params body scope dV kV doc pm an cdv ct) ps sp := by
  refine ⟨len, fun A outer s H args us vs Q E hr e0 hb r hsp => ?_⟩
  have hl := len _ _ _ _ hsp
  have KX : K.In s.heap := e0.mod.kin.keeps fun b o e => (e0.bs b o e).1
  have lim : s.heap.NoLimit := e0.mod.nolimit.keeps fun b o e => (e0.bs b o e).1
  have hkind : ∀ y ∈ ps.zip us, scope.names.lookup y.1 = some .local ∨ (scope.names.lookup y.1 = some .cell ∧ ((cellsFrom (s.heap.objs.size + 1) scope.names []).lookup y.1).isSome = true) := fun ⟨n, v⟩ hy => by
    rcases S.par n (List.of_mem_zip hy).1 with q | q
    · exact .inl q
    · exact .inr ⟨q, PySem.W.cellsFrom_some _ _ _ (.inl q)⟩
  refine codeAny_call_function hr.depth (KX _ _ lk) rfl S.co S.gen rfl (PySem.W.codeRec_of KX hcd) (hb _ _ _ _ ?_)
  refine wpAny_newFunctionEnv_cells S.kind hkind fun env he s1 x => ?_
  subst he
  refine ⟨lim.keeps x.toInCall.keep, codeAny_func ?_⟩
  obtain ⟨t, ht, hq⟩ := hbody A outer s H vs Q E (hr.deeper _) hsp
  have I : Inv (cxOf CX P w K mg base N qual scope f cdv A outer s H E) [] (start N vs) H s1 := inv_start S hr.hd e0 hl r x
  refine wpAny_mono (ht [] s1 (start N vs) H _ I hq) (fun fl s' hs => ?_) fun e s' hs => hs
  have fin : ∀ {σ' : St} {H' : Hp} {v : V} {u : Value}, Inv (cxOf CX P w K mg base N qual scope f cdv A outer s H E) [] σ' H' s' → RelV v u → Q v H' → CE outer P w H s Q u s' :=
    fun {σ' H' v u} J rv q => ⟨v, H', J.os, J.bare, J.base, J.hok, rv, q⟩
  cases fl with
  | ret u =>
    obtain ⟨v, σ', H', J, rv, q⟩ := hs
    exact fin J rv q
  | next =>
    obtain ⟨σ', H', J, q⟩ := hs
    exact fin (v := V.non) (u := Value.none) J rfl q
  | brk =>
    obtain ⟨_, _, _, q⟩ := hs
    exact False.elim q
  | cont =>
    obtain ⟨_, _, _, q⟩ := hs
    exact False.elim q
section
variable {X : Cx} {x : Str} {p pos : Pos} {e : Expr} {es : List Expr} {t : TA} {id T : String} {r : List V → Hp → VK → Prop}
def tCB (r : List V → Hp → VK → Prop) (t : TA) : TE := fun σ H Q => t σ H fun vs H1 => r vs H1 Q
theorem pe_callB (hc : CallR X (.builtin id) r) (hg : Gl X x) (hm : X.mg x = none) (hv : bootBuiltins x = some (.builtin id)) (ha : PA X (e :: es) t) (hn : x ≠ "__name__" := by decide) (hdb : (x == ("__debug__" : Str)) = false := by decide)
    (he : starEach (e :: es) X.env = (false, eval e X.env) :: starEach es X.env := by rfl) (hpl : (backTo pos (starEach es X.env)).any (·.1) = false := by rfl) : PE X (.Call (.Name x p) (e :: es) [] pos) (tCB r t) := by
  intro pins s σ H Q I h
  refine wpAny_Call_Name_kw (ld_blt I hg hm hv ?_ hn hdb)
  exact PyProof.Rows.callWith_builtin1 (thn (ha pos pins s σ H _ I h) fun us s1 ⟨vs, H1, I1, r1, q1⟩ => hc pins s1 σ H1 vs us Q I1 r1 q1) he hpl
end
end L2
namespace HT
open PySem PyProof.Rows
section
variable {prog : Program} {w : World} {A : Around} {E : Value → Shared → Prop} {s : Shared}
def sIx (n d : Nat) : Option Int → Nat
  | none => d
  | some v => if v < 0 then (v + (n : Int)).toNat else min v.toNat n
theorem sIx_nat (n d k : Nat) : sIx n d (some (k : Int)) = min k n := by
  show (if (k : Int) < 0 then ((k : Int) + (n : Int)).toNat else min (k : Int).toNat n) = min k n
  rw [if_neg (by omega), Int.toNat_natCast]
end
end HT
namespace L2
open PySem PySem.Spec PyProof.Rows
abbrev TO := St → Hp → (Option Int → Hp → Prop) → Prop
def PO (X : Cx) (e : Option Expr) (t : TO) : Prop :=
  ∀ (pins : List (Addr × Obj)) (s : Shared) (σ : St) (H : Hp) (Q : Option Int → Hp → Prop), Inv X pins σ H s → t σ H Q →
    wpAny (model X.prog X.w) X.A (evalPart e X.env) (fun u s' => ∃ o H', Inv X pins σ H' s' ∧ IsPart u o ∧ Q o H') X.xe s
def tPart (t : TE) : TO := fun σ H Q => t σ H fun x H1 => ∃ i, x = .int i ∧ Q (some i) H1
section
variable {X : Cx} {e : Expr} {te : TE} {lo hi : Option Expr} {tl th : TO} {pos p2 : Pos}
theorem po_some (h : PE X e te) : PO X (some e) (tPart te) := by
  intro pins s σ H Q I hw
  rw [evalPart_some]
  refine thn (h pins s σ H _ I hw) fun u s1 ⟨x, H1, I1, r1, q1⟩ => ?_
  obtain ⟨i, rfl, q⟩ := q1
  obtain ⟨t, rfl⟩ := r1
  exact ⟨some i, H1, I1, .int i t, q⟩
def SlR (X : Cx) (r : V → Option Int → Option Int → Hp → VK → Prop) : Prop :=
  ∀ (pins : List (Addr × Obj)) (s : Shared) (σ : St) (H : Hp) (x : V) (v vl vu : Value) (lo hi : Option Int) (sl : Addr) (Q : VK), Inv X pins σ H s → RelV x v → s.heap.IsSliceOf sl vl vu .none → IsPart vl lo → IsPart vu hi → r x lo hi H Q →
    ∃ T id, typeLookup (.type T) "__getitem__" = pure (some (.builtin id)) ∧ s.TypeIs v T ∧ wpAny (model X.prog X.w) X.A (getItem v (.ref sl)) (EP X pins σ Q) X.xe s
def tSl (r : V → Option Int → Option Int → Hp → VK → Prop) (te : TE) (tl th : TO) : TE := fun σ H Q => te σ H fun x H1 => tl σ H1 fun l H2 => th σ H2 fun u H3 => r x l u H3 Q
theorem pe_slice {r : V → Option Int → Option Int → Hp → VK → Prop} (hr : SlR X r) (he : PE X e te) (hl : PO X lo tl) (hu : PO X hi th) : PE X (.Subscript e (.Slice lo hi none p2) pos) (tSl r te tl th) := by
  intro pins s σ H Q I h
  refine Subscript_ (thn (he pins s σ H _ I h) fun v s1 ⟨x, H1, I1, r1, q1⟩ => ?_)
  refine wpAny_Slice (thn (hl pins s1 σ H1 _ I1 q1) fun vl s2 ⟨l, H2, I2, pl, q2⟩ => thn (hu pins s2 σ H2 _ I2 q2) fun vu s3 ⟨u, H3, I3, pu, q3⟩ => ?_)
  rw [evalPart_none]
  refine wpAny_pure ?_
  have I4 : Inv X pins σ H3 { s3 with heap := s3.heap.push { cls := .type "slice", data := .fields #[vl, vu, .none] } } := I3.kept (t' := s3.toks) fun b ob q => Heap.get?_push_of_some _ q
  obtain ⟨T, id, hT, ht, hg⟩ := hr pins { s3 with heap := s3.heap.push { cls := .type "slice", data := .fields #[vl, vu, .none] } } σ H3 x v vl vu l u s3.heap.objs.size Q I4 r1 (Heap.IsSliceOf.new ..) pl pu q3
  show wpAny (model X.prog X.w) X.A (subscriptTail e (.Slice lo hi none p2) v (.ref s3.heap.objs.size)) (EP X pins σ Q) X.xe { s3 with heap := s3.heap.push { cls := .type "slice", data := .fields #[vl, vu, .none] } }
  exact tail_any (ops := [.ref s3.heap.objs.size, v]) ht hT hg (by with_unfolding_all rfl)
def cutV (xs : List V) (lo hi : Option Int) : List V := (xs.drop (HT.sIx xs.length 0 lo)).take (HT.sIx xs.length xs.length hi - HT.sIx xs.length 0 lo)
theorem cutV_length (xs : List V) (lo hi : Option Int) : (cutV xs lo hi).length ≤ xs.length := by
  unfold cutV
  rw [List.length_take, List.length_drop]
  omega
end
def ixN (n : Nat) (i : Int) : Option Nat := if 0 ≤ i then (if i < n then some i.toNat else none) else if -(n : Int) ≤ i then some (i + n).toNat else none
def atI {α : Type} (xs : List α) (i : Int) : Option α := (ixN xs.length i).bind fun j => xs[j]?
theorem ixN_seq {n : Nat} {i : Int} {j : Nat} (h : ixN n i = some j) : seqIndex? i n = some j ∧ j < n ∧ -(n : Int) ≤ i ∧ i < n := by
  unfold ixN at h
  by_cases h0 : 0 ≤ i
  · rw [if_pos h0] at h
    by_cases h1 : i < n
    · rw [if_pos h1] at h
      have e : i.toNat = j := Option.some.inj h
      exact ⟨by rw [seqIndex_of h0 h1, e], by omega, by omega, h1⟩
    · rw [if_neg h1] at h; cases h
  · rw [if_neg h0] at h
    by_cases h1 : -(n : Int) ≤ i
    · rw [if_pos h1] at h
      have e : (i + n).toNat = j := Option.some.inj h
      exact ⟨by rw [seqIndex_neg (by omega) h1, e], by omega, h1, by omega⟩
    · rw [if_neg h1] at h; cases h
theorem atI_get {α : Type} {xs : List α} {i : Int} {v : α} (h : atI xs i = some v) : ∃ j, seqIndex? i xs.length = some j ∧ xs[j]? = some v ∧ j < xs.length ∧ -(xs.length : Int) ≤ i ∧ i < xs.length := by
  unfold atI at h
  cases e : ixN xs.length i with
  | none => rw [e] at h; cases h
  | some j =>
    rw [e] at h
    obtain ⟨h1, h2, h3, h4⟩ := ixN_seq e
    exact ⟨j, h1, h, h2, h3, h4⟩
theorem atI_nat {α : Type} {xs : List α} {j : Nat} {v : α} (h : xs[j]? = some v) : atI xs (j : Int) = some v := by
  have hj : j < xs.length := (List.getElem?_eq_some_iff.mp h).1
  have e : ixN xs.length (j : Int) = some j := by
    unfold ixN
    rw [if_pos (by omega), if_pos (by omega)]; simp
  unfold atI; rw [e]; exact h
def PlainIx (b : Expr) : Prop := ∀ o i, subscripted b false o i = operate [o, i] (getItem o i)
def IxR (X : Cx) (r : R2) : Prop :=
  ∀ (value slice : Expr) (pins : List (Addr × Obj)) (s : Shared) (σ : St) (H : Hp) (x y : V) (v u : Value) (Q : VK), Inv X pins σ H s → RelV x v → RelV y u → r x y H Q →
    subscripted slice false v u = operate [v, u] (getItem v u) → wpAny (model X.prog X.w) X.A (subscriptTail value slice v u) (EP X pins σ Q) X.xe s
def MtR (X : Cx) (id : String) (r : V → List V → Hp → VK → Prop) : Prop :=
  ∀ (pins : List (Addr × Obj)) (s : Shared) (σ : St) (H : Hp) (x : V) (xs : List V) (v : Value) (us : List Value) (Q : VK), Inv X pins σ H s → RelV x v → Vals xs us → r x xs H Q →
    wpAny (model X.prog X.w) X.A (call (.builtin id) (v :: us)) (EP X pins σ Q) X.xe s
section
variable {X : Cx} {a b : Expr} {ta tb : TE} {pos : Pos}
theorem pe_ix {r : R2} (hr : IxR X r) (ha : PE X a ta) (hb : PE X b tb) (hs : PlainIx b) : PE X (.Subscript a b pos) (tOp r ta tb) := by
  intro pins s σ H Q I h
  exact Subscript_ (binT ha hb I h fun v u s2 x y H2 I2 rx ry q => hr a b pins s2 σ H2 x y v u Q I2 rx ry q (hs _ _))
def rIxL (K : PySem.W.Frag) : R2 := fun x y H Q => ∃ p xs i v, x = .ref p ∧ y = .int i ∧ SqL K H p xs ∧ atI xs i = some v ∧ Q v H
def rIxT (K : PySem.W.Frag) : R2 := fun x y H Q => ∃ p xs i v, x = .ref p ∧ y = .int i ∧ SqT K H p xs ∧ atI xs i = some v ∧ Q v H
theorem ix_list : IxR X (rIxL X.K) := by
  intro value slice pins s σ H x y v u Q I rx ry h hs
  obtain ⟨p, xs, i, z, rfl, rfl, hq, he, q⟩ := h
  cases rx
  obtain ⟨t, rfl⟩ := ry
  obtain ⟨its, r, pl, hz⟩ := I.list hq
  obtain ⟨j, h1, h2, h3, h4, h5⟩ := atI_get he
  obtain ⟨w, ew, rw'⟩ := r.get h2
  have hl := r.length
  have hn := line63
  have fin : EP X pins σ Q w s := ⟨z, H, I, rw', q⟩
  by_cases h0 : 0 ≤ i
  · have hj : i.toNat = j := by
      rw [seqIndex_of h0 h5] at h1
      exact Option.some.inj h1
    exact item_listR pl.isList h0 (by omega) (by rw [hj]; simpa using ew) fin hs
  · have hj : (i + (its.toArray.size : Int)).toNat = j := by
      rw [seqIndex_neg (by omega) h4] at h1
      rw [List.size_toArray, ← hl]
      exact Option.some.inj h1
    exact subscriptTail_builtinR (x := w) pl.isList.typeIs slot_list_getitem.lookup
      (wpAny_getItem_list_neg (Q := fun r s' => r = w ∧ EP X pins σ Q r s') pl.isList (by omega) (by rw [List.size_toArray] <;> omega) (by omega) (by rw [hj]; simpa using ew) ⟨rfl, fin⟩) hs
theorem ix_tup : IxR X (rIxT X.K) := by
  intro value slice pins s σ H x y v u Q I rx ry h hs
  obtain ⟨p, xs, i, z, rfl, rfl, hq, he, q⟩ := h
  cases rx
  obtain ⟨t, rfl⟩ := ry
  obtain ⟨its, r, pl, hz⟩ := I.tuple hq
  obtain ⟨j, h1, h2, h3, h4, h5⟩ := atI_get he
  obtain ⟨w, ew, rw'⟩ := r.get h2
  have hl := r.length
  have hn := line63
  have fin : EP X pins σ Q w s := ⟨z, H, I, rw', q⟩
  exact subscriptTail_builtinR (x := w) pl.typeIs slot_tuple_getitem.lookup
    (getItem_tuple (j := j) (Q := fun r s' => r = w ∧ EP X pins σ Q r s') pl (by omega) (by omega) (by rw [List.size_toArray, ← hl]; exact h1) (by simpa using ew) ⟨rfl, fin⟩) hs
theorem mapSeq_set (its : List Value) (n j : Nat) (u : Value) : Obj.mapSeq (·.setIfInBounds j u) { cls := .type "list", data := .seq its.toArray n } = { cls := .type "list", data := .seq (its.set j u).toArray n } := by
  simp [Obj.mapSeq]
theorem Inv.lst {pins : List (Addr × Obj)} {σ : St} {H : Hp} {s : Shared} {p : Addr} {xs : List V} (I : Inv X pins σ H s) (h : H p = some (.lst xs)) :
    ∃ (its : List Value) (n : Nat), Vals xs its ∧ s.heap.get? p = some { cls := .type "list", data := .seq its.toArray n } ∧ xs.length ≤ sizeLine := by
  obtain ⟨z, its, n, r, e⟩ := I.hok p _ h
  exact ⟨its, n, r, e, z⟩
theorem Inv.lstUpd {pins : List (Addr × Obj)} {σ : St} {H : Hp} {s : Shared} {p : Addr} {xs ys : List V} {its its' : List Value} {n n' : Nat} {f : Obj → Obj} (I : Inv X pins σ H s) (h : H p = some (.lst xs))
    (ho : s.heap.get? p = some { cls := .type "list", data := .seq its.toArray n }) (hf : f { cls := .type "list", data := .seq its.toArray n } = { cls := .type "list", data := .seq its'.toArray n' }) (r : Vals ys its') (hz : ys.length ≤ sizeLine) (t : Nat) :
    Inv X pins σ (upd H p (.lst ys)) { s with heap := s.heap.update p f, toks := t } := by
  have e : (s.heap.update p f).get? p = some { cls := .type "list", data := .seq its'.toArray n' } := by
    rw [Heap.get?_update_self f ho (by rw [hf] <;> rfl), hf]
  refine I.write (x := p) (e := p) (by rw [h]; trivial) (.inl rfl) (fun b u hb q => (Heap.get?_update_other _ _ (Ne.symm hb)).trans q) ⟨_, e⟩ ?_
  exact ⟨hz, its', n', r, e⟩
def rSetL : V → V → V → Hp → (Hp → Prop) → Prop := fun o i v H Q => ∃ p xs k j, o = .ref p ∧ i = .int k ∧ H p = some (.lst xs) ∧ ixN xs.length k = some j ∧ Q (upd H p (.lst (xs.set j v)))
theorem set_list : PSet X rSetL := by
  intro pins s σ H o i v ov iv u Q I ro ri rv h
  obtain ⟨p, xs, k, j, rfl, rfl, hp, hj, q⟩ := h
  cases ro
  obtain ⟨t, rfl⟩ := ri
  obtain ⟨its, n, r, ho, hz⟩ := I.lst hp
  obtain ⟨h1, h2, h3, h4⟩ := ixN_seq hj
  have hl := r.length
  have hn := line63
  have I' : Inv X pins σ (upd H p (.lst (xs.set j v))) { s with heap := s.heap.update p (Obj.mapSeq (·.setIfInBounds j u)) } :=
    I.lstUpd hp ho (mapSeq_set its n j u) (r.set rv j) (by rw [List.length_set]; exact hz) s.toks
  by_cases h0 : 0 ≤ k
  · have hk : k.toNat = j := by
      rw [seqIndex_of h0 h4] at h1
      exact Option.some.inj h1
    exact PySem.W.ki_setAt ho h0 (by omega) (by rw [List.size_toArray, ← hl]; exact h4) (by rw [hk]; exact ⟨_, I', q⟩)
  · have hk : (k + (its.toArray.size : Int)).toNat = j := by
      rw [seqIndex_neg (by omega) h3] at h1
      rw [List.size_toArray, ← hl]
      exact Option.some.inj h1
    exact PySem.W.ki_setBack ho (by omega) (by rw [List.size_toArray, ← hl]; exact h3) (by omega) (by rw [hk]; exact ⟨_, I', q⟩)
theorem slice_bounds (lo hi : Option Int) (n : Nat) : (sliceBounds lo hi none n).1 = ((HT.sIx n 0 lo : Nat) : Int) ∧ (sliceBounds lo hi none n).2.1 = ((HT.sIx n n hi : Nat) : Int) ∧ (sliceBounds lo hi none n).2.2 = 1 := by
  refine ⟨?_, ?_, rfl⟩
  · cases lo with
    | none => simp [sliceBounds, HT.sIx]
    | some i =>
      simp only [sliceBounds, HT.sIx, Option.getD_none, show (1 : Int) > 0 by decide, if_true]
      by_cases h : i < 0
      · simp only [h, if_true] <;> omega
      · simp only [h, if_false] <;> omega
  · cases hi with
    | none => simp [sliceBounds, HT.sIx]
    | some i =>
      simp only [sliceBounds, HT.sIx, Option.getD_none, show (1 : Int) > 0 by decide, if_true]
      by_cases h : i < 0
      · simp only [h, if_true] <;> omega
      · simp only [h, if_false] <;> omega
theorem slicePick_cut (its : List Value) (lo hi : Option Int) : slicePick its.toArray lo hi none = ((its.drop (HT.sIx its.length 0 lo)).take (HT.sIx its.length its.length hi - HT.sIx its.length 0 lo)).toArray := by
  obtain ⟨h1, h2, h3⟩ := slice_bounds lo hi its.toArray.size
  unfold slicePick
  rw [h1, h2, h3]
  simp only [sliceRange_one, pick_run, List.size_toArray] <;> rfl
def rSlL (K : PySem.W.Frag) : V → Option Int → Option Int → Hp → VK → Prop := fun x lo hi H Q => ∃ a xs, x = .ref a ∧ SqL K H a xs ∧ ∀ p, H p = none → Q (.ref p) (upd H p (.lst (cutV xs lo hi)))
theorem sl_list : SlR X (rSlL X.K) := by
  intro pins s σ H x v vl vu lo hi sl Q I rx hs pl pu h
  obtain ⟨a, xs, rfl, hx, q⟩ := h
  cases rx
  obtain ⟨its, r, ht, hz⟩ := I.list hx
  have hlen := r.length
  refine ⟨"list", _, slot_list_getitem.lookup, ht.isList.typeIs, ?_⟩
  refine wpAny_getItem_list_slice ht.isList hs pl pu .none (by simp) ?_ (by rw [List.size_toArray] <;> omega)
  rw [slicePick_cut, ← hlen]
  refine ⟨.ref s.heap.objs.size, _, I.laid (t' := s.toks) (o := .lst (cutV xs lo hi)) (fun b ob q => Heap.get?_push_of_some _ q) (Nat.le_refl _) ?_, rfl, q _ (I.hok.fresh (Nat.le_refl _))⟩
  exact ⟨Nat.le_trans (cutV_length xs lo hi) hz, _, 0, (r.drop (HT.sIx xs.length 0 lo)).take (HT.sIx xs.length xs.length hi - HT.sIx xs.length 0 lo), Heap.get?_push_size _ rfl⟩
theorem call_len_seq : CallR X (.builtin "len") (fun xs H Q => ∃ p ys, xs = [.ref p] ∧ (SqL X.K H p ys ∨ SqT X.K H p ys) ∧ Q (.int ys.length) H) := by
  intro pins s σ H xs us Q I r h
  obtain ⟨p, ys, rfl, hq, q⟩ := h
  obtain ⟨u, rfl, rx⟩ := vals1 r
  cases rx
  have hn := line63
  rcases hq with hq | hq
  · obtain ⟨its, r', pl, hz⟩ := I.list hq
    have hlen := r'.length
    exact Calls.call_len_list pl.isList (by simp only [List.size_toArray] <;> omega) ⟨.int ys.length, H, I.tok _, ⟨s.toks + 1, by rw [List.size_toArray, hlen]⟩, q⟩
  · obtain ⟨its, r', pl, hz⟩ := I.tuple hq
    have hlen := r'.length
    exact len_tuple pl (by simp only [List.size_toArray] <;> omega) ⟨.int ys.length, H, I.tok _, ⟨s.toks + 1, by rw [List.size_toArray, hlen]⟩, q⟩
def tyV (K : PySem.W.Frag) (T : String) (x : V) (H : Hp) : Prop := match x with
  | .str _ => T = "str"
  | .int _ => T = "int"
  | .ref p => (T = "list" ∧ ∃ xs, SqL K H p xs) ∨ (T = "tuple" ∧ ∃ o, K.lookup p = some o ∧ o.cls = .type "tuple" ∧ o.dict = none) ∨
      (T = "dict" ∧ ((∃ kvs, H p = some (.dK kvs)) ∨ ∃ kvs, H p = some (.dT kvs))) ∨ (T = "set" ∧ ∃ S n, H p = some (.set S n))
  | _ => False
theorem tyV_is {pins : List (Addr × Obj)} {σ : St} {H : Hp} {s : Shared} {T : String} {x : V} {v : Value} (I : Inv X pins σ H s) (r : RelV x v) (ty : tyV X.K T x H) :
    s.TypeIs v T ∧ ∀ a, v = .ref a → ∃ ob, s.heap.get? a = some ob ∧ ob.dict = none := by
  cases x with
  | str z =>
    obtain ⟨t, rfl⟩ := r
    cases (show T = "str" from ty)
    exact ⟨typeIs_str s z t, fun _ e => nomatch e⟩
  | int i =>
    obtain ⟨t, rfl⟩ := r
    cases (show T = "int" from ty)
    exact ⟨typeIs_int s i t, fun _ e => nomatch e⟩
  | ref p =>
    cases r
    rcases ty with ⟨rfl, xs, hq⟩ | ⟨rfl, o, hk, hc, hd⟩ | ⟨rfl, hk⟩ | ⟨rfl, S, n, hk⟩
    · obtain ⟨its, _, pl, _⟩ := I.list hq
      refine ⟨pl.isList.typeIs, fun a e => ?_⟩
      cases e
      obtain ⟨o, n, e, c, hd, _⟩ := pl
      exact ⟨o, e, hd⟩
    · refine ⟨⟨o, I.kIn p o hk, hc⟩, fun a e => ?_⟩
      cases e
      exact ⟨o, I.kIn _ o hk, hd⟩
    · have z : ∃ o, s.heap.get? p = some o ∧ o.ExactDict := by
        rcases hk with ⟨kvs, hk⟩ | ⟨kvs, hk⟩
        · obtain ⟨_, _, _, _, o, _, _, e, ex, _⟩ := I.hok p _ hk
          exact ⟨o, e, ex⟩
        · obtain ⟨_, _, _, _, o, _, _, e, ex, _⟩ := I.hok p _ hk
          exact ⟨o, e, ex⟩
      obtain ⟨o, e, ex⟩ := z
      refine ⟨⟨o, e, ex.1⟩, fun a e2 => ?_⟩
      cases e2
      exact ⟨o, e, ex.2.1⟩
    · obtain ⟨o, _, _, _, e, ex, _⟩ := I.hok p _ hk
      refine ⟨⟨o, e, ex.1⟩, fun a e2 => ?_⟩
      cases e2
      exact ⟨o, e, ex.2.1⟩
  | _ => exact False.elim ty
def tBM (K : PySem.W.Frag) (T : String) (r : V → List V → Hp → VK → Prop) (to : TE) (t : TA) : TE := fun σ H Q => to σ H fun x H1 => tyV K T x H1 ∧ t σ H1 fun xs H2 => r x xs H2 Q
variable {o e : Expr} {es : List Expr} {to : TE} {t : TA} {name : Str} {apos cpos : Pos} {T id : String} {r : V → List V → Hp → VK → Prop}
theorem pe_bm (pa : PlainAttrs T) (slot : Slot T name id) (hty : typeOf (.builtin id) = pure (.type "method_descriptor")) (hm : MtR X id r) (ho : PE X o to) (ha : PA X (e :: es) t)
    (hbase : attributeBase o name X.env (eval o X.env) = eval o X.env := by rfl)
    (hfew : ((backTo cpos (starEach (e :: es) X.env)).all (fun x => !x.1) && (backToKw cpos (keywordEach [] X.env)).all (fun x => x.1.isSome)
      && decide ((e :: es).length + ([] : List Keyword).length + (if ([] : List Keyword).isEmpty then 0 else 1) < 30)) = true := by rfl)
    (hline : (apos.endLine == cpos.line) = true := by rfl) (hs : starEach (e :: es) X.env = (false, eval e X.env) :: starEach es X.env := by rfl) (hplain : (backTo cpos (starEach es X.env)).any (·.1) = false := by rfl) :
    PE X (.Call (.Attribute o name apos) (e :: es) [] cpos) (tBM X.K T r to t) := by
  intro pins s σ H Q I h
  refine wpAny_Call_method_late hbase hfew hline rfl (thn (ho pins s σ H _ I h) fun v s1 ⟨x, H1, I1, r1, ty, q1⟩ => ?_)
  obtain ⟨h1, h2⟩ := tyV_is I1 r1 ty
  refine ⟨T, id, pa, slot, hty, h1, h2, ?_⟩
  have hA := ha cpos pins s1 σ H1 _ I1 q1
  rw [hs] at hA ⊢
  refine Calls.callWith_builtin (by show (false || (backTo cpos (starEach es X.env)).any (·.1)) = false; rw [hplain] <;> rfl) (Calls.evalArgs_plain ?_)
  exact thn hA fun us s2 ⟨vs, H2, I2, r2, q2⟩ => hm pins s2 σ H2 x vs v us Q I2 r1 r2 q2
end
def MtM (X : Cx) (id : String) (r : V → List V → Hp → VK → Prop) : Prop :=
  ∀ (pins : List (Addr × Obj)) (s : Shared) (σ : St) (H : Hp) (x : V) (xs : List V) (v : Value) (us : List Value) (Q : VK), Inv X pins σ H s → RelV x v → Vals xs us → r x xs H Q →
    wpAny (model X.prog X.w) X.A (call (.builtin id) (v :: us)) (EP X pins σ Q) X.xe s
theorem Vals.one : ∀ {x : V} {us : List Value}, Vals [x] us → ∃ u, us = [u] ∧ RelV x u
  | _, _, .cons r .nil => ⟨_, rfl, r⟩
theorem Vals.two : ∀ {x y : V} {us : List Value}, Vals [x, y] us → ∃ u v, us = [u, v] ∧ RelV x u ∧ RelV y v
  | _, _, _, .cons r (.cons q .nil) => ⟨_, _, rfl, r, q⟩
theorem Vals.rep {xs : List V} {us : List Value} (h : Vals xs us) : ∀ k : Nat, Vals (List.replicate k xs).flatten (List.replicate k us).flatten
  | 0 => .nil
  | k + 1 => by
    rw [List.replicate_succ, List.replicate_succ, List.flatten_cons, List.flatten_cons]
    exact Vals.append h (Vals.rep h k)
theorem foldl_rep (its : List Value) : ∀ (k : Nat) (acc : List Value),
    List.foldl (fun x1 x2 => x1 ++ x2) acc.toArray (List.replicate k its.toArray) = (acc ++ (List.replicate k its).flatten).toArray
  | 0, acc => by simp
  | k + 1, acc => by
    have e : acc.toArray ++ its.toArray = (acc ++ its).toArray := by simp
    have e2 : (acc ++ its) ++ (List.replicate k its).flatten = acc ++ (List.replicate (k + 1) its).flatten := by
      rw [List.replicate_succ, List.flatten_cons, List.append_assoc]
    rw [← e2, ← foldl_rep its k (acc ++ its), ← e, List.replicate_succ, List.foldl_cons]
section
variable {X : Cx} {pins : List (Addr × Obj)} {σ : St} {H : Hp} {s : Shared} {l b : Addr} {xs ys zs : List V}
theorem Inv.lset {its its' : List Value} {n : Nat} {f : Array Value → Array Value} {t' : Nat} (I : Inv X pins σ H s) (hH : H l = some (.lst xs))
    (e : s.heap.get? l = some { cls := .type "list", data := .seq its.toArray n }) (hf : f its.toArray = its'.toArray) (hv : Vals ys its') (hz : ys.length ≤ sizeLine) :
    Inv X pins σ (upd H l (.lst ys)) { s with heap := s.heap.update l (Obj.mapSeq f), toks := t' } := by
  have q := PySem.IsL.update e f
  rw [hf] at q
  refine I.write (x := l) (e := l) (by rw [hH]; exact trivial) (.inl rfl) (fun b' u hb hu => (Heap.get?_update_other s.heap (Obj.mapSeq f) (Ne.symm hb)).trans hu) ⟨_, q⟩ ?_
  exact ⟨hz, its', _, hv, q⟩
theorem Inv.lnew {its : List Value} {t' : Nat} (I : Inv X pins σ H s) (hv : Vals ys its) (hz : ys.length ≤ sizeLine) :
    Inv X pins σ (upd H s.heap.objs.size (.lst ys)) { s with heap := s.heap.push { cls := .type "list", data := .seq its.toArray }, toks := t' } :=
  I.laid (fun _ _ q => Heap.get?_push_of_some _ q) (Nat.le_refl _) ⟨hz, its, 0, hv, Heap.get?_push_size _ rfl⟩
theorem Inv.fresh (I : Inv X pins σ H s) : H s.heap.objs.size = none := I.hok.fresh (Nat.le_refl _)
theorem Inv.lstM (I : Inv X pins σ H s) (hH : H l = some (.lst xs)) : xs.length ≤ sizeLine ∧ ∃ (its : List Value) (n : Nat), Vals xs its ∧ xs.length = its.length ∧ s.heap.get? l = some { cls := .type "list", data := .seq its.toArray n } := by
  obtain ⟨z, its, n, r, e⟩ := I.hok l _ hH
  exact ⟨z, its, n, r, r.length, e⟩
theorem notLongL {n : Nat} (h : n ≤ sizeLine) : Builtin.List.listTooLong n = false := by
  unfold Builtin.List.listTooLong
  exact decide_eq_false (by omega)
end
section
variable {X : Cx}
def rAppend : V → List V → Hp → VK → Prop := fun x vs H Q => ∃ l xs y, x = .ref l ∧ vs = [y] ∧ H l = some (.lst xs) ∧ xs.length < sizeLine ∧ Q .non (upd H l (.lst (xs ++ [y])))
theorem mt_append : MtM X "list.append" rAppend := by
  intro pins s σ H x vs v us Q I rx rv h
  obtain ⟨l, xs, y, rfl, rfl, hH, hz, q⟩ := h
  cases rx
  obtain ⟨u, rfl, ru⟩ := rv.one
  obtain ⟨z, its, n, r, hl, e⟩ := I.lstM hH
  refine call_meets F.slot_list_append ⟨_, e, rfl⟩ F.entry_list_append (F.args_list_append_2 _ _) (PySem.list_append l its.toArray n u (by rw [List.size_toArray]; omega)) ⟨e, ?_⟩
  refine ⟨.non, _, I.lset (its' := its ++ [u]) hH e (by simp) (r.append (.cons ru .nil)) ?_, rfl, q⟩
  rw [List.length_append, List.length_singleton]
  omega
def rExtend : V → List V → Hp → VK → Prop := fun x vs H Q => ∃ l b xs zs, x = .ref l ∧ vs = [.ref b] ∧ H l = some (.lst xs) ∧ H b = some (.lst zs) ∧ xs.length + zs.length ≤ sizeLine ∧ Q .non (upd H l (.lst (xs ++ zs)))
theorem mt_extend : MtM X "list.extend" rExtend := by
  intro pins s σ H x vs v us Q I rx rv h
  obtain ⟨l, b, xs, zs, rfl, rfl, hH, hB, hz, q⟩ := h
  cases rx
  obtain ⟨u, rfl, ru⟩ := rv.one
  cases ru
  obtain ⟨z, its, n, r, hl, e⟩ := I.lstM hH
  obtain ⟨z2, its2, n2, r2, hl2, e2⟩ := I.lstM hB
  have hsz : its.toArray.size + its2.toArray.size ≤ sizeLine := by rw [List.size_toArray, List.size_toArray]; omega
  have hlong : ¬ (!its.toArray.isEmpty && Builtin.List.listTooLong (its.toArray.size + its2.toArray.size)) = true := by
    rw [notLongL hsz, Bool.and_false]
    exact Bool.false_ne_true
  refine call_meets F.slot_list_extend ⟨_, e, rfl⟩ F.entry_list_extend (F.args_list_extend_2 _ _)
    (AutoSeq1.list_extend_list_list_0 l its.toArray n b its2.toArray n2 hlong (by rw [List.size_toArray]; omega) (by omega)) ⟨e, e2, ?_⟩
  refine ⟨.non, _, I.lset (its' := its ++ its2) hH e (by simp) (r.append r2) ?_, rfl, q⟩
  rw [List.length_append]
  omega
def rCat : R2 := fun x y H Q => ∃ l b xs zs, x = .ref l ∧ y = .ref b ∧ H l = some (.lst xs) ∧ H b = some (.lst zs) ∧ xs.length + zs.length ≤ sizeLine ∧ ∀ p, H p = none → Q (.ref p) (upd H p (.lst (xs ++ zs)))
theorem op_cat : OpR X (binaryOp .Add) rCat := by
  intro pins s σ H x y v u Q I rx ry h
  obtain ⟨l, b, xs, zs, rfl, rfl, hH, hB, hz, q⟩ := h
  cases rx
  cases ry
  obtain ⟨z, its, n, r, hl, e⟩ := I.lstM hH
  obtain ⟨z2, its2, n2, r2, hl2, e2⟩ := I.lstM hB
  refine PySem.P.add_list e e2 ?_ (by rw [List.size_toArray, List.size_toArray]; omega)
  have ea : its.toArray ++ its2.toArray = (its ++ its2).toArray := by simp
  rw [ea]
  exact ⟨.ref _, _, I.lnew (t' := s.toks) (r.append r2) (by rw [List.length_append]; omega), rfl, q _ I.fresh⟩
def rRep : R2 := fun x y H Q => ∃ l k xs, x = .ref l ∧ y = .int k ∧ H l = some (.lst xs) ∧ -(2 ^ 63) ≤ k ∧ k < 2 ^ 63 ∧ xs.length * k.toNat ≤ sizeLine ∧
  ∀ p, H p = none → Q (.ref p) (upd H p (.lst (List.replicate k.toNat xs).flatten))
theorem len_rep {α : Type} (xs : List α) (k : Nat) : (List.replicate k xs).flatten.length = k * xs.length := by
  induction k with
  | zero => simp
  | succ k ih => rw [List.replicate_succ, List.flatten_cons, List.length_append, ih, Nat.succ_mul, Nat.add_comm]
theorem op_rep : OpR X (binaryOp .Mult) rRep := by
  intro pins s σ H x y v u Q I rx ry h
  obtain ⟨l, k, xs, rfl, rfl, hH, h1, h2, hz, q⟩ := h
  cases rx
  obtain ⟨t, rfl⟩ := ry
  obtain ⟨z, its, n, r, hl, e⟩ := I.lstM hH
  have hlen : its.toArray.size * k.toNat ≤ sizeLine := by rw [List.size_toArray, ← hl]; exact hz
  have hcap : ¬ its.toArray.size * k.toNat > (2 ^ 63 - 1) / 8 := by
    have : (sizeLine : Nat) ≤ (2 ^ 63 - 1) / 8 := by decide
    omega
  have hfit : ¬ (!Builtin.List.listFitsIndex k) = true := by
    rw [fitsIndex_both h1 h2]
    exact Bool.false_ne_true
  have hlong : ¬ Builtin.List.listTooLong (its.toArray.size * k.toNat) = true := by
    rw [notLongL hlen]
    exact Bool.false_ne_true
  have hnew : List.foldl (fun x1 x2 => x1 ++ x2) #[] (List.replicate (if its.toArray.isEmpty = true then 0 else k.toNat) its.toArray) = (List.replicate k.toNat its).flatten.toArray := by
    have f0 : ∀ m : Nat, List.foldl (fun x1 x2 => x1 ++ x2) #[] (List.replicate m its.toArray) = (List.replicate m its).flatten.toArray := fun m => by
      have := foldl_rep its m []
      rw [List.nil_append] at this
      exact this
    rw [f0]
    cases its with
    | nil => simp
    | cons a r' => rw [if_neg (by simp)]
  refine wpAny_binaryOp_repeat_ref (T := "list") (U := "int") (by decide) ⟨_, e, rfl⟩ (fun s' => typeIs_int s' k t) noFill_list_mul F.fills_int_mul F.slot_int_rmul repeat_list F.slot_int_index.lookup
    (call_meets F.slot_int_rmul (typeIs_int s k t) F.entry_int_rmul (F.args_int_rmul_2 _ _) (int___rmul___int_list k t l its.toArray n)
      ⟨e, rfl, ⟨_, e, rfl⟩, call_meets F.slot_list_mul ⟨_, e, rfl⟩ F.entry_list_mul (F.args_list_mul_2 _ _) (AutoListH.list___mul___list_int_3 l its.toArray n k t hfit hcap hlong) ⟨e, ?_⟩⟩)
  rw [hnew]
  exact ⟨.ref _, _, I.lnew (t' := s.toks) (r.rep k.toNat) (by rw [len_rep, Nat.mul_comm]; exact hz), rfl, q _ I.fresh⟩
end
theorem Vals.ints : ∀ {ns : List Int} {us : List Value}, Vals (ns.map V.int) us → IntsAre us ns
  | [], us, h => by
    rw [List.map_nil] at h
    cases h
    exact IntsAre.nil
  | n :: ns, us, h => by
    rw [List.map_cons] at h
    cases h with
    | cons r t =>
      obtain ⟨k, rfl⟩ := r
      exact IntsAre.cons n k (Vals.ints t)
theorem vals_of_ints : ∀ {us : List Value} {ns : List Int}, IntsAre us ns → Vals (ns.map V.int) us
  | _, _, .nil => by rw [List.map_nil]; exact Paired.nil
  | _, _, .cons n t h => by rw [List.map_cons]; exact Paired.cons (show RelV (V.int n) (Value.int n t) from ⟨t, rfl⟩) (vals_of_ints h)
theorem Vals.ref1 {a : Addr} {us : List Value} (r : Vals [V.ref a] us) : us = [Value.ref a] := by
  cases r with
  | cons r t =>
    cases t
    cases r
    rfl
section
variable {prog : Program} {w : World} {A : Around} {E : Value → Shared → Prop} {s : Shared} {l : Addr} {its : List Value} {ns : List Int} {Q : Value → Shared → Prop}
theorem sum_raw (hh : A.handled = none) (hl : s.heap.IsList l its.toArray) (hi : IntsAre its ns)
    (h : ∀ h' tk t', (∀ b o, s.heap.get? b = some o → h'.get? b = some o) → Q (.int ns.sum t') { s with heap := h', toks := tk }) : wpAny (model prog w) A (call (.builtin "sum") [.ref l]) Q E s := by
  obtain ⟨xs, e⟩ := hi.allInts.items
  have hn : numsOf (intItems xs).toList = ns := by rw [← e]; exact hi.numsOf
  rw [nums_intItems] at hn
  rw [e] at hl
  refine PySem.sum_intListG hh hl fun h' tk t' hk => ?_
  have := h h' tk t' hk
  rw [preSum_eq, List.take_of_length_le (by simp), hn]; exact this
end
section
variable {X : Cx}
def rSum (K : PySem.W.Frag) : List V → Hp → VK → Prop := fun vs H Q => ∃ (a : Addr) (ns : List Int), vs = [V.ref a] ∧ SqL K H a (ns.map V.int) ∧ Q (.int ns.sum) H
theorem cr_sum (hc : X.calm = true) : CallR X (.builtin "sum") (rSum X.K) := by
  intro pins s σ H vs us Q I r h
  obtain ⟨a, ns, rfl, hs, q⟩ := h
  obtain ⟨its, rv, hl, _⟩ := I.list hs
  rw [Vals.ref1 r]
  exact sum_raw (I.ok.hd hc) hl.isList rv.ints fun h' tk t' hk => ⟨.int _, H, I.kept hk, ⟨_, rfl⟩, q⟩
end
abbrev CellAt (h : Heap) (c : Addr) (v : Option Value) : Prop := h.IsCell c v
def relS (scope sc : Scope) : Scope :=
  { scope with names := scope.names.map fun (n, k) => if (k == .free && sc.kind == .function && sc.names.lookup n == some .cell) then (n, .cell) else (n, k) }
def cloFrom (cells : List (Str × Addr)) : List (Str × NameKind) → List (Str × Addr) → List (Str × Addr)
  | [], acc => acc
  | (n, k) :: r, acc => if k == .free then cloFrom cells r ((n, (cells.lookup n).getD 0) :: acc) else cloFrom cells r acc
theorem closure_loop (env : Env) (f : Str × NameKind → List (Str × Addr) → Sem (ForInStep (List (Str × Addr))))
    (hf : ∀ n k c, f (n, k) c = if k == .free then (do let a ← cellOf env n; pure (.yield ((n, a) :: c))) else pure (.yield c)) :
    ∀ (names : List (Str × NameKind)) (acc : List (Str × Addr)), (∀ y ∈ names, y.2 = .free → ∃ c, env.cells.lookup y.1 = some c) → forIn names acc f = pure (cloFrom env.cells names acc)
  | [], acc, _ => by rw [List.forIn_nil]; rfl
  | (n, k) :: r, acc, h => by
    rw [List.forIn_cons, hf]
    have ih := fun acc => closure_loop env f hf r acc fun y hy => h y (List.mem_cons_of_mem _ hy)
    unfold cloFrom
    by_cases hk : (k == NameKind.free) = true
    · rw [if_pos hk, if_pos hk]
      obtain ⟨c, hc⟩ := h (n, k) List.mem_cons_self (by simpa using hk)
      have e : cellOf env n = pure c := by unfold cellOf; rw [hc]
      rw [e]
      have e2 : (env.cells.lookup n).getD 0 = c := by rw [hc]; rfl
      rw [e2]
      exact ih _
    · rw [if_neg hk, if_neg hk]
      exact ih _
theorem closure_ok {scope : Scope} {env : Env} (h : ∀ y ∈ scope.names, y.2 = .free → ∃ c, env.cells.lookup y.1 = some c) : closureFor scope env = pure (cloFrom env.cells scope.names []) := by
  simp only [closureFor]
  rw [closure_loop env _ (fun n k c => rfl) scope.names [] h]
  rfl
theorem mem_lookup {α : Type} : ∀ {l : List (Str × α)} {n : Str} {c : α}, (n, c) ∈ l → ∃ c', l.lookup n = some c'
  | (k, v) :: r, n, c, h => by
    rw [List.lookup_cons]
    cases hb : n == k with
    | true => exact ⟨_, rfl⟩
    | false =>
      rcases List.mem_cons.mp h with e | h
      · cases e; simp at hb
      · exact mem_lookup h
theorem cloFrom_mem {cells : List (Str × Addr)} : ∀ {names : List (Str × NameKind)} {acc : List (Str × Addr)} {n : Str} {c : Addr}, (n, c) ∈ cloFrom cells names acc → (n, c) ∈ acc ∨ ((n, .free) ∈ names ∧ c = (cells.lookup n).getD 0)
  | [], _, _, _, h => .inl h
  | (m, k) :: r, acc, n, c, h => by
    unfold cloFrom at h
    split at h
    · rename_i hk
      have hk : k = .free := by simpa using hk
      rcases cloFrom_mem h with h | ⟨h1, h2⟩
      · rcases List.mem_cons.mp h with e | h
        · cases e; exact .inr ⟨hk ▸ List.mem_cons_self, rfl⟩
        · exact .inl h
      · exact .inr ⟨List.mem_cons_of_mem _ h1, h2⟩
    · rcases cloFrom_mem h with h | ⟨h1, h2⟩
      · exact .inl h
      · exact .inr ⟨List.mem_cons_of_mem _ h1, h2⟩
theorem cloFrom_acc {cells : List (Str × Addr)} : ∀ {names : List (Str × NameKind)} {acc : List (Str × Addr)} {p : Str × Addr}, p ∈ acc → p ∈ cloFrom cells names acc
  | [], _, _, h => h
  | (m, k) :: r, acc, p, h => by
    unfold cloFrom
    split
    · exact cloFrom_acc (List.mem_cons_of_mem _ h)
    · exact cloFrom_acc h
theorem cloFrom_has {cells : List (Str × Addr)} : ∀ {names : List (Str × NameKind)} {acc : List (Str × Addr)} {n : Str}, (n, .free) ∈ names → (n, (cells.lookup n).getD 0) ∈ cloFrom cells names acc
  | (m, k) :: r, acc, n, h => by
    unfold cloFrom
    rcases List.mem_cons.mp h with e | h
    · cases e
      exact cloFrom_acc List.mem_cons_self
    · split
      · exact cloFrom_has h
      · exact cloFrom_has h
theorem cells_mem : ∀ {names : List (Str × NameKind)} {h : Heap} {acc : List (Str × Addr)} {x : Str} {c : Addr}, (x, c) ∈ cellsFrom h.objs.size names acc →
    (x, c) ∈ acc ∨ ((x, .cell) ∈ names ∧ h.objs.size ≤ c ∧ CellAt (pushCells h names) c none)
  | [], _, _, _, _, h => .inl h
  | (n, k) :: r, h, acc, x, c, hm => by
    unfold cellsFrom at hm
    unfold pushCells
    split at hm
    · rename_i hk
      rw [if_pos hk]
      have hk : k = .cell := by simpa using hk
      rw [← Heap.size_push h { cls := .type "cell", data := .cell none }] at hm
      rcases cells_mem hm with hm | ⟨h1, h2, h3⟩
      · rcases List.mem_cons.mp hm with e | hm
        · cases e
          exact .inr ⟨hk ▸ List.mem_cons_self, Nat.le_refl _, _, pushCells_keeps r _ _ _ (Heap.get?_push_size _ rfl), rfl⟩
        · exact .inl hm
      · rw [Heap.size_push] at h2
        exact .inr ⟨List.mem_cons_of_mem _ h1, Nat.le_of_succ_le h2, h3⟩
    · rename_i hk
      rw [if_neg hk]
      rcases cells_mem hm with hm | ⟨h1, h2, h3⟩
      · exact .inl hm
      · exact .inr ⟨List.mem_cons_of_mem _ h1, h2, h3⟩
theorem cells_acc : ∀ {names : List (Str × NameKind)} {n : Nat} {acc : List (Str × Addr)} {p : Str × Addr}, p ∈ acc → p ∈ cellsFrom n names acc
  | [], _, _, _, h => h
  | (m, k) :: r, n, acc, p, h => by
    unfold cellsFrom
    split
    · exact cells_acc (List.mem_cons_of_mem _ h)
    · exact cells_acc h
theorem cells_has : ∀ {names : List (Str × NameKind)} {n : Nat} {acc : List (Str × Addr)} {x : Str}, (x, .cell) ∈ names → ∃ c, (x, c) ∈ cellsFrom n names acc
  | (m, k) :: r, n, acc, x, h => by
    unfold cellsFrom
    rcases List.mem_cons.mp h with e | h
    · cases e
      exact ⟨n, cells_acc List.mem_cons_self⟩
    · split
      · exact cells_has h
      · exact cells_has h
theorem cells_inj : ∀ {names : List (Str × NameKind)} {h : Heap} {acc : List (Str × Addr)} {x y : Str} {c : Addr}, (∀ p ∈ acc, p.2 < h.objs.size) → (∀ x y c, (x, c) ∈ acc → (y, c) ∈ acc → x = y) →
    (x, c) ∈ cellsFrom h.objs.size names acc → (y, c) ∈ cellsFrom h.objs.size names acc → x = y
  | [], _, _, _, _, _, _, hi, h1, h2 => hi _ _ _ h1 h2
  | (n, k) :: r, h, acc, x, y, c, hl, hi, h1, h2 => by
    unfold cellsFrom at h1 h2
    split at h1
    · rename_i hk
      rw [if_pos hk] at h2
      rw [← Heap.size_push h { cls := .type "cell", data := .cell none }] at h1 h2
      refine cells_inj (h := h.push _) (fun p hp => ?_) (fun x y c a b => ?_) h1 h2
      · rw [Heap.size_push]
        rcases List.mem_cons.mp hp with rfl | hp
        · exact Nat.lt_succ_self _
        · exact Nat.lt_succ_of_lt (hl p hp)
      · rcases List.mem_cons.mp a with e | a <;> rcases List.mem_cons.mp b with e' | b
        · cases e; cases e'; rfl
        · cases e; exact absurd (hl _ b) (Nat.lt_irrefl _)
        · cases e'; exact absurd (hl _ a) (Nat.lt_irrefl _)
        · exact hi _ _ _ a b
    · rename_i hk
      rw [if_neg hk] at h2
      exact cells_inj hl hi h1 h2
theorem newEnv_comp {M : Model} {A : Around} {E : Value → Shared → Prop} {s : Shared} {scope : Scope} {globals : Addr} {closure : List (Str × Addr)} {qual : Str} {func : Option Addr} {code : Value} {around : Env} {builtins : Addr} {Q : Env → Shared → Prop}
    (h : Q (newEnv scope s.heap.objs.size globals (cellsFrom (s.heap.objs.size + 1) scope.names closure) qual func code (some around) builtins)
      { s with heap := pushCells (s.heap.push { cls := .type "dict", data := .dict #[] }) scope.names }) :
    wpAny M A (newFunctionEnv scope globals closure [] qual func code (some around) builtins) Q E s := by
  simp only [newFunctionEnv, Option.isSome_some, if_true]
  refine wpAny_bind (wpAny_alloc ?_)
  refine wpAny_bind (wpAny_layCells _ (fun n k c => rfl) scope.names closure _ _ ?_)
  rw [show ({ s with heap := s.heap.push { cls := .type "dict", data := .dict #[] } } : Shared).heap.objs.size = s.heap.objs.size + 1 from Heap.size_push ..]
  rw [List.forIn_nil]
  exact wpAny_bind (wpAny_pure (wpAny_pure h))
theorem lookup_relS {sc : Scope} : ∀ {names : List (Str × NameKind)} {x : Str} {k : NameKind},
    (names.map fun (n, k) => if (k == NameKind.free && sc.kind == .function && sc.names.lookup n == some .cell) then (n, NameKind.cell) else (n, k)).lookup x = some k →
    ∃ k', names.lookup x = some k' ∧ (k = k' ∨ (k' = .free ∧ k = .cell))
  | [], _, _, h => by simp at h
  | (n, k₀) :: r, x, k, h => by
    have ih := @lookup_relS sc r x k
    have h' : List.lookup x ((if (k₀ == NameKind.free && sc.kind == .function && sc.names.lookup n == some .cell) = true then (n, NameKind.cell) else (n, k₀)) :: (r.map _)) = some k := h
    cases hx : x == n with
    | true =>
      simp only [List.lookup_cons, hx]
      by_cases hc : (k₀ == NameKind.free && sc.kind == .function && sc.names.lookup n == some .cell) = true
      · rw [if_pos hc] at h'
        simp only [List.lookup_cons, hx] at h'
        cases h'
        simp only [Bool.and_eq_true, beq_iff_eq] at hc
        exact ⟨k₀, rfl, .inr ⟨hc.1.1, rfl⟩⟩
      · rw [if_neg hc] at h'
        simp only [List.lookup_cons, hx] at h'
        cases h'
        exact ⟨_, rfl, .inl rfl⟩
    | false =>
      simp only [List.lookup_cons, hx]
      by_cases hc : (k₀ == NameKind.free && sc.kind == .function && sc.names.lookup n == some .cell) = true
      · rw [if_pos hc] at h'
        simp only [List.lookup_cons, hx] at h'
        exact ih h'
      · rw [if_neg hc] at h'
        simp only [List.lookup_cons, hx] at h'
        exact ih h'
structure BlkOk (N : List Str) (sc scope : Scope) (own : List (Str × Nat)) : Prop where
  kind : scope.kind = .function
  uniq : ∀ y ∈ scope.names, scope.names.lookup y.1 = some y.2
  ix : ∀ p ∈ own, N[p.2]? = some p.1
  free : ∀ y ∈ scope.names, y.2 = .free → sc.names.lookup y.1 = some .cell ∨ sc.names.lookup y.1 = some .free
  own : ∀ y ∈ scope.names, y.2 = .local ∨ y.2 = .cell → y.1 ∈ own.map (·.1) ∨ y.1 ∉ N
def wipe (σ : St) : List Nat → St
  | [] => σ
  | v :: vs => (wipe σ vs).set v none
theorem wipe_length (σ : St) : ∀ vs : List Nat, (wipe σ vs).length = σ.length
  | [] => rfl
  | v :: vs => by unfold wipe; rw [List.length_set, wipe_length σ vs]
theorem wipe_some {σ : St} {i : Nat} {x : V} : ∀ {vs : List Nat}, (wipe σ vs)[i]? = some (some x) → σ[i]? = some (some x) ∧ i ∉ vs
  | [], h => ⟨h, by simp⟩
  | v :: vs, h => by
    unfold wipe at h
    by_cases hi : v = i
    · subst hi
      by_cases hv : v < (wipe σ vs).length
      · rw [List.getElem?_set_self hv] at h; cases h
      · rw [List.getElem?_eq_none (by simpa using hv)] at h; cases h
    · rw [List.getElem?_set_ne hi] at h
      obtain ⟨h1, h2⟩ := wipe_some h
      exact ⟨h1, by simp only [List.mem_cons, not_or]; exact ⟨fun e => hi e.symm, h2⟩⟩
abbrev Cx.blk (X : Cx) (s : Shared) (H : Hp) (scope : Scope) (cenv : Env) (fp : List Addr) : Cx := { X with s_0 := s, H_0 := H, env := cenv, outer := X.stack, ex := fp, fn := fun x => scope.names.lookup x == some .cell, pn := [], xe := fun _ _ => False }
section
variable {X : Cx} {pins : List (Addr × Obj)} {σ : St} {H : Hp} {s : Shared}
theorem block_start {scope : Scope} {own : List (Str × Nat)} {fp : List Addr} (I : Inv X pins σ H s) (ok : BlkOk X.N X.env.scope scope own) (hN : X.N.Nodup) (hfp : ∀ b ∈ fp, FpOk X pins H b ∧ b < s.heap.objs.size) :
    Inv (X.blk s H scope (compEnvC scope (cellsFrom (s.heap.objs.size + 1) scope.names (cloFrom X.env.cells scope.names [])) s.heap.objs.size X.env) fp) [] (wipe σ (own.map (·.2))) H { s with heap := pushCells (s.heap.push { cls := .type "dict", data := .dict #[] }) scope.names } := by
  have hfree : ∀ y ∈ scope.names, y.2 = .free → ∃ c, X.env.cells.lookup y.1 = some c := fun y hy e => by
    rcases ok.free y hy e with k | k
    · exact I.ok.has _ (.inl k)
    · exact I.ok.has _ (.inr k)
  generalize hcenv : compEnvC scope (cellsFrom (s.heap.objs.size + 1) scope.names (cloFrom X.env.cells scope.names [])) s.heap.objs.size X.env = cenv
  have kp : ∀ b o, s.heap.get? b = some o → (pushCells (s.heap.push { cls := .type "dict", data := .dict #[] }) scope.names).get? b = some o := fun b o e => pushCells_keeps _ _ _ _ (Heap.get?_push_of_some _ e)
  have hL : cenv.locals = s.heap.objs.size := by rw [← hcenv]; rfl
  have hcl : cenv.cells = cellsFrom (s.heap.objs.size + 1) scope.names (cloFrom X.env.cells scope.names []) := by rw [← hcenv]; rfl
  have hsc : cenv.scope = relS scope X.env.scope := by rw [← hcenv]; rfl
  rw [← Heap.size_push s.heap { cls := .type "dict", data := .dict #[] }] at hcl
  have cm : ∀ {y c}, (y, c) ∈ cloFrom X.env.cells scope.names [] → X.env.cells.lookup y = some c ∧ c < s.heap.objs.size := fun {y c} hm => by
    rcases cloFrom_mem hm with hm | ⟨h1, rfl⟩
    · cases hm
    · obtain ⟨c, hc⟩ := hfree _ h1 rfl
      rw [hc]
      obtain ⟨w, z⟩ := I.cell _ _ hc
      exact ⟨rfl, z.lt⟩
  have mem : ∀ {y c}, cenv.cells.lookup y = some c → (X.env.cells.lookup y = some c ∧ c < s.heap.objs.size) ∨ (s.heap.objs.size + 1 ≤ c ∧ CellAt (pushCells (s.heap.push { cls := .type "dict", data := .dict #[] }) scope.names) c none) := fun {y c} e => by
    rw [hcl] at e
    rcases cells_mem (PySem.mem_of_lookup e) with hm | ⟨_, h2, h3⟩
    · exact .inl (cm hm)
    · rw [Heap.size_push] at h2; exact .inr ⟨h2, h3⟩
  have look : ∀ {y}, scope.names.lookup y = some .free → ∃ c, cenv.cells.lookup y = some c ∧ X.env.cells.lookup y = some c := fun {y} hl => by
    have hy : (y, NameKind.free) ∈ scope.names := PySem.mem_of_lookup hl
    obtain ⟨c', e'⟩ := mem_lookup (cells_acc (names := scope.names) (n := (s.heap.push { cls := .type "dict", data := .dict #[] }).objs.size) (cloFrom_has (cells := X.env.cells) (acc := []) hy))
    rw [← hcl] at e'
    refine ⟨c', e', ?_⟩
    rw [hcl] at e'
    rcases cells_mem (PySem.mem_of_lookup e') with hm | ⟨h1, _, _⟩
    · exact (cm hm).1
    · have := ok.uniq _ h1
      rw [hl] at this; cases this
  have okB : (X.blk s H scope cenv fp).Ok := by
    refine ⟨I.ok.mod, by show cenv.scope.kind = _; rw [hsc]; exact ok.kind, by show cenv.globals = _; rw [← hcenv]; exact I.ok.glob, by show cenv.builtins = _; rw [← hcenv]; exact I.ok.blt, by show s.heap.objs.size ≤ cenv.locals; rw [hL]; exact Nat.le_refl _,
      fun y z c e1 e2 => ?_, fun y hy => ?_, fun y c z e => ?_, I.ok.hd, I.ok.frames, .inl rfl, fun b hb => ⟨?_, fun y c e z => ?_⟩, I.bs, Nat.le_trans I.ok.bsz I.sz, fun b o e hb => ?_, fun b hb z => ?_, I.stack, I.stkFree⟩
    · have e1 : cenv.cells.lookup y = some c := e1
      have e2 : cenv.cells.lookup z = some c := e2
      rw [hcl] at e1 e2
      refine cells_inj (fun p hp => ?_) (fun y z c a b => I.ok.inj y z c (cm a).1 (cm b).1) (PySem.mem_of_lookup e1) (PySem.mem_of_lookup e2)
      rw [Heap.size_push]
      exact Nat.lt_succ_of_lt (cm (y := p.1) (c := p.2) hp).2
    · show ∃ c, cenv.cells.lookup y = some c
      have key : ∀ k, cenv.kindOf y = some k → (k = .cell ∨ k = .free) → ∃ c, cenv.cells.lookup y = some c := fun k hk hk' => by
        unfold Env.kindOf at hk
        rw [hsc] at hk
        obtain ⟨k', e, r⟩ := lookup_relS hk
        have : k' = .cell ∨ k' = .free := by
          rcases r with rfl | ⟨rfl, _⟩
          · exact hk'
          · exact .inr rfl
        rcases this with rfl | rfl
        · obtain ⟨c, hm⟩ := cells_has (n := (s.heap.push { cls := .type "dict", data := .dict #[] }).objs.size) (acc := cloFrom X.env.cells scope.names []) (PySem.mem_of_lookup e)
          obtain ⟨c', e'⟩ := mem_lookup hm
          exact ⟨c', by rw [hcl]; exact e'⟩
        · obtain ⟨c, h1, _⟩ := look e
          exact ⟨c, h1⟩
      rcases hy with hy | hy
      · exact key _ hy (.inl rfl)
      · exact key _ hy (.inr rfl)
    · have z : (scope.names.lookup y == some NameKind.cell) = true := z
      have z : scope.names.lookup y = some .cell := by simpa using z
      have e : cenv.cells.lookup y = some c := e
      rw [hcl] at e
      rcases cells_mem (PySem.mem_of_lookup e) with hm | ⟨_, h2, _⟩
      · rcases cloFrom_mem hm with hm | ⟨h1, _⟩
        · cases hm
        · have q := ok.uniq _ h1
          rw [z] at q; cases q
      · rw [Heap.size_push] at h2
        exact Nat.le_of_succ_le h2
    · show b ≠ cenv.locals
      rw [hL]; exact Nat.ne_of_lt (hfp b hb).2
    · have e : cenv.cells.lookup y = some c := e
      rcases mem e with ⟨h1, _⟩ | ⟨h1, _⟩
      · exact (hfp b hb).1.2.2.2.2.1 y c h1 z
      · have h2 : s.heap.objs.size + 1 ≤ b := by rw [← z]; exact h1
        exact absurd (Nat.lt_of_lt_of_le (hfp b hb).2 (Nat.le_of_succ_le h2)) (Nat.lt_irrefl _)
    · rcases (hfp b hb).1.2.2.2.1 with z | z
      · exact I.ok.noex b o e z
      · exact absurd (Nat.lt_of_lt_of_le (Heap.lt_size e) (Nat.le_trans I.ok.bsz z)) (Nat.lt_irrefl _)
    · rcases List.mem_cons.mp (I.stkSub b z) with z | z
      · exact (hfp b hb).1.2.1 z
      · exact (hfp b hb).1.2.2.1 z
  refine ⟨okB, rfl, I.bare, Un.kept kp, ⟨fun _ => none, ?_, fun i y av e1 e2 e3 => ?_⟩, fun y c e => ?_, ?_, fun y c e => ?_, fun p hp => ?_, I.hok.kept kp, by rw [wipe_length]; exact I.len⟩
  · show Heap.Ns _ cenv.locals _
    rw [hL]
    exact Heap.Ns.keeps (Heap.Ns.new ..) fun b o e => pushCells_keeps _ _ _ _ e
  · obtain ⟨e2, hne⟩ := wipe_some e2
    have hfr : scope.names.lookup y = some .free ∧ (cenv.kindOf y = some .cell ∨ cenv.kindOf y = some .free) := by
      have key : ∀ k, cenv.scope.names.lookup y = some k → k = .local ∨ k = .cell ∨ k = .free → scope.names.lookup y = some .free ∧ (cenv.kindOf y = some .cell ∨ cenv.kindOf y = some .free) := fun k hk hk' => by
        have hk0 := hk
        rw [hsc] at hk
        obtain ⟨k', e, r⟩ := lookup_relS hk
        have no : ¬ (k' = .local ∨ k' = .cell) := fun hh => by
          rcases ok.own _ (PySem.mem_of_lookup e) hh with e' | e'
          · obtain ⟨p, hp, hpy⟩ := List.mem_map.mp e'
            have e3 := ok.ix p hp
            have : p.1 = y := hpy
            rw [this] at e3
            exact hne (List.mem_map.mpr ⟨p, hp, nodup_ix hN e3 e1⟩)
          · exact e' (List.mem_of_getElem? e1)
        rcases r with rfl | ⟨rfl, rfl⟩
        · rcases hk' with rfl | rfl | rfl
          · exact absurd (.inl rfl) no
          · exact absurd (.inr rfl) no
          · exact ⟨e, .inr hk0⟩
        · exact ⟨e, .inl hk0⟩
      have e3 : Vis cenv.scope y := e3
      rcases e3 with e3 | e3 | e3
      · exact key _ e3 (.inl rfl)
      · exact key _ e3 (.inr (.inl rfl))
      · exact key _ e3 (.inr (.inr rfl))
    obtain ⟨m, hn, hl⟩ := I.loc
    have hvis : Vis X.env.scope y := (ok.free _ (PySem.mem_of_lookup hfr.1) rfl).elim (fun k => .inr (.inl k)) (fun k => .inr (.inr k))
    obtain ⟨w, r, q⟩ := hl i y av e1 e2 hvis
    refine ⟨w, r, .inr ⟨hfr.2, ?_⟩⟩
    obtain ⟨c, h1, h2⟩ := look hfr.1
    rcases q with ⟨k, _⟩ | ⟨_, c', e', z⟩
    · have k : X.env.scope.names.lookup y = some .local := k
      rcases ok.free _ (PySem.mem_of_lookup hfr.1) rfl with k' | k' <;> rw [show X.env.scope.names.lookup y = _ from k'] at k <;> cases k
    · rw [h2] at e'; cases e'
      exact ⟨c, h1, z.keeps kp⟩
  · have e : cenv.cells.lookup y = some c := e
    rcases mem e with ⟨h1, _⟩ | ⟨_, z⟩
    · obtain ⟨w, z⟩ := I.cell y c h1
      exact ⟨w, z.keeps kp⟩
    · exact ⟨_, z⟩
  · show H cenv.locals = none
    rw [hL]; exact I.hok.fresh (Nat.le_refl _)
  · have e : cenv.cells.lookup y = some c := e
    rcases mem e with ⟨h1, _⟩ | ⟨h1, _⟩
    · exact I.freeC y c h1
    · exact I.hok.fresh (Nat.le_of_succ_le h1)
  · exact absurd (show p ∈ ([] : List (Addr × Obj)) ++ [] from hp) (by simp)
theorem app_ok {E : Value → Shared → Prop} {D : Addr} {xs : List V} {y : V} {v : Value} {Q : Value → Shared → Prop} (I : Inv X pins σ H s) (hD : H D = some (.lst xs)) (hz : xs.length < sizeLine) (r : RelV y v)
    (h : ∀ s', Inv X pins σ (upd H D (.lst (xs ++ [y]))) s' → Q .none s') : wpAny (model X.prog X.w) X.A (call (.builtin "list.append") [.ref D, v]) Q E s := by
  obtain ⟨hz', its, n, ri, e⟩ := I.hok D _ hD
  have hl := ri.length
  refine append_at (hsz := by rw [List.size_toArray]; omega) e fun h' sb ho' => ?_
  refine h { s with heap := h' } (I.write (t' := s.toks) (by rw [hD]; trivial) (.inl rfl) (fun b u hb q => (sb.2 b hb).trans q) ⟨_, ho'⟩ ⟨by rw [List.length_append]; exact hz, its ++ [v], n + 1, ri.append (.cons r .nil), ?_⟩)
  rw [ho']
  simp
def PTs (X : Cx) (ifs : List Expr) (t : TT) : Prop :=
  ∀ (pins : List (Addr × Obj)) (s : Shared) (σ : St) (H : Hp) (Q : Bool → Hp → Prop), Inv X pins σ H s → t σ H Q →
    wpAny (model X.prog X.w) X.A (forIn ifs true fun c r => if r = true then do let ok ← isTrue c X.env (eval c X.env); pure (ForInStep.yield ok) else pure (ForInStep.yield r)) (TP X pins σ Q) X.xe s
def tYes : TT := fun _ H Q => Q true H
theorem pts_nil : PTs X [] tYes := fun _ _ _ H _ I h => wpAny_tests_nil ⟨H, I, h⟩
theorem pts_one {c : Expr} {t : TT} (h : PT X c t) : PTs X [c] t := fun pins s σ H Q I hw => wpAny_tests_one (h pins s σ H Q I hw)
end
theorem thnF {α : Type} {t : Sem α} {Q Q' : α → Shared → Prop} {M : Model} {A : Around} {E : Value → Shared → Prop} {s : Shared} (h : wpAny M A t Q (fun _ _ => False) s) (hQ : ∀ a s, Q a s → Q' a s) : wpAny M A t Q' E s := wpAny_mono h hQ fun _ _ z => False.elim z
theorem compLoop_any {prog : Program} {w : World} {A : Around} {R : Result → Shared → Prop} {s : Shared} {elt target iter : Expr} {ifs : List Expr} {scope : Scope} {pos : Pos} {it acc : Value} {env : Env} (I : Nat → Shared → Prop)
    (turn : ∀ n s, I n s → wpAny (model prog w) A (pyNext it) (fun r s₁ => match r with
      | none => R (.ok .next) s₁
      | some v => wpAny (model prog w) A (letOwnedTupleGo target it v) (fun _ s₁' => wpAny (model prog w) A (assign target env v) (fun _ s₂ =>
          wpAny (model prog w) A (forIn ifs true fun c r => if r = true then do let ok ← isTrue c env (eval c env); pure (ForInStep.yield ok) else pure (ForInStep.yield r)) (fun ok s₃ =>
            if ok = true then wpAny (model prog w) A (eval elt env) (fun x s₄ =>
              wpAny (model prog w) A (call (.builtin "list.append") [acc, x]) (fun _ s₅ => ∃ m, m < n ∧ I m s₅) (notedBy (model prog w) A env fun e s' => R (.error e) s') s₄) (notedBy (model prog w) A env fun e s' => R (.error e) s') s₃
            else ∃ m, m < n ∧ I m s₃) (notedBy (model prog w) A env fun e s' => R (.error e) s') s₂) (notedBy (model prog w) A env fun e s' => R (.error e) s') s₁') (notedBy (model prog w) A env fun e s' => R (.error e) s') s₁) (notedBy (model prog w) A env fun e s' => R (.error e) s') s)
    (n : Nat) (h : I n s) :
    codeAny (model prog w) A (.compLoop (.ListComp elt [⟨target, iter, ifs, 0⟩] scope pos) 0 it acc env) R s := by
  refine codeAny_loop rfl I (fun n s hI => ?_) n h
  show wpAny _ A ((compTurn (.ListComp elt [⟨target, iter, ifs, 0⟩] scope pos) 0 it acc env).onRaise (fun x => do noteFrame x env; theTreesLotGoes x)) _ _ s
  refine wpAny_noted ?_
  rw [compTurn_list]
  refine wpAny_bind (wpAny_standAt (wpAny_bind (wpAny_mono (turn n s hI) (fun r s₁ h₁ => ?_) fun _ _ h' => h')))
  cases r with
  | none => exact wpAny_pure h₁
  | some v =>
    refine wpAny_bind (wpAny_mono h₁ (fun _ s₁' h₁' => ?_) fun _ _ h' => h')
    refine wpAny_bind (wpAny_mono h₁' (fun _ s₂ h₂ => wpAny_bind (wpAny_mono h₂ (fun ok s₃ h₃ => ?_) fun _ _ h' => h')) fun _ _ h' => h')
    cases ok with
    | false => exact wpAny_pure ⟨rfl, h₃⟩
    | true =>
      exact wpAny_bind (wpAny_bind (wpAny_mono h₃ (fun x s₄ h₄ => wpAny_bind (wpAny_mono h₄ (fun _ s₅ h₅ => wpAny_pure (wpAny_pure ⟨rfl, h₅⟩)) fun _ _ h' => h')) fun _ _ h' => h'))
section
variable {X : Cx}
def tLc (wi : TI) (g : TG) (tt : TT) (te : TE) (vs : List Nat) : TE := fun σ H Q => wi σ H fun J H1 => ∀ D, H1 D = none → ∃ W : Nat → Nat → Hp → Prop, (∃ m, W 0 m (upd H1 D (.lst []))) ∧ ∀ i m H, W i m H →
  (J.stop i H ∧ Q (.ref D) H) ∨ (J.go i H ∧ ∃ Nx : Hp → Prop, (∀ H', Nx H' → ∃ m', m' < m ∧ W (i + 1) m' H') ∧ ∀ x H', J.yld i H x H' → g x (wipe σ vs) H' fun σ2 H2 => wipe σ2 vs = wipe σ vs ∧ tt σ2 H2 fun b H3 =>
    if b = true then te σ2 H3 fun y H4 => ∃ acc, H4 D = some (.lst acc) ∧ acc.length < sizeLine ∧ Nx (upd H4 D (.lst (acc ++ [y]))) else Nx H3)
theorem lc_core {pins : List (Addr × Obj)} {s : Shared} {σ : St} {H : Hp} {Q : VK} {elt tg iter : Expr} {ifs : List Expr} {scope : Scope} {own : List (Str × Nat)} {pos pos' : Pos} {wi : TI} {g : TG} {tt : TT} {te : TE} {use : Option (Value → Sem Unit)} {Qf : Value → Shared → Prop}
    (hc : X.calm = true) (hN : X.N.Nodup) (I : Inv X pins σ H s) (hi : PI X tg iter wi) (ok : BlkOk X.N X.env.scope scope own)
    (hg : ∀ (s : Shared) (H : Hp) (C : Addr) (cl : List (Str × Addr)) (fp : List Addr), PG (X.blk s H scope (compEnvC scope cl C X.env) fp) tg g) (ht : ∀ (s : Shared) (H : Hp) (C : Addr) (cl : List (Str × Addr)) (fp : List Addr), PTs (X.blk s H scope (compEnvC scope cl C X.env) fp) ifs tt)
    (he : ∀ (s : Shared) (H : Hp) (C : Addr) (cl : List (Str × Addr)) (fp : List Addr), PE (X.blk s H scope (compEnvC scope cl C X.env) fp) elt te) (hs : ∀ x, foldedSetIterable iter X.env x = pure x)
    (h : tLc wi g tt te (own.map (·.2)) σ H Q)
    (hRR : ∀ D C s' m H', Inv X pins σ H' s' → Q (.ref D) H' → s'.heap.Ns C m → FpOk X pins H' C → compPost (model X.prog X.w) X.A X.xe use Qf (.ref D) C (.ok .next) s') :
    wpAny (model X.prog X.w) X.A (comprehension (.ListComp elt [⟨tg, iter, ifs, 0⟩] scope pos) scope X.env pos' (newList []) false (eval iter X.env) use) Qf X.xe s := by
  have hfree : ∀ y ∈ scope.names, y.2 = .free → ∃ c, X.env.cells.lookup y.1 = some c := fun y hy e => by
    rcases ok.free y hy e with k | k
    · exact I.ok.has _ (.inl k)
    · exact I.ok.has _ (.inr k)
  refine wpAny_comprehension_free (use := use) rfl hs (closure_ok hfree) ok.kind (fun y hy e => by rw [ok.uniq y hy, e])
    (thn (hi pins s σ H _ I h) fun xv s1 hx => thn hx fun itv s2 h2 => ?_)
  obtain ⟨it, fp, tn, J, H2, e, I2, T, st2, f2, q⟩ := h2
  subst e
  refine wpAny_newObj_type (newEnv_comp ?_) (by show 0 ≤ sizeLine; decide)
  generalize hD : s2.heap.objs.size = D
  have hDn : H2 D = none := I2.hok.fresh (Nat.le_of_eq hD)
  obtain ⟨W, ⟨m0, w0⟩, turn⟩ := q D hDn
  -- the new list
  generalize hs3 : ({ s2 with heap := s2.heap.push { cls := .type "list", data := .seq ([] : List Value).toArray } } : Shared) = s3
  have I3 : Inv X pins σ (upd H2 D (.lst [])) s3 := by
    rw [← hs3]
    refine I2.laid (t' := s2.toks) (fun b o e => Heap.get?_push_of_some _ e) (Nat.le_of_eq hD) ⟨Nat.zero_le _, [], 0, .nil, ?_⟩
    rw [← hD]
    exact Heap.get?_push_size _ rfl
  have h3 : s3.heap = s2.heap.push { cls := .type "list", data := .seq ([] : List Value).toArray } := by rw [← hs3]
  have sz : ∀ b ∈ fp, b < s2.heap.objs.size := fun b hb => by
    obtain ⟨o, e, _⟩ := T.obj _ _ st2 b hb
    exact Heap.lt_size e
  have f3 : ∀ b ∈ fp, FpOk X pins (upd H2 D (.lst [])) b ∧ b < s3.heap.objs.size := fun b hb => by
    have hlt := sz b hb
    refine ⟨⟨?_, (f2 b hb).2⟩, by rw [h3, Heap.size_push]; exact Nat.lt_succ_of_lt hlt⟩
    rw [upd_ne (by rw [← hD]; exact Nat.ne_of_lt hlt)]
    exact (f2 b hb).1
  have st3 : tn 0 s3.heap := T.keep _ _ _ st2 fun b _ o e => by rw [h3]; exact Heap.get?_push_of_some _ e
  have I4 := block_start I3 ok hN f3
  have pg := hg s3 (upd H2 D (.lst [])) s3.heap.objs.size (cellsFrom (s3.heap.objs.size + 1) scope.names (cloFrom X.env.cells scope.names [])) fp
  have pt := ht s3 (upd H2 D (.lst [])) s3.heap.objs.size (cellsFrom (s3.heap.objs.size + 1) scope.names (cloFrom X.env.cells scope.names [])) fp
  have pe := he s3 (upd H2 D (.lst [])) s3.heap.objs.size (cellsFrom (s3.heap.objs.size + 1) scope.names (cloFrom X.env.cells scope.names [])) fp
  show codeAny _ _ (.compStart (.ListComp elt [⟨tg, iter, ifs, 0⟩] scope pos) 0 (.ref it) (.ref D) (compEnvC scope (cellsFrom (s3.heap.objs.size + 1) scope.names (cloFrom X.env.cells scope.names [])) s3.heap.objs.size X.env)) (compPost (model X.prog X.w) X.A X.xe use Qf (.ref D) s3.heap.objs.size) { s3 with heap := pushCells (s3.heap.push { cls := .type "dict", data := .dict #[] }) scope.names }
  have nfp : ∀ b ∈ fp, (upd H2 D (.lst [])) b = none := fun b hb => (f3 b hb).1.1
  generalize hce : compEnvC scope (cellsFrom (s3.heap.objs.size + 1) scope.names (cloFrom X.env.cells scope.names [])) s3.heap.objs.size X.env = ce at I4 pg pt pe ⊢
  have cL : ce.locals = s3.heap.objs.size := by subst hce; rfl
  generalize hH3 : upd H2 D (.lst []) = H3 at I3 I4 pg pt pe w0 nfp f3
  generalize hs4 : ({ s3 with heap := pushCells (s3.heap.push { cls := .type "dict", data := .dict #[] }) scope.names } : Shared) = s4 at I4 ⊢
  have st4 : tn 0 s4.heap := T.keep _ _ _ st3 fun b _ o e => by rw [← hs4]; exact pushCells_keeps _ _ _ _ (Heap.get?_push_of_some _ e)
  have stat : ∀ {σ' : St} {H' : Hp} {s' : Shared}, Inv (X.blk s3 H3 scope ce fp) [] σ' H' s' → (∀ b ∈ fp, H' b = none) → ∀ b ∈ fp, FpOk (X.blk s3 H3 scope ce fp) [] H' b := fun {σ' H' s'} I' hn b hb =>
    ⟨hn b hb, (I'.ok.exf b hb).1, I'.ok.exfs b hb, .inl hb, fun x c e => (I'.ok.exf b hb).2 x c e, fun p hp => absurd (show p ∈ ([] : List (Addr × Obj)) ++ [] from hp) (by simp)⟩
  have loop : codeAny (model X.prog X.w) X.A (.compLoop (.ListComp elt [⟨tg, iter, ifs, 0⟩] scope pos) 0 (.ref it) (.ref D) ce) (compPost (model X.prog X.w) X.A X.xe use Qf (.ref D) s3.heap.objs.size) s4 := by
    refine compLoop_any (fun n s' => ∃ i H', Inv (X.blk s3 H3 scope ce fp) [] (wipe σ (own.map (·.2))) H' s' ∧ tn i s'.heap ∧ (∀ b ∈ fp, H' b = none) ∧ W i n H') ?_ m0 ⟨0, H3, I4, st4, nfp, w0⟩
    rintro n s5 ⟨i, H5, I5, st5, n5, w5⟩
    rcases turn i n H5 w5 with ⟨stop, qq⟩ | ⟨go, Nx, hNx, step⟩
    · have td := T.done (X.blk s3 H3 scope ce fp) rfl rfl rfl hc i [] s5 _ H5 (fun _ _ => False) I5 (stat I5 n5) st5 stop
      refine thnF td fun r s6 ⟨hr, I6⟩ => ?_
      subst hr
      -- back in the def's context
      have I7 : Inv X pins σ H5 s6 := I3.call' (ch := fp) I6.os I6.base I6.hok I6.bare fun b hb => ⟨(f3 b hb).1.2.2.2.1, (f3 b hb).1.2.1, (f3 b hb).1.2.2.2.2.1, (f3 b hb).1.2.2.2.2.2⟩
      have nC : H5 s3.heap.objs.size = none := by
        have z : H5 ce.locals = none := I6.free
        rw [cL] at z
        exact z
      obtain ⟨m, hn, _⟩ := I6.loc
      have hn : s6.heap.Ns ce.locals m := hn
      rw [cL] at hn
      exact hRR D s3.heap.objs.size s6 m H5 I7 qq hn (I3.fpOk (Nat.le_refl _) nC)
    · have ti := T.item (X.blk s3 H3 scope ce fp) rfl rfl rfl hc i [] s5 _ H5 (fun _ _ => False) I5 (stat I5 n5) st5 go
      refine thnF ti fun r s6 ⟨u, hr, h6⟩ => ?_
      subst hr
      refine thnF h6 fun _ s7 ⟨x, H7, I7, r7, y7, st7, n7⟩ => ?_
      have I7' := I7.pinned (stat I7 n7) (T.obj _ _ st7)
      refine thnF (pg _ s7 _ H7 x u _ I7' r7 (step x H7 y7)) fun _ s8 ⟨σ8, H8, I8, hw8, q8⟩ => ?_
      refine thnF (pt _ s8 σ8 H8 _ I8 q8) fun b s9 ⟨H9, I9, q9⟩ => ?_
      -- the turn's end
      have fin : ∀ {s' : Shared} {H' : Hp}, Inv (X.blk s3 H3 scope ce fp) ([] ++ pinsAt fp s7.heap) σ8 H' s' → Nx H' → ∃ m, m < n ∧ ∃ i H', Inv (X.blk s3 H3 scope ce fp) [] (wipe σ (own.map (·.2))) H' s' ∧ tn i s'.heap ∧ (∀ b ∈ fp, H' b = none) ∧ W i m H' := fun {s' H'} I' nx => by
        obtain ⟨m', hm, w'⟩ := hNx H' nx
        have pin' : ∀ b ∈ fp, ∀ o, s7.heap.get? b = some o → s'.heap.get? b = some o ∧ H' b = none := fun b hb o e =>
          let z := I'.pin (b, o) (List.mem_append_right _ (List.mem_append_right _ (mem_pinsAt hb e)))
          ⟨z.1, z.2.1⟩
        have hl : (wipe σ (own.map (·.2))).length = σ8.length := by rw [← hw8, wipe_length]
        refine ⟨m', hm, i + 1, H', (I'.unpinned (pins := [])).weak hl (fun j v e => ?_), T.keep _ _ _ st7 fun b hb o e => (pin' b hb o e).1, fun b hb => ?_, w'⟩
        · rw [← hw8] at e
          exact (wipe_some e).1
        · obtain ⟨o, e, _⟩ := T.obj _ _ st7 b hb
          exact (pin' b hb o e).2
      cases b with
      | false =>
        simp only [Bool.false_eq_true, if_false] at q9 ⊢
        exact fin I9 q9
      | true =>
        simp only [if_true] at q9 ⊢
        refine thnF (pe _ s9 σ8 H9 _ I9 q9) fun z s10 ⟨yv, H10, I10, r10, acc, hD10, hz10, nx⟩ => ?_
        exact app_ok (X := X.blk s3 H3 scope ce fp) I10 hD10 hz10 r10 fun s11 I11 => fin I11 nx
  exact codeAny_compStart_list loop (T.self X.A 0 _ _ _ st4 loop)
theorem pe_lc {elt tg iter : Expr} {ifs : List Expr} {scope : Scope} {own : List (Str × Nat)} {pos : Pos} {wi : TI} {g : TG} {tt : TT} {te : TE} (hc : X.calm = true) (hN : X.N.Nodup) (hi : PI X tg iter wi) (ok : BlkOk X.N X.env.scope scope own)
    (hg : ∀ (s : Shared) (H : Hp) (C : Addr) (cl : List (Str × Addr)) (fp : List Addr), PG (X.blk s H scope (compEnvC scope cl C X.env) fp) tg g) (ht : ∀ (s : Shared) (H : Hp) (C : Addr) (cl : List (Str × Addr)) (fp : List Addr), PTs (X.blk s H scope (compEnvC scope cl C X.env) fp) ifs tt)
    (he : ∀ (s : Shared) (H : Hp) (C : Addr) (cl : List (Str × Addr)) (fp : List Addr), PE (X.blk s H scope (compEnvC scope cl C X.env) fp) elt te) (hs : ∀ x, foldedSetIterable iter X.env x = pure x := by intro _; rfl) :
    PE X (.ListComp elt [⟨tg, iter, ifs, 0⟩] scope pos) (tLc wi g tt te (own.map (·.2))) := by
  intro pins s σ H Q I h
  rw [eval_ListComp]
  refine lc_core hc hN I hi ok hg ht he hs h fun D C s' m H' I' q hn f => ⟨m, hn, fun h'' sb => ?_⟩
  obtain ⟨f0, f1, f2, f3, f4, f5⟩ := f
  exact ⟨.ref D, H', I'.turned (t' := s'.toks) (fun b o hb e => (sb.2 b hb).trans e) f0 f1 f3 f4 f5, rfl, q⟩
theorem ps_setLc {i : Nat} {y : Str} {py : Pos} {elt tg iter : Expr} {ifs : List Expr} {scope : Scope} {own : List (Str × Nat)} {pos spos : Pos} {wi : TI} {g : TG} {tt : TT} {te : TE} (hc : X.calm = true) (hN : X.N.Nodup) (hy : X.N[i]? = some y) (hyl : X.env.scope.names.lookup y = some .local)
    (hsw : swapsWith (.ListComp elt [⟨tg, iter, ifs, 0⟩] scope pos) (some (.Name y py)) spos.line X.env = pure true) (hi : PI X tg iter wi) (ok : BlkOk X.N X.env.scope scope own)
    (hg : ∀ (s : Shared) (H : Hp) (C : Addr) (cl : List (Str × Addr)) (fp : List Addr), PG (X.blk s H scope (compEnvC scope cl C X.env) fp) tg g) (ht : ∀ (s : Shared) (H : Hp) (C : Addr) (cl : List (Str × Addr)) (fp : List Addr), PTs (X.blk s H scope (compEnvC scope cl C X.env) fp) ifs tt)
    (he : ∀ (s : Shared) (H : Hp) (C : Addr) (cl : List (Str × Addr)) (fp : List Addr), PE (X.blk s H scope (compEnvC scope cl C X.env) fp) elt te) (hs : ∀ x, foldedSetIterable iter X.env x = pure x := by intro _; rfl) :
    PS X (.Assign [.Name y py] (.ListComp elt [⟨tg, iter, ifs, 0⟩] scope pos) spos) (tAsg (tLc wi g tt te (own.map (·.2))) (gName i)) := by
  intro pins s σ H D I h
  rw [exec_Assign_Name_used _ _ _ _ hsw]
  refine wpAny_bind (wpAny_standAt (wpAny_bind ?_))
  show wpAny _ X.A (do let _ ← comprehension (.ListComp elt [⟨tg, iter, ifs, 0⟩] scope pos) scope X.env (firstIterPos [⟨tg, iter, ifs, 0⟩] pos) (newList []) false (eval iter X.env) (some (assign (.Name y py) X.env))) _ _ s
  have h : tLc wi g tt te (own.map (·.2)) σ H (fun x H1 => gName i x σ H1 D.nx) := h
  refine wpAny_bind (thn (lc_core (Qf := fun _ s' => SP X pins D .next s') hc hN I hi ok hg ht he hs h fun L C s' m H' I' q hn f => ?_) fun _ s' hq => wpAny_pure (wpAny_pure hq))
  show wpAny _ _ (assign (.Name y py) X.env (.ref L)) _ _ _
  refine wpAny_assign_Name (store_ok2 (v := V.ref L) I' hN hy (.inl hyl) rfl (fun s2 I2 ⟨a, sb, ha⟩ => ?_) (.inr hyl))
  obtain ⟨f0, f1, f2, f3, f4, f5⟩ := f
  have haC : C ≠ a := by
    rcases ha with z | z
    · rw [z]; exact f1
    · exact fun e => f4 y a z e.symm
  refine ⟨m, hn.sameBut sb haC, fun h3 sb3 => ?_⟩
  exact ⟨_, H', I2.turned (t' := s2.toks) (fun b o hb e => (sb3.2 b hb).trans e) f0 f1 f3 f4 f5, q⟩
theorem sw_true {elt : Expr} {gs : List Comprehension} {scope : Scope} {pos py : Pos} {y : Str} {l : Nat} {env : Env} (hk : env.scope.kind = .function) (hy : env.scope.names.lookup y = some .local) (hl : (py.line == pos.line) = true)
    (ha : (scope.names.any fun (n, k) => n == y && (k == .local || k == .cell)) = false) : swapsWith (.ListComp elt gs scope pos) (some (.Name y py)) l env = pure true := by
  have ky : env.kindOf y = some .local := hy
  have hb : env.blockKind = .function := by unfold Env.blockKind; rw [hk]; rfl
  unfold swapsWith
  simp only [hb, ky, ha, Expr.pos, hl]
  rfl
end
theorem lc_list {K : PySem.W.Frag} {a : Addr} {xs : List V} {g : TG} {tt : TT} {te : TE} {vs : List Nat} {σ : St} {H1 : Hp} {D : Addr} {Qd : Hp → Prop} (Pv : Nat → Hp → Prop) (h0 : Pv 0 (upd H1 D (.lst []))) (hl : ∀ i H, i ≤ xs.length → Pv i H → SqL K H a xs)
    (hs : ∀ i x H, xs[i]? = some x → Pv i H → g x (wipe σ vs) H fun σ2 H2 => wipe σ2 vs = wipe σ vs ∧ tt σ2 H2 fun b H3 =>
      if b = true then te σ2 H3 fun y H4 => ∃ acc, H4 D = some (.lst acc) ∧ acc.length < sizeLine ∧ Pv (i + 1) (upd H4 D (.lst (acc ++ [y]))) else Pv (i + 1) H3) (hd : ∀ H, Pv xs.length H → Qd H) :
    ∃ W : Nat → Nat → Hp → Prop, (∃ m, W 0 m (upd H1 D (.lst []))) ∧ ∀ i m H, W i m H →
      ((Itl K a).stop i H ∧ Qd H) ∨ ((Itl K a).go i H ∧ ∃ Nx : Hp → Prop, (∀ H', Nx H' → ∃ m', m' < m ∧ W (i + 1) m' H') ∧ ∀ x H', (Itl K a).yld i H x H' → g x (wipe σ vs) H' fun σ2 H2 => wipe σ2 vs = wipe σ vs ∧ tt σ2 H2 fun b H3 =>
        if b = true then te σ2 H3 fun y H4 => ∃ acc, H4 D = some (.lst acc) ∧ acc.length < sizeLine ∧ Nx (upd H4 D (.lst (acc ++ [y]))) else Nx H3) := by
  refine ⟨fun i m H => m = xs.length - i ∧ i ≤ xs.length ∧ Pv i H, ⟨xs.length, by simp, Nat.zero_le _, h0⟩, ?_⟩
  rintro i m H ⟨rfl, hi, p⟩
  have q := hl i H hi p
  by_cases hlt : i < xs.length
  · refine .inr ⟨⟨xs, xs[i], q, by simp [hlt]⟩, Pv (i + 1), fun H' p' => ⟨xs.length - (i + 1), by omega, rfl, hlt, p'⟩, fun x H' y => ?_⟩
    obtain ⟨e, y⟩ := y
    subst e
    exact hs i x _ (y xs q) p
  · have e : i = xs.length := by omega
    subst e
    exact .inl ⟨⟨xs, q, Nat.le_refl _⟩, hd H p⟩
def blkC (N : List Str) (sc scope : Scope) (own : List (Str × Nat)) : Bool :=
  (match scope.kind with | .function => true | _ => false) && (scope.names.all fun y => decide (scope.names.lookup y.1 = some y.2)) && (own.all fun p => decide (N[p.2]? = some p.1)) &&
    (scope.names.all fun y => match y.2 with
      | .free => (match sc.names.lookup y.1 with | some .cell => true | some .free => true | _ => false)
      | .local => decide (y.1 ∈ own.map (·.1)) || decide (y.1 ∉ N)
      | .cell => decide (y.1 ∈ own.map (·.1)) || decide (y.1 ∉ N)
      | _ => true)
theorem blkOk_by {N : List Str} {sc scope : Scope} {own : List (Str × Nat)} (h : blkC N sc scope own = true) : BlkOk N sc scope own := by
  unfold blkC at h
  simp only [Bool.and_eq_true, List.all_eq_true, decide_eq_true_eq] at h
  obtain ⟨⟨⟨h1, h2⟩, h3⟩, h4⟩ := h
  refine ⟨?_, h2, h3, fun y hy e => ?_, fun y hy e => ?_⟩
  · split at h1
    · assumption
    · cases h1
  · have q := h4 y hy
    simp only [e] at q
    split at q <;> first | exact .inl (by assumption) | exact .inr (by assumption) | cases q
  · have q := h4 y hy
    rcases e with e | e <;> (simp only [e, Bool.or_eq_true, decide_eq_true_eq] at q; exact q)
section
variable {κ : Type} [DecidableEq κ]
def valV (kvs : List (κ × V)) (k : κ) : Option V := (kvs.find? fun kv => decide (kv.1 = k)).map (·.2)
def putK (kvs : List (κ × V)) (k : κ) (v : V) : List (κ × V) :=
  if (kvs.any fun kv => decide (kv.1 = k)) = true then kvs.map (fun kv => if kv.1 = k then (kv.1, v) else kv) else kvs ++ [(k, v)]
theorem valV_pos {p : κ × V} {r : List (κ × V)} {k : κ} (e : p.1 = k) : valV (p :: r) k = some p.2 := by simp [valV, List.find?_cons, e]
theorem valV_neg {p : κ × V} {r : List (κ × V)} {k : κ} (e : ¬ p.1 = k) : valV (p :: r) k = valV r k := by simp [valV, List.find?_cons, e]
theorem valV_any (k : κ) : ∀ kvs : List (κ × V), (kvs.any fun kv => decide (kv.1 = k)) = (valV kvs k).isSome
  | [] => rfl
  | p :: r => by
    rw [List.any_cons]
    by_cases e : p.1 = k
    · simp only [valV_pos e, decide_eq_true e, Bool.true_or, Option.isSome_some]
    · rw [valV_neg e, decide_eq_false e, Bool.false_or]; exact valV_any k r
theorem valV_map (k j : κ) (y : V) : ∀ kvs : List (κ × V), valV (kvs.map fun kv => if kv.1 = k then (kv.1, y) else kv) j = (valV kvs j).map fun x => if j = k then y else x
  | [] => rfl
  | p :: r => by
    have ih := valV_map k j y r
    rw [List.map_cons]
    by_cases h : p.1 = k
    · rw [if_pos h]
      by_cases e : p.1 = j
      · rw [valV_pos (p := (p.1, y)) e, valV_pos e, Option.map_some, if_pos (e.symm.trans h)]
      · rw [valV_neg (p := (p.1, y)) e, valV_neg e, ih]
    · rw [if_neg h]
      by_cases e : p.1 = j
      · rw [valV_pos (p := p) e, valV_pos e, Option.map_some, if_neg (fun z => h (e.trans z))]
      · rw [valV_neg (p := p) e, valV_neg e, ih]
theorem valV_snoc (k j : κ) (y : V) : ∀ kvs : List (κ × V), valV kvs k = none → valV (kvs ++ [(k, y)]) j = if j = k then some y else valV kvs j
  | [], _ => by
    by_cases e : k = j
    · rw [if_pos e.symm]; exact valV_pos (p := (k, y)) e
    · rw [if_neg (fun z => e z.symm)]; exact valV_neg (p := (k, y)) e
  | p :: r, hn => by
    rw [List.cons_append]
    have hk : ¬ p.1 = k := fun z => by rw [valV_pos z] at hn; cases hn
    rw [valV_neg hk] at hn
    have ih := valV_snoc k j y r hn
    by_cases e : p.1 = j
    · rw [valV_pos e, valV_pos e, if_neg (fun z => hk (e.trans z))]
    · rw [valV_neg e, valV_neg e, ih]
theorem valV_put (kvs : List (κ × V)) (k j : κ) (y : V) : valV (putK kvs k y) j = if j = k then some y else valV kvs j := by
  unfold putK
  by_cases a : (kvs.any fun kv => decide (kv.1 = k)) = true
  · rw [if_pos a, valV_map]
    rw [valV_any] at a
    by_cases e : j = k
    · obtain ⟨x, hx⟩ := Option.isSome_iff_exists.mp a
      rw [if_pos e, e, hx, Option.map_some, if_pos rfl]
    · rw [if_neg e]
      cases valV kvs j with
      | none => rfl
      | some x => rw [Option.map_some, if_neg e]
  · rw [if_neg a]
    refine valV_snoc k j y kvs ?_
    rw [valV_any] at a
    cases q : valV kvs k with
    | none => rfl
    | some x => rw [q] at a; exact (a rfl).elim
theorem length_putK (kvs : List (κ × V)) (k : κ) (v : V) : (putK kvs k v).length ≤ kvs.length + 1 := by
  unfold putK
  split
  · rw [List.length_map]; omega
  · rw [List.length_append, List.length_cons, List.length_nil]; omega
theorem putK_new {kvs : List (κ × V)} {k : κ} (v : V) (h : valV kvs k = none) : putK kvs k v = kvs ++ [(k, v)] := by
  unfold putK
  rw [valV_any, h]
  exact if_neg (by decide)
theorem RelO.isSome_eq {o : Option V} {u : Option Value} (r : RelO o u) : o.isSome = u.isSome := by
  cases o with
  | none => cases u with
    | none => rfl
    | some _ => exact (show False from r).elim
  | some _ => cases u with
    | none => exact (show False from r).elim
    | some _ => rfl
theorem RelO.getD {o : Option V} {u : Option Value} {d : V} {d' : Value} (r : RelO o u) (rd : RelV d d') : RelV (o.getD d) (u.getD d') := by
  cases o with
  | none => cases u with
    | none => exact rd
    | some _ => exact (show False from r).elim
  | some _ => cases u with
    | none => exact (show False from r).elim
    | some _ => exact r
theorem KV.val {kvs : List (κ × V)} {vs : List (κ × Value)} (r : KV kvs vs) (k : κ) : RelO (valV kvs k) (valueAt vs k) := by
  unfold KV at r
  induction r with
  | nil => exact True.intro
  | @cons p q ps qs h t ih =>
    obtain ⟨h1, h2⟩ := h
    by_cases e : p.1 = k
    · have e' : q.1 = k := h1.symm.trans e
      have b : valueAt (q :: qs) k = some q.2 := by simp [valueAt, List.find?_cons, e']
      rw [valV_pos e, b]; exact h2
    · have e' : ¬ q.1 = k := fun z => e (h1.trans z)
      have b : valueAt (q :: qs) k = valueAt qs k := by simp [valueAt, List.find?_cons, e']
      rw [valV_neg e, b]; exact ih
theorem KV.any {kvs : List (κ × V)} {vs : List (κ × Value)} (r : KV kvs vs) (k : κ) : (kvs.any fun kv => decide (kv.1 = k)) = vs.any fun kv => decide (kv.1 = k) := by
  unfold KV at r
  induction r with
  | nil => rfl
  | cons h t ih => rw [List.any_cons, List.any_cons, ih, h.1]
theorem KV.repl {kvs : List (κ × V)} {vs : List (κ × Value)} (r : KV kvs vs) (k : κ) {y : V} {u : Value} (ry : RelV y u) :
    KV (kvs.map fun kv => if kv.1 = k then (kv.1, y) else kv) (vs.map fun kv => if kv.1 = k then (kv.1, u) else kv) := by
  unfold KV at r ⊢
  induction r with
  | nil => exact .nil
  | @cons p q ps qs h t ih =>
    rw [List.map_cons, List.map_cons]
    refine .cons ?_ ih
    obtain ⟨h1, h2⟩ := h
    by_cases e : p.1 = k
    · rw [if_pos e, if_pos (h1.symm.trans e)]; exact ⟨h1, ry⟩
    · rw [if_neg e, if_neg (fun z => e (h1.trans z))]; exact ⟨h1, h2⟩
theorem KV.put {kvs : List (κ × V)} {vs : List (κ × Value)} (r : KV kvs vs) (k : κ) {y : V} {u : Value} (ry : RelV y u) : KV (putK kvs k y) (stored vs k u) := by
  unfold putK stored
  rw [r.any k]
  by_cases e : (vs.any fun kv => decide (kv.1 = k)) = true
  · rw [if_pos e, if_pos e]; exact r.repl k ry
  · rw [if_neg e, if_neg e]; exact Paired.snoc r ⟨rfl, ry⟩
theorem KV.keys {kvs : List (κ × V)} {vs : List (κ × Value)} (r : KV kvs vs) : kvs.map (·.1) = vs.map (·.1) := by
  unfold KV at r
  induction r with
  | nil => rfl
  | cons h t ih => rw [List.map_cons, List.map_cons, ih, h.1]
theorem KV.length {kvs : List (κ × V)} {vs : List (κ × Value)} (r : KV kvs vs) : kvs.length = vs.length := Paired.length r
end
theorem kV_is {P : Program} {w : World} {k : Key} {u : Value} (r : RelV (kV k) u) : (mixKind P w).is k u = true := by
  cases k with
  | inl i => obtain ⟨t, e⟩ := (show ∃ t, u = Value.int i t from r); subst e; exact mixKind_int P w i t
  | inr x => obtain ⟨t, e⟩ := (show ∃ t, u = Value.str x t from r); subst e; exact mixKind_str P w x t
theorem items_are {P : Program} {w : World} : ∀ {ks : List Key} {us : List Value}, Vals (ks.map kV) us → ItemsAre (mixKind P w) ks us
  | [], _, r => by rw [List.map_nil] at r; cases r; exact .nil
  | k :: ks, _, r => by
    rw [List.map_cons] at r
    cases r with
    | cons h t => exact .cons (kV_is h) (items_are t)
abbrev KT (H : Hp) : List (List Key × V) → List (List Key × Addr × Value) → Prop := Paired fun p q => p.1 = q.1 ∧ H q.2.1 = some (.tup (p.1.map kV)) ∧ RelV p.2 q.2.2
theorem KT.val {H : Hp} {kvs : List (List Key × V)} {xs : List (List Key × Addr × Value)} (r : KT H kvs xs) (k : List Key) : RelO (valV kvs k) ((atKey xs k).map (·.2)) := by
  induction r with
  | nil => exact True.intro
  | @cons p q ps qs h t ih =>
    obtain ⟨h1, _, h2⟩ := h
    by_cases e : p.1 = k
    · have e' : q.1 = k := h1.symm.trans e
      have b : atKey (q :: qs) k = some q.2 := by simp [atKey, List.find?_cons, e']
      rw [valV_pos e, b]; exact h2
    · have e' : ¬ q.1 = k := fun z => e (h1.trans z)
      have b : atKey (q :: qs) k = atKey qs k := by simp [atKey, List.find?_cons, e']
      rw [valV_neg e, b]; exact ih
theorem KT.repl {H : Hp} {kvs : List (List Key × V)} {xs : List (List Key × Addr × Value)} (r : KT H kvs xs) (k : List Key) {y : V} {u : Value} (ry : RelV y u) :
    KT H (kvs.map fun kv => if kv.1 = k then (kv.1, y) else kv) (xs.map (putAt k u)) := by
  induction r with
  | nil => exact .nil
  | @cons p q ps qs h t ih =>
    rw [List.map_cons, List.map_cons]
    refine .cons ?_ ih
    obtain ⟨h1, h2, h3⟩ := h
    unfold putAt
    by_cases e : p.1 = k
    · rw [if_pos e, if_pos (h1.symm.trans e)]; exact ⟨h1, h2, ry⟩
    · rw [if_neg e, if_neg (fun z => e (h1.trans z))]; exact ⟨h1, h2, h3⟩
theorem KT.put {H : Hp} {kvs : List (List Key × V)} {xs : List (List Key × Addr × Value)} (r : KT H kvs xs) (k : List Key) {b : Addr} {y : V} {u : Value} (hb : H b = some (.tup (k.map kV))) (ry : RelV y u) :
    KT H (putK kvs k y) (storedH xs k b u) := by
  have e : (kvs.any fun kv => decide (kv.1 = k)) = (atKey xs k).isSome := by
    rw [valV_any, (r.val k).isSome_eq, Option.isSome_map]
  unfold putK storedH
  rw [e]
  by_cases q : (atKey xs k).isSome = true
  · rw [if_pos q, if_pos q]; exact r.repl k ry
  · rw [if_neg q, if_neg q]; exact Paired.snoc r ⟨rfl, hb, ry⟩
theorem KT.keeps {H H' : Hp} {kvs : List (List Key × V)} {xs : List (List Key × Addr × Value)} (r : KT H kvs xs) (ht : ∀ b ys, H b = some (.tup ys) → H' b = some (.tup ys)) : KT H' kvs xs :=
  Paired.mapP r fun _ _ z => ⟨z.1, ht _ _ z.2.1, z.2.2⟩
section
variable {P : Program} {w : World} {H : Hp} {h : Heap} {a : Addr}
theorem rd_of {u : HO} (ok : HOk P w H h) (e : Rd H a u) : ObjOk P w H h a u := e.ok ok
theorem dk_rd {kvs : List (Key × V)} (ok : HOk P w H h) (e : Rd H a (.dK kvs)) : kvs.length ≤ sizeLine ∧ (a == sysModules) = false ∧ ∃ vs, KV kvs vs ∧ h.DictOf (mixKind P w) a vs :=
  show ObjOk P w H h a (.dK kvs) from rd_of ok e
theorem dk_of {kvs : List (Key × V)} (ok : HOk P w H h) (e : H a = some (.dK kvs)) : kvs.length ≤ sizeLine ∧ (a == sysModules) = false ∧ ∃ vs, KV kvs vs ∧ h.DictOf (mixKind P w) a vs := dk_rd ok (.inl e)
theorem key_of {ks : List Key} (ok : HOk P w H h) (e : H a = some (.tup (ks.map kV))) : (tupleKind (mixKind P w)).is h ks a := by
  obtain ⟨_, its, r, o, h1, h2, n, h3⟩ := (show ObjOk P w H h a (.tup (ks.map kV)) from ok a _ e)
  exact ⟨o, its.toArray, n, h1, h2, h3, by simpa using items_are r⟩
theorem dt_rd {kvs : List (List Key × V)} (ok : HOk P w H h) (e : Rd H a (.dT kvs)) : kvs.length ≤ sizeLine ∧ (a == sysModules) = false ∧
    ∃ xs, KT H kvs xs ∧ h.DictOfH (tupleKind (mixKind P w)) a xs := by
  obtain ⟨z, y, xs, r, o, es, ep, h1, h2, h3, h4, h5⟩ := (show ObjOk P w H h a (.dT kvs) from rd_of ok e)
  refine ⟨z, y, xs, r, o, es, ep, h1, h2, h3, h4, fun x hx => ?_, h5⟩
  have all : ∀ {l : List (List Key × V)} {m : List (List Key × Addr × Value)}, KT H l m → ∀ x ∈ m, (tupleKind (mixKind P w)).is h x.1 x.2.1 := by
    intro l m q
    induction q with
    | nil => intro x hx; exact nomatch hx
    | @cons p q ps qs hq t ih =>
      intro x hx
      rcases List.mem_cons.mp hx with e | hx
      · subst e
        exact key_of ok (by rw [← hq.1]; exact hq.2.1)
      · exact ih x hx
  exact all r x hx
theorem dt_of {kvs : List (List Key × V)} (ok : HOk P w H h) (e : H a = some (.dT kvs)) : kvs.length ≤ sizeLine ∧ (a == sysModules) = false ∧
    ∃ xs, KT H kvs xs ∧ h.DictOfH (tupleKind (mixKind P w)) a xs := dt_rd ok (.inl e)
end
def DGet (H : Hp) (a : Addr) (y : V) (r : Option V) : Prop :=
  (∃ kvs k, Rd H a (.dK kvs) ∧ y = kV k ∧ r = valV kvs k) ∨ ∃ kvs k b, Rd H a (.dT kvs) ∧ y = .ref b ∧ H b = some (.tup (k.map kV)) ∧ r = valV kvs k
def DPut (H : Hp) (a : Addr) (y v : V) (H' : Hp) : Prop :=
  (∃ kvs k, H a = some (.dK kvs) ∧ y = kV k ∧ kvs.length < sizeLine ∧ H' = upd H a (.dK (putK kvs k v))) ∨
  ∃ kvs k b, H a = some (.dT kvs) ∧ y = .ref b ∧ H b = some (.tup (k.map kV)) ∧ kvs.length < sizeLine ∧ H' = upd H a (.dT (putK kvs k v))
theorem DGet.k {H : Hp} {a : Addr} {kvs : List (Key × V)} {k : Key} (e : H a = some (.dK kvs)) : DGet H a (kV k) (valV kvs k) := .inl ⟨kvs, k, .inl e, rfl, rfl⟩
theorem DGet.t {H : Hp} {a b : Addr} {kvs : List (List Key × V)} {k : List Key} (e : H a = some (.dT kvs)) (eb : H b = some (.tup (k.map kV))) : DGet H a (.ref b) (valV kvs k) := .inr ⟨kvs, k, b, .inl e, rfl, eb, rfl⟩
theorem DPut.k {H : Hp} {a : Addr} {kvs : List (Key × V)} {k : Key} {v : V} (e : H a = some (.dK kvs)) (hl : kvs.length < sizeLine) : DPut H a (kV k) v (upd H a (.dK (putK kvs k v))) := .inl ⟨kvs, k, e, rfl, hl, rfl⟩
theorem DPut.t {H : Hp} {a b : Addr} {kvs : List (List Key × V)} {k : List Key} {v : V} (e : H a = some (.dT kvs)) (eb : H b = some (.tup (k.map kV))) (hl : kvs.length < sizeLine) :
    DPut H a (.ref b) v (upd H a (.dT (putK kvs k v))) := .inr ⟨kvs, k, b, e, rfl, eb, hl, rfl⟩
section
variable {X : Cx} {pins : List (Addr × Obj)} {σ : St} {H : Hp} {s : Shared} {a : Addr} {y v : V} {u r : Value} {o : Option V} {A : Around} {E : Value → Shared → Prop}
theorem Inv.big (I : Inv X pins σ H s) : sysModules < s.heap.objs.size := by
  have h : mainGlobals < s.heap.objs.size := (I.mod.glob.keeps I.bk).lt
  exact Nat.lt_trans (by decide) h
theorem d_getItem {Q : Value → Shared → Prop} (hu : A.units + 1 < cLine) (I : Inv X pins σ H s) (g : DGet H a y (some v)) (ry : RelV y u) (h : ∀ w' s', Inv X pins σ H s' → RelV v w' → Q w' s') :
    wpAny (model X.prog X.w) A (getItem (.ref a) u) Q E s := by
  rcases g with ⟨kvs, k, e, ey, l⟩ | ⟨kvs, k, b, e, ey, eb, l⟩
  · subst ey
    obtain ⟨z, hd, vs, rel, dd⟩ := dk_rd I.hok e
    obtain ⟨w', hw, rw'⟩ := RelO.some_of (v := v) (o := valueAt vs k) (by rw [l]; exact rel.val k)
    exact wpAny_getItem_of (kV_is ry) dd.mapOf hw (h w' _ (I.tok _) rw')
  · subst ey
    cases (show u = Value.ref b from ry)
    obtain ⟨z, hd, xs, rel, dd⟩ := dt_rd I.hok e
    obtain ⟨w', hw, rw'⟩ := RelO.some_of (v := v) (o := (atKey xs k).map (·.2)) (by rw [l]; exact rel.val k)
    obtain ⟨p, hp, hp2⟩ := Option.map_eq_some_iff.mp hw
    refine wpAny_getItem_heap (tupleKind_room_in1 hu) (key_of I.hok eb) dd hp ?_
    rw [hp2]
    exact h w' _ (I.tok _) rw'
theorem d_in {Q : Value → Shared → Prop} (hu : A.units + 1 < cLine) (I : Inv X pins σ H s) (g : DGet H a y o) (ry : RelV y u) (h : ∀ s', Inv X pins σ H s' → Q (.bool o.isSome) s') :
    wpAny (model X.prog X.w) A (compareOp .In u (.ref a)) Q E s := by
  rcases g with ⟨kvs, k, e, ey, l⟩ | ⟨kvs, k, b, e, ey, eb, l⟩
  · subst ey
    obtain ⟨z, hd, vs, rel, dd⟩ := dk_rd I.hok e
    refine wpAny_in_of (kV_is ry) hd dd.mapOf ?_
    rw [← (rel.val k).isSome_eq, ← l]
    exact h _ (I.tok _)
  · subst ey
    cases (show u = Value.ref b from ry)
    obtain ⟨z, hd, xs, rel, dd⟩ := dt_rd I.hok e
    refine wpAny_in_heap (tupleKind_room_in1 hu) (key_of I.hok eb) hd dd ?_
    have q := (rel.val k).isSome_eq
    rw [Option.isSome_map] at q
    rw [← q, ← l]
    exact h _ (I.tok _)
theorem d_notIn {Q : Value → Shared → Prop} (hu : A.units + 1 < cLine) (I : Inv X pins σ H s) (g : DGet H a y o) (ry : RelV y u) (h : ∀ s', Inv X pins σ H s' → Q (.bool (!o.isSome)) s') :
    wpAny (model X.prog X.w) A (compareOp .NotIn u (.ref a)) Q E s := by
  rcases g with ⟨kvs, k, e, ey, l⟩ | ⟨kvs, k, b, e, ey, eb, l⟩
  · subst ey
    obtain ⟨z, hd, vs, rel, dd⟩ := dk_rd I.hok e
    refine wpAny_notIn_of (kV_is ry) hd dd.mapOf ?_
    rw [← (rel.val k).isSome_eq, ← l]
    exact h _ (I.tok _)
  · subst ey
    cases (show u = Value.ref b from ry)
    obtain ⟨z, hd, xs, rel, dd⟩ := dt_rd I.hok e
    refine wpAny_notIn_heap (tupleKind_room_in1 hu) (key_of I.hok eb) hd dd ?_
    have q := (rel.val k).isSome_eq
    rw [Option.isSome_map] at q
    rw [← q, ← l]
    exact h _ (I.tok _)
theorem d_write {h' : Heap} {t' : Nat} {ob : HO} (I : Inv X pins σ H s) (mu : Mut (H a)) (hs : Heap.SameBut a s.heap h') (he : ∃ q, h'.get? a = some q) (new : ObjOk X.prog X.w (upd H a ob) h' a ob) :
    Inv X pins σ (upd H a ob) { s with heap := h', toks := t' } :=
  I.write (x := a) (e := a) mu (.inl rfl) (fun b q hb z => (hs.2 b hb).trans z) he new
theorem dk_new {P : Program} {w : World} {H' : Hp} {h' : Heap} {kvs : List (Key × V)} {vs : List (Key × Value)} (z : kvs.length ≤ sizeLine) (hd : (a == sysModules) = false) (rel : KV kvs vs) (dd : h'.DictOf (mixKind P w) a vs) :
    ObjOk P w H' h' a (.dK kvs) := ⟨z, hd, vs, rel, dd⟩
theorem d_setItem {H' : Hp} {Q : Unit → Shared → Prop} (hu : A.units + 1 < cLine) (I : Inv X pins σ H s) (g : DPut H a y v H') (ry : RelV y u) (rv : RelV v r) (h : ∀ s', Inv X pins σ H' s' → Q () s') :
    wpAny (model X.prog X.w) A (setItem (.ref a) u r) Q E s := by
  rcases g with ⟨kvs, k, e, ey, l, eH⟩ | ⟨kvs, k, b, e, ey, eb, l, eH⟩
  · subst ey eH
    obtain ⟨z, hd, vs, rel, dd⟩ := dk_of I.hok e
    have hz : vs.length ≤ sizeLine := by rw [← rel.length]; exact z
    have hl : (putK kvs k v).length ≤ sizeLine := by have := length_putK kvs k v; omega
    refine wpAny_setItem_pairs (hsz := hz) (kV_is ry) dd fun h' dd' hs => h _ ?_
    have he : ∃ q, h'.get? a = some q := let ⟨q, _, _, hq, _⟩ := dd'; ⟨q, hq⟩
    exact d_write I (by rw [e]; exact True.intro) hs he (dk_new hl hd (rel.put k rv) dd')
  · subst ey eH
    cases (show u = Value.ref b from ry)
    obtain ⟨z, hd, xs, rel, dd⟩ := dt_of I.hok e
    have hz : xs.length ≤ sizeLine := by rw [← Paired.length rel]; exact z
    have hl : (putK kvs k v).length ≤ sizeLine := by have := length_putK kvs k v; omega
    refine wpAny_setItem_heap (hsz := hz) (tupleKind_room_in1 hu) (key_of I.hok eb) dd fun h' dd' hs => h _ ?_
    obtain ⟨q, es, ep, hq, h2, h3, h4, _, h5⟩ := dd'
    refine d_write I (by rw [e]; exact True.intro) hs ⟨q, hq⟩ ⟨hl, hd, _, (rel.put k eb rv).keeps fun c ys ec => ?_, q, es, ep, hq, h2, h3, h4, h5⟩
    rw [upd_ne (ne_of ec e (fun z => nomatch z))]
    exact ec
end
section
variable {X : Cx} {pins : List (Addr × Obj)} {σ : St} {H : Hp} {s : Shared} {a : Addr} {kvs : List (Key × V)} {k : Key} {u : Value} {A : Around} {E : Value → Shared → Prop}
theorem d_len {Q : Value → Shared → Prop} (I : Inv X pins σ H s) (e : Rd H a (.dK kvs)) (h : ∀ t s', Inv X pins σ H s' → Q (.int kvs.length t) s') : wpAny (model X.prog X.w) A (call (.builtin "len") [.ref a]) Q E s := by
  obtain ⟨z, hd, vs, rel, dd⟩ := dk_rd I.hok e
  refine call_len_dict hd dd (by rw [← rel.length]; rw [sizeLine_eq] at z; omega) ?_
  rw [← rel.length]
  exact h _ _ (I.tok _)
end
def NoSl (i : Expr) : Prop := ∀ ov iv, subscripted i false ov iv = operate [ov, iv] (getItem ov iv)
theorem subD_of {prog : Program} {w : World} {A : Around} {E : Value → Shared → Prop} {s : Shared} {env : Env} {value slice : Expr} {pos : Pos} {T id : String} {Q : Value → Shared → Prop}
    (hl : typeLookup (.type T) "__getitem__" = pure (some (.builtin id))) (hs : NoSl slice)
    (h : wpAny (model prog w) A (eval value env) (fun o s₁ => wpAny (model prog w) A (eval slice env) (fun i s₂ => s₂.TypeIs o T ∧ wpAny (model prog w) A (getItem o i) Q E s₂) E s₁) E s) :
    wpAny (model prog w) A (eval (.Subscript value slice pos) env) Q E s := by
  refine Subscript_ (wpAny_mono h (fun o s₁ h₁ => wpAny_mono h₁ (fun i s₂ h₂ => ?_) fun _ _ x => x) fun _ _ x => x)
  obtain ⟨hT, h₂⟩ := h₂
  unfold subscriptTail
  refine wpAny_bind ?_
  rw [getitemInPython_of_ne hT.not_modules]
  refine wpAny_bind (wpAny_specialOf hT hl ?_)
  have fin : wpAny (model prog w) A (subscripted slice false o i) (fun r s₃ => wpAny (model prog w) A (letTemporaryGo value o r >>= fun _ => pure r) Q E s₃) E s₂ := by
    rw [hs o i]
    exact wpAny_operating (wpAny_mono h₂ (fun r s₃ h₃ => wpAny_bind (wpAny_letTemporaryGo (wpAny_pure h₃))) fun _ _ x => x)
  first
    | exact wpAny_pure (wpAny_bind fin)
    | exact wpAny_bind (wpAny_pure (wpAny_bind fin))
    | exact wpAny_bind fin
theorem dict_typeIs {X : Cx} {pins : List (Addr × Obj)} {σ : St} {H : Hp} {s : Shared} {a : Addr} {y : V} {o : Option V} (I : Inv X pins σ H s) (g : DGet H a y o) : s.TypeIs (.ref a) "dict" := by
  rcases g with ⟨kvs, k, e, _, _⟩ | ⟨kvs, k, b, e, _, _, _⟩
  · obtain ⟨_, _, vs, _, dd⟩ := dk_rd I.hok e
    exact dd.typeIs
  · obtain ⟨_, _, xs, _, dd⟩ := dt_rd I.hok e
    exact dd.typeIs
def tDGet (td ty : TE) : TE := fun σ H Q => td σ H fun x H1 => ty σ H1 fun y H2 => ∃ a v, x = .ref a ∧ DGet H2 a y (some v) ∧ Q v H2
def tDIn (ty td : TE) : TE := fun σ H Q => ty σ H fun y H1 => td σ H1 fun x H2 => ∃ a o, x = .ref a ∧ DGet H2 a y o ∧ Q (.bl o.isSome) H2
def tDNotIn (ty td : TE) : TE := fun σ H Q => ty σ H fun y H1 => td σ H1 fun x H2 => ∃ a o, x = .ref a ∧ DGet H2 a y o ∧ Q (.bl (!o.isSome)) H2
def sDPut (td ty tv : TE) : TS := fun D σ H => tv σ H fun v H1 => td σ H1 fun x H2 => ty σ H2 fun y H3 => ∃ a H4, x = .ref a ∧ DPut H3 a y v H4 ∧ D.nx σ H4
section
variable {X : Cx} {o i e value : Expr} {pos pos' tpos : Pos} {td ty tv : TE}
theorem pe_dget (hu : X.A.units + 1 < cLine) (ho : PE X o td) (hi : PE X i ty) (hs : NoSl i) : PE X (.Subscript o i pos) (tDGet td ty) := by
  intro pins s σ H Q I h
  refine subD_of PySem.F.slot_dict_getitem.lookup hs (thn (ho pins s σ H _ I h) fun u s1 ⟨x, H1, I1, rx, q1⟩ => thn (hi pins s1 σ H1 _ I1 q1) fun iv s2 ⟨y, H2, I2, ry, a, v, ex, g, q2⟩ => ?_)
  subst ex
  obtain rfl : u = Value.ref a := rx
  exact ⟨dict_typeIs I2 g, d_getItem hu I2 g ry fun w' s3 I3 rw' => ⟨v, H2, I3, rw', q2⟩⟩
theorem pc_din (hu : X.A.units + 1 < cLine) (hi : PE X i ty) (ho : PE X o td) : PC X .In i o (tDIn ty td) := by
  intro pins s σ H Q I h
  refine thn (hi pins s σ H _ I h) fun iv s1 ⟨y, H1, I1, ry, q1⟩ => thn (ho pins s1 σ H1 _ I1 q1) fun u s2 ⟨x, H2, I2, rx, a, ov, ex, g, q2⟩ => ?_
  subst ex
  obtain rfl : u = Value.ref a := rx
  exact d_in hu I2 g ry fun s3 I3 => ⟨.bl ov.isSome, H2, I3, rfl, q2⟩
theorem pc_dnotin (hu : X.A.units + 1 < cLine) (hi : PE X i ty) (ho : PE X o td) : PC X .NotIn i o (tDNotIn ty td) := by
  intro pins s σ H Q I h
  refine thn (hi pins s σ H _ I h) fun iv s1 ⟨y, H1, I1, ry, q1⟩ => thn (ho pins s1 σ H1 _ I1 q1) fun u s2 ⟨x, H2, I2, rx, a, ov, ex, g, q2⟩ => ?_
  subst ex
  obtain rfl : u = Value.ref a := rx
  exact d_notIn hu I2 g ry fun s3 I3 => ⟨.bl (!ov.isSome), H2, I3, rfl, q2⟩
theorem ps_dput (hu : X.A.units + 1 < cLine) (ho : PE X o td) (hi : PE X i ty) (hv : PE X value tv) (hs : swapsWith value (some (.Subscript o i pos')) pos.line X.env = pure false) :
    PS X (.Assign [.Subscript o i pos'] value pos) (sDPut td ty tv) := by
  intro pins s σ H D I h
  refine wpAny_Assign_Subscript (thn (hv pins s σ H _ I h) fun r s1 ⟨v, H1, I1, rv, q1⟩ => thn (ho pins s1 σ H1 _ I1 q1) fun u s2 ⟨x, H2, I2, rx, q2⟩ => thn (hi pins s2 σ H2 _ I2 q2) fun iv s3 ⟨y, H3, I3, ry, a, H4, ex, g, q3⟩ => ?_) hs
  subst ex
  obtain rfl : u = Value.ref a := rx
  exact d_setItem hu I3 g ry rv fun s4 I4 => ⟨σ, H4, I4, q3⟩
end
theorem dk_empty {P : Program} {w : World} {H : Hp} (h : Heap) (hb : sysModules < h.objs.size) : ObjOk P w H (h.push { cls := .type "dict", data := .dict #[] }) h.objs.size (.dK []) :=
  ⟨Nat.zero_le _, beq_eq_false_iff_ne.mpr (Ne.symm (Nat.ne_of_lt hb)), [], .nil, Heap.DictOf.new h⟩
theorem dt_empty {P : Program} {w : World} {H : Hp} (h : Heap) (hb : sysModules < h.objs.size) : ObjOk P w H (h.push { cls := .type "dict", data := .dict #[] }) h.objs.size (.dT []) :=
  ⟨Nat.zero_le _, beq_eq_false_iff_ne.mpr (Ne.symm (Nat.ne_of_lt hb)), [], .nil, _, #[], 0, Heap.get?_push_size _ rfl, ⟨rfl, rfl, rfl⟩, rfl, rfl, List.nodup_nil⟩
def tDNewK : TE := fun _ H Q => ∀ p, H p = none → Q (.ref p) (upd H p (.dK []))
def tDNewT : TE := fun _ H Q => ∀ p, H p = none → Q (.ref p) (upd H p (.dT []))
section
variable {X : Cx} {pos : Pos}
theorem pe_dnewK : PE X (.Dict [] [] pos) tDNewK := fun pins s σ H Q I h =>
  wpAny_Dict_empty ⟨.ref s.heap.objs.size, _, I.laid (a := s.heap.objs.size) (o := .dK []) (t' := s.toks) (fun _ _ q => Heap.get?_push_of_some _ q) (Nat.le_refl _) (dk_empty s.heap I.big), rfl, h _ (I.hok.fresh (Nat.le_refl _))⟩
theorem pe_dnewT : PE X (.Dict [] [] pos) tDNewT := fun pins s σ H Q I h =>
  wpAny_Dict_empty ⟨.ref s.heap.objs.size, _, I.laid (a := s.heap.objs.size) (o := .dT []) (t' := s.toks) (fun _ _ q => Heap.get?_push_of_some _ q) (Nat.le_refl _) (dt_empty s.heap I.big), rfl, h _ (I.hok.fresh (Nat.le_refl _))⟩
end
def tPairs : List (TE × TE) → St → Hp → (List (V × V) → Hp → Prop) → Prop
  | [], _, H, Q => Q [] H
  | (tk, tv) :: r, σ, H, Q => tk σ H fun x H1 => tv σ H1 fun y H2 => tPairs r σ H2 fun ps H3 => Q ((x, y) :: ps) H3
abbrev VV : List (V × V) → List (Value × Value) → Prop := Paired fun p q => RelV p.1 q.1 ∧ RelV p.2 q.2
def PPs (X : Cx) (pos : Pos) (keys : List (Option Expr)) (values : List Expr) (trs : List (TE × TE)) : Prop :=
  ∀ (pins : List (Addr × Obj)) (s : Shared) (σ : St) (H : Hp) (Q : List (V × V) → Hp → Prop), Inv X pins σ H s → tPairs trs σ H Q →
    wpAny (model X.prog X.w) X.A (evalPairs (pairTrees keys values X.env pos)) (fun vs s' => ∃ ps H', Inv X pins σ H' s' ∧ VV ps vs ∧ Q ps H') X.xe s
theorem pps_nil {X : Cx} {pos : Pos} : PPs X pos [] [] [] := fun pins s σ H Q I h => pairTrees_nil_walk ⟨[], H, I, .nil, h⟩
theorem pps_cons {X : Cx} {pos : Pos} {k v : Expr} {ks : List (Option Expr)} {vs : List Expr} {tk tv : TE} {trs : List (TE × TE)} (hk : PE X k tk) (hv : PE X v tv) (hr : PPs X pos ks vs trs) :
    PPs X pos (some k :: ks) (v :: vs) ((tk, tv) :: trs) := fun pins s σ H Q I h =>
  pairTrees_cons_walk (thn (hk pins s σ H _ I h) fun u s1 ⟨x, H1, I1, rx, q1⟩ => thn (hv pins s1 σ H1 _ I1 q1) fun w2 s2 ⟨y, H2, I2, ry, q2⟩ =>
    thn (hr pins s2 σ H2 _ I2 q2) fun ws s3 ⟨ps, H3, I3, rel, q3⟩ => ⟨(x, y) :: ps, H3, I3, .cons ⟨rx, ry⟩ rel, q3⟩)
def mergeK (kvs more : List (Key × V)) : List (Key × V) := more.foldl (fun acc kv => putK acc kv.1 kv.2) kvs
theorem KV.merge : ∀ {more : List (Key × V)} {rs : List (Key × Value)} {kvs : List (Key × V)} {vs : List (Key × Value)}, KV more rs → KV kvs vs → KV (mergeK kvs more) (merged vs rs) := by
  intro more rs kvs vs r
  unfold KV at r
  induction r generalizing kvs vs with
  | nil => intro q; exact q
  | @cons p q ps qs h t ih =>
    intro r0
    have e : KV (putK kvs p.1 p.2) (stored vs q.1 q.2) := by
      have := r0.put p.1 h.2
      rw [← h.1]; exact this
    exact ih e
theorem length_mergeK : ∀ (more kvs : List (Key × V)), (mergeK kvs more).length ≤ kvs.length + more.length
  | [], kvs => by show kvs.length ≤ kvs.length + 0; omega
  | p :: r, kvs => by
    have h1 := length_mergeK r (putK kvs p.1 p.2)
    have h2 := length_putK kvs p.1 p.2
    show (mergeK (putK kvs p.1 p.2) r).length ≤ _
    rw [List.length_cons]; omega
theorem carries_of {P : Program} {w : World} : ∀ {kvs : List (Key × V)} {ws : List (Value × Value)}, VV (kvs.map fun kv => (kV kv.1, kv.2)) ws → ∃ rs, Carries (mixKind P w) ws rs ∧ KV kvs rs
  | [], _, r => by rw [List.map_nil] at r; cases r; exact ⟨[], True.intro, .nil⟩
  | p :: kvs, _, r => by
    rw [List.map_cons] at r
    cases r with
    | @cons a b as bs h t =>
      obtain ⟨rs, c, q⟩ := carries_of (P := P) (w := w) t
      obtain ⟨b1, b2⟩ := b
      exact ⟨(p.1, b2) :: rs, ⟨kV_is h.1, rfl, c⟩, .cons ⟨rfl, h.2⟩ q⟩
def tDisp (trs : List (TE × TE)) : TE := fun σ H Q => ∀ p, H p = none → tPairs trs σ (upd H p (.dK [])) fun ps H2 => H2 p = some (.dK []) ∧ ∃ kvs : List (Key × V), ps = kvs.map (fun kv => (kV kv.1, kv.2)) ∧ kvs.length ≤ 15 ∧ Q (.ref p) (upd H2 p (.dK (mergeK [] kvs)))
theorem pe_disp {X : Cx} {pos : Pos} {keys : List (Option Expr)} {values : List Expr} {trs : List (TE × TE)} (h : PPs X pos keys values trs) (hall : keys.all (·.isSome) = true) (hl : keys.length = values.length) (h0 : keys ≠ [])
    (h15 : keys.length ≤ 15) : PE X (.Dict keys values pos) (tDisp trs) := by
  intro pins s σ H Q I q
  have hn := I.hok.fresh (Nat.le_refl s.heap.objs.size)
  have I1 := I.laid (a := s.heap.objs.size) (o := .dK []) (h' := s.heap.push { cls := .type "dict", data := .dict #[] }) (t' := s.toks) (fun _ _ q => Heap.get?_push_of_some _ q) (Nat.le_refl _) (dk_empty s.heap I.big)
  refine wpAny_Dict_walk (knd := mixKind X.prog X.w) hall hl h0 h15 (thn (h pins _ σ _ _ I1 (q _ hn)) fun ws s2 ⟨ps, H2, I2, rel, e, kvs, ep, lk, q2⟩ => ?_)
  subst ep
  obtain ⟨rs, c, rk⟩ := carries_of (P := X.prog) (w := X.w) rel
  obtain ⟨z, hd, vs0, r0, dd⟩ := dk_of I2.hok e
  cases r0
  refine ⟨rs, c, dd, fun h' dd' hs => ⟨.ref s.heap.objs.size, _, ?_, rfl, q2⟩⟩
  have hz : (mergeK [] kvs).length ≤ sizeLine := by
    have h1 := length_mergeK kvs []
    rw [List.length_nil] at h1
    rw [sizeLine_eq]; omega
  have he : ∃ q, h'.get? s.heap.objs.size = some q := let ⟨q, _, _, hq, _⟩ := dd'; ⟨q, hq⟩
  exact d_write I2 (by rw [e]; exact True.intro) hs he (dk_new hz hd (rk.merge .nil) dd')
structure M2 (X : Cx) (o : Expr) (m : Str) (apos : Pos) (e f : Expr) (cpos : Pos) : Prop where
  base : attributeBase o m X.env (eval o X.env) = eval o X.env
  few : ((backTo cpos (starEach [e, f] X.env)).all (fun x => !x.1) && (backToKw cpos (keywordEach [] X.env)).all (fun x => x.1.isSome)
    && decide (([e, f] : List Expr).length + ([] : List Keyword).length + (if ([] : List Keyword).isEmpty then 0 else 1) < 30)) = true
  line : (apos.endLine == cpos.line) = true
  trees : backTo cpos (starEach [e, f] X.env) = [(false, eval e X.env), (false, eval f X.env)]
def IsD (H : Hp) (a : Addr) : Prop := (∃ kvs, Rd H a (.dK kvs)) ∨ ∃ kvs, Rd H a (.dT kvs)
theorem isD_at {X : Cx} {pins : List (Addr × Obj)} {σ : St} {H : Hp} {s : Shared} {a : Addr} (I : Inv X pins σ H s) (d : IsD H a) :
    s.TypeIs (.ref a) "dict" ∧ (∀ b, Value.ref a = .ref b → ∃ ob, s.heap.get? b = some ob ∧ ob.dict = none) ∧ (a == sysModules) = false := by
  rcases d with ⟨kvs, e⟩ | ⟨kvs, e⟩
  · obtain ⟨_, hd, vs, _, dd⟩ := dk_rd I.hok e
    refine ⟨dd.typeIs, fun b q => ?_, hd⟩
    cases q
    obtain ⟨ob, _, _, h1, h2, _⟩ := dd
    exact ⟨ob, h1, h2.2.1⟩
  · obtain ⟨_, hd, xs, _, dd⟩ := dt_rd I.hok e
    refine ⟨dd.typeIs, fun b q => ?_, hd⟩
    cases q
    obtain ⟨ob, _, _, h1, h2, _⟩ := dd
    exact ⟨ob, h1, h2.2.1⟩
section
variable {X : Cx} {pins : List (Addr × Obj)} {σ : St} {H : Hp} {s : Shared} {a : Addr} {y d : V} {u r : Value} {o : Option V} {A : Around} {E : Value → Shared → Prop}
theorem d_get2 {Q : Value → Shared → Prop} (hu : A.units + 1 < cLine) (I : Inv X pins σ H s) (g : DGet H a y o) (ry : RelV y u) (rd : RelV d r) (h : ∀ w' s', Inv X pins σ H s' → RelV (o.getD d) w' → Q w' s') :
    wpAny (model X.prog X.w) A (call (.builtin "dict.get") [.ref a, u, r]) Q E s := by
  rcases g with ⟨kvs, k, e, ey, l⟩ | ⟨kvs, k, b, e, ey, eb, l⟩
  · subst ey
    obtain ⟨z, hd, vs, rel, dd⟩ := dk_rd I.hok e
    refine call_meetsIn PySem.F.slot_dict_get dd.typeIs PySem.F.entry_dict_get (PySem.F.args_dict_get_3 _ _ _) (meets_dict_get_default (mixKind X.prog X.w) a (kV_is ry) hd r) ⟨_, dd.mapOf, h _ _ (I.tok _) ?_⟩
    rw [l]
    exact (rel.val k).getD rd
  · subst ey
    cases (show u = Value.ref b from ry)
    obtain ⟨z, hd, xs, rel, dd⟩ := dt_rd I.hok e
    refine call_meetsIn PySem.F.slot_dict_get dd.typeIs PySem.F.entry_dict_get (PySem.F.args_dict_get_3 _ _ _) (meetsH_dict_get_default (tupleKind (mixKind X.prog X.w)) a b hd r) ⟨tupleKind_room_in1 hu, k, xs, key_of I.hok eb, dd, h _ _ (I.tok _) ?_⟩
    rw [l]
    exact (rel.val k).getD rd
end
def tDGet2 (td ty tx : TE) : TE := fun σ H Q => td σ H fun x H1 => ∃ a, x = .ref a ∧ IsD H1 a ∧ ty σ H1 fun y H2 => tx σ H2 fun z H3 => ∃ o, DGet H3 a y o ∧ Q (o.getD z) H3
section
variable {X : Cx} {o e f : Expr} {apos cpos : Pos} {td ty tx : TE}
theorem pe_dget2 (hu : X.A.units + 1 < cLine) (ho : PE X o td) (he : PE X e ty) (hf : PE X f tx) (m : M2 X o "get" apos e f cpos) : PE X (.Call (.Attribute o "get" apos) [e, f] [] cpos) (tDGet2 td ty tx) := by
  intro pins s σ H Q I h
  refine wpAny_Call_method m.base m.few m.line PySem.F.plainAttrs_dict PySem.F.slot_dict_get PySem.F.type_dict_get (thn (ho pins s σ H _ I h) fun u s1 ⟨x, H1, I1, rx, a, ex, d, q1⟩ => ?_)
  subst ex
  obtain rfl : u = Value.ref a := rx
  obtain ⟨t1, t2, _⟩ := isD_at I1 d
  refine ⟨t1, t2, ?_⟩
  rw [m.trees]
  refine Calls.callWith_builtin rfl (Calls.evalArgs_plain (Calls.spliced_cons (thn (he pins s1 σ H1 _ I1 q1) fun iv s2 ⟨y, H2, I2, ry, q2⟩ =>
    Calls.spliced_cons (thn (hf pins s2 σ H2 _ I2 q2) fun fv s3 ⟨z, H3, I3, rz, ov, g, q3⟩ => Calls.spliced_nil ?_))))
  exact d_get2 hu I3 g ry rz fun w' s4 I4 rw' => ⟨_, H3, I4, rw', q3⟩
end
section
variable {X : Cx} {pins : List (Addr × Obj)} {σ : St} {H : Hp} {s : Shared} {h' : Heap}
theorem Inv.turnedNew {t' : Nat} {ch : List Addr} {T : Addr} {ob : HO} (I : Inv X pins σ H s) (k : ∀ b o, b ∉ ch → s.heap.get? b = some o → h'.get? b = some o) (hf : ∀ b ∈ ch, FpOk X pins H b) (hT : s.heap.objs.size ≤ T)
    (new : ObjOk X.prog X.w (upd H T ob) h' T ob) : Inv X pins σ (upd H T ob) { s with heap := h', toks := t' } := by
  have hn : H T = none := I.hok.fresh hT
  have nit : ∀ b u, H b = some u → b ∉ ch := fun b u e z => by
    have q := (hf b z).1
    rw [q] at e; cases e
  refine I.step (g' := s.gens) (d' := s.drawn) (ch := ch) (fun b hb => ⟨(hf b hb).2.2.2.1, (hf b hb).2.1, (hf b hb).2.2.2.2.1, (hf b hb).2.2.2.2.2⟩) (fun b o _ _ hc e _ => k b o hc e) (fun b o _ _ hc e _ => ⟨o.slots, k b o hc e⟩)
    (fun b o _ e n => ?_) (fun b o hc e => ⟨o, k b o hc e⟩) (fun b xs e => ?_) (fun b o u e => ?_) (fun b ps e => ⟨#[], ?_⟩) (fun m hm => ?_) (fun b u e => ?_) I.bare
  · rw [upd_ne (Nat.ne_of_lt (Nat.lt_of_lt_of_le (Heap.lt_size e) hT))]; exact n
  · rw [upd_ne (ne_of_none e hn)]; exact e
  · rw [upd_ne (ne_of_none e hn)]; exact e
  · rw [upd_ne (ne_of_none e hn), e]; simp
  · obtain ⟨o, es, ep, ho, r⟩ := hm
    exact ⟨o, es, ep, k _ o (fun z => (hf _ z).2.1 rfl) ho, r⟩
  · by_cases hb : b = T
    · subst hb
      rw [upd_same] at e
      cases e
      exact new
    · rw [upd_ne hb] at e
      refine (I.hok b u e).stay (fun c v hc q => k c v ?_ q) (fun c q => by rw [upd_ne (ne_of_none q hn)]; exact q) fun c xs q => by rw [upd_ne (ne_of_none q hn)]; exact q
      rcases hc with z | z
      · rw [z]; exact nit b u e
      · exact nit c _ z
theorem Inv.lock {d : Addr} {u : HO} (I : Inv X pins σ H s) (h : H d = some u) (mu : Mut (some u)) : ∃ od, Inv X pins σ (upd H d (.frz od u)) s := by
  have x := I.hok d u h
  have ex : ∃ od, s.heap.get? d = some od := by
    cases u with
    | lst xs => obtain ⟨_, _, _, _, e⟩ := x; exact ⟨_, e⟩
    | dK kvs => obtain ⟨_, _, _, _, o, _, _, e, _⟩ := x; exact ⟨o, e⟩
    | dT kvs => obtain ⟨_, _, _, _, o, _, _, e, _⟩ := x; exact ⟨o, e⟩
    | set S n => obtain ⟨o, _, _, _, e, _⟩ := x; exact ⟨o, e⟩
    | ins C dx fs => obtain ⟨_, _, _, e, _⟩ := x; exact ⟨_, e⟩
    | ext φ => obtain ⟨_, ⟨_, e⟩, _⟩ := x; exact ⟨_, e⟩
    | _ => exact False.elim mu
  obtain ⟨od, e⟩ := ex
  have new : ObjOk X.prog X.w (upd H d (.frz od u)) s.heap d (.frz od u) := by
    refine ⟨e, x.stay (fun b v _ q => q) (fun b q => ?_) fun b xs q => ?_⟩
    · rw [upd_ne (fun z => by rw [z, h] at q; cases q; exact mu)]; exact q
    · rw [upd_ne (fun z => by rw [z, h] at q; cases q; exact mu)]; exact q
  exact ⟨od, I.write (x := d) (e := d) (t' := s.toks) (h' := s.heap) (by rw [h]; exact mu) (.inl rfl) (fun b v _ q => q) ⟨od, e⟩ new⟩
theorem Inv.nofrz {d : Addr} {u : HO} (I : Inv X pins σ H s) (h : H d = some u) (mu : Mut (some u)) : ∀ o' u', X.H_0 d ≠ some (.frz o' u') := fun o' u' e => by
  have q := I.base.frzs d o' u' e
  rw [h] at q
  cases q
  exact mu
theorem Inv.unlock {d : Addr} {od : Obj} {u : HO} (I : Inv X pins σ H s) (h : H d = some (.frz od u)) (hn : ∀ o' u', X.H_0 d ≠ some (.frz o' u')) : Inv X pins σ (upd H d u) s := by
  have neH : ∀ b o, H b = some o → (∀ o' u', o ≠ .frz o' u') → b ≠ d := fun b o e hne z => by
    rw [z, h] at e
    cases e
    exact hne _ _ rfl
  have neN : ∀ b, H b = none → b ≠ d := fun b e z => by rw [z, h] at e; cases e
  refine ⟨I.ok, I.os, I.bare, ⟨I.base.keep, I.base.slot, fun b o e n hx => ?_, I.base.there, fun b xs e => ?_, fun b o x e => ?_, fun b ps e => ?_⟩, I.loc, I.cell, ?_, fun x c e => ?_, fun p hp => ?_, fun b o e => ?_, I.len⟩
  · rw [upd_ne (neN b (I.base.free b o e n hx))]; exact I.base.free b o e n hx
  · have q := I.base.tups b xs e
    rw [upd_ne (neH b _ q (fun _ _ z => nomatch z))]; exact q
  · have q := I.base.frzs b o x e
    rw [upd_ne (fun z => by rw [z] at e; exact hn _ _ e)]; exact q
  · obtain ⟨m, q⟩ := I.base.tbls b ps e
    exact ⟨m, by rw [upd_ne (neH b _ q (fun _ _ z => nomatch z))]; exact q⟩
  · rw [upd_ne (neN _ I.free)]; exact I.free
  · rw [upd_ne (neN c (I.freeC x c e))]; exact I.freeC x c e
  · obtain ⟨e, n, r⟩ := I.pin p hp
    exact ⟨e, by rw [upd_ne (neN _ n)]; exact n, r⟩
  · by_cases hb : b = d
    · rw [hb, upd_same] at e
      cases e
      rw [hb]
      obtain ⟨_, x⟩ := I.hok d _ h
      exact x.stay (fun c v _ q => q) (fun c q => by rw [upd_ne (neH c _ q (fun _ _ z => nomatch z))]; exact q) fun c xs q => by rw [upd_ne (neH c _ q (fun _ _ z => nomatch z))]; exact q
    · rw [upd_ne hb] at e
      exact (I.hok b o e).stay (fun c v _ q => q) (fun c q => by rw [upd_ne (neH c _ q (fun _ _ z => nomatch z))]; exact q) fun c xs q => by rw [upd_ne (neH c _ q (fun _ _ z => nomatch z))]; exact q
end
def tLock (t : TS) : TS := fun D σ H => ∃ d u, H d = some u ∧ Mut (some u) ∧ ∀ od, t ⟨fun σ' H' => H' d = some (.frz od u) ∧ D.nx σ' (upd H' d u), fun v H' => H' d = some (.frz od u) ∧ D.rt v (upd H' d u), fun σ' H' => H' d = some (.frz od u) ∧ D.bk σ' (upd H' d u), fun σ' H' => H' d = some (.frz od u) ∧ D.ct σ' (upd H' d u)⟩ σ (upd H d (.frz od u))
section
variable {X : Cx}
theorem ps_lock {st : Stmt} {t : TS} (h : PS X st t) : PS X st (tLock t) := by
  intro pins s σ H D I hw
  obtain ⟨d, u, hd, mu, hw⟩ := hw
  obtain ⟨od, I1⟩ := I.lock hd mu
  refine thn (h pins s σ _ _ I1 (hw od)) fun f s1 q => ?_
  cases f with
  | next => obtain ⟨σ', H', I2, e, q⟩ := q; exact ⟨σ', _, I2.unlock e (I.nofrz hd mu), q⟩
  | brk => obtain ⟨σ', H', I2, e, q⟩ := q; exact ⟨σ', _, I2.unlock e (I.nofrz hd mu), q⟩
  | cont => obtain ⟨σ', H', I2, e, q⟩ := q; exact ⟨σ', _, I2.unlock e (I.nofrz hd mu), q⟩
  | ret v => obtain ⟨x, σ', H', I2, r, e, q⟩ := q; exact ⟨x, σ', _, I2.unlock e (I.nofrz hd mu), r, q⟩
theorem pi_one {tg : Expr} {pins : List (Addr × Obj)} {σ : St} {H : Hp} {s : Shared} {R : It → Hp → Prop} {J : It} {tn : Nat → Heap → Prop} {tk : Nat} (I : Inv X pins σ H s) (o : Obj)
    (T : Turn X.prog X.w X.K tg J [s.heap.objs.size] s.heap.objs.size tn) (st : tn 0 (s.heap.push o)) (q : R J H) : PIE X pins σ tg R (.ref s.heap.objs.size) { s with heap := s.heap.push o, toks := tk } := by
  refine ⟨s.heap.objs.size, [s.heap.objs.size], tn, J, H, rfl, I.kept fun b ob e => Heap.get?_push_of_some _ e, T, st, fun b hb => ?_, q⟩
  have e : b = s.heap.objs.size := by simpa using hb
  subst e
  exact I.fpOk (Nat.le_refl _) (I.hok.fresh (Nat.le_refl _))
end
section
variable {prog : Program} {w : World} {A : Around} {E : Value → Shared → Prop} {s : Shared}
theorem iter_keys {d : Addr} {o : Obj} {es : Array DictEntry} {ep : Nat} {Q : Value → Shared → Prop} (hd : (d == sysModules) = false) (ho : s.heap.get? d = some o) (hc : o.ExactDict) (hdat : o.data = .dict es ep)
    (hQ : Q (.ref s.heap.objs.size) { s with heap := s.heap.push { cls := .type "dict_keyiterator", data := .fields #[.ref d, .int 0 0, .int es.size 0, .int ep 0] } }) :
    wpAny (model prog w) A (pyIter (.ref d)) Q E s := by
  have hT : s.TypeIs (.ref d) "dict" := ⟨o, ho, hc.1⟩
  refine wpAny_pyIter_slot hT F.slot_dict_iter (wpAny_call_entry F.slot_dict_iter hT F.entry_dict_iter ?_ (F.args_dict_iter_1 _))
  unfold Builtin.«dict.__iter__»
  refine wpAny_bind ?_
  unfold Builtin.Dict.dictSlotNone
  refine wpAny_bind (wpAny_notOrdered_dict hT ?_)
  show wpAny _ _ (pure (Value.ref d)) _ _ s
  refine wpAny_pure ?_
  show wpAny _ _ (Builtin.Dict.showsAll d >>= _) _ _ s
  unfold Builtin.Dict.showsAll
  rw [if_neg (by rw [hd]; exact Bool.false_ne_true)]
  refine wpAny_bind (wpAny_pure ?_)
  refine wpAny_bind (wpAny_dictEntries ho hdat ?_)
  refine wpAny_bind (wpAny_dictEpoch ho hdat ?_)
  refine wpAny_bind (wpAny_newObj_type (wpAny_pure ⟨_, rfl, "dict_keyiterator", _, ⟨_, Heap.get?_push_size _ rfl, rfl⟩, F.slot_dict_keyiterator_next.lookup, ?_⟩))
  simpa [rawInt] using hQ
theorem next_key_item {it d : Addr} {i n ep : Nat} {od : Obj} {es : Array DictEntry} {en : DictEntry} {Q : Option Value → Shared → Prop} (hit : s.heap.IsKeyIter it d i n ep) (hod : s.heap.get? d = some od) (hdd : od.data = .dict es ep)
    (hsz : es.size = n) (hx : es[i]? = some en) (hQ : ∀ h', h'.IsKeyIter it d (i + 1) n ep → Heap.SameBut it s.heap h' → Q (some en.key) { s with heap := h' }) : wpAny (model prog w) A (pyNext (.ref it)) Q E s := by
  obtain ⟨o, ho, hc, hd⟩ := id hit
  unfold pyNext
  refine wpAny_bind (wpAny_attempt (wpAny_callSpecial?_slot (name := Str.ofString "__next__") hit.typeIs F.slot_dict_keyiterator_next
    (wpAny_call_entry F.slot_dict_keyiterator_next hit.typeIs F.entry_dict_keyiterator_next ?_ (F.args_dict_keyiterator_next_1 _))))
  refine wpAny_bind (wpAny_pure ?_)
  refine wpAny_bind ?_
  refine wpAny_bind ?_
  first | refine wpAny_bind (wpAny_typeNameOfWhole_keyiter hit.typeIs (wpAny_pure ?_)) | refine wpAny_bind (wpAny_typeNameOf_keyiter hit.typeIs (wpAny_pure ?_))
  refine wpAny_bind (wpAny_fieldsOf ho hd ?_)
  have hown : Builtin.Dict_items.ownsTuple "dict_keyiterator" = false := by decide
  simp only [hown, Bool.false_eq_true, if_false]
  show wpAny _ _ (if (Value.ref d == Value.none) = true then _ else _) _ _ s
  rw [if_neg (show ¬ ((Value.ref d == Value.none) = true) from Bool.false_ne_true)]
  refine wpAny_bind (wpAny_pure ?_)
  refine wpAny_bind (wpAny_dictEntries hod hdd ?_)
  rw [if_neg (by rw [hsz]; simp)]
  refine wpAny_bind (wpAny_pure ?_)
  refine wpAny_bind (wpAny_dictEpoch hod hdd ?_)
  rw [if_neg (by simp)]
  refine wpAny_pure ?_
  obtain ⟨hlt', hen⟩ := Array.getElem?_eq_some_iff.mp hx
  simp only [show ¬ ((i : Int) < 0) from by omega, if_false, Int.toNat_natCast, Array.getElem?_eq_getElem hlt']
  refine wpAny_bind ?_
  first | refine wpAny_bind (wpAny_typeNameOfWhole_keyiter hit.typeIs (wpAny_pure ?_)) | refine wpAny_bind (wpAny_typeNameOf_keyiter hit.typeIs (wpAny_pure ?_))
  refine wpAny_bind (wpAny_isOneOf_keyiter hit.typeIs ?_)
  show wpAny _ _ (setField (.ref it) 1 (rawInt ((i : Int) + 1)) >>= _) _ _ s
  refine wpAny_bind (wpAny_setField ho hd (by simp) ?_)
  have hit' : (s.heap.update it (Obj.mapFields (·.setIfInBounds 1 (rawInt ((i : Int) + 1))))).IsKeyIter it d (i + 1) n ep :=
    ⟨_, Heap.get?_update_self _ ho (Obj.isFreed_of_fields (Obj.data_mapFields hd _)), (Obj.cls_mapFields ..).trans hc, by rw [Obj.data_mapFields hd]; simp [rawInt]⟩
  refine wpAny_bind (wpAny_holding ?_)
  refine wpAny_bind (wpAny_isOneOf_keyiter (s := { s with heap := s.heap.update it (Obj.mapFields (·.setIfInBounds 1 (rawInt ((i : Int) + 1)))) }) hit'.typeIs ?_)
  show wpAny _ _ (pure es[i].key) _ _ _
  rw [hen]
  exact wpAny_pure (wpAny_pure ⟨_, rfl, wpAny_pure (hQ _ hit' (Heap.SameBut.update ..))⟩)
theorem next_key_end {it d : Addr} {i n ep : Nat} {od : Obj} {es : Array DictEntry} {Q : Option Value → Shared → Prop} (hh : A.handled = none) (hit : s.heap.IsKeyIter it d i n ep) (hod : s.heap.get? d = some od) (hdd : od.data = .dict es ep)
    (hsz : es.size = n) (hge : n ≤ i) (hQ : ∀ h', Heap.ExtBut it s.heap h' → Q none { s with heap := h' }) : wpAny (model prog w) A (pyNext (.ref it)) Q E s := by
  obtain ⟨o, ho, hc, hd⟩ := id hit
  unfold pyNext
  refine wpAny_bind (wpAny_attempt (wpAny_callSpecial?_slot (name := Str.ofString "__next__") hit.typeIs F.slot_dict_keyiterator_next
    (wpAny_call_entry F.slot_dict_keyiterator_next hit.typeIs F.entry_dict_keyiterator_next ?_ (F.args_dict_keyiterator_next_1 _))))
  refine wpAny_bind (wpAny_pure ?_)
  refine wpAny_bind ?_
  refine wpAny_bind ?_
  first | refine wpAny_bind (wpAny_typeNameOfWhole_keyiter hit.typeIs (wpAny_pure ?_)) | refine wpAny_bind (wpAny_typeNameOf_keyiter hit.typeIs (wpAny_pure ?_))
  refine wpAny_bind (wpAny_fieldsOf ho hd ?_)
  have hown : Builtin.Dict_items.ownsTuple "dict_keyiterator" = false := by decide
  simp only [hown, Bool.false_eq_true, if_false]
  show wpAny _ _ (if (Value.ref d == Value.none) = true then _ else _) _ _ s
  rw [if_neg (show ¬ ((Value.ref d == Value.none) = true) from Bool.false_ne_true)]
  refine wpAny_bind (wpAny_pure ?_)
  refine wpAny_bind (wpAny_dictEntries hod hdd ?_)
  rw [if_neg (by rw [hsz]; simp)]
  refine wpAny_bind (wpAny_pure ?_)
  refine wpAny_bind (wpAny_dictEpoch hod hdd ?_)
  rw [if_neg (by simp)]
  refine wpAny_pure ?_
  have hge' : es.size ≤ i := by rw [hsz]; exact hge
  simp only [show ¬ ((i : Int) < 0) from by omega, if_false, Int.toNat_natCast, Array.getElem?_eq_none hge']
  refine wpAny_bind ?_
  first | refine wpAny_bind (wpAny_typeNameOfWhole_keyiter hit.typeIs (wpAny_pure ?_)) | refine wpAny_bind (wpAny_typeNameOf_keyiter hit.typeIs (wpAny_pure ?_))
  show wpAny _ _ (setField (.ref it) 0 .none >>= _) _ _ s
  refine wpAny_bind (wpAny_setField ho hd (by simp) ?_)
  show wpAny _ _ (newExc (.type "StopIteration") [] >>= _) _ _ _
  refine wpAny_bind ?_
  simp only [newExc, newTuple]
  refine wpAny_bind (wpAny_newObj_type ?_ (by size_fits))
  refine wpAny_bind (m := firstArgMember _ _) (wpAny_of_eq (a := Value.none) (by first | rfl | (simp only [firstArgMember]; rfl)) ?_)
  refine wpAny_newObj_type ?_ (by size_fits)
  simp only [raiseNew]
  refine wpAny_bind (wpAny_handled ?_)
  rw [show A.in1.handled = none from hh]
  refine wpAny_bind (wpAny_pure (wpAny_throw ?_))
  refine wpAny_bind (wpAny_isInstance (T := "StopIteration") (b := true) ⟨_, Heap.get?_push_size _ rfl, rfl⟩ isSubtype_stop ?_)
  exact wpAny_pure (hQ _ (((Heap.SameBut.update ..).extBut.push _).push _))
end
theorem kv_get {κ : Type} {kvs : List (κ × V)} {vs : List (κ × Value)} (h : KV kvs vs) : ∀ {i : Nat} {k : κ} {v : V}, kvs[i]? = some (k, v) → ∃ u, vs[i]? = some (k, u) ∧ RelV v u := by
  unfold KV at h
  induction h with
  | nil => intro i k v e; simp at e
  | @cons a b l₁ l₂ r t ih =>
    intro i k v e
    cases i with
    | zero =>
      simp only [List.getElem?_cons_zero, Option.some.injEq] at e
      subst e
      refine ⟨b.2, ?_, r.2⟩
      simp only [List.getElem?_cons_zero]
      exact congrArg some (Prod.ext r.1.symm rfl)
    | succ j =>
      simp only [List.getElem?_cons_succ] at e ⊢
      exact ih e
theorem paired_get {α β : Type} {G : α → β → Prop} {l₁ : List α} {l₂ : List β} (h : Paired G l₁ l₂) : ∀ {i : Nat} {a : α}, l₁[i]? = some a → ∃ b, l₂[i]? = some b ∧ G a b := by
  induction h with
  | nil => intro i a e; simp at e
  | @cons a b l₁ l₂ r t ih =>
    intro i a' e
    cases i with
    | zero =>
      simp only [List.getElem?_cons_zero, Option.some.injEq] at e
      subst e
      exact ⟨b, rfl, r⟩
    | succ j =>
      simp only [List.getElem?_cons_succ] at e ⊢
      exact ih e
theorem relV_key {k : Key} {u : Value} (h : keyIs k u = true) : RelV (kV k) u := by
  rcases keyIs_shape h with ⟨i, t, rfl, rfl⟩ | ⟨x, t, rfl, rfl⟩
  · exact ⟨t, rfl⟩
  · exact ⟨t, rfl⟩
section
variable {X : Cx} {pins : List (Addr × Obj)} {σ : St} {H : Hp} {s : Shared} {d : Addr} {o : Obj}
theorem Inv.frzK {kvs : List (Key × V)} (I : Inv X pins σ H s) (h : H d = some (.frz o (.dK kvs))) :
    (d == sysModules) = false ∧ s.heap.get? d = some o ∧ o.ExactDict ∧ ∃ (es : Array DictEntry) (ep : Nat) (vs : List (Key × Value)), o.data = .dict es ep ∧ es.size = kvs.length ∧ KV kvs vs ∧ s.heap.DictAt (mixKind X.prog X.w) d vs ep := by
  obtain ⟨hd, z, hs, vs, kv, o', es, ep, ho, hx, hdt, r⟩ := I.hok d _ h
  rw [hd] at ho
  cases ho
  refine ⟨hs, hd, hx, es, ep, vs, hdt, ?_, kv, o, es, hd, hx, hdt, r⟩
  have l1 := r.2.1.length
  have l2 : kvs.length = vs.length := Paired.length kv
  rw [Array.length_toList] at l1
  omega
theorem Inv.frzT {kvs : List (List Key × V)} (I : Inv X pins σ H s) (h : H d = some (.frz o (.dT kvs))) :
    (d == sysModules) = false ∧ s.heap.get? d = some o ∧ o.ExactDict ∧ ∃ (es : Array DictEntry) (ep : Nat), o.data = .dict es ep ∧ es.size = kvs.length ∧
      ∀ (i : Nat) (k : List Key) (v : V), kvs[i]? = some (k, v) → ∃ (en : DictEntry) (q : Addr), es[i]? = some en ∧ en.key = .ref q ∧ H q = some (.tup (k.map kV)) := by
  obtain ⟨hd, z, hs, xs, pr, o', es, ep, ho, hx, hdt, he, _⟩ := I.hok d _ h
  rw [hd] at ho
  cases ho
  refine ⟨hs, hd, hx, es, ep, hdt, ?_, fun i k v e => ?_⟩
  · have l1 : es.size = xs.length := size_of_entries he
    have l2 : kvs.length = xs.length := Paired.length pr
    omega
  · obtain ⟨b, hb, e1, e2, _⟩ := paired_get pr e
    have q := entry_at he i
    rw [hb] at q
    exact ⟨_, b.2.1, q, rfl, e2⟩
end
def Itk (d : Addr) (o : Obj) (kvs : List (Key × V)) : It :=
  ⟨fun i H => H d = some (.frz o (.dK kvs)) ∧ i < kvs.length, fun i H x H' => H' = H ∧ ∃ k v, kvs[i]? = some (k, v) ∧ x = kV k, fun i H => H d = some (.frz o (.dK kvs)) ∧ kvs.length ≤ i⟩
def Itkt (d : Addr) (o : Obj) (kvs : List (List Key × V)) : It :=
  ⟨fun i H => H d = some (.frz o (.dT kvs)) ∧ i < kvs.length, fun i H x H' => H' = H ∧ ∃ (k : List Key) (v : V) (q : Addr), kvs[i]? = some (k, v) ∧ x = .ref q ∧ H q = some (.tup (k.map kV)), fun i H => H d = some (.frz o (.dT kvs)) ∧ kvs.length ≤ i⟩
theorem dict_ep {o : Obj} {es es' : Array DictEntry} {ep ep' : Nat} (h : o.data = .dict es ep) (h' : o.data = .dict es' ep') : es' = es ∧ ep' = ep := by
  rw [h] at h'
  cases h'
  exact ⟨rfl, rfl⟩
section
variable {P : Program} {w : World} {K : PySem.W.Frag} {tg : Expr} {d : Addr} {o : Obj} {es : Array DictEntry} {ep : Nat}
theorem turn_keys {kvs : List (Key × V)} (it : Addr) (hod : o.data = .dict es ep) : Turn P w K tg (Itk d o kvs) [it] it (fun i h => h.IsKeyIter it d i kvs.length ep) where
  mem := by simp
  obj := fun i h st b hb => by
    have e : b = it := by simpa using hb
    subst e
    obtain ⟨oi, e, c, dd⟩ := st
    exact ⟨oi, e, fun v z => by rw [dd] at z; cases z⟩
  keep := fun i h h' st k => st.at fun oi e => k it (by simp) oi e
  item := by
    intro X hP hw hK hc i pins s σ H E I hf st hg
    subst hP hw hK
    obtain ⟨hd, hi⟩ := hg
    obtain ⟨f0, f1, f2, f3, f4, f5⟩ := hf it (by simp)
    obtain ⟨hs, hgd, hx, es', ep', vs, hdt, hsz, kv, hm⟩ := I.frzK hd
    obtain ⟨rfl, rfl⟩ := dict_ep hod hdt
    obtain ⟨⟨k, v⟩, hkv⟩ : ∃ p, kvs[i]? = some p := ⟨kvs[i], List.getElem?_eq_getElem hi⟩
    obtain ⟨u, hu, ru⟩ := kv_get kv hkv
    have hl : kvs.length = vs.length := Paired.length kv
    rw [hl] at st
    refine wpAny_pyNext_dict_item st hm hu fun key h' hkey st' sb => ?_
    have I1 : Inv X pins σ H { s with heap := h' } := I.turned (t' := s.toks) (fun b ob hb e => (sb.2 b hb).trans e) f0 f1 f3 f4 f5
    obtain ⟨oi, e, c, dd⟩ := id st'
    refine ⟨key, rfl, go_of (s := { s with heap := h' }) e c dd (by decide) ⟨kV k, H, I1, relV_key (show keyIs k key = true from hkey), ⟨rfl, k, v, hkv, rfl⟩, ?_, fun b hb => (hf b hb).1⟩⟩
    show h'.IsKeyIter it d (i + 1) kvs.length _
    rw [hl]
    exact st'
  done := by
    intro X hP hw hK hc i pins s σ H E I hf st hg
    subst hP hw hK
    obtain ⟨hd, hi⟩ := hg
    obtain ⟨f0, f1, f2, f3, f4, f5⟩ := hf it (by simp)
    obtain ⟨hs, hgd, hx, es', ep', vs, hdt, hsz, kv, hm⟩ := I.frzK hd
    obtain ⟨rfl, rfl⟩ := dict_ep hod hdt
    exact next_key_end (I.ok.hd hc) st hgd hdt hsz hi fun h' eb => ⟨rfl, I.turned (t' := s.toks) (fun b ob hb e => eb b ob hb e) f0 f1 f3 f4 f5⟩
  self := fun A i s Q E st h => wpAny_pyIter_keyiter st h
theorem turn_keysT {kvs : List (List Key × V)} (it : Addr) (hod : o.data = .dict es ep) : Turn P w K tg (Itkt d o kvs) [it] it (fun i h => h.IsKeyIter it d i kvs.length ep) where
  mem := by simp
  obj := fun i h st b hb => by
    have e : b = it := by simpa using hb
    subst e
    obtain ⟨oi, e, c, dd⟩ := st
    exact ⟨oi, e, fun v z => by rw [dd] at z; cases z⟩
  keep := fun i h h' st k => st.at fun oi e => k it (by simp) oi e
  item := by
    intro X hP hw hK hc i pins s σ H E I hf st hg
    subst hP hw hK
    obtain ⟨hd, hi⟩ := hg
    obtain ⟨f0, f1, f2, f3, f4, f5⟩ := hf it (by simp)
    obtain ⟨hs, hgd, hx, es', ep', hdt, hsz, ent⟩ := I.frzT hd
    obtain ⟨rfl, rfl⟩ := dict_ep hod hdt
    obtain ⟨⟨k, v⟩, hkv⟩ : ∃ p, kvs[i]? = some p := ⟨kvs[i], List.getElem?_eq_getElem hi⟩
    obtain ⟨en, q, hen, hkey, hq⟩ := ent i k v hkv
    refine next_key_item st hgd hdt hsz hen fun h' st' sb => ?_
    have I1 : Inv X pins σ H { s with heap := h' } := I.turned (t' := s.toks) (fun b ob hb e => (sb.2 b hb).trans e) f0 f1 f3 f4 f5
    obtain ⟨oi, e, c, dd⟩ := id st'
    exact ⟨en.key, rfl, go_of (s := { s with heap := h' }) e c dd (by decide) ⟨.ref q, H, I1, hkey, ⟨rfl, k, v, q, hkv, rfl, hq⟩, st', fun b hb => (hf b hb).1⟩⟩
  done := by
    intro X hP hw hK hc i pins s σ H E I hf st hg
    subst hP hw hK
    obtain ⟨hd, hi⟩ := hg
    obtain ⟨f0, f1, f2, f3, f4, f5⟩ := hf it (by simp)
    obtain ⟨hs, hgd, hx, es', ep', hdt, hsz, ent⟩ := I.frzT hd
    obtain ⟨rfl, rfl⟩ := dict_ep hod hdt
    exact next_key_end (I.ok.hd hc) st hgd hdt hsz hi fun h' eb => ⟨rfl, I.turned (t' := s.toks) (fun b ob hb e => eb b ob hb e) f0 f1 f3 f4 f5⟩
  self := fun A i s Q E st h => by
    refine wpAny_pyIter_slot st.typeIs F.slot_dict_keyiterator_iter (wpAny_call_entry F.slot_dict_keyiterator_iter st.typeIs F.entry_dict_keyiterator_iter ?_ (F.args_dict_keyiterator_iter_1 _))
    show wpAny _ _ (ret (.ref it)) _ _ s
    exact wpAny_pure ⟨_, rfl, "dict_keyiterator", _, st.typeIs, F.slot_dict_keyiterator_next.lookup, h⟩
end
def iKeys (td : TE) : TI := fun σ H R => td σ H fun x H1 => ∃ d o, x = .ref d ∧ ((∃ kvs, H1 d = some (.frz o (.dK kvs)) ∧ R (Itk d o kvs) H1) ∨ ∃ kvs, H1 d = some (.frz o (.dT kvs)) ∧ R (Itkt d o kvs) H1)
section
variable {X : Cx} {tg e : Expr} {td : TE} {apos cpos : Pos}
theorem pi_keys (he : PE X e td) : PI X tg e (iKeys td) := by
  intro pins s σ H R I h
  refine thn (he pins s σ H _ I h) fun u s1 ⟨x, H1, I1, rx, d, o, ex, q⟩ => ?_
  subst ex
  obtain rfl : u = Value.ref d := rx
  rcases q with ⟨kvs, hd, q⟩ | ⟨kvs, hd, q⟩
  · obtain ⟨hs, hgd, hx, es, ep, vs, hdt, hsz, kv, hm⟩ := I1.frzK hd
    refine iter_keys hs hgd hx hdt (pi_one (tk := s1.toks) I1 _ (turn_keys _ hdt) ⟨_, Heap.get?_push_size _ rfl, rfl, ?_⟩ q)
    rw [hsz] <;> rfl
  · obtain ⟨hs, hgd, hx, es, ep, hdt, hsz, ent⟩ := I1.frzT hd
    refine iter_keys hs hgd hx hdt (pi_one (tk := s1.toks) I1 _ (turn_keysT _ hdt) ⟨_, Heap.get?_push_size _ rfl, rfl, ?_⟩ q)
    rw [hsz] <;> rfl
end
def Ite (K : PySem.W.Frag) (a : Addr) : It :=
  ⟨fun i H => ∃ (xs : List V) (x : V), SqL K H a xs ∧ xs[i]? = some x, fun i H v H' => ∃ T x, v = .ref T ∧ H T = none ∧ H' = upd H T (.tup [.int (i : Nat), x]) ∧ ∀ xs, SqL K H a xs → xs[i]? = some x, fun i H => ∃ xs : List V, SqL K H a xs ∧ xs.length ≤ i⟩
theorem turn_enum {P : Program} {w : World} {K : PySem.W.Frag} {elts : List Expr} {kk : Nat} {tpos : Pos} (a e it : Addr) :
    Turn P w K (.Tuple elts kk tpos) (Ite K a) [e, it] e (fun i h => (∃ old, IsEnum h e it ((i : Nat) : Int) old) ∧ h.IsListIter it a i ∧ e ≠ it) where
  mem := by simp
  obj := fun i h st b hb => by
    obtain ⟨⟨old, he⟩, ⟨o, ho, hc, hd⟩, _⟩ := st
    have e' : b = e ∨ b = it := by simpa using hb
    rcases e' with z | z
    · rw [z]; exact ⟨_, he, fun v q => nomatch q⟩
    · rw [z]; exact ⟨o, ho, fun v q => by rw [hd] at q; cases q⟩
  keep := fun i h h' st k => let ⟨⟨old, he⟩, hi, hne⟩ := st; ⟨⟨old, k e (by simp) _ he⟩, hi.at fun o q => k it (by simp) o q, hne⟩
  item := by
    intro X hP hw hK hc i pins s σ H E I hf st hg
    subst hP hw hK
    obtain ⟨⟨old, he⟩, hit, hne⟩ := st
    obtain ⟨xs, x, hq, hx⟩ := hg
    obtain ⟨its, rv, p, hz⟩ := I.list hq
    obtain ⟨u, hu, ru⟩ := rv.get hx
    have hel : e < s.heap.objs.size := Heap.lt_size he
    have hil : it < s.heap.objs.size := by obtain ⟨_, q, _⟩ := hit; exact Heap.lt_size q
    refine wpAny_pyNext_enum_item he hit p.isList (x := u) (by simpa using hu) hne fun h' ho hit' hT hsz hk => ?_
    refine ⟨_, rfl, wpAny_letOwnedTupleGo_enum (s := { s with heap := h', toks := s.toks + 1 }) ho fun h'' he' sb => ?_⟩
    have hT2 : h''.get? s.heap.objs.size = some { cls := .type "tuple", data := .seq #[.int i s.toks, u] } := (sb.2 _ (Nat.ne_of_gt hel)).trans hT
    have new : ObjOk X.prog X.w (upd H s.heap.objs.size (.tup [.int (i : Nat), x])) h'' s.heap.objs.size (.tup [.int (i : Nat), x]) :=
      ⟨by show 2 ≤ sizeLine; decide, [.int i s.toks, u], .cons ⟨_, rfl⟩ (.cons ru .nil), ⟨_, hT2, rfl, _, rfl⟩⟩
    have I1 : Inv X pins σ (upd H s.heap.objs.size (.tup [.int (i : Nat), x])) { s with heap := h'', toks := s.toks + 1 } :=
      I.turnedNew (ch := [e, it]) (fun b ob hb q => (sb.2 b (fun z => hb (by simp [z]))).trans (hk b ob (fun z => hb (by simp [z])) (fun z => hb (by simp [z])) q)) hf (Nat.le_refl _) new
    refine ⟨.ref s.heap.objs.size, _, I1, rfl, ⟨_, x, rfl, I.hok.fresh (Nat.le_refl _), rfl, fun ys hy => by rw [I.list_inj hy hq]; exact hx⟩, ⟨⟨u, ?_⟩, hit'.at fun o q => (sb.2 it (Ne.symm hne)).trans q, hne⟩, fun b hb => ?_⟩
    · have e1 : ((i + 1 : Nat) : Int) = (i : Int) + 1 := by omega
      rw [e1]; exact he'
    · have hb' : b < s.heap.objs.size := by
        have e' : b = e ∨ b = it := by simpa using hb
        rcases e' with z | z
        · rw [z]; exact hel
        · rw [z]; exact hil
      rw [upd_ne (Nat.ne_of_lt hb')]
      exact (hf b hb).1
  done := by
    intro X hP hw hK hc i pins s σ H E I hf st hg
    subst hP hw hK
    obtain ⟨⟨old, he⟩, hit, hne⟩ := st
    obtain ⟨xs, hq, hx⟩ := hg
    obtain ⟨its, rv, p, hz⟩ := I.list hq
    obtain ⟨f0, f1, f2, f3, f4, f5⟩ := hf it (by simp)
    have hl := rv.length
    exact wpAny_pyNext_enum_end (I.ok.hd hc) he hit p.isList (by simp; omega) fun h' eb => ⟨rfl, I.turned (t' := s.toks) (fun b o hb q => eb b o hb q) f0 f1 f3 f4 f5⟩
  self := fun A i s Q E st h => let ⟨⟨_, he⟩, _⟩ := st; wpAny_pyIter_enum he h
def iEnum (K : PySem.W.Frag) (ta : TA) : TI := fun σ H R => ta σ H fun vs H1 => ∃ a xs, vs = [.ref a] ∧ SqL K H1 a xs ∧ R (Ite K a) H1
theorem pi_enum {X : Cx} {e : Expr} {ta : TA} {p pos tpos : Pos} {elts : List Expr} {kk : Nat} (hg : Gl X "enumerate") (hm : X.mg "enumerate" = none) (ha : PA X [e] ta) (hs : starEach [e] X.env = [(false, eval e X.env)] := by rfl) :
    PI X (.Tuple elts kk tpos) (.Call (.Name "enumerate" p) [e] [] pos) (iEnum X.K ta) := by
  intro pins s σ H R I h
  refine Call_ (ld_blt I hg hm boot_enumerate (PyProof.Rows.callWith_type1 (thn (ha pos pins s σ H _ I h) fun us s1 ⟨vs, H1, I1, r1, q1⟩ => ?_) hs rfl))
  obtain ⟨a, xs, ex, hq, q⟩ := q1
  subst ex
  cases r1 with
  | cons r rr =>
    cases rr
    cases r
    obtain ⟨its, rv, p', hz⟩ := I1.list hq
    refine call_enumerate_list p'.isList fun h' he hit hsz hk => wpAny_pyIter_enum he ?_
    have I2 : Inv X pins σ H1 { s1 with heap := h' } := I1.kept (t' := s1.toks) hk
    refine ⟨s1.heap.objs.size + 1, [s1.heap.objs.size + 1, s1.heap.objs.size], _, _, H1, rfl, I2, turn_enum a (s1.heap.objs.size + 1) s1.heap.objs.size, ⟨⟨.none, he⟩, hit, Nat.succ_ne_self _⟩, fun b hb => ?_, q⟩
    have e' : b = s1.heap.objs.size + 1 ∨ b = s1.heap.objs.size := by simpa using hb
    have hle : s1.heap.objs.size ≤ b := by
      rcases e' with z | z
      · rw [z]; exact Nat.le_add_right _ _
      · rw [z]; exact Nat.le_refl _
    exact I1.fpOk hle (I1.hok.fresh hle)
def inClass (s : Stmt) (j : Nat) : Stmt := match s with
  | .ClassDef _ _ _ body _ _ _ _ _ _ _ => body.getD j (.Pass ⟨0, 0, 0, 0⟩)
  | _ => .Pass ⟨0, 0, 0, 0⟩
def defArgs (s : Stmt) : Arguments := match s with
  | .FunctionDef _ a _ _ _ _ _ _ _ _ => a
  | _ => { posonlyargs := [], args := [], vararg := none, kwonlyargs := [], kw_defaults := [], kwarg := none, defaults := [] }
def defBody (s : Stmt) : List Stmt := match s with
  | .FunctionDef _ _ b _ _ _ _ _ _ _ => b
  | _ => []
def defScope (s : Stmt) : Scope := match s with
  | .FunctionDef _ _ _ _ _ _ sc _ _ _ => sc
  | _ => { kind := .function, names := [], isGenerator := false, isCoroutine := false }
abbrev CX0 : CXT := fun _ _ _ _ _ _ => False
abbrev E0 : XK := fun _ _ _ => False
theorem pass0 {X : Cx} : Passes CX0 X E0 := fun _ _ _ _ _ _ _ h => h.elim
structure Fun (K : PySem.W.Frag) (x qual : Str) (st : Stmt) (f : Addr) (fd : FuncData) : Prop where
  ex : ∃ (oc : Value) (od : Option Addr) (kV doc pm : Value) (an : Option Addr) (cdv ct : Value) (osl : Array (Option Value)),
    fd = PySem.W.fnOf x qual (defArgs st) (defBody st) (defScope st) .none kV doc pm an cdv ct ∧ K.lookup f = some ⟨oc, od, .func fd, osl⟩ ∧ PySem.W.codeIn K cdv qual = true
  kp : PySem.W.keepIn K (.ref f) = true
section
variable {P : Program} {w : World} {K : PySem.W.Frag} {mg : Str → Option Value} {base : Heap}
theorem Fun.ok {x qual : Str} {st : Stmt} {f : Addr} {fd : FuncData} {N ps : List Str} {k : Nat} {sp : Sp} (F : Fun K x qual st f fd) (S : FnScope N ps (defScope st)) (len : ∀ vs H Q E, sp vs H Q E → vs.length = ps.length)
    (hbody : ∀ (cdv : Value) (A : Around) (outer : List Env) (s : Shared) (H : Hp) (vs : List V) (Q : VK) (E : XK), Room k (A.deeper (envOfC qual (defScope st) s.heap.objs.size f cdv)) → sp vs H Q E →
      ∃ t, PSs (cxOf CX0 P w K mg base N qual (defScope st) f cdv A outer s H E).nox (defBody st) t ∧ t { nx := fun _ H' => Q .non H', rt := Q } (start N vs) H) : FnOk P w K mg base CX0 (k + 1) f fd ps sp := by
  obtain ⟨oc, od, kV, doc, pm, an, cdv, ct, osl, rfl, lk, hcd⟩ := F.ex
  refine fn_of lk hcd S len fun A outer s H vs Q E hr hsp => ?_
  obtain ⟨t, h, q⟩ := hbody cdv A outer s H vs Q E hr hsp
  exact ⟨t, h.nox, q⟩
theorem Fun.binds {x qual : Str} {st : Stmt} {f : Addr} {fd : FuncData} {ps : List Str} (F : Fun K x qual st f fd)
    (h : ∀ (kV doc pm : Value) (an : Option Addr) (cdv ct : Value) (us : List Value), us.length = ps.length → bindArgs (PySem.W.fnOf x qual (defArgs st) (defBody st) (defScope st) .none kV doc pm an cdv ct) ⟨us, []⟩ = pure (ps.zip us)) : Binds K fd ps [] := by
  obtain ⟨oc, od, kV, doc, pm, an, cdv, ct, osl, rfl, lk, hcd⟩ := F.ex
  exact .all (h kV doc pm an cdv ct)
theorem fun_mk {x qual : Str} {st : Stmt} {f : Addr} {oc : Value} {od an : Option Addr} {osl : Array (Option Value)} {kV doc pm cdv ct : Value} (l : K.lookup f = some ⟨oc, od, .func (PySem.W.fnOf x qual (defArgs st) (defBody st) (defScope st) .none kV doc pm an cdv ct), osl⟩)
    (c : PySem.W.codeIn K cdv qual = true) (k : PySem.W.keepIn K (.ref f) = true) : Fun K x qual st f (PySem.W.fnOf x qual (defArgs st) (defBody st) (defScope st) .none kV doc pm an cdv ct) := ⟨⟨oc, od, kV, doc, pm, an, cdv, ct, osl, rfl, l, c⟩, k⟩
end
theorem hu_of {A : Around} {k : Nat} (hr : Room k A) : A.units + 1 < cLine := Nat.lt_of_le_of_lt (Nat.add_le_add_left (by decide : 1 ≤ 64) _) hr.units
theorem small1000 {n : Nat} (h : n ≤ 1000) : n < sizeLine := Nat.lt_of_le_of_lt h (by decide)
section
variable {X : Cx}
theorem pv (i : Nat) {x : Str} {pos : Pos} (hN : X.N[i]? = some x := by rfl) (hv : Vis X.env.scope x := by first | exact Or.inl rfl | exact Or.inr (Or.inl rfl) | exact Or.inr (Or.inr rfl)) (hd : (x == ("__debug__" : Str)) = false := by decide)
    (hcd : (x == ("__classdict__" : Str)) = false := by decide) : PE X (.Name x pos) (tVar i) := pe_var hN hv hd hcd
theorem call_lenD : CallR X (.builtin "len") (fun xs H Q => ∃ a kvs, xs = [V.ref a] ∧ H a = some (.dK kvs) ∧ Q (.int kvs.length) H) := by
  intro pins s σ H xs us Q I r h
  obtain ⟨a, kvs, rfl, ha, q⟩ := h
  obtain ⟨u, rfl, ru⟩ := vals1 r
  cases ru
  exact d_len I (.inl ha) fun t s' I' => ⟨.int kvs.length, H, I', ⟨t, rfl⟩, q⟩
end
theorem iteF {A B : Prop} (h : B) : if false = true then A else B := by
  rw [if_neg Bool.false_ne_true]
  exact h
theorem iteT {A B : Prop} (h : A) : if true = true then A else B := by
  rw [if_pos rfl]
  exact h
theorem ite2 {c A B : Prop} [Decidable c] (h1 : c → A) (h2 : ¬ c → B) : if c then A else B := by
  by_cases h : c
  · rw [if_pos h]
    exact h1 h
  · rw [if_neg h]
    exact h2 h
def Same (H H' : Hp) : Prop := ∀ b o, H b = some o → H' b = some o
theorem Same.refl (H : Hp) : Same H H := fun _ _ h => h
theorem Same.trans {H H1 H2 : Hp} (a : Same H H1) (b : Same H1 H2) : Same H H2 := fun c o h => b c o (a c o h)
theorem Same.free {H H' : Hp} (e : Same H H') {l : Addr} (h : H' l = Option.none) : H l = Option.none := by
  cases q : H l with
  | none => rfl
  | some o =>
    rw [e l o q] at h
    cases h
theorem Same.seq {K : PySem.W.Frag} {H H' : Hp} {a : Addr} {xs : List V} (e : Same H H') (h : SqL K H a xs) : SqL K H' a xs := by
  rcases h with (h | ⟨o, h⟩) | h
  · exact .inl (.inl (e _ _ h))
  · exact .inl (.inr ⟨o, e _ _ h⟩)
  · exact .inr h
section
variable {κ : Type} [DecidableEq κ]
theorem valV_not {kvs : List (κ × V)} {k : κ} (h : valV kvs k = none) : ¬ k ∈ kvs.map (·.1) := by
  intro m
  obtain ⟨p, hp, e⟩ := List.mem_map.mp m
  have q : (kvs.any fun kv => decide (kv.1 = k)) = true := List.any_eq_true.mpr ⟨p, hp, decide_eq_true e⟩
  rw [valV_any, h] at q
  exact absurd q (by simp)
theorem valV_in {kvs : List (κ × V)} {k : κ} {v : V} (h : valV kvs k = some v) : k ∈ kvs.map (·.1) := by
  have q : (kvs.any fun kv => decide (kv.1 = k)) = true := by
    rw [valV_any, h]
    all_goals rfl
  obtain ⟨p, hp, e⟩ := List.any_eq_true.mp q
  exact List.mem_map.mpr ⟨p, hp, of_decide_eq_true e⟩
end
theorem nd_ix {α : Type} {l : List α} (hN : l.Nodup) {i j : Nat} {x : α} (a : l[i]? = some x) (b : l[j]? = some x) : i = j := by
  obtain ⟨h1, e1⟩ := List.getElem?_eq_some_iff.mp a
  obtain ⟨h2, e2⟩ := List.getElem?_eq_some_iff.mp b
  exact (List.getElem_inj hN).mp (e1.trans e2.symm)
theorem Same.made {H H1 : Hp} {x dx C : Addr} (nx : H x = Option.none) (nd : H dx = Option.none) (k : ∀ b o, (upd (upd H dx (.own x)) x (.ins C dx [])) b = some o → b ≠ x → H1 b = some o) : Same H H1 := fun b o e =>
  k b o (by rw [upd_ne (ne_of_none e nx), upd_ne (ne_of_none e nd)]; exact e) (ne_of_none e nx)
end L2
section
namespace L2
open PySem PySem.Spec PyProof.Rows
open PySem.W (WData Codec OpenSpec Well WellAll ReadsW ReadsAllW)
mutual
inductive Dw (K : PySem.W.Frag) (H : Hp) : V → WData → Prop
  | non : Dw K H .non .none
  | bl (b : Bool) : Dw K H (.bl b) (.bool b)
  | int (i : Int) : Dw K H (.int i) (.int i)
  | str (x : Str) : Dw K H (.str x) (.str x)
  | byt (b : Array UInt8) : Dw K H (.byt b) (.bytes b.toList)
  | lst {a : Addr} {xs : List V} {ds : List WData} : SqL K H a xs → DwAll K H xs ds → Dw K H (.ref a) (.list ds)
  | tup {a : Addr} {xs : List V} {ds : List WData} : SqT K H a xs → DwAll K H xs ds → Dw K H (.ref a) (.tuple ds)
inductive DwAll (K : PySem.W.Frag) (H : Hp) : List V → List WData → Prop
  | nil : DwAll K H [] []
  | cons {v : V} {vs : List V} {d : WData} {ds : List WData} : Dw K H v d → DwAll K H vs ds → DwAll K H (v :: vs) (d :: ds)
end
theorem dw_ints {K : PySem.W.Frag} {H : Hp} : ∀ ns : List Int, DwAll K H (ns.map V.int) (ns.map WData.int)
  | [] => .nil
  | n :: r => .cons (.int n) (dw_ints r)
theorem ints_dw {K : PySem.W.Frag} {H : Hp} : ∀ (ns : List Int) (xs : List V), DwAll K H xs (ns.map WData.int) → xs = ns.map V.int
  | [], xs, h => by
    cases h
    rfl
  | n :: r, xs, h => by
    cases h with
    | cons h1 h2 =>
      cases h1
      rw [ints_dw r _ h2] <;> rfl
section
variable {P : Program} {w : World} {K : PySem.W.Frag} {H : Hp} {h : Heap} {R : PySem.W.WRecords} {cl : Str → Option Addr}
theorem sqL_at {a : Addr} {xs : List V} (hok : HOk P w H h) (KX : K.In h) (q : SqL K H a xs) : ∃ (its : List Value) (o : Obj) (n : Nat), Vals xs its ∧ h.get? a = some o ∧ o.cls = .type "list" ∧ o.data = .seq its.toArray n := by
  rcases q with q | ⟨o, its, n, e, hc, _, hd, _, hv⟩
  · obtain ⟨_, its, n, hv, e⟩ := (show ObjOk P w H h a (.lst xs) from q.ok hok)
    exact ⟨its, _, n, hv, e, rfl, rfl⟩
  · exact ⟨its.toList, o, n, hv, KX _ _ e, hc, by simp [hd]⟩
theorem sqT_at {a : Addr} {xs : List V} (hok : HOk P w H h) (KX : K.In h) (q : SqT K H a xs) : ∃ (its : List Value) (o : Obj) (n : Nat), Vals xs its ∧ h.get? a = some o ∧ o.cls = .type "tuple" ∧ o.data = .seq its.toArray n := by
  rcases q with q | ⟨o, its, n, e, hc, hd, _, hv⟩
  · obtain ⟨_, its, hv, o, e, hc, n, hd⟩ := (show ObjOk P w H h a (.tup xs) from q.ok hok)
    exact ⟨its, o, n, hv, e, hc, hd⟩
  · exact ⟨its.toList, o, n, hv, KX _ _ e, hc, by simp [hd]⟩
mutual
theorem Dw.reads (hok : HOk P w H h) (KX : K.In h) : ∀ (d : WData) (v : V) (u : Value), Dw K H v d → RelV v u → ∃ as, ReadsW R cl h u d as
  | .none, _, _, x, r => by
    cases x
    cases r
    exact ⟨_, ReadsW.none⟩
  | .bool b, _, _, x, r => by
    cases x
    cases r
    exact ⟨_, ReadsW.bool b⟩
  | .int i, _, _, x, r => by
    cases x
    obtain ⟨t, rfl⟩ := r
    exact ⟨_, ReadsW.int i t⟩
  | .str s, _, _, x, r => by
    cases x
    obtain ⟨t, rfl⟩ := r
    exact ⟨_, ReadsW.str s t⟩
  | .bytes b, _, _, x, r => by
    cases x
    obtain ⟨t, rfl⟩ := r
    exact ⟨_, ReadsW.bytes _ t⟩
  | .list ds, _, _, x, r => by
    cases x with
    | lst hs ha =>
      cases r
      obtain ⟨its, o, n, rv, ho, hc, hd⟩ := sqL_at hok KX hs
      obtain ⟨as, hr⟩ := Dw.readsAll hok KX ds _ its ha rv
      exact ⟨_, ReadsW.list ho hc hd hr⟩
  | .tuple ds, _, _, x, r => by
    cases x with
    | tup hs ha =>
      cases r
      obtain ⟨its, o, n, rv, ho, hc, hd⟩ := sqT_at hok KX hs
      obtain ⟨as, hr⟩ := Dw.readsAll hok KX ds _ its ha rv
      exact ⟨_, ReadsW.tuple ho hc hd hr⟩
  | .float _, _, _, x, _ => by cases x
  | .dict _, _, _, x, _ => by cases x
  | .bytearray _, _, _, x, _ => by cases x
  | .set _, _, _, x, _ => by cases x
  | .frozenset _, _, _, x, _ => by cases x
  | .obj _ _, _, _, x, _ => by cases x
theorem Dw.readsAll (hok : HOk P w H h) (KX : K.In h) : ∀ (ds : List WData) (vs : List V) (us : List Value), DwAll K H vs ds → Vals vs us → ∃ as, ReadsAllW R cl h us ds as
  | [], _, _, x, r => by
    cases x
    cases r
    exact ⟨_, ReadsAllW.nil⟩
  | d :: ds, _, _, x, r => by
    cases x with
    | cons h1 h2 =>
      cases r with
      | cons r1 r2 =>
        obtain ⟨as, q1⟩ := Dw.reads hok KX d _ _ h1 r1
        obtain ⟨bs, q2⟩ := Dw.readsAll hok KX ds _ _ h2 r2
        exact ⟨_, ReadsAllW.cons q1 q2⟩
end
end
mutual
def plW : WData → Bool
  | .none => true
  | .bool _ => true
  | .int _ => true
  | .str _ => true
  | .bytes _ => true
  | .list xs => plWs xs
  | .tuple xs => plWs xs
  | _ => false
def plWs : List WData → Bool
  | [] => true
  | x :: r => plW x && plWs r
end
theorem plWs_map {α : Type} {f : α → WData} (h : ∀ a, plW (f a) = true) : ∀ l : List α, plWs (l.map f) = true
  | [] => rfl
  | x :: r => by
    show (plW (f x) && plWs (r.map f)) = true
    rw [h x, plWs_map h r] <;> rfl
theorem pl_enc : ∀ (c : Codec) (a : c.denote), plW (c.enc a) = true
  | .unit, _ => rfl
  | .bool, _ => rfl
  | .int _ _, _ => rfl
  | .nat _ _, _ => rfl
  | .u8, _ => rfl
  | .bytes _ _, _ => rfl
  | .text _ _ _ _, _ => rfl
  | .list _ _ c, a => plWs_map (fun x => pl_enc c x) a
  | .pair c d, a => by
    show (plW (c.enc a.1) && (plW (d.enc a.2) && true)) = true
    rw [pl_enc c a.1, pl_enc d a.2] <;> rfl
  | .triple c d e, a => by
    show (plW (c.enc a.1) && (plW (d.enc a.2.1) && (plW (e.enc a.2.2) && true))) = true
    rw [pl_enc c a.1, pl_enc d a.2.1, pl_enc e a.2.2] <;> rfl
  | .option c, none => rfl
  | .option c, some x => pl_enc c x
theorem pl_encAll : ∀ (cs : List Codec) (a : Codec.denoteAll cs), plWs (Codec.encAll cs a) = true
  | [], _ => rfl
  | c :: cs, a => by
    show (plW (c.enc a.1) && plWs (Codec.encAll cs a.2)) = true
    rw [pl_enc c a.1, pl_encAll cs a.2] <;> rfl
theorem weight_mem : ∀ {xs : List WData} {d : WData}, d ∈ xs → d.weight ≤ WData.weightAll xs
  | [], d, h => absurd h (by simp)
  | x :: r, d, h => by
    show d.weight ≤ x.weight + 1 + WData.weightAll r
    rcases List.mem_cons.mp h with e | m
    · rw [e]
      omega
    · have z := weight_mem m
      omega
def toV : Value → V
  | .none => .non
  | .bool b => .bl b
  | .int i _ => .int i
  | .str x _ => .str x
  | .bytes b _ => .byt b
  | .ref a => .ref a
  | _ => .non
def OkU (A : List Addr) : Value → Prop
  | .none => True
  | .bool _ => True
  | .int _ _ => True
  | .str _ _ => True
  | .bytes _ _ => True
  | .ref a => a ∈ A
  | _ => False
theorem OkU.mono {A B : List Addr} (h : ∀ a ∈ A, a ∈ B) : ∀ {u : Value}, OkU A u → OkU B u := fun {u} x => by
  cases u with
  | ref a => exact h a x
  | none => trivial
  | bool b => trivial
  | int i t => trivial
  | str s t => trivial
  | bytes b t => trivial
  | _ => exact False.elim x
theorem relV_toV {A : List Addr} {u : Value} (x : OkU A u) : RelV (toV u) u := by
  cases u with
  | ref a => rfl
  | none => rfl
  | bool b => rfl
  | int i t => exact ⟨t, rfl⟩
  | str s t => exact ⟨t, rfl⟩
  | bytes b t => exact ⟨t, rfl⟩
  | _ => exact False.elim x
theorem vals_toV {A : List Addr} : ∀ {vs : List Value}, (∀ u ∈ vs, OkU A u) → Vals (vs.map toV) vs
  | [], _ => .nil
  | u :: r, h => .cons (relV_toV (h u (List.mem_cons_self ..))) (vals_toV fun x hx => h x (List.mem_cons_of_mem _ hx))
def ArgOb (h : Heap) (A : List Addr) (a : Addr) : Prop := ∃ vs : List Value, vs.length ≤ sizeLine ∧ (∀ u ∈ vs, OkU A u) ∧
  (h.get? a = some { cls := .type "list", data := .seq vs.toArray } ∨ h.get? a = some { cls := .type "tuple", data := .seq vs.toArray })
theorem ArgOb.mono {h : Heap} {A B : List Addr} {a : Addr} (k : ∀ a ∈ A, a ∈ B) (x : ArgOb h A a) : ArgOb h B a := by
  obtain ⟨vs, h1, h2, h3⟩ := x
  exact ⟨vs, h1, fun u hu => (h2 u hu).mono k, h3⟩
theorem wellAll_len {P : Params} {h : Heap} : ∀ {vs : List Value} {ds : List WData}, WellAll P h vs ds → vs.length = ds.length
  | _, _, .nil => rfl
  | _, _, .cons _ b => by
    show _ + 1 = _ + 1
    rw [wellAll_len b]
theorem well_list {P : Params} {h : Heap} {v : Value} {ds : List WData} (x : Well P h v (.list ds)) : ∃ (a : Addr) (vs : List Value), v = .ref a ∧ h.get? a = some { cls := .type "list", data := .seq vs.toArray } ∧ WellAll P h vs ds := by
  cases x with
  | list ho hall => exact ⟨_, _, rfl, ho, hall⟩
theorem well_tuple {P : Params} {h : Heap} {v : Value} {ds : List WData} (x : Well P h v (.tuple ds)) : ∃ (a : Addr) (vs : List Value), v = .ref a ∧ h.get? a = some { cls := .type "tuple", data := .seq vs.toArray } ∧ WellAll P h vs ds := by
  cases x with
  | tuple ho hall => exact ⟨_, _, rfl, ho, hall⟩
theorem well_cons {P : Params} {h : Heap} {us : List Value} {d : WData} {ds : List WData} (x : WellAll P h us (d :: ds)) : ∃ (v : Value) (vs : List Value), us = v :: vs ∧ Well P h v d ∧ WellAll P h vs ds := by
  cases x with
  | cons a b => exact ⟨_, _, rfl, a, b⟩
theorem line_of {n : Nat} (h : n ≤ 1048576) : n ≤ sizeLine := Nat.le_trans h (by decide)
section
variable {P : Params} {h : Heap}
mutual
theorem area_one : ∀ (d : WData) (v : Value), Well P h v d → plW d = true → d.weight ≤ 1048576 → ∃ A : List Addr, OkU A v ∧ ∀ a ∈ A, ArgOb h A a
  | .none, _, x, _, _ => by
    cases x
    exact ⟨[], trivial, fun a m => absurd m (by simp)⟩
  | .bool b, _, x, _, _ => by
    cases x
    exact ⟨[], trivial, fun a m => absurd m (by simp)⟩
  | .int i, _, x, _, _ => by
    cases x
    exact ⟨[], trivial, fun a m => absurd m (by simp)⟩
  | .str s, _, x, _, _ => by
    cases x
    exact ⟨[], trivial, fun a m => absurd m (by simp)⟩
  | .bytes b, _, x, _, _ => by
    cases x
    exact ⟨[], trivial, fun a m => absurd m (by simp)⟩
  | .list ds, _, x, p, z => by
    obtain ⟨a, vs, rfl, ho, hall⟩ := well_list x
    have z2 : WData.weightAll ds ≤ 1048576 := z
    obtain ⟨A, h1, h2⟩ := area_all ds _ hall p fun d hd => Nat.le_trans (weight_mem hd) z2
    have k : ∀ b ∈ A, b ∈ a :: A := fun b hb => List.mem_cons_of_mem _ hb
    refine ⟨a :: A, List.mem_cons_self .., fun b hb => ?_⟩
    rcases List.mem_cons.mp hb with e | m
    · rw [e]
      exact ⟨vs, line_of (by rw [wellAll_len hall]; exact Nat.le_trans (PySem.W.length_le_weightAllW ds) z2), fun u hu => (h1 u hu).mono k, .inl ho⟩
    · exact (h2 b m).mono k
  | .tuple ds, _, x, p, z => by
    obtain ⟨a, vs, rfl, ho, hall⟩ := well_tuple x
    have z2 : WData.weightAll ds ≤ 1048576 := z
    obtain ⟨A, h1, h2⟩ := area_all ds _ hall p fun d hd => Nat.le_trans (weight_mem hd) z2
    have k : ∀ b ∈ A, b ∈ a :: A := fun b hb => List.mem_cons_of_mem _ hb
    refine ⟨a :: A, List.mem_cons_self .., fun b hb => ?_⟩
    rcases List.mem_cons.mp hb with e | m
    · rw [e]
      exact ⟨vs, line_of (by rw [wellAll_len hall]; exact Nat.le_trans (PySem.W.length_le_weightAllW ds) z2), fun u hu => (h1 u hu).mono k, .inr ho⟩
    · exact (h2 b m).mono k
  | .float _, _, _, p, _ => Bool.noConfusion (show false = true from p)
  | .dict _, _, _, p, _ => Bool.noConfusion (show false = true from p)
  | .bytearray _, _, _, p, _ => Bool.noConfusion (show false = true from p)
  | .set _, _, _, p, _ => Bool.noConfusion (show false = true from p)
  | .frozenset _, _, _, p, _ => Bool.noConfusion (show false = true from p)
  | .obj _ _, _, _, p, _ => Bool.noConfusion (show false = true from p)
theorem area_all : ∀ (ds : List WData) (vs : List Value), WellAll P h vs ds → plWs ds = true → (∀ d ∈ ds, d.weight ≤ 1048576) → ∃ A : List Addr, (∀ u ∈ vs, OkU A u) ∧ ∀ a ∈ A, ArgOb h A a
  | [], _, x, _, _ => by
    cases x
    exact ⟨[], fun u m => absurd m (by simp), fun a m => absurd m (by simp)⟩
  | d :: ds, _, x, p, z => by
    obtain ⟨v, vs, rfl, x1, x2⟩ := well_cons x
    have q : plW d = true ∧ plWs ds = true := Bool.and_eq_true_iff.mp p
    obtain ⟨A, a1, a2⟩ := area_one d v x1 q.1 (z d (List.mem_cons_self ..))
    obtain ⟨B, b1, b2⟩ := area_all ds vs x2 q.2 fun e he => z e (List.mem_cons_of_mem _ he)
    have kA : ∀ b ∈ A, b ∈ A ++ B := fun b hb => List.mem_append.mpr (.inl hb)
    have kB : ∀ b ∈ B, b ∈ A ++ B := fun b hb => List.mem_append.mpr (.inr hb)
    refine ⟨A ++ B, fun u hu => ?_, fun b hb => ?_⟩
    · rcases List.mem_cons.mp hu with e | m
      · rw [e]
        exact a1.mono kA
      · exact (b1 u m).mono kB
    · rcases List.mem_append.mp hb with m | m
      · exact (a2 b m).mono kA
      · exact (b2 b m).mono kB
end
end
def hoOf (o : Obj) : Option HO := match o.data with
  | .seq vs _ => if (o.cls == Value.type "list") = true then some (.frz o (.lst (vs.toList.map toV))) else some (.frz o (.tup (vs.toList.map toV)))
  | _ => none
def argH (K : PySem.W.Frag) (h : Heap) (A : List Addr) : Hp := fun b => if b ∈ A then (if (K.lookup b).isNone = true then (h.get? b).bind hoOf else none) else none
def OnlyF (H : Hp) : Prop := ∀ b, H b = none ∨ ∃ o u, H b = some (.frz o u)
theorem hoOf_lst (vs : List Value) : hoOf { cls := .type "list", data := .seq vs.toArray } = some (.frz { cls := .type "list", data := .seq vs.toArray } (.lst (vs.map toV))) := by
  show (if (Value.type "list" == Value.type "list") = true then some (HO.frz { cls := .type "list", data := .seq vs.toArray } (.lst (vs.toArray.toList.map toV))) else some (HO.frz { cls := .type "list", data := .seq vs.toArray } (.tup (vs.toArray.toList.map toV)))) = _
  rw [if_pos (beq_self_eq_true _)]
theorem hoOf_tup (vs : List Value) : hoOf { cls := .type "tuple", data := .seq vs.toArray } = some (.frz { cls := .type "tuple", data := .seq vs.toArray } (.tup (vs.map toV))) := by
  show (if (Value.type "tuple" == Value.type "list") = true then some (HO.frz { cls := .type "tuple", data := .seq vs.toArray } (.lst (vs.toArray.toList.map toV))) else some (HO.frz { cls := .type "tuple", data := .seq vs.toArray } (.tup (vs.toArray.toList.map toV)))) = _
  rw [if_neg (by decide)]
section
variable {P : Program} {w : World} {K : PySem.W.Frag} {h : Heap} {A : List Addr}
theorem argH_at {b : Addr} {o : Obj} (hb : b ∈ A) (hk : K.lookup b = none) (e : h.get? b = some o) : argH K h A b = hoOf o := by
  unfold argH
  rw [if_pos hb, hk, if_pos (show (none : Option Obj).isNone = true from rfl), e] <;> rfl
theorem of_argH {b : Addr} {u : HO} (q : argH K h A b = some u) : b ∈ A ∧ K.lookup b = none := by
  unfold argH at q
  by_cases hb : b ∈ A
  · rw [if_pos hb] at q
    cases hk : K.lookup b with
    | none => exact ⟨hb, rfl⟩
    | some o =>
      rw [hk, if_neg (by simp)] at q
      cases q
  · rw [if_neg hb] at q
    cases q
theorem argH_is (ar : ∀ a ∈ A, ArgOb h A a) {b : Addr} {u : HO} (q : argH K h A b = some u) : K.lookup b = none ∧ ∃ vs : List Value, vs.length ≤ sizeLine ∧ (∀ u ∈ vs, OkU A u) ∧
    ((h.get? b = some { cls := .type "list", data := .seq vs.toArray } ∧ u = .frz { cls := .type "list", data := .seq vs.toArray } (.lst (vs.map toV))) ∨
     (h.get? b = some { cls := .type "tuple", data := .seq vs.toArray } ∧ u = .frz { cls := .type "tuple", data := .seq vs.toArray } (.tup (vs.map toV)))) := by
  obtain ⟨hb, hk⟩ := of_argH q
  obtain ⟨vs, h1, h2, h3⟩ := ar b hb
  refine ⟨hk, vs, h1, h2, ?_⟩
  rcases h3 with e | e
  · rw [argH_at hb hk e, hoOf_lst] at q
    exact .inl ⟨e, (Option.some.inj q).symm⟩
  · rw [argH_at hb hk e, hoOf_tup] at q
    exact .inr ⟨e, (Option.some.inj q).symm⟩
theorem argH_only (ar : ∀ a ∈ A, ArgOb h A a) : OnlyF (argH K h A) := fun b => by
  cases q : argH K h A b with
  | none => exact .inl rfl
  | some u =>
    obtain ⟨_, vs, _, _, ⟨_, e⟩ | ⟨_, e⟩⟩ := argH_is ar q
    · exact .inr ⟨_, _, by rw [e]⟩
    · exact .inr ⟨_, _, by rw [e]⟩
theorem argH_ok (ar : ∀ a ∈ A, ArgOb h A a) : HOk P w (argH K h A) h := fun b u q => by
  obtain ⟨_, vs, h1, h2, ⟨e, rfl⟩ | ⟨e, rfl⟩⟩ := argH_is ar q
  · exact ⟨e, by rw [List.length_map]; exact h1, vs, _, vals_toV h2, e⟩
  · exact ⟨e, by rw [List.length_map]; exact h1, vs, vals_toV h2, _, e, rfl, _, rfl⟩
theorem seq_inj {c c' : Value} {vs us : List Value} (e : (some { cls := c, data := .seq vs.toArray } : Option Obj) = some { cls := c', data := .seq us.toArray }) : c = c' ∧ vs = us := by
  have e1 := Option.some.inj e
  have e2 : c = c' := congrArg Obj.cls e1
  have e3 : Data.seq vs.toArray = Data.seq us.toArray := congrArg Obj.data e1
  injection e3 with e4
  refine ⟨e2, ?_⟩
  have e5 := congrArg Array.toList e4
  simpa using e5
theorem argL (KX : K.In h) (ar : ∀ a ∈ A, ArgOb h A a) {a : Addr} {vs : List Value} (ha : a ∈ A) (e : h.get? a = some { cls := .type "list", data := .seq vs.toArray }) : (∀ u ∈ vs, OkU A u) ∧ SqL K (argH K h A) a (vs.map toV) := by
  obtain ⟨us, h1, h2, h3⟩ := ar a ha
  have hu : us = vs := by
    rcases h3 with q | q
    · rw [e] at q
      exact (seq_inj q).2.symm
    · rw [e] at q
      exact absurd (Value.type.inj (seq_inj q).1) (by decide)
  subst hu
  refine ⟨h2, ?_⟩
  cases hk : K.lookup a with
  | none => exact .inl (.inr ⟨_, by rw [argH_at ha hk e, hoOf_lst]⟩)
  | some o =>
    have e2 := KX a o hk
    rw [e] at e2
    obtain rfl := Option.some.inj e2
    exact .inr ⟨_, us.toArray, _, hk, rfl, rfl, rfl, by rw [List.size_toArray]; exact h1, by simpa using vals_toV h2⟩
theorem argT (KX : K.In h) (ar : ∀ a ∈ A, ArgOb h A a) {a : Addr} {vs : List Value} (ha : a ∈ A) (e : h.get? a = some { cls := .type "tuple", data := .seq vs.toArray }) : (∀ u ∈ vs, OkU A u) ∧ SqT K (argH K h A) a (vs.map toV) := by
  obtain ⟨us, h1, h2, h3⟩ := ar a ha
  have hu : us = vs := by
    rcases h3 with q | q
    · rw [e] at q
      exact absurd (Value.type.inj (seq_inj q).1) (by decide)
    · rw [e] at q
      exact (seq_inj q).2.symm
  subst hu
  refine ⟨h2, ?_⟩
  cases hk : K.lookup a with
  | none => exact .inl (.inr ⟨_, by rw [argH_at ha hk e, hoOf_tup]⟩)
  | some o =>
    have e2 := KX a o hk
    rw [e] at e2
    obtain rfl := Option.some.inj e2
    exact .inr ⟨_, us.toArray, _, hk, rfl, rfl, by rw [List.size_toArray]; exact h1, by simpa using vals_toV h2⟩
mutual
theorem dw_one {Pm : Params} (KX : K.In h) (ar : ∀ a ∈ A, ArgOb h A a) : ∀ (d : WData) (v : Value), Well Pm h v d → plW d = true → OkU A v → Dw K (argH K h A) (toV v) d
  | .none, _, x, _, _ => by
    cases x
    exact .non
  | .bool b, _, x, _, _ => by
    cases x
    exact .bl b
  | .int i, _, x, _, _ => by
    cases x
    exact .int i
  | .str s, _, x, _, _ => by
    cases x
    exact .str s
  | .bytes b, _, x, _, _ => by
    cases x
    have z := Dw.byt (K := K) (H := argH K h A) b.toArray
    exact z
  | .list ds, _, x, p, hu => by
    obtain ⟨a, vs, rfl, ho, hall⟩ := well_list x
    obtain ⟨h2, hs⟩ := argL KX ar hu ho
    exact .lst hs (dw_all KX ar ds _ hall p h2)
  | .tuple ds, _, x, p, hu => by
    obtain ⟨a, vs, rfl, ho, hall⟩ := well_tuple x
    obtain ⟨h2, hs⟩ := argT KX ar hu ho
    exact .tup hs (dw_all KX ar ds _ hall p h2)
  | .float _, _, _, p, _ => Bool.noConfusion (show false = true from p)
  | .dict _, _, _, p, _ => Bool.noConfusion (show false = true from p)
  | .bytearray _, _, _, p, _ => Bool.noConfusion (show false = true from p)
  | .set _, _, _, p, _ => Bool.noConfusion (show false = true from p)
  | .frozenset _, _, _, p, _ => Bool.noConfusion (show false = true from p)
  | .obj _ _, _, _, p, _ => Bool.noConfusion (show false = true from p)
theorem dw_all {Pm : Params} (KX : K.In h) (ar : ∀ a ∈ A, ArgOb h A a) : ∀ (ds : List WData) (vs : List Value), WellAll Pm h vs ds → plWs ds = true → (∀ u ∈ vs, OkU A u) → DwAll K (argH K h A) (vs.map toV) ds
  | [], _, x, _, _ => by
    cases x
    exact .nil
  | d :: ds, _, x, p, hu => by
    obtain ⟨v, vs, rfl, x1, x2⟩ := well_cons x
    have q : plW d = true ∧ plWs ds = true := Bool.and_eq_true_iff.mp p
    exact .cons (dw_one KX ar d v x1 q.1 (hu _ (List.mem_cons_self ..))) (dw_all KX ar ds vs x2 q.2 fun u m => hu u (List.mem_cons_of_mem _ m))
end
end
theorem spec_call {P : Program} {w : World} {K : PySem.W.Frag} {mg mb : Str → Option Value} {CX : CXT} {k : Nat} {fa : Addr} {fd : FuncData} {ps : List Str} {sp : Sp} {s₁ : Shared} {vals : List Value} {ds : List WData} {R : PySem.W.WRecords} {cl : Str → Option Addr} {d0 : WData}
    (KX : K.In s₁.heap) (hns : s₁.heap.Ns mainGlobals mg) (hb : s₁.heap.Ns builtinsNs mb) (hbb : ∀ x : Str, x ≠ "__name__" → mb x = bootBuiltins x) (hlim : s₁.heap.NoLimit) (hg : s₁.gens = #[])
    (hwl : WellAll w.params s₁.heap vals ds) (hpl : plWs ds = true) (hwt : ∀ d ∈ ds, d.weight ≤ 1048576) (hr : Room k callerA)
    (F : ∀ base : Heap, K.In base → base.Ns mainGlobals mg → FnOk P w K mg base CX k fa fd ps sp) (hbind : ∀ (s : Shared) (us : List Value), us.length = ps.length → BindsTo s fd ⟨us, []⟩ (ps.zip us)) (hlen : ds.length = ps.length)
    (hsp : ∀ (H : Hp) (xs : List V), OnlyF H → DwAll K H xs ds → sp xs H (fun v H' => Dw K H' v d0) fun _ _ _ => False)
    (hCX : ∀ H e s', CX [] H s₁ (fun _ _ _ => False) e s' → False) :
    codeAny (model P w) callerA (.call (.ref fa) ⟨vals, []⟩) (fun r s' => ∃ u as, r = .ok (.ret u) ∧ ReadsW R cl s'.heap u d0 as ∧ OldK s₁.heap s'.heap ∧ s'.os = s₁.os ∧ AllBare s'.gens) s₁ := by
  obtain ⟨A, ho, ar⟩ := area_all ds vals hwl hpl hwt
  have hO : OnlyF (argH K s₁.heap A) := argH_only ar
  have hok : HOk P w (argH K s₁.heap A) s₁.heap := argH_ok ar
  have hS := dw_all KX ar ds vals hwl hpl ho
  have hV := vals_toV ho
  have hK : ∀ b u, argH K s₁.heap A b = some u → K.lookup b = none := fun b u q => (argH_is ar q).1
  have noA : ∀ {b : Addr} {o : Obj} {es : Array DictEntry} {ep : Nat}, s₁.heap.get? b = some o → o.data = .dict es ep → argH K s₁.heap A b = none := fun {b o es ep} e d => by
    cases q : argH K s₁.heap A b with
    | none => rfl
    | some u =>
      obtain ⟨_, vs, _, _, ⟨e2, _⟩ | ⟨e2, _⟩⟩ := argH_is ar q
      · rw [e2] at e
        cases e
        have d' : Data.seq vs.toArray _ = Data.dict es ep := d
        cases d'
      · rw [e2] at e
        cases e
        have d' : Data.seq vs.toArray _ = Data.dict es ep := d
        cases d'
  generalize argH K s₁.heap A = H at hO hok hS hK noA
  have base_of : ∀ {b : Addr} {o : Obj}, s₁.heap.get? b = some o → H b = none → (hidT s₁.heap H).get? b = some o := fun e n => hidT_get e n
  have nsK : ∀ {b : Addr} {m : Str → Option Value}, s₁.heap.Ns b m → (hidT s₁.heap H).Ns b m := fun {b m} ⟨o, es, ep, e, d, r⟩ => ⟨o, es, ep, base_of e (noA e d), d, r⟩
  have nK : ∀ b o, K.lookup b = some o → H b = none := fun b o e => by
    cases q : H b with
    | none => rfl
    | some u =>
      rw [hK b u q] at e
      cases e
  have hKb : K.In (hidT s₁.heap H) := fun b o e => base_of (KX b o e) (nK b o e)
  have hM : Mod K mg (hidT s₁.heap H) := ⟨hKb, nsK hns, ⟨mb, nsK hb, hbb⟩, let ⟨mc, h1, h2⟩ := hlim; ⟨mc, nsK h1, h2⟩⟩
  have e0 : Env0 P w K mg (hidT s₁.heap H) callerA [] s₁ H := ⟨rfl, hM, fun b o e => of_hidT e, Nat.le_of_eq (hidT_size _ _), trivial, fun b hb => absurd (show b ∈ ([] : List Addr) from hb) (by simp), hok, .of_eq hg⟩
  have hl : vals.length = ps.length := by rw [wellAll_len hwl]; exact hlen
  refine codeAny_mono ((F _ hKb (nsK hns)).run callerA [] s₁ H ⟨vals, []⟩ vals (vals.map toV) _ _ hr e0 (hbind s₁ vals hl) hV (hsp H _ hO hS)) fun r s' x => ?_
  cases r with
  | error e => exact (hCX H e s' x).elim
  | ok fl =>
    cases fl with
    | next => exact False.elim x
    | brk => exact False.elim x
    | cont => exact False.elim x
    | ret u =>
      obtain ⟨v, H', os, bare, un, hok', r', q⟩ := x
      have kept : ∀ b o, s₁.heap.get? b = some o → s'.heap.get? b = some o := fun b o e => by
        cases q2 : H b with
        | none => exact un.keep b o e q2 (by intro z; exact absurd (show b ∈ ([] : List Addr) from z) (by simp)) (by simp)
        | some u2 =>
          rcases hO b with z | ⟨ob, u3, z⟩
          · rw [q2] at z
            cases z
          · have z2 := un.frzs b ob _ z
            obtain ⟨e1, _⟩ := hok b _ z
            obtain ⟨e2, _⟩ := hok' b _ z2
            rw [e] at e1
            cases e1
            exact e2
      have KX' : K.In s'.heap := fun b o e => kept b o (KX b o e)
      obtain ⟨as, hrd⟩ := Dw.reads (R := R) (cl := cl) hok' KX' d0 v u q r'
      exact ⟨u, as, rfl, hrd, OldK.of_keep kept, os, bare⟩
theorem layable_weight {ds : List WData} (h : WData.layableAll ds = true) : ∀ d ∈ ds, d.weight ≤ 1048576 := fun d hd =>
  (PySem.W.layableW_iff.mp (List.all_eq_true.mp h d hd)).2.2
theorem encAll_len : ∀ (cs : List Codec) (a : Codec.denoteAll cs), (Codec.encAll cs a).length = cs.length
  | [], _ => rfl
  | c :: cs, a => by
    show (Codec.encAll cs a.2).length + 1 = cs.length + 1
    rw [encAll_len cs a.2]
theorem walk_spec {r : OpenSpec} {k : Nat} {q : Program} {loose : List Str} {XP : (Str → Option Value) → Heap → Prop} {YP : World → Heap → Prop} {d : DefRec} {K : Params → PySem.W.Frag} {CX : World → CXT} {ps : List Str} {sp : World → Sp}
    (hwell : r.wellSaid = true) (hdf : d.params.defaults = []) (hlen : r.args.length = ps.length) (hr : Room k callerA)
    (hY : ∀ (w : World) (h : Heap), YP w h → (K w.params).In h)
    (F : ∀ (w : World) (mg : Str → Option Value) (fa : Addr) (h : Heap), YP w h → (K w.params).In h → h.Ns mainGlobals mg → mg d.name = some (.ref fa) →
      ∃ fd : FuncData, (∀ (s : Shared) (us : List Value), us.length = ps.length → BindsTo s fd ⟨us, []⟩ (ps.zip us)) ∧
        ∀ base : Heap, (K w.params).In base → base.Ns mainGlobals mg → FnOk r.prog w (K w.params) mg base (CX w) k fa fd ps (sp w))
    (hsp : ∀ (w : World) (H : Hp) (xs : List V) (a : Codec.denoteAll r.args), OnlyF H → Codec.withinAll r.args a = true → Codec.app r.args r.asked a = true → DwAll (K w.params) H xs (Codec.encAll r.args a) →
      sp w xs H (fun v H' => Dw (K w.params) H' v (r.ret.enc (Codec.app r.args r.f a))) fun _ _ _ => False)
    (hCX : ∀ (w : World) (H : Hp) (s : Shared) (e : Value) (s' : Shared), CX w [] H s (fun _ _ _ => False) e s' → False) :
    PySem.W.WalkOS q loose XP YP r d [] (fun f vs => PySem.call f vs) := by
  intro w s_0 s₁ mg mb G Y fa o pm cd doc dV kV ho hd hcd hD hmg hg args vals as hpre hlay hrd hwl hlo
  obtain ⟨a, e1, e2⟩ := PySem.W.os_pre_some hpre
  obtain ⟨e3, hwi⟩ := Codec.encAll_of_decAll r.args args a e1
  subst e3
  have KX := hY w _ Y
  obtain ⟨fd, hb, hF⟩ := F w mg fa _ Y KX G.T.g hmg
  refine PySem.W.enter_call (codeAny_mono (spec_call (R := []) (cl := classAt s_0.heap) (d0 := r.ret.enc (Codec.app r.args r.f a)) KX G.T.g G.T.b G.T.builtins G.T.nolimit hg hwl (pl_encAll _ _) (layable_weight hlay) hr hF hb (by rw [encAll_len]; exact hlen)
    (fun H xs hO hS => hsp w H xs a hO hwi e2 hS) fun H e s' => hCX w H s₁ e s') fun r' s' hq => ?_)
  obtain ⟨u, as', rfl, h1, h2, h3, h4⟩ := hq
  exact ⟨.inl ⟨u, _, as', rfl, fun _ => rfl, h1, (OpenSpec.post_iff hwell hwi _ _).mpr rfl, fun z => Bool.noConfusion (show false = true from z)⟩, h2, h3, h4⟩
theorem walk_specK {r : OpenSpec} {k : Nat} {q : Program} {loose : List Str} {XP : (Str → Option Value) → Heap → Prop} {YP : World → Heap → Prop} {d : DefRec} {K : Params → PySem.W.Frag} {CX : CXT} {ps : List Str} {sp : PySem.W.Frag → Sp}
    (hwell : r.wellSaid = true) (hdf : d.params.defaults = []) (hlen : r.args.length = ps.length) (hr : Room k callerA)
    (hY : ∀ (w : World) (h : Heap), YP w h → (K w.params).In h)
    (F : ∀ (w : World) (mg : Str → Option Value) (fa : Addr) (h : Heap), YP w h → (K w.params).In h → h.Ns mainGlobals mg → mg d.name = some (.ref fa) →
      ∃ fd : FuncData, (∀ (s : Shared) (us : List Value), us.length = ps.length → BindsTo s fd ⟨us, []⟩ (ps.zip us)) ∧
        ∀ base : Heap, (K w.params).In base → base.Ns mainGlobals mg → FnOk r.prog w (K w.params) mg base CX k fa fd ps (sp (K w.params)))
    (hsp : ∀ (K : PySem.W.Frag) (H : Hp) (xs : List V) (a : Codec.denoteAll r.args), OnlyF H → Codec.withinAll r.args a = true → Codec.app r.args r.asked a = true → DwAll K H xs (Codec.encAll r.args a) →
      sp K xs H (fun v H' => Dw K H' v (r.ret.enc (Codec.app r.args r.f a))) fun _ _ _ => False)
    (hCX : ∀ (H : Hp) (s : Shared) (e : Value) (s' : Shared), CX [] H s (fun _ _ _ => False) e s' → False) :
    PySem.W.WalkOS q loose XP YP r d [] (fun f vs => PySem.call f vs) :=
  walk_spec (K := K) (CX := fun _ => CX) (sp := fun w => sp (K w.params)) hwell hdf hlen hr hY F (fun w H xs a h1 h2 h3 h4 => hsp (K w.params) H xs a h1 h2 h3 h4) fun _ H s e s' => hCX H s e s'
end L2
-- rests on (row put in by the clerk, for the bench that shows a file only what it spells): KE.SpHead KE.OsShapes
end
namespace Sd
section
open Vbemax
def cnt (hol : List Nat) (d : Nat) : Nat := (hol.filter fun x => decide (d < x)).length
def wk (d : Nat) : Nat := if d % 7 = 6 then 0 else if d % 7 = 5 then 5 else 2 * (d % 7) + 2
def Enough (hol : List Nat) (k d n : Nat) : Prop := 7 * (n + cnt hol d) + wk d ≤ 5 * k
theorem cnt_le (hol : List Nat) (d : Nat) : cnt hol d ≤ hol.length := List.length_filter_le _ _
theorem cnt_mono (d : Nat) : ∀ hol : List Nat, cnt hol (d + 1) ≤ cnt hol d
  | [] => Nat.le_refl _
  | x :: r => by
    have ih := cnt_mono d r
    unfold cnt at ih ⊢
    simp only [List.filter_cons]
    split <;> split <;> simp_all <;> omega
theorem cnt_step (d : Nat) : ∀ hol : List Nat, hol.contains (d + 1) = true → cnt hol (d + 1) + 1 ≤ cnt hol d
  | [], h => by simp at h
  | x :: r, h => by
    have ih := cnt_step d r
    have im := cnt_mono d r
    unfold cnt at ih im ⊢
    simp only [List.filter_cons]
    by_cases e : x = d + 1
    · subst e
      simp
      omega
    · have h' : r.contains (d + 1) = true := by
        simp at h ⊢
        rcases h with h | h
        · omega
        · exact h
      have ih' := ih h'
      split <;> split <;> simp_all <;> omega
theorem wk_le (d : Nat) : wk d ≤ 10 := by
  unfold wk
  split
  · omega
  · split <;> omega
theorem enough_after (hol : List Nat) (d n : Nat) : Enough hol (2 * n + 2 * hol.length + 7) d n := by
  have h1 := cnt_le hol d
  have h2 := wk_le d
  unfold Enough
  omega
theorem wk_work {d : Nat} (h : ¬ 5 ≤ (d + 1) % 7) : wk (d + 1) ≤ wk d + 2 := by
  unfold wk
  have : (d + 1) % 7 = (d % 7 + 1) % 7 := by omega
  split <;> split <;> (try split) <;> (try split) <;> omega
theorem wk_free {d : Nat} (h : 5 ≤ (d + 1) % 7) : wk (d + 1) + 5 ≤ wk d := by
  unfold wk
  split <;> split <;> (try split) <;> (try split) <;> omega
theorem behind_zero (hol : List Nat) (k d : Nat) : behind hol k d 0 = d := by
  cases k with
  | zero => rfl
  | succ k => simp [behind]
theorem behind_step {hol : List Nat} {k d n : Nat} (hn : 0 < n) (h : Enough hol k d n) :
    ∃ k', k = k' + 1 ∧ behind hol k d n = behind hol k' (d + 1) (if isFree hol (d + 1) = true then n else n - 1) ∧ Enough hol k' (d + 1) (if isFree hol (d + 1) = true then n else n - 1) := by
  have hk : 0 < k := by unfold Enough at h; omega
  obtain ⟨k', rfl⟩ : ∃ k', k = k' + 1 := ⟨k - 1, by omega⟩
  refine ⟨k', rfl, ?_, ?_⟩
  · show (if n = 0 then d else if isFree hol (d + 1) = true then behind hol k' (d + 1) n else behind hol k' (d + 1) (n - 1)) = _
    rw [if_neg (by omega)]
    split <;> rfl
  · have hm := cnt_mono d hol
    unfold Enough at h ⊢
    by_cases hw : 5 ≤ (d + 1) % 7
    · have := wk_free hw
      have hf : isFree hol (d + 1) = true := by simp [isFree, hw]
      rw [if_pos hf]
      omega
    · have hw2 := wk_work hw
      split
      · rename_i hf
        have hc : hol.contains (d + 1) = true := by simpa [isFree, hw] using hf
        have := cnt_step d hol hc
        omega
      · omega
theorem sorted_ext : ∀ {a b : List Nat}, a.Pairwise (· < ·) → b.Pairwise (· < ·) → (∀ x, x ∈ a ↔ x ∈ b) → a = b
  | [], [], _, _, _ => rfl
  | [], y :: b, _, _, h => by have := (h y).mpr (List.mem_cons_self ..); simp at this
  | x :: a, [], _, _, h => by have := (h x).mp (List.mem_cons_self ..); simp at this
  | x :: a, y :: b, ha, hb, h => by
    rw [List.pairwise_cons] at ha hb
    have hxy : x = y := by
      have h1 := (h x).mp (List.mem_cons_self ..)
      have h2 := (h y).mpr (List.mem_cons_self ..)
      rw [List.mem_cons] at h1 h2
      rcases h1 with h1 | h1
      · exact h1
      · rcases h2 with h2 | h2
        · exact h2.symm
        · have := ha.1 y h2
          have := hb.1 x h1
          omega
    subst hxy
    congr 1
    refine sorted_ext ha.2 hb.2 fun z => ?_
    have hz := h z
    rw [List.mem_cons, List.mem_cons] at hz
    constructor
    · intro q
      have := ha.1 z q
      rcases hz.mp (.inr q) with e | e
      · omega
      · exact e
    · intro q
      have := hb.1 z q
      rcases hz.mpr (.inr q) with e | e
      · omega
      · exact e
theorem mem_putDay (x z : Nat) : ∀ l : List Nat, z ∈ putDay x l ↔ z = x ∨ z ∈ l
  | [] => by simp [putDay]
  | y :: r => by
    have ih := mem_putDay x z r
    unfold putDay
    split
    · simp
    · split
      · rename_i h
        subst h
        simp
      · rw [List.mem_cons, ih, List.mem_cons]
        constructor
        · rintro (h | h | h)
          · exact .inr (.inl h)
          · exact .inl h
          · exact .inr (.inr h)
        · rintro (h | h | h)
          · exact .inr (.inl h)
          · exact .inl h
          · exact .inr (.inr h)
theorem putDay_sorted (x : Nat) : ∀ l : List Nat, l.Pairwise (· < ·) → (putDay x l).Pairwise (· < ·)
  | [], _ => by simp [putDay]
  | y :: r, h => by
    have hr := (List.pairwise_cons.mp h)
    unfold putDay
    split
    · rename_i hxy
      refine List.pairwise_cons.mpr ⟨fun z hz => ?_, h⟩
      rcases List.mem_cons.mp hz with e | e
      · omega
      · have := hr.1 z e
        omega
    · split
      · exact h
      · refine List.pairwise_cons.mpr ⟨fun z hz => ?_, putDay_sorted x r hr.2⟩
        rcases (mem_putDay x z r).mp hz with e | e
        · omega
        · exact hr.1 z e
theorem putDay_length (x : Nat) : ∀ l : List Nat, l.Pairwise (· < ·) → (putDay x l).length = if l.contains x = true then l.length else l.length + 1
  | [], _ => by simp [putDay]
  | y :: r, h => by
    have hr := (List.pairwise_cons.mp h)
    have ih := putDay_length x r hr.2
    have key : x < y → ¬ x ∈ r := fun q m => by have := hr.1 x m; omega
    unfold putDay
    split
    · rename_i hxy
      have : ¬ (y :: r).contains x = true := by
        simp
        exact ⟨by omega, key hxy⟩
      rw [if_neg this]
      rfl
    · split
      · rename_i hxy
        subst hxy
        simp
      · rename_i h1 h2
        rw [List.length_cons, ih]
        have e : (y :: r).contains x = r.contains x := by
          simp
          omega
        rw [e]
        split <;> rfl
theorem foldr_putDay_mem (z : Nat) : ∀ (xs base : List Nat), z ∈ xs.foldr putDay base ↔ z ∈ xs ∨ z ∈ base
  | [], base => by simp
  | x :: xs, base => by
    rw [List.foldr_cons, mem_putDay, foldr_putDay_mem z xs base, List.mem_cons]
    constructor
    · rintro (h | h | h)
      · exact .inl (.inl h)
      · exact .inl (.inr h)
      · exact .inr h
    · rintro ((h | h) | h)
      · exact .inl h
      · exact .inr (.inl h)
      · exact .inr (.inr h)
theorem foldr_putDay_sorted : ∀ (xs base : List Nat), base.Pairwise (· < ·) → (xs.foldr putDay base).Pairwise (· < ·)
  | [], _, h => h
  | x :: xs, base, h => putDay_sorted x _ (foldr_putDay_sorted xs base h)
theorem edges_sorted (l : List Fact) (p : Nat) : (edges l p).Pairwise (· < ·) := foldr_putDay_sorted _ _ (by simp)
theorem mem_edges (l : List Fact) (p z : Nat) : z ∈ edges l p ↔ z = 0 ∨ ∃ f ∈ l, f.point = p ∧ (z = f.from_ ∨ z = f.to_ + 1) := by
  unfold edges
  rw [foldr_putDay_mem, List.mem_flatMap]
  constructor
  · rintro (⟨f, hf, hz⟩ | hz)
    · rw [List.mem_filter] at hf
      simp at hz hf
      exact .inr ⟨f, hf.1, hf.2, hz⟩
    · simp at hz
      exact .inl hz
  · rintro (rfl | ⟨f, hf, hp, hz⟩)
    · right; simp
    · refine .inl ⟨f, List.mem_filter.mpr ⟨hf, by simpa using hp⟩, by simpa using hz⟩
def covers (d : Nat) (f : Fact) : Bool := decide (f.from_ ≤ d) && decide (d ≤ f.to_)
def supBy (basic : Nat) (l : List Fact) (d : Nat) : Nat := l.foldl (fun x f => if covers d f = true then f.supplier else x) basic
def knownOf (l : List Fact) (p k : Nat) : List Fact := l.filter fun f => f.point == p && decide (f.known ≤ k)
theorem supBy_snoc (b : Nat) (l : List Fact) (f : Fact) (d : Nat) : supBy b (l ++ [f]) d = if covers d f = true then f.supplier else supBy b l d := by
  unfold supBy
  rw [List.foldl_append]
  rfl
theorem supBy_last (b d : Nat) : ∀ l : List Fact, supBy b l d = ((l.filter (covers d)).getLast?.map fun f => f.supplier).getD b := by
  intro l
  unfold supBy
  induction l generalizing b with
  | nil => rfl
  | cons f r ih =>
    rw [List.foldl_cons, ih, List.filter_cons]
    split
    · rw [List.getLast?_cons]
      cases (r.filter (covers d)).getLast? <;> rfl
    · rfl
theorem who_eq (b : Nat) (l : List Fact) (p d k : Nat) : who b l p d k = supBy b (knownOf l p k) d := by
  rw [supBy_last]
  unfold who knownOf
  rw [List.filter_filter]
  congr 3
  refine List.filter_congr fun f _ => ?_
  unfold covers
  cases f.point == p <;> cases decide (f.from_ ≤ d) <;> cases decide (d ≤ f.to_) <;> cases decide (f.known ≤ k) <;> rfl
theorem supBy_stays (b d : Nat) : ∀ l : List Fact, (∀ f ∈ l, f.from_ ≠ d + 1 ∧ f.to_ ≠ d) → supBy b l (d + 1) = supBy b l d := by
  intro l
  unfold supBy
  induction l generalizing b with
  | nil => intro _; rfl
  | cons f r ih =>
    intro h
    have hf := h f (List.mem_cons_self ..)
    have e : covers (d + 1) f = covers d f := by
      unfold covers
      have h1 : decide (f.from_ ≤ d + 1) = decide (f.from_ ≤ d) := by
        apply decide_eq_decide.mpr; omega
      have h2 : decide (d + 1 ≤ f.to_) = decide (d ≤ f.to_) := by
        apply decide_eq_decide.mpr; omega
      rw [h1, h2]
    rw [List.foldl_cons, List.foldl_cons, e, ih _ fun g hg => h g (List.mem_cons_of_mem _ hg)]
def isStart (w : Nat → Nat) (d : Nat) : Bool := decide (d = 0) || decide (w d ≠ w (d - 1))
theorem const_between (w : Nat → Nat) (a : Nat) : ∀ n, (∀ d, a < d → d ≤ a + n → isStart w d = false) → w (a + n) = w a
  | 0, _ => rfl
  | n + 1, h => by
    have ih := const_between w a n fun d h1 h2 => h d h1 (by omega)
    have := h (a + (n + 1)) (by omega) (by omega)
    unfold isStart at this
    simp at this
    exact this.trans ih
theorem start_iff {w : Nat → Nat} {a b : Nat} (hab : a < b) (h : ∀ d, a < d → d < b → isStart w d = false) : isStart w b = true ↔ w a ≠ w b := by
  have e : w (b - 1) = w a := by
    have := const_between w a (b - 1 - a) fun d h1 h2 => h d h1 (by omega)
    rwa [show a + (b - 1 - a) = b - 1 by omega] at this
  unfold isStart
  rw [e]
  simp
  constructor
  · rintro (q | q)
    · omega
    · exact fun z => q z.symm
  · intro q
    exact .inr fun z => q z.symm
def spanOf (w : Nat → Nat) (d : Nat) : Span := ⟨d, w d⟩
theorem merged_starts (w : Nat → Nat) : ∀ (a : Nat) (E : List Nat), (a :: E).Pairwise (· < ·) → (∀ d, a < d → isStart w d = true → (∃ y ∈ E, d < y) → d ∈ E) →
    merged ((a :: E).map (spanOf w)) = spanOf w a :: (E.filter (isStart w)).map (spanOf w)
  | a, [], _, _ => rfl
  | a, b :: E, hs, h => by
    have hp := List.pairwise_cons.mp hs
    have hab : a < b := hp.1 b (List.mem_cons_self ..)
    have ih := merged_starts w b E hp.2 fun d hd hst hy => by
      obtain ⟨y, hy, hdy⟩ := hy
      have := h d (by omega) hst ⟨y, List.mem_cons_of_mem _ hy, hdy⟩
      rcases List.mem_cons.mp this with e | e
      · omega
      · exact e
    have hst := start_iff (w := w) hab fun d h1 h2 => by
      cases e : isStart w d with
      | false => rfl
      | true =>
        have := h d h1 e ⟨b, List.mem_cons_self .., h2⟩
        rcases List.mem_cons.mp this with q | q
        · omega
        · have := (List.pairwise_cons.mp hp.2).1 d q
          omega
    show addSpan (spanOf w a) (merged ((b :: E).map (spanOf w))) = _
    rw [ih, List.filter_cons]
    show (if (spanOf w a).supplier = (spanOf w b).supplier then spanOf w a :: (E.filter (isStart w)).map (spanOf w) else spanOf w a :: spanOf w b :: (E.filter (isStart w)).map (spanOf w)) = _
    by_cases e : w a = w b
    · rw [if_pos (show (spanOf w a).supplier = (spanOf w b).supplier from e), if_neg (fun q => hst.mp q e)]
    · rw [if_neg (show ¬ (spanOf w a).supplier = (spanOf w b).supplier from e), if_pos (hst.mpr e)]
      rfl
def startsLoop (w : Nat → Nat) : Nat → List Nat → List Nat
  | _, [] => []
  | bef, d :: r => if w d ≠ bef then d :: startsLoop w (w d) r else startsLoop w (w d) r
theorem startsLoop_eq (w : Nat → Nat) : ∀ (a : Nat) (E : List Nat), (a :: E).Pairwise (· < ·) → (∀ d, a < d → isStart w d = true → (∃ y ∈ E, d < y) → d ∈ E) →
    startsLoop w (w a) E = E.filter (isStart w)
  | a, [], _, _ => rfl
  | a, b :: E, hs, h => by
    have hp := List.pairwise_cons.mp hs
    have hab : a < b := hp.1 b (List.mem_cons_self ..)
    have ih := startsLoop_eq w b E hp.2 fun d hd hst hy => by
      obtain ⟨y, hy, hdy⟩ := hy
      have := h d (by omega) hst ⟨y, List.mem_cons_of_mem _ hy, hdy⟩
      rcases List.mem_cons.mp this with e | e
      · omega
      · exact e
    have hst := start_iff (w := w) hab fun d h1 h2 => by
      cases e : isStart w d with
      | false => rfl
      | true =>
        have := h d h1 e ⟨b, List.mem_cons_self .., h2⟩
        rcases List.mem_cons.mp this with q | q
        · omega
        · have := (List.pairwise_cons.mp hp.2).1 d q
          omega
    unfold startsLoop
    rw [ih, List.filter_cons]
    by_cases e : w b = w a
    · rw [if_neg (fun q => q e), if_neg (fun q => hst.mp q e.symm)]
    · rw [if_pos e, if_pos (hst.mpr fun q => e q.symm)]
def starts (w : Nat → Nat) : List Nat := (List.range (LAST + 1)).filter (isStart w)
theorem starts_sorted (w : Nat → Nat) : (starts w).Pairwise (· < ·) := List.Pairwise.filter _ List.pairwise_lt_range
theorem mem_starts (w : Nat → Nat) (d : Nat) : d ∈ starts w ↔ d ≤ LAST ∧ isStart w d = true := by
  unfold starts
  rw [List.mem_filter, List.mem_range]
  constructor
  · rintro ⟨h1, h2⟩; exact ⟨by omega, h2⟩
  · rintro ⟨h1, h2⟩; exact ⟨by omega, h2⟩
theorem filter_starts {w : Nat → Nat} {E : List Nat} (hs : E.Pairwise (· < ·)) (hl : ∀ d ∈ E, d ≤ LAST) (h : ∀ d, d ≤ LAST → isStart w d = true → d ∈ E) : E.filter (isStart w) = starts w := by
  refine sorted_ext (List.Pairwise.filter _ hs) (starts_sorted w) fun d => ?_
  rw [mem_starts, List.mem_filter]
  constructor
  · rintro ⟨h1, h2⟩; exact ⟨hl d h1, h2⟩
  · rintro ⟨h1, h2⟩; exact ⟨h d h1 h2, h2⟩
theorem isStart_zero (w : Nat → Nat) : isStart w 0 = true := rfl
theorem zero_head {E : List Nat} (hs : E.Pairwise (· < ·)) (h0 : 0 ∈ E) : ∃ r, E = 0 :: r := by
  cases E with
  | nil => simp at h0
  | cons a r =>
    rcases List.mem_cons.mp h0 with e | e
    · exact ⟨r, by rw [← e]⟩
    · have := (List.pairwise_cons.mp hs).1 0 e
      omega
theorem merged_all {w : Nat → Nat} {E : List Nat} (hs : E.Pairwise (· < ·)) (hl : ∀ d ∈ E, d ≤ LAST) (h : ∀ d, d ≤ LAST → isStart w d = true → d ∈ E) : merged (E.map (spanOf w)) = (starts w).map (spanOf w) := by
  obtain ⟨r, rfl⟩ := zero_head hs (h 0 (Nat.zero_le _) rfl)
  rw [merged_starts w 0 r hs, ← filter_starts hs hl h, List.filter_cons, if_pos (isStart_zero w), List.map_cons]
  rintro d hd hst ⟨y, hy, hdy⟩
  have := h d (by have := hl y (List.mem_cons_of_mem _ hy); omega) hst
  rcases List.mem_cons.mp this with e | e
  · omega
  · exact e
theorem startsLoop_all {w : Nat → Nat} {E : List Nat} {bef : Nat} (hs : E.Pairwise (· < ·)) (hl : ∀ d ∈ E, d ≤ LAST) (h : ∀ d, d ≤ LAST → isStart w d = true → d ∈ E) (hb : w 0 ≠ bef) : startsLoop w bef E = starts w := by
  obtain ⟨r, rfl⟩ := zero_head hs (h 0 (Nat.zero_le _) rfl)
  have e := startsLoop_eq w 0 r hs (fun d hd hst hy => by
    obtain ⟨y, hy, hdy⟩ := hy
    have := h d (by have := hl y (List.mem_cons_of_mem _ hy); omega) hst
    rcases List.mem_cons.mp this with e | e
    · omega
    · exact e)
  rw [← filter_starts hs hl h, List.filter_cons, if_pos (isStart_zero w)]
  show (if w 0 ≠ bef then 0 :: startsLoop w (w 0) r else startsLoop w (w 0) r) = _
  rw [if_pos hb, e]
theorem change_edge {b : Nat} {l : List Fact} {p k d : Nat} (h : isStart (fun d => who b l p d k) d = true) : d = 0 ∨ ∃ f ∈ l, f.point = p ∧ f.known ≤ k ∧ (d = f.from_ ∨ d = f.to_ + 1) := by
  unfold isStart at h
  by_cases hd : d = 0
  · exact .inl hd
  · right
    simp [hd] at h
    apply Classical.byContradiction
    intro hn
    apply h
    obtain ⟨e, rfl⟩ : ∃ e, d = e + 1 := ⟨d - 1, by omega⟩
    rw [who_eq, who_eq]
    refine supBy_stays b e _ fun f hf => ?_
    unfold knownOf at hf
    rw [List.mem_filter] at hf
    simp at hf
    constructor
    · intro q; exact hn ⟨f, hf.1, hf.2.1, hf.2.2, .inl q.symm⟩
    · intro q; exact hn ⟨f, hf.1, hf.2.1, hf.2.2, .inr (by rw [q])⟩
def wOf (b : Nat) (l : List Fact) (p k : Nat) : Nat → Nat := fun d => who b l p d k
theorem edges_le_sorted (l : List Fact) (p : Nat) : ((edges l p).filter fun d => decide (d ≤ LAST)).Pairwise (· < ·) := List.Pairwise.filter _ (edges_sorted l p)
theorem spans_eq (b : Nat) (l : List Fact) (p k : Nat) : spans b l p k = (starts (wOf b l p k)).map (spanOf (wOf b l p k)) := by
  unfold spans
  refine merged_all (w := wOf b l p k) (edges_le_sorted l p) (fun d hd => by simpa using (List.mem_filter.mp hd).2) fun d hd h => ?_
  rw [List.mem_filter, mem_edges]
  refine ⟨?_, by simpa using hd⟩
  rcases change_edge h with e | ⟨f, hf, hp, _, hz⟩
  · exact .inl e
  · exact .inr ⟨f, hf, hp, hz⟩
def endLoop (d : Nat) : List Nat → Nat
  | [] => LAST
  | x :: r => if d < x then x - 1 else endLoop d r
theorem until_eq (b : Nat) (l : List Fact) (p d k : Nat) : until_ b l p d k = endLoop d (starts (wOf b l p k)) := by
  unfold until_
  rw [spans_eq]
  generalize starts (wOf b l p k) = E
  induction E with
  | nil => rfl
  | cons x r ih =>
    rw [List.map_cons, List.find?_cons]
    unfold endLoop
    by_cases h : d < x
    · rw [if_pos h]
      have : decide (d < (spanOf (wOf b l p k) x).from_) = true := decide_eq_true h
      rw [this]
      rfl
    · rw [if_neg h]
      have : decide (d < (spanOf (wOf b l p k) x).from_) = false := decide_eq_false h
      rw [this]
      exact ih
theorem endLoop_le (d : Nat) (E : List Nat) (h : ∀ x ∈ E, x ≤ LAST) : endLoop d E ≤ LAST := by
  induction E with
  | nil => exact Nat.le_refl _
  | cons x r ih =>
    unfold endLoop
    split
    · have := h x (List.mem_cons_self ..)
      omega
    · exact ih fun y hy => h y (List.mem_cons_of_mem _ hy)
theorem until_le (b : Nat) (l : List Fact) (p d k : Nat) : until_ b l p d k ≤ LAST := by
  rw [until_eq]
  exact endLoop_le d _ fun x hx => ((mem_starts _ x).mp hx).1
def rangesOf (w : Nat → Nat) : List Nat → List (Nat × Nat × Nat)
  | [] => []
  | [a] => [(a, LAST, w a)]
  | a :: b :: r => (a, b - 1, w a) :: rangesOf w (b :: r)
theorem ranges_map (w : Nat → Nat) : ∀ E : List Nat, ranges (E.map (spanOf w)) = rangesOf w E
  | [] => rfl
  | [a] => rfl
  | a :: b :: r => by
    have ih := ranges_map w (b :: r)
    show (a, b - 1, w a) :: ranges ((b :: r).map (spanOf w)) = (a, b - 1, w a) :: rangesOf w (b :: r)
    rw [ih]
theorem sum_filter_nz {α : Type} (g : α → Nat) : ∀ l : List α, ((l.filter fun x => decide (g x ≠ 0)).map g).sum = (l.map g).sum
  | [] => rfl
  | x :: r => by
    have ih := sum_filter_nz g r
    rw [List.filter_cons]
    split
    · rw [List.map_cons, List.sum_cons, ih, List.map_cons, List.sum_cons]
    · rename_i h
      have : g x = 0 := by simpa using h
      rw [ih, List.map_cons, List.sum_cons, this, Nat.zero_add]
theorem sum_perm {l m : List Nat} (h : l.Perm m) : l.sum = m.sum := by
  induction h with
  | nil => rfl
  | cons x _ ih => rw [List.sum_cons, List.sum_cons, ih]
  | swap x y l => simp only [List.sum_cons]; omega
  | trans _ _ a b => rw [a, b]
theorem perm_of_nodup {α : Type} [DecidableEq α] : ∀ {l m : List α}, l.Nodup → m.Nodup → (∀ x, x ∈ l ↔ x ∈ m) → l.Perm m
  | [], m, _, _, h => by
    cases m with
    | nil => exact .nil
    | cons y m => have := (h y).mpr (List.mem_cons_self ..); simp at this
  | x :: l, m, hl, hm, h => by
    have hx : x ∈ m := (h x).mp (List.mem_cons_self ..)
    have hl' := List.nodup_cons.mp hl
    have p1 : m.Perm (x :: m.erase x) := List.perm_cons_erase hx
    refine List.Perm.trans (List.Perm.cons x (perm_of_nodup hl'.2 (hm.erase x) fun y => ?_)) p1.symm
    rw [hm.mem_erase_iff]
    constructor
    · intro hy
      exact ⟨fun e => hl'.1 (e ▸ hy), (h y).mp (List.mem_cons_of_mem _ hy)⟩
    · rintro ⟨hne, hy⟩
      rcases List.mem_cons.mp ((h y).mpr hy) with e | e
      · exact absurd e hne
      · exact e
theorem sum_same {α : Type} [DecidableEq α] (g : α → Nat) {l m : List α} (hl : l.Nodup) (hm : m.Nodup) (h : ∀ x, g x ≠ 0 → (x ∈ l ↔ x ∈ m)) : (l.map g).sum = (m.map g).sum := by
  rw [← sum_filter_nz g l, ← sum_filter_nz g m]
  refine sum_perm (List.Perm.map g (perm_of_nodup (hl.filter _) (hm.filter _) fun x => ?_))
  rw [List.mem_filter, List.mem_filter]
  constructor
  · rintro ⟨a, b⟩; exact ⟨(h x (by simpa using b)).mp a, b⟩
  · rintro ⟨a, b⟩; exact ⟨(h x (by simpa using b)).mpr a, b⟩
theorem eraseDups_nodup {α : Type} [BEq α] [LawfulBEq α] : ∀ (n : Nat) (l : List α), l.length ≤ n → l.eraseDups.Nodup
  | _, [], _ => by simp
  | 0, x :: r, h => by simp at h
  | n + 1, x :: r, h => by
    rw [List.eraseDups_cons]
    refine List.nodup_cons.mpr ⟨?_, eraseDups_nodup n _ (Nat.le_trans (List.length_filter_le _ _) (by simpa using h))⟩
    rw [List.mem_eraseDups, List.mem_filter]
    simp
def putA {κ : Type} [DecidableEq κ] (k : κ) (v : Nat) : List (κ × Nat) → List (κ × Nat)
  | [] => [(k, v)]
  | y :: r => if y.1 = k then (k, v) :: r else y :: putA k v r
def knownV (s : State) (k : Nat) : List Volume := s.volumes.filter fun v => decide (v.known ≤ k)
def amts (vs : List Volume) : List ((Nat × Nat) × Nat) := vs.foldl (fun m v => putA (v.point, v.day) v.amount m) []
def getA {κ : Type} [DecidableEq κ] (k : κ) (m : List (κ × Nat)) : Option Nat := (m.find? fun y => decide (y.1 = k)).map (·.2)
theorem getA_putA {κ : Type} [DecidableEq κ] (k j : κ) (v : Nat) : ∀ m : List (κ × Nat), getA j (putA k v m) = if j = k then some v else getA j m
  | [] => by
    unfold getA putA
    by_cases h : j = k
    · subst h; simp
    · have : ¬ k = j := fun q => h q.symm
      simp [h, this]
  | y :: r => by
    have ih := getA_putA k j v r
    unfold putA
    by_cases h : y.1 = k
    · rw [if_pos h]
      unfold getA
      by_cases hj : j = k
      · subst hj; simp
      · have h1 : ¬ k = j := fun q => hj q.symm
        have h2 : ¬ y.1 = j := fun q => hj (q.symm.trans h)
        simp [h1, h2, hj]
    · rw [if_neg h]
      unfold getA at ih ⊢
      by_cases hj : y.1 = j
      · have : ¬ j = k := fun q => h (hj.trans q)
        simp [hj, this]
      · simp only [List.find?_cons, hj, decide_false]
        exact ih
theorem keys_putA {κ : Type} [DecidableEq κ] (k : κ) (v : Nat) (j : κ) : ∀ m : List (κ × Nat), j ∈ (putA k v m).map (·.1) ↔ j = k ∨ j ∈ m.map (·.1)
  | [] => by simp [putA]
  | y :: r => by
    have ih := keys_putA k v j r
    unfold putA
    by_cases h : y.1 = k
    · rw [if_pos h]
      simp [h]
    · rw [if_neg h, List.map_cons, List.mem_cons, ih, List.map_cons, List.mem_cons]
      constructor
      · rintro (q | q | q)
        · exact .inr (.inl q)
        · exact .inl q
        · exact .inr (.inr q)
      · rintro (q | q | q)
        · exact .inr (.inl q)
        · exact .inl q
        · exact .inr (.inr q)
theorem nodup_putA {κ : Type} [DecidableEq κ] (k : κ) (v : Nat) : ∀ m : List (κ × Nat), (m.map (·.1)).Nodup → ((putA k v m).map (·.1)).Nodup
  | [], _ => by simp [putA]
  | y :: r, h => by
    have h' := List.nodup_cons.mp h
    unfold putA
    by_cases e : y.1 = k
    · rw [if_pos e]
      exact List.nodup_cons.mpr ⟨fun q => h'.1 (show y.1 ∈ r.map (·.1) by rw [e]; exact q), h'.2⟩
    · rw [if_neg e]
      refine List.nodup_cons.mpr ⟨fun q => ?_, nodup_putA k v r h'.2⟩
      rcases (keys_putA k v y.1 r).mp q with q | q
      · exact e q
      · exact h'.1 q
theorem amts_snoc (vs : List Volume) (v : Volume) : amts (vs ++ [v]) = putA (v.point, v.day) v.amount (amts vs) := by
  unfold amts; rw [List.foldl_append]; rfl
theorem amts_nodup (vs : List Volume) : ((amts vs).map (·.1)).Nodup := by
  unfold amts
  suffices h : ∀ (vs : List Volume) (m : List ((Nat × Nat) × Nat)), (m.map (·.1)).Nodup → ((vs.foldl (fun m v => putA (v.point, v.day) v.amount m) m).map (·.1)).Nodup from h vs [] (by simp)
  intro vs
  induction vs with
  | nil => intro m h; exact h
  | cons v r ih => intro m h; exact ih _ (nodup_putA _ _ m h)
theorem getA_amts (p d : Nat) : ∀ (vs : List Volume) (m : List ((Nat × Nat) × Nat)), getA (p, d) (vs.foldl (fun m v => putA (v.point, v.day) v.amount m) m) =
    (match (vs.filter fun v => v.point == p && v.day == d).getLast? with | some v => some v.amount | none => getA (p, d) m)
  | [], m => rfl
  | v :: r, m => by
    rw [List.foldl_cons, getA_amts p d r, getA_putA, List.filter_cons]
    by_cases h : v.point = p ∧ v.day = d
    · rw [if_pos (show (p, d) = (v.point, v.day) by rw [h.1, h.2]), if_pos (by simp [h])]
      rw [List.getLast?_cons]
      cases (r.filter fun v => v.point == p && v.day == d).getLast? <;> rfl
    · rw [if_neg (fun q => h ⟨(congrArg Prod.fst q).symm, (congrArg Prod.snd q).symm⟩), if_neg (by simpa using h)]
theorem volumeAt_eq (s : State) (p d k : Nat) : volumeAt s p d k = (getA (p, d) (amts (knownV s k))).getD 0 := by
  unfold amts
  rw [getA_amts]
  unfold volumeAt knownV
  rw [List.filter_filter]
  have e : (s.volumes.filter fun v => v.point == p && (v.day == d && decide (v.known ≤ k))) = s.volumes.filter fun v => (v.point == p && v.day == d) && decide (v.known ≤ k) :=
    List.filter_congr fun v _ => by cases v.point == p <;> cases v.day == d <;> rfl
  rw [e]
  cases ((s.volumes.filter fun v => (v.point == p && v.day == d) && decide (v.known ≤ k)).getLast?) <;> rfl
theorem getA_mem {κ : Type} [DecidableEq κ] {k : κ} {v : Nat} : ∀ {m : List (κ × Nat)}, (m.map (·.1)).Nodup → (k, v) ∈ m → getA k m = some v
  | [], _, h => by simp at h
  | y :: r, nd, h => by
    have nd' := List.nodup_cons.mp nd
    rcases List.mem_cons.mp h with e | e
    · subst e; simp [getA]
    · have hne : ¬ y.1 = k := fun q => nd'.1 (show y.1 ∈ r.map (·.1) by rw [q]; exact List.mem_map_of_mem (f := (·.1)) e)
      have ih := getA_mem nd'.2 e
      unfold getA at ih ⊢
      simp only [List.find?_cons, hne, decide_false]
      exact ih
theorem getA_none {κ : Type} [DecidableEq κ] {k : κ} {m : List (κ × Nat)} (h : k ∉ m.map (·.1)) : getA k m = none := by
  unfold getA
  rw [Option.map_eq_none_iff, List.find?_eq_none]
  intro y hy
  simp
  intro q
  exact h (q ▸ List.mem_map_of_mem (f := (·.1)) hy)
theorem sum_amts (s : State) (a b k : Nat) (c : Nat → Nat → Bool) :
    (((amts (knownV s k)).filter fun y => (decide (a ≤ y.1.2) && decide (y.1.2 ≤ b)) && c y.1.1 y.1.2).map (·.2)).sum = ((measured s a b).map fun y => if c y.1 y.2 = true then volumeAt s y.1 y.2 k else 0).sum := by
  have nd := amts_nodup (knownV s k)
  let g : Nat × Nat → Nat := fun y => if (decide (a ≤ y.2) && decide (y.2 ≤ b)) && c y.1 y.2 then volumeAt s y.1 y.2 k else 0
  have e1 : (((amts (knownV s k)).filter fun y => (decide (a ≤ y.1.2) && decide (y.1.2 ≤ b)) && c y.1.1 y.1.2).map (·.2)).sum = (((amts (knownV s k)).map (·.1)).map g).sum := by
    have key : ∀ l : List ((Nat × Nat) × Nat), (∀ y ∈ l, volumeAt s y.1.1 y.1.2 k = y.2) → ((l.filter fun y => (decide (a ≤ y.1.2) && decide (y.1.2 ≤ b)) && c y.1.1 y.1.2).map (·.2)).sum = ((l.map (·.1)).map g).sum := by
      intro l
      induction l with
      | nil => intro _; rfl
      | cons y r ih =>
        intro h
        have ih' := ih fun z hz => h z (List.mem_cons_of_mem _ hz)
        have hy := h y (List.mem_cons_self ..)
        rw [List.filter_cons, List.map_cons, List.map_cons, List.sum_cons, ← ih']
        by_cases q : ((decide (a ≤ y.1.2) && decide (y.1.2 ≤ b)) && c y.1.1 y.1.2) = true
        · rw [if_pos q, List.map_cons, List.sum_cons]
          have : g y.1 = y.2 := by show (if _ then _ else _) = _; rw [if_pos q]; exact hy
          rw [this]
        · rw [if_neg q]
          have : g y.1 = 0 := by show (if _ then _ else _) = _; rw [if_neg q]
          rw [this, Nat.zero_add]
    refine key _ fun y hy => ?_
    rw [volumeAt_eq, show (y.1.1, y.1.2) = y.1 from rfl, getA_mem nd (show (y.1, y.2) ∈ _ from hy)]
    rfl
  have e2 : ((measured s a b).map fun y => if c y.1 y.2 = true then volumeAt s y.1 y.2 k else 0) = (measured s a b).map g := by
    refine List.map_congr_left fun y hy => ?_
    unfold measured at hy
    rw [List.mem_eraseDups, List.mem_map] at hy
    obtain ⟨v, hv, rfl⟩ := hy
    have := (List.mem_filter.mp hv).2
    show _ = if ((decide (a ≤ v.day) && decide (v.day ≤ b)) && c v.point v.day) = true then _ else _
    rw [this, Bool.true_and]
  rw [e1, e2]
  refine sum_same g nd (eraseDups_nodup _ _ (Nat.le_refl _)) fun y hy => ?_
  have hg : ((decide (a ≤ y.2) && decide (y.2 ≤ b)) && c y.1 y.2) = true := Classical.byContradiction fun q => hy (by show (if _ then _ else _) = _; rw [if_neg q])
  have hv : volumeAt s y.1 y.2 k ≠ 0 := by
    have : g y = volumeAt s y.1 y.2 k := by show (if _ then _ else _) = _; rw [if_pos hg]
    rwa [this] at hy
  have m1 : y ∈ (amts (knownV s k)).map (·.1) := Classical.byContradiction fun q => hv (by
    rw [volumeAt_eq, show (y.1, y.2) = y from rfl, getA_none q]; rfl)
  refine ⟨fun _ => ?_, fun _ => m1⟩
  have hab : (decide (a ≤ y.2) && decide (y.2 ≤ b)) = true := by
    cases e : (decide (a ≤ y.2) && decide (y.2 ≤ b)) with
    | true => rfl
    | false => rw [e] at hg; simp at hg
  show y ∈ List.eraseDups _
  rw [List.mem_eraseDups, List.mem_map]
  cases e : (s.volumes.filter fun v => v.point == y.1 && (v.day == y.2 && decide (v.known ≤ k))).getLast? with
  | none =>
    exfalso
    apply hv
    unfold volumeAt
    rw [e]
    rfl
  | some v =>
    have hm := List.mem_filter.mp (List.mem_of_getLast? e)
    have h2 := hm.2
    simp at h2
    exact ⟨v, List.mem_filter.mpr ⟨hm.1, by rw [h2.2.1]; exact hab⟩, by rw [h2.1, h2.2.1]⟩
theorem volumeOf_eq (s : State) (x a b k : Nat) : Vbemax.volumeOf s x a b k = (((amts (knownV s k)).filter fun y => (decide (a ≤ y.1.2) && decide (y.1.2 ≤ b)) && decide (whoAt s y.1.1 y.1.2 k = x)).map (·.2)).sum := by
  rw [sum_amts s a b k fun p d => decide (whoAt s p d k = x)]
  unfold Vbemax.volumeOf
  congr 1
  refine List.map_congr_left fun y _ => ?_
  simp
theorem volumeAll_eq (s : State) (a b k : Nat) : volumeAll s a b k = (((amts (knownV s k)).filter fun y => decide (a ≤ y.1.2) && decide (y.1.2 ≤ b)).map (·.2)).sum := by
  have h := sum_amts s a b k fun _ _ => true
  simp only [Bool.and_true] at h
  rw [h]
  unfold volumeAll
  simp
def lexP (x y : Nat × Nat) : Prop := x.1 < y.1 ∨ (x.1 = y.1 ∧ x.2 < y.2)
theorem lex_ext : ∀ {a b : List (Nat × Nat)}, a.Pairwise lexP → b.Pairwise lexP → a.Perm b → a = b
  | [], b, _, _, h => by rw [List.nil_perm.mp h]
  | x :: a, [], _, _, h => by have := h.length_eq; simp at this
  | x :: a, y :: b, ha, hb, h => by
    have ha' := List.pairwise_cons.mp ha
    have hb' := List.pairwise_cons.mp hb
    have hxy : x = y := by
      have h1 := h.mem_iff.mp (List.mem_cons_self (a := x) (l := a))
      have h2 := h.mem_iff.mpr (List.mem_cons_self (a := y) (l := b))
      rcases List.mem_cons.mp h1 with e | e
      · exact e
      · rcases List.mem_cons.mp h2 with e2 | e2
        · exact e2.symm
        · have q1 := ha'.1 y e2
          have q2 := hb'.1 x e
          unfold lexP at q1 q2
          omega
    subst hxy
    rw [lex_ext ha'.2 hb'.2 (List.Perm.cons_inv h)]
def keyOf (x : Nat × Request) : Nat × Nat := (x.2.deadline, x.1)
def ripeRow (s : State) (d : Nat) : List (Nat × Request) := ((List.range s.requests.length).zip s.requests).filter fun x => decide (x.2.stage = 0) && decide (x.2.deadline < d)
theorem put_perm (x : Nat × Request) : ∀ l, (put x l).Perm (x :: l)
  | [] => .refl _
  | y :: r => by
    unfold put
    split
    · exact .refl _
    · exact ((put_perm x r).cons y).trans (.swap x y r)
theorem foldr_put_perm : ∀ l : List (Nat × Request), (l.foldr put []).Perm l
  | [] => .refl _
  | x :: r => (put_perm x _).trans ((foldr_put_perm r).cons x)
theorem put_sorted (x : Nat × Request) : ∀ l, (∀ y ∈ l, x.1 < y.1) → (l.map keyOf).Pairwise lexP → ((put x l).map keyOf).Pairwise lexP
  | [], _, _ => by simp [put]
  | y :: r, hx, h => by
    have h' := List.pairwise_cons.mp h
    unfold put
    split
    · rename_i hd
      rw [List.map_cons]
      refine List.pairwise_cons.mpr ⟨fun z hz => ?_, h⟩
      rw [List.mem_map] at hz
      obtain ⟨u, hu, rfl⟩ := hz
      have hxu := hx u hu
      rcases List.mem_cons.mp hu with e | e
      · subst e
        unfold lexP keyOf
        simp only
        omega
      · have q := h'.1 (keyOf u) (List.mem_map_of_mem e)
        unfold lexP keyOf at q ⊢
        simp only at q ⊢
        omega
    · rename_i hd
      rw [List.map_cons]
      refine List.pairwise_cons.mpr ⟨fun z hz => ?_, put_sorted x r (fun u hu => hx u (List.mem_cons_of_mem _ hu)) h'.2⟩
      rw [List.mem_map] at hz
      obtain ⟨u, hu, rfl⟩ := hz
      rcases List.mem_cons.mp ((put_perm x r).mem_iff.mp hu) with e | e
      · subst e
        unfold lexP keyOf
        simp only
        omega
      · exact h'.1 _ (List.mem_map_of_mem e)
theorem foldr_put_sorted : ∀ l : List (Nat × Request), l.Pairwise (fun x y => x.1 < y.1) → ((l.foldr put []).map keyOf).Pairwise lexP
  | [], _ => by simp
  | x :: r, h => by
    have h' := List.pairwise_cons.mp h
    exact put_sorted x _ (fun y hy => h'.1 y ((foldr_put_perm r).mem_iff.mp hy)) (foldr_put_sorted r h'.2)
theorem zip_rising {α : Type} : ∀ (a : Nat) (l : List α), ((List.range' a l.length).zip l).Pairwise (fun x y => x.1 < y.1)
  | _, [] => by simp
  | a, x :: l => by
    rw [List.length_cons, List.range'_succ, List.zip_cons_cons]
    refine List.pairwise_cons.mpr ⟨fun y hy => ?_, zip_rising (a + 1) l⟩
    have := (List.of_mem_zip (a := y.1) (b := y.2) hy).1
    rw [List.mem_range'_1] at this
    show a < y.1
    omega
theorem ripeRow_rising (s : State) (d : Nat) : (ripeRow s d).Pairwise (fun x y => x.1 < y.1) := by
  unfold ripeRow
  refine List.Pairwise.filter _ ?_
  rw [List.range_eq_range']
  exact zip_rising 0 s.requests
theorem ripe_sorted (s : State) (d : Nat) : ((ripe s d).map keyOf).Pairwise lexP := foldr_put_sorted _ (ripeRow_rising s d)
theorem ripe_perm (s : State) (d : Nat) : (ripe s d).Perm (ripeRow s d) := foldr_put_perm _
theorem sorted_is_ripe {s : State} {d : Nat} {ks : List (Nat × Nat)} (hp : ks.Perm ((ripeRow s d).map keyOf)) (hs : ks.Pairwise lexP) : ks = (ripe s d).map keyOf :=
  lex_ext hs (ripe_sorted s d) (hp.trans ((ripe_perm s d).map keyOf).symm)
theorem ripe_mem {s : State} {d : Nat} {x : Nat × Request} (h : x ∈ ripe s d) : s.requests[x.1]? = some x.2 ∧ x.2.stage = 0 ∧ x.2.deadline < d := by
  have h1 := List.mem_filter.mp ((ripe_perm s d).mem_iff.mp h)
  have h3 := h1.2
  simp at h3
  refine ⟨?_, h3.1, h3.2⟩
  obtain ⟨i, hi, e⟩ := List.mem_iff_getElem.mp h1.1
  rw [List.getElem_zip] at e
  have e1 : i = x.1 := by have := congrArg Prod.fst e; simpa using this
  have e2 : s.requests[i]'(by simp at hi; omega) = x.2 := congrArg Prod.snd e
  rw [← e1, ← e2]
  exact List.getElem?_eq_getElem _
theorem ripe_nodup (s : State) (d : Nat) : ((ripe s d).map (·.1)).Nodup := by
  refine ((ripe_perm s d).map (·.1)).nodup_iff.mpr ?_
  have := ripeRow_rising s d
  unfold List.Nodup
  rw [List.pairwise_map]
  exact this.imp fun h => by omega
theorem mapAt_get {α : Type} (g : α → α) : ∀ (i j : Nat) (l : List α), (mapAt g i l)[j]? = if j = i then (l[j]?).map g else l[j]?
  | _, _, [] => by simp [mapAt]
  | 0, 0, x :: r => by simp [mapAt]
  | 0, j + 1, x :: r => by simp [mapAt]
  | i + 1, 0, x :: r => by simp [mapAt]
  | i + 1, j + 1, x :: r => by
    have ih := mapAt_get g i j r
    simp only [mapAt, List.getElem?_cons_succ, ih, Nat.add_right_cancel_iff]
theorem mapAt_length {α : Type} (g : α → α) : ∀ (i : Nat) (l : List α), (mapAt g i l).length = l.length
  | _, [] => by simp [mapAt]
  | 0, x :: r => by simp [mapAt]
  | i + 1, x :: r => by simp [mapAt, mapAt_length g i r]
theorem mapAt_set {α : Type} (g : α → α) {x : α} : ∀ {i : Nat} {l : List α}, l[i]? = some x → mapAt g i l = l.set i (g x)
  | _, [], h => by simp at h
  | 0, y :: r, h => by
    have : y = x := by simpa using h
    subst this
    rfl
  | i + 1, y :: r, h => by
    have := mapAt_set g (i := i) (l := r) (by simpa using h)
    show y :: mapAt g i r = y :: r.set i (g x)
    rw [this]
def ripen1 (t : State) (x : Nat × Request) : State := { t with facts := t.facts ++ [confirmed t x.2], requests := mapAt (fun r => { r with stage := 1 }) x.1 t.requests }
theorem ripened_eq (s : State) (d : Nat) : ripened s d = (ripe s d).foldl ripen1 s := rfl
theorem ripen_rest {s : State} : ∀ (l : List (Nat × Request)) (t : State) (x : Nat × Request), x.1 ∉ l.map (·.1) → ((l.foldl ripen1 t).requests)[x.1]? = t.requests[x.1]?
  | [], t, x, _ => rfl
  | y :: r, t, x, h => by
    rw [List.map_cons, List.mem_cons, not_or] at h
    rw [List.foldl_cons, ripen_rest (s := s) r (ripen1 t y) x h.2]
    show (mapAt _ y.1 t.requests)[x.1]? = _
    rw [mapAt_get, if_neg h.1]
theorem ripen_at {s : State} {d i : Nat} {x : Nat × Request} (h : (ripe s d)[i]? = some x) : (((ripe s d).take i).foldl ripen1 s).requests[x.1]? = some x.2 := by
  rw [ripen_rest (s := s)]
  · exact (ripe_mem (List.mem_of_getElem? h)).1
  · intro q
    rw [List.mem_map] at q
    obtain ⟨y, hy, e⟩ := q
    obtain ⟨j, hj, ej⟩ := List.mem_iff_getElem.mp hy
    rw [List.getElem_take] at ej
    have hlen : j < i ∧ j < (ripe s d).length := by simp at hj; omega
    have hi := (List.getElem?_eq_some_iff.mp h)
    obtain ⟨hi1, hi2⟩ := hi
    have nd := ripe_nodup s d
    have := (List.pairwise_iff_getElem.mp nd) j i (by simpa using hlen.2) (by simpa using hi1) hlen.1
    simp only [List.getElem_map] at this
    rw [ej, hi2] at this
    exact this e
theorem take_more {α : Type} {l : List α} {i : Nat} {x : α} (h : l[i]? = some x) : l.take (i + 1) = l.take i ++ [x] := by
  rw [List.take_add_one, h]
  rfl
theorem ripen_next {s : State} {d i : Nat} {x : Nat × Request} (h : (ripe s d)[i]? = some x) : ((ripe s d).take (i + 1)).foldl ripen1 s = ripen1 (((ripe s d).take i).foldl ripen1 s) x := by
  rw [take_more h, List.foldl_append]
  rfl
def uOf (s : State) (p j k : Nat) : Nat → Nat := fun d => if whoAt s p d j = whoAt s p d k then 0 else 1
theorem differing_eq (s : State) (p j k : Nat) : differing s p j k = (rangesOf (uOf s p j k) (starts (uOf s p j k))).filterMap fun r => if r.2.2 = 1 then some (r.1, r.2.1) else none := by
  show (ranges (merged (((edges s.facts p).filter fun d => decide (d ≤ LAST)).map (spanOf (uOf s p j k))))).filterMap _ = _
  rw [merged_all (w := uOf s p j k) (edges_le_sorted s.facts p) (fun d hd => by simpa using (List.mem_filter.mp hd).2), ranges_map]
  intro d hd h
  rw [List.mem_filter, mem_edges]
  refine ⟨?_, by simpa using hd⟩
  by_cases h0 : d = 0
  · exact .inl h0
  · right
    have : isStart (wOf s.basic s.facts p j) d = true ∨ isStart (wOf s.basic s.facts p k) d = true := by
      apply Classical.byContradiction
      intro hn
      rw [not_or] at hn
      obtain ⟨n1, n2⟩ := hn
      unfold isStart at n1 n2 h
      simp [h0] at n1 n2 h
      apply h
      show (if who _ _ _ _ _ = who _ _ _ _ _ then _ else _) = if who _ _ _ _ _ = who _ _ _ _ _ then _ else _
      unfold wOf at n1 n2
      rw [n1, n2]
    rcases this with q | q
    · rcases change_edge q with e | ⟨f, hf, hp, _, hz⟩
      · exact absurd e h0
      · exact ⟨f, hf, hp, hz⟩
    · rcases change_edge q with e | ⟨f, hf, hp, _, hz⟩
      · exact absurd e h0
      · exact ⟨f, hf, hp, hz⟩
def fallenAt (s : State) (x p : Nat) : List Fact := (rangesOf (wOf s.basic s.facts p s.today) (starts (wOf s.basic s.facts p s.today))).filterMap fun r =>
  if r.2.2 = x ∧ s.today + 1 ≤ r.2.1 then some ⟨p, max r.1 (s.today + 1), r.2.1, s.basic, s.today⟩ else none
theorem fallen_eq (s : State) (x : Nat) : fallen s x = (pointsOf s).flatMap (fallenAt s x) := by
  unfold fallen
  rw [show (fun p => (ranges (spans s.basic s.facts p s.today)).filterMap fun r =>
    if r.2.2 = x ∧ s.today + 1 ≤ r.2.1 then some (⟨p, max r.1 (s.today + 1), r.2.1, s.basic, s.today⟩ : Fact) else none) = fallenAt s x from funext fun p => by rw [spans_eq, ranges_map]; rfl]
def argN : List Nat := [4, 1, 0, 1, 3, 2, 1, 2, 4, 1, 3, 3, 3, 2, 4, 3, 2, 2, 1, 3, 3, 1, 0]
theorem shape_in : ∀ i : Fin 23, PyVbemax.shape (i.val : Int) = some (argN.getD i.val 0, 0) ∧ argN[i.val]? = some (argN.getD i.val 0) := by decide
theorem shape_out {p : Int} (h : p < 0 ∨ 22 < p) : PyVbemax.shape p = none := by
  unfold PyVbemax.shape
  repeat rw [if_neg (by omega)]
theorem shape_some {p : Int} {n k : Nat} (h : PyVbemax.shape p = some (n, k)) : ∃ i : Nat, p = (i : Int) ∧ i < 23 ∧ argN[i]? = some n ∧ k = 0 := by
  by_cases hp : p < 0 ∨ 22 < p
  · rw [shape_out hp] at h
    cases h
  · obtain ⟨i, rfl⟩ : ∃ i : Nat, p = (i : Int) := ⟨p.toNat, by omega⟩
    have hi : i < 23 := by omega
    have q := shape_in ⟨i, hi⟩
    have e := h.symm.trans q.1
    simp only [Option.some.injEq, Prod.mk.injEq] at e
    exact ⟨i, rfl, hi, by rw [q.2, e.1], e.2⟩
theorem calls_cons {f : Nat} {p : Int} {r : List Int} {cs : List (List (List Int))} (h : PyFlat.calls PyVbemax.shape f (p :: r) = some cs) :
    ∃ (i n f' : Nat) (cs' : List (List (List Int))), p = (i : Int) ∧ i < 23 ∧ argN[i]? = some n ∧ n ≤ r.length ∧ cs = [p :: r.take n] :: cs' ∧ PyFlat.calls PyVbemax.shape f' (r.drop n) = some cs' := by
  cases f with
  | zero => simp [PyFlat.calls] at h
  | succ f =>
    unfold PyFlat.calls at h
    cases e : PyFlat.call PyVbemax.shape (p :: r) with
    | none => rw [e] at h; simp at h
    | some ct =>
      obtain ⟨c, t⟩ := ct
      rw [e] at h
      simp only at h
      simp only [PyFlat.call] at e
      cases es : PyVbemax.shape p with
      | none => rw [es] at e; simp at e
      | some nk =>
        obtain ⟨n, k⟩ := nk
        rw [es] at e
        simp only at e
        obtain ⟨i, hp, hi, hn, hk⟩ := shape_some es
        subst hk
        split at e
        · cases e
        · rename_i hlen
          simp only [PyFlat.rows] at e
          cases e
          cases e2 : PyFlat.calls PyVbemax.shape f (r.drop n) with
          | none => rw [e2] at h; simp at h
          | some cs' =>
            rw [e2] at h
            simp only at h
            cases h
            exact ⟨i, n, f, cs', hp, hi, hn, by omega, rfl, e2⟩
theorem calls_nil {f : Nat} {cs : List (List (List Int))} (h : PyFlat.calls PyVbemax.shape f [] = some cs) : cs = [] := by
  unfold PyFlat.calls at h
  cases h
  rfl
theorem len0 {xs : List Int} (h : xs.length = 0) : xs = [] := List.length_eq_zero_iff.mp h
theorem len1 {xs : List Int} (h : xs.length = 1) : ∃ x, xs = [x] := match xs, h with | [x], _ => ⟨x, rfl⟩
theorem len2 {xs : List Int} (h : xs.length = 2) : ∃ x y, xs = [x, y] := match xs, h with | [x, y], _ => ⟨x, y, rfl⟩
theorem len3 {xs : List Int} (h : xs.length = 3) : ∃ x y z, xs = [x, y, z] := match xs, h with | [x, y, z], _ => ⟨x, y, z, rfl⟩
theorem len4 {xs : List Int} (h : xs.length = 4) : ∃ x y z u, xs = [x, y, z, u] := match xs, h with | [x, y, z, u], _ => ⟨x, y, z, u, rfl⟩
theorem whole_at {i : Nat} {xs : List Int} (h : argN[i]? = some xs.length) : PyVbemax.whole [((i : Nat) : Int) :: xs] = [((i : Nat) : Int) :: xs] := by
  have hi : i < 23 := (List.getElem?_eq_some_iff.mp h).1
  match i, h, hi with
  | 0, h, _ => obtain ⟨a, b, c, d, rfl⟩ := len4 (Option.some.inj h).symm; rfl
  | 1, h, _ => obtain ⟨a, rfl⟩ := len1 (Option.some.inj h).symm; rfl
  | 2, h, _ => obtain rfl := len0 (Option.some.inj h).symm; rfl
  | 3, h, _ => obtain ⟨a, rfl⟩ := len1 (Option.some.inj h).symm; rfl
  | 4, h, _ => obtain ⟨a, b, c, rfl⟩ := len3 (Option.some.inj h).symm; rfl
  | 5, h, _ => obtain ⟨a, b, rfl⟩ := len2 (Option.some.inj h).symm; rfl
  | 6, h, _ => obtain ⟨a, rfl⟩ := len1 (Option.some.inj h).symm; rfl
  | 7, h, _ => obtain ⟨a, b, rfl⟩ := len2 (Option.some.inj h).symm; rfl
  | 8, h, _ => obtain ⟨a, b, c, d, rfl⟩ := len4 (Option.some.inj h).symm; rfl
  | 9, h, _ => obtain ⟨a, rfl⟩ := len1 (Option.some.inj h).symm; rfl
  | 10, h, _ => obtain ⟨a, b, c, rfl⟩ := len3 (Option.some.inj h).symm; rfl
  | 11, h, _ => obtain ⟨a, b, c, rfl⟩ := len3 (Option.some.inj h).symm; rfl
  | 12, h, _ => obtain ⟨a, b, c, rfl⟩ := len3 (Option.some.inj h).symm; rfl
  | 13, h, _ => obtain ⟨a, b, rfl⟩ := len2 (Option.some.inj h).symm; rfl
  | 14, h, _ => obtain ⟨a, b, c, d, rfl⟩ := len4 (Option.some.inj h).symm; rfl
  | 15, h, _ => obtain ⟨a, b, c, rfl⟩ := len3 (Option.some.inj h).symm; rfl
  | 16, h, _ => obtain ⟨a, b, rfl⟩ := len2 (Option.some.inj h).symm; rfl
  | 17, h, _ => obtain ⟨a, b, rfl⟩ := len2 (Option.some.inj h).symm; rfl
  | 18, h, _ => obtain ⟨a, rfl⟩ := len1 (Option.some.inj h).symm; rfl
  | 19, h, _ => obtain ⟨a, b, c, rfl⟩ := len3 (Option.some.inj h).symm; rfl
  | 20, h, _ => obtain ⟨a, b, c, rfl⟩ := len3 (Option.some.inj h).symm; rfl
  | 21, h, _ => obtain ⟨a, rfl⟩ := len1 (Option.some.inj h).symm; rfl
  | 22, h, _ => obtain rfl := len0 (Option.some.inj h).symm; rfl
  | n + 23, _, hi => exact absurd hi (by omega)
theorem calls_whole : ∀ (cs : List (List (List Int))) (f : Nat) (l : List Int), PyFlat.calls PyVbemax.shape f l = some cs → cs.map PyVbemax.whole = cs
  | [], _, _, _ => rfl
  | c :: cs, f, [], h => by
    have := calls_nil h
    cases this
  | c :: cs, f, p :: r, h => by
    obtain ⟨i, n, f', cs', hp, hi, hn, hnl, e, h'⟩ := calls_cons h
    injection e with e1 e2
    subst e2
    rw [List.map_cons, calls_whole cs f' _ h', e1, hp, whole_at (by rw [hn, List.length_take, Nat.min_eq_left hnl])]
theorem asked_calls {l : List Int} (h : PyVbemax.answers_asked l = true) : ∃ cs, PyFlat.calls PyVbemax.shape l.length l = some cs ∧ cs.length ≤ 300 ∧ PyVbemax.answers l = PyFlat.told (PyFlat.played VbemaxNeutral.step VbemaxNeutral.start cs) := by
  unfold PyVbemax.answers_asked at h
  unfold PyVbemax.answers
  cases e : PyVbemax.calls l with
  | none => rw [e] at h; simp at h
  | some cs =>
    rw [e] at h
    simp only at h
    unfold PyVbemax.calls at e
    cases e2 : PyFlat.calls PyVbemax.shape l.length l with
    | none => rw [e2] at e; simp at e
    | some ds =>
      rw [e2] at e
      have e' : some (ds.map PyVbemax.whole) = some cs := e
      rw [calls_whole _ _ _ e2] at e'
      cases e'
      refine ⟨_, rfl, ?_, rfl⟩
      rw [Bool.and_eq_true] at h
      simpa [PyFlat.atMost] using h.1
theorem told_cons (a : List Int) (r : List (List Int)) : PyFlat.told (a :: r) = (a.length : Int) :: (a ++ PyFlat.told r) := by
  unfold PyFlat.told
  rw [List.flatMap_cons]
  rfl
structure Good (s : State) : Prop where
  op : s.opened = true → 1 ≤ s.basic ∧ s.basic ≤ s.suppliers ∧ s.suppliers ≤ 8 ∧ 1 ≤ s.objection ∧ s.objection ≤ 30 ∧ 1 ≤ s.notice ∧ s.notice ≤ 30
  cl : s.opened = false → s = start
  td : s.today ≤ LAST
  pts : s.points ≤ 16
  hol : s.holidays.Pairwise (· < ·)
  holn : s.holidays.length ≤ 32
  reqn : s.requests.length ≤ 64
  room : s.facts.length + kept s ≤ 256
  voln : s.volumes.length ≤ 256
  biln : s.bills.length ≤ 64
  fact : ∀ f ∈ s.facts, f.from_ ≤ LAST ∧ f.to_ ≤ LAST ∧ 1 ≤ f.supplier
  req : ∀ r ∈ s.requests, r.start ≤ LAST ∧ 1 ≤ r.supplier
  fnd : s.failed.Nodup
  bnd : (s.bills.map fun b => (b.supplier, b.from_, b.to_)).Nodup
def CallOk : Call → Prop
  | .opens b n k m => 1 ≤ b ∧ b ≤ 8 ∧ 1 ≤ n ∧ n ≤ 8 ∧ 1 ≤ k ∧ k ≤ 30 ∧ 1 ≤ m ∧ m ≤ 30
  | .day d => d ≤ LAST
  | .request _ x d => 1 ≤ x ∧ d ≤ LAST
  | .vacate _ d => d ≤ LAST
  | .correct _ a b x => a ≤ LAST ∧ b ≤ LAST ∧ 1 ≤ x
  | _ => True
theorem good_start : Good start := by
  refine ⟨fun h => ?_, fun _ => rfl, ?_, ?_, ?_, ?_, ?_, ?_, ?_, ?_, ?_, ?_, ?_, ?_⟩
  · cases h
  all_goals simp [start, kept]
theorem kept_le (s : State) : kept s ≤ s.requests.length := List.length_filter_le _ _
theorem kept_mapAt {rs : List Request} {i st : Nat} {r : Request} (h : rs[i]? = some r) (h0 : r.stage = 0) (hs : st ≠ 0) :
    ((mapAt (fun r => { r with stage := st }) i rs).filter fun r => decide (r.stage = 0)).length + 1 = (rs.filter fun r => decide (r.stage = 0)).length := by
  induction rs generalizing i with
  | nil => simp at h
  | cons x l ih =>
    cases i with
    | zero =>
      have : x = r := by simpa using h
      subst this
      simp [mapAt, h0, hs]
    | succ i =>
      have := ih (i := i) (by simpa using h)
      simp only [mapAt, List.filter_cons]
      split
      · simp only [List.length_cons]
        omega
      · exact this
theorem waiting_some {s : State} {n : Nat} {r : Request} (h : waiting s n = some r) : n ≠ 0 ∧ s.requests[n - 1]? = some r ∧ r.stage = 0 := by
  unfold waiting at h
  split at h
  · cases h
  · rename_i hn
    rw [Option.filter_eq_some_iff] at h
    exact ⟨hn, h.1, by simpa using h.2⟩
theorem req_mapAt {P : Request → Prop} {g : Request → Request} {i : Nat} (hg : ∀ r, P r → P (g r)) : ∀ {l : List Request}, (∀ r ∈ l, P r) → ∀ r ∈ mapAt g i l, P r := by
  intro l h r hr
  obtain ⟨j, hj, e⟩ := List.mem_iff_getElem.mp hr
  have e' : (mapAt g i l)[j]? = some r := by rw [List.getElem?_eq_getElem hj, e]
  rw [mapAt_get] at e'
  split at e'
  · cases q : l[j]? with
    | none => rw [q] at e'; simp at e'
    | some y =>
      rw [q] at e'
      have : g y = r := by simpa using e'
      rw [← this]
      exact hg y (h y (List.mem_of_getElem? q))
  · exact h r (List.mem_of_getElem? e')
theorem good_stage {s : State} (g : Good s) {n st : Nat} {r : Request} (h : waiting s n = some r) (hs : st ≠ 0) : Good (setStage s n st) := by
  obtain ⟨hn, hr, h0⟩ := waiting_some h
  have hk := kept_mapAt (st := st) hr h0 hs
  refine ⟨g.op, fun q => ?_, g.td, g.pts, g.hol, g.holn, ?_, ?_, g.voln, g.biln, g.fact, ?_, g.fnd, g.bnd⟩
  · have := g.cl q
    rw [this] at hr
    simp [start] at hr
  · show (mapAt _ _ _).length ≤ 64
    rw [mapAt_length]
    exact g.reqn
  · show s.facts.length + (List.filter _ (mapAt _ _ _)).length ≤ 256
    have := g.room
    unfold kept at this
    omega
  · exact req_mapAt (P := fun r => r.start ≤ LAST ∧ 1 ≤ r.supplier) (g := fun r => { r with stage := st }) (fun _ h => h) g.req
theorem ranges_le (w : Nat → Nat) : ∀ E : List Nat, E.Pairwise (· < ·) → (∀ d ∈ E, d ≤ LAST) → ∀ r ∈ rangesOf w E, r.1 ≤ r.2.1 ∧ r.2.1 ≤ LAST
  | [], _, _, r, h => by simp [rangesOf] at h
  | [a], _, hl, r, h => by
    simp only [rangesOf, List.mem_singleton] at h
    subst h
    exact ⟨hl a (List.mem_singleton_self a), Nat.le_refl _⟩
  | a :: b :: E, hs, hl, r, h => by
    simp only [rangesOf, List.mem_cons] at h
    have hp := List.pairwise_cons.mp hs
    rcases h with h | h
    · subst h
      have := hp.1 b (List.mem_cons_self ..)
      have := hl b (List.mem_cons_of_mem _ (List.mem_cons_self ..))
      simp only
      omega
    · exact ranges_le w (b :: E) hp.2 (fun d hd => hl d (List.mem_cons_of_mem _ hd)) r (by simpa [rangesOf] using h)
theorem fallen_fact {s : State} (g : Good s) (ho : s.opened = true) {x : Nat} : ∀ f ∈ fallen s x, f.from_ ≤ LAST ∧ f.to_ ≤ LAST ∧ 1 ≤ f.supplier := by
  intro f hf
  rw [fallen_eq, List.mem_flatMap] at hf
  obtain ⟨p, _, hf⟩ := hf
  unfold fallenAt at hf
  rw [List.mem_filterMap] at hf
  obtain ⟨r, hr, e⟩ := hf
  have hb := ranges_le _ _ (starts_sorted _) (fun d hd => ((mem_starts _ d).mp hd).1) r hr
  split at e
  · rename_i h
    cases e
    have := g.op ho
    simp only
    omega
  · cases e
theorem putBill_length (x : Bill) : ∀ l : List Bill, (putBill x l).length = if (l.find? fun y => y.supplier == x.supplier && (y.from_ == x.from_ && y.to_ == x.to_)).isNone = true then l.length + 1 else l.length
  | [] => by simp [putBill]
  | y :: r => by
    have ih := putBill_length x r
    unfold putBill
    by_cases h : x.supplier = y.supplier ∧ x.from_ = y.from_ ∧ x.to_ = y.to_
    · rw [if_pos h]
      simp [h.1, h.2.1, h.2.2]
    · rw [if_neg h, List.length_cons, ih, List.find?_cons]
      have : (y.supplier == x.supplier && (y.from_ == x.from_ && y.to_ == x.to_)) = false := by
        rw [Bool.eq_false_iff]
        intro q
        simp at q
        exact h ⟨q.1.symm, q.2.1.symm, q.2.2.symm⟩
      rw [this]
      simp only
      split <;> rfl
def bKey (b : Bill) : Nat × Nat × Nat := (b.supplier, b.from_, b.to_)
theorem mem_putBill (x : Bill) (k : Nat × Nat × Nat) : ∀ l : List Bill, k ∈ (putBill x l).map bKey ↔ k = bKey x ∨ k ∈ l.map bKey
  | [] => by simp [putBill]
  | y :: r => by
    have ih := mem_putBill x k r
    unfold putBill
    by_cases h : x.supplier = y.supplier ∧ x.from_ = y.from_ ∧ x.to_ = y.to_
    · rw [if_pos h, List.map_cons, List.mem_cons, List.map_cons, List.mem_cons]
      have : bKey y = bKey x := by unfold bKey; rw [h.1, h.2.1, h.2.2]
      rw [this]
      constructor
      · rintro (q | q)
        · exact .inl q
        · exact .inr (.inr q)
      · rintro (q | q | q)
        · exact .inl q
        · exact .inl q
        · exact .inr q
    · rw [if_neg h, List.map_cons, List.mem_cons, ih, List.map_cons, List.mem_cons]
      constructor
      · rintro (q | q | q)
        · exact .inr (.inl q)
        · exact .inl q
        · exact .inr (.inr q)
      · rintro (q | q | q)
        · exact .inr (.inl q)
        · exact .inl q
        · exact .inr (.inr q)
theorem putBill_nodup (x : Bill) : ∀ l : List Bill, (l.map bKey).Nodup → ((putBill x l).map bKey).Nodup
  | [], _ => by simp [putBill]
  | y :: r, h => by
    have h' := List.nodup_cons.mp h
    unfold putBill
    by_cases e : x.supplier = y.supplier ∧ x.from_ = y.from_ ∧ x.to_ = y.to_
    · rw [if_pos e]
      have : bKey x = bKey y := by unfold bKey; rw [e.1, e.2.1, e.2.2]
      rw [List.map_cons, this]
      exact h
    · rw [if_neg e]
      refine List.nodup_cons.mpr ⟨fun q => ?_, putBill_nodup x r h'.2⟩
      rcases (mem_putBill x (bKey y) r).mp q with q | q
      · refine e ⟨(congrArg (·.1) q).symm, (congrArg (·.2.1) q).symm, (congrArg (·.2.2) q).symm⟩
      · exact h'.1 q
theorem good_facts {s t : State} {l : List Fact} {a b : List Int} (g : Good s) (ho : s.opened = true) (h : withFacts s l a = .ok (t, b)) (hl : ∀ f ∈ l, f.from_ ≤ LAST ∧ f.to_ ≤ LAST ∧ 1 ≤ f.supplier) : Good t := by
  unfold withFacts at h
  split at h
  · cases h
  · rename_i hn
    cases h
    refine ⟨g.op, fun q => ?_, g.td, g.pts, g.hol, g.holn, g.reqn, ?_, g.voln, g.biln, ?_, g.req, g.fnd, g.bnd⟩
    · rw [show s.opened = false from q] at ho
      cases ho
    · show (s.facts ++ l).length + kept s ≤ 256
      unfold FACTS at hn
      rw [List.length_append]
      omega
    · intro f hf
      rcases List.mem_append.mp hf with q | q
      · exact g.fact f q
      · exact hl f q
theorem ripen_good {s : State} (ho : s.opened = true) {d : Nat} (hd : d ≤ LAST) : ∀ i, i ≤ (ripe s d).length → Good s → Good (((ripe s d).take i).foldl ripen1 s) ∧ (((ripe s d).take i).foldl ripen1 s).opened = true
  | 0, _, g => ⟨g, ho⟩
  | i + 1, hi, g => by
    obtain ⟨ih, io⟩ := ripen_good ho hd i (by omega) g
    have hx : (ripe s d)[i]? = some (ripe s d)[i] := List.getElem?_eq_getElem (by omega)
    rw [ripen_next hx]
    have ha := ripen_at hx
    have hm := ripe_mem (List.mem_of_getElem? hx)
    have hk := kept_mapAt (st := 1) ha hm.2.1 (by decide)
    have hq := ih.req _ (List.mem_of_getElem? ha)
    refine ⟨⟨ih.op, fun q => ?_, ih.td, ih.pts, ih.hol, ih.holn, ?_, ?_, ih.voln, ih.biln, ?_, ?_, ih.fnd, ih.bnd⟩, io⟩
    · rw [show (((ripe s d).take i).foldl ripen1 s).opened = false from q] at io
      cases io
    · show (mapAt _ _ _).length ≤ 64
      rw [mapAt_length]
      exact ih.reqn
    · show (_ ++ [_]).length + (List.filter _ (mapAt _ _ _)).length ≤ 256
      have := ih.room
      unfold kept at this
      rw [List.length_append, List.length_singleton]
      omega
    · intro f hf
      rcases List.mem_append.mp hf with q | q
      · exact ih.fact f q
      · rw [List.mem_singleton] at q
        subst q
        exact ⟨hq.1, until_le _ _ _ _ _, hq.2⟩
    · exact req_mapAt (P := fun r => r.start ≤ LAST ∧ 1 ≤ r.supplier) (g := fun r => { r with stage := 1 }) (fun _ h => h) ih.req
theorem ripened_good {s : State} (ho : s.opened = true) {d : Nat} (hd : d ≤ LAST) (g : Good s) : Good (ripened s d) ∧ (ripened s d).opened = true := by
  have := ripen_good ho hd (ripe s d).length (Nat.le_refl _) g
  rw [List.take_length] at this
  exact this
theorem good_does {s t : State} {c : Call} {a : List Int} (g : Good s) (ho : s.opened = true ∨ isOpens c = true) (hc : CallOk c) (h : does s c = .ok (t, a)) : Good t := by
  have hop : isOpens c = false → s.opened = true := fun q => by rcases ho with e | e; exact e; rw [q] at e; cases e
  have ncl : isOpens c = false → ∀ {P : Prop}, s.opened = false → P := fun q P e => by rw [hop q] at e; cases e
  cases c with
  | opens b n k m =>
    simp only [does] at h
    split at h
    · cases h
    · split at h
      · cases h
      · rename_i h1 h2
        cases h
        have e := g.cl (by simpa using h1)
        obtain ⟨q1, q2, q3, q4, q5, q6, q7, q8⟩ := hc
        refine ⟨fun _ => ⟨q1, by simp only; omega, q4, q5, q6, q7, q8⟩, fun q => (by cases q), g.td, g.pts, g.hol, g.holn, g.reqn, g.room, g.voln, g.biln, g.fact, g.req, g.fnd, g.bnd⟩
  | holiday d =>
    simp only [does] at h
    split at h
    · cases h
    · split at h
      · cases h
      · rename_i h1 h2
        cases h
        refine ⟨g.op, ncl rfl, g.td, g.pts, putDay_sorted d _ g.hol, ?_, g.reqn, g.room, g.voln, g.biln, g.fact, g.req, g.fnd, g.bnd⟩
        show (putDay d s.holidays).length ≤ 32
        rw [putDay_length d _ g.hol]
        have := g.holn
        unfold HOLIDAYS at h2
        split
        · exact this
        · rename_i q
          rw [Bool.not_eq_true] at q
          have : ¬ 32 ≤ s.holidays.length := fun z => h2 ⟨z, q⟩
          omega
  | point =>
    simp only [does] at h
    split at h
    · cases h
    · rename_i h1
      cases h
      unfold POINTS at h1
      exact ⟨g.op, ncl rfl, g.td, by show s.points + 1 ≤ 16; omega, g.hol, g.holn, g.reqn, g.room, g.voln, g.biln, g.fact, g.req, g.fnd, g.bnd⟩
  | day d =>
    simp only [does] at h
    split at h
    · cases h
    · cases h
      obtain ⟨r, ro⟩ := ripened_good (hop rfl) (d := d) hc g
      exact ⟨r.op, fun q => (by rw [show (ripened s d).opened = false from q] at ro; cases ro), hc, r.pts, r.hol, r.holn, r.reqn, r.room, r.voln, r.biln, r.fact, r.req, r.fnd, r.bnd⟩
  | request p x d =>
    simp only [does] at h
    repeat (split at h; · cases h)
    rename_i h1 h2 h3 h4 h5 h6
    cases h
    unfold REQUESTS FACTS at h6
    refine ⟨g.op, ncl rfl, g.td, g.pts, g.hol, g.holn, ?_, ?_, g.voln, g.biln, g.fact, ?_, g.fnd, g.bnd⟩
    · show (s.requests ++ [_]).length ≤ 64
      rw [List.length_append, List.length_singleton]
      omega
    · show s.facts.length + (List.filter _ (s.requests ++ [_])).length ≤ 256
      rw [List.filter_append, List.length_append]
      have : kept s = (s.requests.filter fun r => decide (r.stage = 0)).length := rfl
      simp
      omega
    · intro r hr
      rcases List.mem_append.mp hr with q | q
      · exact g.req r q
      · rw [List.mem_singleton] at q
        subst q
        exact ⟨hc.2, hc.1⟩
  | object n x =>
    simp only [does] at h
    split at h
    · cases h
    · rename_i r hr
      split at h
      · cases h
      · split at h
        · cases h
        · cases h
          exact good_stage g hr (by decide)
  | withdraw n =>
    simp only [does] at h
    split at h
    · cases h
    · rename_i r hr
      cases h
      exact good_stage g hr (by decide)
  | vacate p d =>
    simp only [does] at h
    repeat (split at h; · cases h)
    refine good_facts g (hop rfl) h fun f hf => ?_
    rw [List.mem_singleton] at hf
    subst hf
    exact ⟨hc, until_le _ _ _ _ _, (g.op (hop rfl)).1⟩
  | correct p a b x =>
    simp only [does] at h
    repeat (split at h; · cases h)
    refine good_facts g (hop rfl) h fun f hf => ?_
    rw [List.mem_singleton] at hf
    subst hf
    exact ⟨hc.1, hc.2.1, hc.2.2⟩
  | fail x =>
    simp only [does] at h
    split at h
    · cases h
    · split at h
      · cases h
      · rename_i h1 h2
        unfold withFacts at h
        split at h
        · cases h
        · rename_i h3
          cases h
          refine ⟨g.op, ncl rfl, g.td, g.pts, g.hol, g.holn, ?_, ?_, g.voln, g.biln, ?_, ?_, ?_, g.bnd⟩
          · show (List.map _ _).length ≤ 64
            rw [List.length_map]
            exact g.reqn
          · unfold FACTS at h3
            show (s.facts ++ _).length + _ ≤ 256
            rw [List.length_append]
            exact Nat.le_of_not_lt h3
          · intro f hf
            rcases List.mem_append.mp hf with q | q
            · exact g.fact f q
            · exact fallen_fact g (hop rfl) f q
          · intro r hr
            obtain ⟨y, hy, e⟩ := List.mem_map.mp hr
            have := g.req y hy
            split at e
            · subst e; exact this
            · subst e; exact this
          · show (s.failed ++ [x]).Nodup
            rw [List.nodup_append]
            refine ⟨g.fnd, by simp, fun a ha b hb e => ?_⟩
            rw [List.mem_singleton] at hb
            subst e
            subst hb
            rw [Bool.not_eq_false] at h1
            unfold lives at h1
            rw [Bool.and_eq_true] at h1
            have := h1.2
            simp at this
            exact this ha
  | volume p d m =>
    simp only [does] at h
    repeat (split at h; · cases h)
    rename_i h1 h2 h3
    cases h
    unfold VOLUMES at h3
    exact ⟨g.op, ncl rfl, g.td, g.pts, g.hol, g.holn, g.reqn, g.room, by show (s.volumes ++ [_]).length ≤ 256; rw [List.length_append, List.length_singleton]; omega, g.biln, g.fact, g.req, g.fnd, g.bnd⟩
  | bill x a b =>
    simp only [does] at h
    repeat (split at h; · cases h)
    rename_i h1 h2 h3
    cases h
    refine ⟨g.op, ncl rfl, g.td, g.pts, g.hol, g.holn, g.reqn, g.room, g.voln, ?_, g.fact, g.req, g.fnd, putBill_nodup _ _ g.bnd⟩
    show (putBill _ _).length ≤ 64
    rw [putBill_length]
    have := g.biln
    unfold BILLS billedOf at h3
    rw [Option.isNone_map] at h3
    split
    · rename_i q
      have : ¬ 64 ≤ s.bills.length := fun z => h3 ⟨z, q⟩
      omega
    · exact this
  | who p d k =>
    simp only [does] at h
    repeat (split at h; · cases h)
    cases h; exact g
  | history p k =>
    simp only [does] at h
    repeat (split at h; · cases h)
    cases h; exact g
  | volumeOf x a b k =>
    simp only [does] at h
    repeat (split at h; · cases h)
    cases h; exact g
  | volumes a b k =>
    simp only [does] at h
    repeat (split at h; · cases h)
    cases h; exact g
  | businessAfter d n =>
    simp only [does] at h
    cases h; exact g
  | businessBetween a b =>
    simp only [does] at h
    repeat (split at h; · cases h)
    cases h; exact g
  | requestIs n =>
    simp only [does] at h
    split at h
    · cases h
    · cases h; exact g
  | differs p j k =>
    simp only [does] at h
    repeat (split at h; · cases h)
    cases h; exact g
  | supplied x d k =>
    simp only [does] at h
    repeat (split at h; · cases h)
    cases h; exact g
  | facts p =>
    simp only [does] at h
    repeat (split at h; · cases h)
    cases h; exact g
  | state =>
    simp only [does] at h
    cases h; exact g
theorem good_step {s : State} {c : Call} (g : Good s) (hc : CallOk c) : Good (step s c).1 := by
  unfold step
  split
  · exact g
  · rename_i h
    cases e : does s c with
    | error x => exact g
    | ok ta =>
      obtain ⟨t, a⟩ := ta
      refine good_does g ?_ hc e
      by_cases q : isOpens c = true
      · exact .inr q
      · refine .inl ?_
        rw [Bool.not_eq_true] at q
        apply Classical.byContradiction
        intro z
        exact h ⟨by simpa using z, q⟩
structure Ex (s : State) : Prop where
  fs : ∀ f ∈ s.facts, f.supplier ≤ s.suppliers
  rs : ∀ r ∈ s.requests, r.supplier ≤ s.suppliers
  fl : ∀ x ∈ s.failed, x ≤ s.suppliers
theorem ex_start : Ex start := ⟨fun _ h => (nomatch h), fun _ h => (nomatch h), fun _ h => (nomatch h)⟩
theorem nodup_le : ∀ (n : Nat) (l : List Nat), l.Nodup → (∀ x ∈ l, x < n) → l.length ≤ n
  | 0, l, _, h => by
    cases l with
    | nil => exact Nat.le_refl _
    | cons x l => exact absurd (h x (List.mem_cons_self ..)) (Nat.not_lt_zero _)
  | n + 1, l, hd, h => by
    have ih := nodup_le n (l.erase n) (hd.erase n) fun x hx => by
      rw [hd.mem_erase_iff] at hx
      have := h x hx.2
      have := hx.1
      omega
    by_cases c : n ∈ l
    · have := List.length_erase_of_mem c
      omega
    · rw [List.erase_of_not_mem c] at ih
      omega
theorem Ex.failed_le {s : State} (x : Ex s) (g : Good s) (h8 : s.suppliers ≤ 8) : s.failed.length ≤ 50 := by
  have := nodup_le 9 s.failed g.fnd fun y hy => by have := x.fl y hy; omega
  omega
theorem good_s8 {s : State} (g : Good s) : s.suppliers ≤ 8 := by
  cases h : s.opened with
  | true => exact (g.op h).2.2.1
  | false => rw [g.cl h]; decide
theorem ripen_ex : ∀ (l : List (Nat × Request)) (s : State), Ex s → (∀ x ∈ l, x.2.supplier ≤ s.suppliers) → Ex (l.foldl ripen1 s) ∧ (l.foldl ripen1 s).basic = s.basic ∧ (l.foldl ripen1 s).suppliers = s.suppliers
  | [], s, h, _ => ⟨h, rfl, rfl⟩
  | x :: l, s, h, k => by
    have e : Ex (ripen1 s x) := by
      refine ⟨fun f hf => ?_, fun r hr => ?_, h.fl⟩
      · rcases List.mem_append.mp hf with hf | hf
        · exact h.fs f hf
        · rw [List.mem_singleton] at hf
          subst hf
          exact k x (List.mem_cons_self ..)
      · exact req_mapAt (P := fun r => r.supplier ≤ s.suppliers) (g := fun r => { r with stage := 1 }) (fun r z => z) h.rs r hr
    have ih := ripen_ex l (ripen1 s x) e fun y hy => k y (List.mem_cons_of_mem _ hy)
    exact ⟨ih.1, ih.2.1, ih.2.2⟩
theorem Ex.ripe {s : State} (h : Ex s) {d : Nat} : ∀ x ∈ ripe s d, x.2.supplier ≤ s.suppliers := fun x hx => h.rs _ (List.mem_of_getElem? (ripe_mem hx).1)
theorem ex_facts {s t : State} {l : List Fact} {a b : List Int} (h : withFacts s l a = .ok (t, b)) (x : Ex s) (hl : ∀ f ∈ l, f.supplier ≤ s.suppliers) : Ex t := by
  unfold withFacts at h
  split at h
  · cases h
  · cases h
    refine ⟨fun f hf => ?_, x.rs, x.fl⟩
    rcases List.mem_append.mp hf with hf | hf
    · exact x.fs f hf
    · exact hl f hf
theorem lives_le {s : State} {x : Nat} (h : ¬ lives s x = false) : x ≤ s.suppliers := by
  unfold lives isSupplier at h
  by_cases c : x ≤ s.suppliers
  · exact c
  · rw [decide_eq_false c] at h
    simp at h
theorem fallen_sup {s : State} {x : Nat} (hb : s.basic ≤ s.suppliers) : ∀ f ∈ fallen s x, f.supplier ≤ s.suppliers := fun f hf => by
  unfold fallen at hf
  rw [List.mem_flatMap] at hf
  obtain ⟨p, _, hf⟩ := hf
  rw [List.mem_filterMap] at hf
  obtain ⟨r, _, hf⟩ := hf
  split at hf
  · cases hf; exact hb
  · cases hf
theorem ex_stage {s : State} (x : Ex s) {n st : Nat} : Ex (setStage s n st) := ⟨x.fs, fun r hr => req_mapAt (P := fun r => r.supplier ≤ s.suppliers) (g := fun r => { r with stage := st }) (fun r z => z) x.rs r hr, x.fl⟩
theorem ex_does {s t : State} {c : Call} {a : List Int} (g : Good s) (ho : s.opened = true ∨ isOpens c = true) (x : Ex s) (h : does s c = .ok (t, a)) : Ex t := by
  cases c with
  | opens b n k m =>
    simp only [does] at h
    split at h
    · cases h
    · rename_i c
      split at h
      · cases h
      · cases h
        have e := g.cl (by simpa using c)
        subst e
        exact ⟨fun _ h => (nomatch h), fun _ h => (nomatch h), fun _ h => (nomatch h)⟩
  | holiday d =>
    simp only [does] at h
    repeat (split at h; · cases h)
    cases h; exact ⟨x.fs, x.rs, x.fl⟩
  | point =>
    simp only [does] at h
    repeat (split at h; · cases h)
    cases h; exact ⟨x.fs, x.rs, x.fl⟩
  | day d =>
    simp only [does] at h
    repeat (split at h; · cases h)
    cases h
    have q := ripen_ex (Vbemax.ripe s d) s x x.ripe
    exact ⟨q.1.fs, q.1.rs, q.1.fl⟩
  | request p y d =>
    simp only [does] at h
    split at h
    · cases h
    · split at h
      · cases h
      · rename_i c
        repeat (split at h; · cases h)
        cases h
        refine ⟨x.fs, fun r hr => ?_, x.fl⟩
        rcases List.mem_append.mp hr with hr | hr
        · exact x.rs r hr
        · rw [List.mem_singleton] at hr
          subst hr
          exact lives_le c
  | object n y =>
    simp only [does] at h
    split at h
    · cases h
    · repeat (split at h; · cases h)
      cases h; exact ex_stage x
  | withdraw n =>
    simp only [does] at h
    split at h
    · cases h
    · cases h; exact ex_stage x
  | vacate p d =>
    simp only [does] at h
    repeat (split at h; · cases h)
    refine ex_facts h x fun f hf => ?_
    rw [List.mem_singleton] at hf
    subst hf
    exact (g.op (ho.resolve_right (fun z => nomatch z))).2.1
  | correct p i j y =>
    simp only [does] at h
    split at h
    · cases h
    · split at h
      · cases h
      · rename_i c
        split at h
        · cases h
        · refine ex_facts h x fun f hf => ?_
          rw [List.mem_singleton] at hf
          subst hf
          exact lives_le c
  | fail y =>
    simp only [does] at h
    split at h
    · cases h
    · rename_i c
      split at h
      · cases h
      · refine ex_facts h ⟨x.fs, fun r hr => ?_, fun z hz => ?_⟩ (fallen_sup (g.op (ho.resolve_right (fun z => nomatch z))).2.1)
        · obtain ⟨r', h1, h2⟩ := List.mem_map.mp hr
          subst h2
          have := x.rs r' h1
          split
          · exact this
          · exact this
        · rcases List.mem_append.mp hz with hz | hz
          · exact x.fl z hz
          · rw [List.mem_singleton] at hz
            subst hz
            exact lives_le (s := s) c
  | volume p d n =>
    simp only [does] at h
    repeat (split at h; · cases h)
    cases h; exact ⟨x.fs, x.rs, x.fl⟩
  | bill y i j =>
    simp only [does] at h
    repeat (split at h; · cases h)
    cases h; exact ⟨x.fs, x.rs, x.fl⟩
  | who p d k =>
    simp only [does] at h
    repeat (split at h; · cases h)
    cases h; exact x
  | history p k =>
    simp only [does] at h
    repeat (split at h; · cases h)
    cases h; exact x
  | volumeOf y a b k =>
    simp only [does] at h
    repeat (split at h; · cases h)
    cases h; exact x
  | volumes a b k =>
    simp only [does] at h
    repeat (split at h; · cases h)
    cases h; exact x
  | businessAfter d n =>
    simp only [does] at h
    cases h; exact x
  | businessBetween a b =>
    simp only [does] at h
    repeat (split at h; · cases h)
    cases h; exact x
  | requestIs n =>
    simp only [does] at h
    split at h
    · cases h
    · cases h; exact x
  | differs p j k =>
    simp only [does] at h
    repeat (split at h; · cases h)
    cases h; exact x
  | supplied y d k =>
    simp only [does] at h
    repeat (split at h; · cases h)
    cases h; exact x
  | facts p =>
    simp only [does] at h
    repeat (split at h; · cases h)
    cases h; exact x
  | state =>
    simp only [does] at h
    cases h; exact x
theorem ex_step {s : State} {c : Call} (g : Good s) (x : Ex s) : Ex (step s c).1 := by
  unfold step
  split
  · exact x
  · rename_i h
    cases e : does s c with
    | error y => exact x
    | ok ta =>
      obtain ⟨t, a⟩ := ta
      refine ex_does g ?_ x e
      by_cases q : isOpens c = true
      · exact .inr q
      · refine .inl ?_
        rw [Bool.not_eq_true] at q
        apply Classical.byContradiction
        intro z
        exact h ⟨by simpa using z, q⟩
theorem guard_some {b : Bool} {c d : Call} (h : Vbemax.guard b c = some d) : b = true ∧ c = d := by
  unfold Vbemax.guard at h
  split at h
  · rename_i c
    exact ⟨c, Option.some.inj h⟩
  · cases h
def wd (d : Nat) : Nat := (d + 1) / 7 * 5 + min ((d + 1) % 7) 5
def inW (a b : Nat) (k : Int) : Bool := decide ((a : Int) < k) && (decide (k ≤ (b : Int)) && decide (k % 7 < 5))
def cntW (a b : Nat) (ks : List Int) : Nat := (ks.filter (inW a b)).length
theorem wd_succ (b : Nat) : wd (b + 1) = wd b + if (b + 1) % 7 < 5 then 1 else 0 := by
  unfold wd
  split <;> omega
theorem cntW_self (a : Nat) (ks : List Int) : cntW a a ks = 0 := by
  unfold cntW
  rw [List.length_eq_zero_iff, List.filter_eq_nil_iff]
  intro k _ h
  simp only [inW, Bool.and_eq_true, decide_eq_true_eq] at h
  omega
theorem cntW_succ {a b : Nat} (hab : a ≤ b) : ∀ {ks : List Int}, ks.Nodup → cntW a (b + 1) ks = cntW a b ks + if ((b + 1 : Nat) : Int) ∈ ks ∧ (b + 1) % 7 < 5 then 1 else 0
  | [], _ => by simp [cntW]
  | k :: ks, h => by
    rw [List.nodup_cons] at h
    have ih := cntW_succ hab h.2
    unfold cntW at ih ⊢
    by_cases e : k = ((b + 1 : Nat) : Int)
    · subst e
      rw [if_neg (fun z => h.1 z.1)] at ih
      have e1 : inW a b ((b + 1 : Nat) : Int) = false := by
        simp only [inW, Bool.and_eq_false_iff, decide_eq_false_iff_not]
        right; left; omega
      by_cases c : (b + 1) % 7 < 5
      · have e2 : inW a (b + 1) ((b + 1 : Nat) : Int) = true := by
          simp only [inW, Bool.and_eq_true, decide_eq_true_eq]
          omega
        rw [if_pos ⟨List.mem_cons_self .., c⟩, List.filter_cons_of_pos e2, List.filter_cons_of_neg (by rw [e1]; exact Bool.false_ne_true), List.length_cons, ih]
      · have e2 : inW a (b + 1) ((b + 1 : Nat) : Int) = false := by
          simp only [inW, Bool.and_eq_false_iff, decide_eq_false_iff_not]
          right; right; omega
        rw [if_neg (fun z => c z.2), List.filter_cons_of_neg (by rw [e2]; exact Bool.false_ne_true), List.filter_cons_of_neg (by rw [e1]; exact Bool.false_ne_true), ih]
    · have e1 : inW a (b + 1) k = inW a b k := by
        unfold inW
        congr 2
        simp only [decide_eq_decide]
        omega
      have e2 : (((b + 1 : Nat) : Int) ∈ k :: ks ∧ (b + 1) % 7 < 5) ↔ (((b + 1 : Nat) : Int) ∈ ks ∧ (b + 1) % 7 < 5) := by
        rw [List.mem_cons]
        constructor
        · rintro ⟨z | z, c⟩
          · exact absurd z.symm e
          · exact ⟨z, c⟩
        · rintro ⟨z, c⟩
          exact ⟨.inr z, c⟩
      rw [List.filter_cons, List.filter_cons, e1]
      simp only [e2]
      split
      · rw [List.length_cons, List.length_cons, ih]
        omega
      · exact ih
theorem between_succ (hol : List Nat) {a b : Nat} (hab : a ≤ b) : between hol a (b + 1) = between hol a b + if isFree hol (b + 1) = true then 0 else 1 := by
  unfold between
  rw [show b + 1 - a = (b - a) + 1 by omega, List.range_succ, List.filter_append, List.length_append]
  congr 1
  rw [List.filter_cons, show a + 1 + (b - a) = b + 1 by omega]
  cases isFree hol (b + 1) <;> rfl
theorem between_eq {hol : List Nat} {ks : List Int} (nd : ks.Nodup) (hm : ∀ d : Nat, hol.contains d = true ↔ (d : Int) ∈ ks) (a : Nat) : ∀ n, between hol a (a + n) + wd a + cntW a (a + n) ks = wd (a + n) 
  | 0 => by
    rw [Nat.add_zero, cntW_self]
    unfold between
    simp
  | n + 1 => by
    have ih := between_eq nd hm a n
    rw [show a + (n + 1) = (a + n) + 1 by omega, between_succ hol (Nat.le_add_right a n), cntW_succ (Nat.le_add_right a n) nd, wd_succ]
    have hmem := hm (a + n + 1)
    unfold isFree
    by_cases c : (a + n + 1) % 7 < 5
    · rw [if_pos c, decide_eq_false (by omega), Bool.false_or]
      by_cases m : hol.contains (a + n + 1) = true
      · rw [if_pos m, if_pos ⟨hmem.mp m, c⟩]
        omega
      · rw [if_neg m, if_neg (fun z => m (hmem.mpr z.1))]
        omega
    · rw [if_neg c, decide_eq_true (by omega), Bool.true_or, if_pos rfl, if_neg (fun z => c z.2)]
      omega
def diffLoop (u : Nat → Nat) : Option Nat → List Nat → List (Nat × Nat)
  | none, [] => []
  | some a, [] => [(a, LAST)]
  | none, d :: r => if u d = 1 then diffLoop u (some d) r else diffLoop u none r
  | some a, d :: r => if u d = 1 then diffLoop u (some a) r else (a, d - 1) :: diffLoop u none r
def rowsOf (u : Nat → Nat) (l : List Nat) : List (Nat × Nat) := (rangesOf u l).filterMap fun r => if r.2.2 = 1 then some (r.1, r.2.1) else none
theorem rowsOf_one (u : Nat → Nat) (a : Nat) : rowsOf u [a] = if u a = 1 then [(a, LAST)] else [] := by
  unfold rowsOf
  show List.filterMap _ [(a, LAST, u a)] = _
  by_cases h : u a = 1
  · rw [if_pos h, List.filterMap_cons]
    simp [h]
  · rw [if_neg h, List.filterMap_cons]
    simp [h]
theorem rowsOf_two (u : Nat → Nat) (a b : Nat) (r : List Nat) : rowsOf u (a :: b :: r) = (if u a = 1 then [(a, b - 1)] else []) ++ rowsOf u (b :: r) := by
  unfold rowsOf
  show List.filterMap _ ((a, b - 1, u a) :: rangesOf u (b :: r)) = _
  by_cases h : u a = 1
  · rw [if_pos h, List.filterMap_cons]
    simp [h]
  · rw [if_neg h, List.filterMap_cons]
    simp [h]
theorem diff_both {u : Nat → Nat} (hu : ∀ d, u d = 0 ∨ u d = 1) : ∀ E : List Nat,
    (∀ a, u a = 0 → rowsOf u (a :: startsLoop u 0 E) = diffLoop u none E) ∧ (∀ a, u a = 1 → rowsOf u (a :: startsLoop u 1 E) = diffLoop u (some a) E)
  | [] => by
    refine ⟨fun a h => ?_, fun a h => ?_⟩
    · show rowsOf u [a] = []
      rw [rowsOf_one, if_neg (by omega)]
    · show rowsOf u [a] = [(a, LAST)]
      rw [rowsOf_one, if_pos h]
  | d :: E => by
    obtain ⟨i1, i2⟩ := diff_both hu E
    refine ⟨fun a h => ?_, fun a h => ?_⟩
    · show rowsOf u (a :: (if u d ≠ 0 then d :: startsLoop u (u d) E else startsLoop u (u d) E)) = if u d = 1 then _ else _
      rcases hu d with c | c
      · rw [if_neg (by omega), if_neg (by omega), c]
        exact i1 a h
      · rw [if_pos (by omega), if_pos c, rowsOf_two, if_neg (by omega), List.nil_append, c]
        exact i2 d c
    · show rowsOf u (a :: (if u d ≠ 1 then d :: startsLoop u (u d) E else startsLoop u (u d) E)) = if u d = 1 then _ else _
      rcases hu d with c | c
      · rw [if_pos (by omega), if_neg (by omega), rowsOf_two, if_pos h, c, i1 d c]
        rfl
      · rw [if_neg (by omega), if_pos c, c]
        exact i2 a h
theorem diff_all {u : Nat → Nat} (hu : ∀ d, u d = 0 ∨ u d = 1) {E : List Nat} (hs : E.Pairwise (· < ·)) (h0 : 0 ∈ E) (hl : ∀ d ∈ E, d ≤ LAST) (h : ∀ d, d ≤ LAST → isStart u d = true → d ∈ E) : diffLoop u none E = rowsOf u (starts u) := by
  have e := startsLoop_all (bef := 2) hs hl h (by rcases hu 0 with c | c <;> omega)
  obtain ⟨r, rfl⟩ := zero_head hs h0
  obtain ⟨i1, i2⟩ := diff_both hu r
  rw [← e]
  show (if u 0 = 1 then _ else _) = rowsOf u (if u 0 ≠ 2 then 0 :: startsLoop u (u 0) r else startsLoop u (u 0) r)
  rcases hu 0 with c | c
  · rw [if_neg (by omega), if_pos (by omega), c]
    exact (i1 0 c).symm
  · rw [if_pos c, if_pos (by omega), c]
    exact (i2 0 c).symm
theorem uOf_01 (s : State) (p j k d : Nat) : uOf s p j k d = 0 ∨ uOf s p j k d = 1 := by
  unfold uOf
  split
  · exact .inl rfl
  · exact .inr rfl
theorem uOf_start {s : State} {p j k d : Nat} (h : isStart (uOf s p j k) d = true) : isStart (wOf s.basic s.facts p j) d = true ∨ isStart (wOf s.basic s.facts p k) d = true := by
  unfold isStart at h ⊢
  simp only [Bool.or_eq_true, decide_eq_true_eq] at h ⊢
  rcases h with h | h
  · exact .inl (.inl h)
  · by_cases c1 : wOf s.basic s.facts p j d = wOf s.basic s.facts p j (d - 1)
    · by_cases c2 : wOf s.basic s.facts p k d = wOf s.basic s.facts p k (d - 1)
      · refine absurd ?_ h
        unfold uOf
        have c1' : whoAt s p d j = whoAt s p (d - 1) j := c1
        have c2' : whoAt s p d k = whoAt s p (d - 1) k := c2
        rw [c1', c2']
      · exact .inr (.inr c2)
    · exact .inl (.inr c1)
theorem differing_rows (s : State) (p j k : Nat) : differing s p j k = rowsOf (uOf s p j k) (starts (uOf s p j k)) := differing_eq s p j k
theorem diffLoop_len (u : Nat → Nat) : ∀ (E : List Nat) (o : Option Nat), (diffLoop u o E).length ≤ E.length + 1
  | [], none => Nat.zero_le _
  | [], some a => Nat.le_refl _
  | d :: E, none => by
    show (if u d = 1 then _ else _ : List (Nat × Nat)).length ≤ _
    have i1 := diffLoop_len u E (some d)
    have i2 := diffLoop_len u E none
    rw [List.length_cons]
    split <;> omega
  | d :: E, some a => by
    show (if u d = 1 then _ else _ : List (Nat × Nat)).length ≤ _
    have i1 := diffLoop_len u E (some a)
    have i2 := diffLoop_len u E none
    rw [List.length_cons]
    split
    · omega
    · rw [List.length_cons]; omega
end
section
open PySem PySem.Spec PyProof.Rows
section
variable {prog : Program} {w : World} {K : Type} [DecidableEq K] {knd : PySem.KeyKind prog w K} {A : Around} {E : Value → Shared → Prop} {s : Shared}
theorem collect_dict {d : Addr} {kvs : List (K × Value)} {ep : Nat} {Q : List Value → Shared → Prop} (hh : A.handled = none) (hd : (d == sysModules) = false) (hm : s.heap.DictAt knd d kvs ep) (hn : kvs.length ≤ sizeLine)
    (hQ : ∀ (s' : Shared) (acc : Array Value), (∀ b o, s.heap.get? b = some o → s'.heap.get? b = some o) → s.heap.objs.size < s'.heap.objs.size → s'.gens = s.gens → s'.drawn = s.drawn → s'.os = s.os → ItemsOf (fun i v => ∃ k x, kvs[i]? = some (k, x) ∧ knd.is k v = true) acc kvs.length → Q acc.toList s') :
    wpAny (model prog w) A (collect (.ref d)) Q E s := by
  have hlt := hm.lt_size
  unfold collect
  refine wpAny_bind (wpAny_runValue (codeAny_builtin PySem.F.entry_proto_collect ?_))
  rw [Around.under_plainId PySem.F.plain_proto_collect _]
  show wpAny _ A.in1 (newList [] >>= fun l => again (.builtin "list.__iadd__" ⟨[l, .ref d], []⟩)) _ _ s
  refine wpAny_bind (wpAny_newObj_type ?_)
  refine wpAny_pure ⟨plainId_quiet PySem.F.plain_list_iadd _, codeAny_builtin PySem.F.entry_list_iadd ?_⟩
  rw [Around.under_plainId PySem.F.plain_list_iadd _]
  have hne : s.heap.objs.size ≠ d := Nat.ne_of_gt hlt
  have h1 : Builtin.List.listSameRef (.ref s.heap.objs.size) (.ref d) = false := by simp [Builtin.List.listSameRef, hne]
  show wpAny _ A.in1 (Builtin.List.listExtendWith (.ref s.heap.objs.size) (.ref d) (.ref s.heap.objs.size)) _ _ _
  unfold Builtin.List.listExtendWith
  have hm1 := hm.push { cls := .type "list", data := .seq ([] : List Value).toArray }
  have hS1 : (s.heap.push { cls := .type "list", data := .seq ([] : List Value).toArray }).get? s.heap.objs.size = some { cls := .type "list", data := .seq ([] : List Value).toArray } := Heap.get?_push_size _ rfl
  refine wpAny_bind (wpAny_typeOf (T := "dict") hm1.dictOf.typeIs ?_)
  rw [if_neg (by rw [h1]; decide)]
  refine wpAny_bind (wpAny_pyIter_dict hd hm1 ?_)
  refine wpAny_bind (wpAny_holding ?_)
  unfold Builtin.List.listLengthHint
  have hm2 := hm1.push { cls := .type "dict_keyiterator", data := .fields #[.ref d, .int 0 0, .int kvs.length 0, .int ep 0] }
  refine wpAny_bind (wpAny_specialOf (T := "dict") hm2.dictOf.typeIs PySem.F.slot_dict_len.lookup ?_)
  (generalize hid : ("dict.__len__" : String) = id0; (fail_if_success (clear hid id0)); wp_delta; rw [show splitId id0 = some ("dict", "__len__") from by subst hid; decide +kernel]; subst hid)
  refine wpAny_bind (wpAny_isInstance (T := "dict") (b := true) hm2.dictOf.typeIs (by rw [isSubtype_type]; kernel_rfl) ?_)
  rw [if_neg (by decide)]
  dsimp only
  rw [if_pos (by decide)]
  refine wpAny_bind (wpAny_typeOf (T := "dict") hm2.dictOf.typeIs ?_)
  refine wpAny_pure ?_
  rw [if_pos (by decide)]
  refine wpAny_bind (wpAny_rule ?_)
  have hS2 : ((s.heap.push { cls := .type "list", data := .seq ([] : List Value).toArray }).push { cls := .type "dict_keyiterator", data := .fields #[.ref d, .int 0 0, .int kvs.length 0, .int ep 0] }).get? s.heap.objs.size = some { cls := .type "list", data := .seq ([] : List Value).toArray } := Heap.get?_push_of_some _ hS1
  refine wpAny_bind ?_
  show wpAny _ A.in1 (updateSeq s.heap.objs.size (·.push .none) >>= fun _ => updateSeq s.heap.objs.size (·.pop)) _ _ _
  refine wpAny_bind (wpAny_updateSeq hS2 rfl ?_)
  have hS3 := Heap.get?_update_self (Obj.mapSeq (·.push Value.none)) hS2 rfl
  refine wpAny_updateSeq hS3 rfl ?_
  have hS4 := Heap.get?_update_self (Obj.mapSeq (·.pop)) hS3 rfl
  have hI : (s.heap.push { cls := .type "list", data := .seq ([] : List Value).toArray }).objs.size = s.heap.objs.size + 1 := by rw [size_push']
  have oth : ∀ b o, b ≠ s.heap.objs.size → ((s.heap.push { cls := .type "list", data := .seq ([] : List Value).toArray }).push { cls := .type "dict_keyiterator", data := .fields #[.ref d, .int 0 0, .int kvs.length 0, .int ep 0] }).get? b = some o →
      ((((s.heap.push { cls := .type "list", data := .seq ([] : List Value).toArray }).push { cls := .type "dict_keyiterator", data := .fields #[.ref d, .int 0 0, .int kvs.length 0, .int ep 0] }).update s.heap.objs.size (Obj.mapSeq (·.push Value.none))).update s.heap.objs.size (Obj.mapSeq (·.pop))).get? b = some o :=
    fun b o hb e => (Heap.get?_update_other _ _ (Ne.symm hb)).trans ((Heap.get?_update_other _ _ (Ne.symm hb)).trans e)
  have hitO : ((s.heap.push { cls := .type "list", data := .seq ([] : List Value).toArray }).push { cls := .type "dict_keyiterator", data := .fields #[.ref d, .int 0 0, .int kvs.length 0, .int ep 0] }).get? (s.heap.push { cls := .type "list", data := .seq ([] : List Value).toArray }).objs.size = some { cls := .type "dict_keyiterator", data := .fields #[.ref d, .int 0 0, .int kvs.length 0, .int ep 0] } := Heap.get?_push_size _ rfl
  have hSI : (s.heap.push { cls := .type "list", data := .seq ([] : List Value).toArray }).objs.size ≠ s.heap.objs.size := by rw [hI]; exact Nat.succ_ne_self _
  have hdI : d ≠ (s.heap.push { cls := .type "list", data := .seq ([] : List Value).toArray }).objs.size := by rw [hI]; exact Nat.ne_of_lt (Nat.lt_succ_of_lt hlt)
  have W := (Walks.dictKeys (prog := prog) (w := w) (knd := knd) (A := A.in1) (show A.in1.handled = none from hh) (s.heap.push { cls := .type "list", data := .seq ([] : List Value).toArray }).objs.size d hdI kvs ep).toS
  refine wpAny_pure ⟨plainId_quiet PySem.F.plain_extend_loop _, codeAny_extend_loopS W hn s.heap.objs.size ?_ _ kvs.length 0 _ _ _ rfl (Nat.zero_le _) ⟨⟨_, oth _ _ hSI hitO, rfl, rfl⟩, hm2.at' fun o e => oth _ _ (Ne.symm hne) e⟩ hS4 (ItemsOf.nil _) fun s' acc' c' hmv hS' hacc => ?_⟩
  · intro hmem
    simp only [List.mem_cons, List.not_mem_nil, or_false] at hmem
    rcases hmem with h | h
    · exact hSI h.symm
    · exact hne h
  show wpAny _ A (load s.heap.objs.size >>= _) _ _ s'
  refine wpAny_bind (wpAny_load hS' ?_)
  refine wpAny_pure (hQ s' acc' (fun b o e => ?_) (Heap.lt_size hS') hmv.gens hmv.drawn hmv.os hacc)
  have hb : b < s.heap.objs.size := Heap.lt_size e
  refine hmv.heap b o ?_ (oth b o (Nat.ne_of_lt hb) (Heap.get?_push_of_some _ (Heap.get?_push_of_some _ e)))
  intro hmem
  simp only [List.mem_cons, List.not_mem_nil, or_false] at hmem
  rcases hmem with h | h
  · exact Nat.ne_of_lt hb h
  · rw [hI] at h
    exact Nat.ne_of_lt (Nat.lt_succ_of_lt hb) h
end
section
variable {prog : Program} {w : World} {A : Around} {E : Value → Shared → Prop} {s : Shared}
theorem nextOf_tup_item {it t : Addr} {i : Nat} {items : Array Value} {x : Value} {Q : Value → Shared → Prop} (hit : s.heap.IsTupleIter it t i) (ht : s.heap.IsTuple t items) (hx : items[i]? = some x)
    (hQ : ∀ h', h'.IsTupleIter it t (i + 1) → Heap.SameBut it s.heap h' → Q x { s with heap := h' }) : wpAny (model prog w) A (Builtin.SmallTypes.nextOf (.ref it)) Q E s := by
  obtain ⟨o, ho, hc, hd⟩ := id hit
  obtain ⟨ot, hot, _, nt, hdt⟩ := ht
  unfold Builtin.SmallTypes.nextOf
  refine wpAny_bind (wpAny_callSpecial?_slot (name := Str.ofString "__next__") hit.typeIs PySem.F.slot_tuple_iterator_next (wpAny_call_entry PySem.F.slot_tuple_iterator_next hit.typeIs PySem.F.entry_tuple_iterator_next ?_ (PySem.F.args_tuple_iterator_next_1 _)))
  show wpAny _ _ (field (.ref it) 0 >>= _) _ _ s
  refine wpAny_bind (wpAny_field ho hd (x := .ref t) rfl ?_)
  show wpAny _ _ (if (Value.ref t == Value.none) = true then _ else _) _ _ s
  rw [if_neg (show ¬ ((Value.ref t == Value.none) = true) from Bool.false_ne_true)]
  show wpAny _ _ (field (.ref it) 1 >>= _) _ _ s
  refine wpAny_bind (wpAny_field ho hd (x := .int i 0) rfl ?_)
  show wpAny _ _ (seqItems? (.ref t) >>= _) _ _ s
  refine wpAny_bind (wpAny_seqItems hot hdt ?_)
  simp only [Int.toNat_natCast, hx]
  refine wpAny_bind (wpAny_setField ho hd (by simp) (wpAny_pure ⟨x, rfl, wpAny_pure (hQ _ ?_ (Heap.SameBut.update ..))⟩))
  exact ⟨_, Heap.get?_update_self _ ho (Obj.isFreed_of_fields (Obj.data_mapFields hd _)), (Obj.cls_mapFields ..).trans hc, by rw [Obj.data_mapFields hd]; simp [rawInt]⟩
theorem nextOf_tup_end {it t : Addr} {i : Nat} {items : Array Value} {Q : Value → Shared → Prop} (hh : A.handled = none) (hit : s.heap.IsTupleIter it t i) (ht : s.heap.IsTuple t items) (hx : items[i]? = none)
    (hE : ∀ h' e, Heap.ExtBut it s.heap h' → (∃ o, h'.get? e = some o ∧ o.cls = .type "StopIteration") → E (.ref e) { s with heap := h' }) : wpAny (model prog w) A (Builtin.SmallTypes.nextOf (.ref it)) Q E s := by
  obtain ⟨o, ho, hc, hd⟩ := id hit
  obtain ⟨ot, hot, _, nt, hdt⟩ := ht
  unfold Builtin.SmallTypes.nextOf
  refine wpAny_bind (wpAny_callSpecial?_slot (name := Str.ofString "__next__") hit.typeIs PySem.F.slot_tuple_iterator_next (wpAny_call_entry PySem.F.slot_tuple_iterator_next hit.typeIs PySem.F.entry_tuple_iterator_next ?_ (PySem.F.args_tuple_iterator_next_1 _)))
  show wpAny _ _ (field (.ref it) 0 >>= _) _ _ s
  refine wpAny_bind (wpAny_field ho hd (x := .ref t) rfl ?_)
  show wpAny _ _ (if (Value.ref t == Value.none) = true then _ else _) _ _ s
  rw [if_neg (show ¬ ((Value.ref t == Value.none) = true) from Bool.false_ne_true)]
  show wpAny _ _ (field (.ref it) 1 >>= _) _ _ s
  refine wpAny_bind (wpAny_field ho hd (x := .int i 0) rfl ?_)
  show wpAny _ _ (seqItems? (.ref t) >>= _) _ _ s
  refine wpAny_bind (wpAny_seqItems hot hdt ?_)
  simp only [Int.toNat_natCast, hx]
  refine wpAny_bind (wpAny_rule (wpAny_bind (wpAny_setField ho hd (by simp) ?_)))
  show wpAny _ _ (newExc (.type "StopIteration") [] >>= _) _ _ _
  refine wpAny_bind ?_
  simp only [newExc, newTuple]
  refine wpAny_bind (wpAny_newObj_type ?_ (by size_fits))
  refine wpAny_bind (m := firstArgMember _ _) (wpAny_of_eq (a := Value.none) (by first | rfl | (simp only [firstArgMember]; rfl)) ?_)
  refine wpAny_newObj_type ?_ (by size_fits)
  simp only [raiseNew]
  refine wpAny_bind (wpAny_handled ?_)
  first | rw [show A.in1.handled = none from hh] | rw [hh]
  refine wpAny_bind (wpAny_pure (wpAny_throw ?_))
  exact hE _ _ (((Heap.SameBut.update ..).extBut.push _).push _) ⟨_, Heap.get?_push_size _ rfl, rfl⟩
end
theorem tup_at {h h' : Heap} {t : Addr} {items : Array Value} (x : h.IsTuple t items) (e : ∀ o, h.get? t = some o → h'.get? t = some o) : h'.IsTuple t items := let ⟨o, ho, r⟩ := x; ⟨o, e _ ho, r⟩
theorem drawsTup {prog : Program} {w : World} {A : Around} (hh : A.handled = none) (it t : Addr) (hne : t ≠ it) (items : Array Value) :
    Draws prog w A it [it, t] items.size (fun i x => items[i]? = some x) (fun i h => h.IsTupleIter it t i ∧ h.IsTuple t items) where
  live := fun i h st => let ⟨o, ho, _⟩ := st.1; ⟨o, ho⟩
  frame := fun i h h' st hk => ⟨st.1.at fun o e => hk it (by simp) o e, tup_at st.2 fun o e => hk t (by simp) o e⟩
  item := fun i s Q E hi st hQ => by
    obtain ⟨x, hx⟩ : ∃ x, items[i]? = some x := ⟨items[i], by simp [hi]⟩
    refine nextOf_tup_item st.1 st.2 hx fun h' st' sb => ?_
    exact hQ x h' s.toks hx ⟨st', tup_at st.2 fun o e => (sb.2 t hne).trans e⟩ sb
  done := fun s Q E st hE => nextOf_tup_end hh st.1 st.2 (by simp) hE
open AutoSeq1 (wpAny_loadPart')
theorem enumerate_newT (l : Addr) (items : Array Value) (n : Nat) (dct : Option Addr) (sl : Array (Option Value)) :
    Meets (Builtin.«enumerate.__new__» ⟨[.type "enumerate", .ref l], []⟩) (fun _ R s => s.heap.get? l = some { cls := .type "tuple", dict := dct, data := .seq items n, slots := sl } ∧
      R (.ok (.ret (.ref (s.heap.push { cls := .type "tuple_iterator", data := .fields #[.ref l, .int 0 0] }).objs.size)))
        { s with heap := (s.heap.push { cls := .type "tuple_iterator", data := .fields #[.ref l, .int 0 0] }).push { cls := .type "enumerate", data := .fields #[.none, .bool false, .ref s.heap.objs.size, rawInt 0, .none, .none] } }) :=
  .of_wp fun prog w A R s h => by
    obtain ⟨hp, g, d, tk, os⟩ := s; obtain ⟨hl, h⟩ := h
    have hsub := sub_enumerate
    have hL : Heap.IsTuple (Shared.heap ⟨hp, g, d, tk, os⟩) l items := ⟨_, hl, rfl, n, rfl⟩
    wp_walk using wpAny_loadPart' hl
    refine wpAny_stack_any fun st => wpAny_pure ?_
    split
    · rename_i c _ _ _ _ _
      cases (c == Value.type "enumerate")
      · wp_walk using wpAny_loadPart' hl, wpAny_pyIter_tuple hL
        exact ⟨_, rfl, h⟩
      · wp_walk using wpAny_loadPart' hl, wpAny_pyIter_tuple hL
        exact ⟨_, rfl, h⟩
    · wp_walk using wpAny_loadPart' hl, wpAny_pyIter_tuple hL
      exact ⟨_, rfl, h⟩
theorem call_enumT {prog : Program} {w : World} {A : Around} {E : Value → Shared → Prop} {s : Shared} {l : Addr} {items : Array Value} {Q : Value → Shared → Prop} (hL : s.heap.IsTuple l items)
    (h : ∀ h', IsEnum h' (s.heap.objs.size + 1) s.heap.objs.size 0 .none → h'.IsTupleIter s.heap.objs.size l 0 → h'.objs.size = s.heap.objs.size + 2 →
      (∀ b o, s.heap.get? b = some o → h'.get? b = some o) → Q (.ref (s.heap.objs.size + 1)) { s with heap := h' }) : wpAny (model prog w) A (call (.type "enumerate") [.ref l]) Q E s := by
  obtain ⟨⟨c, dct, dt, sl⟩, hl, hc, n, hd⟩ := hL
  replace hc : c = .type "tuple" := hc
  replace hd : dt = .seq items n := hd
  subst hc hd
  refine callType_new PySem.F.called_enumerate (by decide) (PySem.F.typeCall_enumerate_1 _) (PySem.F.newCall_enumerate_1 _) (fun obj => PySem.F.args_object_init_2 obj _) PySem.F.entry_enumerate_new (enumerate_newT l items n dct sl) ⟨hl, ?_⟩
  have hz : (s.heap.push { cls := .type "tuple_iterator", data := .fields #[.ref l, .int 0 0] }).objs.size = s.heap.objs.size + 1 := Heap.size_push ..
  show _ ∧ _
  rw [hz]
  have he : IsEnum ((s.heap.push { cls := .type "tuple_iterator", data := .fields #[.ref l, .int 0 0] }).push { cls := .type "enumerate", data := .fields #[.none, .bool false, .ref s.heap.objs.size, rawInt 0, .none, .none] }) (s.heap.objs.size + 1) s.heap.objs.size 0 .none := by
    have q := Heap.get?_push_size (s.heap.push { cls := .type "tuple_iterator", data := .fields #[.ref l, .int 0 0] }) (o := { cls := .type "enumerate", data := .fields #[.none, .bool false, .ref s.heap.objs.size, rawInt 0, .none, .none] }) rfl
    rw [hz] at q; exact q
  refine ⟨⟨_, he, rfl⟩, h _ he ⟨_, Heap.get?_push_of_some _ (Heap.get?_push_size _ rfl), rfl, rfl⟩ (by rw [Heap.size_push, hz]) fun b o x => Heap.get?_push_of_some _ (Heap.get?_push_of_some _ x)⟩
theorem ints_of : ∀ {vs : List Value} {ns : List Int}, ns.length = vs.length → (∀ (i : Nat) (v : Value), vs[i]? = some v → ∃ n t, ns[i]? = some n ∧ v = Value.int n t) → IntsAre vs ns
  | [], [], _, _ => .nil
  | [], _ :: _, h, _ => by simp at h
  | _ :: _, [], h, _ => by simp at h
  | v :: vs, n :: ns, h, f => by
    obtain ⟨m, t, e1, e2⟩ := f 0 v rfl
    have e3 : n = m := Option.some.inj e1
    subst e3
    subst e2
    exact .cons n t (ints_of (by simpa using h) fun i v e => f (i + 1) v e)
theorem sorted_dictInts {prog : Program} {w : World} {K : Type} [DecidableEq K] {knd : PySem.KeyKind prog w K} {A : Around} {E : Value → Shared → Prop} {s : Shared} {d : Addr} {kvs : List (K × Value)} {ns : List Int} {ep : Nat} {Q : Value → Shared → Prop}
    (hh : A.handled = none) (hd : (d == sysModules) = false) (hm : s.heap.DictAt knd d kvs ep) (hn : kvs.length ≤ sizeLine) (hlen : ns.length = kvs.length) (hint : ∀ (i : Nat) (k : K) (x v : Value), kvs[i]? = some (k, x) → knd.is k v = true → ∃ n t, ns[i]? = some n ∧ v = .int n t)
    (h : ∀ (s' : Shared) (p : Addr) (out : List Value) (ns' : List Int) (n : Nat), (∀ b o, s.heap.get? b = some o → s'.heap.get? b = some o) → s'.gens = s.gens → s'.drawn = s.drawn → s'.os = s.os → s.heap.objs.size ≤ p →
      s'.heap.get? p = some (seqObj "list" out.toArray n) → IntsAre out ns' → ns'.Perm ns → ns'.Pairwise (· ≤ ·) → Q (.ref p) s') : wpAny (model prog w) A (call (.builtin "sorted") [.ref d]) Q E s := by
  refine Calls.call_function_entry kind_sorted plain_sorted entry_sorted (args_sorted1 _) ?_
  unfold Builtin.«sorted»
  refine wpAny_bind (m := checkCount "sorted" 1 1 _) (wpAny_pure ?_)
  refine wpAny_bind (collect_dict (A := A.in1) (by exact hh) hd hm hn fun s1 acc hk hsz hg hdr hos hit => ?_)
  have hI : IntsAre acc.toList ns := by
    refine ints_of (hlen.trans (hit.1.symm.trans Array.length_toList.symm)) fun i v e => ?_
    obtain ⟨k, x, e1, e2⟩ := hit.2 i v (by rw [← Array.getElem?_toList]; exact e)
    exact hint i k x v e1 e2
  have hlA : acc.toList.length ≤ sizeLine := by rw [Array.length_toList, hit.1]; exact hn
  refine wpAny_bind (wpAny_newList ?_)
  have hoL : (s1.heap.push (seqObj "list" acc.toList.toArray 0)).get? s1.heap.objs.size = some (seqObj "list" acc.toList.toArray 0) := Heap.get?_push_size _ rfl
  have hs1 : s.heap.objs.size ≤ s1.heap.objs.size := Nat.le_of_lt hsz
  refine wpAny_bind (wpAny_holding (wpAny_call_entry slot_list_sort ⟨_, hoL, rfl⟩ entry_list_sort (list_sort_treeAny hoL hI hlA fun out ns' b1 b2 b3 => ⟨_, rfl, ?_⟩) (args_list_sort _)))
  obtain ⟨e, he⟩ := sortedHeap_at (out := out) hoL
  refine wpAny_pure ⟨_, rfl, h _ _ out.toList ns' e (fun b o q => ?_) hg hdr hos hs1 he b1 b2 b3⟩
  have q1 := hk b o q
  have hb := Heap.lt_size q1
  show (sortedHeap (s1.heap.push (seqObj "list" acc.toList.toArray 0)) s1.heap.objs.size acc.toList out).get? b = some o
  rw [sortedHeap_old (Nat.ne_of_lt hb) (by rw [size_push']; exact Nat.lt_succ_of_lt hb), Heap.get?_push_ne _ _ _ (Nat.ne_of_lt hb)]
  exact q1
end
open PySem PySem.Spec PyProof.Rows L2
section
variable {X : Cx}
def rSortedD : List V → Hp → VK → Prop := fun vs H Q => ∃ (a : Addr) (kvs : List (Key × V)) (ns : List Int), vs = [V.ref a] ∧ H a = some (.dK kvs) ∧ kvs.map (·.1) = ns.map Sum.inl ∧
  ∀ (ns' : List Int) (p : Addr), ns'.Perm ns → ns'.Pairwise (· ≤ ·) → H p = none → Q (.ref p) (upd H p (.lst (ns'.map V.int)))
theorem shared_eta {s s' : Shared} (h1 : s'.gens = s.gens) (h2 : s'.drawn = s.drawn) (h3 : s'.os = s.os) : s' = { s with heap := s'.heap, toks := s'.toks } := by
  cases s; cases s'
  cases h1; cases h2; cases h3
  rfl
theorem cr_sortedD (hc : X.calm = true) : CallR X (.builtin "sorted") rSortedD := by
  intro pins s σ H vs us Q I r h
  obtain ⟨a, kvs, ns, rfl, ha, hk, q⟩ := h
  obtain ⟨z, hd, ws, rel, dd⟩ := dk_of I.hok ha
  rw [Vals.ref1 r]
  obtain ⟨ep, dat⟩ := dd.dictAt
  have e1 : ws.map (·.1) = ns.map Sum.inl := by rw [← rel.keys]; exact hk
  have el : ns.length = ws.length := by
    have := congrArg List.length e1
    rw [List.length_map, List.length_map] at this
    exact this.symm
  refine sorted_dictInts (I.ok.hd hc) hd dat (by rw [← rel.length]; exact z) el (fun i k x v e hi => ?_) fun s' p out ns' n kp g d o hp hg hi hperm hpw => ?_
  · have e2 : (ws.map (·.1))[i]? = some k := by rw [List.getElem?_map, e]; rfl
    rw [e1, List.getElem?_map] at e2
    cases e3 : ns[i]? with
    | none => rw [e3] at e2; cases e2
    | some m =>
      rw [e3] at e2
      have e4 : (Sum.inl m : Key) = k := Option.some.inj e2
      subst e4
      rcases keyIs_shape (k := Sum.inl m) (v := v) hi with ⟨j, t, ej, ev⟩ | ⟨y, t, ej, ev⟩
      · cases ej
        exact ⟨m, t, rfl, ev⟩
      · cases ej
  · rw [shared_eta g d o]
    have hlen : (ns'.map V.int).length ≤ sizeLine := by
      rw [List.length_map, hperm.length_eq, el, ← rel.length]
      exact z
    exact ⟨.ref p, upd H p (.lst (ns'.map V.int)), I.laid kp hp ⟨hlen, out, n, vals_of_ints hi, hg⟩, rfl, q ns' p hperm hpw (I.hok.fresh hp)⟩
theorem perm_map_inv {α β : Type} {f : α → β} : ∀ {m l : List β}, m.Perm l → ∀ {a : List α}, a.map f = l → ∃ b : List α, b.Perm a ∧ b.map f = m := by
  intro m l h
  induction h with
  | nil => intro a e; exact ⟨a, List.Perm.refl _, e⟩
  | @cons x l1 l2 _ ih =>
    intro a e
    cases a with
    | nil => cases e
    | cons y r =>
      rw [List.map_cons] at e
      injection e with e1 e2
      obtain ⟨b, h1, h2⟩ := ih e2
      exact ⟨y :: b, h1.cons y, by rw [List.map_cons, e1, h2]⟩
  | swap x y l1 =>
    intro a e
    cases a with
    | nil => cases e
    | cons u r =>
      cases r with
      | nil => cases e
      | cons v r =>
        rw [List.map_cons, List.map_cons] at e
        injection e with e1 e2
        injection e2 with e2 e3
        exact ⟨v :: u :: r, List.Perm.swap u v r, by rw [List.map_cons, List.map_cons, e1, e2, e3]⟩
  | trans _ _ ih1 ih2 =>
    intro a e
    obtain ⟨b, h1, h2⟩ := ih2 e
    obtain ⟨c, h3, h4⟩ := ih1 h2
    exact ⟨c, h3.trans h1, h4⟩
abbrev P3 := Addr × Int × Int
def le3 (x y : P3) : Prop := x.2.1 < y.2.1 ∨ (x.2.1 = y.2.1 ∧ x.2.2 ≤ y.2.2)
def rSortedT (K : PySem.W.Frag) : List V → Hp → VK → Prop := fun vs H Q => ∃ (a : Addr) (ps : List P3), vs = [V.ref a] ∧ SqL K H a (ps.map fun p => V.ref p.1) ∧ (∀ p ∈ ps, SqT K H p.1 [.int p.2.1, .int p.2.2]) ∧
  ∀ (ps' : List P3) (q : Addr), ps'.Perm ps → ps'.Pairwise le3 → H q = none → Q (.ref q) (upd H q (.lst (ps'.map fun p => V.ref p.1)))
abbrev shF : Nat → Bool := fun _ => false
theorem refs_of : ∀ {ps : List P3} {us : List Value}, Vals (ps.map fun p => V.ref p.1) us → us = ps.map fun p => Value.ref p.1
  | [], us, r => by cases r; rfl
  | p :: ps, us, r => by
    cases r with
    | cons h t =>
      rw [refs_of t]
      rw [show _ = Value.ref p.1 from h]
      rfl
theorem vals_refs : ∀ ps : List P3, Vals (ps.map fun p => V.ref p.1) (ps.map fun p => Value.ref p.1)
  | [] => .nil
  | _ :: ps => .cons rfl (vals_refs ps)
theorem tup_key {h : Heap} {p : P3} {its : List Value} (r : Vals [V.int p.2.1, V.int p.2.2] its) (t : IsTup h p.1 its.toArray) :
    (∃ f, TupOf h shF (.ref p.1) f) ∧ G.tupKeyC h shF (.ref p.1) = some [Sum.inl p.2.1, Sum.inl p.2.2] := by
  obtain ⟨u, v, rfl, ⟨t1, rfl⟩, ⟨t2, rfl⟩⟩ := Vals.two r
  obtain ⟨o, ho, hc, n, hd⟩ := t
  refine ⟨⟨_, p.1, o, _, n, rfl, ho, hc, hd, rfl, fun _ => ⟨_, _, rfl⟩, fun z => nomatch z⟩, ?_⟩
  exact G.tupKeyC_of ho hc hd rfl
theorem tups_of {h : Heap} : ∀ ps : List P3, (∀ p ∈ ps, (∃ f, TupOf h shF (.ref p.1) f)) → ∃ fs, TupsOf h shF (ps.map fun p => Value.ref p.1) fs
  | [], _ => ⟨[], .nil⟩
  | p :: ps, k => by
    obtain ⟨f, hf⟩ := k p (List.mem_cons_self ..)
    obtain ⟨fs, hfs⟩ := tups_of ps fun q hq => k q (List.mem_cons_of_mem _ hq)
    exact ⟨f :: fs, .cons hf hfs⟩
theorem lex2 {a b c d : Int} (h : (listOrd itemOrd).kle [Sum.inl a, Sum.inl b] [Sum.inl c, Sum.inl d]) : a < c ∨ (a = c ∧ b ≤ d) := by
  have h0 : PyProof.Rows.lexLt itemOrd [Sum.inl c, Sum.inl d] [Sum.inl a, Sum.inl b] = false := h
  obtain ⟨h1, h2⟩ := PyProof.Rows.lex_false.mp h0
  have h1' : ¬ c < a := of_decide_eq_false h1
  rcases h2 with h2 | h2
  · exact .inl (of_decide_eq_true h2)
  · obtain ⟨h3, _⟩ := PyProof.Rows.lex_false.mp h2
    have h3' : ¬ d < b := of_decide_eq_false h3
    by_cases e : a < c
    · exact .inl e
    · exact .inr ⟨by omega, by omega⟩
theorem cr_sortedT : CallR X (.builtin "sorted") (rSortedT X.K) := by
  intro pins s σ H vs us Q I r h
  obtain ⟨a, ps, rfl, hs, ht, q⟩ := h
  obtain ⟨its, rv, hl, hz⟩ := I.list hs
  rw [Vals.ref1 r]
  have ei := refs_of rv
  subst ei
  have key : ∀ p ∈ ps, (∃ f, TupOf s.heap shF (.ref p.1) f) ∧ G.tupKeyC s.heap shF (.ref p.1) = some [Sum.inl p.2.1, Sum.inl p.2.2] := fun p hp => by
    obtain ⟨it, r2, t2, _⟩ := I.tuple (ht p hp)
    exact tup_key r2 t2
  obtain ⟨fs, hfs⟩ := tups_of ps fun p hp => (key p hp).1
  rw [List.length_map] at hz
  refine G.sorted_tups hl.isList hfs (fun v hv => ?_) (by rw [List.length_map]; exact hz) fun st' hperm hsorted _ => ?_
  · obtain ⟨p, hp, rfl⟩ := List.mem_map.mp hv
    exact ⟨_, (key p hp).2⟩
  · have hp2 : (arrOf st').toList.Perm (ps.map fun p => (Value.ref p.1, Value.ref p.1)) := by
      have := Array.perm_iff_toList_perm.mp hperm
      rw [pairsOf_toList] at this
      rw [show (ps.map fun p => (Value.ref p.1, Value.ref p.1)) = (ps.map fun p => Value.ref p.1).zip (ps.map fun p => Value.ref p.1) by rw [List.zip_map', ]]
      exact this
    obtain ⟨ps', hpp, hmap⟩ := perm_map_inv hp2 rfl
    obtain ⟨ep, he'⟩ := PyProof.Rows.sortedAll_at s.heap (ps.map fun p => Value.ref p.1) ((arrOf st').map (·.2))
    have hlen : (ps'.map fun p => V.ref p.1).length ≤ sizeLine := by rw [List.length_map, hpp.length_eq]; exact hz
    have hout : ((arrOf st').map (·.2)) = (ps'.map fun p => Value.ref p.1).toArray := by
      apply Array.toList_inj.mp
      rw [Array.toList_map, ← hmap, List.map_map]
      rfl
    refine ⟨.ref _, upd H (s.heap.objs.size + 1) (.lst (ps'.map fun p => V.ref p.1)), I.laid (t' := s.toks) (fun _ _ => PyProof.Rows.sortedAll_old) (Nat.le_succ _) ⟨hlen, ps'.map fun p => Value.ref p.1, ep, vals_refs ps', by rw [he', hout]⟩, rfl, q ps' _ hpp ?_ (I.hok.fresh (Nat.le_succ _))⟩
    rw [List.pairwise_iff_getElem]
    intro i j hi hj hij
    have hsz : (pairsOf (ps.map fun p => Value.ref p.1)).size = ps'.length := by rw [pairsOf_size, List.length_map, hpp.length_eq]
    have h1 := hsorted i j (Nat.le_of_lt hij) (by rw [hsz]; exact hj)
    have kk : ∀ (m : Nat) (hm : m < ps'.length), KK (G.tupKindC s.heap shF) (arrOf st') m = [Sum.inl ps'[m].2.1, Sum.inl ps'[m].2.2] := fun m hm => by
      have e1 : (arrOf st')[m]? = some (Value.ref ps'[m].1, Value.ref ps'[m].1) := by
        rw [← Array.getElem?_toList, ← hmap, List.getElem?_map, List.getElem?_eq_getElem hm]
        rfl
      unfold KK
      rw [e1]
      show (G.tupKeyC s.heap shF (Value.ref ps'[m].1)).getD [] = _
      rw [(key ps'[m] (hpp.mem_iff.mp (List.getElem_mem hm))).2]
      rfl
    rw [kk i hi, kk j hj] at h1
    exact lex2 h1
end
open AutoSeq1 in
theorem extend_tup (l : Addr) (items : Array Value) (n : Nat) (b : Addr) (items2 : Array Value) (n2 : Nat) (dct : Option Addr) (sl : Array (Option Value)) (hs0 : ¬ (!items.isEmpty && Builtin.List.listTooLong (items.size + items2.size)) = true) (hs1 : items.size ≤ sizeLine) (hs2 : items.size + items2.size ≤ sizeLine + 1) :
    Meets (Builtin.«list.extend» ⟨[.ref l, .ref b], []⟩) (fun _ R s => s.heap.get? l = some { cls := .type "list", dict := none, data := .seq items n, slots := #[] } ∧ s.heap.get? b = some { cls := .type "tuple", dict := dct, data := .seq items2 n2, slots := sl } ∧
      R (.ok (.ret Value.none)) { s with heap := s.heap.update l (Obj.mapSeq fun x => x ++ items2), toks := s.toks }) :=
  .of_wp fun prog w A R s h => by
    obtain ⟨hp, g, d, tk, os⟩ := s
    obtain ⟨hl, hb, h⟩ := h
    have f2 := AutoSeq1.sub_tuple_tuple
    have f3 := AutoSeq1.sub_list_list
    have f4 := AutoSeq1.sub_tuple_list
    have f5 := AutoSeq1.sub_list_tuple
    have hz' : (items ++ items2).size ≤ sizeLine + 1 := by rw [Array.size_append]; exact hs2
    wp_walk using (wpAny_updateSeq hl rfl (hz := hs1) (_hz' := hz')), wpAny_loadPart' hl, wpAny_loadPart' hb
    exact ⟨_, rfl, h⟩
section
variable {X : Cx}
def rExtendT (K : PySem.W.Frag) : V → List V → Hp → VK → Prop := fun x vs H Q => ∃ l b xs zs, x = .ref l ∧ vs = [.ref b] ∧ H l = some (.lst xs) ∧ SqT K H b zs ∧ xs.length + zs.length ≤ sizeLine ∧ Q .non (upd H l (.lst (xs ++ zs)))
theorem mt_extendT : MtM X "list.extend" (rExtendT X.K) := by
  intro pins s σ H x vs v us Q I rx rv h
  obtain ⟨l, b, xs, zs, rfl, rfl, hH, hB, hz, q⟩ := h
  cases rx
  obtain ⟨u, rfl, ru⟩ := rv.one
  cases ru
  obtain ⟨z, its, n, r, hl, e⟩ := I.lstM hH
  obtain ⟨its2, r2, ⟨⟨c2, dct, dt, sl⟩, e2, hc2, n2, hd2⟩, z2⟩ := I.tuple hB
  replace hc2 : c2 = .type "tuple" := hc2
  replace hd2 : dt = .seq its2.toArray n2 := hd2
  subst hc2 hd2
  have hl2 := r2.length
  have hsz : its.toArray.size + its2.toArray.size ≤ sizeLine := by rw [List.size_toArray, List.size_toArray]; omega
  have hlong : ¬ (!its.toArray.isEmpty && Builtin.List.listTooLong (its.toArray.size + its2.toArray.size)) = true := by
    rw [notLongL hsz, Bool.and_false]
    exact Bool.false_ne_true
  refine call_meets PySem.F.slot_list_extend ⟨_, e, rfl⟩ PySem.F.entry_list_extend (PySem.F.args_list_extend_2 _ _) (extend_tup l its.toArray n b its2.toArray n2 dct sl hlong (by rw [List.size_toArray]; omega) (by omega)) ⟨e, e2, ?_⟩
  refine ⟨.non, _, I.lset (its' := its ++ its2) hH e (by simp) (r.append r2) ?_, rfl, q⟩
  rw [List.length_append]
  omega
def rGetL (K : PySem.W.Frag) : V → V → Hp → VK → Prop := fun x y H Q => ∃ p xs j v, x = .ref p ∧ y = .int ((j : Nat) : Int) ∧ SqL K H p xs ∧ xs[j]? = some v ∧ Q v H
theorem get_list : PGet X (rGetL X.K) := by
  intro pins s σ H o i ov iv Q I rx ry h
  obtain ⟨p, xs, j, z, rfl, rfl, hq, he, q⟩ := h
  cases rx
  obtain ⟨t, rfl⟩ := ry
  obtain ⟨its, r, pl, hz⟩ := I.list hq
  obtain ⟨w', ew, rw'⟩ := r.get he
  have hn := line63
  have hj := (List.getElem?_eq_some_iff.mp he).1
  exact wpAny_getItem_list pl.isList (Int.natCast_nonneg _) (by omega) (by simpa using ew) ⟨z, H, I, rw', q⟩
theorem len_raw {prog : Program} {w : World} {d : Addr} (hd : (d == sysModules) = false) :
    MeetsIn prog w (Builtin.«dict.__len__» ⟨[.ref d], []⟩) (fun _ R s => ∃ o es ep, s.heap.get? d = some o ∧ o.data = .dict es ep ∧ R (.ok (.ret (.int (es.size : Nat) s.toks))) { s with toks := s.toks + 1 }) :=
  .of_wp fun A R s ⟨o, es, ep, ho, hdat, h⟩ => by
    show wpAny _ _ (dictSize d >>= _) _ _ s
    unfold dictSize
    refine wpAny_bind (wpAny_bind (wpAny_dictEntries ho hdat (wpAny_pure ?_)))
    show wpAny _ _ (Builtin.Dict.pendingCount d >>= _) _ _ s
    refine wpAny_bind (wpAny_pendingCount_other hd ?_)
    refine wpAny_ret_mkInt ?_
    rw [Nat.add_zero]
    exact h
theorem dict_lenH {prog : Program} {w : World} {A : Around} {E : Value → Shared → Prop} {s : Shared} {d : Addr} {o : Obj} {es : Array DictEntry} {ep : Nat} {Q : Value → Shared → Prop} (hd : (d == sysModules) = false) (hT : s.TypeIs (.ref d) "dict") (ho : s.heap.get? d = some o) (hdat : o.data = .dict es ep) (hfit : (es.size : Int) < 2 ^ 63)
    (h : Q (.int (es.size : Nat) (s.toks + 1)) { s with toks := s.toks + 1 + 1 }) : wpAny (model prog w) A (call (.builtin "len") [.ref d]) Q E s := by
  refine Calls.call_function_entry kind_len plain_len entry_len (args_len1 _) ?_
  unfold Builtin.«len»
  refine wpAny_bind (m := oneArg "len" _) (wpAny_pure ?_)
  refine wpAny_bind (m := callSpecial? (.ref d) (Str.ofString "__len__")) (wpAny_callSpecial?_slot (name := Str.ofString "__len__") hT PySem.F.slot_dict_len (call_meetsIn PySem.F.slot_dict_len hT PySem.F.entry_dict_len (PySem.F.args_dict_len_1 _) (len_raw hd) ⟨o, es, ep, ho, hdat, ?_⟩))
  show wpAny _ _ _ _ _ { s with toks := s.toks + 1 }
  refine wpAny_bind (wpAny_holding (wpAny_pure ?_))
  refine wpAny_bind (wpAny_letGo ?_)
  show wpAny _ _ (if ((es.size : Nat) : Int) < 0 then _ else _) _ _ _
  rw [if_neg (by omega)]
  show wpAny _ _ (if ((es.size : Nat) : Int) ≥ 2 ^ 63 then _ else _) _ _ _
  rw [if_neg (by omega)]
  exact wpAny_bind (wpAny_mkInt (wpAny_pure ⟨_, rfl, h⟩))
theorem call_lenT : CallR X (.builtin "len") (fun xs H Q => ∃ a kvs, xs = [V.ref a] ∧ H a = some (.dT kvs) ∧ Q (.int kvs.length) H) := by
  intro pins s σ H xs us Q I r h
  obtain ⟨a, kvs, rfl, ha, q⟩ := h
  rw [Vals.ref1 r]
  obtain ⟨z, hd, ys, rel, dd⟩ := dt_of I.hok ha
  have hT := dd.typeIs (s := s)
  obtain ⟨o, es, ep, h1, h2, h3, h4, h5, h6⟩ := dd
  have hlen : es.size = kvs.length := by
    rw [← Array.length_toList, h4, List.length_map]
    exact (Paired.length rel).symm
  have hn := line63
  refine dict_lenH hd hT h1 h3 (by rw [hlen]; omega) ?_
  rw [hlen]
  exact ⟨.int kvs.length, H, I.tok _, ⟨_, rfl⟩, q⟩
theorem enum_endT {prog : Program} {w : World} {A : Around} {E : Value → Shared → Prop} {s : Shared} {e it t : Addr} {i : Nat} {items : Array Value} {old : Value} {Q : Option Value → Shared → Prop} (hh : A.handled = none) (he : IsEnum s.heap e it i old) (hit : s.heap.IsTupleIter it t i) (ht : s.heap.IsTuple t items) (hx : items[i]? = none)
    (hQ : ∀ h', Heap.ExtBut it s.heap h' → Q none { s with heap := h' }) : wpAny (model prog w) A (pyNext (.ref e)) Q E s := by
  have hT : s.TypeIs (.ref e) "enumerate" := ⟨_, he, rfl⟩
  unfold pyNext
  refine wpAny_bind (wpAny_attempt (wpAny_callSpecial?_slot (name := Str.ofString "__next__") hT PySem.F.slot_enumerate_next (wpAny_call_entry PySem.F.slot_enumerate_next hT PySem.F.entry_enumerate_next ?_ (PySem.F.args_enumerate_next_1 _))))
  show wpAny _ _ (field (.ref e) 2 >>= _) _ _ _
  refine wpAny_bind (wpAny_field he rfl (x := .ref it) rfl ?_)
  refine wpAny_bind (nextOf_tup_end hh hit ht hx fun h' x he' hx' => ?_)
  obtain ⟨o, ho, hc⟩ := hx'
  refine wpAny_bind (wpAny_isInstance (T := "StopIteration") (b := true) ⟨o, ho, hc⟩ isSubtype_stop ?_)
  exact wpAny_pure (hQ _ he')
def IteT (K : PySem.W.Frag) (a : Addr) : It :=
  ⟨fun i H => ∃ (xs : List V) (x : V), SqT K H a xs ∧ xs[i]? = some x, fun i H v H' => ∃ T x, v = .ref T ∧ H T = none ∧ H' = upd H T (.tup [.int (i : Nat), x]) ∧ ∀ xs, SqT K H a xs → xs[i]? = some x, fun i H => ∃ xs : List V, SqT K H a xs ∧ xs.length ≤ i⟩
theorem turn_enumT {P : Program} {w : World} {K : PySem.W.Frag} {elts : List Expr} {kk : Nat} {tpos : Pos} (a e it : Addr) (hta : a ≠ it) (hea : e ≠ a) :
    Turn P w K (.Tuple elts kk tpos) (IteT K a) [e, it] e (fun i h => (∃ old, IsEnum h e it ((i : Nat) : Int) old) ∧ h.IsTupleIter it a i ∧ e ≠ it) where
  mem := by simp
  obj := fun i h st b hb => by
    obtain ⟨⟨old, he⟩, ⟨o, ho, hc, hd⟩, _⟩ := st
    have e' : b = e ∨ b = it := by simpa using hb
    rcases e' with z | z
    · rw [z]; exact ⟨_, he, fun v q => nomatch q⟩
    · rw [z]; exact ⟨o, ho, fun v q => by rw [hd] at q; cases q⟩
  keep := fun i h h' st k => let ⟨⟨old, he⟩, hi, hne⟩ := st; ⟨⟨old, k e (by simp) _ he⟩, hi.at fun o q => k it (by simp) o q, hne⟩
  item := by
    intro X hP hw hK hc i pins s σ H E I hf st hg
    subst hP hw hK
    obtain ⟨⟨old, he⟩, hit, hne⟩ := st
    obtain ⟨xs, x, hq, hx⟩ := hg
    obtain ⟨its, rv, p, hz⟩ := I.tuple hq
    obtain ⟨u, hu, ru⟩ := rv.get hx
    have hel : e < s.heap.objs.size := Heap.lt_size he
    have hil : it < s.heap.objs.size := by obtain ⟨_, q, _⟩ := hit; exact Heap.lt_size q
    have D := drawsTup (prog := X.prog) (w := X.w) (A := X.A.in1) (show X.A.in1.handled = none from I.ok.hd hc) it a hta its.toArray
    have hlt : i < its.toArray.size := by
      have := (List.getElem?_eq_some_iff.mp hu).1
      simpa using this
    refine wpAny_pyNext_enum_itemD D he ⟨hit, p⟩ hlt hne (by simp [hne, hea]) fun x' h' tk hx' ho hst' hT hsz hk => ?_
    have ex : x' = u := by
      have q : its.toArray[i]? = some u := by simpa using hu
      rw [q] at hx'
      exact (Option.some.inj hx').symm
    subst ex
    refine ⟨_, rfl, wpAny_letOwnedTupleGo_enum (s := { s with heap := h', toks := tk + 1 }) ho fun h'' he' sb => ?_⟩
    have hT2 : h''.get? s.heap.objs.size = some { cls := .type "tuple", data := .seq #[.int i tk, x'] } := (sb.2 _ (Nat.ne_of_gt hel)).trans hT
    have new : ObjOk X.prog X.w (upd H s.heap.objs.size (.tup [.int (i : Nat), x])) h'' s.heap.objs.size (.tup [.int (i : Nat), x]) :=
      ⟨by show 2 ≤ sizeLine; decide, [.int i tk, x'], .cons ⟨_, rfl⟩ (.cons ru .nil), ⟨_, hT2, rfl, _, rfl⟩⟩
    have I1 : Inv X pins σ (upd H s.heap.objs.size (.tup [.int (i : Nat), x])) { s with heap := h'', toks := tk + 1 } :=
      I.turnedNew (ch := [e, it]) (fun b ob hb q => (sb.2 b (fun z => hb (by simp [z]))).trans (hk b ob (fun z => hb (by simp [z])) (fun z => hb (by simp [z])) q)) hf (Nat.le_refl _) new
    refine ⟨.ref s.heap.objs.size, _, I1, rfl, ⟨_, x, rfl, I.hok.fresh (Nat.le_refl _), rfl, fun ys hy => by rw [I.tuple_inj hy hq]; exact hx⟩, ⟨⟨x', ?_⟩, hst'.1.at fun o q => (sb.2 it (Ne.symm hne)).trans q, hne⟩, fun b hb => ?_⟩
    · have e1 : ((i + 1 : Nat) : Int) = (i : Int) + 1 := by omega
      rw [e1]; exact he'
    · have hb' : b < s.heap.objs.size := by
        have e' : b = e ∨ b = it := by simpa using hb
        rcases e' with z | z
        · rw [z]; exact hel
        · rw [z]; exact hil
      rw [upd_ne (Nat.ne_of_lt hb')]
      exact (hf b hb).1
  done := by
    intro X hP hw hK hc i pins s σ H E I hf st hg
    subst hP hw hK
    obtain ⟨⟨old, he⟩, hit, hne⟩ := st
    obtain ⟨xs, hq, hx⟩ := hg
    obtain ⟨its, rv, p, hz⟩ := I.tuple hq
    obtain ⟨f0, f1, f2, f3, f4, f5⟩ := hf it (by simp)
    have hl := rv.length
    exact enum_endT (I.ok.hd hc) he hit p (by simp; omega) fun h' eb => ⟨rfl, I.turned (t' := s.toks) (fun b o hb q => eb b o hb q) f0 f1 f3 f4 f5⟩
  self := fun A i s Q E st h => let ⟨⟨_, he⟩, _⟩ := st; wpAny_pyIter_enum he h
def iEnumT (K : PySem.W.Frag) (ta : TA) : TI := fun σ H R => ta σ H fun vs H1 => ∃ a xs, vs = [.ref a] ∧ SqT K H1 a xs ∧ R (IteT K a) H1
theorem pi_enumT {e : Expr} {ta : TA} {p pos tpos : Pos} {elts : List Expr} {kk : Nat} (hg : Gl X "enumerate") (hm : X.mg "enumerate" = none) (ha : PA X [e] ta) (hs : starEach [e] X.env = [(false, eval e X.env)] := by rfl) :
    PI X (.Tuple elts kk tpos) (.Call (.Name "enumerate" p) [e] [] pos) (iEnumT X.K ta) := by
  intro pins s σ H R I h
  refine Call_ (ld_blt I hg hm boot_enumerate (PyProof.Rows.callWith_type1 (thn (ha pos pins s σ H _ I h) fun us s1 ⟨vs, H1, I1, r1, q1⟩ => ?_) hs rfl))
  obtain ⟨a, xs, ex, hq, q⟩ := q1
  subst ex
  rw [Vals.ref1 r1]
  obtain ⟨its, rv, p', hz⟩ := I1.tuple hq
  have hal : a < s1.heap.objs.size := p'.lt
  refine call_enumT p' fun h' he hit hsz hk => wpAny_pyIter_enum he ?_
  have I2 : Inv X pins σ H1 { s1 with heap := h' } := I1.kept (t' := s1.toks) hk
  refine ⟨s1.heap.objs.size + 1, [s1.heap.objs.size + 1, s1.heap.objs.size], _, _, H1, rfl, I2, turn_enumT a (s1.heap.objs.size + 1) s1.heap.objs.size (Nat.ne_of_lt hal) (Nat.ne_of_gt (Nat.lt_succ_of_lt hal)), ⟨⟨.none, he⟩, hit, Nat.succ_ne_self _⟩, fun b hb => ?_, q⟩
  have e' : b = s1.heap.objs.size + 1 ∨ b = s1.heap.objs.size := by simpa using hb
  have hle : s1.heap.objs.size ≤ b := by
    rcases e' with z | z
    · rw [z]; exact Nat.le_add_right _ _
    · rw [z]; exact Nat.le_refl _
  exact I1.fpOk hle (I1.hok.fresh hle)
end
theorem for_it {J : It} {n : Nat} {g : TG} {tb : TS} {D : Ends} {σ : L2.St} {H : Hp} (Pv : Nat → L2.St → Hp → Prop) (h0 : Pv 0 σ H) (hgo : ∀ i σ H, i < n → Pv i σ H → J.go i H) (hst : ∀ σ H, Pv n σ H → J.stop n H)
    (hs : ∀ i σ H x H', i < n → Pv i σ H → J.yld i H x H' → g x σ H' fun σ2 H2 => tb { D with nx := Pv (i + 1), ct := Pv (i + 1), bk := D.nx } σ2 H2) (hd : ∀ σ H, Pv n σ H → D.nx σ H) :
    ∃ W : Nat → Nat → L2.St → Hp → Prop, (∃ m, W 0 m σ H) ∧ ∀ i m σ H, W i m σ H → (J.stop i H ∧ D.nx σ H) ∨ (J.go i H ∧ ∃ N : L2.St → Hp → Prop, (∀ σ' H', N σ' H' → ∃ m', m' < m ∧ W (i + 1) m' σ' H') ∧ ∀ x H', J.yld i H x H' → g x σ H' fun σ2 H2 => tb { D with nx := N, ct := N, bk := D.nx } σ2 H2) := by
  refine ⟨fun i m σ H => Pv i σ H ∧ i ≤ n ∧ m = n - i, ⟨n, h0, Nat.zero_le _, rfl⟩, fun i m σ H ⟨hP, hi, hm⟩ => ?_⟩
  by_cases h : i = n
  · subst h
    exact .inl ⟨hst σ H hP, hd σ H hP⟩
  · have hlt : i < n := by omega
    exact .inr ⟨hgo i σ H hlt hP, Pv (i + 1), fun σ' H' q => ⟨n - (i + 1), by omega, q, hlt, rfl⟩, fun x H' y => hs i σ H x H' hlt hP y⟩
theorem lc_it {J : It} {n : Nat} {g : TG} {tt : TT} {te : TE} {vs : List Nat} {σ : L2.St} {H1 : Hp} {D : Addr} {Qd : Hp → Prop} (Pv : Nat → Hp → Prop) (h0 : Pv 0 (upd H1 D (.lst []))) (hgo : ∀ i H, i < n → Pv i H → J.go i H) (hst : ∀ H, Pv n H → J.stop n H)
    (hs : ∀ i H x H', i < n → Pv i H → J.yld i H x H' → g x (wipe σ vs) H' fun σ2 H2 => wipe σ2 vs = wipe σ vs ∧ tt σ2 H2 fun b H3 => if b = true then te σ2 H3 fun y H4 => ∃ acc, H4 D = some (.lst acc) ∧ acc.length < sizeLine ∧ Pv (i + 1) (upd H4 D (.lst (acc ++ [y]))) else Pv (i + 1) H3) (hd : ∀ H, Pv n H → Qd H) :
    ∃ W : Nat → Nat → Hp → Prop, (∃ m, W 0 m (upd H1 D (.lst []))) ∧ ∀ i m H, W i m H → (J.stop i H ∧ Qd H) ∨ (J.go i H ∧ ∃ Nx : Hp → Prop, (∀ H', Nx H' → ∃ m', m' < m ∧ W (i + 1) m' H') ∧ ∀ x H', J.yld i H x H' → g x (wipe σ vs) H' fun σ2 H2 => wipe σ2 vs = wipe σ vs ∧ tt σ2 H2 fun b H3 =>
      if b = true then te σ2 H3 fun y H4 => ∃ acc, H4 D = some (.lst acc) ∧ acc.length < sizeLine ∧ Nx (upd H4 D (.lst (acc ++ [y]))) else Nx H3) := by
  refine ⟨fun i m H => Pv i H ∧ i ≤ n ∧ m = n - i, ⟨n, h0, Nat.zero_le _, rfl⟩, fun i m H ⟨hP, hi, hm⟩ => ?_⟩
  by_cases h : i = n
  · subst h
    exact .inl ⟨hst H hP, hd H hP⟩
  · have hlt : i < n := by omega
    exact .inr ⟨hgo i H hlt hP, Pv (i + 1), fun H' q => ⟨n - (i + 1), by omega, q, hlt, rfl⟩, fun x H' y => hs i H x H' hlt hP y⟩
def top (i : Nat) : Stmt := PySem.Challenge.pw_supplierdays_s01_answers.main.body.getD i (.Pass ⟨0, 0, 0, 0⟩)
structure FnT (K : PySem.W.Frag) (mg : Str → Option Value) (name : Str) (st : Stmt) (ps : List Str) (f : Addr × FuncData) : Prop where
  F : Fun K name name st f.1 f.2
  g : mg name = some (.ref f.1)
  b : Binds K f.2 ps []
structure ClT (K : PySem.W.Frag) (mg : Str → Option Value) (name qual : Str) (st : Stmt) (ps : List Str) (C : Addr) (f : Addr × FuncData) (fields : List Str) : Prop where
  cl : Cls K C
  nf : ∀ (i : Nat) (x : Str), fields[i]? = some x → NoAttr K C x
  g : mg name = some (.ref C)
  M : Mk K C f.1
  F : Fun K "__init__" qual st f.1 f.2
  b : Binds K f.2 ps []
def CoT (mg : Str → Option Value) (x : Str) (n : Int) : Prop := ∃ t, mg x = some (.int n t)
theorem pe_co {X : Cx} {mg : Str → Option Value} {x : Str} {n : Int} {pos : Pos} (h : CoT mg x n) (hg : Gl X x := by rfl) (hm : X.mg = mg := by rfl) (hd : (x == ("__debug__" : Str)) = false := by decide) : PE X (.Name x pos) (tC (.int n)) := by
  obtain ⟨t, e⟩ := h
  subst hm
  exact pe_glob (v := V.int n) hg e ⟨t, rfl⟩ hd
abbrev s_qaa : Stmt := inClass (top 21) 0
theorem sc_qaa : FnScope ["self", "point", "supplier", "start", "old", "deadline"] ["self", "point", "supplier", "start", "old", "deadline"] (defScope s_qaa) := ⟨rfl, rfl, rfl, by decide +kernel, rfl, by decide +kernel, by decide +kernel⟩
abbrev s_qab : Stmt := inClass (top 22) 0
theorem sc_qab : FnScope ["self", "point", "first", "last", "supplier", "known_from"] ["self", "point", "first", "last", "supplier", "known_from"] (defScope s_qab) := ⟨rfl, rfl, rfl, by decide +kernel, rfl, by decide +kernel, by decide +kernel⟩
abbrev s_qac : Stmt := inClass (top 23) 0
theorem sc_qac : FnScope ["self", "point", "day", "amount", "told_on"] ["self", "point", "day", "amount", "told_on"] (defScope s_qac) := ⟨rfl, rfl, rfl, by decide +kernel, rfl, by decide +kernel, by decide +kernel⟩
abbrev s_qad : Stmt := inClass (top 24) 0
theorem sc_qad : FnScope ["self"] ["self"] (defScope s_qad) := ⟨rfl, rfl, rfl, by decide +kernel, rfl, by decide +kernel, by decide +kernel⟩
abbrev s_qae : Stmt := top 2
theorem sc_qae : FnScope ["holidays", "day"] ["holidays", "day"] (defScope s_qae) := ⟨rfl, rfl, rfl, by decide +kernel, rfl, by decide +kernel, by decide +kernel⟩
abbrev s_qaf : Stmt := top 3
theorem sc_qaf : FnScope ["holidays", "day", "n", "found", "left"] ["holidays", "day", "n"] (defScope s_qaf) := ⟨rfl, rfl, rfl, by decide +kernel, rfl, by decide +kernel, by decide +kernel⟩
abbrev s_qag : Stmt := top 4
theorem sc_qag : FnScope ["day", "days"] ["day"] (defScope s_qag) := ⟨rfl, rfl, rfl, by decide +kernel, rfl, by decide +kernel, by decide +kernel⟩
abbrev s_qah : Stmt := top 5
theorem sc_qah : FnScope ["holidays", "after", "until", "weekdays", "taken", "day"] ["holidays", "after", "until"] (defScope s_qah) := ⟨rfl, rfl, rfl, by decide +kernel, rfl, by decide +kernel, by decide +kernel⟩
abbrev s_qai : Stmt := top 7
theorem sc_qai : FnScope ["house", "day", "n"] ["house", "day", "n"] (defScope s_qai) := ⟨rfl, rfl, rfl, by decide +kernel, rfl, by decide +kernel, by decide +kernel⟩
abbrev s_qaj : Stmt := top 8
theorem sc_qaj : FnScope ["house", "after", "until"] ["house", "after", "until"] (defScope s_qaj) := ⟨rfl, rfl, rfl, by decide +kernel, rfl, by decide +kernel, by decide +kernel⟩
abbrev s_qak : Stmt := top 26
theorem sc_qak : FnScope ["house", "point"] ["house", "point"] (defScope s_qak) := ⟨rfl, rfl, rfl, by decide +kernel, rfl, by decide +kernel, by decide +kernel⟩
abbrev s_qal : Stmt := top 27
theorem sc_qal : FnScope ["house", "supplier"] ["house", "supplier"] (defScope s_qal) := ⟨rfl, rfl, rfl, by decide +kernel, rfl, by decide +kernel, by decide +kernel⟩
abbrev s_qam : Stmt := top 28
theorem sc_qam : FnScope ["house", "supplier"] ["house", "supplier"] (defScope s_qam) := ⟨rfl, rfl, rfl, by decide +kernel, rfl, by decide +kernel, by decide +kernel⟩
abbrev s_qan : Stmt := top 29
theorem sc_qan : FnScope ["house", "request"] ["house"] (defScope s_qan) := ⟨rfl, rfl, rfl, by decide +kernel, rfl, by decide +kernel, by decide +kernel⟩
abbrev s_qao : Stmt := top 30
theorem sc_qao : FnScope ["house", "new_facts", "waiting"] ["house", "new_facts", "waiting"] (defScope s_qao) := ⟨rfl, rfl, rfl, by decide +kernel, rfl, by decide +kernel, by decide +kernel⟩
abbrev s_qap : Stmt := top 31
theorem sc_qap : FnScope ["house", "point", "known_at", "fact"] ["house", "point", "known_at"] (defScope s_qap) := ⟨rfl, rfl, rfl, by decide +kernel, rfl, by decide +kernel, by decide +kernel⟩
abbrev s_qaq : Stmt := top 32
theorem sc_qaq : FnScope ["facts", "basic", "day", "supplier", "fact"] ["facts", "basic", "day"] (defScope s_qaq) := ⟨rfl, rfl, rfl, by decide +kernel, rfl, by decide +kernel, by decide +kernel⟩
abbrev s_qar : Stmt := top 33
theorem sc_qar : FnScope ["house", "point", "day", "known_at"] ["house", "point", "day", "known_at"] (defScope s_qar) := ⟨rfl, rfl, rfl, by decide +kernel, rfl, by decide +kernel, by decide +kernel⟩
abbrev s_qas : Stmt := top 34
theorem sc_qas : FnScope ["facts", "days", "fact"] ["facts"] (defScope s_qas) := ⟨rfl, rfl, rfl, by decide +kernel, rfl, by decide +kernel, by decide +kernel⟩
abbrev s_qat : Stmt := top 35
theorem sc_qat : FnScope ["house", "point", "known_at", "facts", "starts", "before", "day", "supplier"] ["house", "point", "known_at"] (defScope s_qat) := ⟨rfl, rfl, rfl, by decide +kernel, rfl, by decide +kernel, by decide +kernel⟩
abbrev s_qau : Stmt := top 36
theorem sc_qau : FnScope ["house", "point", "day", "known_at", "start"] ["house", "point", "day", "known_at"] (defScope s_qau) := ⟨rfl, rfl, rfl, by decide +kernel, rfl, by decide +kernel, by decide +kernel⟩
abbrev s_qav : Stmt := top 37
theorem sc_qav : FnScope ["house", "point", "known_at", "other_known_at", "facts", "others", "stretches", "first", "day", "is_other"] ["house", "point", "known_at", "other_known_at"] (defScope s_qav) := ⟨rfl, rfl, rfl, by decide +kernel, rfl, by decide +kernel, by decide +kernel⟩
abbrev s_qaw : Stmt := top 38
theorem sc_qaw : FnScope ["house", "known_at", "amounts", "volume"] ["house", "known_at"] (defScope s_qaw) := ⟨rfl, rfl, rfl, by decide +kernel, rfl, by decide +kernel, by decide +kernel⟩
abbrev s_qax : Stmt := top 39
theorem sc_qax : FnScope ["house", "first", "last", "known_at", "amounts", "totals", "key", "day"] ["house", "first", "last", "known_at"] (defScope s_qax) := ⟨rfl, rfl, rfl, by decide +kernel, rfl, by decide +kernel, by decide +kernel⟩
abbrev s_qay : Stmt := top 40
theorem sc_qay : FnScope ["house", "supplier", "first", "last", "known_at"] ["house", "supplier", "first", "last", "known_at"] (defScope s_qay) := ⟨rfl, rfl, rfl, by decide +kernel, rfl, by decide +kernel, by decide +kernel⟩
abbrev s_qaz : Stmt := top 42
theorem sc_qaz : FnScope ["house", "point", "day", "today", "last"] ["house", "point", "day"] (defScope s_qaz) := ⟨rfl, rfl, rfl, by decide +kernel, rfl, by decide +kernel, by decide +kernel⟩
abbrev s_qba : Stmt := top 43
theorem sc_qba : FnScope ["house", "point", "first", "last", "supplier", "today"] ["house", "point", "first", "last", "supplier"] (defScope s_qba) := ⟨rfl, rfl, rfl, by decide +kernel, rfl, by decide +kernel, by decide +kernel⟩
abbrev s_qbb : Stmt := top 44
theorem sc_qbb : FnScope ["house", "point", "supplier", "today", "new_facts", "starts", "index", "start", "last"] ["house", "point", "supplier"] (defScope s_qbb) := ⟨rfl, rfl, rfl, by decide +kernel, rfl, by decide +kernel, by decide +kernel⟩
abbrev s_qbc : Stmt := top 45
theorem sc_qbc : FnScope ["house", "supplier", "waiting", "dropped", "new_facts", "point", "request"] ["house", "supplier"] (defScope s_qbc) := ⟨rfl, rfl, rfl, by decide +kernel, rfl, by decide +kernel, by decide +kernel⟩
abbrev s_qbd : Stmt := top 47
theorem sc_qbd : FnScope ["house", "basic", "suppliers", "objection_time", "notice"] ["house", "basic", "suppliers", "objection_time", "notice"] (defScope s_qbd) := ⟨rfl, rfl, rfl, by decide +kernel, rfl, by decide +kernel, by decide +kernel⟩
abbrev s_qbe : Stmt := top 48
theorem sc_qbe : FnScope ["house", "day"] ["house", "day"] (defScope s_qbe) := ⟨rfl, rfl, rfl, by decide +kernel, rfl, by decide +kernel, by decide +kernel⟩
abbrev s_qbf : Stmt := top 49
theorem sc_qbf : FnScope ["house"] ["house"] (defScope s_qbf) := ⟨rfl, rfl, rfl, by decide +kernel, rfl, by decide +kernel, by decide +kernel⟩
abbrev s_qbg : Stmt := top 50
theorem sc_qbg : FnScope ["house", "answer", "supplier"] ["house"] (defScope s_qbg) := ⟨rfl, rfl, rfl, by decide +kernel, rfl, by decide +kernel, by decide +kernel⟩
abbrev s_qbh : Stmt := top 55
theorem sc_qbh : FnScope ["call"] ["call"] (defScope s_qbh) := ⟨rfl, rfl, rfl, by decide +kernel, rfl, by decide +kernel, by decide +kernel⟩
abbrev s_qbi : Stmt := top 56
theorem sc_qbi : FnScope ["call", "given", "index", "kind"] ["call", "given"] (defScope s_qbi) := ⟨rfl, rfl, rfl, by decide +kernel, rfl, by decide +kernel, by decide +kernel⟩
abbrev s_qbj : Stmt := top 58
theorem sc_qbj : FnScope ["house", "point", "request"] ["house", "point"] (defScope s_qbj) := ⟨rfl, rfl, rfl, by decide +kernel, rfl, by decide +kernel, by decide +kernel⟩
abbrev s_qbk : Stmt := top 59
theorem sc_qbk : FnScope ["house", "start", "earliest"] ["house", "start"] (defScope s_qbk) := ⟨rfl, rfl, rfl, by decide +kernel, rfl, by decide +kernel, by decide +kernel⟩
abbrev s_qbl : Stmt := top 60
theorem sc_qbl : FnScope ["house"] ["house"] (defScope s_qbl) := ⟨rfl, rfl, rfl, by decide +kernel, rfl, by decide +kernel, by decide +kernel⟩
abbrev s_qbm : Stmt := top 61
theorem sc_qbm : FnScope ["house", "point", "supplier", "start", "old", "deadline"] ["house", "point", "supplier", "start"] (defScope s_qbm) := ⟨rfl, rfl, rfl, by decide +kernel, rfl, by decide +kernel, by decide +kernel⟩
abbrev s_qbn : Stmt := top 62
theorem sc_qbn : FnScope ["house", "number"] ["house", "number"] (defScope s_qbn) := ⟨rfl, rfl, rfl, by decide +kernel, rfl, by decide +kernel, by decide +kernel⟩
abbrev s_qbo : Stmt := top 63
theorem sc_qbo : FnScope ["house", "number", "supplier", "request"] ["house", "number", "supplier"] (defScope s_qbo) := ⟨rfl, rfl, rfl, by decide +kernel, rfl, by decide +kernel, by decide +kernel⟩
abbrev s_qbp : Stmt := top 64
theorem sc_qbp : FnScope ["house", "number"] ["house", "number"] (defScope s_qbp) := ⟨rfl, rfl, rfl, by decide +kernel, rfl, by decide +kernel, by decide +kernel⟩
abbrev s_qbq : Stmt := top 65
theorem sc_qbq : FnScope ["house", "day", "due", "index", "request"] ["house", "day"] (defScope s_qbq) := ⟨rfl, rfl, rfl, by decide +kernel, rfl, by decide +kernel, by decide +kernel⟩
abbrev s_qbr : Stmt := top 66
theorem sc_qbr : FnScope ["house", "request", "known_from", "last"] ["house", "request"] (defScope s_qbr) := ⟨rfl, rfl, rfl, by decide +kernel, rfl, by decide +kernel, by decide +kernel⟩
abbrev s_qbs : Stmt := top 67
theorem sc_qbs : FnScope ["house", "day", "due", "row"] ["house", "day"] (defScope s_qbs) := ⟨rfl, rfl, rfl, by decide +kernel, rfl, by decide +kernel, by decide +kernel⟩
abbrev s_qbt : Stmt := top 68
theorem sc_qbt : FnScope ["house", "number", "request"] ["house", "number"] (defScope s_qbt) := ⟨rfl, rfl, rfl, by decide +kernel, rfl, by decide +kernel, by decide +kernel⟩
abbrev s_qbu : Stmt := top 70
theorem sc_qbu : FnScope ["rows", "answer", "row"] ["rows"] (defScope s_qbu) := ⟨rfl, rfl, rfl, by decide +kernel, rfl, by decide +kernel, by decide +kernel⟩
abbrev s_qbv : Stmt := top 71
theorem sc_qbv : FnScope ["house", "point", "day", "known_at"] ["house", "point", "day", "known_at"] (defScope s_qbv) := ⟨rfl, rfl, rfl, by decide +kernel, rfl, by decide +kernel, by decide +kernel⟩
abbrev s_qbw : Stmt := top 72
theorem sc_qbw : FnScope ["house", "point", "known_at"] ["house", "point", "known_at"] (defScope s_qbw) := ⟨rfl, rfl, rfl, by decide +kernel, rfl, by decide +kernel, by decide +kernel⟩
abbrev s_qbx : Stmt := top 73
theorem sc_qbx : FnScope ["house", "point", "known_at", "other_known_at"] ["house", "point", "known_at", "other_known_at"] (defScope s_qbx) := ⟨rfl, rfl, rfl, by decide +kernel, rfl, by decide +kernel, by decide +kernel⟩
abbrev s_qby : Stmt := top 74
theorem sc_qby : FnScope ["house", "supplier", "day", "known_at", "points", "point"] ["house", "supplier", "day", "known_at"] (defScope s_qby) := ⟨rfl, rfl, rfl, by decide +kernel, rfl, by decide +kernel, by decide +kernel⟩
abbrev s_qbz : Stmt := top 75
theorem sc_qbz : FnScope ["house", "point", "told", "fact"] ["house", "point"] (defScope s_qbz) := ⟨rfl, rfl, rfl, by decide +kernel, rfl, by decide +kernel, by decide +kernel⟩
abbrev s_qca : Stmt := top 77
theorem sc_qca : FnScope ["house", "point", "day", "amount"] ["house", "point", "day", "amount"] (defScope s_qca) := ⟨rfl, rfl, rfl, by decide +kernel, rfl, by decide +kernel, by decide +kernel⟩
abbrev s_qcb : Stmt := top 78
theorem sc_qcb : FnScope ["house", "supplier", "first", "last", "key", "billed_last"] ["house", "supplier", "first", "last"] (defScope s_qcb) := ⟨rfl, rfl, rfl, by decide +kernel, rfl, by decide +kernel, by decide +kernel⟩
abbrev s_qcc : Stmt := top 79
theorem sc_qcc : FnScope ["house", "supplier", "first", "last", "known_at"] ["house", "supplier", "first", "last", "known_at"] (defScope s_qcc) := ⟨rfl, rfl, rfl, by decide +kernel, rfl, by decide +kernel, by decide +kernel⟩
abbrev s_qcd : Stmt := top 80
theorem sc_qcd : FnScope ["house", "first", "last", "known_at", "totals"] ["house", "first", "last", "known_at"] (defScope s_qcd) := ⟨rfl, rfl, rfl, by decide +kernel, rfl, by decide +kernel, by decide +kernel⟩
abbrev s_qce : Stmt := top 83
theorem sc_qce : FnScope ["house", "call", "given"] ["house", "call", "given"] (defScope s_qce) := ⟨rfl, rfl, rfl, by decide +kernel, rfl, by decide +kernel, by decide +kernel⟩
abbrev s_qcf : Stmt := top 84
theorem sc_qcf : FnScope ["house", "call", "given"] ["house", "call", "given"] (defScope s_qcf) := ⟨rfl, rfl, rfl, by decide +kernel, rfl, by decide +kernel, by decide +kernel⟩
abbrev s_qcg : Stmt := top 85
theorem sc_qcg : FnScope ["house", "call", "given"] ["house", "call", "given"] (defScope s_qcg) := ⟨rfl, rfl, rfl, by decide +kernel, rfl, by decide +kernel, by decide +kernel⟩
abbrev s_qch : Stmt := top 86
theorem sc_qch : FnScope ["calls", "house", "answered", "place", "call", "behind", "answer"] ["calls"] (defScope s_qch) := ⟨rfl, rfl, rfl, by decide +kernel, rfl, by decide +kernel, by decide +kernel⟩
structure Adr where
  qaa : Addr
  qaa_i : Addr × FuncData
  qab : Addr
  qab_i : Addr × FuncData
  qac : Addr
  qac_i : Addr × FuncData
  qad : Addr
  qad_i : Addr × FuncData
  qae : Addr × FuncData
  qaf : Addr × FuncData
  qag : Addr × FuncData
  qah : Addr × FuncData
  qai : Addr × FuncData
  qaj : Addr × FuncData
  qak : Addr × FuncData
  qal : Addr × FuncData
  qam : Addr × FuncData
  qan : Addr × FuncData
  qao : Addr × FuncData
  qap : Addr × FuncData
  qaq : Addr × FuncData
  qar : Addr × FuncData
  qas : Addr × FuncData
  qat : Addr × FuncData
  qau : Addr × FuncData
  qav : Addr × FuncData
  qaw : Addr × FuncData
  qax : Addr × FuncData
  qay : Addr × FuncData
  qaz : Addr × FuncData
  qba : Addr × FuncData
  qbb : Addr × FuncData
  qbc : Addr × FuncData
  qbd : Addr × FuncData
  qbe : Addr × FuncData
  qbf : Addr × FuncData
  qbg : Addr × FuncData
  qbh : Addr × FuncData
  qbi : Addr × FuncData
  qbj : Addr × FuncData
  qbk : Addr × FuncData
  qbl : Addr × FuncData
  qbm : Addr × FuncData
  qbn : Addr × FuncData
  qbo : Addr × FuncData
  qbp : Addr × FuncData
  qbq : Addr × FuncData
  qbr : Addr × FuncData
  qbs : Addr × FuncData
  qbt : Addr × FuncData
  qbu : Addr × FuncData
  qbv : Addr × FuncData
  qbw : Addr × FuncData
  qbx : Addr × FuncData
  qby : Addr × FuncData
  qbz : Addr × FuncData
  qca : Addr × FuncData
  qcb : Addr × FuncData
  qcc : Addr × FuncData
  qcd : Addr × FuncData
  qce : Addr × FuncData
  qcf : Addr × FuncData
  qcg : Addr × FuncData
  qch : Addr × FuncData
structure Txt (K : PySem.W.Frag) (mg : Str → Option Value) (A : Adr) : Prop where
  qaa : ClT K mg "Request" "Request.__init__" s_qaa ["self", "point", "supplier", "start", "old", "deadline"] A.qaa A.qaa_i ["point", "supplier", "start", "old", "deadline", "standing"]
  qab : ClT K mg "Fact" "Fact.__init__" s_qab ["self", "point", "first", "last", "supplier", "known_from"] A.qab A.qab_i ["point", "first", "last", "supplier", "known_from"]
  qac : ClT K mg "Volume" "Volume.__init__" s_qac ["self", "point", "day", "amount", "told_on"] A.qac A.qac_i ["point", "day", "amount", "told_on"]
  qad : ClT K mg "House" "House.__init__" s_qad ["self"] A.qad A.qad_i ["opened", "basic", "suppliers", "objection_time", "notice", "today", "failed", "holidays", "points", "requests", "facts", "volumes", "bills"]
  qae : FnT K mg "is_free" s_qae ["holidays", "day"] A.qae
  qaf : FnT K mg "business_after" s_qaf ["holidays", "day", "n"] A.qaf
  qag : FnT K mg "weekdays_until" s_qag ["day"] A.qag
  qah : FnT K mg "business_between" s_qah ["holidays", "after", "until"] A.qah
  qai : FnT K mg "ask_business_after" s_qai ["house", "day", "n"] A.qai
  qaj : FnT K mg "ask_business_between" s_qaj ["house", "after", "until"] A.qaj
  qak : FnT K mg "lacks_point" s_qak ["house", "point"] A.qak
  qal : FnT K mg "lacks_supplier" s_qal ["house", "supplier"] A.qal
  qam : FnT K mg "lacks_working_supplier" s_qam ["house", "supplier"] A.qam
  qan : FnT K mg "waiting_requests" s_qan ["house"] A.qan
  qao : FnT K mg "too_many_facts" s_qao ["house", "new_facts", "waiting"] A.qao
  qap : FnT K mg "facts_known" s_qap ["house", "point", "known_at"] A.qap
  qaq : FnT K mg "supplier_by" s_qaq ["facts", "basic", "day"] A.qaq
  qar : FnT K mg "supplier_on" s_qar ["house", "point", "day", "known_at"] A.qar
  qas : FnT K mg "days_of_change" s_qas ["facts"] A.qas
  qat : FnT K mg "span_starts" s_qat ["house", "point", "known_at"] A.qat
  qau : FnT K mg "stretch_end" s_qau ["house", "point", "day", "known_at"] A.qau
  qav : FnT K mg "stretches_of_difference" s_qav ["house", "point", "known_at", "other_known_at"] A.qav
  qaw : FnT K mg "amounts_known" s_qaw ["house", "known_at"] A.qaw
  qax : FnT K mg "supplier_volumes" s_qax ["house", "first", "last", "known_at"] A.qax
  qay : FnT K mg "supplier_volume" s_qay ["house", "supplier", "first", "last", "known_at"] A.qay
  qaz : FnT K mg "vacate" s_qaz ["house", "point", "day"] A.qaz
  qba : FnT K mg "correct" s_qba ["house", "point", "first", "last", "supplier"] A.qba
  qbb : FnT K mg "replacing_facts" s_qbb ["house", "point", "supplier"] A.qbb
  qbc : FnT K mg "fail" s_qbc ["house", "supplier"] A.qbc
  qbd : FnT K mg "set_up" s_qbd ["house", "basic", "suppliers", "objection_time", "notice"] A.qbd
  qbe : FnT K mg "tell_holiday" s_qbe ["house", "day"] A.qbe
  qbf : FnT K mg "add_point" s_qbf ["house"] A.qbf
  qbg : FnT K mg "ask_state" s_qbg ["house"] A.qbg
  qbh : FnT K mg "argument_count" s_qbh ["call"] A.qbh
  qbi : FnT K mg "are_within_ranges" s_qbi ["call", "given"] A.qbi
  qbj : FnT K mg "is_point_waiting" s_qbj ["house", "point"] A.qbj
  qbk : FnT K mg "is_start_refused" s_qbk ["house", "start"] A.qbk
  qbl : FnT K mg "is_request_without_room" s_qbl ["house"] A.qbl
  qbm : FnT K mg "make_request" s_qbm ["house", "point", "supplier", "start"] A.qbm
  qbn : FnT K mg "lacks_waiting_request" s_qbn ["house", "number"] A.qbn
  qbo : FnT K mg "object_to" s_qbo ["house", "number", "supplier"] A.qbo
  qbp : FnT K mg "withdraw" s_qbp ["house", "number"] A.qbp
  qbq : FnT K mg "due_requests" s_qbq ["house", "day"] A.qbq
  qbr : FnT K mg "confirm" s_qbr ["house", "request"] A.qbr
  qbs : FnT K mg "go_to_day" s_qbs ["house", "day"] A.qbs
  qbt : FnT K mg "ask_request" s_qbt ["house", "number"] A.qbt
  qbu : FnT K mg "accepted_with_rows" s_qbu ["rows"] A.qbu
  qbv : FnT K mg "ask_who" s_qbv ["house", "point", "day", "known_at"] A.qbv
  qbw : FnT K mg "ask_history" s_qbw ["house", "point", "known_at"] A.qbw
  qbx : FnT K mg "ask_differs" s_qbx ["house", "point", "known_at", "other_known_at"] A.qbx
  qby : FnT K mg "ask_supplied" s_qby ["house", "supplier", "day", "known_at"] A.qby
  qbz : FnT K mg "ask_facts" s_qbz ["house", "point"] A.qbz
  qca : FnT K mg "tell_volume" s_qca ["house", "point", "day", "amount"] A.qca
  qcb : FnT K mg "bill" s_qcb ["house", "supplier", "first", "last"] A.qcb
  qcc : FnT K mg "ask_volume_of" s_qcc ["house", "supplier", "first", "last", "known_at"] A.qcc
  qcd : FnT K mg "ask_volumes" s_qcd ["house", "first", "last", "known_at"] A.qcd
  qce : FnT K mg "change" s_qce ["house", "call", "given"] A.qce
  qcf : FnT K mg "ask" s_qcf ["house", "call", "given"] A.qcf
  qcg : FnT K mg "answer_call" s_qcg ["house", "call", "given"] A.qcg
  qch : FnT K mg "answers" s_qch ["calls"] A.qch
  qci : CoT mg "LAST_DAY" 20000
  qcj : CoT mg "WAITING" 0
  qck : CoT mg "CONFIRMED" 1
  qcl : CoT mg "OBJECTED_TO" 2
  qcm : CoT mg "WITHDRAWN" 3
  qcn : CoT mg "DROPPED" 4
  qco : CoT mg "MOST_HOLIDAYS" 32
  qcp : CoT mg "MOST_POINTS" 16
  qcq : CoT mg "MOST_REQUESTS" 64
  qcr : CoT mg "MOST_FACTS" 256
  qcs : CoT mg "MOST_VOLUMES" 256
  qct : CoT mg "MOST_BILLS" 64
  qcu : CoT mg "LAST_CHANGING_CALL" 11
  b_len : mg "len" = none
  b_max : mg "max" = none
  b_min : mg "min" = none
  b_sum : mg "sum" = none
  b_sorted : mg "sorted" = none
  b_range : mg "range" = none
  b_enumerate : mg "enumerate" = none
theorem sz1 : 1 ≤ sizeLine := by decide
theorem sz2 : 2 ≤ sizeLine := by decide
theorem sz3 : 3 ≤ sizeLine := by decide
theorem sz4 : 4 ≤ sizeLine := by decide
theorem sz5 : 5 ≤ sizeLine := by decide
theorem sz7 : 7 ≤ sizeLine := by decide
theorem sz8 : 8 ≤ sizeLine := by decide
theorem pe_fl {X : Cx} {K : PySem.W.Frag} {mg : Str → Option Value} {A : Adr} (T : Txt K mg A) {e : Expr} {f : Str} {pos : Pos} {ta : TE} (he : PE X e ta) (hb : attributeBase e f X.env (eval e X.env) = eval e X.env := by rfl) (hK : X.K = K := by rfl) : PE X (.Attribute e f pos) (tFld K ta f) := by
  subst hK
  exact pe_fld he hb
def rf (q : Vbemax.Request) : List (Str × V) := [("point", .int q.point), ("supplier", .int q.supplier), ("start", .int q.start), ("old", .int q.old), ("deadline", .int q.deadline), ("standing", .int q.stage)]
def ff (f : Vbemax.Fact) : List (Str × V) := [("point", .int f.point), ("first", .int f.from_), ("last", .int f.to_), ("supplier", .int f.supplier), ("known_from", .int f.known)]
def vf (v : Vbemax.Volume) : List (Str × V) := [("point", .int v.point), ("day", .int v.day), ("amount", .int v.amount), ("told_on", .int v.known)]
structure Lay where
  dx : Addr
  f : Addr
  h : Addr
  r : Addr
  fa : Addr
  v : Addr
  b : Addr
  kh : List (Key × V)
  rs : List Addr
  fs : List Addr
  vs : List Addr
def hf (s : Vbemax.State) (L : Lay) : List (Str × V) := [("opened", .bl s.opened), ("basic", .int s.basic), ("suppliers", .int s.suppliers), ("objection_time", .int s.objection), ("notice", .int s.notice), ("today", .int s.today), ("failed", .ref L.f), ("holidays", .ref L.h), ("points", .int s.points), ("requests", .ref L.r), ("facts", .ref L.fa), ("volumes", .ref L.v), ("bills", .ref L.b)]
def RqAt (C : Addr) (H : Hp) (p : Addr) (q : Vbemax.Request) : Prop := ∃ dx, H p = some (.ins C dx (rf q))
def FcAt (C : Addr) (H : Hp) (p : Addr) (q : Vbemax.Fact) : Prop := ∃ dx, H p = some (.ins C dx (ff q))
def VlAt (C : Addr) (H : Hp) (p : Addr) (q : Vbemax.Volume) : Prop := ∃ dx, H p = some (.ins C dx (vf q))
def failKv (l : List Nat) : List (Key × V) := l.map fun x => (Sum.inl ((x : Nat) : Int), V.bl true)
def bKeyK (b : Vbemax.Bill) : List Key := [Sum.inl ((b.supplier : Nat) : Int), Sum.inl ((b.from_ : Nat) : Int), Sum.inl ((b.to_ : Nat) : Int)]
def billKv (l : List Vbemax.Bill) : List (List Key × V) := l.map fun b => (bKeyK b, V.int b.billed)
structure HolOk (kvs : List (Key × V)) (hol : List Nat) : Prop where
  nd : (kvs.map (·.1)).Nodup
  mem : ∀ d : Nat, (valV kvs (Sum.inl ((d : Nat) : Int))).isSome = hol.contains d
  nat : ∀ k ∈ kvs.map (·.1), ∃ d : Nat, k = Sum.inl ((d : Nat) : Int)
  len : kvs.length = hol.length
structure Small (s : Vbemax.State) : Prop where
  rq : s.requests.length ≤ 64
  fc : s.facts.length ≤ 600
  vl : s.volumes.length ≤ 256
  bl : s.bills.length ≤ 64
  hl : s.holidays.length ≤ 32
  pt : s.points ≤ 16
  sp : s.suppliers ≤ 8
  fl : s.failed.length ≤ 100
structure HA (A : Adr) (H : Hp) (a : Addr) (s : Vbemax.State) (L : Lay) : Prop where
  ho : H a = some (.ins A.qad L.dx (hf s L))
  fl : H L.f = some (.dK (failKv s.failed))
  hl : H L.h = some (.dK L.kh)
  hk : HolOk L.kh s.holidays
  rq : H L.r = some (.lst (L.rs.map V.ref))
  rqs : Paired (RqAt A.qaa H) L.rs s.requests
  fc : H L.fa = some (.lst (L.fs.map V.ref))
  fcs : Paired (FcAt A.qab H) L.fs s.facts
  vl : H L.v = some (.lst (L.vs.map V.ref))
  vls : Paired (VlAt A.qac H) L.vs s.volumes
  bl : H L.b = some (.dT (billKv s.bills))
  fh : L.f ≠ L.h
  rfa : L.r ≠ L.fa
  rv : L.r ≠ L.v
  fav : L.fa ≠ L.v
  rnd : L.rs.Nodup
  sm : Small s
theorem paired_same {α : Type} {R R' : Addr → α → Prop} (h : ∀ p q, R p q → R' p q) : ∀ {l : List Addr} {m : List α}, Paired R l m → Paired R' l m
  | _, _, .nil => .nil
  | _, _, .cons r t => .cons (h _ _ r) (paired_same h t)
theorem HA.same {A : Adr} {H H' : Hp} {a : Addr} {s : Vbemax.State} {L : Lay} (h : HA A H a s L) (e : Same H H') : HA A H' a s L :=
  ⟨e _ _ h.ho, e _ _ h.fl, e _ _ h.hl, h.hk, e _ _ h.rq, paired_same (fun _ _ ⟨d, q⟩ => ⟨d, e _ _ q⟩) h.rqs, e _ _ h.fc, paired_same (fun _ _ ⟨d, q⟩ => ⟨d, e _ _ q⟩) h.fcs, e _ _ h.vl, paired_same (fun _ _ ⟨d, q⟩ => ⟨d, e _ _ q⟩) h.vls, e _ _ h.bl, h.fh, h.rfa, h.rv, h.fav, h.rnd, h.sm⟩
theorem same_new {H : Hp} {p : Addr} {o : HO} (h : H p = none) : Same H (upd H p o) := fun b u e => by
  rw [upd_ne (ne_of_none e h)]
  exact e
theorem nint {a b : Nat} : (V.int ((a : Nat) : Int) = V.int ((b : Nat) : Int)) ↔ a = b := by
  constructor
  · intro h
    injection h with h
    omega
  · intro h
    rw [h]
section
variable {P : Program} {w : World} {K : PySem.W.Frag} {mg : Str → Option Value} {base : Heap} {A : Adr}
def sp_qae : Sp := fun vs H Q _ => ∃ (h : Addr) (d : Nat) (kvs : List (Key × V)) (hol : List Nat), vs = [.ref h, .int d] ∧ H h = some (.dK kvs) ∧ HolOk kvs hol ∧ Q (.bl (Vbemax.isFree hol d)) H
theorem ok_qae (T : Txt K mg A) : FnOk P w K mg base CX0 1 A.qae.1 A.qae.2 ["holidays", "day"] sp_qae := by
  refine T.qae.F.ok sc_qae (fun vs H Q E h => ?_) (fun cdv An outer s H vs Q E hr h => ?_)
  · obtain ⟨h, d, kvs, hol, rfl, _⟩ := h
    rfl
  · obtain ⟨h, d, kvs, hol, rfl, hh, hk, q⟩ := h
    have hu := hu_of hr
    refine ⟨_, (pss_one (ps_ret (pe_or (pe_cmpR op_ge (pe_op op_mod (pv 1) pe_int) pe_int (nomark _)) (pe_one (pe_cmp (pc_din hu (pv 1) (pv 0))))))), ?_⟩
    refine ⟨_, rfl, _, _, rfl, rfl, (by show (0 : Int) < 7; decide), _, _, rfl, rfl, _, rfl, ?_⟩
    have e7 : (5 : Int) ≤ (d : Int) % 7 ↔ 5 ≤ d % 7 := by omega
    refine ite2 (fun c => ?_) (fun c => ?_)
    · have c' : 5 ≤ d % 7 := e7.mp (of_decide_eq_true c)
      have e : Vbemax.isFree hol d = true := by
        unfold Vbemax.isFree
        rw [decide_eq_true c', Bool.true_or]
      rw [e] at q
      exact q
    · have c' : ¬ 5 ≤ d % 7 := fun z => c (decide_eq_true (e7.mpr z))
      refine ⟨_, rfl, _, rfl, h, _, rfl, DGet.k (k := Sum.inl (d : Int)) hh, ?_⟩
      have e : Vbemax.isFree hol d = (valV kvs (Sum.inl (d : Int))).isSome := by
        unfold Vbemax.isFree
        rw [decide_eq_false c', Bool.false_or, hk.mem]
      rw [e] at q
      exact q
def sp_qaf : Sp := fun vs H Q _ => ∃ (h : Addr) (d n : Nat) (kvs : List (Key × V)) (hol : List Nat), vs = [.ref h, .int d, .int n] ∧ H h = some (.dK kvs) ∧ HolOk kvs hol ∧ Q (.int (Vbemax.after_ hol d n : Nat)) H
theorem ok_qaf (T : Txt K mg A) : FnOk P w K mg base CX0 2 A.qaf.1 A.qaf.2 ["holidays", "day", "n"] sp_qaf := by
  refine T.qaf.F.ok sc_qaf (fun vs H Q E h => ?_) (fun cdv An outer s H vs Q E hr h => ?_)
  · obtain ⟨h, d, n, kvs, hol, rfl, _⟩ := h
    rfl
  · obtain ⟨h, d, n, kvs, hol, rfl, hh, hk, q⟩ := h
    have hu := hu_of hr
    have nd := sc_qaf.nd
    refine ⟨_, (pss_cons (ps_set (i := 3) nd rfl (Or.inl rfl) (pv 1))
      (pss_cons (ps_set (i := 4) nd rfl (Or.inl rfl) (pv 2))
      (pss_cons (ps_while PassesOwn.never (pt_cmpR op_gt (pv 4) pe_int (nomark _)) (pss_cons (ps_aug (i := 3) nd rfl (Or.inl rfl) pe_int ip_add)
      (pss_one (ps_if (pt_not (pt_val (pe_call (ok_qae T) (hr.mono (by decide)) rfl T.qae.g T.qae.F.kp T.qae.b .nil pass0 (pa_cons (pv 0) (pa_cons (pv 3) pa_nil))))) (pss_one (ps_aug (i := 4) nd rfl (Or.inl rfl) pe_int ip_sub)) pss_nil))))
      (pss_one (ps_ret (pv 3)))))), ?_⟩
    refine ⟨_, rfl, _, rfl, ?_⟩
    refine ⟨fun m σ H' => ∃ (d' n' : Nat), σ = [some (.ref h), some (.int d), some (.int n), some (.int d'), some (.int n')] ∧ H' = H ∧ Enough hol m d' n' ∧ Vbemax.behind hol m d' n' = Vbemax.after_ hol d n,
      ⟨_, d, n, rfl, rfl, enough_after hol d n, rfl⟩, ?_⟩
    rintro m σ H' ⟨d', n', rfl, rfl, hen, hb⟩
    refine ⟨_, rfl, _, _, rfl, rfl, _, rfl, ?_⟩
    refine ite2 (fun c => ?_) (fun c => ?_)
    · have hn : 0 < n' := by have := of_decide_eq_true c; omega
      obtain ⟨k', rfl, e1, e2⟩ := behind_step hn hen
      refine ⟨fun σ' H'' => ∃ (d' n' : Nat), σ' = [some (.ref h), some (.int d), some (.int n), some (.int d'), some (.int n')] ∧ H'' = H' ∧ Enough hol k' d' n' ∧ Vbemax.behind hol k' d' n' = Vbemax.after_ hol d n,
        fun σ' H'' z => ⟨k', Nat.lt_succ_self _, z⟩, ?_⟩
      refine ⟨_, rfl, _, _, rfl, rfl, ?_⟩
      refine ⟨_, rfl, _, rfl, h, d' + 1, kvs, hol, rfl, hh, hk, _, rfl, ?_⟩
      refine ite2 (fun c2 => ?_) (fun c2 => ?_)
      · have c3 : ¬ Vbemax.isFree hol (d' + 1) = true := by
          intro z
          rw [z] at c2
          cases c2
        rw [if_neg c3] at e1 e2
        refine ⟨_, rfl, _, _, rfl, rfl, d' + 1, n' - 1, ?_, rfl, e2, by rw [← e1]; exact hb⟩
        have : ((n' : Int) - 1) = ((n' - 1 : Nat) : Int) := by omega
        show [some (V.ref h), some (V.int d), some (V.int n), some (V.int ((d' : Int) + 1)), some (V.int ((n' : Int) - 1))] = _
        rw [this]
        rfl
      · have c3 : Vbemax.isFree hol (d' + 1) = true := by
          cases z : Vbemax.isFree hol (d' + 1) with
          | true => rfl
          | false => rw [z] at c2; exact absurd rfl c2
        rw [if_pos c3] at e1 e2
        exact ⟨d' + 1, n', rfl, rfl, e2, by rw [← e1]; exact hb⟩
    · have hn : n' = 0 := by
        have : ¬ (0 : Int) < n' := fun z => c (decide_eq_true z)
        omega
      subst hn
      rw [behind_zero] at hb
      refine ⟨_, rfl, ?_⟩
      rw [hb]
      exact q
def sp_qag : Sp := fun vs H Q _ => ∃ (d : Nat), vs = [.int d] ∧ Q (.int (wd d : Nat)) H
theorem ok_qag (T : Txt K mg A) : FnOk P w K mg base CX0 1 A.qag.1 A.qag.2 ["day"] sp_qag := by
  refine T.qag.F.ok sc_qag (fun vs H Q E h => ?_) (fun cdv An outer s H vs Q E hr h => ?_)
  · obtain ⟨d, rfl, _⟩ := h
    rfl
  · obtain ⟨d, rfl, q⟩ := h
    have nd := sc_qag.nd
    refine ⟨_, (pss_cons (ps_set (i := 1) nd rfl (Or.inl rfl) (pe_op op_add (pv 0) pe_int))
      (pss_one (ps_ret (pe_op op_add (pe_op op_mul (pe_op op_fdiv (pv 1) pe_int) pe_int) (pe_callB (call_min2 rfl) rfl T.b_min PyProof.Rows.boot_min (pa_cons (pe_op op_mod (pv 1) pe_int) (pa_cons pe_int pa_nil))))))), ?_⟩
    refine ⟨_, rfl, _, _, rfl, rfl, _, rfl, _, _, rfl, rfl, ⟨by decide, by decide⟩, _, _, rfl, rfl, .inr ⟨by decide, by decide⟩, _, rfl, _, _, rfl, rfl, (by show (0 : Int) < 7; decide), _, _, rfl, _, _, rfl, rfl, ?_⟩
    have e : ((d : Int) + 1) / 7 * 5 + (if (5 : Int) < ((d : Int) + 1) % 7 then 5 else ((d : Int) + 1) % 7) = ((wd d : Nat) : Int) := by
      unfold wd
      split <;> omega
    rw [← e] at q
    exact q
theorem holKeys {kvs : List (Key × V)} {hol : List Nat} (h : HolOk kvs hol) : ∃ ks : List Int, kvs.map (·.1) = ks.map Sum.inl ∧ ks.Nodup ∧ ∀ d : Nat, hol.contains d = true ↔ (d : Int) ∈ ks := by
  have ex : ∀ l : List Key, (∀ k ∈ l, ∃ d : Nat, k = Sum.inl ((d : Nat) : Int)) → ∃ ks : List Int, l = ks.map Sum.inl := by
    intro l
    induction l with
    | nil => intro _; exact ⟨[], rfl⟩
    | cons k l ih =>
      intro hk
      obtain ⟨d, e⟩ := hk k (List.mem_cons_self ..)
      obtain ⟨ks, e2⟩ := ih fun x hx => hk x (List.mem_cons_of_mem _ hx)
      exact ⟨(d : Int) :: ks, by rw [List.map_cons, ← e, ← e2]⟩
  obtain ⟨ks, e⟩ := ex _ h.nat
  refine ⟨ks, e, ?_, fun d => ?_⟩
  · have := h.nd
    rw [e] at this
    exact List.Pairwise.of_map Sum.inl (fun a b h e => h (by rw [e])) this
  · rw [← h.mem d]
    have q : (valV kvs (Sum.inl ((d : Nat) : Int))).isSome = true ↔ (Sum.inl ((d : Nat) : Int) : Key) ∈ kvs.map (·.1) := by
      cases z : valV kvs (Sum.inl ((d : Nat) : Int)) with
      | none => simp only [Option.isSome_none, Bool.false_eq_true, false_iff]; exact valV_not z
      | some v => simp only [Option.isSome_some, true_iff]; exact valV_in z
    rw [q, e, List.mem_map]
    constructor
    · rintro ⟨x, hx, ex⟩
      cases ex
      exact hx
    · intro hx
      exact ⟨_, hx, rfl⟩
def sp_qah : Sp := fun vs H Q _ => ∃ (h : Addr) (a b : Nat) (kvs : List (Key × V)) (hol : List Nat), vs = [.ref h, .int a, .int b] ∧ a ≤ b ∧ H h = some (.dK kvs) ∧ HolOk kvs hol ∧ kvs.length ≤ 1000 ∧ ∀ H', Same H H' → Q (.int (Vbemax.between hol a b : Nat)) H'
theorem ok_qah (T : Txt K mg A) : FnOk P w K mg base CX0 2 A.qah.1 A.qah.2 ["holidays", "after", "until"] sp_qah := by
  refine T.qah.F.ok sc_qah (fun vs H Q E h => ?_) (fun cdv An outer s H vs Q E hr h => ?_)
  · obtain ⟨h, a, b, kvs, hol, rfl, _⟩ := h
    rfl
  · obtain ⟨h, a, b, kvs, hol, rfl, hab, hh, hk, hlen, q⟩ := h
    have nd := sc_qah.nd
    have hu := hu_of hr
    obtain ⟨ks, ek, knd, hm⟩ := holKeys hk
    refine ⟨_, (pss_cons (ps_set (i := 3) nd rfl (Or.inl rfl) (pe_op op_sub (pe_call (ok_qag T) (hr.mono (by decide)) rfl T.qag.g T.qag.F.kp T.qag.b .nil pass0 (pa_cons (pv 2) pa_nil)) (pe_call (ok_qag T) (hr.mono (by decide)) rfl T.qag.g T.qag.F.kp T.qag.b .nil pass0 (pa_cons (pv 1) pa_nil))))
      (pss_cons (ps_lock (ps_setLc (i := 4) rfl nd rfl rfl (sw_true rfl rfl rfl rfl) (pi_keys (pv 0)) (blkOk_by (own := [("day", 5)]) rfl) (fun _ _ _ _ _ => (pg_name (i := 5) nd rfl (Or.inl rfl))) (fun _ _ _ _ _ => pts_one ((pw_and (pt_cmpR op_lt (pv 1) (pv 5) (nomark _)) (pw_and (pt_cmpR op_le (pv 5) (pv 2) (nomark _)) (pw_and1 (pt_cmpR op_lt (pe_op op_mod (pv 5) pe_int) pe_int (nomark _)))))).pt) (fun _ _ _ _ _ => (pv 5))))
      (pss_one (ps_ret (pe_op op_sub (pv 3) (pe_callB call_len_seq rfl T.b_len PySem.boot_len (pa_cons (pv 4) pa_nil))))))), ?_⟩
    refine ⟨_, rfl, b, rfl, _, rfl, a, rfl, _, _, rfl, rfl, ?_⟩
    refine ⟨h, _, hh, trivial, fun od => ?_⟩
    refine ⟨_, rfl, h, od, rfl, .inl ⟨kvs, upd_same, fun D hD => ?_⟩⟩
    have hDh : D ≠ h := fun z => by rw [z, upd_same] at hD; cases hD
    have hlk : ks.length = kvs.length := by
      have := congrArg List.length ek
      rw [List.length_map, List.length_map] at this
      exact this.symm
    refine lc_it (n := kvs.length) (fun i H' => ∃ acc, H' = upd (upd H h (.frz od (.dK kvs))) D (.lst acc) ∧ acc.length = ((ks.take i).filter (inW a b)).length) ⟨[], rfl, rfl⟩ ?_ ?_ ?_ ?_
    · rintro i H' hi ⟨acc, rfl, _⟩
      exact ⟨by rw [upd_ne (Ne.symm hDh), upd_same], hi⟩
    · rintro H' ⟨acc, rfl, _⟩
      exact ⟨by rw [upd_ne (Ne.symm hDh), upd_same], Nat.le_refl _⟩
    · rintro i H' x H'' hi ⟨acc, rfl, hacc⟩ ⟨rfl, k, v, hkv, rfl⟩
      have e1 : (kvs.map (·.1))[i]? = some k := by rw [List.getElem?_map, hkv]; rfl
      rw [ek, List.getElem?_map] at e1
      obtain ⟨n, en, ekn⟩ := Option.map_eq_some_iff.mp e1
      subst ekn
      have hal : acc.length < sizeLine := by
        rw [hacc]
        refine Nat.lt_of_le_of_lt (List.length_filter_le _ _) ?_
        rw [List.length_take]
        exact small1000 (by omega)
      have st : ((ks.take (i + 1)).filter (inW a b)) = ((ks.take i).filter (inW a b)) ++ (if inW a b n = true then [n] else []) := by
        rw [take_more en, List.filter_append, List.filter_cons]
        rfl
      refine ⟨rfl, ?_⟩
      refine ⟨_, rfl, _, rfl, _, _, rfl, rfl, _, rfl, ?_⟩
      refine ite2 (fun c1 => ?_) (fun c1 => ?_)
      · refine ⟨_, rfl, _, rfl, _, _, rfl, rfl, _, rfl, ?_⟩
        refine ite2 (fun c2 => ?_) (fun c2 => ?_)
        · refine ⟨_, rfl, _, _, rfl, rfl, (by show (0 : Int) < 7; decide), _, _, rfl, rfl, _, rfl, ?_⟩
          refine ite2 (fun c3 => ?_) (fun c3 => ?_)
          · refine ⟨_, rfl, acc, upd_same, hal, acc ++ [.int n], ?_, ?_⟩
            · funext z
              unfold upd
              split <;> rfl
            · have e2 : inW a b n = true := by
                simp only [inW, c1, c2, c3, Bool.and_true]
              rw [st, if_pos e2, List.length_append, List.length_append, hacc]
              rfl
          · refine ⟨acc, rfl, ?_⟩
            have e2 : ¬ inW a b n = true := by
              simp only [inW, c3, Bool.and_false]
              simp
            rw [st, if_neg e2, List.append_nil, hacc]
        · refine iteF ⟨acc, rfl, ?_⟩
          have e2 : ¬ inW a b n = true := by
            simp only [inW, c2, Bool.and_false, Bool.false_and]
            simp
          rw [st, if_neg e2, List.append_nil, hacc]
      · refine iteF ⟨acc, rfl, ?_⟩
        have e2 : ¬ inW a b n = true := by
          simp only [inW, c1, Bool.false_and]
          simp
        rw [st, if_neg e2, List.append_nil, hacc]
    · rintro H' ⟨acc, rfl, hacc⟩
      refine ⟨by rw [upd_ne (Ne.symm hDh), upd_same], ?_⟩
      refine ⟨_, rfl, _, rfl, D, acc, rfl, .inl (SqL.of (by rw [upd_ne hDh, upd_same])), _, _, rfl, rfl, ?_⟩
      have e3 := between_eq knd hm a (b - a)
      rw [show a + (b - a) = b by omega] at e3
      have e4 : acc.length = cntW a b ks := by
        rw [hacc, ← hlk, List.take_length]
        rfl
      have e5 : ((wd b : Nat) : Int) - ((wd a : Nat) : Int) - (acc.length : Int) = ((Vbemax.between hol a b : Nat) : Int) := by
        rw [e4]
        omega
      rw [← e5] at q
      refine q _ fun z o e => ?_
      by_cases hz : z = h
      · subst hz
        rw [upd_same, ← hh, e]
      · rw [upd_ne hz, upd_ne, upd_ne hz]
        · exact e
        · intro zd
          rw [zd] at e
          rw [upd_ne hDh] at hD
          rw [hD] at e
          cases e
end
section
variable {α : Type}
def pick (P : α → Bool) (rs : List Addr) (qs : List α) : List Addr := ((rs.zip qs).filter fun x => P x.2).map (·.1)
theorem pick_paired {R : Addr → α → Prop} (P : α → Bool) : ∀ {rs : List Addr} {qs : List α}, Paired R rs qs → Paired R (pick P rs qs) (qs.filter P)
  | _, _, .nil => .nil
  | _, _, .cons (a := a) (b := b) r t => by
    have ih := pick_paired P t
    unfold pick at ih ⊢
    rw [List.zip_cons_cons]
    by_cases h : P b = true
    · rw [List.filter_cons_of_pos (by exact h), List.filter_cons_of_pos h, List.map_cons]
      exact .cons r ih
    · rw [List.filter_cons_of_neg (by exact h), List.filter_cons_of_neg h]
      exact ih
theorem pick_step (P : α → Bool) {rs : List Addr} {qs : List α} {i : Nat} {a : Addr} {q : α} (h1 : rs[i]? = some a) (h2 : qs[i]? = some q) :
    pick P (rs.take (i + 1)) (qs.take (i + 1)) = pick P (rs.take i) (qs.take i) ++ (if P q = true then [a] else []) := by
  have hr := (List.getElem?_eq_some_iff.mp h1).1
  have hq := (List.getElem?_eq_some_iff.mp h2).1
  unfold pick
  rw [take_more h1, take_more h2, List.zip_append (by rw [List.length_take, List.length_take]; omega), List.filter_append, List.map_append]
  congr 1
  show List.map _ (List.filter _ [(a, q)]) = _
  by_cases h : P q = true
  · rw [List.filter_cons_of_pos (by exact h), if_pos h]
    rfl
  · rw [List.filter_cons_of_neg (by exact h), if_neg h]
    rfl
theorem pick_all (P : α → Bool) {rs : List Addr} {qs : List α} (h : rs.length = qs.length) : pick P (rs.take rs.length) (qs.take rs.length) = pick P rs qs := by
  rw [List.take_length, h, List.take_length]
theorem pick_le (P : α → Bool) (rs : List Addr) (qs : List α) : (pick P rs qs).length ≤ rs.length := by
  unfold pick
  rw [List.length_map]
  refine Nat.le_trans (List.length_filter_le _ _) ?_
  rw [List.length_zip]
  exact Nat.min_le_left _ _
theorem map_ref_get {rs : List Addr} {i : Nat} {x : V} (h : (rs.map V.ref)[i]? = some x) : ∃ a, rs[i]? = some a ∧ x = V.ref a := by
  rw [List.getElem?_map] at h
  cases e : rs[i]? with
  | none => rw [e] at h; cases h
  | some a => rw [e] at h; exact ⟨a, rfl, (Option.some.inj h).symm⟩
end
theorem dlt (a b : Nat) : decide ((a : Int) < (b : Int)) = decide (a < b) := by
  by_cases h : a < b
  · rw [decide_eq_true h, decide_eq_true (by omega)]
  · rw [decide_eq_false h, decide_eq_false (by omega)]
theorem dle (a b : Nat) : decide ((a : Int) ≤ (b : Int)) = decide (a ≤ b) := by
  by_cases h : a ≤ b
  · rw [decide_eq_true h, decide_eq_true (by omega)]
  · rw [decide_eq_false h, decide_eq_false (by omega)]
theorem deq (a b : Nat) : decide (V.int (a : Int) = V.int (b : Int)) = decide (a = b) := by
  by_cases h : a = b
  · rw [decide_eq_true h, decide_eq_true (nint.mpr h)]
  · rw [decide_eq_false h, decide_eq_false (fun z => h (nint.mp z))]
theorem upd_upd {H : Hp} {p : Addr} {o u : HO} : upd (upd H p o) p u = upd H p u := by
  funext z
  unfold upd
  split <;> rfl
section
variable {P : Program} {w : World} {K : PySem.W.Frag} {mg : Str → Option Value} {base : Heap} {A : Adr}
def sp_qak (A : Adr) : Sp := fun vs H Q _ => ∃ (a : Addr) (s : Vbemax.State) (L : Lay) (p : Nat), vs = [.ref a, .int p] ∧ HA A H a s L ∧ Q (.bl (decide (s.points < p))) H
theorem ok_qak (T : Txt K mg A) : FnOk P w K mg base CX0 1 A.qak.1 A.qak.2 ["house", "point"] (sp_qak A) := by
  refine T.qak.F.ok sc_qak (fun vs H Q E h => ?_) (fun cdv An outer s0 H vs Q E hr h => ?_)
  · obtain ⟨a, s, L, p, rfl, _⟩ := h
    rfl
  · obtain ⟨a, s, L, p, rfl, hA, q⟩ := h
    refine ⟨_, (pss_one (ps_ret (pe_cmpR op_gt (pv 1) (pe_fl T (pv 0)) (nomark _)))), ?_⟩
    refine ⟨_, rfl, _, rfl, a, _, _, _, _, rfl, hA.ho, T.qad.cl, T.qad.nf 8 _ rfl, rfl, _, _, rfl, rfl, ?_⟩
    rw [← dlt] at q
    exact q
def sp_qal (A : Adr) : Sp := fun vs H Q _ => ∃ (a : Addr) (s : Vbemax.State) (L : Lay) (x : Nat), vs = [.ref a, .int x] ∧ HA A H a s L ∧ Q (.bl (decide (s.suppliers < x))) H
theorem ok_qal (T : Txt K mg A) : FnOk P w K mg base CX0 1 A.qal.1 A.qal.2 ["house", "supplier"] (sp_qal A) := by
  refine T.qal.F.ok sc_qal (fun vs H Q E h => ?_) (fun cdv An outer s0 H vs Q E hr h => ?_)
  · obtain ⟨a, s, L, p, rfl, _⟩ := h
    rfl
  · obtain ⟨a, s, L, p, rfl, hA, q⟩ := h
    refine ⟨_, (pss_one (ps_ret (pe_cmpR op_gt (pv 1) (pe_fl T (pv 0)) (nomark _)))), ?_⟩
    refine ⟨_, rfl, _, rfl, a, _, _, _, _, rfl, hA.ho, T.qad.cl, T.qad.nf 2 _ rfl, rfl, _, _, rfl, rfl, ?_⟩
    rw [← dlt] at q
    exact q
theorem fail_val (l : List Nat) (x : Nat) : (valV (failKv l) (Sum.inl (x : Int))).isSome = l.contains x := by
  rw [← valV_any]
  unfold failKv
  rw [List.any_map, List.contains_eq_any_beq]
  congr 1
  funext y
  show decide ((Sum.inl (y : Int) : Key) = Sum.inl (x : Int)) = (x == y)
  by_cases h : x = y
  · subst h
    simp
  · rw [decide_eq_false (fun z => h (by injection z with z; omega))]
    simp [h]
def sp_qam (A : Adr) : Sp := fun vs H Q _ => ∃ (a : Addr) (s : Vbemax.State) (L : Lay) (x : Nat), vs = [.ref a, .int x] ∧ 1 ≤ x ∧ HA A H a s L ∧ Q (.bl (!Vbemax.lives s x)) H
theorem ok_qam (T : Txt K mg A) : FnOk P w K mg base CX0 2 A.qam.1 A.qam.2 ["house", "supplier"] (sp_qam A) := by
  refine T.qam.F.ok sc_qam (fun vs H Q E h => ?_) (fun cdv An outer s0 H vs Q E hr h => ?_)
  · obtain ⟨a, s, L, p, rfl, _⟩ := h
    rfl
  · obtain ⟨a, s, L, x, rfl, hx, hA, q⟩ := h
    have hu := hu_of hr
    refine ⟨_, (pss_one (ps_ret (pe_or (pe_call (ok_qal T) (hr.mono (by decide)) rfl T.qal.g T.qal.F.kp T.qal.b .nil pass0 (pa_cons (pv 0) (pa_cons (pv 1) pa_nil))) (pe_one (pe_cmp (pc_din hu (pv 1) (pe_fl T (pv 0)))))))), ?_⟩
    refine ⟨_, rfl, _, rfl, a, s, L, x, rfl, hA, _, rfl, ?_⟩
    unfold Vbemax.lives Vbemax.isSupplier at q
    rw [decide_eq_true hx, Bool.true_and] at q
    refine ite2 (fun c => ?_) (fun c => ?_)
    · have c' := of_decide_eq_true c
      rw [decide_eq_false (by omega), Bool.false_and] at q
      exact q
    · have c' : x ≤ s.suppliers := Nat.le_of_not_lt fun z => c (decide_eq_true z)
      refine ⟨_, rfl, _, rfl, a, _, _, _, _, rfl, hA.ho, T.qad.cl, T.qad.nf 6 _ rfl, rfl, L.f, _, rfl, DGet.k (k := Sum.inl (x : Int)) hA.fl, ?_⟩
      rw [decide_eq_true c', Bool.true_and, Bool.not_not, ← fail_val] at q
      exact q
def isW (q : Vbemax.Request) : Bool := decide (q.stage = 0)
def sp_qan (A : Adr) : Sp := fun vs H Q _ => ∃ (a : Addr) (s : Vbemax.State) (L : Lay), vs = [.ref a] ∧ HA A H a s L ∧ ∀ H' p, H p = none → Same H H' → H' p = some (.lst ((pick isW L.rs s.requests).map V.ref)) → Q (.ref p) H'
theorem ok_qan (T : Txt K mg A) : FnOk P w K mg base CX0 1 A.qan.1 A.qan.2 ["house"] (fun vs H Q E => sp_qan A vs H Q E) := by
  refine T.qan.F.ok sc_qan (fun vs H Q E h => ?_) (fun cdv An outer s0 H vs Q E hr h => ?_)
  · obtain ⟨a, s, L, rfl, _⟩ := h
    rfl
  · obtain ⟨a, s, L, rfl, hA, q⟩ := h
    have nd := sc_qan.nd
    refine ⟨_, (pss_one (ps_ret (pe_lc rfl nd (pi_list (pe_fl T (pv 0))) (blkOk_by (own := [("request", 1)]) rfl) (fun _ _ _ _ _ => (pg_name (i := 1) nd rfl (Or.inl rfl))) (fun _ _ _ _ _ => pts_one (pt_cmpR op_eq (pe_fl T (pv 1)) (pe_co T.qcj) (nomark _))) (fun _ _ _ _ _ => (pv 1))))), ?_⟩
    refine ⟨_, rfl, a, _, _, _, _, rfl, hA.ho, T.qad.cl, T.qad.nf 9 _ rfl, rfl, L.r, rfl, ⟨_, SqL.of hA.rq⟩, fun D hD => ?_⟩
    have hlen := Paired.length hA.rqs
    refine lc_list (K := K) (a := L.r) (xs := L.rs.map V.ref) (fun i H' => H' = upd H D (.lst ((pick isW (L.rs.take i) (s.requests.take i)).map V.ref))) rfl ?_ ?_ ?_
    · rintro i H' _ rfl
      exact (same_new hD).seq (SqL.of hA.rq)
    · rintro i x H' hx rfl
      obtain ⟨p, hp, rfl⟩ := map_ref_get hx
      obtain ⟨r, hr1, dx, hr2⟩ := paired_get hA.rqs hp
      have st := pick_step isW hp hr1
      refine ⟨rfl, ?_⟩
      refine ⟨_, rfl, p, _, _, _, _, rfl, same_new hD _ _ hr2, T.qaa.cl, T.qaa.nf 5 _ rfl, rfl, rfl, _, rfl, ?_⟩
      rw [show (V.int 0) = V.int ((0 : Nat) : Int) from rfl, deq]
      refine ite2 (fun c => ?_) (fun c => ?_)
      · refine ⟨_, rfl, _, upd_same, ?_, ?_⟩
        · rw [List.length_map]
          refine small1000 (Nat.le_trans (pick_le _ _ _) ?_)
          have := hA.sm.rq
          rw [List.length_take]
          omega
        · rw [upd_upd, st, if_pos (by exact c), List.map_append]
          rfl
      · rw [st, if_neg (by exact c), List.append_nil]
    · rintro H' rfl
      refine q _ D hD (same_new hD) ?_
      rw [upd_same, List.length_map, pick_all _ hlen]
end
theorem small5000 {n : Nat} (h : n ≤ 5000) : n < sizeLine := Nat.lt_of_le_of_lt h (by decide)
section
variable {P : Program} {w : World} {K : PySem.W.Frag} {mg : Str → Option Value} {base : Heap} {A : Adr}
def sp_qao (A : Adr) : Sp := fun vs H Q _ => ∃ (a : Addr) (s : Vbemax.State) (L : Lay) (n k : Nat), vs = [.ref a, .int n, .int k] ∧ HA A H a s L ∧ Q (.bl (decide (256 < s.facts.length + n + k))) H
theorem ok_qao (T : Txt K mg A) : FnOk P w K mg base CX0 1 A.qao.1 A.qao.2 ["house", "new_facts", "waiting"] (sp_qao A) := by
  refine T.qao.F.ok sc_qao (fun vs H Q E h => ?_) (fun cdv An outer s0 H vs Q E hr h => ?_)
  · obtain ⟨a, s, L, n, k, rfl, _⟩ := h
    rfl
  · obtain ⟨a, s, L, n, k, rfl, hA, q⟩ := h
    refine ⟨_, (pss_one (ps_ret (pe_cmpR op_gt (pe_op op_add (pe_op op_add (pe_callB call_len_seq rfl T.b_len PySem.boot_len (pa_cons (pe_fl T (pv 0)) pa_nil)) (pv 1)) (pv 2)) (pe_co T.qcr) (nomark _)))), ?_⟩
    refine ⟨_, rfl, a, _, _, _, _, rfl, hA.ho, T.qad.cl, T.qad.nf 10 _ rfl, rfl, L.fa, _, rfl, .inl (SqL.of hA.fc), _, rfl, _, _, rfl, rfl, _, rfl, _, _, rfl, rfl, _, _, rfl, rfl, ?_⟩
    have hl := Paired.length hA.fcs
    have e : decide ((256 : Int) < ((L.fs.map V.ref).length : Int) + (n : Int) + (k : Int)) = decide (256 < s.facts.length + n + k) := by
      rw [List.length_map, hl]
      by_cases c : 256 < s.facts.length + n + k
      · rw [decide_eq_true c, decide_eq_true (by omega)]
      · rw [decide_eq_false c, decide_eq_false (by omega)]
    rw [← e] at q
    exact q
def isK (p k : Nat) (f : Vbemax.Fact) : Bool := f.point == p && decide (f.known ≤ k)
def sp_qap (A : Adr) : Sp := fun vs H Q _ => ∃ (a : Addr) (s : Vbemax.State) (L : Lay) (p k : Nat), vs = [.ref a, .int p, .int k] ∧ HA A H a s L ∧
  ∀ H' l as, H l = none → Same H H' → H' l = some (.lst (as.map V.ref)) → Paired (FcAt A.qab H') as (knownOf s.facts p k) → Q (.ref l) H'
theorem ok_qap (T : Txt K mg A) : FnOk P w K mg base CX0 1 A.qap.1 A.qap.2 ["house", "point", "known_at"] (sp_qap A) := by
  refine T.qap.F.ok sc_qap (fun vs H Q E h => ?_) (fun cdv An outer s0 H vs Q E hr h => ?_)
  · obtain ⟨a, s, L, p, k, rfl, _⟩ := h
    rfl
  · obtain ⟨a, s, L, p, k, rfl, hA, q⟩ := h
    have nd := sc_qap.nd
    refine ⟨_, (pss_one (ps_ret (pe_lc rfl nd (pi_list (pe_fl T (pv 0))) (blkOk_by (own := [("fact", 3)]) rfl) (fun _ _ _ _ _ => (pg_name (i := 3) nd rfl (Or.inl rfl))) (fun _ _ _ _ _ => pts_one ((pw_and (pt_cmpR op_eq (pe_fl T (pv 3)) (pv 1) (nomark _)) (pw_and1 (pt_cmpR op_le (pe_fl T (pv 3)) (pv 2) (nomark _))))).pt) (fun _ _ _ _ _ => (pv 3))))), ?_⟩
    refine ⟨_, rfl, a, _, _, _, _, rfl, hA.ho, T.qad.cl, T.qad.nf 10 _ rfl, rfl, L.fa, rfl, ⟨_, SqL.of hA.fc⟩, fun D hD => ?_⟩
    have hlen := Paired.length hA.fcs
    refine lc_list (K := K) (a := L.fa) (xs := L.fs.map V.ref) (fun i H' => H' = upd H D (.lst ((pick (isK p k) (L.fs.take i) (s.facts.take i)).map V.ref))) rfl ?_ ?_ ?_
    · rintro i H' _ rfl
      exact (same_new hD).seq (SqL.of hA.fc)
    · rintro i x H' hx rfl
      obtain ⟨c, hc, rfl⟩ := map_ref_get hx
      obtain ⟨f, hf1, dx, hf2⟩ := paired_get hA.fcs hc
      have st := pick_step (isK p k) hc hf1
      have hal : ((pick (isK p k) (L.fs.take i) (s.facts.take i)).map V.ref).length < sizeLine := by
        rw [List.length_map]
        refine small1000 (Nat.le_trans (pick_le _ _ _) ?_)
        have := hA.sm.fc
        rw [List.length_take]
        omega
      refine ⟨rfl, ?_⟩
      refine ⟨_, rfl, c, _, _, _, _, rfl, same_new hD _ _ hf2, T.qab.cl, T.qab.nf 0 _ rfl, rfl, _, rfl, rfl, _, rfl, ?_⟩
      rw [deq]
      refine ite2 (fun c1 => ?_) (fun c1 => ?_)
      · refine ⟨_, rfl, c, _, _, _, _, rfl, same_new hD _ _ hf2, T.qab.cl, T.qab.nf 4 _ rfl, rfl, _, rfl, _, _, rfl, rfl, _, rfl, ?_⟩
        rw [dle]
        refine ite2 (fun c2 => ?_) (fun c2 => ?_)
        · refine ⟨_, rfl, _, upd_same, hal, ?_⟩
          have e : isK p k f = true := by
            unfold isK
            rw [c2, Bool.and_true, beq_iff_eq]
            exact of_decide_eq_true c1
          rw [upd_upd, st, if_pos e, List.map_append]
          rfl
        · have e : ¬ isK p k f = true := by
            unfold isK
            intro z
            rw [Bool.and_eq_true] at z
            exact c2 z.2
          rw [st, if_neg e, List.append_nil]
      · refine iteF ?_
        have e : ¬ isK p k f = true := by
          unfold isK
          intro z
          rw [Bool.and_eq_true, beq_iff_eq] at z
          exact c1 (decide_eq_true z.1)
        rw [st, if_neg e, List.append_nil]
    · rintro H' rfl
      refine q _ D (pick (isK p k) L.fs s.facts) hD (same_new hD) ?_ ?_
      · rw [upd_same, List.length_map, pick_all _ hlen]
      · exact paired_same (fun x y ⟨d, h⟩ => ⟨d, same_new hD _ _ h⟩) (pick_paired (isK p k) hA.fcs)
def sp_qaq (A : Adr) : Sp := fun vs H Q _ => ∃ (l : Addr) (as : List Addr) (fs : List Vbemax.Fact) (b d : Nat), vs = [.ref l, .int b, .int d] ∧ H l = some (.lst (as.map V.ref)) ∧ Paired (FcAt A.qab H) as fs ∧ Q (.int (supBy b fs d : Nat)) H
theorem ok_qaq (T : Txt K mg A) : FnOk P w K mg base CX0 1 A.qaq.1 A.qaq.2 ["facts", "basic", "day"] (sp_qaq A) := by
  refine T.qaq.F.ok sc_qaq (fun vs H Q E h => ?_) (fun cdv An outer s0 H vs Q E hr h => ?_)
  · obtain ⟨l, as, fs, b, d, rfl, _⟩ := h
    rfl
  · obtain ⟨l, as, fs, b, d, rfl, hl, hp, q⟩ := h
    have nd := sc_qaq.nd
    refine ⟨_, (pss_cons (ps_set (i := 3) nd rfl (Or.inl rfl) (pv 1))
      (pss_cons (ps_for PassesOwn.never rfl (pi_list (pv 0)) (pg_name (i := 4) nd rfl (Or.inl rfl)) (pss_one (ps_if ((pw_and (pt_cmpR op_le (pe_fl T (pv 4)) (pv 2) (nomark _)) (pw_and1 (pt_cmpR op_le (pv 2) (pe_fl T (pv 4)) (nomark _))))).pt (pss_one (ps_set (i := 3) nd rfl (Or.inl rfl) (pe_fl T (pv 4)))) pss_nil)))
      (pss_one (ps_ret (pv 3))))), ?_⟩
    refine ⟨_, rfl, _, rfl, l, rfl, ⟨_, SqL.of hl⟩, ?_⟩
    have hlen := Paired.length hp
    refine for_list (K := K) (a := l) (xs := as.map V.ref) (fun i σ H' => ∃ v : Option V, σ = [some (.ref l), some (.int b), some (.int d), some (.int (supBy b (fs.take i) d : Nat)), v] ∧ H' = H) ⟨none, rfl, rfl⟩ ?_ ?_ ?_
    · rintro i σ H' _ ⟨v, _, rfl⟩
      exact SqL.of hl
    · rintro i x σ H' hx ⟨v, rfl, rfl⟩
      obtain ⟨c, hc, rfl⟩ := map_ref_get hx
      obtain ⟨f, hf1, dx, hf2⟩ := paired_get hp hc
      have st : supBy b (fs.take (i + 1)) d = if covers d f = true then f.supplier else supBy b (fs.take i) d := by rw [take_more hf1, supBy_snoc]
      refine ⟨_, rfl, c, _, _, _, _, rfl, hf2, T.qab.cl, T.qab.nf 1 _ rfl, rfl, _, rfl, _, _, rfl, rfl, _, rfl, ?_⟩
      rw [dle]
      refine ite2 (fun c1 => ?_) (fun c1 => ?_)
      · refine ⟨_, rfl, _, rfl, c, _, _, _, _, rfl, hf2, T.qab.cl, T.qab.nf 2 _ rfl, rfl, _, _, rfl, rfl, _, rfl, ?_⟩
        rw [dle]
        refine ite2 (fun c2 => ?_) (fun c2 => ?_)
        · refine ⟨_, rfl, c, _, _, _, _, rfl, hf2, T.qab.cl, T.qab.nf 3 _ rfl, rfl, ?_⟩
          have e : covers d f = true := by
            unfold covers
            rw [c1, c2]
            rfl
          rw [st, if_pos e]
          exact ⟨_, rfl, rfl⟩
        · have e : ¬ covers d f = true := by
            unfold covers
            intro z
            rw [Bool.and_eq_true] at z
            exact c2 z.2
          rw [st, if_neg e]
          exact ⟨_, rfl, rfl⟩
      · refine iteF ?_
        have e : ¬ covers d f = true := by
          unfold covers
          intro z
          rw [Bool.and_eq_true] at z
          exact c1 z.1
        rw [st, if_neg e]
        exact ⟨_, rfl, rfl⟩
    · rintro σ H' ⟨v, rfl, rfl⟩
      refine ⟨_, rfl, ?_⟩
      rw [List.length_map, hlen, List.take_length]
      exact q
def sp_qar (A : Adr) : Sp := fun vs H Q _ => ∃ (a : Addr) (s : Vbemax.State) (L : Lay) (p d k : Nat), vs = [.ref a, .int p, .int d, .int k] ∧ HA A H a s L ∧ ∀ H', Same H H' → Q (.int (Vbemax.whoAt s p d k : Nat)) H'
theorem ok_qar (T : Txt K mg A) : FnOk P w K mg base CX0 2 A.qar.1 A.qar.2 ["house", "point", "day", "known_at"] (sp_qar A) := by
  refine T.qar.F.ok sc_qar (fun vs H Q E h => ?_) (fun cdv An outer s0 H vs Q E hr h => ?_)
  · obtain ⟨a, s, L, p, d, k, rfl, _⟩ := h
    rfl
  · obtain ⟨a, s, L, p, d, k, rfl, hA, q⟩ := h
    refine ⟨_, (pss_one (ps_ret (pe_call (ok_qaq T) (hr.mono (by decide)) rfl T.qaq.g T.qaq.F.kp T.qaq.b .nil pass0 (pa_cons (pe_call (ok_qap T) (hr.mono (by decide)) rfl T.qap.g T.qap.F.kp T.qap.b .nil pass0 (pa_cons (pv 0) (pa_cons (pv 1) (pa_cons (pv 3) pa_nil)))) (pa_cons (pe_fl T (pv 0)) (pa_cons (pv 2) pa_nil)))))), ?_⟩
    refine ⟨_, rfl, _, rfl, _, rfl, a, s, L, p, k, rfl, hA, fun H1 l as hn s1 h1 h2 => ?_⟩
    refine ⟨_, rfl, a, _, _, _, _, rfl, s1 _ _ hA.ho, T.qad.cl, T.qad.nf 1 _ rfl, rfl, _, rfl, l, as, knownOf s.facts p k, s.basic, d, rfl, h1, h2, ?_⟩
    have e : Vbemax.whoAt s p d k = supBy s.basic (knownOf s.facts p k) d := who_eq _ _ _ _ _
    rw [← e]
    exact q _ s1
end
def dayKv (l : List Int) : List (Key × V) := l.map fun x => (Sum.inl x, V.bl true)
def putI (x : Int) (l : List Int) : List Int := if x ∈ l then l else l ++ [x]
theorem putK_day (l : List Int) (x : Int) : putK (dayKv l) (Sum.inl x) (V.bl true) = dayKv (putI x l) := by
  unfold putK putI
  have e : ((dayKv l).any fun kv => decide (kv.1 = Sum.inl x)) = decide (x ∈ l) := by
    unfold dayKv
    rw [List.any_map]
    by_cases h : x ∈ l
    · rw [decide_eq_true h, List.any_eq_true]
      exact ⟨x, h, by simp⟩
    · rw [decide_eq_false h, List.any_eq_false]
      intro y hy z
      have : y = x := by simpa using z
      exact h (this ▸ hy)
  rw [e]
  by_cases h : x ∈ l
  · rw [if_pos (decide_eq_true h), if_pos h]
    unfold dayKv
    rw [List.map_map]
    apply List.map_congr_left
    intro y _
    show (if (Sum.inl y : Key) = Sum.inl x then ((Sum.inl y : Key), V.bl true) else ((Sum.inl y : Key), V.bl true)) = _
    split <;> rfl
  · rw [if_neg (by rw [decide_eq_false h]; exact Bool.false_ne_true), if_neg h]
    unfold dayKv
    rw [List.map_append]
    rfl
theorem mem_putI (x z : Int) (l : List Int) : z ∈ putI x l ↔ z = x ∨ z ∈ l := by
  unfold putI
  split
  · rename_i h
    constructor
    · exact .inr
    · rintro (rfl | h')
      · exact h
      · exact h'
  · rw [List.mem_append, List.mem_singleton]
    exact or_comm
theorem nodup_putI (x : Int) {l : List Int} (h : l.Nodup) : (putI x l).Nodup := by
  unfold putI
  split
  · exact h
  · rename_i hx
    exact List.nodup_append.mpr ⟨h, by simp, fun a ha b hb => by rw [List.mem_singleton] at hb; subst hb; exact fun z => hx (z ▸ ha)⟩
theorem len_putI (x : Int) (l : List Int) : (putI x l).length ≤ l.length + 1 := by
  unfold putI
  split
  · omega
  · rw [List.length_append]; simp
def IsDay (fs : List Vbemax.Fact) (d : Nat) : Prop := d = 0 ∨ ∃ f ∈ fs, d = f.from_ ∨ (f.to_ < 20000 ∧ d = f.to_ + 1)
theorem sorted_nats {l m : List Int} (hn : l.Nodup) (hp : m.Perm l) (hs : m.Pairwise (· ≤ ·)) (hN : ∀ x ∈ l, 0 ≤ x) : ∃ E : List Nat, m = E.map (fun d : Nat => (d : Int)) ∧ E.Pairwise (· < ·) := by
  refine ⟨m.map Int.toNat, ?_, ?_⟩
  · rw [List.map_map]
    conv => lhs; rw [← List.map_id m]
    apply List.map_congr_left
    intro x hx
    have := hN x (hp.mem_iff.mp hx)
    show x = ((x.toNat : Nat) : Int)
    omega
  · rw [List.pairwise_map]
    have hnd : m.Nodup := hp.nodup_iff.mpr hn
    have h2 : m.Pairwise fun a b => a ≤ b ∧ a ≠ b := List.Pairwise.and hs hnd
    refine h2.imp_of_mem fun {a b} ha hb h => ?_
    have h1 := hN a (hp.mem_iff.mp ha)
    have h3 := hN b (hp.mem_iff.mp hb)
    have := h.1
    have := h.2
    omega
section
variable {P : Program} {w : World} {K : PySem.W.Frag} {mg : Str → Option Value} {base : Heap} {A : Adr}
def sp_qas (A : Adr) : Sp := fun vs H Q _ => ∃ (l : Addr) (as : List Addr) (fs : List Vbemax.Fact), vs = [.ref l] ∧ H l = some (.lst (as.map V.ref)) ∧ Paired (FcAt A.qab H) as fs ∧ fs.length ≤ 1200 ∧
  ∀ H' p (E : List Nat), H p = none → Same H H' → E.Pairwise (· < ·) → (∀ d, d ∈ E ↔ IsDay fs d) → E.length ≤ 2 * fs.length + 1 → H' p = some (.lst (E.map fun d => V.int ((d : Nat) : Int))) → Q (.ref p) H'
theorem ok_qas (T : Txt K mg A) : FnOk P w K mg base CX0 1 A.qas.1 A.qas.2 ["facts"] (sp_qas A) := by
  refine T.qas.F.ok sc_qas (fun vs H Q E h => ?_) (fun cdv An outer s0 H vs Q E hr h => ?_)
  · obtain ⟨l, as, fs, rfl, _⟩ := h
    rfl
  · obtain ⟨l, as, fs, rfl, hl, hp, hz, q⟩ := h
    have nd := sc_qas.nd
    have hu := hu_of hr
    refine ⟨_, (pss_cons (ps_set (i := 1) nd rfl (Or.inl rfl) (pe_disp (pps_cons pe_int pe_bl pps_nil) rfl rfl (by simp) (by decide)))
      (pss_cons (ps_for PassesOwn.never rfl (pi_list (pv 0)) (pg_name (i := 2) nd rfl (Or.inl rfl)) (pss_cons (ps_dput hu (pv 1) (pe_fl T (pv 2)) pe_bl rfl)
      (pss_one (ps_if (pt_cmpR op_lt (pe_fl T (pv 2)) (pe_co T.qci) (nomark _)) (pss_one (ps_dput hu (pv 1) (pe_op op_add (pe_fl T (pv 2)) pe_int) pe_bl rfl)) pss_nil))))
      (pss_one (ps_ret (pe_callB (cr_sortedD rfl) rfl T.b_sorted PyProof.Rows.boot_sorted (pa_cons (pv 1) pa_nil)))))), ?_⟩
    intro D hD
    refine ⟨upd_same, [(Sum.inl 0, V.bl true)], rfl, by decide, ?_⟩
    rw [upd_upd]
    have hlen := Paired.length hp
    refine ⟨_, rfl, l, rfl, ⟨_, SqL.of (same_new hD _ _ hl)⟩, ?_⟩
    refine for_list (K := K) (a := l) (xs := as.map V.ref) (fun i σ H' => ∃ (v : Option V) (ks : List Int), σ = [some (.ref l), some (.ref D), v] ∧ H' = upd H D (.dK (dayKv ks)) ∧ ks.Nodup ∧ ks.length ≤ 1 + 2 * i ∧ (∀ x ∈ ks, 0 ≤ x) ∧ ∀ d : Nat, (d : Int) ∈ ks ↔ IsDay (fs.take i) d) ?_ ?_ ?_ ?_
    · refine ⟨none, [0], rfl, rfl, by simp, by simp, by simp, fun d => ?_⟩
      rw [List.mem_singleton, List.take_zero]
      unfold IsDay
      constructor
      · intro h; left; omega
      · rintro (rfl | ⟨f, hf, _⟩)
        · rfl
        · cases hf
    · rintro i σ H' _ ⟨v, ks, _, rfl, _⟩
      exact SqL.of (same_new hD _ _ hl)
    · rintro i x σ H' hx ⟨v, ks, rfl, rfl, knd, kln, kN, kM⟩
      obtain ⟨c, hc, rfl⟩ := map_ref_get hx
      obtain ⟨f, hf1, dx, hf2⟩ := paired_get hp hc
      have hi : i < fs.length := (List.getElem?_eq_some_iff.mp hf1).1
      have hL : (dayKv ks).length < sizeLine := by
        unfold dayKv
        rw [List.length_map]
        exact small5000 (by omega)
      refine ⟨_, rfl, _, rfl, c, _, _, _, _, rfl, same_new hD _ _ hf2, T.qab.cl, T.qab.nf 1 _ rfl, rfl, D, _, rfl, DPut.k (k := Sum.inl (f.from_ : Int)) upd_same hL, ?_⟩
      rw [upd_upd, putK_day]
      have kn1 := nodup_putI (f.from_ : Int) knd
      have kl1 := len_putI (f.from_ : Int) ks
      have hL2 : (dayKv (putI (f.from_ : Int) ks)).length < sizeLine := by
        unfold dayKv
        rw [List.length_map]
        exact small5000 (by omega)
      refine ⟨_, rfl, c, _, _, _, _, rfl, same_new hD _ _ hf2, T.qab.cl, T.qab.nf 2 _ rfl, rfl, _, _, rfl, rfl, _, rfl, ?_⟩
      have isd : ∀ d, IsDay (fs.take (i + 1)) d ↔ IsDay (fs.take i) d ∨ d = f.from_ ∨ (f.to_ < 20000 ∧ d = f.to_ + 1) := by
        intro d
        unfold IsDay
        rw [take_more hf1]
        constructor
        · rintro (h | ⟨g, hg, h⟩)
          · exact .inl (.inl h)
          · rcases List.mem_append.mp hg with hg | hg
            · exact .inl (.inr ⟨g, hg, h⟩)
            · rw [List.mem_singleton] at hg
              subst hg
              exact .inr h
        · rintro ((h | ⟨g, hg, h⟩) | h)
          · exact .inl h
          · exact .inr ⟨g, List.mem_append_left _ hg, h⟩
          · exact .inr ⟨f, List.mem_append_right _ (List.mem_singleton.mpr rfl), h⟩
      refine ite2 (fun c1 => ?_) (fun c1 => ?_)
      · have c1' : f.to_ < 20000 := by have := of_decide_eq_true c1; omega
        refine ⟨_, rfl, _, rfl, c, _, _, _, _, rfl, same_new hD _ _ hf2, T.qab.cl, T.qab.nf 2 _ rfl, rfl, _, _, rfl, rfl, D, _, rfl, DPut.k (k := Sum.inl ((f.to_ : Int) + 1)) upd_same hL2, ?_⟩
        rw [upd_upd, putK_day]
        have kl2 := len_putI ((f.to_ : Int) + 1) (putI (f.from_ : Int) ks)
        refine ⟨_, _, rfl, rfl, nodup_putI _ kn1, by omega, fun x hx => ?_, fun d => ?_⟩
        · rw [mem_putI, mem_putI] at hx
          rcases hx with h | h | h
          · omega
          · omega
          · exact kN x h
        · rw [mem_putI, mem_putI, kM, isd]
          constructor
          · rintro (h | h | h)
            · exact .inr (.inr ⟨c1', by omega⟩)
            · exact .inr (.inl (by omega))
            · exact .inl h
          · rintro (h | h | h)
            · exact .inr (.inr h)
            · exact .inr (.inl (by omega))
            · exact .inl (by omega)
      · have c1' : ¬ f.to_ < 20000 := fun z => c1 (decide_eq_true (by omega))
        refine ⟨_, _, rfl, rfl, kn1, by omega, fun x hx => ?_, fun d => ?_⟩
        · rw [mem_putI] at hx
          rcases hx with h | h
          · omega
          · exact kN x h
        · rw [mem_putI, kM, isd]
          constructor
          · rintro (h | h)
            · exact .inr (.inl (by omega))
            · exact .inl h
          · rintro (h | h | h)
            · exact .inr h
            · exact .inl (by omega)
            · exact absurd h.1 c1'
    · rintro σ H' ⟨v, ks, rfl, rfl, knd, kln, kN, kM⟩
      refine ⟨_, rfl, D, dayKv ks, ks, rfl, upd_same, ?_, fun ns' p hperm hpw hpn => ?_⟩
      · unfold dayKv
        rw [List.map_map]
        rfl
      · obtain ⟨E', rfl, hE⟩ := sorted_nats knd hperm hpw kN
        have hpD : p ≠ D := fun z => by rw [z, upd_same] at hpn; cases hpn
        rw [upd_ne hpD] at hpn
        refine q _ p E' hpn ?_ hE (fun d => ?_) ?_ ?_
        · exact (same_new hD).trans (same_new (by rw [upd_ne hpD]; exact hpn))
        · rw [List.length_map, hlen, List.take_length] at kM
          rw [← kM, ← hperm.mem_iff, List.mem_map]
          constructor
          · intro h
            exact ⟨d, h, rfl⟩
          · rintro ⟨y, hy, e⟩
            have : y = d := by omega
            exact this ▸ hy
        · have e1 := hperm.length_eq
          rw [List.length_map] at e1 kln
          omega
        · rw [upd_same, List.map_map]
          rfl
end
structure Fine (s : Vbemax.State) : Prop where
  b : 1 ≤ s.basic
  f : ∀ f ∈ s.facts, f.from_ ≤ Vbemax.LAST ∧ f.to_ ≤ Vbemax.LAST ∧ 1 ≤ f.supplier
  bs : s.basic ≤ s.suppliers
  fs : ∀ f ∈ s.facts, f.supplier ≤ s.suppliers
theorem known_mem {l : List Vbemax.Fact} {p k : Nat} {f : Vbemax.Fact} (h : f ∈ knownOf l p k) : f ∈ l ∧ f.point = p ∧ f.known ≤ k := by
  unfold knownOf at h
  rw [List.mem_filter, Bool.and_eq_true, beq_iff_eq, decide_eq_true_eq] at h
  exact ⟨h.1, h.2.1, h.2.2⟩
theorem mem_known {l : List Vbemax.Fact} {p k : Nat} {f : Vbemax.Fact} (h1 : f ∈ l) (h2 : f.point = p) (h3 : f.known ≤ k) : f ∈ knownOf l p k := by
  unfold knownOf
  rw [List.mem_filter, Bool.and_eq_true, beq_iff_eq, decide_eq_true_eq]
  exact ⟨h1, h2, h3⟩
theorem known_len (l : List Vbemax.Fact) (p k : Nat) : (knownOf l p k).length ≤ l.length := List.length_filter_le _ _
theorem wOf_eq (s : Vbemax.State) (p k d : Nat) : wOf s.basic s.facts p k d = supBy s.basic (knownOf s.facts p k) d := who_eq _ _ _ _ _
theorem supBy_pos {b : Nat} {l : List Vbemax.Fact} (hb : 1 ≤ b) (hl : ∀ f ∈ l, 1 ≤ f.supplier) (d : Nat) : 1 ≤ supBy b l d := by
  unfold supBy
  induction l generalizing b with
  | nil => exact hb
  | cons f l ih =>
    rw [List.foldl_cons]
    refine ih ?_ fun g hg => hl g (List.mem_cons_of_mem _ hg)
    split
    · exact hl f (List.mem_cons_self ..)
    · exact hb
theorem w_pos {s : Vbemax.State} (h : Fine s) (p k d : Nat) : 1 ≤ wOf s.basic s.facts p k d := by
  rw [wOf_eq]
  exact supBy_pos h.b (fun f hf => (h.f f (known_mem hf).1).2.2) d
theorem days_le {s : Vbemax.State} (h : Fine s) {fs : List Vbemax.Fact} (hs : ∀ f ∈ fs, f ∈ s.facts) {d : Nat} (hd : IsDay fs d) : d ≤ Vbemax.LAST := by
  rcases hd with rfl | ⟨f, hf, rfl | ⟨h1, rfl⟩⟩
  · exact Nat.zero_le _
  · exact (h.f f (hs f hf)).1
  · show f.to_ + 1 ≤ 20000
    omega
theorem starts_days {s : Vbemax.State} {p k : Nat} (fs : List Vbemax.Fact) (hs : ∀ f ∈ knownOf s.facts p k, f ∈ fs) {d : Nat} (hd : d ≤ Vbemax.LAST) (h : isStart (wOf s.basic s.facts p k) d = true) : IsDay fs d := by
  rcases change_edge (b := s.basic) (l := s.facts) (p := p) (k := k) h with rfl | ⟨f, hf, h1, h2, h3⟩
  · exact .inl rfl
  · refine .inr ⟨f, hs f (mem_known hf h1 h2), ?_⟩
    rcases h3 with h3 | h3
    · exact .inl h3
    · refine .inr ⟨?_, h3⟩
      have : d ≤ 20000 := hd
      omega
section
variable {P : Program} {w : World} {K : PySem.W.Frag} {mg : Str → Option Value} {base : Heap} {A : Adr}
def TupIs (H : Hp) (xs : List V) (t : Addr) : Prop := H t = some (.tup xs)
def SpanAt (u : Nat → Nat) (H : Hp) (t : Addr) (d : Nat) : Prop := H t = some (.tup [.int ((d : Nat) : Int), .int ((u d : Nat) : Int)])
def sp_qat (A : Adr) : Sp := fun vs H Q _ => ∃ (a : Addr) (s : Vbemax.State) (L : Lay) (p k : Nat), vs = [.ref a, .int p, .int k] ∧ HA A H a s L ∧ Fine s ∧
  ∀ H' l ts, H l = none → Same H H' → H' l = some (.lst (ts.map V.ref)) → Paired (SpanAt (wOf s.basic s.facts p k) H') ts (starts (wOf s.basic s.facts p k)) → (starts (wOf s.basic s.facts p k)).length ≤ 1300 → Q (.ref l) H'
theorem nat_get {E : List Nat} {i : Nat} {x : V} (h : (E.map fun d => V.int ((d : Nat) : Int))[i]? = some x) : ∃ d, E[i]? = some d ∧ x = V.int ((d : Nat) : Int) := by
  rw [List.getElem?_map] at h
  cases e : E[i]? with
  | none => rw [e] at h; cases h
  | some a => rw [e] at h; exact ⟨a, rfl, (Option.some.inj h).symm⟩
theorem startsLoop_split (u : Nat → Nat) : ∀ (E F : List Nat) (bef : Nat), startsLoop u bef (E ++ F) = startsLoop u bef E ++ startsLoop u (E.foldl (fun _ d => u d) bef) F
  | [], F, bef => rfl
  | d :: E, F, bef => by
    show (if u d ≠ bef then d :: startsLoop u (u d) (E ++ F) else startsLoop u (u d) (E ++ F)) = (if u d ≠ bef then d :: startsLoop u (u d) E else startsLoop u (u d) E) ++ _
    rw [startsLoop_split u E F (u d)]
    split <;> rfl
theorem startsLoop_len (u : Nat → Nat) : ∀ (E : List Nat) (bef : Nat), (startsLoop u bef E).length ≤ E.length
  | [], _ => Nat.le_refl _
  | d :: E, bef => by
    have ih := startsLoop_len u E (u d)
    show (if u d ≠ bef then d :: startsLoop u (u d) E else startsLoop u (u d) E).length ≤ _
    split
    · rw [List.length_cons, List.length_cons]; omega
    · rw [List.length_cons]; omega
theorem sorted_le_len : ∀ (n : Nat) {E : List Nat} (a : Nat), E.Pairwise (· < ·) → (∀ d ∈ E, a ≤ d ∧ d < a + n) → E.length ≤ n
  | 0, [], _, _, _ => Nat.le_refl _
  | 0, x :: E, a, _, h => by have := h x (List.mem_cons_self ..); omega
  | n + 1, [], _, _, _ => Nat.zero_le _
  | n + 1, x :: E, a, hs, h => by
    rw [List.pairwise_cons] at hs
    have hx := h x (List.mem_cons_self ..)
    have := sorted_le_len n (a + 1) hs.2 fun d hd => ⟨by have := hs.1 d hd; omega, by have := h d (List.mem_cons_of_mem _ hd); omega⟩
    rw [List.length_cons]
    omega
theorem paired_snoc {α : Type} {R : Addr → α → Prop} : ∀ {l : List Addr} {m : List α} {a : Addr} {b : α}, Paired R l m → R a b → Paired R (l ++ [a]) (m ++ [b])
  | _, _, _, _, .nil, r => .cons r .nil
  | _, _, _, _, .cons h t, r => .cons h (paired_snoc t r)
theorem ok_qat (T : Txt K mg A) : FnOk P w K mg base CX0 2 A.qat.1 A.qat.2 ["house", "point", "known_at"] (sp_qat A) := by
  refine T.qat.F.ok sc_qat (fun vs H Q E h => ?_) (fun cdv An outer s0 H vs Q E hr h => ?_)
  · obtain ⟨a, s, L, p, k, rfl, _⟩ := h
    rfl
  · obtain ⟨a, s, L, p, k, rfl, hA, hF, q⟩ := h
    have nd := sc_qat.nd
    refine ⟨_, (pss_cons (ps_set (i := 3) nd rfl (Or.inl rfl) (pe_call (ok_qap T) (hr.mono (by decide)) rfl T.qap.g T.qap.F.kp T.qap.b .nil pass0 (pa_cons (pv 0) (pa_cons (pv 1) (pa_cons (pv 2) pa_nil)))))
      (pss_cons (ps_set (i := 4) nd rfl (Or.inl rfl) (pe_lst pa_nil))
      (pss_cons (ps_set (i := 5) nd rfl (Or.inl rfl) pe_int)
      (pss_cons (ps_for PassesOwn.never rfl (pi_list (pe_call (ok_qas T) (hr.mono (by decide)) rfl T.qas.g T.qas.F.kp T.qas.b .nil pass0 (pa_cons (pv 3) pa_nil))) (pg_name (i := 6) nd rfl (Or.inl rfl)) (pss_cons (ps_set (i := 7) nd rfl (Or.inl rfl) (pe_call (ok_qaq T) (hr.mono (by decide)) rfl T.qaq.g T.qaq.F.kp T.qaq.b .nil pass0 (pa_cons (pv 3) (pa_cons (pe_fl T (pv 0)) (pa_cons (pv 6) pa_nil)))))
      (pss_cons (ps_if (pt_cmpR op_ne (pv 7) (pv 5) (nomark _)) (pss_one (ps_expr (pe_bm PySem.F.plainAttrs_list PySem.F.slot_list_append PySem.F.type_list_append mt_append (pv 4) (pa_cons (pe_tup (pa_cons (pv 6) (pa_cons (pv 7) pa_nil))) pa_nil)))) pss_nil)
      (pss_one (ps_set (i := 5) nd rfl (Or.inl rfl) (pv 7))))))
      (pss_one (ps_ret (pv 4))))))), ?_⟩
    refine ⟨_, rfl, _, rfl, _, rfl, a, s, L, p, k, rfl, hA, fun H1 lf as hn1 s1 h1 h2 => ?_⟩
    refine ⟨Nat.zero_le _, fun lo hlo => ?_⟩
    have s2 : Same H (upd H1 lo (.lst [])) := s1.trans (same_new hlo)
    have hfs : (upd H1 lo (.lst [])) lf = some (.lst (as.map V.ref)) := same_new hlo _ _ h1
    refine ⟨_, rfl, lf, as, knownOf s.facts p k, rfl, hfs, paired_same (fun x y ⟨d, z⟩ => ⟨d, same_new hlo _ _ z⟩) h2, Nat.le_trans (known_len _ _ _) (by have := hA.sm.fc; omega), fun H3 ld Ed hn3 s3 hE hEm hEn h3 => ?_⟩
    have hEl : ∀ d ∈ Ed, d ≤ Vbemax.LAST := fun d hd => days_le hF (fun f hf => (known_mem hf).1) ((hEm d).mp hd)
    have hEs : ∀ d, d ≤ Vbemax.LAST → isStart (wOf s.basic s.facts p k) d = true → d ∈ Ed := fun d hd hst => (hEm d).mpr (starts_days _ (fun f hf => hf) hd hst)
    have hall : startsLoop (wOf s.basic s.facts p k) 0 Ed = starts (wOf s.basic s.facts p k) := startsLoop_all hE hEl hEs (by have := w_pos hF p k 0; omega)
    have hElen : Ed.length ≤ 1300 := by
      have := known_len s.facts p k
      have := hA.sm.fc
      omega
    refine ⟨ld, rfl, ⟨_, SqL.of h3⟩, ?_⟩
    have n3 : Same H H3 := s2.trans s3
    have hlo3 : H3 lo = some (.lst []) := s3 _ _ upd_same
    refine for_list (K := K) (a := ld) (xs := Ed.map fun d => V.int ((d : Nat) : Int)) (fun i σ H' => ∃ (v6 v7 : Option V) (ts : List Addr), σ = [some (.ref a), some (.int p), some (.int k), some (.ref lf), some (.ref lo), some (.int (((Ed.take i).foldl (fun _ d => wOf s.basic s.facts p k d) 0 : Nat) : Int)), v6, v7] ∧
      (∀ b o, H3 b = some o → b ≠ lo → H' b = some o) ∧ H' lo = some (.lst (ts.map V.ref)) ∧ Paired (SpanAt (wOf s.basic s.facts p k) H') ts (startsLoop (wOf s.basic s.facts p k) 0 (Ed.take i))) ?_ ?_ ?_ ?_
    · exact ⟨none, none, [], rfl, fun b o e _ => e, hlo3, .nil⟩
    · rintro i σ H' _ ⟨v6, v7, ts, _, kp, _, _⟩
      exact SqL.of (kp _ _ h3 (fun z => by rw [z, upd_same] at hn3; cases hn3))
    · rintro i x σ H' hx ⟨v6, v7, ts, rfl, kp, hl', hts⟩
      obtain ⟨d, hd, rfl⟩ := nat_get hx
      have nlo : ∀ b o, H b = some o → b ≠ lo := fun b o e z => by
        rw [z] at e
        rw [s1 _ _ e] at hlo
        cases hlo
      have hho : H' a = some (.ins A.qad L.dx (hf s L)) := kp _ _ (n3 _ _ hA.ho) (nlo _ _ hA.ho)
      have hlf : lf ≠ lo := ne_of_none h1 hlo
      have hp' : Paired (FcAt A.qab H') as (knownOf s.facts p k) := paired_same (fun x y ⟨dd, z⟩ => ⟨dd, kp _ _ (s3 _ _ (same_new hlo _ _ z)) (ne_of_none z hlo)⟩) h2
      have ef : (Ed.take (i + 1)).foldl (fun _ d => wOf s.basic s.facts p k d) 0 = wOf s.basic s.facts p k d := by
        rw [take_more hd, List.foldl_append]
        rfl
      have es : startsLoop (wOf s.basic s.facts p k) 0 (Ed.take (i + 1)) = startsLoop (wOf s.basic s.facts p k) 0 (Ed.take i) ++ (if wOf s.basic s.facts p k d ≠ (Ed.take i).foldl (fun _ d => wOf s.basic s.facts p k d) 0 then [d] else []) := by
        rw [take_more hd, startsLoop_split]
        rfl
      refine ⟨_, rfl, _, rfl, a, _, _, _, _, rfl, hho, T.qad.cl, T.qad.nf 1 _ rfl, rfl, _, rfl, lf, as, knownOf s.facts p k, s.basic, d, rfl, kp _ _ (s3 _ _ hfs) hlf, hp', ?_⟩
      rw [← wOf_eq]
      refine ⟨_, rfl, _, rfl, rfl, _, rfl, ?_⟩
      rw [deq]
      refine ite2 (fun c => ?_) (fun c => ?_)
      · have c' : wOf s.basic s.facts p k d ≠ (Ed.take i).foldl (fun _ d => wOf s.basic s.facts p k d) 0 := fun z => by
          rw [decide_eq_true z] at c
          cases c
        rw [if_pos c'] at es
        have hln : (ts.map V.ref).length < sizeLine := by
          have e1 := Paired.length hts
          have e2 := startsLoop_len (wOf s.basic s.facts p k) (Ed.take i) 0
          rw [List.length_take] at e2
          rw [List.length_map]
          exact small5000 (by omega)
        refine ⟨_, rfl, .inl ⟨rfl, _, SqL.of hl'⟩, _, rfl, _, rfl, sz2, fun t ht => ⟨lo, _, _, rfl, rfl, same_new ht _ _ hl', hln, ?_⟩⟩
        have htl : lo ≠ t := ne_of_none hl' ht
        refine ⟨_, rfl, ?_⟩
        refine ⟨_, _, ts ++ [t], by rw [ef]; rfl, fun b o e hb => ?_, ?_, ?_⟩
        · rw [upd_ne hb]
          exact same_new ht _ _ (kp b o e hb)
        · rw [upd_same, List.map_append]
          rfl
        · rw [es]
          refine paired_snoc (paired_same (fun x y z => ?_) hts) ?_
          · have z' : H' x = some (.tup [.int ((y : Nat) : Int), .int ((wOf s.basic s.facts p k y : Nat) : Int)]) := z
            have hxl : x ≠ lo := ne_of z' hl' (by intro q; cases q)
            show upd _ lo _ x = _
            rw [upd_ne hxl]
            exact same_new ht _ _ z'
          · show upd _ lo _ t = _
            rw [upd_ne (Ne.symm htl), upd_same]
      · have c' : ¬ wOf s.basic s.facts p k d ≠ (Ed.take i).foldl (fun _ d => wOf s.basic s.facts p k d) 0 := fun z => by
          rw [decide_eq_false z] at c
          exact c rfl
        rw [if_neg c', List.append_nil] at es
        refine ⟨_, rfl, ?_⟩
        exact ⟨_, _, ts, by rw [ef]; rfl, kp, hl', by rw [es]; exact hts⟩
    · rintro σ H' ⟨v6, v7, ts, rfl, kp, hl', hts⟩
      refine ⟨_, rfl, ?_⟩
      rw [List.length_map, List.take_length, hall] at hts
      refine q _ lo ts (s1.free hlo) (fun b o e => kp b o (n3 _ _ e) (fun z => ?_)) hl' hts ?_
      · rw [z] at e
        rw [s1 _ _ e] at hlo
        cases hlo
      · rw [← hall]
        exact Nat.le_trans (startsLoop_len _ _ _) hElen
def sp_qau (A : Adr) : Sp := fun vs H Q _ => ∃ (a : Addr) (s : Vbemax.State) (L : Lay) (p d k : Nat), vs = [.ref a, .int p, .int d, .int k] ∧ HA A H a s L ∧ Fine s ∧ ∀ H', Same H H' → Q (.int (Vbemax.until_ s.basic s.facts p d k : Nat)) H'
theorem ok_qau (T : Txt K mg A) : FnOk P w K mg base CX0 3 A.qau.1 A.qau.2 ["house", "point", "day", "known_at"] (sp_qau A) := by
  refine T.qau.F.ok sc_qau (fun vs H Q E h => ?_) (fun cdv An outer s0 H vs Q E hr h => ?_)
  · obtain ⟨a, s, L, p, d, k, rfl, _⟩ := h
    rfl
  · obtain ⟨a, s, L, p, d, k, rfl, hA, hF, q⟩ := h
    have nd := sc_qau.nd
    refine ⟨_, (pss_cons (ps_for PassesOwn.never rfl (pi_list (pe_call (ok_qat T) (hr.mono (by decide)) rfl T.qat.g T.qat.F.kp T.qat.b .nil pass0 (pa_cons (pv 0) (pa_cons (pv 1) (pa_cons (pv 3) pa_nil))))) (pg_name (i := 4) nd rfl (Or.inl rfl)) (pss_one (ps_if (pt_cmpR op_gt (pe_ix ix_tup (pv 4) pe_int (fun _ _ => rfl)) (pv 2) (nomark _)) (pss_one (ps_ret (pe_op op_sub (pe_ix ix_tup (pv 4) pe_int (fun _ _ => rfl)) pe_int))) pss_nil)))
      (pss_one (ps_ret (pe_co T.qci)))), ?_⟩
    refine ⟨_, rfl, _, rfl, _, rfl, a, s, L, p, k, rfl, hA, hF, fun H1 l ts hn1 s1 h1 h2 hln => ?_⟩
    rw [until_eq] at q
    have hlen := Paired.length h2
    refine ⟨l, rfl, ⟨_, SqL.of h1⟩, ?_⟩
    refine for_list (K := K) (a := l) (xs := ts.map V.ref) (fun i σ H' => ∃ v : Option V, σ = [some (.ref a), some (.int p), some (.int d), some (.int k), v] ∧ H' = H1 ∧ endLoop d ((starts (wOf s.basic s.facts p k)).drop i) = endLoop d (starts (wOf s.basic s.facts p k))) ⟨none, rfl, rfl, rfl⟩ ?_ ?_ ?_
    · rintro i σ H' _ ⟨v, _, rfl, _⟩
      exact SqL.of h1
    · rintro i x σ H' hx ⟨v, rfl, rfl, he⟩
      obtain ⟨t, ht, rfl⟩ := map_ref_get hx
      obtain ⟨x, hx1, hx2⟩ := paired_get h2 ht
      have hd : (starts (wOf s.basic s.facts p k)).drop i = x :: (starts (wOf s.basic s.facts p k)).drop (i + 1) := by
        have hi := (List.getElem?_eq_some_iff.mp hx1)
        obtain ⟨hi, e⟩ := hi
        rw [List.drop_eq_getElem_cons hi, e]
      rw [hd] at he
      refine ⟨_, rfl, t, _, _, _, rfl, rfl, SqT.of hx2, rfl, _, rfl, _, _, rfl, rfl, _, rfl, ?_⟩
      rw [dlt]
      refine ite2 (fun c => ?_) (fun c => ?_)
      · have c' := of_decide_eq_true c
        refine ⟨_, rfl, t, _, _, _, rfl, rfl, SqT.of hx2, rfl, _, _, rfl, rfl, ?_⟩
        have e : endLoop d (starts (wOf s.basic s.facts p k)) = x - 1 := by
          rw [← he]
          show (if d < x then x - 1 else _) = _
          rw [if_pos c']
        rw [e, show ((x - 1 : Nat) : Int) = (x : Int) - 1 by omega] at q
        exact q _ s1
      · refine ⟨_, rfl, rfl, ?_⟩
        rw [← he]
        show _ = (if d < x then x - 1 else _)
        rw [if_neg (fun z => c (decide_eq_true z))]
    · rintro σ H' ⟨v, rfl, rfl, he⟩
      rw [List.length_map, hlen, List.drop_length] at he
      have e : endLoop d (starts (wOf s.basic s.facts p k)) = 20000 := he.symm
      rw [e] at q
      exact q _ s1
end
def fstI : Option Nat → Int
  | none => -1
  | some a => (a : Int)
theorem paired_append {α : Type} {R : Addr → α → Prop} : ∀ {l : List Addr} {m : List α} {l' : List Addr} {m' : List α}, Paired R l m → Paired R l' m' → Paired R (l ++ l') (m ++ m')
  | _, _, _, _, .nil, r => r
  | _, _, _, _, .cons h t, r => .cons h (paired_append t r)
def RowAt (H : Hp) (t : Addr) (r : Nat × Nat) : Prop := H t = some (.tup [.int ((r.1 : Nat) : Int), .int ((r.2 : Nat) : Int)])
section
variable {P : Program} {w : World} {K : PySem.W.Frag} {mg : Str → Option Value} {base : Heap} {A : Adr}
def sp_qav (A : Adr) : Sp := fun vs H Q _ => ∃ (a : Addr) (s : Vbemax.State) (L : Lay) (p j k : Nat), vs = [.ref a, .int p, .int j, .int k] ∧ HA A H a s L ∧ Fine s ∧
  ∀ H' l ts, H l = none → Same H H' → H' l = some (.lst (ts.map V.ref)) → Paired (RowAt H') ts (Vbemax.differing s p j k) → (Vbemax.differing s p j k).length ≤ 3000 → Q (.ref l) H'
theorem ok_qav (T : Txt K mg A) : FnOk P w K mg base CX0 2 A.qav.1 A.qav.2 ["house", "point", "known_at", "other_known_at"] (sp_qav A) := by
  refine T.qav.F.ok sc_qav (fun vs H Q E h => ?_) (fun cdv An outer s0 H vs Q E hr h => ?_)
  · obtain ⟨a, s, L, p, j, k, rfl, _⟩ := h
    rfl
  · obtain ⟨a, s, L, p, j, k, rfl, hA, hF, q⟩ := h
    have nd := sc_qav.nd
    refine ⟨_, (pss_cons (ps_set (i := 4) nd rfl (Or.inl rfl) (pe_call (ok_qap T) (hr.mono (by decide)) rfl T.qap.g T.qap.F.kp T.qap.b .nil pass0 (pa_cons (pv 0) (pa_cons (pv 1) (pa_cons (pv 2) pa_nil)))))
      (pss_cons (ps_set (i := 5) nd rfl (Or.inl rfl) (pe_call (ok_qap T) (hr.mono (by decide)) rfl T.qap.g T.qap.F.kp T.qap.b .nil pass0 (pa_cons (pv 0) (pa_cons (pv 1) (pa_cons (pv 3) pa_nil)))))
      (pss_cons (ps_set (i := 6) nd rfl (Or.inl rfl) (pe_lst pa_nil))
      (pss_cons (ps_set (i := 7) nd rfl (Or.inl rfl) (pe_un un_neg pe_int))
      (pss_cons (ps_for PassesOwn.never rfl (pi_list (pe_call (ok_qas T) (hr.mono (by decide)) rfl T.qas.g T.qas.F.kp T.qas.b .nil pass0 (pa_cons (pe_op op_cat (pv 4) (pv 5)) pa_nil))) (pg_name (i := 8) nd rfl (Or.inl rfl)) (pss_cons (ps_set (i := 9) nd rfl (Or.inl rfl) (pe_cmpR op_ne (pe_call (ok_qaq T) (hr.mono (by decide)) rfl T.qaq.g T.qaq.F.kp T.qaq.b .nil pass0 (pa_cons (pv 4) (pa_cons (pe_fl T (pv 0)) (pa_cons (pv 8) pa_nil)))) (pe_call (ok_qaq T) (hr.mono (by decide)) rfl T.qaq.g T.qaq.F.kp T.qaq.b .nil pass0 (pa_cons (pv 5) (pa_cons (pe_fl T (pv 0)) (pa_cons (pv 8) pa_nil)))) (nomark _)))
      (pss_cons (ps_if ((pw_and (pt_val (pv 9)) (pw_and1 (pt_cmpR op_lt (pv 7) pe_int (nomark _))))).pt (pss_one (ps_set (i := 7) nd rfl (Or.inl rfl) (pv 8))) pss_nil)
      (pss_one (ps_if ((pw_and (pt_not (pt_val (pv 9))) (pw_and1 (pt_cmpR op_ge (pv 7) pe_int (nomark _))))).pt (pss_cons (ps_expr (pe_bm PySem.F.plainAttrs_list PySem.F.slot_list_append PySem.F.type_list_append mt_append (pv 6) (pa_cons (pe_tup (pa_cons (pv 7) (pa_cons (pe_op op_sub (pv 8) pe_int) pa_nil))) pa_nil)))
      (pss_one (ps_set (i := 7) nd rfl (Or.inl rfl) (pe_un un_neg pe_int)))) pss_nil)))))
      (pss_cons (ps_if (pt_cmpR op_ge (pv 7) pe_int (nomark _)) (pss_one (ps_expr (pe_bm PySem.F.plainAttrs_list PySem.F.slot_list_append PySem.F.type_list_append mt_append (pv 6) (pa_cons (pe_tup (pa_cons (pv 7) (pa_cons (pe_co T.qci) pa_nil))) pa_nil)))) pss_nil)
      (pss_one (ps_ret (pv 6))))))))), ?_⟩
    refine ⟨_, rfl, _, rfl, _, rfl, a, s, L, p, j, rfl, hA, fun H1 lf as hn1 s1 h1 h2 => ?_⟩
    refine ⟨_, rfl, _, rfl, _, rfl, a, s, L, p, k, rfl, hA.same s1, fun H2 lg bs hn2 s2 g1 g2 => ?_⟩
    refine ⟨Nat.zero_le _, fun lo hlo => ?_⟩
    have t2 : Same H H2 := s1.trans s2
    have f1 := s2 _ _ h1
    have f2 := paired_same (R' := FcAt A.qab H2) (fun x y ⟨d, z⟩ => ⟨d, s2 _ _ z⟩) h2
    have so : Same H2 (upd H2 lo (.lst [])) := same_new hlo
    have hl1 := Paired.length h2
    have hl2 := Paired.length g2
    have kl1 := known_len s.facts p j
    have kl2 := known_len s.facts p k
    have hsm := hA.sm.fc
    refine ⟨_, rfl, _, rfl, _, rfl, lf, lg, _, _, rfl, rfl, so _ _ f1, so _ _ g1, ?_, fun lc hlc => ?_⟩
    · rw [List.length_map, List.length_map]
      exact Nat.le_of_lt (small5000 (by omega))
    have sc : Same (upd H2 lo (.lst [])) (upd (upd H2 lo (.lst [])) lc (.lst (as.map V.ref ++ bs.map V.ref))) := same_new hlc
    have t3 : Same H2 (upd (upd H2 lo (.lst [])) lc (.lst (as.map V.ref ++ bs.map V.ref))) := so.trans sc
    refine ⟨lc, as ++ bs, knownOf s.facts p j ++ knownOf s.facts p k, rfl, by rw [upd_same, List.map_append], paired_append (paired_same (fun x y ⟨d, z⟩ => ⟨d, t3 _ _ z⟩) f2) (paired_same (fun x y ⟨d, z⟩ => ⟨d, t3 _ _ z⟩) g2), by rw [List.length_append]; omega, fun H3 ld Ed hn3 s3 hE hEm hEn h3 => ?_⟩
    have t4 : Same H2 H3 := t3.trans s3
    have n3 : Same H H3 := t2.trans t4
    have hlo3 : H3 lo = some (.lst []) := s3 _ _ (sc _ _ upd_same)
    have hEl : ∀ d ∈ Ed, d ≤ Vbemax.LAST := fun d hd => days_le hF (fun f hf => by
      rcases List.mem_append.mp hf with hf | hf
      · exact (known_mem hf).1
      · exact (known_mem hf).1) ((hEm d).mp hd)
    have hEs : ∀ d, d ≤ Vbemax.LAST → isStart (uOf s p j k) d = true → d ∈ Ed := fun d hd hst => (hEm d).mpr (by
      rcases uOf_start hst with z | z
      · exact starts_days _ (fun f hf => List.mem_append_left _ hf) hd z
      · exact starts_days _ (fun f hf => List.mem_append_right _ hf) hd z)
    have hall : diffLoop (uOf s p j k) none Ed = Vbemax.differing s p j k := by
      rw [differing_rows]
      exact diff_all (uOf_01 s p j k) hE ((hEm 0).mpr (.inl rfl)) hEl hEs
    have hElen : Ed.length ≤ 2500 := by
      rw [List.length_append] at hEn
      omega
    have hdl : (Vbemax.differing s p j k).length ≤ 3000 := by
      have := diffLoop_len (uOf s p j k) Ed none
      rw [hall] at this
      omega
    have nlo : ∀ b o, H2 b = some o → b ≠ lo := fun b o e => ne_of_none e hlo
    refine ⟨ld, rfl, ⟨_, SqL.of h3⟩, ?_⟩
    refine for_list (K := K) (a := ld) (xs := Ed.map fun d => V.int ((d : Nat) : Int)) (fun i σ H' => ∃ (v8 v9 : Option V) (ts : List Addr) (o : Option Nat) (out : List (Nat × Nat)), σ = [some (.ref a), some (.int p), some (.int j), some (.int k), some (.ref lf), some (.ref lg), some (.ref lo), some (.int (fstI o)), v8, v9] ∧
      (∀ b o, H3 b = some o → b ≠ lo → H' b = some o) ∧ H' lo = some (.lst (ts.map V.ref)) ∧ Paired (RowAt H') ts out ∧ (∀ x, o = some x → ∀ d ∈ Ed.drop i, x < d) ∧ out ++ diffLoop (uOf s p j k) o (Ed.drop i) = Vbemax.differing s p j k) ?_ ?_ ?_ ?_
    · exact ⟨none, none, [], none, [], rfl, fun b o e _ => e, hlo3, .nil, fun x e => (nomatch e), hall⟩
    · rintro i σ H' _ ⟨v8, v9, ts, o, out, _, kp, _, _⟩
      exact SqL.of (kp _ _ h3 (fun z => by rw [z] at hn3; rw [sc _ _ upd_same] at hn3; cases hn3))
    · rintro i x σ H' hx ⟨v8, v9, ts, o, out, rfl, kp, hl', hts, hlt, hout⟩
      obtain ⟨d, hd, rfl⟩ := nat_get hx
      obtain ⟨hi, hde⟩ := List.getElem?_eq_some_iff.mp hd
      have hdr : Ed.drop i = d :: Ed.drop (i + 1) := by rw [List.drop_eq_getElem_cons hi, hde]
      have hpw : (d :: Ed.drop (i + 1)).Pairwise (· < ·) := by rw [← hdr]; exact hE.sublist (List.drop_sublist _ _)
      rw [List.pairwise_cons] at hpw
      rw [hdr] at hout hlt
      have hho : H' a = some (.ins A.qad L.dx (hf s L)) := kp _ _ (n3 _ _ hA.ho) (nlo _ _ (t2 _ _ hA.ho))
      have pf : Paired (FcAt A.qab H') as (knownOf s.facts p j) := paired_same (fun x y ⟨dd, z⟩ => ⟨dd, kp _ _ (t4 _ _ z) (nlo _ _ z)⟩) f2
      have pg : Paired (FcAt A.qab H') bs (knownOf s.facts p k) := paired_same (fun x y ⟨dd, z⟩ => ⟨dd, kp _ _ (t4 _ _ z) (nlo _ _ z)⟩) g2
      have lln : (ts.map V.ref).length < sizeLine := by
        have e1 := Paired.length hts
        have e2 := congrArg List.length hout
        rw [List.length_append] at e2
        rw [List.length_map]
        exact small5000 (by omega)
      refine ⟨_, rfl, _, rfl, a, _, _, _, _, rfl, hho, T.qad.cl, T.qad.nf 1 _ rfl, rfl, _, rfl, lf, as, _, s.basic, d, rfl, kp _ _ (t4 _ _ f1) (nlo _ _ f1), pf, ?_⟩
      refine ⟨_, rfl, _, rfl, a, _, _, _, _, rfl, hho, T.qad.cl, T.qad.nf 1 _ rfl, rfl, _, rfl, lg, bs, _, s.basic, d, rfl, kp _ _ (t4 _ _ g1) (nlo _ _ g1), pg, ?_⟩
      refine ⟨rfl, ?_⟩
      have eu : (!decide (V.int ((supBy s.basic (knownOf s.facts p j) d : Nat) : Int) = V.int ((supBy s.basic (knownOf s.facts p k) d : Nat) : Int))) = decide (uOf s p j k d = 1) := by
        rw [deq, ← wOf_eq, ← wOf_eq]
        unfold uOf
        have e1 : Vbemax.whoAt s p d j = wOf s.basic s.facts p j d := rfl
        have e2 : Vbemax.whoAt s p d k = wOf s.basic s.facts p k d := rfl
        rw [e1, e2]
        by_cases c : wOf s.basic s.facts p j d = wOf s.basic s.facts p k d
        · rw [if_pos c, decide_eq_true c]
          rfl
        · rw [if_neg c, decide_eq_false c]
          rfl
      rw [eu]
      by_cases cu : uOf s p j k d = 1
      · rw [decide_eq_true cu]
        refine ⟨_, rfl, _, rfl, iteT ⟨_, rfl, _, _, rfl, rfl, _, rfl, ?_⟩⟩
        cases o with
        | none =>
          refine ite2 (fun c => ?_) (fun c => absurd (by decide) c)
          refine ⟨_, rfl, ?_⟩
          refine ⟨_, rfl, _, rfl, ?_⟩
          refine iteF (iteF ?_)
          refine ⟨_, _, ts, some d, out, rfl, kp, hl', hts, fun y e z hz => by cases e; exact hpw.1 z hz, ?_⟩
          rw [← hout]
          show _ = out ++ (if uOf s p j k d = 1 then _ else _)
          rw [if_pos cu]
        | some x =>
          refine ite2 (fun c => absurd (of_decide_eq_true c) (by show ¬ ((x : Int) < 0); omega)) (fun c => ?_)
          refine ⟨_, rfl, _, rfl, ?_⟩
          refine iteF (iteF ?_)
          refine ⟨_, _, ts, some x, out, rfl, kp, hl', hts, fun y e z hz => hlt y e z (List.mem_cons_of_mem _ hz), ?_⟩
          rw [← hout]
          show _ = out ++ (if uOf s p j k d = 1 then _ else _)
          rw [if_pos cu]
      · rw [decide_eq_false cu]
        refine ⟨_, rfl, _, rfl, iteF (iteF ?_)⟩
        refine ⟨_, rfl, _, rfl, iteT ⟨_, rfl, _, _, rfl, rfl, _, rfl, ?_⟩⟩
        cases o with
        | none =>
          refine ite2 (fun c => absurd c (by decide)) (fun c => ?_)
          refine ⟨_, _, ts, none, out, rfl, kp, hl', hts, fun y e => (nomatch e), ?_⟩
          rw [← hout]
          show _ = out ++ (if uOf s p j k d = 1 then _ else _)
          rw [if_neg cu]
        | some x =>
          refine ite2 (fun c => ?_) (fun c => absurd (decide_eq_true (by show (0 : Int) ≤ (x : Int); omega)) c)
          refine ⟨_, rfl, .inl ⟨rfl, _, SqL.of hl'⟩, _, rfl, _, rfl, _, _, rfl, rfl, sz2, fun t ht => ⟨lo, _, _, rfl, rfl, same_new ht _ _ hl', lln, ?_⟩⟩
          have htl : lo ≠ t := ne_of_none hl' ht
          have hxd : x < d := hlt x rfl d (List.mem_cons_self ..)
          refine ⟨_, rfl, _, _, ts ++ [t], none, out ++ [(x, d - 1)], rfl, fun b o e hb => ?_, ?_, ?_, fun y e => (nomatch e), ?_⟩
          · rw [upd_ne hb]
            exact same_new ht _ _ (kp b o e hb)
          · rw [upd_same, List.map_append]
            rfl
          · refine paired_snoc (paired_same (fun x y z => ?_) hts) ?_
            · have z' : H' x = some (.tup [.int ((y.1 : Nat) : Int), .int ((y.2 : Nat) : Int)]) := z
              have hxl : x ≠ lo := ne_of z' hl' (by intro q; cases q)
              show upd _ lo _ x = _
              rw [upd_ne hxl]
              exact same_new ht _ _ z'
            · show upd _ lo _ t = _
              rw [upd_ne (Ne.symm htl), upd_same]
              show some (HO.tup [V.int (x : Int), V.int ((d : Int) - 1)]) = some (HO.tup [V.int (x : Int), V.int ((d - 1 : Nat) : Int)])
              rw [show ((d - 1 : Nat) : Int) = (d : Int) - 1 by omega]
          · rw [← hout, List.append_assoc]
            show _ = out ++ (if uOf s p j k d = 1 then _ else _)
            rw [if_neg cu]
            rfl
    · rintro σ H' ⟨v8, v9, ts, o, out, rfl, kp, hl', hts, hlt, hout⟩
      rw [List.length_map, List.drop_length] at hout
      have keep : ∀ b o, H b = some o → H' b = some o := fun b o e => kp b o (n3 _ _ e) (nlo _ _ (t2 _ _ e))
      have hloN : H lo = none := t2.free hlo
      cases o with
      | none =>
        refine ⟨_, rfl, _, _, rfl, rfl, _, rfl, ite2 (fun c => absurd c (by decide)) (fun c => ?_)⟩
        refine ⟨_, rfl, ?_⟩
        have e : out = Vbemax.differing s p j k := by rw [← hout]; exact (List.append_nil out).symm
        rw [e] at hts
        exact q _ lo ts hloN keep hl' hts hdl
      | some x =>
        refine ⟨_, rfl, _, _, rfl, rfl, _, rfl, ite2 (fun c => ?_) (fun c => absurd (decide_eq_true (by show (0 : Int) ≤ (x : Int); omega)) c)⟩
        have lln : (ts.map V.ref).length < sizeLine := by
          have e1 := Paired.length hts
          have e2 := congrArg List.length hout
          rw [List.length_append] at e2
          rw [List.length_map]
          exact small5000 (by omega)
        refine ⟨_, rfl, .inl ⟨rfl, _, SqL.of hl'⟩, _, rfl, sz2, fun t ht => ⟨lo, _, _, rfl, rfl, same_new ht _ _ hl', lln, ?_⟩⟩
        have htl : lo ≠ t := ne_of_none hl' ht
        refine ⟨_, rfl, ?_⟩
        have e : out ++ [(x, Vbemax.LAST)] = Vbemax.differing s p j k := hout
        refine q _ lo (ts ++ [t]) hloN (fun b o e => ?_) ?_ ?_ hdl
        · rw [upd_ne (fun z => by rw [z] at e; rw [hloN] at e; cases e)]
          exact same_new ht _ _ (keep b o e)
        · rw [upd_same, List.map_append]
          rfl
        · rw [← e]
          refine paired_snoc (paired_same (fun x y z => ?_) hts) ?_
          · have z' : H' x = some (.tup [.int ((y.1 : Nat) : Int), .int ((y.2 : Nat) : Int)]) := z
            have hxl : x ≠ lo := ne_of z' hl' (by intro q; cases q)
            show upd _ lo _ x = _
            rw [upd_ne hxl]
            exact same_new ht _ _ z'
          · show upd _ lo _ t = _
            rw [upd_ne (Ne.symm htl), upd_same]
            rfl
end
def kPD (x : Nat × Nat) : List Key := [Sum.inl ((x.1 : Nat) : Int), Sum.inl ((x.2 : Nat) : Int)]
theorem kPD_inj {x y : Nat × Nat} (h : kPD x = kPD y) : x = y := by
  unfold kPD at h
  injection h with h1 h2
  injection h2 with h2 _
  injection h1 with h1
  injection h2 with h2
  exact Prod.ext (by omega) (by omega)
def amtKv (m : List ((Nat × Nat) × Nat)) : List (List Key × V) := m.map fun y => (kPD y.1, V.int ((y.2 : Nat) : Int))
theorem valV_amt (k : Nat × Nat) : ∀ m : List ((Nat × Nat) × Nat), valV (amtKv m) (kPD k) = (getA k m).map fun n => V.int ((n : Nat) : Int)
  | [] => rfl
  | y :: m => by
    have ih := valV_amt k m
    show valV ((kPD y.1, V.int ((y.2 : Nat) : Int)) :: amtKv m) (kPD k) = _
    by_cases h : y.1 = k
    · rw [valV_pos (by rw [h])]
      unfold getA
      rw [List.find?_cons_of_pos (by simp [h])]
      rfl
    · rw [valV_neg (fun z => h (kPD_inj z)), ih]
      unfold getA
      rw [List.find?_cons_of_neg (by simp [h])]
theorem putK_cons_eq {κ : Type} [DecidableEq κ] {k : κ} {v u : V} {r : List (κ × V)} (hr : ∀ y ∈ r, y.1 ≠ k) : putK ((k, u) :: r) k v = (k, v) :: r := by
  unfold putK
  rw [if_pos (by simp)]
  rw [List.map_cons, if_pos rfl]
  congr 1
  conv => rhs; rw [← List.map_id r]
  apply List.map_congr_left
  intro y hy
  rw [if_neg (hr y hy)]
  rfl
theorem putK_cons_ne {κ : Type} [DecidableEq κ] {k j : κ} {v u : V} {r : List (κ × V)} (h : j ≠ k) : putK ((j, u) :: r) k v = (j, u) :: putK r k v := by
  unfold putK
  rw [List.any_cons, decide_eq_false (by exact h), Bool.false_or]
  split
  · rw [List.map_cons, if_neg (by exact h)]
  · rfl
theorem putK_amt (k : Nat × Nat) (n : Nat) : ∀ m : List ((Nat × Nat) × Nat), (m.map (·.1)).Nodup → putK (amtKv m) (kPD k) (V.int ((n : Nat) : Int)) = amtKv (putA k n m)
  | [], _ => rfl
  | y :: m, hn => by
    rw [List.map_cons, List.nodup_cons] at hn
    show putK ((kPD y.1, V.int ((y.2 : Nat) : Int)) :: amtKv m) (kPD k) _ = amtKv (if y.1 = k then (k, n) :: m else y :: putA k n m)
    by_cases h : y.1 = k
    · rw [if_pos h, h]
      refine putK_cons_eq fun z hz => ?_
      obtain ⟨x, hx, rfl⟩ := List.mem_map.mp hz
      intro e
      exact hn.1 (by rw [h, ← kPD_inj e]; exact List.mem_map_of_mem (f := (·.1)) hx)
    · rw [if_neg h, putK_cons_ne (fun z => h (kPD_inj z)), putK_amt k n m hn.2]
      rfl
theorem putA_len {κ : Type} [DecidableEq κ] (k : κ) (n : Nat) : ∀ m : List (κ × Nat), (putA k n m).length ≤ m.length + 1
  | [] => Nat.le_refl _
  | y :: m => by
    have ih := putA_len k n m
    show (if y.1 = k then (k, n) :: m else y :: putA k n m).length ≤ _
    split
    · rw [List.length_cons, List.length_cons]; omega
    · rw [List.length_cons, List.length_cons]; omega
theorem amts_len : ∀ vs : List Vbemax.Volume, (amts vs).length ≤ vs.length := by
  intro vs
  have h : ∀ (l : List Vbemax.Volume) (m : List ((Nat × Nat) × Nat)), (l.foldl (fun m v => putA (v.point, v.day) v.amount m) m).length ≤ m.length + l.length := by
    intro l
    induction l with
    | nil => intro m; exact Nat.le_refl _
    | cons v l ih =>
      intro m
      rw [List.foldl_cons]
      have := ih (putA (v.point, v.day) v.amount m)
      have h2 := putA_len (v.point, v.day) v.amount m
      rw [List.length_cons]
      omega
  have := h vs []
  rw [List.length_nil, Nat.zero_add] at this
  exact this
section
variable {P : Program} {w : World} {K : PySem.W.Frag} {mg : Str → Option Value} {base : Heap} {A : Adr}
def sp_qaw (A : Adr) : Sp := fun vs H Q _ => ∃ (a : Addr) (s : Vbemax.State) (L : Lay) (k : Nat), vs = [.ref a, .int k] ∧ HA A H a s L ∧ ∀ H' l, H l = none → Same H H' → H' l = some (.dT (amtKv (amts (knownV s k)))) → Q (.ref l) H'
theorem ok_qaw (T : Txt K mg A) : FnOk P w K mg base CX0 1 A.qaw.1 A.qaw.2 ["house", "known_at"] (sp_qaw A) := by
  refine T.qaw.F.ok sc_qaw (fun vs H Q E h => ?_) (fun cdv An outer s0 H vs Q E hr h => ?_)
  · obtain ⟨a, s, L, k, rfl, _⟩ := h
    rfl
  · obtain ⟨a, s, L, k, rfl, hA, q⟩ := h
    have nd := sc_qaw.nd
    have hu := hu_of hr
    refine ⟨_, (pss_cons (ps_set (i := 2) nd rfl (Or.inl rfl) pe_dnewT)
      (pss_cons (ps_for PassesOwn.never rfl (pi_list (pe_fl T (pv 0))) (pg_name (i := 3) nd rfl (Or.inl rfl)) (pss_one (ps_if (pt_cmpR op_le (pe_fl T (pv 3)) (pv 1) (nomark _)) (pss_one (ps_dput hu (pv 2) (pe_tup (pa_cons (pe_fl T (pv 3)) (pa_cons (pe_fl T (pv 3)) pa_nil))) (pe_fl T (pv 3)) rfl)) pss_nil)))
      (pss_one (ps_ret (pv 2))))), ?_⟩
    intro D hD
    have s1 : Same H (upd H D (.dT [])) := same_new hD
    refine ⟨_, rfl, a, _, _, _, _, rfl, s1 _ _ hA.ho, T.qad.cl, T.qad.nf 11 _ rfl, rfl, L.v, rfl, ⟨_, SqL.of (s1 _ _ hA.vl)⟩, ?_⟩
    have hlen := Paired.length hA.vls
    refine for_list (K := K) (a := L.v) (xs := L.vs.map V.ref) (fun i σ H' => ∃ v : Option V, σ = [some (.ref a), some (.int k), some (.ref D), v] ∧ Same H H' ∧ H' D = some (.dT (amtKv (amts ((s.volumes.take i).filter fun v => decide (v.known ≤ k)))))) ⟨none, rfl, s1, upd_same⟩ ?_ ?_ ?_
    · rintro i σ H' _ ⟨v, _, s2, _⟩
      exact SqL.of (s2 _ _ hA.vl)
    · rintro i x σ H' hx ⟨v, rfl, s2, h2⟩
      obtain ⟨c, hc, rfl⟩ := map_ref_get hx
      obtain ⟨vo, hv1, dx, hv2⟩ := paired_get hA.vls hc
      have hv3 := s2 _ _ hv2
      have st : (s.volumes.take (i + 1)).filter (fun v => decide (v.known ≤ k)) = (s.volumes.take i).filter (fun v => decide (v.known ≤ k)) ++ (if decide (vo.known ≤ k) = true then [vo] else []) := by
        rw [take_more hv1, List.filter_append, List.filter_cons]
        rfl
      refine ⟨_, rfl, c, _, _, _, _, rfl, hv3, T.qac.cl, T.qac.nf 3 _ rfl, rfl, _, rfl, _, _, rfl, rfl, _, rfl, ?_⟩
      rw [dle]
      refine ite2 (fun c1 => ?_) (fun c1 => ?_)
      · rw [if_pos c1] at st
        refine ⟨_, rfl, c, _, _, _, _, rfl, hv3, T.qac.cl, T.qac.nf 2 _ rfl, rfl, _, rfl, _, rfl, c, _, _, _, _, rfl, hv3, T.qac.cl, T.qac.nf 0 _ rfl, rfl, _, rfl, c, _, _, _, _, rfl, hv3, T.qac.cl, T.qac.nf 1 _ rfl, rfl, sz2, fun t ht => ?_⟩
        have hkl : (amtKv (amts ((s.volumes.take i).filter fun v => decide (v.known ≤ k)))).length < sizeLine := by
          unfold amtKv
          rw [List.length_map]
          refine small1000 ?_
          have e1 := amts_len ((s.volumes.take i).filter fun v => decide (v.known ≤ k))
          have e2 := List.length_filter_le (fun v : Vbemax.Volume => decide (v.known ≤ k)) (s.volumes.take i)
          have e3 := hA.sm.vl
          rw [List.length_take] at e2
          omega
        refine ⟨D, _, rfl, DPut.t (k := kPD (vo.point, vo.day)) (same_new ht _ _ h2) upd_same hkl, ?_⟩
        refine ⟨_, rfl, fun b o e => ?_, ?_⟩
        · rw [upd_ne (ne_of_none e hD)]
          exact same_new ht _ _ (s2 _ _ e)
        · rw [upd_same, putK_amt _ _ _ (amts_nodup _), st, amts_snoc]
      · rw [if_neg c1, List.append_nil] at st
        exact ⟨_, rfl, s2, by rw [st]; exact h2⟩
    · rintro σ H' ⟨v, rfl, s2, h2⟩
      refine ⟨_, rfl, ?_⟩
      rw [List.length_map, hlen, List.take_length] at h2
      exact q _ D hD s2 h2
def inR (a b : Nat) (y : (Nat × Nat) × Nat) : Bool := decide (a ≤ y.1.2) && decide (y.1.2 ≤ b)
def totOf (s : Vbemax.State) (a b k : Nat) (m : List ((Nat × Nat) × Nat)) (x : Nat) : Nat := ((m.filter fun y => inR a b y && decide (Vbemax.whoAt s y.1.1 y.1.2 k = x)).map (·.2)).sum
def totL (s : Vbemax.State) (a b k : Nat) (m : List ((Nat × Nat) × Nat)) : List Nat := (List.range s.suppliers).map fun i => totOf s a b k m (i + 1)
theorem totOf_snoc (s : Vbemax.State) (a b k : Nat) (m : List ((Nat × Nat) × Nat)) (y : (Nat × Nat) × Nat) (x : Nat) : totOf s a b k (m ++ [y]) x = totOf s a b k m x + (if (inR a b y && decide (Vbemax.whoAt s y.1.1 y.1.2 k = x)) = true then y.2 else 0) := by
  unfold totOf
  rw [List.filter_append, List.map_append, List.sum_append, List.filter_cons]
  split <;> simp
theorem totL_out {s : Vbemax.State} {a b k : Nat} {m : List ((Nat × Nat) × Nat)} {y : (Nat × Nat) × Nat} (h : inR a b y = false) : totL s a b k (m ++ [y]) = totL s a b k m := by
  unfold totL
  apply List.map_congr_left
  intro i _
  rw [totOf_snoc, h, Bool.false_and, if_neg Bool.false_ne_true, Nat.add_zero]
theorem totL_in {s : Vbemax.State} {a b k : Nat} {m : List ((Nat × Nat) × Nat)} {y : (Nat × Nat) × Nat} {j : Nat} (h : inR a b y = true) (hw : Vbemax.whoAt s y.1.1 y.1.2 k = j + 1) (hj : j < s.suppliers) :
    totL s a b k (m ++ [y]) = (totL s a b k m).set j (totOf s a b k m (j + 1) + y.2) := by
  apply List.ext_getElem?
  intro i
  unfold totL
  rw [List.getElem?_map, List.getElem?_set]
  by_cases e : j = i
  · subst e
    rw [if_pos rfl, if_pos (by rw [List.length_map, List.length_range]; exact hj), List.getElem?_range hj]
    show some (totOf s a b k (m ++ [y]) (j + 1)) = some _
    rw [totOf_snoc, h, Bool.true_and, hw, decide_eq_true rfl, if_pos rfl]
  · rw [if_neg e, List.getElem?_map]
    cases z : (List.range s.suppliers)[i]? with
    | none => rfl
    | some x =>
      have : x = i := by
        obtain ⟨hi, e2⟩ := List.getElem?_eq_some_iff.mp z
        rw [List.getElem_range] at e2
        exact e2.symm
      subst this
      show some (totOf s a b k (m ++ [y]) (x + 1)) = some (totOf s a b k m (x + 1))
      rw [totOf_snoc, h, Bool.true_and, hw, decide_eq_false (by omega), if_neg Bool.false_ne_true, Nat.add_zero]
theorem totL_get {s : Vbemax.State} {a b k : Nat} {m : List ((Nat × Nat) × Nat)} {j : Nat} (hj : j < s.suppliers) : (totL s a b k m)[j]? = some (totOf s a b k m (j + 1)) := by
  unfold totL
  rw [List.getElem?_map, List.getElem?_range hj]
  rfl
theorem totL_all (s : Vbemax.State) (a b k : Nat) : totL s a b k (amts (knownV s k)) = (Vbemax.suppliersOf s).map fun x => Vbemax.volumeOf s x a b k := by
  unfold totL Vbemax.suppliersOf
  rw [List.map_map]
  apply List.map_congr_left
  intro i _
  show _ = Vbemax.volumeOf s (i + 1) a b k
  rw [volumeOf_eq]
  rfl
theorem who_le {s : Vbemax.State} (h : Fine s) (p d k : Nat) : 1 ≤ Vbemax.whoAt s p d k ∧ Vbemax.whoAt s p d k ≤ s.suppliers := by
  refine ⟨w_pos h p k d, ?_⟩
  have e : Vbemax.whoAt s p d k = supBy s.basic (knownOf s.facts p k) d := wOf_eq s p k d
  rw [e]
  have key : ∀ (l : List Vbemax.Fact) (b : Nat), b ≤ s.suppliers → (∀ f ∈ l, f.supplier ≤ s.suppliers) → supBy b l d ≤ s.suppliers := by
    intro l
    induction l with
    | nil => intro b hb _; exact hb
    | cons f l ih =>
      intro b hb hl
      unfold supBy
      rw [List.foldl_cons]
      refine ih _ ?_ fun g hg => hl g (List.mem_cons_of_mem _ hg)
      split
      · exact hl f (List.mem_cons_self ..)
      · exact hb
  exact key _ _ h.bs fun f hf => h.fs f (known_mem hf).1
def natL (l : List Nat) : List V := l.map fun n => V.int ((n : Nat) : Int)
def sp_qax (A : Adr) : Sp := fun vs H Q _ => ∃ (a : Addr) (s : Vbemax.State) (L : Lay) (x y k : Nat), vs = [.ref a, .int x, .int y, .int k] ∧ HA A H a s L ∧ Fine s ∧
  ∀ H' l, H l = none → Same H H' → H' l = some (.lst (natL ((Vbemax.suppliersOf s).map fun z => Vbemax.volumeOf s z x y k))) → Q (.ref l) H'
theorem ok_qax (T : Txt K mg A) : FnOk P w K mg base CX0 3 A.qax.1 A.qax.2 ["house", "first", "last", "known_at"] (sp_qax A) := by
  refine T.qax.F.ok sc_qax (fun vs H Q E h => ?_) (fun cdv An outer s0 H vs Q E hr h => ?_)
  · obtain ⟨a, s, L, x, y, k, rfl, _⟩ := h
    rfl
  · obtain ⟨a, s, L, x, y, k, rfl, hA, hF, q⟩ := h
    have nd := sc_qax.nd
    have hu := hu_of hr
    refine ⟨_, (pss_cons (ps_set (i := 4) nd rfl (Or.inl rfl) (pe_call (ok_qaw T) (hr.mono (by decide)) rfl T.qaw.g T.qaw.F.kp T.qaw.b .nil pass0 (pa_cons (pv 0) (pa_cons (pv 3) pa_nil))))
      (pss_cons (ps_set (i := 5) nd rfl (Or.inl rfl) (pe_op op_rep (pe_lst (pa_cons pe_int pa_nil)) (pe_fl T (pv 0))))
      (pss_cons (ps_lock (ps_for PassesOwn.never rfl (pi_keys (pv 4)) (pg_name (i := 6) nd rfl (Or.inl rfl)) (pss_cons (ps_set (i := 7) nd rfl (Or.inl rfl) (pe_ix ix_tup (pv 6) pe_int (fun _ _ => rfl)))
      (pss_one (ps_if ((pw_and (pt_cmpR op_le (pv 1) (pv 7) (nomark _)) (pw_and1 (pt_cmpR op_le (pv 7) (pv 2) (nomark _))))).pt (pss_one (ps_augS (pv 5) (pe_op op_sub (pe_call (ok_qar T) (hr.mono (by decide)) rfl T.qar.g T.qar.F.kp T.qar.b .nil pass0 (pa_cons (pv 0) (pa_cons (pe_ix ix_tup (pv 6) pe_int (fun _ _ => rfl)) (pa_cons (pv 7) (pa_cons (pv 3) pa_nil))))) pe_int) get_list (pe_dget hu (pv 4) (pv 6) (fun _ _ => rfl)) ip_add set_list)) pss_nil)))))
      (pss_one (ps_ret (pv 5)))))), ?_⟩
    refine ⟨_, rfl, _, rfl, a, s, L, k, rfl, hA, fun H1 d hn1 s1 h1 => ?_⟩
    refine ⟨sz1, fun l0 hl0 => ?_⟩
    have s2 : Same H1 (upd H1 l0 (.lst [.int 0])) := same_new hl0
    have hsp := hA.sm.sp
    refine ⟨_, rfl, a, _, _, _, _, rfl, s2 _ _ (s1 _ _ hA.ho), T.qad.cl, T.qad.nf 2 _ rfl, rfl, l0, _, _, rfl, rfl, upd_same, by omega, by omega, ?_, fun lt hlt => ?_⟩
    · rw [Int.toNat_natCast]
      exact Nat.le_of_lt (small1000 (by show 1 * s.suppliers ≤ 1000; omega))
    have s3 : Same (upd H1 l0 (.lst [.int 0])) (upd (upd H1 l0 (.lst [.int 0])) lt (.lst (List.replicate (Int.toNat ((s.suppliers : Nat) : Int)) [V.int 0]).flatten)) := same_new hlt
    have e0 : (List.replicate (Int.toNat ((s.suppliers : Nat) : Int)) [V.int 0]).flatten = natL (totL s x y k []) := by
      rw [Int.toNat_natCast]
      unfold totL natL
      rw [List.map_map]
      generalize s.suppliers = n
      induction n with
      | zero => rfl
      | succ n ih =>
        rw [List.range_succ, List.map_append, ← ih, List.replicate_succ', List.flatten_append]
        rfl
    rw [e0] at s3 ⊢
    have hltd : lt ≠ d := fun z => by rw [z, s2 _ _ h1] at hlt; cases hlt
    refine ⟨d, _, s3 _ _ (s2 _ _ h1), trivial, fun od => ?_⟩
    refine ⟨_, rfl, d, od, rfl, .inr ⟨_, upd_same, ?_⟩⟩
    have base0 : ∀ b o, H b = some o → (upd (upd (upd H1 l0 (.lst [.int 0])) lt (.lst (natL (totL s x y k [])))) d (.frz od (.dT (amtKv (amts (knownV s k)))))) b = some o := fun b o e => by
      rw [upd_ne (fun z => by rw [z, hn1] at e; cases e)]
      exact s3 _ _ (s2 _ _ (s1 _ _ e))
    refine for_it (n := (amtKv (amts (knownV s k))).length) (fun i σ H' => ∃ (v6 v7 : Option V), σ = [some (.ref a), some (.int x), some (.int y), some (.int k), some (.ref d), some (.ref lt), v6, v7] ∧ Same H H' ∧ H' d = some (.frz od (.dT (amtKv (amts (knownV s k))))) ∧ H' lt = some (.lst (natL (totL s x y k ((amts (knownV s k)).take i))))) ?_ ?_ ?_ ?_ ?_
    · exact ⟨none, none, rfl, base0, upd_same, by rw [upd_ne hltd, upd_same, List.take_zero]⟩
    · rintro i σ H' hi ⟨v6, v7, _, _, hd, _⟩
      exact ⟨hd, hi⟩
    · rintro σ H' ⟨v6, v7, _, _, hd, _⟩
      exact ⟨hd, Nat.le_refl _⟩
    · rintro i σ H'' x' H' hi ⟨v6, v7, rfl, sH, hd, htot⟩ ⟨rfl, ky, vv, qa, hkv, rfl, hq⟩
      have hi2 : i < (amts (knownV s k)).length := by
        unfold amtKv at hi
        rw [List.length_map] at hi
        exact hi
      obtain ⟨m, hm⟩ : ∃ m, (amts (knownV s k))[i]? = some m := ⟨_, List.getElem?_eq_getElem hi2⟩
      have hkv2 : (amtKv (amts (knownV s k)))[i]? = some (kPD m.1, V.int ((m.2 : Nat) : Int)) := by
        unfold amtKv
        rw [List.getElem?_map, hm]
        rfl
      rw [hkv2] at hkv
      have ek := Option.some.inj hkv
      injection ek with ek1 ek2
      subst ek1
      have hqt : H' qa = some (.tup [.int ((m.1.1 : Nat) : Int), .int ((m.1.2 : Nat) : Int)]) := hq
      have tk : (amts (knownV s k)).take (i + 1) = (amts (knownV s k)).take i ++ [m] := take_more hm
      refine ⟨_, rfl, qa, _, _, _, rfl, rfl, SqT.of hqt, rfl, ?_⟩
      refine ⟨_, rfl, _, rfl, _, _, rfl, rfl, _, rfl, ?_⟩
      rw [dle]
      have fin : inR x y m = false → ∃ (v6 v7 : Option V), ([some (V.ref a), some (V.int x), some (V.int y), some (V.int k), some (V.ref d), some (V.ref lt), some (V.ref qa), some (V.int ((m.1.2 : Nat) : Int))] : L2.St) = [some (.ref a), some (.int x), some (.int y), some (.int k), some (.ref d), some (.ref lt), v6, v7] ∧ Same H H' ∧ H' d = some (.frz od (.dT (amtKv (amts (knownV s k))))) ∧ H' lt = some (.lst (natL (totL s x y k ((amts (knownV s k)).take (i + 1))))) := fun e => by
        refine ⟨_, _, rfl, sH, hd, ?_⟩
        rw [tk, totL_out e]
        exact htot
      refine ite2 (fun c1 => ?_) (fun c1 => ?_)
      · refine ⟨_, rfl, _, rfl, _, _, rfl, rfl, _, rfl, ?_⟩
        rw [dle]
        refine ite2 (fun c2 => ?_) (fun c2 => ?_)
        · have ein : inR x y m = true := by
            unfold inR
            rw [c1, c2]
            rfl
          obtain ⟨w1, w2⟩ := who_le hF m.1.1 m.1.2 k
          obtain ⟨j, hj⟩ : ∃ j, Vbemax.whoAt s m.1.1 m.1.2 k = j + 1 := ⟨Vbemax.whoAt s m.1.1 m.1.2 k - 1, by omega⟩
          have hjs : j < s.suppliers := by omega
          refine ⟨_, rfl, _, rfl, _, rfl, qa, _, _, _, rfl, rfl, SqT.of hqt, rfl, _, rfl, _, rfl, a, s, L, m.1.1, m.1.2, k, rfl, hA.same sH, fun H3 s4 => ?_⟩
          have hl3 := s4 _ _ htot
          have hjl : j < (natL (totL s x y k ((amts (knownV s k)).take i))).length := by
            unfold natL totL
            rw [List.length_map, List.length_map, List.length_range]
            exact hjs
          have hgj : (natL (totL s x y k ((amts (knownV s k)).take i)))[j]? = some (V.int ((totOf s x y k ((amts (knownV s k)).take i) (j + 1) : Nat) : Int)) := by
            unfold natL
            rw [List.getElem?_map, totL_get hjs]
            rfl
          have ej : ((Vbemax.whoAt s m.1.1 m.1.2 k : Nat) : Int) - 1 = (j : Int) := by omega
          have hval : valV (amtKv (amts (knownV s k))) (kPD m.1) = some (V.int ((m.2 : Nat) : Int)) := by
            rw [valV_amt, getA_mem (amts_nodup _) (show (m.1, m.2) ∈ _ from List.mem_of_getElem? hm)]
            rfl
          refine ⟨_, _, rfl, rfl, lt, _, j, _, rfl, congrArg V.int ej, SqL.of hl3, hgj, _, rfl, _, rfl, d, _, rfl, .inr ⟨_, kPD m.1, qa, .inr ⟨od, s4 _ _ hd⟩, rfl, s4 _ _ hqt, hval.symm⟩, _, _, rfl, rfl, lt, _, _, j, rfl, rfl, hl3, ?_, ?_⟩
          · have e1 : ixN (natL (totL s x y k ((amts (knownV s k)).take i))).length (j : Int) = some j := by
              unfold ixN
              rw [if_pos (by omega), if_pos (by omega), Int.toNat_natCast]
            rw [← ej] at e1
            exact e1
          · refine ⟨_, _, rfl, fun b o e => ?_, ?_, ?_⟩
            · rw [upd_ne (fun z => by rw [z] at e; rw [(s1.trans s2) _ _ e] at hlt; cases hlt)]
              exact s4 _ _ (sH _ _ e)
            · rw [upd_ne (Ne.symm hltd)]
              exact s4 _ _ hd
            · rw [upd_same, tk, totL_in ein hj hjs]
              unfold natL
              rw [List.map_set]
              rfl
        · exact fin (by unfold inR; rw [Bool.and_eq_false_iff]; right; simpa using c2)
      · refine iteF (fin ?_)
        unfold inR
        rw [Bool.and_eq_false_iff]
        left
        simpa using c1
    · rintro σ H' ⟨v6, v7, rfl, sH, hd, htot⟩
      refine ⟨hd, ?_⟩
      refine ⟨_, rfl, ?_⟩
      have hle : (amtKv (amts (knownV s k))).length = (amts (knownV s k)).length := by
        unfold amtKv
        rw [List.length_map]
      rw [hle, List.take_length, totL_all] at htot
      refine q _ lt ((s1.trans s2).free hlt) (fun b o e => ?_) ?_
      · rw [upd_ne (fun z => by rw [z, hn1] at e; cases e)]
        exact sH _ _ e
      · rw [upd_ne hltd]
        exact htot
def sp_qay (A : Adr) : Sp := fun vs H Q _ => ∃ (a : Addr) (s : Vbemax.State) (L : Lay) (z x y k : Nat), vs = [.ref a, .int z, .int x, .int y, .int k] ∧ 1 ≤ z ∧ z ≤ s.suppliers ∧ HA A H a s L ∧ Fine s ∧
  ∀ H', Same H H' → Q (.int (Vbemax.volumeOf s z x y k : Nat)) H'
theorem ok_qay (T : Txt K mg A) : FnOk P w K mg base CX0 4 A.qay.1 A.qay.2 ["house", "supplier", "first", "last", "known_at"] (sp_qay A) := by
  refine T.qay.F.ok sc_qay (fun vs H Q E h => ?_) (fun cdv An outer s0 H vs Q E hr h => ?_)
  · obtain ⟨a, s, L, z, x, y, k, rfl, _⟩ := h
    rfl
  · obtain ⟨a, s, L, z, x, y, k, rfl, hz1, hz2, hA, hF, q⟩ := h
    refine ⟨_, (pss_one (ps_ret (pe_ix ix_list (pe_call (ok_qax T) (hr.mono (by decide)) rfl T.qax.g T.qax.F.kp T.qax.b .nil pass0 (pa_cons (pv 0) (pa_cons (pv 2) (pa_cons (pv 3) (pa_cons (pv 4) pa_nil))))) (pe_op op_sub (pv 1) pe_int) (fun _ _ => rfl)))), ?_⟩
    refine ⟨_, rfl, _, rfl, _, rfl, _, rfl, a, s, L, x, y, k, rfl, hA, hF, fun H1 l hn1 s1 h1 => ?_⟩
    refine ⟨_, rfl, _, _, rfl, rfl, l, _, _, _, rfl, rfl, SqL.of h1, ?_, q _ s1⟩
    have e : ((z : Nat) : Int) - 1 = ((z - 1 : Nat) : Int) := by omega
    rw [e]
    apply atI_nat
    unfold natL Vbemax.suppliersOf
    rw [List.map_map, List.map_map, List.getElem?_map, List.getElem?_range (by omega)]
    show some (V.int ((Vbemax.volumeOf s (z - 1 + 1) x y k : Nat) : Int)) = _
    rw [show z - 1 + 1 = z by omega]
end
def Foot (a : Addr) (L : Lay) (b : Addr) : Prop := b = a ∨ b = L.f ∨ b = L.h ∨ b = L.r ∨ b = L.fa ∨ b = L.v ∨ b = L.b ∨ b ∈ L.rs
structure Frm (a : Addr) (L : Lay) (H : Hp) (L' : Lay) (H' : Hp) : Prop where
  keep : ∀ b o, H b = some o → ¬ Foot a L b → H' b = some o
  foot : ∀ b, Foot a L' b → Foot a L b ∨ H b = none
theorem Frm.same {a : Addr} {L : Lay} {H H' : Hp} (s : Same H H') : Frm a L H L H' := ⟨fun b o e _ => s b o e, fun b h => .inl h⟩
theorem Frm.trans {a : Addr} {L L1 L2 : Lay} {H H1 H2 : Hp} (x : Frm a L H L1 H1) (y : Frm a L1 H1 L2 H2) : Frm a L H L2 H2 := by
  refine ⟨fun b o e n => ?_, fun b h => ?_⟩
  · refine y.keep b o (x.keep b o e n) fun z => ?_
    rcases x.foot b z with z | z
    · exact n z
    · rw [z] at e; cases e
  · rcases y.foot b h with z | z
    · exact x.foot b z
    · cases e : H b with
      | none => exact .inr rfl
      | some o =>
        by_cases n : Foot a L b
        · exact .inl n
        · rw [x.keep b o e n] at z; cases z
def Done (A : Adr) (a : Addr) (L : Lay) (H : Hp) (Q : VK) (r : Vbemax.State × List Int) : Prop :=
  ∀ H' L' l, Frm a L H L' H' → HA A H' a r.1 L' → H l = none → H' l = some (.lst (r.2.map V.int)) → Q (.ref l) H'
theorem Done.q {A : Adr} {a : Addr} {s : Vbemax.State} {L : Lay} {H H' : Hp} {Q : VK} {r : Vbemax.State × List Int} {ans : List Int} {l : Addr} (D : Done A a L H Q r) (hA : HA A H a s L) (hr : r = (s, ans)) (s1 : Same H H') (hn : H l = none) (h : H' l = some (.lst (ans.map V.int))) : Q (.ref l) H' := by
  subst hr
  exact D H' L l (Frm.same s1) (hA.same s1) hn h
theorem Done.lit {A : Adr} {a : Addr} {s : Vbemax.State} {L : Lay} {H H1 : Hp} {Q : VK} {r : Vbemax.State × List Int} {ans : List Int} {xs : List V} {l : Addr} (D : Done A a L H Q r) (hA : HA A H a s L) (hr : r = (s, ans)) (s1 : Same H H1) (hn : H1 l = none) (hx : xs = ans.map V.int) : Q (.ref l) (upd H1 l (.lst xs)) := by
  subst hx
  exact D.q hA hr (s1.trans (same_new hn)) (s1.free hn) upd_same
theorem step_err {s : Vbemax.State} {c : Vbemax.Call} {e : Int} (ho : s.opened = true) (h : Vbemax.does s c = .error e) : Vbemax.step s c = (s, [e]) := by
  unfold Vbemax.step
  rw [if_neg (by rw [ho]; simp), h]
theorem step_ok {s t : Vbemax.State} {c : Vbemax.Call} {l : List Int} (ho : s.opened = true) (h : Vbemax.does s c = .ok (t, l)) : Vbemax.step s c = (t, 0 :: l) := by
  unfold Vbemax.step
  rw [if_neg (by rw [ho]; simp), h]
theorem kept_pick {A : Adr} {H : Hp} {a : Addr} {s : Vbemax.State} {L : Lay} (h : HA A H a s L) : (pick isW L.rs s.requests).length = Vbemax.kept s := by
  exact Paired.length (pick_paired isW h.rqs)
section
variable {P : Program} {w : World} {K : PySem.W.Frag} {mg : Str → Option Value} {base : Heap} {A : Adr}
def sp_qab (A : Adr) : Sp := fun vs H Q _ => ∃ (p dx : Addr) (f : Vbemax.Fact), vs = [.ref p, .int f.point, .int f.from_, .int f.to_, .int f.supplier, .int f.known] ∧ H p = some (.ins A.qab dx []) ∧
  ∀ H', H' p = some (.ins A.qab dx (ff f)) → (∀ b o, H b = some o → b ≠ p → H' b = some o) → Q .non H'
theorem ok_qab (T : Txt K mg A) : FnOk P w K mg base CX0 1 A.qab_i.1 A.qab_i.2 ["self", "point", "first", "last", "supplier", "known_from"] (sp_qab A) := by
  refine T.qab.F.ok sc_qab (fun vs H Q E h => ?_) (fun cdv An outer s0 H vs Q E hr h => ?_)
  · obtain ⟨p, dx, f, rfl, _⟩ := h
    rfl
  · obtain ⟨p, dx, f, rfl, hp, q⟩ := h
    refine ⟨_, pss_cons (ps_fld (pv 0) (pv 1) rfl) (pss_cons (ps_fld (pv 0) (pv 2) rfl) (pss_cons (ps_fld (pv 0) (pv 3) rfl) (pss_cons (ps_fld (pv 0) (pv 4) rfl) (pss_one (ps_fld (pv 0) (pv 5) rfl))))), ?_⟩
    refine ⟨_, rfl, _, rfl, p, _, dx, _, rfl, hp, T.qab.cl, T.qab.nf 0 _ rfl, (by show 0 < 1000; decide), ?_⟩
    refine ⟨_, rfl, _, rfl, p, _, dx, _, rfl, upd_same, T.qab.cl, T.qab.nf 1 _ rfl, (by show 1 < 1000; decide), ?_⟩
    refine ⟨_, rfl, _, rfl, p, _, dx, _, rfl, upd_same, T.qab.cl, T.qab.nf 2 _ rfl, (by show 2 < 1000; decide), ?_⟩
    refine ⟨_, rfl, _, rfl, p, _, dx, _, rfl, upd_same, T.qab.cl, T.qab.nf 3 _ rfl, (by show 3 < 1000; decide), ?_⟩
    refine ⟨_, rfl, _, rfl, p, _, dx, _, rfl, upd_same, T.qab.cl, T.qab.nf 4 _ rfl, (by show 4 < 1000; decide), ?_⟩
    rw [upd_upd, upd_upd, upd_upd, upd_upd]
    exact q _ upd_same (fun b o e hb => by rw [upd_ne hb]; exact e)
def sp_qac (A : Adr) : Sp := fun vs H Q _ => ∃ (p dx : Addr) (f : Vbemax.Volume), vs = [.ref p, .int f.point, .int f.day, .int f.amount, .int f.known] ∧ H p = some (.ins A.qac dx []) ∧
  ∀ H', H' p = some (.ins A.qac dx (vf f)) → (∀ b o, H b = some o → b ≠ p → H' b = some o) → Q .non H'
theorem ok_qac (T : Txt K mg A) : FnOk P w K mg base CX0 1 A.qac_i.1 A.qac_i.2 ["self", "point", "day", "amount", "told_on"] (sp_qac A) := by
  refine T.qac.F.ok sc_qac (fun vs H Q E h => ?_) (fun cdv An outer s0 H vs Q E hr h => ?_)
  · obtain ⟨p, dx, f, rfl, _⟩ := h
    rfl
  · obtain ⟨p, dx, f, rfl, hp, q⟩ := h
    refine ⟨_, pss_cons (ps_fld (pv 0) (pv 1) rfl) (pss_cons (ps_fld (pv 0) (pv 2) rfl) (pss_cons (ps_fld (pv 0) (pv 3) rfl) (pss_one (ps_fld (pv 0) (pv 4) rfl)))), ?_⟩
    refine ⟨_, rfl, _, rfl, p, _, dx, _, rfl, hp, T.qac.cl, T.qac.nf 0 _ rfl, (by show 0 < 1000; decide), ?_⟩
    refine ⟨_, rfl, _, rfl, p, _, dx, _, rfl, upd_same, T.qac.cl, T.qac.nf 1 _ rfl, (by show 1 < 1000; decide), ?_⟩
    refine ⟨_, rfl, _, rfl, p, _, dx, _, rfl, upd_same, T.qac.cl, T.qac.nf 2 _ rfl, (by show 2 < 1000; decide), ?_⟩
    refine ⟨_, rfl, _, rfl, p, _, dx, _, rfl, upd_same, T.qac.cl, T.qac.nf 3 _ rfl, (by show 3 < 1000; decide), ?_⟩
    rw [upd_upd, upd_upd, upd_upd]
    exact q _ upd_same (fun b o e hb => by rw [upd_ne hb]; exact e)
def sp_qaa (A : Adr) : Sp := fun vs H Q _ => ∃ (p dx : Addr) (f : Vbemax.Request), vs = [.ref p, .int f.point, .int f.supplier, .int f.start, .int f.old, .int f.deadline] ∧ f.stage = 0 ∧ H p = some (.ins A.qaa dx []) ∧
  ∀ H', H' p = some (.ins A.qaa dx (rf f)) → (∀ b o, H b = some o → b ≠ p → H' b = some o) → Q .non H'
theorem ok_qaa (T : Txt K mg A) : FnOk P w K mg base CX0 1 A.qaa_i.1 A.qaa_i.2 ["self", "point", "supplier", "start", "old", "deadline"] (sp_qaa A) := by
  refine T.qaa.F.ok sc_qaa (fun vs H Q E h => ?_) (fun cdv An outer s0 H vs Q E hr h => ?_)
  · obtain ⟨p, dx, f, rfl, _⟩ := h
    rfl
  · obtain ⟨p, dx, f, rfl, h0, hp, q⟩ := h
    refine ⟨_, pss_cons (ps_fld (pv 0) (pv 1) rfl) (pss_cons (ps_fld (pv 0) (pv 2) rfl) (pss_cons (ps_fld (pv 0) (pv 3) rfl) (pss_cons (ps_fld (pv 0) (pv 4) rfl) (pss_cons (ps_fld (pv 0) (pv 5) rfl) (pss_one (ps_fld (pv 0) (pe_co T.qcj) rfl)))))), ?_⟩
    refine ⟨_, rfl, _, rfl, p, _, dx, _, rfl, hp, T.qaa.cl, T.qaa.nf 0 _ rfl, (by show 0 < 1000; decide), ?_⟩
    refine ⟨_, rfl, _, rfl, p, _, dx, _, rfl, upd_same, T.qaa.cl, T.qaa.nf 1 _ rfl, (by show 1 < 1000; decide), ?_⟩
    refine ⟨_, rfl, _, rfl, p, _, dx, _, rfl, upd_same, T.qaa.cl, T.qaa.nf 2 _ rfl, (by show 2 < 1000; decide), ?_⟩
    refine ⟨_, rfl, _, rfl, p, _, dx, _, rfl, upd_same, T.qaa.cl, T.qaa.nf 3 _ rfl, (by show 3 < 1000; decide), ?_⟩
    refine ⟨_, rfl, _, rfl, p, _, dx, _, rfl, upd_same, T.qaa.cl, T.qaa.nf 4 _ rfl, (by show 4 < 1000; decide), ?_⟩
    refine ⟨_, rfl, p, _, dx, _, rfl, upd_same, T.qaa.cl, T.qaa.nf 5 _ rfl, (by show 5 < 1000; decide), ?_⟩
    rw [upd_upd, upd_upd, upd_upd, upd_upd, upd_upd]
    have e0 : rf f = ([("point", .int f.point), ("supplier", .int f.supplier), ("start", .int f.start), ("old", .int f.old), ("deadline", .int f.deadline), ("standing", .int 0)] : List (Str × V)) := by
      unfold rf
      rw [h0]
      rfl
    rw [e0] at q
    exact q _ upd_same (fun b o e hb => by rw [upd_ne hb]; exact e)
theorem HA.addFact {A : Adr} {H H' : Hp} {a : Addr} {s : Vbemax.State} {L : Lay} {x : Addr} {f : Vbemax.Fact} (h : HA A H a s L) (hn : s.facts.length ≤ 500) (kp : ∀ b o, H b = some o → b ≠ L.fa → H' b = some o) (hx : FcAt A.qab H' x f) (hl : H' L.fa = some (.lst (L.fs.map V.ref ++ [V.ref x]))) :
    HA A H' a { s with facts := s.facts ++ [f] } { L with fs := L.fs ++ [x] } := by
  have n1 : a ≠ L.fa := ne_of h.ho h.fc (by intro q; cases q)
  have n2 : L.f ≠ L.fa := ne_of h.fl h.fc (by intro q; cases q)
  have n3 : L.h ≠ L.fa := ne_of h.hl h.fc (by intro q; cases q)
  have n4 : L.b ≠ L.fa := ne_of h.bl h.fc (by intro q; cases q)
  refine ⟨kp _ _ h.ho n1, kp _ _ h.fl n2, kp _ _ h.hl n3, h.hk, kp _ _ h.rq h.rfa, paired_same (fun p q ⟨d, z⟩ => ⟨d, kp _ _ z (ne_of z h.fc (by intro q; cases q))⟩) h.rqs, ?_, ?_, kp _ _ h.vl (Ne.symm h.fav), paired_same (fun p q ⟨d, z⟩ => ⟨d, kp _ _ z (ne_of z h.fc (by intro q; cases q))⟩) h.vls, kp _ _ h.bl n4, h.fh, h.rfa, h.rv, h.fav, h.rnd, ?_⟩
  · rw [List.map_append]
    exact hl
  · exact paired_snoc (paired_same (fun p q ⟨d, z⟩ => ⟨d, kp _ _ z (ne_of z h.fc (by intro q; cases q))⟩) h.fcs) hx
  · exact ⟨h.sm.rq, by show (s.facts ++ [f]).length ≤ 600; rw [List.length_append]; simp; omega, h.sm.vl, h.sm.bl, h.sm.hl, h.sm.pt, h.sm.sp, h.sm.fl⟩
theorem foot_fa {a : Addr} {L : Lay} : Foot a L L.fa := .inr (.inr (.inr (.inr (.inl rfl))))
theorem foot_same {a : Addr} {L L' : Lay} (h1 : L'.f = L.f) (h2 : L'.h = L.h) (h3 : L'.r = L.r) (h4 : L'.fa = L.fa) (h5 : L'.v = L.v) (h6 : L'.b = L.b) (h7 : L'.rs = L.rs) {b : Addr} (h : Foot a L' b) : Foot a L b := by
  unfold Foot at h ⊢
  rw [h1, h2, h3, h4, h5, h6, h7] at h
  exact h
theorem addFact_done {A : Adr} {H H1 H4 : Hp} {a : Addr} {s : Vbemax.State} {L : Lay} {x : Addr} {f : Vbemax.Fact} {Q : VK} {r : Vbemax.State × List Int} {xs : List V} {l : Addr} (D : Done A a L H Q r) (hA : HA A H1 a s L) (hn : s.facts.length ≤ 500) (s1 : Same H H1) (s4 : Same H1 H4) (hx : FcAt A.qab H4 x f)
    (hl : (upd H4 L.fa (.lst (L.fs.map V.ref ++ [V.ref x]))) l = none) (hr : r.1 = { s with facts := s.facts ++ [f] }) (hq : xs = r.2.map V.int) : Q (.ref l) (upd (upd H4 L.fa (.lst (L.fs.map V.ref ++ [V.ref x]))) l (.lst xs)) := by
  have hfa : H4 L.fa = some (.lst (L.fs.map V.ref)) := s4 _ _ hA.fc
  have hlf : l ≠ L.fa := fun z => by rw [z, upd_same] at hl; cases hl
  have hl4 : H4 l = none := by rw [upd_ne hlf] at hl; exact hl
  obtain ⟨dx, hx⟩ := hx
  have hxf : x ≠ L.fa := ne_of hx hfa (by intro q; cases q)
  have hA4 := hA.same s4
  have hA5 : HA A (upd (upd H4 L.fa (.lst (L.fs.map V.ref ++ [V.ref x]))) l (.lst xs)) a { s with facts := s.facts ++ [f] } { L with fs := L.fs ++ [x] } := by
    refine HA.same (hA4.addFact (H' := upd H4 L.fa (.lst (L.fs.map V.ref ++ [V.ref x]))) hn (fun b o e hb => by rw [upd_ne hb]; exact e) ⟨dx, by rw [upd_ne hxf]; exact hx⟩ upd_same) (same_new hl)
  refine D _ { L with fs := L.fs ++ [x] } l ⟨fun b o e hb => ?_, fun b hb => .inl (foot_same rfl rfl rfl rfl rfl rfl rfl hb)⟩ (by rw [hr]; exact hA5) ((s1.trans s4).free hl4) (by rw [upd_same, hq])
  rw [upd_ne (ne_of_none ((s1.trans s4) _ _ e) hl4), upd_ne (fun z => hb (by rw [z]; exact foot_fa))]
  exact (s1.trans s4) _ _ e
theorem isPoint_f {s : Vbemax.State} {p : Nat} (h : s.points < p) : Vbemax.isPoint s p = false := by
  unfold Vbemax.isPoint
  rw [decide_eq_false (show ¬ p ≤ s.points by omega), Bool.and_false]
theorem isPoint_t {s : Vbemax.State} {p : Nat} (h1 : 1 ≤ p) (h : ¬ s.points < p) : ¬ Vbemax.isPoint s p = false := by
  unfold Vbemax.isPoint
  rw [decide_eq_true h1, decide_eq_true (show p ≤ s.points by omega)]
  exact fun z => nomatch z
theorem wf_err {s : Vbemax.State} {l : List Vbemax.Fact} {a : List Int} (h : 256 < s.facts.length + l.length + Vbemax.kept s) : Vbemax.withFacts s l a = .error (-4) := if_pos h
theorem wf_ok {s : Vbemax.State} {l : List Vbemax.Fact} {a : List Int} (h : ¬ 256 < s.facts.length + l.length + Vbemax.kept s) : Vbemax.withFacts s l a = .ok ({ s with facts := s.facts ++ l }, a) := if_neg h
theorem good_facts_le {s : Vbemax.State} (g : Good s) : s.facts.length ≤ 500 := by
  have := g.room
  omega
structure Okay (s : Vbemax.State) : Prop where
  op : s.opened = true
  g : Good s
  fi : Fine s
  rs : ∀ r ∈ s.requests, r.supplier ≤ s.suppliers
def sp_qaz (A : Adr) : Sp := fun vs H Q _ => ∃ (a : Addr) (s : Vbemax.State) (L : Lay) (p d : Nat), vs = [.ref a, .int p, .int d] ∧ 1 ≤ p ∧ HA A H a s L ∧ Okay s ∧ Done A a L H Q (Vbemax.step s (.vacate p d))
theorem ok_qaz (T : Txt K mg A) : FnOk P w K mg base CX0 4 A.qaz.1 A.qaz.2 ["house", "point", "day"] (sp_qaz A) := by
  refine T.qaz.F.ok sc_qaz (fun vs H Q E h => ?_) (fun cdv An outer s0 H vs Q E hr h => ?_)
  · obtain ⟨a, s, L, p, d, rfl, _⟩ := h
    rfl
  · obtain ⟨a, s, L, p, d, rfl, hp1, hA, hO, D⟩ := h
    have nd := sc_qaz.nd
    have hu := hu_of hr
    refine ⟨_, (pss_cons (ps_set (i := 3) nd rfl (Or.inl rfl) (pe_fl T (pv 0)))
      (pss_cons (ps_if (pt_val (pe_call (ok_qak T) (hr.mono (by decide)) rfl T.qak.g T.qak.F.kp T.qak.b .nil pass0 (pa_cons (pv 0) (pa_cons (pv 1) pa_nil)))) (pss_one (ps_ret (pe_lst (pa_cons (pe_un un_neg pe_int) pa_nil)))) pss_nil)
      (pss_cons (ps_if ((pw_or (pt_cmpR op_le (pv 2) (pv 3) (nomark _)) (pw_or1 (pt_cmpR op_gt (pv 2) (pe_op op_add (pv 3) pe_int) (nomark _))))).pt (pss_one (ps_ret (pe_lst (pa_cons (pe_un un_neg pe_int) pa_nil)))) pss_nil)
      (pss_cons (ps_if (pt_cmpR op_eq (pe_call (ok_qar T) (hr.mono (by decide)) rfl T.qar.g T.qar.F.kp T.qar.b .nil pass0 (pa_cons (pv 0) (pa_cons (pv 1) (pa_cons (pv 2) (pa_cons (pv 3) pa_nil))))) (pe_fl T (pv 0)) (nomark _)) (pss_one (ps_ret (pe_lst (pa_cons (pe_un un_neg pe_int) pa_nil)))) pss_nil)
      (pss_cons (ps_if (pt_val (pe_call (ok_qao T) (hr.mono (by decide)) rfl T.qao.g T.qao.F.kp T.qao.b .nil pass0 (pa_cons (pv 0) (pa_cons pe_int (pa_cons (pe_callB call_len_seq rfl T.b_len PySem.boot_len (pa_cons (pe_call (ok_qan T) (hr.mono (by decide)) rfl T.qan.g T.qan.F.kp T.qan.b .nil pass0 (pa_cons (pv 0) pa_nil)) pa_nil)) pa_nil))))) (pss_one (ps_ret (pe_lst (pa_cons (pe_un un_neg pe_int) pa_nil)))) pss_nil)
      (pss_cons (ps_set (i := 4) nd rfl (Or.inl rfl) (pe_call (ok_qau T) (hr.mono (by decide)) rfl T.qau.g T.qau.F.kp T.qau.b .nil pass0 (pa_cons (pv 0) (pa_cons (pv 1) (pa_cons (pv 2) (pa_cons (pv 3) pa_nil))))))
      (pss_cons (ps_expr (pe_bm PySem.F.plainAttrs_list PySem.F.slot_list_append PySem.F.type_list_append mt_append (pe_fl T (pv 0)) (pa_cons (pe_make T.qab.M (ok_qab T) (hr.mono (by decide)) rfl T.qab.g T.qab.b .nil pass0 (pa_cons (pv 1) (pa_cons (pv 2) (pa_cons (pv 4) (pa_cons (pe_fl T (pv 0)) (pa_cons (pv 3) pa_nil)))))) pa_nil)))
      (pss_one (ps_ret (pe_lst (pa_cons pe_int (pa_cons (pv 4) pa_nil)))))))))))), ?_⟩
    refine ⟨_, rfl, a, _, _, _, _, rfl, hA.ho, T.qad.cl, T.qad.nf 5 _ rfl, rfl, ?_⟩
    refine ⟨_, rfl, _, rfl, a, s, L, p, rfl, hA, _, rfl, ?_⟩
    have dd : Vbemax.does s (.vacate p d) = if Vbemax.isPoint s p = false then .error (-5) else if d ≤ s.today ∨ s.today + Vbemax.WINDOW < d then .error (-8) else if Vbemax.whoAt s p d s.today = s.basic then .error (-9)
      else Vbemax.withFacts s [⟨p, d, Vbemax.until_ s.basic s.facts p d s.today, s.basic, s.today⟩] [Vbemax.nat (Vbemax.until_ s.basic s.facts p d s.today)] := rfl
    refine ite2 (fun c => ?_) (fun c1 => ?_)
    · refine ⟨_, rfl, sz1, fun l hl => ?_⟩
      refine D.lit hA (step_err hO.op ?_) (Same.refl _) hl rfl
      rw [dd, if_pos (isPoint_f (of_decide_eq_true c))]
    rw [if_neg (isPoint_t hp1 (fun z => c1 (decide_eq_true z)))] at dd
    have e8 : (d ≤ s.today ∨ s.today + Vbemax.WINDOW < d) → ∀ l, H l = none → Q (.ref l) (upd H l (.lst [.int (-8)])) := fun z l hl => by
      refine D.lit hA (step_err hO.op ?_) (Same.refl _) hl rfl
      rw [dd, if_pos z]
    refine ⟨_, rfl, _, rfl, _, _, rfl, rfl, _, rfl, ?_⟩
    rw [dle]
    refine ite2 (fun c => ?_) (fun c2 => ?_)
    · exact iteT ⟨_, rfl, sz1, fun l hl => e8 (.inl (of_decide_eq_true c)) l hl⟩
    refine ⟨_, rfl, _, rfl, _, _, rfl, rfl, _, _, rfl, rfl, _, rfl, ?_⟩
    refine ite2 (fun c => ?_) (fun c3 => ?_)
    · refine ⟨_, rfl, sz1, fun l hl => e8 (.inr ?_) l hl⟩
      have := of_decide_eq_true c
      show s.today + 400 < d
      omega
    have n8 : ¬ (d ≤ s.today ∨ s.today + Vbemax.WINDOW < d) := by
      rintro (z | z)
      · exact c2 (decide_eq_true z)
      · exact c3 (decide_eq_true (by have : s.today + 400 < d := z; omega))
    rw [if_neg n8] at dd
    refine ⟨_, rfl, _, rfl, _, rfl, _, rfl, a, s, L, p, d, s.today, rfl, hA, fun H1 s1 => ?_⟩
    refine ⟨_, rfl, a, _, _, _, _, rfl, s1 _ _ hA.ho, T.qad.cl, T.qad.nf 1 _ rfl, rfl, rfl, _, rfl, ?_⟩
    rw [deq]
    refine ite2 (fun c => ?_) (fun c4 => ?_)
    · refine ⟨_, rfl, sz1, fun l hl => ?_⟩
      refine D.lit hA (step_err hO.op ?_) s1 hl rfl
      rw [dd, if_pos (of_decide_eq_true c)]
    rw [if_neg (fun z => c4 (decide_eq_true z))] at dd
    have hA1 := hA.same s1
    refine ⟨_, rfl, _, rfl, a, s, L, rfl, hA1, fun H2 l2 hn2 s2 h2 => ?_⟩
    refine ⟨l2, _, rfl, .inl (SqL.of h2), a, s, L, 1, _, rfl, hA1.same s2, _, rfl, ?_⟩
    rw [List.length_map, kept_pick hA]
    have s12 := s1.trans s2
    refine ite2 (fun c => ?_) (fun c5 => ?_)
    · refine ⟨_, rfl, sz1, fun l hl => ?_⟩
      refine D.lit hA (step_err hO.op ?_) s12 hl rfl
      rw [dd]
      exact wf_err (of_decide_eq_true c)
    have ok : Vbemax.does s (.vacate p d) = .ok ({ s with facts := s.facts ++ [⟨p, d, Vbemax.until_ s.basic s.facts p d s.today, s.basic, s.today⟩] }, [Vbemax.nat (Vbemax.until_ s.basic s.facts p d s.today)]) := by
      rw [dd]
      exact wf_ok (fun z => c5 (decide_eq_true z))
    rw [step_ok hO.op ok] at D
    have hA2 := hA1.same s2
    refine ⟨_, rfl, _, rfl, _, rfl, _, rfl, a, s, L, p, d, s.today, rfl, hA2, hO.fi, fun H3 s3 => ?_⟩
    have hA3 := hA2.same s3
    refine ⟨_, rfl, a, _, _, _, _, rfl, hA3.ho, T.qad.cl, T.qad.nf 10 _ rfl, rfl, .inl ⟨rfl, _, SqL.of hA3.fc⟩, _, rfl, _, rfl, _, rfl, _, rfl, a, _, _, _, _, rfl, hA3.ho, T.qad.cl, T.qad.nf 1 _ rfl, rfl, _, rfl, fun x dx hx hdx hne =>
      ⟨x, dx, ⟨p, d, Vbemax.until_ s.basic s.facts p d s.today, s.basic, s.today⟩, rfl, upd_same, fun H4 h4 k4 => ⟨rfl, ?_⟩⟩⟩
    have s4 : Same H3 H4 := Same.made hx hdx k4
    have hnl := good_facts_le hO.g
    refine ⟨L.fa, _, _, rfl, rfl, s4 _ _ hA3.fc, ?_, ?_⟩
    · have := Paired.length hA.fcs
      rw [List.length_map]
      exact small1000 (by omega)
    refine ⟨_, rfl, sz2, fun l hl => ?_⟩
    exact addFact_done D hA3 hnl (s12.trans s3) s4 ⟨dx, h4⟩ hl rfl rfl
theorem lives_f {s : Vbemax.State} {x : Nat} (h : (!Vbemax.lives s x) = true) : Vbemax.lives s x = false := by
  cases z : Vbemax.lives s x with
  | true => rw [z] at h; cases h
  | false => rfl
theorem lives_t {s : Vbemax.State} {x : Nat} (h : ¬ (!Vbemax.lives s x) = true) : ¬ Vbemax.lives s x = false := fun z => h (by rw [z]; rfl)
def sp_qba (A : Adr) : Sp := fun vs H Q _ => ∃ (a : Addr) (s : Vbemax.State) (L : Lay) (p i j x : Nat), vs = [.ref a, .int p, .int i, .int j, .int x] ∧ 1 ≤ p ∧ 1 ≤ x ∧ HA A H a s L ∧ Okay s ∧ Done A a L H Q (Vbemax.step s (.correct p i j x))
theorem ok_qba (T : Txt K mg A) : FnOk P w K mg base CX0 3 A.qba.1 A.qba.2 ["house", "point", "first", "last", "supplier"] (sp_qba A) := by
  refine T.qba.F.ok sc_qba (fun vs H Q E h => ?_) (fun cdv An outer s0 H vs Q E hr h => ?_)
  · obtain ⟨a, s, L, p, i, j, x, rfl, _⟩ := h
    rfl
  · obtain ⟨a, s, L, p, i, j, x, rfl, hp1, hx1, hA, hO, D⟩ := h
    have nd := sc_qba.nd
    have hu := hu_of hr
    refine ⟨_, (pss_cons (ps_set (i := 5) nd rfl (Or.inl rfl) (pe_fl T (pv 0)))
      (pss_cons (ps_if (pt_val (pe_call (ok_qak T) (hr.mono (by decide)) rfl T.qak.g T.qak.F.kp T.qak.b .nil pass0 (pa_cons (pv 0) (pa_cons (pv 1) pa_nil)))) (pss_one (ps_ret (pe_lst (pa_cons (pe_un un_neg pe_int) pa_nil)))) pss_nil)
      (pss_cons (ps_if (pt_val (pe_call (ok_qam T) (hr.mono (by decide)) rfl T.qam.g T.qam.F.kp T.qam.b .nil pass0 (pa_cons (pv 0) (pa_cons (pv 4) pa_nil)))) (pss_one (ps_ret (pe_lst (pa_cons (pe_un un_neg pe_int) pa_nil)))) pss_nil)
      (pss_cons (ps_if ((pw_or (pt_cmpR op_lt (pv 3) (pv 2) (nomark _)) (pw_or (pt_cmpR op_lt (pv 2) (pe_op op_sub (pv 5) pe_int) (nomark _)) (pw_or1 (pt_cmpR op_gt (pv 3) (pe_op op_add (pv 5) pe_int) (nomark _)))))).pt (pss_one (ps_ret (pe_lst (pa_cons (pe_un un_neg pe_int) pa_nil)))) pss_nil)
      (pss_cons (ps_if (pt_val (pe_call (ok_qao T) (hr.mono (by decide)) rfl T.qao.g T.qao.F.kp T.qao.b .nil pass0 (pa_cons (pv 0) (pa_cons pe_int (pa_cons (pe_callB call_len_seq rfl T.b_len PySem.boot_len (pa_cons (pe_call (ok_qan T) (hr.mono (by decide)) rfl T.qan.g T.qan.F.kp T.qan.b .nil pass0 (pa_cons (pv 0) pa_nil)) pa_nil)) pa_nil))))) (pss_one (ps_ret (pe_lst (pa_cons (pe_un un_neg pe_int) pa_nil)))) pss_nil)
      (pss_cons (ps_expr (pe_bm PySem.F.plainAttrs_list PySem.F.slot_list_append PySem.F.type_list_append mt_append (pe_fl T (pv 0)) (pa_cons (pe_make T.qab.M (ok_qab T) (hr.mono (by decide)) rfl T.qab.g T.qab.b .nil pass0 (pa_cons (pv 1) (pa_cons (pv 2) (pa_cons (pv 3) (pa_cons (pv 4) (pa_cons (pv 5) pa_nil)))))) pa_nil)))
      (pss_one (ps_ret (pe_lst (pa_cons pe_int pa_nil)))))))))), ?_⟩
    refine ⟨_, rfl, a, _, _, _, _, rfl, hA.ho, T.qad.cl, T.qad.nf 5 _ rfl, rfl, ?_⟩
    have dd : Vbemax.does s (.correct p i j x) = if Vbemax.isPoint s p = false then .error (-5) else if Vbemax.lives s x = false then .error (-6) else if j < i ∨ i + Vbemax.WINDOW < s.today ∨ s.today + Vbemax.WINDOW < j then .error (-8)
      else Vbemax.withFacts s [⟨p, i, j, x, s.today⟩] [] := rfl
    refine ⟨_, rfl, _, rfl, a, s, L, p, rfl, hA, _, rfl, ?_⟩
    refine ite2 (fun c => ?_) (fun c1 => ?_)
    · refine ⟨_, rfl, sz1, fun l hl => ?_⟩
      refine D.lit hA (step_err hO.op ?_) (Same.refl _) hl rfl
      rw [dd, if_pos (isPoint_f (of_decide_eq_true c))]
    rw [if_neg (isPoint_t hp1 (fun z => c1 (decide_eq_true z)))] at dd
    refine ⟨_, rfl, _, rfl, a, s, L, x, rfl, hx1, hA, _, rfl, ?_⟩
    refine ite2 (fun c => ?_) (fun c2 => ?_)
    · refine ⟨_, rfl, sz1, fun l hl => ?_⟩
      refine D.lit hA (step_err hO.op ?_) (Same.refl _) hl rfl
      rw [dd, if_pos (lives_f c)]
    rw [if_neg (lives_t c2)] at dd
    have e8 : (j < i ∨ i + Vbemax.WINDOW < s.today ∨ s.today + Vbemax.WINDOW < j) → ∀ l, H l = none → Q (.ref l) (upd H l (.lst [.int (-8)])) := fun z l hl => by
      refine D.lit hA (step_err hO.op ?_) (Same.refl _) hl rfl
      rw [dd, if_pos z]
    refine ⟨_, rfl, _, rfl, _, _, rfl, rfl, _, rfl, ?_⟩
    rw [dlt]
    refine ite2 (fun c => ?_) (fun c3 => ?_)
    · exact iteT ⟨_, rfl, sz1, fun l hl => e8 (.inl (of_decide_eq_true c)) l hl⟩
    refine ⟨_, rfl, _, rfl, _, _, rfl, rfl, _, _, rfl, rfl, _, rfl, ?_⟩
    refine ite2 (fun c => ?_) (fun c4 => ?_)
    · refine iteT ⟨_, rfl, sz1, fun l hl => e8 (.inr (.inl ?_)) l hl⟩
      have := of_decide_eq_true c
      show i + 400 < s.today
      omega
    refine ⟨_, rfl, _, rfl, _, _, rfl, rfl, _, _, rfl, rfl, _, rfl, ?_⟩
    refine ite2 (fun c => ?_) (fun c5 => ?_)
    · refine ⟨_, rfl, sz1, fun l hl => e8 (.inr (.inr ?_)) l hl⟩
      have := of_decide_eq_true c
      show s.today + 400 < j
      omega
    have n8 : ¬ (j < i ∨ i + Vbemax.WINDOW < s.today ∨ s.today + Vbemax.WINDOW < j) := by
      rintro (z | z | z)
      · exact c3 (decide_eq_true z)
      · exact c4 (decide_eq_true (by have : i + 400 < s.today := z; omega))
      · exact c5 (decide_eq_true (by have : s.today + 400 < j := z; omega))
    rw [if_neg n8] at dd
    refine ⟨_, rfl, _, rfl, a, s, L, rfl, hA, fun H2 l2 hn2 s2 h2 => ?_⟩
    refine ⟨l2, _, rfl, .inl (SqL.of h2), a, s, L, 1, _, rfl, hA.same s2, _, rfl, ?_⟩
    rw [List.length_map, kept_pick hA]
    refine ite2 (fun c => ?_) (fun c6 => ?_)
    · refine ⟨_, rfl, sz1, fun l hl => ?_⟩
      refine D.lit hA (step_err hO.op ?_) s2 hl rfl
      rw [dd]
      exact wf_err (of_decide_eq_true c)
    have ok : Vbemax.does s (.correct p i j x) = .ok ({ s with facts := s.facts ++ [⟨p, i, j, x, s.today⟩] }, []) := by
      rw [dd]
      exact wf_ok (fun z => c6 (decide_eq_true z))
    rw [step_ok hO.op ok] at D
    have hA3 := hA.same s2
    refine ⟨_, rfl, a, _, _, _, _, rfl, hA3.ho, T.qad.cl, T.qad.nf 10 _ rfl, rfl, .inl ⟨rfl, _, SqL.of hA3.fc⟩, _, rfl, _, rfl, _, rfl, _, rfl, _, rfl, fun z dx hx hdx hne =>
      ⟨z, dx, ⟨p, i, j, x, s.today⟩, rfl, upd_same, fun H4 h4 k4 => ⟨rfl, ?_⟩⟩⟩
    have s4 : Same H2 H4 := Same.made hx hdx k4
    have hnl := good_facts_le hO.g
    refine ⟨L.fa, _, _, rfl, rfl, s4 _ _ hA3.fc, ?_, ?_⟩
    · have := Paired.length hA.fcs
      rw [List.length_map]
      exact small1000 (by omega)
    refine ⟨sz1, fun l hl => ?_⟩
    exact addFact_done D hA3 hnl s2 s4 ⟨dx, h4⟩ hl rfl rfl
theorem rangesOf_len (u : Nat → Nat) : ∀ E : List Nat, (rangesOf u E).length = E.length
  | [] => rfl
  | [a] => rfl
  | a :: b :: r => by
    have := rangesOf_len u (b :: r)
    show (rangesOf u (b :: r)).length + 1 = _
    rw [this]
    rfl
theorem rangesOf_get (u : Nat → Nat) : ∀ (E : List Nat) (i d : Nat), E[i]? = some d → (rangesOf u E)[i]? = some (d, (match E[i + 1]? with | some e => e - 1 | none => Vbemax.LAST), u d)
  | [], i, d, h => by simp at h
  | [a], 0, d, h => by
    have e : a = d := Option.some.inj h
    subst e
    rfl
  | [a], i + 1, d, h => by simp at h
  | a :: b :: r, 0, d, h => by
    have e : a = d := Option.some.inj h
    subst e
    rfl
  | a :: b :: r, i + 1, d, h => rangesOf_get u (b :: r) i d h
def fallRow (s : Vbemax.State) (x p : Nat) (r : Nat × Nat × Nat) : Option Vbemax.Fact := if r.2.2 = x ∧ s.today + 1 ≤ r.2.1 then some ⟨p, max r.1 (s.today + 1), r.2.1, s.basic, s.today⟩ else none
theorem fallenAt_row (s : Vbemax.State) (x p : Nat) : fallenAt s x p = (rangesOf (wOf s.basic s.facts p s.today) (starts (wOf s.basic s.facts p s.today))).filterMap (fallRow s x p) := rfl
theorem imax (a b : Nat) : (if ((b : Nat) : Int) > ((a : Nat) : Int) then ((b : Nat) : Int) else ((a : Nat) : Int)) = ((max a b : Nat) : Int) := by
  split <;> omega
theorem filterMap_len {α β : Type} (f : α → Option β) : ∀ l : List α, (l.filterMap f).length ≤ l.length := fun l => List.length_filterMap_le f l
def sp_qbb (A : Adr) : Sp := fun vs H Q _ => ∃ (a : Addr) (s : Vbemax.State) (L : Lay) (p x : Nat), vs = [.ref a, .int p, .int x] ∧ HA A H a s L ∧ Fine s ∧
  ∀ H' l as, H l = none → Same H H' → H' l = some (.lst (as.map V.ref)) → Paired (FcAt A.qab H') as (fallenAt s x p) → (fallenAt s x p).length ≤ 1300 → Q (.ref l) H'
theorem ok_qbb (T : Txt K mg A) : FnOk P w K mg base CX0 3 A.qbb.1 A.qbb.2 ["house", "point", "supplier"] (sp_qbb A) := by
  refine T.qbb.F.ok sc_qbb (fun vs H Q E h => ?_) (fun cdv An outer s0 H vs Q E hr h => ?_)
  · obtain ⟨a, s, L, p, x, rfl, _⟩ := h
    rfl
  · obtain ⟨a, s, L, p, x, rfl, hA, hF, q⟩ := h
    have nd := sc_qbb.nd
    have hu := hu_of hr
    refine ⟨_, (pss_cons (ps_set (i := 3) nd rfl (Or.inl rfl) (pe_fl T (pv 0)))
      (pss_cons (ps_set (i := 4) nd rfl (Or.inl rfl) (pe_lst pa_nil))
      (pss_cons (ps_set (i := 5) nd rfl (Or.inl rfl) (pe_call (ok_qat T) (hr.mono (by decide)) rfl T.qat.g T.qat.F.kp T.qat.b .nil pass0 (pa_cons (pv 0) (pa_cons (pv 1) (pa_cons (pv 3) pa_nil)))))
      (pss_cons (ps_for PassesOwn.never rfl (pi_enum rfl T.b_enumerate (pa_cons (pv 5) pa_nil)) (pg_tup rfl (pgs_cons (pg_name (i := 6) nd rfl (Or.inl rfl)) (pgs_cons (pg_name (i := 7) nd rfl (Or.inl rfl)) pgs_nil))) (pss_cons (ps_set (i := 8) nd rfl (Or.inl rfl) (pe_co T.qci))
      (pss_cons (ps_if (pt_cmpR op_lt (pe_op op_add (pv 6) pe_int) (pe_callB call_len_seq rfl T.b_len PySem.boot_len (pa_cons (pv 5) pa_nil)) (nomark _)) (pss_one (ps_set (i := 8) nd rfl (Or.inl rfl) (pe_op op_sub (pe_ix ix_tup (pe_ix ix_list (pv 5) (pe_op op_add (pv 6) pe_int) (fun _ _ => rfl)) pe_int (fun _ _ => rfl)) pe_int))) pss_nil)
      (pss_one (ps_if ((pw_and (pt_cmpR op_eq (pe_ix ix_tup (pv 7) pe_int (fun _ _ => rfl)) (pv 2) (nomark _)) (pw_and1 (pt_cmpR op_gt (pv 8) (pv 3) (nomark _))))).pt (pss_one (ps_expr (pe_bm PySem.F.plainAttrs_list PySem.F.slot_list_append PySem.F.type_list_append mt_append (pv 4) (pa_cons (pe_make T.qab.M (ok_qab T) (hr.mono (by decide)) rfl T.qab.g T.qab.b .nil pass0 (pa_cons (pv 1) (pa_cons (pe_callB (call_max2 rfl) rfl T.b_max PyProof.Rows.boot_max (pa_cons (pe_ix ix_tup (pv 7) pe_int (fun _ _ => rfl)) (pa_cons (pe_op op_add (pv 3) pe_int) pa_nil))) (pa_cons (pv 8) (pa_cons (pe_fl T (pv 0)) (pa_cons (pv 3) pa_nil)))))) pa_nil)))) pss_nil)))))
      (pss_one (ps_ret (pv 4))))))), ?_⟩
    refine ⟨_, rfl, a, _, _, _, _, rfl, hA.ho, T.qad.cl, T.qad.nf 5 _ rfl, rfl, ?_⟩
    refine ⟨Nat.zero_le _, fun lo hlo => ?_⟩
    have so : Same H (upd H lo (.lst [])) := same_new hlo
    refine ⟨_, rfl, _, rfl, _, rfl, a, s, L, p, s.today, rfl, hA.same so, hF, fun H1 ls ts hn1 s1 h1 h2 hln => ?_⟩
    have sH1 : Same H H1 := so.trans s1
    have hlo1 : H1 lo = some (.lst []) := s1 _ _ upd_same
    have hlslo : ls ≠ lo := fun z => by rw [z, upd_same] at hn1; cases hn1
    refine ⟨_, rfl, ls, _, rfl, SqL.of h1, ?_⟩
    have hlen := Paired.length h2
    have hF2 := starts_sorted (wOf s.basic s.facts p s.today)
    generalize hE : starts (wOf s.basic s.facts p s.today) = Es at h2 hln hlen hF2
    generalize hU : wOf s.basic s.facts p s.today = u at h2 hE
    have hfall : fallenAt s x p = (rangesOf u Es).filterMap (fallRow s x p) := by rw [fallenAt_row, hU, hE]
    have nlo : ∀ b o, H b = some o → b ≠ lo := fun b o e => ne_of_none e hlo
    refine for_it (n := ts.length) (fun i σ H' => ∃ (v6 v7 v8 : Option V) (as : List Addr), σ = [some (.ref a), some (.int p), some (.int x), some (.int s.today), some (.ref lo), some (.ref ls), v6, v7, v8] ∧ (∀ b o, H1 b = some o → b ≠ lo → H' b = some o) ∧ H' lo = some (.lst (as.map V.ref)) ∧
      Paired (FcAt A.qab H') as (((rangesOf u Es).take i).filterMap (fallRow s x p))) ?_ ?_ ?_ ?_ ?_
    · exact ⟨none, none, none, [], rfl, fun b o e _ => e, hlo1, .nil⟩
    · rintro i σ H' hi ⟨v6, v7, v8, as, _, kp, _, _⟩
      exact ⟨ts.map V.ref, V.ref ts[i], SqL.of (kp _ _ h1 hlslo), by rw [List.getElem?_map, List.getElem?_eq_getElem hi]; rfl⟩
    · rintro σ H' ⟨v6, v7, v8, as, _, kp, _, _⟩
      exact ⟨ts.map V.ref, SqL.of (kp _ _ h1 hlslo), by rw [List.length_map]; exact Nat.le_refl _⟩
    · rintro i σ H0 y H' hi ⟨v6, v7, v8, as, rfl, kp, hlo', has⟩ ⟨tp, z, rfl, htp, rfl, hz⟩
      have hz2 := hz _ (SqL.of (kp _ _ h1 hlslo))
      obtain ⟨t, ht, rfl⟩ := map_ref_get hz2
      obtain ⟨d, hd1, hd2⟩ := paired_get h2 ht
      have hsm : Same H0 (upd H0 tp (.tup [.int ((i : Nat) : Int), .ref t])) := same_new htp
      have hd3 : (upd H0 tp (.tup [.int ((i : Nat) : Int), .ref t])) t = some (.tup [.int ((d : Nat) : Int), .int ((u d : Nat) : Int)]) := hsm _ _ (kp _ _ hd2 (ne_of hd2 hlo1 (by intro q; cases q)))
      have hlsE := hsm _ _ (kp _ _ h1 hlslo)
      have hg := rangesOf_get u Es i d hd1
      have hho := hsm _ _ (kp _ _ (sH1 _ _ hA.ho) (nlo _ _ hA.ho))
      have tk : ((rangesOf u Es).take (i + 1)).filterMap (fallRow s x p) = ((rangesOf u Es).take i).filterMap (fallRow s x p) ++ (match fallRow s x p (d, (match Es[i + 1]? with | some e => e - 1 | none => Vbemax.LAST), u d) with | some f => [f] | none => []) := by
        rw [take_more hg, List.filterMap_append]
        congr 1
        rw [List.filterMap_cons]
        generalize fallRow s x p (d, (match Es[i + 1]? with | some e => e - 1 | none => Vbemax.LAST), u d) = o
        cases o <;> rfl
      refine ⟨tp, _, rfl, SqT.of upd_same, rfl, _, _, rfl, _, _, rfl, rfl, ?_⟩
      refine ⟨_, rfl, _, _, rfl, rfl, _, rfl, ls, _, rfl, .inl (SqL.of hlsE), _, _, rfl, rfl, _, rfl, ?_⟩
      -- what stands behind the first if
      have rest : ∀ (la : Nat), la = (match Es[i + 1]? with | some e => e - 1 | none => Vbemax.LAST) →
          tIfS (tAnd (tTest (tOp rEq (tOp (rIxT K) (tVar 7) (tC (V.int 1))) (tVar 2))) (tTest (tOp (rI0 fun i j => V.bl (decide (j < i))) (tVar 8) (tVar 3)))) (tDrop (tBM K "list" rAppend (tVar 4) (tCons (tMake A.qab (sp_qab A) [] E0 (tCons (tVar 1) (tCons (tCB (fun xs H Q => ∃ i j, xs = [.int i, .int j] ∧ Q (.int (if j > i then j else i)) H) (tCons (tOp (rIxT K) (tVar 7) (tC (V.int 0))) (tCons (tOp (rI0 fun i j => .int (i + j)) (tVar 3) (tC (V.int 1))) tNil))) (tCons (tVar 8) (tCons (tFld K (tVar 0) "basic") (tCons (tVar 3) tNil)))))) tNil))) tNext
            { nx := fun σ H' => ∃ (v6 v7 v8 : Option V) (as : List Addr), σ = [some (.ref a), some (.int p), some (.int x), some (.int s.today), some (.ref lo), some (.ref ls), v6, v7, v8] ∧ (∀ b o, H1 b = some o → b ≠ lo → H' b = some o) ∧ H' lo = some (.lst (as.map V.ref)) ∧
              Paired (FcAt A.qab H') as (((rangesOf u Es).take (i + 1)).filterMap (fallRow s x p)), rt := Q } [some (.ref a), some (.int p), some (.int x), some (.int s.today), some (.ref lo), some (.ref ls), some (.int ((i : Nat) : Int)), some (.ref t), some (.int ((la : Nat) : Int))] (upd H0 tp (.tup [.int ((i : Nat) : Int), .ref t])) := by
        intro la hla
        rw [← hla] at tk
        have no : ¬ (u d = x ∧ s.today + 1 ≤ la) → ∃ (v6 v7 v8 : Option V) (as : List Addr), ([some (.ref a), some (.int p), some (.int x), some (.int s.today), some (.ref lo), some (.ref ls), some (.int ((i : Nat) : Int)), some (.ref t), some (.int ((la : Nat) : Int))] : L2.St) = [some (.ref a), some (.int p), some (.int x), some (.int s.today), some (.ref lo), some (.ref ls), v6, v7, v8] ∧ (∀ b o, H1 b = some o → b ≠ lo → (upd H0 tp (.tup [.int ((i : Nat) : Int), .ref t])) b = some o) ∧ (upd H0 tp (.tup [.int ((i : Nat) : Int), .ref t])) lo = some (.lst (as.map V.ref)) ∧
            Paired (FcAt A.qab (upd H0 tp (.tup [.int ((i : Nat) : Int), .ref t]))) as (((rangesOf u Es).take (i + 1)).filterMap (fallRow s x p)) := fun c => by
          refine ⟨_, _, _, as, rfl, fun b o e hb => hsm _ _ (kp b o e hb), hsm _ _ hlo', ?_⟩
          have e : fallRow s x p (d, la, u d) = none := if_neg c
          rw [tk, e, List.append_nil]
          exact paired_same (fun b f ⟨dx, z⟩ => ⟨dx, hsm _ _ z⟩) has
        refine ⟨_, rfl, t, _, _, _, rfl, rfl, SqT.of hd3, rfl, _, rfl, rfl, _, rfl, ?_⟩
        rw [deq]
        refine ite2 (fun c1 => ?_) (fun c1 => iteF (no fun z => c1 (decide_eq_true z.1)))
        refine ⟨_, rfl, _, rfl, _, _, rfl, rfl, _, rfl, ?_⟩
        rw [dlt]
        refine ite2 (fun c2 => ?_) (fun c2 => no fun z => c2 (decide_eq_true (by omega)))
        have hal : (as.map V.ref).length < sizeLine := by
          have e1 := Paired.length has
          have e2 := filterMap_len (fallRow s x p) ((rangesOf u Es).take i)
          rw [List.length_take, rangesOf_len] at e2
          rw [List.length_map]
          exact small5000 (by omega)
        refine ⟨_, rfl, .inl ⟨rfl, _, SqL.of (hsm _ _ hlo')⟩, _, rfl, _, rfl, t, _, _, _, rfl, rfl, SqT.of hd3, rfl, _, rfl, _, _, rfl, rfl, _, _, rfl, _, rfl, _, rfl, a, _, _, _, _, rfl, hho, T.qad.cl, T.qad.nf 1 _ rfl, rfl, _, rfl, fun z dx hx hdx hne => ?_⟩
        refine ⟨z, dx, ⟨p, max d (s.today + 1), la, s.basic, s.today⟩, ?_, upd_same, fun H4 h4 k4 => ⟨rfl, ?_⟩⟩
        · show [V.ref z, V.int (p : Int), V.int (if (((s.today : Nat) : Int) + 1) > ((d : Nat) : Int) then (((s.today : Nat) : Int) + 1) else ((d : Nat) : Int)), V.int (la : Int), V.int (s.basic : Int), V.int (s.today : Int)] = _
          rw [show (((s.today : Nat) : Int) + 1) = ((s.today + 1 : Nat) : Int) by omega, imax]
        have s4 := Same.made hx hdx k4
        refine ⟨lo, _, _, rfl, rfl, s4 _ _ (hsm _ _ hlo'), hal, ?_⟩
        have hzl : z ≠ lo := ne_of h4 (s4 _ _ (hsm _ _ hlo')) (by intro q; cases q)
        refine ⟨_, _, _, as ++ [z], rfl, fun b o e hb => ?_, ?_, ?_⟩
        · rw [upd_ne hb]
          exact s4 _ _ (hsm _ _ (kp b o e hb))
        · rw [upd_same, List.map_append]
          rfl
        · have e : fallRow s x p (d, la, u d) = some ⟨p, max d (s.today + 1), la, s.basic, s.today⟩ := if_pos ⟨of_decide_eq_true c1, by have := of_decide_eq_true c2; show s.today + 1 ≤ la; omega⟩
          rw [tk, e]
          refine paired_snoc (paired_same (fun b f ⟨dy, y⟩ => ⟨dy, ?_⟩) has) ⟨dx, by rw [upd_ne hzl]; exact h4⟩
          rw [upd_ne (ne_of y hlo' (by intro q; cases q))]
          exact s4 _ _ (hsm _ _ y)
      rw [show decide (((i : Nat) : Int) + 1 < (((ts.map V.ref).length : Nat) : Int)) = decide (i + 1 < ts.length) by
        rw [List.length_map]
        by_cases c : i + 1 < ts.length
        · rw [decide_eq_true c, decide_eq_true (by omega)]
        · rw [decide_eq_false c, decide_eq_false (by omega)]]
      refine ite2 (fun c => ?_) (fun c => ?_)
      · have c' := of_decide_eq_true c
        obtain ⟨t2, ht2⟩ : ∃ t2, ts[i + 1]? = some t2 := ⟨_, List.getElem?_eq_getElem c'⟩
        obtain ⟨d2, hd21, hd22⟩ := paired_get h2 ht2
        have hd23 : (upd H0 tp (.tup [.int ((i : Nat) : Int), .ref t])) t2 = some (.tup [.int ((d2 : Nat) : Int), .int ((u d2 : Nat) : Int)]) := hsm _ _ (kp _ _ hd22 (ne_of hd22 hlo1 (by intro q; cases q)))
        refine ⟨_, rfl, _, rfl, _, _, rfl, rfl, ls, _, _, _, rfl, rfl, SqL.of hlsE, ?_, t2, _, _, _, rfl, rfl, SqT.of hd23, rfl, _, _, rfl, rfl, ?_⟩
        · have e : (((i : Nat) : Int) + 1) = ((i + 1 : Nat) : Int) := by omega
          rw [e]
          apply atI_nat
          rw [List.getElem?_map, ht2]
          rfl
        · have hlt : d < d2 := by
            obtain ⟨i1, e1⟩ := List.getElem?_eq_some_iff.mp hd1
            obtain ⟨i2, e2⟩ := List.getElem?_eq_some_iff.mp hd21
            have := List.pairwise_iff_getElem.mp hF2 i (i + 1) i1 i2 (Nat.lt_succ_self _)
            rw [e1, e2] at this
            exact this
          have e : (((d2 : Nat) : Int) - 1) = ((d2 - 1 : Nat) : Int) := by omega
          have := rest (d2 - 1) (by rw [hd21])
          rw [← e] at this
          exact this
      · have hno : Es[i + 1]? = none := by
          rw [List.getElem?_eq_none_iff, ← hlen]
          exact Nat.le_of_not_lt fun z => c (decide_eq_true z)
        exact rest 20000 (by rw [hno]; rfl)
    · rintro σ H' ⟨v6, v7, v8, as, rfl, kp, hlo', has⟩
      refine ⟨_, rfl, ?_⟩
      have e : ts.length = (rangesOf u Es).length := by rw [rangesOf_len]; exact hlen
      rw [e, List.take_length, ← hfall] at has
      refine q _ lo as hlo (fun b o z => kp b o (sH1 _ _ z) (nlo _ _ z)) hlo' has ?_
      rw [hfall]
      refine Nat.le_trans (filterMap_len _ _) ?_
      rw [rangesOf_len]
      exact hln
end
section
variable {α : Type}
theorem pick_pos {P : α → Bool} {r : Addr} {q : α} {rs : List Addr} {qs : List α} (h : P q = true) : pick P (r :: rs) (q :: qs) = r :: pick P rs qs := by
  unfold pick
  rw [List.zip_cons_cons, List.filter_cons_of_pos (by exact h)]
  rfl
theorem pick_neg {P : α → Bool} {r : Addr} {q : α} {rs : List Addr} {qs : List α} (h : ¬ P q = true) : pick P (r :: rs) (q :: qs) = pick P rs qs := by
  unfold pick
  rw [List.zip_cons_cons, List.filter_cons_of_neg (by exact h)]
theorem pick_pick (P1 P2 : α → Bool) : ∀ {rs : List Addr} {qs : List α}, rs.length = qs.length → pick P2 (pick P1 rs qs) (qs.filter P1) = pick (fun q => P1 q && P2 q) rs qs
  | [], [], _ => rfl
  | [], _ :: _, h => by simp at h
  | _ :: _, [], h => by simp at h
  | r :: rs, q :: qs, h => by
    have ih := pick_pick P1 P2 (rs := rs) (qs := qs) (by simpa using h)
    by_cases c1 : P1 q = true
    · rw [pick_pos c1, List.filter_cons_of_pos c1]
      by_cases c2 : P2 q = true
      · rw [pick_pos c2, pick_pos (P := fun q => P1 q && P2 q) (by show (P1 q && P2 q) = true; rw [c1, c2]; rfl), ih]
      · rw [pick_neg c2, pick_neg (P := fun q => P1 q && P2 q) (by show ¬ (P1 q && P2 q) = true; rw [Bool.and_eq_true]; exact fun z => c2 z.2), ih]
    · rw [pick_neg c1, List.filter_cons_of_neg c1, pick_neg (P := fun q => P1 q && P2 q) (by show ¬ (P1 q && P2 q) = true; rw [Bool.and_eq_true]; exact fun z => c1 z.1), ih]
theorem nodup_at {l : List Addr} (h : l.Nodup) {i j : Nat} {a : Addr} (h1 : l[i]? = some a) (h2 : l[j]? = some a) : i = j := nd_ix h h1 h2
theorem mem_pick {P : α → Bool} {rs : List Addr} {qs : List α} (nd : rs.Nodup) {j : Nat} {p : Addr} {q : α} (h1 : rs[j]? = some p) (h2 : qs[j]? = some q) : p ∈ pick P rs qs ↔ P q = true := by
  unfold pick
  rw [List.mem_map]
  constructor
  · rintro ⟨⟨p', q'⟩, h, e⟩
    have e' : p' = p := e
    subst e'
    rw [List.mem_filter] at h
    obtain ⟨j', hj'⟩ := List.mem_iff_getElem?.mp h.1
    rw [List.getElem?_zip_eq_some] at hj'
    have := nodup_at nd h1 hj'.1
    subst this
    rw [h2] at hj'
    have e2 := Option.some.inj hj'.2
    rw [show q = q' from e2]
    exact h.2
  · intro h
    refine ⟨(p, q), List.mem_filter.mpr ⟨?_, h⟩, rfl⟩
    exact List.mem_of_getElem? (i := j) (List.getElem?_zip_eq_some.mpr ⟨h1, h2⟩)
theorem pick_mem {P : α → Bool} {rs : List Addr} {qs : List α} {p : Addr} (h : p ∈ pick P rs qs) : ∃ (j : Nat) (q : α), rs[j]? = some p ∧ qs[j]? = some q := by
  unfold pick at h
  rw [List.mem_map] at h
  obtain ⟨⟨p', q'⟩, h, e⟩ := h
  have e' : p' = p := e
  subst e'
  rw [List.mem_filter] at h
  obtain ⟨j', hj'⟩ := List.mem_iff_getElem?.mp h.1
  rw [List.getElem?_zip_eq_some] at hj'
  exact ⟨j', q', hj'.1, hj'.2⟩
theorem paired_of {R : Addr → α → Prop} : ∀ {rs : List Addr} {qs : List α}, rs.length = qs.length → (∀ (j : Nat) (p : Addr) (q : α), rs[j]? = some p → qs[j]? = some q → R p q) → Paired R rs qs
  | [], [], _, _ => .nil
  | [], _ :: _, h, _ => by simp at h
  | _ :: _, [], h, _ => by simp at h
  | r :: rs, q :: qs, h, f => .cons (f 0 r q rfl rfl) (paired_of (by simpa using h) fun j p q h1 h2 => f (j + 1) p q h1 h2)
end
def dropG (x : Nat) (r : Vbemax.Request) : Vbemax.Request := if r.stage = 0 ∧ r.supplier = x then { r with stage := 4 } else r
def isD (x : Nat) (q : Vbemax.Request) : Bool := isW q && decide (q.supplier = x)
theorem kept_drop (x : Nat) : ∀ l : List Vbemax.Request, ((l.map (dropG x)).filter fun r => decide (r.stage = 0)).length + (l.filter (isD x)).length = (l.filter isW).length
  | [] => rfl
  | r :: l => by
    have ih := kept_drop x l
    rw [List.map_cons]
    by_cases c1 : r.stage = 0
    · by_cases c2 : r.supplier = x
      · have e : dropG x r = { r with stage := 4 } := if_pos ⟨c1, c2⟩
        rw [e, List.filter_cons_of_neg (by simp), List.filter_cons_of_pos (by simp [isD, isW, c1, c2]), List.filter_cons_of_pos (by simp [isW, c1]), List.length_cons, List.length_cons]
        omega
      · have e : dropG x r = r := if_neg fun z => c2 z.2
        rw [e, List.filter_cons_of_pos (by simp [c1]), List.filter_cons_of_neg (by simp [isD, c2]), List.filter_cons_of_pos (by simp [isW, c1]), List.length_cons, List.length_cons]
        omega
    · have e : dropG x r = r := if_neg fun z => c1 z.1
      rw [e, List.filter_cons_of_neg (by simp [c1]), List.filter_cons_of_neg (by simp [isD, isW, c1]), List.filter_cons_of_neg (by simp [isW, c1])]
      exact ih
theorem putK_fail {l : List Nat} {x : Nat} (h : l.contains x = false) : putK (failKv l) (Sum.inl (x : Int)) (V.bl true) = failKv (l ++ [x]) := by
  rw [putK_new]
  · unfold failKv
    rw [List.map_append]
    rfl
  · have := fail_val l x
    rw [h] at this
    cases z : valV (failKv l) (Sum.inl (x : Int)) with
    | none => rfl
    | some v => rw [z] at this; cases this
section
variable {P : Program} {w : World} {K : PySem.W.Frag} {mg : Str → Option Value} {base : Heap} {A : Adr}
def sp_qbc (A : Adr) : Sp := fun vs H Q _ => ∃ (a : Addr) (s : Vbemax.State) (L : Lay) (x : Nat), vs = [.ref a, .int x] ∧ 1 ≤ x ∧ HA A H a s L ∧ Okay s ∧ s.failed.length ≤ 50 ∧ Done A a L H Q (Vbemax.step s (.fail x))
theorem ok_qbc (T : Txt K mg A) : FnOk P w K mg base CX0 4 A.qbc.1 A.qbc.2 ["house", "supplier"] (sp_qbc A) := by
  refine T.qbc.F.ok sc_qbc (fun vs H Q E h => ?_) (fun cdv An outer s0 H vs Q E hr h => ?_)
  · obtain ⟨a, s, L, x, rfl, _⟩ := h
    rfl
  · obtain ⟨a, s, L, x, rfl, hx1, hA, hO, hfn, D⟩ := h
    have nd := sc_qbc.nd
    have hu := hu_of hr
    refine ⟨_, (pss_cons (ps_if (pt_val (pe_call (ok_qam T) (hr.mono (by decide)) rfl T.qam.g T.qam.F.kp T.qam.b .nil pass0 (pa_cons (pv 0) (pa_cons (pv 1) pa_nil)))) (pss_one (ps_ret (pe_lst (pa_cons (pe_un un_neg pe_int) pa_nil)))) pss_nil)
      (pss_cons (ps_if (pt_cmpR op_eq (pv 1) (pe_fl T (pv 0)) (nomark _)) (pss_one (ps_ret (pe_lst (pa_cons (pe_un un_neg pe_int) pa_nil)))) pss_nil)
      (pss_cons (ps_set (i := 2) nd rfl (Or.inl rfl) (pe_call (ok_qan T) (hr.mono (by decide)) rfl T.qan.g T.qan.F.kp T.qan.b .nil pass0 (pa_cons (pv 0) pa_nil)))
      (pss_cons (ps_setLc (i := 3) rfl nd rfl rfl (sw_true rfl rfl rfl rfl) (pi_list (pv 2)) (blkOk_by (own := [("request", 6)]) rfl) (fun _ _ _ _ _ => (pg_name (i := 6) nd rfl (Or.inl rfl))) (fun _ _ _ _ _ => pts_one (pt_cmpR op_eq (pe_fl T (pv 6)) (pv 1) (nomark _))) (fun _ _ _ _ _ => (pv 6)))
      (pss_cons (ps_set (i := 4) nd rfl (Or.inl rfl) (pe_lst pa_nil))
      (pss_cons (ps_for PassesOwn.never rfl (pi_range2 rfl T.b_range (pa_cons pe_int (pa_cons (pe_op op_add (pe_fl T (pv 0)) pe_int) pa_nil))) (pg_name (i := 5) nd rfl (Or.inl rfl)) (pss_one (ps_expr (pe_bm PySem.F.plainAttrs_list PySem.F.slot_list_extend PySem.F.type_list_extend mt_extend (pv 4) (pa_cons (pe_call (ok_qbb T) (hr.mono (by decide)) rfl T.qbb.g T.qbb.F.kp T.qbb.b .nil pass0 (pa_cons (pv 0) (pa_cons (pv 5) (pa_cons (pv 1) pa_nil)))) pa_nil)))))
      (pss_cons (ps_if (pt_val (pe_call (ok_qao T) (hr.mono (by decide)) rfl T.qao.g T.qao.F.kp T.qao.b .nil pass0 (pa_cons (pv 0) (pa_cons (pe_callB call_len_seq rfl T.b_len PySem.boot_len (pa_cons (pv 4) pa_nil)) (pa_cons (pe_op op_sub (pe_callB call_len_seq rfl T.b_len PySem.boot_len (pa_cons (pv 2) pa_nil)) (pe_callB call_len_seq rfl T.b_len PySem.boot_len (pa_cons (pv 3) pa_nil))) pa_nil))))) (pss_one (ps_ret (pe_lst (pa_cons (pe_un un_neg pe_int) pa_nil)))) pss_nil)
      (pss_cons (ps_dput hu (pe_fl T (pv 0)) (pv 1) pe_bl rfl)
      (pss_cons (ps_for PassesOwn.never rfl (pi_list (pv 3)) (pg_name (i := 6) nd rfl (Or.inl rfl)) (pss_one (ps_fld (pv 6) (pe_co T.qcn) rfl)))
      (pss_cons (ps_expr (pe_bm PySem.F.plainAttrs_list PySem.F.slot_list_extend PySem.F.type_list_extend mt_extend (pe_fl T (pv 0)) (pa_cons (pv 4) pa_nil)))
      (pss_one (ps_ret (pe_lst (pa_cons pe_int (pa_cons (pe_callB call_len_seq rfl T.b_len PySem.boot_len (pa_cons (pv 4) pa_nil)) pa_nil))))))))))))))), ?_⟩
    have dd : Vbemax.does s (.fail x) = if Vbemax.lives s x = false then .error (-6) else if x = s.basic then .error (-9) else
      Vbemax.withFacts { s with failed := s.failed ++ [x], requests := s.requests.map (dropG x) } (Vbemax.fallen s x) [Vbemax.nat (Vbemax.fallen s x).length] := rfl
    refine ⟨_, rfl, _, rfl, a, s, L, x, rfl, hx1, hA, _, rfl, ?_⟩
    refine ite2 (fun c => ?_) (fun c1 => ?_)
    · refine ⟨_, rfl, sz1, fun l hl => ?_⟩
      refine D.lit hA (step_err hO.op ?_) (Same.refl _) hl rfl
      rw [dd, if_pos (lives_f c)]
    rw [if_neg (lives_t c1)] at dd
    have hxf : s.failed.contains x = false := by
      have := lives_t c1
      unfold Vbemax.lives at this
      cases z : s.failed.contains x with
      | false => rfl
      | true => rw [z] at this; simp at this
    refine ⟨_, rfl, _, rfl, a, _, _, _, _, rfl, hA.ho, T.qad.cl, T.qad.nf 1 _ rfl, rfl, rfl, _, rfl, ?_⟩
    rw [deq]
    refine ite2 (fun c => ?_) (fun c2 => ?_)
    · refine ⟨_, rfl, sz1, fun l hl => ?_⟩
      refine D.lit hA (step_err hO.op ?_) (Same.refl _) hl rfl
      rw [dd, if_pos (of_decide_eq_true c)]
    rw [if_neg (fun z => c2 (decide_eq_true z))] at dd
    refine ⟨_, rfl, a, s, L, rfl, hA, fun H1 lw hn1 s1 h1 => ?_⟩
    have hA1 := hA.same s1
    refine ⟨_, rfl, lw, rfl, ⟨_, SqL.of h1⟩, fun ld hld => ?_⟩
    have hlen := Paired.length hA.rqs
    have pw := pick_paired isW hA1.rqs
    have plen := Paired.length pw
    refine lc_list (K := K) (a := lw) (xs := (pick isW L.rs s.requests).map V.ref) (fun i H' => H' = upd H1 ld (.lst ((pick (fun q => decide (q.supplier = x)) ((pick isW L.rs s.requests).take i) ((s.requests.filter isW).take i)).map V.ref))) rfl ?_ ?_ ?_
    · rintro i H' _ rfl
      exact (same_new hld).seq (SqL.of h1)
    · rintro i y H' hy rfl
      obtain ⟨p, hp, rfl⟩ := map_ref_get hy
      obtain ⟨r, hr1, dx, hr2⟩ := paired_get pw hp
      have st := pick_step (fun q : Vbemax.Request => decide (q.supplier = x)) hp hr1
      refine ⟨rfl, ?_⟩
      refine ⟨_, rfl, p, _, _, _, _, rfl, same_new hld _ _ hr2, T.qaa.cl, T.qaa.nf 1 _ rfl, rfl, _, rfl, rfl, _, rfl, ?_⟩
      rw [deq]
      refine ite2 (fun c => ?_) (fun c => ?_)
      · refine ⟨_, rfl, _, upd_same, ?_, ?_⟩
        · rw [List.length_map]
          refine small1000 (Nat.le_trans (pick_le _ _ _) ?_)
          have := hA.sm.rq
          have := pick_le isW L.rs s.requests
          rw [List.length_take]
          omega
        · rw [upd_upd, st, if_pos (by exact c), List.map_append]
          rfl
      · rw [st, if_neg (by exact c), List.append_nil]
    rintro H2 hH2
    have eda : pick (fun q : Vbemax.Request => decide (q.supplier = x)) (pick isW L.rs s.requests) (s.requests.filter isW) = pick (isD x) L.rs s.requests := pick_pick _ _ hlen
    rw [List.length_map, pick_all _ plen, eda] at hH2
    subst hH2
    have s2 : Same H1 (upd H1 ld (.lst ((pick (isD x) L.rs s.requests).map V.ref))) := same_new hld
    refine ⟨Nat.zero_le _, fun ln hln => ?_⟩
    generalize hda : pick (isD x) L.rs s.requests = da at s2 hln ⊢
    have s3 : Same (upd H1 ld (.lst (da.map V.ref))) (upd (upd H1 ld (.lst (da.map V.ref))) ln (.lst [])) := same_new hln
    have s13 : Same H (upd (upd H1 ld (.lst (da.map V.ref))) ln (.lst [])) := (s1.trans s2).trans s3
    have hnH : H ln = none := (s1.trans s2).free hln
    have hA3 := hA.same s13
    have hpt := hA.sm.pt
    refine ⟨_, rfl, a, _, _, _, _, rfl, hA3.ho, T.qad.cl, T.qad.nf 8 _ rfl, rfl, _, _, rfl, rfl, _, _, rfl, ⟨by decide, by decide, by omega, by omega⟩, ?_⟩
    have en : (((s.points : Nat) : Int) + 1 - 1).toNat = s.points := by omega
    rw [en]
    refine for_range (lo := 1) (n := s.points) (fun i σ H' => ∃ (v5 : Option V) (as : List Addr), σ = [some (.ref a), some (.int x), some (.ref lw), some (.ref ld), some (.ref ln), v5, none] ∧ (∀ b o, (upd (upd H1 ld (.lst (da.map V.ref))) ln (.lst [])) b = some o → b ≠ ln → H' b = some o) ∧ H' ln = some (.lst (as.map V.ref)) ∧
      Paired (FcAt A.qab H') as ((List.range i).flatMap fun j => fallenAt s x (j + 1)) ∧ as.length ≤ 1300 * i) ?_ ?_ ?_
    · exact ⟨none, [], rfl, fun b o e _ => e, upd_same, .nil, Nat.zero_le _⟩
    · rintro i σ H' hi ⟨v5, as, rfl, kp, hl', has, hasl⟩
      have sK : Same H H' := fun b o e => kp b o (s13 _ _ e) (ne_of_none (((s1.trans s2)) _ _ e) hln)
      have ei : (1 : Int) + ((i : Nat) : Int) = ((i + 1 : Nat) : Int) := by omega
      rw [ei]
      refine ⟨_, rfl, .inl ⟨rfl, _, SqL.of hl'⟩, _, rfl, _, rfl, _, rfl, a, s, L, i + 1, x, rfl, hA.same sK, hO.fi, fun H4 l4 bs hn4 s4 h4 g4 gl4 => ?_⟩
      have hbl := Paired.length g4
      refine ⟨ln, l4, _, _, rfl, rfl, s4 _ _ hl', h4, ?_, ?_⟩
      · rw [List.length_map, List.length_map]
        have : sizeLine = 16777216 := by decide
        omega
      · refine ⟨_, as ++ bs, rfl, fun b o e hb => ?_, ?_, ?_, ?_⟩
        · rw [upd_ne hb]
          exact s4 _ _ (kp b o e hb)
        · rw [upd_same, List.map_append]
        · rw [List.range_succ, List.flatMap_append]
          rw [List.flatMap_cons, List.flatMap_nil, List.append_nil]
          exact paired_append (paired_same (fun p f ⟨d, z⟩ => ⟨d, by rw [upd_ne (ne_of z hl' (by intro q; cases q))]; exact s4 _ _ z⟩) has) (paired_same (fun p f ⟨d, z⟩ => ⟨d, by rw [upd_ne (ne_of z (s4 _ _ hl') (by intro q; cases q))]; exact z⟩) g4)
        · rw [List.length_append]
          omega
    rintro σ H4 ⟨v5, as, rfl, kp, hl4, has, hasl⟩
    have sK : Same H H4 := fun b o e => kp b o (s13 _ _ e) (ne_of_none (((s1.trans s2)) _ _ e) hln)
    have hfall : ((List.range s.points).flatMap fun j => fallenAt s x (j + 1)) = Vbemax.fallen s x := by
      rw [fallen_eq]
      unfold Vbemax.pointsOf
      rw [List.flatMap_map]
    rw [hfall] at has
    have asl := Paired.length has
    have hlw4 : H4 lw = some (.lst ((pick isW L.rs s.requests).map V.ref)) := kp _ _ (s3 _ _ (s2 _ _ h1)) (ne_of_none (s2 _ _ h1) hln)
    have hld4 : H4 ld = some (.lst (da.map V.ref)) := kp _ _ (s3 _ _ upd_same) (fun z => by rw [← z, upd_same] at hln; cases hln)
    have hA4 := hA.same sK
    have hkp := kept_drop x s.requests
    have hkl : (pick isW L.rs s.requests).length = (s.requests.filter isW).length := plen
    have hdl : da.length = (s.requests.filter (isD x)).length := by rw [← hda]; exact Paired.length (pick_paired (isD x) hA.rqs)
    have hkt : Vbemax.kept { s with failed := s.failed ++ [x], requests := s.requests.map (dropG x) } = (pick isW L.rs s.requests).length - da.length := by
      show ((s.requests.map (dropG x)).filter fun r => decide (r.stage = 0)).length = _
      omega
    have hle : da.length ≤ (pick isW L.rs s.requests).length := by omega
    refine ⟨_, rfl, _, rfl, ln, _, rfl, .inl (SqL.of hl4), _, rfl, lw, _, rfl, .inl (SqL.of hlw4), _, rfl, ld, _, rfl, .inl (SqL.of hld4), _, _, rfl, rfl, a, s, L, as.length, (pick isW L.rs s.requests).length - da.length, ?_, hA4, _, rfl, ?_⟩
    · rw [List.length_map, List.length_map, List.length_map]
      show [V.ref a, V.int ((as.length : Nat) : Int), V.int (((pick isW L.rs s.requests).length : Nat) - ((da.length : Nat) : Int))] = _
      rw [show (((pick isW L.rs s.requests).length : Nat) : Int) - ((da.length : Nat) : Int) = (((pick isW L.rs s.requests).length - da.length : Nat) : Int) by omega]
    refine ite2 (fun c => ?_) (fun c3 => ?_)
    · refine ⟨_, rfl, sz1, fun l hl => ?_⟩
      refine D.lit hA (step_err hO.op ?_) sK hl rfl
      rw [dd]
      refine wf_err ?_
      have := of_decide_eq_true c
      rw [hkt]
      show 256 < s.facts.length + (Vbemax.fallen s x).length + _
      omega
    have ok : Vbemax.does s (.fail x) = .ok ({ s with failed := s.failed ++ [x], requests := s.requests.map (dropG x), facts := s.facts ++ Vbemax.fallen s x }, [Vbemax.nat (Vbemax.fallen s x).length]) := by
      rw [dd]
      refine wf_ok ?_
      rw [hkt]
      intro z
      have z' : 256 < s.facts.length + (Vbemax.fallen s x).length + ((pick isW L.rs s.requests).length - da.length) := z
      exact c3 (decide_eq_true (by omega))
    rw [step_ok hO.op ok] at D
    have hfal : s.facts.length + as.length ≤ 256 := by
      apply Classical.byContradiction
      intro z
      exact c3 (decide_eq_true (by omega))
    have hfkl : (failKv s.failed).length < sizeLine := by
      unfold failKv
      rw [List.length_map]
      exact small1000 (by omega)
    refine ⟨_, rfl, a, _, _, _, _, rfl, hA4.ho, T.qad.cl, T.qad.nf 6 _ rfl, rfl, _, rfl, L.f, _, rfl, DPut.k (k := Sum.inl (x : Int)) hA4.fl hfkl, ?_⟩
    rw [putK_fail hxf]
    have nldf : ld ≠ L.f := ne_of hld4 hA4.fl (by intro q; cases q)
    have nlnf : ln ≠ L.f := ne_of hl4 hA4.fl (by intro q; cases q)
    have hld5 : (upd H4 L.f (.dK (failKv (s.failed ++ [x])))) ld = some (.lst (da.map V.ref)) := by rw [upd_ne nldf]; exact hld4
    have k5 : ∀ b o, H4 b = some o → b ≠ L.f → (upd H4 L.f (.dK (failKv (s.failed ++ [x])))) b = some o := fun b o e hb => by rw [upd_ne hb]; exact e
    have rs5 : Paired (RqAt A.qaa (upd H4 L.f (.dK (failKv (s.failed ++ [x]))))) L.rs s.requests := paired_same (fun p q ⟨d, z⟩ => ⟨d, k5 _ _ z (ne_of z hA4.fl (by intro q; cases q))⟩) hA4.rqs
    have rs_ne : ∀ p ∈ L.rs, ∀ o, H4 p = some o → (∃ dx q, o = .ins A.qaa dx (rf q)) := fun p hp o e => by
      obtain ⟨j, hj⟩ := List.mem_iff_getElem?.mp hp
      obtain ⟨q, _, dx, z⟩ := paired_get hA4.rqs hj
      rw [z] at e
      exact ⟨dx, q, (Option.some.inj e).symm⟩
    have ldrs : ld ∉ L.rs := fun z => by
      obtain ⟨dx, q, e⟩ := rs_ne ld z _ hld4
      cases e
    refine ⟨_, rfl, ld, rfl, ⟨_, SqL.of hld5⟩, ?_⟩
    refine for_list (K := K) (a := ld) (xs := da.map V.ref) (fun i σ H' => ∃ (v5 v6 : Option V), σ = [some (.ref a), some (.int x), some (.ref lw), some (.ref ld), some (.ref ln), v5, v6] ∧ (∀ b o, (upd H4 L.f (.dK (failKv (s.failed ++ [x])))) b = some o → b ∉ L.rs → H' b = some o) ∧
      ∀ (j : Nat) (p : Addr) (q : Vbemax.Request), L.rs[j]? = some p → s.requests[j]? = some q → RqAt A.qaa H' p (if p ∈ da.take i then { q with stage := 4 } else q)) ?_ ?_ ?_ ?_
    · refine ⟨_, _, rfl, fun b o e _ => e, fun j p q h1 h2 => ?_⟩
      obtain ⟨q', e1, z⟩ := paired_get rs5 h1
      rw [h2] at e1
      cases e1
      rw [List.take_zero, if_neg (by simp)]
      exact z
    · rintro i σ H' _ ⟨v5, v6, _, kp6, _⟩
      exact SqL.of (kp6 _ _ hld5 ldrs)
    · rintro i y σ H' hy ⟨v5, v6, rfl, kp6, hq6⟩
      obtain ⟨p, hp, rfl⟩ := map_ref_get hy
      have hpm : p ∈ pick (isD x) L.rs s.requests := by rw [hda]; exact List.mem_of_getElem? hp
      obtain ⟨j, q, hj1, hj2⟩ := pick_mem hpm
      obtain ⟨dx, hz⟩ := hq6 j p q hj1 hj2
      refine ⟨_, rfl, p, _, dx, _, rfl, hz, T.qaa.cl, T.qaa.nf 5 _ rfl, (by show 6 < 1000; decide), ?_⟩
      refine ⟨_, _, rfl, fun b o e hb => ?_, fun j' p' q' h1 h2 => ?_⟩
      · rw [upd_ne (fun z => hb (by rw [z]; exact List.mem_of_getElem? hj1))]
        exact kp6 b o e hb
      · rw [take_more hp]
        by_cases e : p' = p
        · subst e
          have ej := nodup_at hA.rnd hj1 h1
          subst ej
          rw [hj2] at h2
          cases h2
          rw [if_pos (List.mem_append_right _ (List.mem_singleton.mpr rfl))]
          refine ⟨dx, ?_⟩
          rw [upd_same]
          split <;> rfl
        · have em : (p' ∈ da.take i ++ [p]) ↔ p' ∈ da.take i := by
            rw [List.mem_append, List.mem_singleton]
            exact ⟨fun z => z.resolve_right e, .inl⟩
          simp only [em]
          obtain ⟨dy, hy'⟩ := hq6 j' p' q' h1 h2
          exact ⟨dy, by rw [upd_ne e]; exact hy'⟩
    rintro σ H6 ⟨v5', v6, rfl, kp6, hq6⟩
    rw [List.length_map, List.take_length] at hq6
    have ncls : ∀ {b : Addr} {o : HO}, H4 b = some o → (∀ dx q, o ≠ .ins A.qaa dx (rf q)) → b ∉ L.rs := fun {b o} e n z => by
      obtain ⟨dx, q, e2⟩ := rs_ne b z o e
      exact n dx q e2
    have k6 : ∀ b o, H4 b = some o → b ≠ L.f → (∀ dx q, o ≠ .ins A.qaa dx (rf q)) → H6 b = some o := fun b o e hb n => kp6 b o (k5 b o e hb) (ncls e n)
    have hln6 : H6 ln = some (.lst (as.map V.ref)) := k6 _ _ hl4 nlnf (fun _ _ q => by cases q)
    have hfa6 : H6 L.fa = some (.lst (L.fs.map V.ref)) := k6 _ _ hA4.fc (ne_of hA4.fc hA4.fl (by intro q; cases q)) (fun _ _ q => by cases q)
    have hho6 : H6 a = some (.ins A.qad L.dx (hf s L)) := k6 _ _ hA4.ho (ne_of hA4.ho hA4.fl (by intro q; cases q)) (fun dx q e => by
      have := congrArg (fun o : HO => match o with | .ins _ _ fs => fs.length | _ => 0) e
      cases this)
    have hfl := Paired.length hA.fcs
    refine ⟨_, rfl, a, _, _, _, _, rfl, hho6, T.qad.cl, T.qad.nf 10 _ rfl, rfl, .inl ⟨rfl, _, SqL.of hfa6⟩, _, rfl, L.fa, ln, _, _, rfl, rfl, hfa6, hln6, ?_, ?_⟩
    · rw [List.length_map, List.length_map]
      exact Nat.le_of_lt (small1000 (by omega))
    have nlnfa : ln ≠ L.fa := fun z => by
      have := hA.fc
      rw [← z, hnH] at this
      cases this
    refine ⟨_, rfl, ln, _, rfl, .inl (SqL.of (by rw [upd_ne nlnfa]; exact hln6)), sz2, fun l hl => ?_⟩
    have hlfa : l ≠ L.fa := fun z => by rw [z, upd_same] at hl; cases hl
    have hl6 : H6 l = none := by rw [upd_ne hlfa] at hl; exact hl
    have s8 : Same (upd H6 L.fa (.lst (L.fs.map V.ref ++ as.map V.ref))) (upd (upd H6 L.fa (.lst (L.fs.map V.ref ++ as.map V.ref))) l (.lst [V.int 0, V.int (((as.map V.ref).length : Nat) : Int)])) := same_new hl
    have k8 : ∀ b o, H4 b = some o → b ≠ L.f → b ≠ L.fa → (∀ dx q, o ≠ .ins A.qaa dx (rf q)) → (upd (upd H6 L.fa (.lst (L.fs.map V.ref ++ as.map V.ref))) l (.lst [V.int 0, V.int (((as.map V.ref).length : Nat) : Int)])) b = some o := fun b o e h1 h2 h3 => s8 _ _ (by rw [upd_ne h2]; exact k6 b o e h1 h3)
    have fin : HA A (upd (upd H6 L.fa (.lst (L.fs.map V.ref ++ as.map V.ref))) l (.lst [V.int 0, V.int (((as.map V.ref).length : Nat) : Int)])) a { s with failed := s.failed ++ [x], requests := s.requests.map (dropG x), facts := s.facts ++ Vbemax.fallen s x } { L with fs := L.fs ++ as } := by
      have nff : ∀ (f : Vbemax.Fact) (C dx dy : Addr) (q : Vbemax.Request), HO.ins C dy (ff f) ≠ .ins A.qaa dx (rf q) := fun f C dx dy q e => by
        have := congrArg (fun o : HO => match o with | .ins _ _ fs => fs.length | _ => 0) e
        cases this
      have nvf : ∀ (f : Vbemax.Volume) (C dx dy : Addr) (q : Vbemax.Request), HO.ins C dy (vf f) ≠ .ins A.qaa dx (rf q) := fun f C dx dy q e => by
        have := congrArg (fun o : HO => match o with | .ins _ _ fs => fs.length | _ => 0) e
        cases this
      refine ⟨k8 _ _ hA4.ho (ne_of hA4.ho hA4.fl (by intro q; cases q)) (ne_of hA4.ho hA4.fc (by intro q; cases q)) (fun dx q e => ?_), ?_, k8 _ _ hA4.hl (Ne.symm hA.fh) (ne_of hA4.hl hA4.fc (by intro q; cases q)) (fun _ _ q => by cases q), hA.hk, k8 _ _ hA4.rq (ne_of hA4.rq hA4.fl (by intro q; cases q)) hA.rfa (fun _ _ q => by cases q), ?_, ?_, ?_,
        k8 _ _ hA4.vl (ne_of hA4.vl hA4.fl (by intro q; cases q)) (Ne.symm hA.fav) (fun _ _ q => by cases q), paired_same (fun p f ⟨d, z⟩ => ⟨d, k8 _ _ z (ne_of z hA4.fl (by intro q; cases q)) (ne_of z hA4.fc (by intro q; cases q)) (fun dx q => nvf f _ dx _ q)⟩) hA4.vls, k8 _ _ hA4.bl (ne_of hA4.bl hA4.fl (by intro q; cases q)) (ne_of hA4.bl hA4.fc (by intro q; cases q)) (fun _ _ q => by cases q), hA.fh, hA.rfa, hA.rv, hA.fav, hA.rnd, ?_⟩
      · have := congrArg (fun o : HO => match o with | .ins _ _ fs => fs.length | _ => 0) e
        cases this
      · refine s8 _ _ ?_
        rw [upd_ne (ne_of hA.fl hA.fc (by intro q; cases q))]
        exact kp6 _ _ upd_same (ncls hA4.fl (fun _ _ q => by cases q))
      · refine paired_of (by rw [List.length_map]; exact hlen) fun j p q h1 h2 => ?_
        rw [List.getElem?_map] at h2
        obtain ⟨r, hr1, hr2⟩ := Option.map_eq_some_iff.mp h2
        obtain ⟨dx, hz⟩ := hq6 j p r h1 hr1
        have hm : p ∈ da ↔ isD x r = true := by rw [← hda]; exact mem_pick hA.rnd h1 hr1
        have hpf : p ≠ L.fa := fun z => by rw [z] at hz; rw [hfa6] at hz; cases hz
        have eq : q = (if p ∈ da then { r with stage := 4 } else r) := by
          rw [← hr2]
          unfold dropG
          by_cases c : r.stage = 0 ∧ r.supplier = x
          · rw [if_pos c, if_pos (hm.mpr (by simp [isD, isW, c.1, c.2]))]
          · rw [if_neg c, if_neg (fun z => c (by have := hm.mp z; simpa [isD, isW] using this))]
        rw [eq]
        exact ⟨dx, s8 _ _ (by rw [upd_ne hpf]; exact hz)⟩
      · rw [List.map_append]
        exact s8 _ _ upd_same
      · refine paired_append (paired_same (fun p f ⟨d, z⟩ => ⟨d, k8 _ _ z (ne_of z hA4.fl (by intro q; cases q)) (ne_of z hA4.fc (by intro q; cases q)) (fun dx q => nff f _ dx _ q)⟩) hA4.fcs) (paired_same (fun p f ⟨d, z⟩ => ⟨d, k8 _ _ z (ne_of z hA4.fl (by intro q; cases q)) (ne_of z hA4.fc (by intro q; cases q)) (fun dx q => nff f _ dx _ q)⟩) has)
      · refine ⟨by show (s.requests.map _).length ≤ 64; rw [List.length_map]; exact hA.sm.rq, by show (s.facts ++ _).length ≤ 600; rw [List.length_append]; omega, hA.sm.vl, hA.sm.bl, hA.sm.hl, hA.sm.pt, hA.sm.sp, by show (s.failed ++ [x]).length ≤ 100; rw [List.length_append]; simp; omega⟩
    refine D _ { L with fs := L.fs ++ as } l ⟨fun b o e hb => ?_, fun b hb => .inl (foot_same rfl rfl rfl rfl rfl rfl rfl hb)⟩ fin ?_ ?_
    · have e4 := sK _ _ e
      refine s8 _ _ ?_
      rw [upd_ne (fun z => hb (by rw [z]; exact foot_fa))]
      refine kp6 b o (k5 b o e4 (fun z => hb (.inr (.inl z)))) (fun z => hb (.inr (.inr (.inr (.inr (.inr (.inr (.inr z))))))))
    · cases e : H l with
      | none => rfl
      | some o =>
        exfalso
        have e4 := sK _ _ e
        by_cases c1 : l ∈ L.rs
        · obtain ⟨j, hj⟩ := List.mem_iff_getElem?.mp c1
          obtain ⟨r, hr1, _⟩ := paired_get hA.rqs hj
          obtain ⟨dx, hz⟩ := hq6 j l r hj hr1
          rw [hl6] at hz
          cases hz
        · by_cases c2 : l = L.f
          · have := kp6 _ _ (by rw [c2]; exact upd_same) c1
            rw [hl6] at this
            cases this
          · have := kp6 l o (k5 l o e4 c2) c1
            rw [hl6] at this
            cases this
    · rw [upd_same]
      show some (HO.lst [V.int 0, V.int (((as.map V.ref).length : Nat) : Int)]) = some (HO.lst [V.int 0, V.int ((Vbemax.fallen s x).length : Int)])
      rw [List.length_map, asl]
end
theorem paired_map {α β : Type} {R : Addr → α → Prop} {S : Addr → β → Prop} {f : α → β} (h : ∀ p q, R p q → S p (f q)) : ∀ {l : List Addr} {m : List α}, Paired R l m → Paired S l (m.map f)
  | _, _, .nil => .nil
  | _, _, .cons r t => .cons (h _ _ r) (paired_map h t)
def TRow (H : Hp) (t : Addr) (r : List Int) : Prop := H t = some (.tup (r.map V.int))
section
variable {P : Program} {w : World} {K : PySem.W.Frag} {mg : Str → Option Value} {base : Heap} {A : Adr}
def sp_qbu (A : Adr) : Sp := fun vs H Q _ => ∃ (l : Addr) (ts : List Addr) (rs : List (List Int)), vs = [.ref l] ∧ H l = some (.lst (ts.map V.ref)) ∧ Paired (TRow H) ts rs ∧ rs.flatten.length ≤ 100000 ∧
  ∀ H' p, H p = none → Same H H' → H' p = some (.lst ((0 :: ((rs.length : Nat) : Int) :: rs.flatten).map V.int)) → Q (.ref p) H'
theorem ok_qbu (T : Txt K mg A) : FnOk P w K mg base CX0 1 A.qbu.1 A.qbu.2 ["rows"] (sp_qbu A) := by
  refine T.qbu.F.ok sc_qbu (fun vs H Q E h => ?_) (fun cdv An outer s0 H vs Q E hr h => ?_)
  · obtain ⟨l, ts, rs, rfl, _⟩ := h
    rfl
  · obtain ⟨l, ts, rs, rfl, hl, hp, hz, q⟩ := h
    have nd := sc_qbu.nd
    have hu := hu_of hr
    refine ⟨_, (pss_cons (ps_set (i := 1) nd rfl (Or.inl rfl) (pe_lst (pa_cons pe_int (pa_cons (pe_callB call_len_seq rfl T.b_len PySem.boot_len (pa_cons (pv 0) pa_nil)) pa_nil))))
      (pss_cons (ps_for PassesOwn.never rfl (pi_list (pv 0)) (pg_name (i := 2) nd rfl (Or.inl rfl)) (pss_one (ps_expr (pe_bm PySem.F.plainAttrs_list PySem.F.slot_list_extend PySem.F.type_list_extend mt_extendT (pv 1) (pa_cons (pv 2) pa_nil)))))
      (pss_one (ps_ret (pv 1))))), ?_⟩
    have hlen := Paired.length hp
    refine ⟨_, rfl, l, _, rfl, .inl (SqL.of hl), sz2, fun D hD => ?_⟩
    have s1 : Same H (upd H D (.lst [.int 0, .int (((ts.map V.ref).length : Nat) : Int)])) := same_new hD
    refine ⟨_, rfl, l, rfl, ⟨_, SqL.of (s1 _ _ hl)⟩, ?_⟩
    refine for_list (K := K) (a := l) (xs := ts.map V.ref) (fun i σ H' => ∃ v : Option V, σ = [some (.ref l), some (.ref D), v] ∧ H' = upd H D (.lst ((0 :: ((rs.length : Nat) : Int) :: (rs.take i).flatten).map V.int))) ?_ ?_ ?_ ?_
    · refine ⟨none, rfl, ?_⟩
      rw [List.length_map, hlen]
      rfl
    · rintro i σ H' _ ⟨v, _, rfl⟩
      exact SqL.of (same_new hD _ _ hl)
    · rintro i x σ H' hx ⟨v, rfl, rfl⟩
      obtain ⟨t, ht, rfl⟩ := map_ref_get hx
      obtain ⟨r, hr1, hr2⟩ := paired_get hp ht
      refine ⟨_, rfl, .inl ⟨rfl, _, SqL.of upd_same⟩, _, rfl, D, t, _, _, rfl, rfl, upd_same, SqT.of (same_new hD _ _ hr2), ?_, ?_⟩
      · have e : (rs.take (i + 1)).flatten = (rs.take i).flatten ++ r := by rw [take_more hr1, List.flatten_append]; simp
        have e2 : (rs.take (i + 1)).flatten.length ≤ rs.flatten.length := by
          conv => rhs; rw [← List.take_append_drop (i + 1) rs, List.flatten_append, List.length_append]
          omega
        rw [e, List.length_append] at e2
        rw [List.length_map, List.length_map, List.length_cons, List.length_cons]
        have : sizeLine = 16777216 := by decide
        omega
      · refine ⟨_, rfl, ?_⟩
        rw [upd_upd, take_more hr1, List.flatten_append, ← List.map_append]
        simp
    · rintro σ H' ⟨v, rfl, rfl⟩
      refine ⟨_, rfl, q _ D hD (same_new hD) ?_⟩
      rw [upd_same, List.length_map, hlen, List.take_length]
def sp_qbv (A : Adr) : Sp := fun vs H Q _ => ∃ (a : Addr) (s : Vbemax.State) (L : Lay) (p d k : Nat), vs = [.ref a, .int p, .int d, .int k] ∧ 1 ≤ p ∧ HA A H a s L ∧ Okay s ∧ Done A a L H Q (Vbemax.step s (.who p d k))
theorem ok_qbv (T : Txt K mg A) : FnOk P w K mg base CX0 3 A.qbv.1 A.qbv.2 ["house", "point", "day", "known_at"] (sp_qbv A) := by
  refine T.qbv.F.ok sc_qbv (fun vs H Q E h => ?_) (fun cdv An outer s0 H vs Q E hr h => ?_)
  · obtain ⟨a, s, L, p, d, k, rfl, _⟩ := h
    rfl
  · obtain ⟨a, s, L, p, d, k, rfl, hp1, hA, hO, D⟩ := h
    have nd := sc_qbv.nd
    have hu := hu_of hr
    refine ⟨_, (pss_cons (ps_if (pt_val (pe_call (ok_qak T) (hr.mono (by decide)) rfl T.qak.g T.qak.F.kp T.qak.b .nil pass0 (pa_cons (pv 0) (pa_cons (pv 1) pa_nil)))) (pss_one (ps_ret (pe_lst (pa_cons (pe_un un_neg pe_int) pa_nil)))) pss_nil)
      (pss_cons (ps_if (pt_cmpR op_gt (pv 3) (pe_fl T (pv 0)) (nomark _)) (pss_one (ps_ret (pe_lst (pa_cons (pe_un un_neg pe_int) pa_nil)))) pss_nil)
      (pss_one (ps_ret (pe_lst (pa_cons pe_int (pa_cons (pe_call (ok_qar T) (hr.mono (by decide)) rfl T.qar.g T.qar.F.kp T.qar.b .nil pass0 (pa_cons (pv 0) (pa_cons (pv 1) (pa_cons (pv 2) (pa_cons (pv 3) pa_nil))))) pa_nil))))))), ?_⟩
    have dd : Vbemax.does s (.who p d k) = if Vbemax.isPoint s p = false then .error (-5) else if s.today < k then .error (-8) else .ok (s, [Vbemax.nat (Vbemax.whoAt s p d k)]) := rfl
    refine ⟨_, rfl, _, rfl, a, s, L, p, rfl, hA, _, rfl, ?_⟩
    refine ite2 (fun c => ?_) (fun c1 => ?_)
    · refine ⟨_, rfl, sz1, fun l hl => ?_⟩
      refine D.lit hA (step_err hO.op ?_) (Same.refl _) hl rfl
      rw [dd, if_pos (isPoint_f (of_decide_eq_true c))]
    rw [if_neg (isPoint_t hp1 (fun z => c1 (decide_eq_true z)))] at dd
    refine ⟨_, rfl, _, rfl, a, _, _, _, _, rfl, hA.ho, T.qad.cl, T.qad.nf 5 _ rfl, rfl, _, _, rfl, rfl, _, rfl, ?_⟩
    rw [dlt]
    refine ite2 (fun c => ?_) (fun c2 => ?_)
    · refine ⟨_, rfl, sz1, fun l hl => ?_⟩
      refine D.lit hA (step_err hO.op ?_) (Same.refl _) hl rfl
      rw [dd, if_pos (of_decide_eq_true c)]
    rw [if_neg (fun z => c2 (decide_eq_true z))] at dd
    refine ⟨_, rfl, _, rfl, _, rfl, _, rfl, a, s, L, p, d, k, rfl, hA, fun H1 s1 => ⟨sz2, fun l hl => ?_⟩⟩
    exact D.lit hA (step_ok hO.op dd) s1 hl rfl
def sp_qbw (A : Adr) : Sp := fun vs H Q _ => ∃ (a : Addr) (s : Vbemax.State) (L : Lay) (p k : Nat), vs = [.ref a, .int p, .int k] ∧ 1 ≤ p ∧ HA A H a s L ∧ Okay s ∧ Done A a L H Q (Vbemax.step s (.history p k))
theorem ok_qbw (T : Txt K mg A) : FnOk P w K mg base CX0 3 A.qbw.1 A.qbw.2 ["house", "point", "known_at"] (sp_qbw A) := by
  refine T.qbw.F.ok sc_qbw (fun vs H Q E h => ?_) (fun cdv An outer s0 H vs Q E hr h => ?_)
  · obtain ⟨a, s, L, p, k, rfl, _⟩ := h
    rfl
  · obtain ⟨a, s, L, p, k, rfl, hp1, hA, hO, D⟩ := h
    have nd := sc_qbw.nd
    have hu := hu_of hr
    refine ⟨_, (pss_cons (ps_if (pt_val (pe_call (ok_qak T) (hr.mono (by decide)) rfl T.qak.g T.qak.F.kp T.qak.b .nil pass0 (pa_cons (pv 0) (pa_cons (pv 1) pa_nil)))) (pss_one (ps_ret (pe_lst (pa_cons (pe_un un_neg pe_int) pa_nil)))) pss_nil)
      (pss_cons (ps_if (pt_cmpR op_gt (pv 2) (pe_fl T (pv 0)) (nomark _)) (pss_one (ps_ret (pe_lst (pa_cons (pe_un un_neg pe_int) pa_nil)))) pss_nil)
      (pss_one (ps_ret (pe_call (ok_qbu T) (hr.mono (by decide)) rfl T.qbu.g T.qbu.F.kp T.qbu.b .nil pass0 (pa_cons (pe_call (ok_qat T) (hr.mono (by decide)) rfl T.qat.g T.qat.F.kp T.qat.b .nil pass0 (pa_cons (pv 0) (pa_cons (pv 1) (pa_cons (pv 2) pa_nil)))) pa_nil)))))), ?_⟩
    have dd : Vbemax.does s (.history p k) = if Vbemax.isPoint s p = false then .error (-5) else if s.today < k then .error (-8) else .ok (s, Vbemax.rows ((Vbemax.spans s.basic s.facts p k).map fun x => [Vbemax.nat x.from_, Vbemax.nat x.supplier])) := rfl
    refine ⟨_, rfl, _, rfl, a, s, L, p, rfl, hA, _, rfl, ?_⟩
    refine ite2 (fun c => ?_) (fun c1 => ?_)
    · refine ⟨_, rfl, sz1, fun l hl => ?_⟩
      refine D.lit hA (step_err hO.op ?_) (Same.refl _) hl rfl
      rw [dd, if_pos (isPoint_f (of_decide_eq_true c))]
    rw [if_neg (isPoint_t hp1 (fun z => c1 (decide_eq_true z)))] at dd
    refine ⟨_, rfl, _, rfl, a, _, _, _, _, rfl, hA.ho, T.qad.cl, T.qad.nf 5 _ rfl, rfl, _, _, rfl, rfl, _, rfl, ?_⟩
    rw [dlt]
    refine ite2 (fun c => ?_) (fun c2 => ?_)
    · refine ⟨_, rfl, sz1, fun l hl => ?_⟩
      refine D.lit hA (step_err hO.op ?_) (Same.refl _) hl rfl
      rw [dd, if_pos (of_decide_eq_true c)]
    rw [if_neg (fun z => c2 (decide_eq_true z)), spans_eq, List.map_map] at dd
    refine ⟨_, rfl, _, rfl, _, rfl, a, s, L, p, k, rfl, hA, hO.fi, fun H1 l1 ts hn1 s1 h1 h2 hb => ?_⟩
    refine ⟨l1, ts, (starts (wOf s.basic s.facts p k)).map fun d => [((d : Nat) : Int), ((wOf s.basic s.facts p k d : Nat) : Int)], rfl, h1, paired_map (S := TRow H1) (f := fun d : Nat => [((d : Nat) : Int), ((wOf s.basic s.facts p k d : Nat) : Int)]) (fun t d z => z) h2, ?_, fun H2 l hn2 s2 h => ?_⟩
    · have : ∀ l : List Nat, (l.map fun d => [((d : Nat) : Int), ((wOf s.basic s.facts p k d : Nat) : Int)]).flatten.length = 2 * l.length := by
        intro l
        induction l with
        | nil => rfl
        | cons d l ih => rw [List.map_cons, List.flatten_cons, List.length_append, ih, List.length_cons]; simp; omega
      rw [this]
      omega
    · exact D.q hA (step_ok hO.op dd) (s1.trans s2) (s1.free hn2) h
def sp_qbx (A : Adr) : Sp := fun vs H Q _ => ∃ (a : Addr) (s : Vbemax.State) (L : Lay) (p j k : Nat), vs = [.ref a, .int p, .int j, .int k] ∧ 1 ≤ p ∧ HA A H a s L ∧ Okay s ∧ Done A a L H Q (Vbemax.step s (.differs p j k))
theorem ok_qbx (T : Txt K mg A) : FnOk P w K mg base CX0 3 A.qbx.1 A.qbx.2 ["house", "point", "known_at", "other_known_at"] (sp_qbx A) := by
  refine T.qbx.F.ok sc_qbx (fun vs H Q E h => ?_) (fun cdv An outer s0 H vs Q E hr h => ?_)
  · obtain ⟨a, s, L, p, j, k, rfl, _⟩ := h
    rfl
  · obtain ⟨a, s, L, p, j, k, rfl, hp1, hA, hO, D⟩ := h
    have nd := sc_qbx.nd
    have hu := hu_of hr
    refine ⟨_, (pss_cons (ps_if (pt_val (pe_call (ok_qak T) (hr.mono (by decide)) rfl T.qak.g T.qak.F.kp T.qak.b .nil pass0 (pa_cons (pv 0) (pa_cons (pv 1) pa_nil)))) (pss_one (ps_ret (pe_lst (pa_cons (pe_un un_neg pe_int) pa_nil)))) pss_nil)
      (pss_cons (ps_if ((pw_or (pt_cmpR op_gt (pv 2) (pe_fl T (pv 0)) (nomark _)) (pw_or1 (pt_cmpR op_gt (pv 3) (pe_fl T (pv 0)) (nomark _))))).pt (pss_one (ps_ret (pe_lst (pa_cons (pe_un un_neg pe_int) pa_nil)))) pss_nil)
      (pss_one (ps_ret (pe_call (ok_qbu T) (hr.mono (by decide)) rfl T.qbu.g T.qbu.F.kp T.qbu.b .nil pass0 (pa_cons (pe_call (ok_qav T) (hr.mono (by decide)) rfl T.qav.g T.qav.F.kp T.qav.b .nil pass0 (pa_cons (pv 0) (pa_cons (pv 1) (pa_cons (pv 2) (pa_cons (pv 3) pa_nil))))) pa_nil)))))), ?_⟩
    have dd : Vbemax.does s (.differs p j k) = if Vbemax.isPoint s p = false then .error (-5) else if s.today < j ∨ s.today < k then .error (-8) else .ok (s, Vbemax.rows ((Vbemax.differing s p j k).map fun x => [Vbemax.nat x.1, Vbemax.nat x.2])) := rfl
    refine ⟨_, rfl, _, rfl, a, s, L, p, rfl, hA, _, rfl, ?_⟩
    refine ite2 (fun c => ?_) (fun c1 => ?_)
    · refine ⟨_, rfl, sz1, fun l hl => ?_⟩
      refine D.lit hA (step_err hO.op ?_) (Same.refl _) hl rfl
      rw [dd, if_pos (isPoint_f (of_decide_eq_true c))]
    rw [if_neg (isPoint_t hp1 (fun z => c1 (decide_eq_true z)))] at dd
    have e8 : (s.today < j ∨ s.today < k) → ∀ l, H l = none → Q (.ref l) (upd H l (.lst [.int (-8)])) := fun z l hl => by
      refine D.lit hA (step_err hO.op ?_) (Same.refl _) hl rfl
      rw [dd, if_pos z]
    refine ⟨_, rfl, _, rfl, a, _, _, _, _, rfl, hA.ho, T.qad.cl, T.qad.nf 5 _ rfl, rfl, _, _, rfl, rfl, _, rfl, ?_⟩
    rw [dlt]
    refine ite2 (fun c => ?_) (fun c2 => ?_)
    · exact iteT ⟨_, rfl, sz1, fun l hl => e8 (.inl (of_decide_eq_true c)) l hl⟩
    refine ⟨_, rfl, _, rfl, a, _, _, _, _, rfl, hA.ho, T.qad.cl, T.qad.nf 5 _ rfl, rfl, _, _, rfl, rfl, _, rfl, ?_⟩
    rw [dlt]
    refine ite2 (fun c => ?_) (fun c3 => ?_)
    · exact ⟨_, rfl, sz1, fun l hl => e8 (.inr (of_decide_eq_true c)) l hl⟩
    rw [if_neg (fun z => z.elim (fun z => c2 (decide_eq_true z)) (fun z => c3 (decide_eq_true z)))] at dd
    refine ⟨_, rfl, _, rfl, _, rfl, _, rfl, a, s, L, p, j, k, rfl, hA, hO.fi, fun H1 l1 ts hn1 s1 h1 h2 hb => ?_⟩
    refine ⟨l1, ts, (Vbemax.differing s p j k).map fun x : Nat × Nat => [Vbemax.nat x.1, Vbemax.nat x.2], rfl, h1, paired_map (S := TRow H1) (f := fun x : Nat × Nat => [Vbemax.nat x.1, Vbemax.nat x.2]) (fun t d z => z) h2, ?_, fun H2 l hn2 s2 h => ?_⟩
    · have : ∀ l : List (Nat × Nat), (l.map fun x => [Vbemax.nat x.1, Vbemax.nat x.2]).flatten.length = 2 * l.length := by
        intro l
        induction l with
        | nil => rfl
        | cons d l ih => rw [List.map_cons, List.flatten_cons, List.length_append, ih, List.length_cons]; simp; omega
      rw [this]
      omega
    · exact D.q hA (step_ok hO.op dd) (s1.trans s2) (s1.free hn2) h
def sp_qai (A : Adr) : Sp := fun vs H Q _ => ∃ (a : Addr) (s : Vbemax.State) (L : Lay) (d n : Nat), vs = [.ref a, .int d, .int n] ∧ HA A H a s L ∧ Okay s ∧ Done A a L H Q (Vbemax.step s (.businessAfter d n))
theorem ok_qai (T : Txt K mg A) : FnOk P w K mg base CX0 3 A.qai.1 A.qai.2 ["house", "day", "n"] (sp_qai A) := by
  refine T.qai.F.ok sc_qai (fun vs H Q E h => ?_) (fun cdv An outer s0 H vs Q E hr h => ?_)
  · obtain ⟨a, s, L, d, n, rfl, _⟩ := h
    rfl
  · obtain ⟨a, s, L, d, n, rfl, hA, hO, D⟩ := h
    have nd := sc_qai.nd
    have hu := hu_of hr
    refine ⟨_, (pss_one (ps_ret (pe_lst (pa_cons pe_int (pa_cons (pe_call (ok_qaf T) (hr.mono (by decide)) rfl T.qaf.g T.qaf.F.kp T.qaf.b .nil pass0 (pa_cons (pe_fl T (pv 0)) (pa_cons (pv 1) (pa_cons (pv 2) pa_nil)))) pa_nil))))), ?_⟩
    have dd : Vbemax.does s (.businessAfter d n) = .ok (s, [Vbemax.nat (Vbemax.after_ s.holidays d n)]) := rfl
    refine ⟨_, rfl, a, _, _, _, _, rfl, hA.ho, T.qad.cl, T.qad.nf 7 _ rfl, rfl, _, rfl, _, rfl, L.h, d, n, L.kh, s.holidays, rfl, hA.hl, hA.hk, sz2, fun l hl => ?_⟩
    exact D.lit hA (step_ok hO.op dd) (Same.refl _) hl rfl
def sp_qaj (A : Adr) : Sp := fun vs H Q _ => ∃ (a : Addr) (s : Vbemax.State) (L : Lay) (x y : Nat), vs = [.ref a, .int x, .int y] ∧ HA A H a s L ∧ Okay s ∧ Done A a L H Q (Vbemax.step s (.businessBetween x y))
theorem ok_qaj (T : Txt K mg A) : FnOk P w K mg base CX0 3 A.qaj.1 A.qaj.2 ["house", "after", "until"] (sp_qaj A) := by
  refine T.qaj.F.ok sc_qaj (fun vs H Q E h => ?_) (fun cdv An outer s0 H vs Q E hr h => ?_)
  · obtain ⟨a, s, L, x, y, rfl, _⟩ := h
    rfl
  · obtain ⟨a, s, L, x, y, rfl, hA, hO, D⟩ := h
    have nd := sc_qaj.nd
    have hu := hu_of hr
    refine ⟨_, (pss_cons (ps_if (pt_cmpR op_lt (pv 2) (pv 1) (nomark _)) (pss_one (ps_ret (pe_lst (pa_cons (pe_un un_neg pe_int) pa_nil)))) pss_nil)
      (pss_one (ps_ret (pe_lst (pa_cons pe_int (pa_cons (pe_call (ok_qah T) (hr.mono (by decide)) rfl T.qah.g T.qah.F.kp T.qah.b .nil pass0 (pa_cons (pe_fl T (pv 0)) (pa_cons (pv 1) (pa_cons (pv 2) pa_nil)))) pa_nil)))))), ?_⟩
    have dd : Vbemax.does s (.businessBetween x y) = if y < x then .error (-8) else .ok (s, [Vbemax.nat (Vbemax.between s.holidays x y)]) := rfl
    refine ⟨_, rfl, _, rfl, _, _, rfl, rfl, _, rfl, ?_⟩
    rw [dlt]
    refine ite2 (fun c => ?_) (fun c1 => ?_)
    · refine ⟨_, rfl, sz1, fun l hl => ?_⟩
      refine D.lit hA (step_err hO.op ?_) (Same.refl _) hl rfl
      rw [dd, if_pos (of_decide_eq_true c)]
    have hxy : x ≤ y := Nat.le_of_not_lt fun z => c1 (decide_eq_true z)
    rw [if_neg (fun z => c1 (decide_eq_true z))] at dd
    refine ⟨_, rfl, a, _, _, _, _, rfl, hA.ho, T.qad.cl, T.qad.nf 7 _ rfl, rfl, _, rfl, _, rfl, L.h, x, y, L.kh, s.holidays, rfl, hxy, hA.hl, hA.hk, ?_, fun H1 s1 => ⟨sz2, fun l hl => ?_⟩⟩
    · have := hA.sm.hl
      have := hA.hk.len
      omega
    · exact D.lit hA (step_ok hO.op dd) s1 hl rfl
end
theorem ins_ne {C C' d d' : Addr} {f f' : List (Str × V)} (h : f.length ≠ f'.length) : HO.ins C d f ≠ .ins C' d' f' := fun e => by
  injection e with _ _ e
  exact h (congrArg List.length e)
theorem HA.upd_house {A : Adr} {H : Hp} {a : Addr} {s s' : Vbemax.State} {L : Lay} (h : HA A H a s L) (e1 : s'.failed = s.failed) (e2 : s'.holidays = s.holidays) (e3 : s'.requests = s.requests) (e4 : s'.facts = s.facts) (e5 : s'.volumes = s.volumes) (e6 : s'.bills = s.bills) (sm : Small s') :
    HA A (upd H a (.ins A.qad L.dx (hf s' L))) a s' L := by
  have k : ∀ b o, H b = some o → o ≠ .ins A.qad L.dx (hf s L) → (upd H a (.ins A.qad L.dx (hf s' L))) b = some o := fun b o e n => by rw [upd_ne (ne_of e h.ho n)]; exact e
  refine ⟨upd_same, ?_, k _ _ h.hl (by intro q; cases q), ?_, k _ _ h.rq (by intro q; cases q), ?_, k _ _ h.fc (by intro q; cases q), ?_, k _ _ h.vl (by intro q; cases q), ?_, ?_, h.fh, h.rfa, h.rv, h.fav, h.rnd, sm⟩
  · rw [e1]; exact k _ _ h.fl (by intro q; cases q)
  · rw [e2]; exact h.hk
  · rw [e3]; exact paired_same (fun p q ⟨d, z⟩ => ⟨d, k _ _ z (ins_ne (by show 6 ≠ 13; decide))⟩) h.rqs
  · rw [e4]; exact paired_same (fun p q ⟨d, z⟩ => ⟨d, k _ _ z (ins_ne (by show 5 ≠ 13; decide))⟩) h.fcs
  · rw [e5]; exact paired_same (fun p q ⟨d, z⟩ => ⟨d, k _ _ z (ins_ne (by show 4 ≠ 13; decide))⟩) h.vls
  · rw [e6]; exact k _ _ h.bl (by intro q; cases q)
theorem house_done {A : Adr} {H : Hp} {a : Addr} {s s' : Vbemax.State} {L : Lay} {Q : VK} {r : Vbemax.State × List Int} {xs : List V} {l : Addr} (D : Done A a L H Q r) (hA : HA A H a s L) (e1 : s'.failed = s.failed) (e2 : s'.holidays = s.holidays) (e3 : s'.requests = s.requests) (e4 : s'.facts = s.facts) (e5 : s'.volumes = s.volumes) (e6 : s'.bills = s.bills) (sm : Small s')
    (hl : (upd H a (.ins A.qad L.dx (hf s' L))) l = none) (hr : r.1 = s') (hq : xs = r.2.map V.int) : Q (.ref l) (upd (upd H a (.ins A.qad L.dx (hf s' L))) l (.lst xs)) := by
  have hla : l ≠ a := fun z => by rw [z, upd_same] at hl; cases hl
  have hlH : H l = none := by rw [upd_ne hla] at hl; exact hl
  refine D _ L l ⟨fun b o e hb => ?_, fun b hb => .inl hb⟩ (by rw [hr]; exact (hA.upd_house e1 e2 e3 e4 e5 e6 sm).same (same_new hl)) hlH (by rw [upd_same, hq])
  rw [upd_ne (ne_of_none e hlH), upd_ne (fun z => hb (.inl z))]
  exact e
section
variable {P : Program} {w : World} {K : PySem.W.Frag} {mg : Str → Option Value} {base : Heap} {A : Adr}
theorem step_opens_err {s : Vbemax.State} {b n k m : Nat} {e : Int} (h : Vbemax.does s (.opens b n k m) = .error e) : Vbemax.step s (.opens b n k m) = (s, [e]) := by
  unfold Vbemax.step
  rw [if_neg (fun z => nomatch z.2), h]
theorem step_opens_ok {s t : Vbemax.State} {b n k m : Nat} {l : List Int} (h : Vbemax.does s (.opens b n k m) = .ok (t, l)) : Vbemax.step s (.opens b n k m) = (t, 0 :: l) := by
  unfold Vbemax.step
  rw [if_neg (fun z => nomatch z.2), h]
def sp_qbd (A : Adr) : Sp := fun vs H Q _ => ∃ (a : Addr) (s : Vbemax.State) (L : Lay) (b n k m : Nat), vs = [.ref a, .int b, .int n, .int k, .int m] ∧ n ≤ 8 ∧ HA A H a s L ∧ Done A a L H Q (Vbemax.step s (.opens b n k m))
theorem ok_qbd (T : Txt K mg A) : FnOk P w K mg base CX0 1 A.qbd.1 A.qbd.2 ["house", "basic", "suppliers", "objection_time", "notice"] (sp_qbd A) := by
  refine T.qbd.F.ok sc_qbd (fun vs H Q E h => ?_) (fun cdv An outer s0 H vs Q E hr h => ?_)
  · obtain ⟨a, s, L, b, n, k, m, rfl, _⟩ := h
    rfl
  · obtain ⟨a, s, L, b, n, k, m, rfl, hn, hA, D⟩ := h
    have nd := sc_qbd.nd
    have hu := hu_of hr
    refine ⟨_, (pss_cons (ps_if (pt_val (pe_fl T (pv 0))) (pss_one (ps_ret (pe_lst (pa_cons (pe_un un_neg pe_int) pa_nil)))) pss_nil)
      (pss_cons (ps_if ((pw_or (pt_cmpR op_gt (pv 1) (pv 2) (nomark _)) (pw_or1 (pt_cmpR op_le (pv 4) (pv 3) (nomark _))))).pt (pss_one (ps_ret (pe_lst (pa_cons (pe_un un_neg pe_int) pa_nil)))) pss_nil)
      (pss_cons (ps_fld (pv 0) pe_bl rfl)
      (pss_cons (ps_fld (pv 0) (pv 1) rfl)
      (pss_cons (ps_fld (pv 0) (pv 2) rfl)
      (pss_cons (ps_fld (pv 0) (pv 3) rfl)
      (pss_cons (ps_fld (pv 0) (pv 4) rfl)
      (pss_one (ps_ret (pe_lst (pa_cons pe_int pa_nil))))))))))), ?_⟩
    have dd : Vbemax.does s (.opens b n k m) = if s.opened = true then .error (-3) else if n < b ∨ m ≤ k then .error (-12) else .ok ({ s with opened := true, basic := b, suppliers := n, objection := k, notice := m }, []) := rfl
    refine ⟨_, rfl, a, _, _, _, _, rfl, hA.ho, T.qad.cl, T.qad.nf 0 _ rfl, rfl, _, rfl, ?_⟩
    refine ite2 (fun c => ?_) (fun c1 => ?_)
    · refine ⟨_, rfl, sz1, fun l hl => ?_⟩
      refine D.lit hA (step_opens_err ?_) (Same.refl _) hl rfl
      rw [dd, if_pos c]
    rw [if_neg c1] at dd
    have e12 : (n < b ∨ m ≤ k) → ∀ l, H l = none → Q (.ref l) (upd H l (.lst [.int (-12)])) := fun z l hl => by
      refine D.lit hA (step_opens_err ?_) (Same.refl _) hl rfl
      rw [dd, if_pos z]
    refine ⟨_, rfl, _, rfl, _, _, rfl, rfl, _, rfl, ?_⟩
    rw [dlt]
    refine ite2 (fun c => ?_) (fun c2 => ?_)
    · exact iteT ⟨_, rfl, sz1, fun l hl => e12 (.inl (of_decide_eq_true c)) l hl⟩
    refine ⟨_, rfl, _, rfl, _, _, rfl, rfl, _, rfl, ?_⟩
    rw [dle]
    refine ite2 (fun c => ?_) (fun c3 => ?_)
    · exact ⟨_, rfl, sz1, fun l hl => e12 (.inr (of_decide_eq_true c)) l hl⟩
    rw [if_neg (fun z => z.elim (fun z => c2 (decide_eq_true z)) (fun z => c3 (decide_eq_true z)))] at dd
    rw [step_opens_ok dd] at D
    refine ⟨_, rfl, a, _, L.dx, _, rfl, hA.ho, T.qad.cl, T.qad.nf 0 _ rfl, (by show 13 < 1000; decide), ?_⟩
    refine ⟨_, rfl, _, rfl, a, _, L.dx, _, rfl, upd_same, T.qad.cl, T.qad.nf 1 _ rfl, (by show 13 < 1000; decide), ?_⟩
    refine ⟨_, rfl, _, rfl, a, _, L.dx, _, rfl, upd_same, T.qad.cl, T.qad.nf 2 _ rfl, (by show 13 < 1000; decide), ?_⟩
    refine ⟨_, rfl, _, rfl, a, _, L.dx, _, rfl, upd_same, T.qad.cl, T.qad.nf 3 _ rfl, (by show 13 < 1000; decide), ?_⟩
    refine ⟨_, rfl, _, rfl, a, _, L.dx, _, rfl, upd_same, T.qad.cl, T.qad.nf 4 _ rfl, (by show 13 < 1000; decide), ?_⟩
    rw [upd_upd, upd_upd, upd_upd, upd_upd]
    refine ⟨sz1, fun l hl => ?_⟩
    exact house_done (s' := { s with opened := true, basic := b, suppliers := n, objection := k, notice := m }) D hA rfl rfl rfl rfl rfl rfl ⟨hA.sm.rq, hA.sm.fc, hA.sm.vl, hA.sm.bl, hA.sm.hl, hA.sm.pt, hn, hA.sm.fl⟩ hl rfl rfl
def sp_qbf (A : Adr) : Sp := fun vs H Q _ => ∃ (a : Addr) (s : Vbemax.State) (L : Lay), vs = [.ref a] ∧ HA A H a s L ∧ Okay s ∧ Done A a L H Q (Vbemax.step s .point)
theorem ok_qbf (T : Txt K mg A) : FnOk P w K mg base CX0 1 A.qbf.1 A.qbf.2 ["house"] (sp_qbf A) := by
  refine T.qbf.F.ok sc_qbf (fun vs H Q E h => ?_) (fun cdv An outer s0 H vs Q E hr h => ?_)
  · obtain ⟨a, s, L, rfl, _⟩ := h
    rfl
  · obtain ⟨a, s, L, rfl, hA, hO, D⟩ := h
    have nd := sc_qbf.nd
    have hu := hu_of hr
    refine ⟨_, (pss_cons (ps_if (pt_cmpR op_ge (pe_fl T (pv 0)) (pe_co T.qcp) (nomark _)) (pss_one (ps_ret (pe_lst (pa_cons (pe_un un_neg pe_int) pa_nil)))) pss_nil)
      (pss_cons (ps_fldaug (pv 0) pe_int in_add)
      (pss_one (ps_ret (pe_lst (pa_cons pe_int (pa_cons (pe_fl T (pv 0)) pa_nil))))))), ?_⟩
    have dd : Vbemax.does s .point = if 16 ≤ s.points then .error (-4) else .ok ({ s with points := s.points + 1 }, [Vbemax.nat (s.points + 1)]) := rfl
    refine ⟨_, rfl, a, _, _, _, _, rfl, hA.ho, T.qad.cl, T.qad.nf 8 _ rfl, rfl, _, _, rfl, rfl, _, rfl, ?_⟩
    rw [show decide ((16 : Int) ≤ ((s.points : Nat) : Int)) = decide (16 ≤ s.points) from dle 16 s.points]
    refine ite2 (fun c => ?_) (fun c1 => ?_)
    · refine ⟨_, rfl, sz1, fun l hl => ?_⟩
      refine D.lit hA (step_err hO.op ?_) (Same.refl _) hl rfl
      rw [dd, if_pos (of_decide_eq_true c)]
    have hlt : s.points < 16 := Nat.lt_of_not_le fun z => c1 (decide_eq_true z)
    rw [if_neg (fun z => c1 (decide_eq_true z))] at dd
    rw [step_ok hO.op dd] at D
    refine ⟨_, rfl, a, _, _, _, _, rfl, hA.ho, T.qad.cl, T.qad.nf 8 _ rfl, rfl, _, _, rfl, rfl, L.dx, _, hA.ho, (by show 13 < 1000; decide), ?_⟩
    refine ⟨_, rfl, a, _, _, _, _, rfl, upd_same, T.qad.cl, T.qad.nf 8 _ rfl, rfl, sz2, fun l hl => ?_⟩
    exact house_done (s' := { s with points := s.points + 1 }) D hA rfl rfl rfl rfl rfl rfl ⟨hA.sm.rq, hA.sm.fc, hA.sm.vl, hA.sm.bl, hA.sm.hl, hlt, hA.sm.sp, hA.sm.fl⟩ hl rfl rfl
theorem holOk_put {kvs : List (Key × V)} {hol : List Nat} {d : Nat} (h : HolOk kvs hol) (hs : hol.Pairwise (· < ·)) : HolOk (putK kvs (Sum.inl ((d : Nat) : Int)) (V.bl true)) (Vbemax.putDay d hol) := by
  have keys : (valV kvs (Sum.inl ((d : Nat) : Int))).isSome = true → (putK kvs (Sum.inl ((d : Nat) : Int)) (V.bl true)).map (·.1) = kvs.map (·.1) := fun z => by
    unfold putK
    rw [if_pos (by rw [valV_any]; exact z), List.map_map]
    apply List.map_congr_left
    intro y _
    show (if y.1 = _ then (y.1, _) else y).1 = y.1
    split <;> rfl
  cases z : valV kvs (Sum.inl ((d : Nat) : Int)) with
  | some v =>
    have zs : (valV kvs (Sum.inl ((d : Nat) : Int))).isSome = true := by rw [z]; rfl
    have ek := keys zs
    have hc : hol.contains d = true := by rw [← h.mem]; exact zs
    refine ⟨by rw [ek]; exact h.nd, fun e => ?_, by rw [ek]; exact h.nat, ?_⟩
    · rw [valV_put]
      by_cases c : e = d
      · subst c
        rw [if_pos rfl]
        symm
        show (Vbemax.putDay e hol).contains e = true
        rw [List.contains_iff_mem, mem_putDay]
        exact .inl rfl
      · rw [if_neg (fun q => c (by injection q with q; omega)), h.mem]
        rw [Bool.eq_iff_iff, List.contains_iff_mem, List.contains_iff_mem, mem_putDay]
        exact ⟨.inr, fun q => q.resolve_left c⟩
    · have := congrArg List.length ek
      rw [List.length_map, List.length_map] at this
      rw [this, h.len, putDay_length _ _ hs, if_pos hc]
  | none =>
    have hc : ¬ hol.contains d = true := by rw [← h.mem, z]; exact Bool.false_ne_true
    rw [putK_new _ z]
    refine ⟨?_, fun e => ?_, fun k hk => ?_, ?_⟩
    · rw [List.map_append]
      refine List.nodup_append.mpr ⟨h.nd, by simp, fun x hx y hy => ?_⟩
      rw [List.map_cons, List.map_nil, List.mem_singleton] at hy
      subst hy
      intro q
      have q' : x = Sum.inl ((d : Nat) : Int) := q
      exact valV_not z (q' ▸ hx)
    · rw [← putK_new _ z, valV_put]
      by_cases c : e = d
      · subst c
        rw [if_pos rfl]
        symm
        show (Vbemax.putDay e hol).contains e = true
        rw [List.contains_iff_mem, mem_putDay]
        exact .inl rfl
      · rw [if_neg (fun q => c (by injection q with q; omega)), h.mem]
        rw [Bool.eq_iff_iff, List.contains_iff_mem, List.contains_iff_mem, mem_putDay]
        exact ⟨.inr, fun q => q.resolve_left c⟩
    · rw [List.map_append, List.mem_append] at hk
      rcases hk with hk | hk
      · exact h.nat k hk
      · rw [List.map_cons, List.map_nil, List.mem_singleton] at hk
        exact ⟨d, hk⟩
    · rw [List.length_append, h.len, putDay_length _ _ hs, if_neg hc]
      rfl
def sp_qbe (A : Adr) : Sp := fun vs H Q _ => ∃ (a : Addr) (s : Vbemax.State) (L : Lay) (d : Nat), vs = [.ref a, .int d] ∧ HA A H a s L ∧ Okay s ∧ Done A a L H Q (Vbemax.step s (.holiday d))
theorem ok_qbe (T : Txt K mg A) : FnOk P w K mg base CX0 1 A.qbe.1 A.qbe.2 ["house", "day"] (sp_qbe A) := by
  refine T.qbe.F.ok sc_qbe (fun vs H Q E h => ?_) (fun cdv An outer s0 H vs Q E hr h => ?_)
  · obtain ⟨a, s, L, d, rfl, _⟩ := h
    rfl
  · obtain ⟨a, s, L, d, rfl, hA, hO, D⟩ := h
    have nd := sc_qbe.nd
    have hu := hu_of hr
    refine ⟨_, (pss_cons (ps_if (pt_cmpR op_le (pv 1) (pe_fl T (pv 0)) (nomark _)) (pss_one (ps_ret (pe_lst (pa_cons (pe_un un_neg pe_int) pa_nil)))) pss_nil)
      (pss_cons (ps_if ((pw_and (pt_cmpR op_ge (pe_callB call_lenD (by rfl) T.b_len PySem.boot_len (pa_cons (pe_fl T (pv 0)) pa_nil)) (pe_co T.qco) (nomark _)) (pw_and1 (pt_cmp (pc_dnotin hu (pv 1) (pe_fl T (pv 0))))))).pt (pss_one (ps_ret (pe_lst (pa_cons (pe_un un_neg pe_int) pa_nil)))) pss_nil)
      (pss_cons (ps_dput hu (pe_fl T (pv 0)) (pv 1) pe_bl rfl)
      (pss_one (ps_ret (pe_lst (pa_cons pe_int pa_nil))))))), ?_⟩
    have dd : Vbemax.does s (.holiday d) = if d ≤ s.today then .error (-8) else if 32 ≤ s.holidays.length ∧ s.holidays.contains d = false then .error (-4) else .ok ({ s with holidays := Vbemax.putDay d s.holidays }, []) := rfl
    refine ⟨_, rfl, _, rfl, a, _, _, _, _, rfl, hA.ho, T.qad.cl, T.qad.nf 5 _ rfl, rfl, _, _, rfl, rfl, _, rfl, ?_⟩
    rw [dle]
    refine ite2 (fun c => ?_) (fun c1 => ?_)
    · refine ⟨_, rfl, sz1, fun l hl => ?_⟩
      refine D.lit hA (step_err hO.op ?_) (Same.refl _) hl rfl
      rw [dd, if_pos (of_decide_eq_true c)]
    rw [if_neg (fun z => c1 (decide_eq_true z))] at dd
    have rest : ¬ (32 ≤ s.holidays.length ∧ s.holidays.contains d = false) → ∀ (D' : Ends), D'.rt = Q →
        tSeq (sDPut (tFld K (tVar 0) "holidays") (tVar 1) (tC (V.bl true))) (tRet (tLst (tCons (tC (V.int 0)) tNil))) D' [some (.ref a), some (.int d)] H := fun c2 D' hD' => by
      rw [if_neg c2] at dd
      rw [step_ok hO.op dd] at D
      have hkl : L.kh.length < sizeLine := small1000 (by have := hA.hk.len; have := hA.sm.hl; omega)
      refine ⟨_, rfl, a, _, _, _, _, rfl, hA.ho, T.qad.cl, T.qad.nf 7 _ rfl, rfl, _, rfl, L.h, _, rfl, DPut.k (k := Sum.inl (d : Int)) hA.hl hkl, ?_⟩
      refine ⟨sz1, fun l hl => ?_⟩
      rw [hD']
      have hlh : l ≠ L.h := fun z => by rw [z, upd_same] at hl; cases hl
      have hlH : H l = none := by rw [upd_ne hlh] at hl; exact hl
      have k : ∀ b o, H b = some o → b ≠ L.h → (upd (upd H L.h (.dK (putK L.kh (Sum.inl (d : Int)) (V.bl true)))) l (.lst [V.int 0])) b = some o := fun b o e hb => by
        rw [upd_ne (ne_of_none e hlH), upd_ne hb]
        exact e
      have hs := hO.g.hol
      have hlen := putDay_length d s.holidays hs
      have fin : HA A (upd (upd H L.h (.dK (putK L.kh (Sum.inl (d : Int)) (V.bl true)))) l (.lst [V.int 0])) a { s with holidays := Vbemax.putDay d s.holidays } { L with kh := putK L.kh (Sum.inl (d : Int)) (V.bl true) } := by
        refine ⟨k _ _ hA.ho (ne_of hA.ho hA.hl (by intro q; cases q)), k _ _ hA.fl hA.fh, ?_, holOk_put hA.hk hs, k _ _ hA.rq (ne_of hA.rq hA.hl (by intro q; cases q)), paired_same (fun p q ⟨d, z⟩ => ⟨d, k _ _ z (ne_of z hA.hl (by intro q; cases q))⟩) hA.rqs, k _ _ hA.fc (ne_of hA.fc hA.hl (by intro q; cases q)), paired_same (fun p q ⟨d, z⟩ => ⟨d, k _ _ z (ne_of z hA.hl (by intro q; cases q))⟩) hA.fcs,
          k _ _ hA.vl (ne_of hA.vl hA.hl (by intro q; cases q)), paired_same (fun p q ⟨d, z⟩ => ⟨d, k _ _ z (ne_of z hA.hl (by intro q; cases q))⟩) hA.vls, k _ _ hA.bl (ne_of hA.bl hA.hl (by intro q; cases q)), hA.fh, hA.rfa, hA.rv, hA.fav, hA.rnd, ⟨hA.sm.rq, hA.sm.fc, hA.sm.vl, hA.sm.bl, ?_, hA.sm.pt, hA.sm.sp, hA.sm.fl⟩⟩
        · show (upd (upd H L.h _) l _) L.h = _
          rw [upd_ne (Ne.symm hlh), upd_same]
        · show (Vbemax.putDay d s.holidays).length ≤ 32
          rw [hlen]
          have := hA.sm.hl
          split
          · omega
          · rename_i c
            have : s.holidays.contains d = false := by simpa using c
            have : ¬ 32 ≤ s.holidays.length := fun z => c2 ⟨z, this⟩
            omega
      refine D _ { L with kh := putK L.kh (Sum.inl (d : Int)) (V.bl true) } l ⟨fun b o e hb => k b o e (fun z => hb (.inr (.inr (.inl z)))), fun b hb => .inl (foot_same rfl rfl rfl rfl rfl rfl rfl hb)⟩ fin hlH upd_same
    refine ⟨_, rfl, a, _, _, _, _, rfl, hA.ho, T.qad.cl, T.qad.nf 7 _ rfl, rfl, L.h, _, rfl, hA.hl, _, _, rfl, rfl, _, rfl, ?_⟩
    rw [show decide ((32 : Int) ≤ ((L.kh.length : Nat) : Int)) = decide (32 ≤ L.kh.length) from dle 32 _, hA.hk.len]
    refine ite2 (fun c => ?_) (fun c2 => ?_)
    · refine ⟨_, rfl, _, rfl, a, _, _, _, _, rfl, hA.ho, T.qad.cl, T.qad.nf 7 _ rfl, rfl, L.h, _, rfl, DGet.k (k := Sum.inl (d : Int)) hA.hl, _, rfl, ?_⟩
      rw [hA.hk.mem d]
      refine ite2 (fun c3 => ?_) (fun c3 => ?_)
      · refine ⟨_, rfl, sz1, fun l hl => ?_⟩
        refine D.lit hA (step_err hO.op ?_) (Same.refl _) hl rfl
        rw [dd, if_pos ⟨of_decide_eq_true c, by simpa using c3⟩]
      · exact rest (fun z => c3 (by rw [z.2]; rfl)) _ rfl
    · exact iteF (rest (fun z => c2 (decide_eq_true z.1)) _ rfl)
end
theorem isSupplier_f {s : Vbemax.State} {x : Nat} (h : s.suppliers < x) : Vbemax.isSupplier s x = false := by
  unfold Vbemax.isSupplier
  rw [decide_eq_false (show ¬ x ≤ s.suppliers by omega), Bool.and_false]
theorem isSupplier_t {s : Vbemax.State} {x : Nat} (h1 : 1 ≤ x) (h : ¬ s.suppliers < x) : ¬ Vbemax.isSupplier s x = false := by
  unfold Vbemax.isSupplier
  rw [decide_eq_true h1, decide_eq_true (show x ≤ s.suppliers by omega)]
  exact fun z => nomatch z
def kB (x i j : Nat) : List Key := [Sum.inl ((x : Nat) : Int), Sum.inl ((i : Nat) : Int), Sum.inl ((j : Nat) : Int)]
theorem kB_inj {x i j x' i' j' : Nat} (h : kB x i j = kB x' i' j') : x = x' ∧ i = i' ∧ j = j' := by
  unfold kB at h
  injection h with h1 h2
  injection h2 with h2 h3
  injection h3 with h3 _
  injection h1 with h1
  injection h2 with h2
  injection h3 with h3
  omega
theorem bill_val (x i j : Nat) : ∀ l : List Vbemax.Bill, valV (billKv l) (kB x i j) = ((l.find? fun y => y.supplier == x && (y.from_ == i && y.to_ == j)).map fun y => y.billed).map fun n => V.int ((n : Nat) : Int)
  | [] => rfl
  | b :: l => by
    have ih := bill_val x i j l
    show valV ((bKeyK b, V.int ((b.billed : Nat) : Int)) :: billKv l) (kB x i j) = _
    by_cases h : b.supplier = x ∧ b.from_ = i ∧ b.to_ = j
    · obtain ⟨rfl, rfl, rfl⟩ := h
      rw [valV_pos (show (bKeyK b, V.int ((b.billed : Nat) : Int)).1 = kB b.supplier b.from_ b.to_ from rfl), List.find?_cons_of_pos (by simp)]
      rfl
    · rw [valV_neg (fun z => h (kB_inj z)), ih, List.find?_cons_of_neg]
      intro z
      simp only [Bool.and_eq_true, beq_iff_eq] at z
      exact h ⟨z.1, z.2.1, z.2.2⟩
theorem bill_put (x i j v : Nat) : ∀ l : List Vbemax.Bill, (l.map bKey).Nodup → putK (billKv l) (kB x i j) (V.int ((v : Nat) : Int)) = billKv (Vbemax.putBill ⟨x, i, j, v⟩ l)
  | [], _ => rfl
  | b :: l, hn => by
    rw [List.map_cons, List.nodup_cons] at hn
    show putK ((bKeyK b, V.int ((b.billed : Nat) : Int)) :: billKv l) (kB x i j) _ = billKv (if x = b.supplier ∧ i = b.from_ ∧ j = b.to_ then ⟨x, i, j, v⟩ :: l else b :: Vbemax.putBill ⟨x, i, j, v⟩ l)
    by_cases h : x = b.supplier ∧ i = b.from_ ∧ j = b.to_
    · rw [if_pos h]
      obtain ⟨rfl, rfl, rfl⟩ := h
      refine putK_cons_eq (k := kB b.supplier b.from_ b.to_) fun y hy e => ?_
      obtain ⟨c, hc, rfl⟩ := List.mem_map.mp hy
      have e' := kB_inj (show kB c.supplier c.from_ c.to_ = kB b.supplier b.from_ b.to_ from e)
      refine hn.1 (List.mem_map.mpr ⟨c, hc, ?_⟩)
      unfold bKey
      rw [e'.1, e'.2.1, e'.2.2]
    · rw [if_neg h, putK_cons_ne (fun z => h (by have := kB_inj (show kB b.supplier b.from_ b.to_ = kB x i j from z); omega)), bill_put x i j v l hn.2]
      rfl
theorem natL_eq (l : List Nat) : natL l = (l.map fun n : Nat => ((n : Nat) : Int)).map V.int := by
  unfold natL
  rw [List.map_map]
  rfl
section
variable {P : Program} {w : World} {K : PySem.W.Frag} {mg : Str → Option Value} {base : Heap} {A : Adr}
def sp_qca (A : Adr) : Sp := fun vs H Q _ => ∃ (a : Addr) (s : Vbemax.State) (L : Lay) (p d n : Nat), vs = [.ref a, .int p, .int d, .int n] ∧ 1 ≤ p ∧ HA A H a s L ∧ Okay s ∧ Done A a L H Q (Vbemax.step s (.volume p d n))
theorem ok_qca (T : Txt K mg A) : FnOk P w K mg base CX0 3 A.qca.1 A.qca.2 ["house", "point", "day", "amount"] (sp_qca A) := by
  refine T.qca.F.ok sc_qca (fun vs H Q E h => ?_) (fun cdv An outer s0 H vs Q E hr h => ?_)
  · obtain ⟨a, s, L, p, d, n, rfl, _⟩ := h
    rfl
  · obtain ⟨a, s, L, p, d, n, rfl, hp1, hA, hO, D⟩ := h
    have nd := sc_qca.nd
    have hu := hu_of hr
    refine ⟨_, (pss_cons (ps_if (pt_val (pe_call (ok_qak T) (hr.mono (by decide)) rfl T.qak.g T.qak.F.kp T.qak.b .nil pass0 (pa_cons (pv 0) (pa_cons (pv 1) pa_nil)))) (pss_one (ps_ret (pe_lst (pa_cons (pe_un un_neg pe_int) pa_nil)))) pss_nil)
      (pss_cons (ps_if (pt_cmpR op_gt (pv 2) (pe_fl T (pv 0)) (nomark _)) (pss_one (ps_ret (pe_lst (pa_cons (pe_un un_neg pe_int) pa_nil)))) pss_nil)
      (pss_cons (ps_if (pt_cmpR op_ge (pe_callB call_len_seq (by rfl) T.b_len PySem.boot_len (pa_cons (pe_fl T (pv 0)) pa_nil)) (pe_co T.qcs) (nomark _)) (pss_one (ps_ret (pe_lst (pa_cons (pe_un un_neg pe_int) pa_nil)))) pss_nil)
      (pss_cons (ps_expr (pe_bm PySem.F.plainAttrs_list PySem.F.slot_list_append PySem.F.type_list_append mt_append (pe_fl T (pv 0)) (pa_cons (pe_make T.qac.M (ok_qac T) (hr.mono (by decide)) rfl T.qac.g T.qac.b .nil pass0 (pa_cons (pv 1) (pa_cons (pv 2) (pa_cons (pv 3) (pa_cons (pe_fl T (pv 0)) pa_nil))))) pa_nil)))
      (pss_one (ps_ret (pe_lst (pa_cons pe_int pa_nil)))))))), ?_⟩
    have dd : Vbemax.does s (.volume p d n) = if Vbemax.isPoint s p = false then .error (-5) else if s.today < d then .error (-8) else if 256 ≤ s.volumes.length then .error (-4) else .ok ({ s with volumes := s.volumes ++ [⟨p, d, n, s.today⟩] }, []) := rfl
    refine ⟨_, rfl, _, rfl, a, s, L, p, rfl, hA, _, rfl, ?_⟩
    refine ite2 (fun c => ?_) (fun c1 => ?_)
    · refine ⟨_, rfl, sz1, fun l hl => ?_⟩
      refine D.lit hA (step_err hO.op ?_) (Same.refl _) hl rfl
      rw [dd, if_pos (isPoint_f (of_decide_eq_true c))]
    rw [if_neg (isPoint_t hp1 (fun z => c1 (decide_eq_true z)))] at dd
    refine ⟨_, rfl, _, rfl, a, _, _, _, _, rfl, hA.ho, T.qad.cl, T.qad.nf 5 _ rfl, rfl, _, _, rfl, rfl, _, rfl, ?_⟩
    rw [dlt]
    refine ite2 (fun c => ?_) (fun c2 => ?_)
    · refine ⟨_, rfl, sz1, fun l hl => ?_⟩
      refine D.lit hA (step_err hO.op ?_) (Same.refl _) hl rfl
      rw [dd, if_pos (of_decide_eq_true c)]
    rw [if_neg (fun z => c2 (decide_eq_true z))] at dd
    have hvl := Paired.length hA.vls
    refine ⟨_, rfl, a, _, _, _, _, rfl, hA.ho, T.qad.cl, T.qad.nf 11 _ rfl, rfl, L.v, _, rfl, .inl (SqL.of hA.vl), _, _, rfl, rfl, _, rfl, ?_⟩
    rw [show decide ((256 : Int) ≤ (((L.vs.map V.ref).length : Nat) : Int)) = decide (256 ≤ (L.vs.map V.ref).length) from dle 256 _, List.length_map, hvl]
    refine ite2 (fun c => ?_) (fun c3 => ?_)
    · refine ⟨_, rfl, sz1, fun l hl => ?_⟩
      refine D.lit hA (step_err hO.op ?_) (Same.refl _) hl rfl
      rw [dd, if_pos (of_decide_eq_true c)]
    have hlt : s.volumes.length < 256 := Nat.lt_of_not_le fun z => c3 (decide_eq_true z)
    rw [if_neg (fun z => c3 (decide_eq_true z))] at dd
    rw [step_ok hO.op dd] at D
    refine ⟨_, rfl, a, _, _, _, _, rfl, hA.ho, T.qad.cl, T.qad.nf 11 _ rfl, rfl, .inl ⟨rfl, _, SqL.of hA.vl⟩, _, rfl, _, rfl, _, rfl, _, rfl, a, _, _, _, _, rfl, hA.ho, T.qad.cl, T.qad.nf 5 _ rfl, rfl, fun z dx hx hdx hne =>
      ⟨z, dx, ⟨p, d, n, s.today⟩, rfl, upd_same, fun H4 h4 k4 => ⟨rfl, ?_⟩⟩⟩
    have s4 : Same H H4 := Same.made hx hdx k4
    refine ⟨L.v, _, _, rfl, rfl, s4 _ _ hA.vl, ?_, ?_⟩
    · rw [List.length_map]
      exact small1000 (by omega)
    refine ⟨sz1, fun l hl => ?_⟩
    have hA4 := hA.same s4
    have hlv : l ≠ L.v := fun z => by rw [z, upd_same] at hl; cases hl
    have hl4 : H4 l = none := by rw [upd_ne hlv] at hl; exact hl
    have k : ∀ b o, H4 b = some o → b ≠ L.v → (upd (upd H4 L.v (.lst (L.vs.map V.ref ++ [V.ref z]))) l (.lst [V.int 0])) b = some o := fun b o e hb => by
      rw [upd_ne (ne_of_none e hl4), upd_ne hb]
      exact e
    have fin : HA A (upd (upd H4 L.v (.lst (L.vs.map V.ref ++ [V.ref z]))) l (.lst [V.int 0])) a { s with volumes := s.volumes ++ [⟨p, d, n, s.today⟩] } { L with vs := L.vs ++ [z] } := by
      refine ⟨k _ _ hA4.ho (ne_of hA4.ho hA4.vl (by intro q; cases q)), k _ _ hA4.fl (ne_of hA4.fl hA4.vl (by intro q; cases q)), k _ _ hA4.hl (ne_of hA4.hl hA4.vl (by intro q; cases q)), hA.hk, k _ _ hA4.rq hA.rv, paired_same (fun p q ⟨d, z⟩ => ⟨d, k _ _ z (ne_of z hA4.vl (by intro q; cases q))⟩) hA4.rqs, k _ _ hA4.fc hA.fav, paired_same (fun p q ⟨d, z⟩ => ⟨d, k _ _ z (ne_of z hA4.vl (by intro q; cases q))⟩) hA4.fcs, ?_,
        paired_snoc (paired_same (fun p q ⟨d, z⟩ => ⟨d, k _ _ z (ne_of z hA4.vl (by intro q; cases q))⟩) hA4.vls) ⟨dx, k _ _ h4 (ne_of h4 hA4.vl (by intro q; cases q))⟩, k _ _ hA4.bl (ne_of hA4.bl hA4.vl (by intro q; cases q)), hA.fh, hA.rfa, hA.rv, hA.fav, hA.rnd, ⟨hA.sm.rq, hA.sm.fc, ?_, hA.sm.bl, hA.sm.hl, hA.sm.pt, hA.sm.sp, hA.sm.fl⟩⟩
      · show (upd (upd H4 L.v _) l _) L.v = _
        rw [upd_ne (Ne.symm hlv), upd_same, List.map_append]
        rfl
      · show (s.volumes ++ [_]).length ≤ 256
        rw [List.length_append]
        simp
        omega
    exact D _ { L with vs := L.vs ++ [z] } l ⟨fun b o e hb => k b o (s4 _ _ e) (fun z => hb (.inr (.inr (.inr (.inr (.inr (.inl z))))))), fun b hb => .inl (foot_same rfl rfl rfl rfl rfl rfl rfl hb)⟩ fin (s4.free hl4) upd_same
def sp_qcc (A : Adr) : Sp := fun vs H Q _ => ∃ (a : Addr) (s : Vbemax.State) (L : Lay) (x i j k : Nat), vs = [.ref a, .int x, .int i, .int j, .int k] ∧ 1 ≤ x ∧ HA A H a s L ∧ Okay s ∧ Done A a L H Q (Vbemax.step s (.volumeOf x i j k))
theorem ok_qcc (T : Txt K mg A) : FnOk P w K mg base CX0 5 A.qcc.1 A.qcc.2 ["house", "supplier", "first", "last", "known_at"] (sp_qcc A) := by
  refine T.qcc.F.ok sc_qcc (fun vs H Q E h => ?_) (fun cdv An outer s0 H vs Q E hr h => ?_)
  · obtain ⟨a, s, L, x, i, j, k, rfl, _⟩ := h
    rfl
  · obtain ⟨a, s, L, x, i, j, k, rfl, hx1, hA, hO, D⟩ := h
    have nd := sc_qcc.nd
    have hu := hu_of hr
    refine ⟨_, (pss_cons (ps_if (pt_val (pe_call (ok_qal T) (hr.mono (by decide)) rfl T.qal.g T.qal.F.kp T.qal.b .nil pass0 (pa_cons (pv 0) (pa_cons (pv 1) pa_nil)))) (pss_one (ps_ret (pe_lst (pa_cons (pe_un un_neg pe_int) pa_nil)))) pss_nil)
      (pss_cons (ps_if ((pw_or (pt_cmpR op_lt (pv 3) (pv 2) (nomark _)) (pw_or1 (pt_cmpR op_gt (pv 4) (pe_fl T (pv 0)) (nomark _))))).pt (pss_one (ps_ret (pe_lst (pa_cons (pe_un un_neg pe_int) pa_nil)))) pss_nil)
      (pss_one (ps_ret (pe_lst (pa_cons pe_int (pa_cons (pe_call (ok_qay T) (hr.mono (by decide)) rfl T.qay.g T.qay.F.kp T.qay.b .nil pass0 (pa_cons (pv 0) (pa_cons (pv 1) (pa_cons (pv 2) (pa_cons (pv 3) (pa_cons (pv 4) pa_nil)))))) pa_nil))))))), ?_⟩
    have dd : Vbemax.does s (.volumeOf x i j k) = if Vbemax.isSupplier s x = false then .error (-6) else if j < i ∨ s.today < k then .error (-8) else .ok (s, [Vbemax.nat (Vbemax.volumeOf s x i j k)]) := rfl
    refine ⟨_, rfl, _, rfl, a, s, L, x, rfl, hA, _, rfl, ?_⟩
    refine ite2 (fun c => ?_) (fun c1 => ?_)
    · refine ⟨_, rfl, sz1, fun l hl => ?_⟩
      refine D.lit hA (step_err hO.op ?_) (Same.refl _) hl rfl
      rw [dd, if_pos (isSupplier_f (of_decide_eq_true c))]
    have c1' : ¬ s.suppliers < x := fun z => c1 (decide_eq_true z)
    rw [if_neg (isSupplier_t hx1 c1')] at dd
    have e8 : (j < i ∨ s.today < k) → ∀ l, H l = none → Q (.ref l) (upd H l (.lst [.int (-8)])) := fun z l hl => by
      refine D.lit hA (step_err hO.op ?_) (Same.refl _) hl rfl
      rw [dd, if_pos z]
    refine ⟨_, rfl, _, rfl, _, _, rfl, rfl, _, rfl, ?_⟩
    rw [dlt]
    refine ite2 (fun c => ?_) (fun c2 => ?_)
    · exact iteT ⟨_, rfl, sz1, fun l hl => e8 (.inl (of_decide_eq_true c)) l hl⟩
    refine ⟨_, rfl, _, rfl, a, _, _, _, _, rfl, hA.ho, T.qad.cl, T.qad.nf 5 _ rfl, rfl, _, _, rfl, rfl, _, rfl, ?_⟩
    rw [dlt]
    refine ite2 (fun c => ?_) (fun c3 => ?_)
    · exact ⟨_, rfl, sz1, fun l hl => e8 (.inr (of_decide_eq_true c)) l hl⟩
    rw [if_neg (fun z => z.elim (fun z => c2 (decide_eq_true z)) (fun z => c3 (decide_eq_true z)))] at dd
    refine ⟨_, rfl, _, rfl, _, rfl, _, rfl, _, rfl, a, s, L, x, i, j, k, rfl, hx1, Nat.le_of_not_lt c1', hA, hO.fi, fun H1 s1 => ⟨sz2, fun l hl => ?_⟩⟩
    exact D.lit hA (step_ok hO.op dd) s1 hl rfl
theorem sum_split (s : Vbemax.State) (hF : Fine s) (a b k : Nat) : ∀ m : List ((Nat × Nat) × Nat), (totL s a b k m).sum = ((m.filter (inR a b)).map (·.2)).sum := by
  have zero : ∀ n, ((List.range n).map fun i => 0).sum = 0 := by
    intro n
    induction n with
    | zero => rfl
    | succ n ih => rw [List.range_succ, List.map_append, List.sum_append, ih]; rfl
  have setsum : ∀ (l : List Nat) (j v : Nat) (x : Nat), l[j]? = some x → (l.set j (x + v)).sum = l.sum + v := by
    intro l
    induction l with
    | nil => intro j v x h; simp at h
    | cons y l ih =>
      intro j v x h
      cases j with
      | zero =>
        have e : y = x := Option.some.inj h
        subst e
        show ((y + v) :: l).sum = (y :: l).sum + v
        rw [List.sum_cons, List.sum_cons]
        omega
      | succ j =>
        have := ih j v x h
        show (y :: l.set j (x + v)).sum = (y :: l).sum + v
        rw [List.sum_cons, List.sum_cons, this]
        omega
  intro m
  have key : ∀ n, n ≤ m.length → (totL s a b k (m.take n)).sum = (((m.take n).filter (inR a b)).map (·.2)).sum := by
    intro n
    induction n with
    | zero =>
      intro _
      rw [List.take_zero]
      exact zero s.suppliers
    | succ n ih =>
      intro hn
      have ih' := ih (by omega)
      obtain ⟨y, hy⟩ : ∃ y, m[n]? = some y := ⟨_, List.getElem?_eq_getElem (by omega)⟩
      rw [take_more hy]
      by_cases c : inR a b y = true
      · obtain ⟨w1, w2⟩ := who_le hF y.1.1 y.1.2 k
        obtain ⟨j, hj⟩ : ∃ j, Vbemax.whoAt s y.1.1 y.1.2 k = j + 1 := ⟨Vbemax.whoAt s y.1.1 y.1.2 k - 1, by omega⟩
        rw [totL_in c hj (by omega), setsum _ _ _ _ (totL_get (by omega)), ih', List.filter_append, List.map_append, List.sum_append, List.filter_cons_of_pos c]
        simp
      · rw [totL_out (by simpa using c), ih', List.filter_append, List.filter_cons_of_neg c]
        simp
  have := key m.length (Nat.le_refl _)
  rw [List.take_length] at this
  exact this
def sp_qcd (A : Adr) : Sp := fun vs H Q _ => ∃ (a : Addr) (s : Vbemax.State) (L : Lay) (i j k : Nat), vs = [.ref a, .int i, .int j, .int k] ∧ HA A H a s L ∧ Okay s ∧ Done A a L H Q (Vbemax.step s (.volumes i j k))
theorem ok_qcd (T : Txt K mg A) : FnOk P w K mg base CX0 4 A.qcd.1 A.qcd.2 ["house", "first", "last", "known_at"] (sp_qcd A) := by
  refine T.qcd.F.ok sc_qcd (fun vs H Q E h => ?_) (fun cdv An outer s0 H vs Q E hr h => ?_)
  · obtain ⟨a, s, L, i, j, k, rfl, _⟩ := h
    rfl
  · obtain ⟨a, s, L, i, j, k, rfl, hA, hO, D⟩ := h
    have nd := sc_qcd.nd
    have hu := hu_of hr
    refine ⟨_, (pss_cons (ps_if ((pw_or (pt_cmpR op_lt (pv 2) (pv 1) (nomark _)) (pw_or1 (pt_cmpR op_gt (pv 3) (pe_fl T (pv 0)) (nomark _))))).pt (pss_one (ps_ret (pe_lst (pa_cons (pe_un un_neg pe_int) pa_nil)))) pss_nil)
      (pss_cons (ps_set (i := 4) nd rfl (Or.inl rfl) (pe_call (ok_qax T) (hr.mono (by decide)) rfl T.qax.g T.qax.F.kp T.qax.b .nil pass0 (pa_cons (pv 0) (pa_cons (pv 1) (pa_cons (pv 2) (pa_cons (pv 3) pa_nil))))))
      (pss_one (ps_ret (pe_op op_cat (pe_op op_cat (pe_lst (pa_cons pe_int pa_nil)) (pv 4)) (pe_lst (pa_cons (pe_callB (cr_sum rfl) (by rfl) T.b_sum PyProof.Rows.boot_sum (pa_cons (pv 4) pa_nil)) pa_nil))))))), ?_⟩
    have dd : Vbemax.does s (.volumes i j k) = if j < i ∨ s.today < k then .error (-8) else .ok (s, (Vbemax.suppliersOf s).map (fun x => Vbemax.nat (Vbemax.volumeOf s x i j k)) ++ [Vbemax.nat (Vbemax.volumeAll s i j k)]) := rfl
    have e8 : (j < i ∨ s.today < k) → ∀ l, H l = none → Q (.ref l) (upd H l (.lst [.int (-8)])) := fun z l hl => by
      refine D.lit hA (step_err hO.op ?_) (Same.refl _) hl rfl
      rw [dd, if_pos z]
    refine ⟨_, rfl, _, rfl, _, _, rfl, rfl, _, rfl, ?_⟩
    rw [dlt]
    refine ite2 (fun c => ?_) (fun c2 => ?_)
    · exact iteT ⟨_, rfl, sz1, fun l hl => e8 (.inl (of_decide_eq_true c)) l hl⟩
    refine ⟨_, rfl, _, rfl, a, _, _, _, _, rfl, hA.ho, T.qad.cl, T.qad.nf 5 _ rfl, rfl, _, _, rfl, rfl, _, rfl, ?_⟩
    rw [dlt]
    refine ite2 (fun c => ?_) (fun c3 => ?_)
    · exact ⟨_, rfl, sz1, fun l hl => e8 (.inr (of_decide_eq_true c)) l hl⟩
    rw [if_neg (fun z => z.elim (fun z => c2 (decide_eq_true z)) (fun z => c3 (decide_eq_true z)))] at dd
    refine ⟨_, rfl, _, rfl, _, rfl, _, rfl, a, s, L, i, j, k, rfl, hA, hO.fi, fun H1 lt hn1 s1 h1 => ?_⟩
    have hsp := hA.sm.sp
    have hlen : (natL ((Vbemax.suppliersOf s).map fun z => Vbemax.volumeOf s z i j k)).length = s.suppliers := by
      unfold natL Vbemax.suppliersOf
      rw [List.length_map, List.length_map, List.length_map, List.length_range]
    refine ⟨sz1, fun l0 hl0 => ⟨_, rfl, l0, lt, _, _, rfl, rfl, upd_same, same_new hl0 _ _ h1, ?_, fun l2 hl2 => ?_⟩⟩
    · rw [hlen]
      exact Nat.le_of_lt (small1000 (by show 1 + s.suppliers ≤ 1000; omega))
    have t1 := same_new (o := .lst [V.int 0]) hl0
    have t2 := same_new (o := .lst ([V.int 0] ++ natL ((Vbemax.suppliersOf s).map fun z => Vbemax.volumeOf s z i j k))) hl2
    have hsum : (((Vbemax.suppliersOf s).map fun z => Vbemax.volumeOf s z i j k).map fun n : Nat => ((n : Nat) : Int)).sum = ((Vbemax.volumeAll s i j k : Nat) : Int) := by
      rw [volumeAll_eq, ← totL_all, show (fun y : (Nat × Nat) × Nat => decide (i ≤ y.1.2) && decide (y.1.2 ≤ j)) = inR i j from rfl, ← sum_split s hO.fi i j k]
      generalize totL s i j k (amts (knownV s k)) = l
      induction l with
      | nil => rfl
      | cons y l ih => rw [List.map_cons, List.sum_cons, List.sum_cons, ih]; omega
    refine ⟨_, rfl, lt, (((Vbemax.suppliersOf s).map fun z => Vbemax.volumeOf s z i j k).map fun n : Nat => ((n : Nat) : Int)), rfl, SqL.of (by rw [t2 _ _ (t1 _ _ h1), natL_eq]), sz1, fun l3 hl3 => ⟨l2, l3, _, _, rfl, rfl, same_new hl3 _ _ upd_same, upd_same, ?_, fun l hl => ?_⟩⟩
    · rw [List.length_append, hlen]
      exact Nat.le_of_lt (small1000 (by show 1 + s.suppliers + 1 ≤ 1000; omega))
    · rw [hsum] at hl ⊢
      refine D.lit hA (step_ok hO.op dd) (((s1.trans t1).trans t2).trans (same_new hl3)) hl ?_
      unfold natL
      rw [List.map_map, List.map_cons, List.map_append, List.map_map]
      rfl
def sp_qcb (A : Adr) : Sp := fun vs H Q _ => ∃ (a : Addr) (s : Vbemax.State) (L : Lay) (x i j : Nat), vs = [.ref a, .int x, .int i, .int j] ∧ 1 ≤ x ∧ HA A H a s L ∧ Okay s ∧ Done A a L H Q (Vbemax.step s (.bill x i j))
theorem ok_qcb (T : Txt K mg A) : FnOk P w K mg base CX0 5 A.qcb.1 A.qcb.2 ["house", "supplier", "first", "last"] (sp_qcb A) := by
  refine T.qcb.F.ok sc_qcb (fun vs H Q E h => ?_) (fun cdv An outer s0 H vs Q E hr h => ?_)
  · obtain ⟨a, s, L, x, i, j, rfl, _⟩ := h
    rfl
  · obtain ⟨a, s, L, x, i, j, rfl, hx1, hA, hO, D⟩ := h
    have nd := sc_qcb.nd
    have hu := hu_of hr
    refine ⟨_, (pss_cons (ps_if (pt_val (pe_call (ok_qal T) (hr.mono (by decide)) rfl T.qal.g T.qal.F.kp T.qal.b .nil pass0 (pa_cons (pv 0) (pa_cons (pv 1) pa_nil)))) (pss_one (ps_ret (pe_lst (pa_cons (pe_un un_neg pe_int) pa_nil)))) pss_nil)
      (pss_cons (ps_if (pt_cmpR op_lt (pv 3) (pv 2) (nomark _)) (pss_one (ps_ret (pe_lst (pa_cons (pe_un un_neg pe_int) pa_nil)))) pss_nil)
      (pss_cons (ps_set (i := 4) nd rfl (Or.inl rfl) (pe_tup (pa_cons (pv 1) (pa_cons (pv 2) (pa_cons (pv 3) pa_nil)))))
      (pss_cons (ps_if ((pw_and (pt_cmpR op_ge (pe_callB call_lenT (by rfl) T.b_len PySem.boot_len (pa_cons (pe_fl T (pv 0)) pa_nil)) (pe_co T.qct) (nomark _)) (pw_and1 (pt_cmp (pc_dnotin hu (pv 4) (pe_fl T (pv 0))))))).pt (pss_one (ps_ret (pe_lst (pa_cons (pe_un un_neg pe_int) pa_nil)))) pss_nil)
      (pss_cons (ps_set (i := 5) nd rfl (Or.inl rfl) (pe_dget2 hu (pe_fl T (pv 0)) (pv 4) pe_int ⟨by rfl, by rfl, by rfl, by rfl⟩))
      (pss_cons (ps_dput hu (pe_fl T (pv 0)) (pv 4) (pe_call (ok_qay T) (hr.mono (by decide)) rfl T.qay.g T.qay.F.kp T.qay.b .nil pass0 (pa_cons (pv 0) (pa_cons (pv 1) (pa_cons (pv 2) (pa_cons (pv 3) (pa_cons (pe_fl T (pv 0)) pa_nil)))))) rfl)
      (pss_one (ps_ret (pe_lst (pa_cons pe_int (pa_cons (pe_op op_sub (pe_dget hu (pe_fl T (pv 0)) (pv 4) (fun _ _ => rfl)) (pv 5)) pa_nil))))))))))), ?_⟩
    have dd : Vbemax.does s (.bill x i j) = if Vbemax.isSupplier s x = false then .error (-6) else if j < i then .error (-8) else if 64 ≤ s.bills.length ∧ (Vbemax.billedOf s x i j).isNone = true then .error (-4) else
      .ok ({ s with bills := Vbemax.putBill ⟨x, i, j, Vbemax.volumeOf s x i j s.today⟩ s.bills }, [Vbemax.nat (Vbemax.volumeOf s x i j s.today) - Vbemax.nat ((Vbemax.billedOf s x i j).getD 0)]) := rfl
    refine ⟨_, rfl, _, rfl, a, s, L, x, rfl, hA, _, rfl, ?_⟩
    refine ite2 (fun c => ?_) (fun c1 => ?_)
    · refine ⟨_, rfl, sz1, fun l hl => ?_⟩
      refine D.lit hA (step_err hO.op ?_) (Same.refl _) hl rfl
      rw [dd, if_pos (isSupplier_f (of_decide_eq_true c))]
    have c1' : ¬ s.suppliers < x := fun z => c1 (decide_eq_true z)
    rw [if_neg (isSupplier_t hx1 c1')] at dd
    refine ⟨_, rfl, _, rfl, _, _, rfl, rfl, _, rfl, ?_⟩
    rw [dlt]
    refine ite2 (fun c => ?_) (fun c2 => ?_)
    · refine ⟨_, rfl, sz1, fun l hl => ?_⟩
      refine D.lit hA (step_err hO.op ?_) (Same.refl _) hl rfl
      rw [dd, if_pos (of_decide_eq_true c)]
    rw [if_neg (fun z => c2 (decide_eq_true z))] at dd
    refine ⟨_, rfl, _, rfl, _, rfl, sz3, fun kt hkt => ?_⟩
    have s1 := same_new (o := .tup [V.int (x : Int), V.int (i : Int), V.int (j : Int)]) hkt
    have hA1 := hA.same s1
    have hkey : (upd H kt (.tup [V.int (x : Int), V.int (i : Int), V.int (j : Int)])) kt = some (.tup ((kB x i j).map kV)) := upd_same
    have hval := bill_val x i j s.bills
    have hbo : Vbemax.billedOf s x i j = (s.bills.find? fun y => y.supplier == x && (y.from_ == i && y.to_ == j)).map fun y => y.billed := rfl
    rw [← hbo] at hval
    have hbl : (billKv s.bills).length = s.bills.length := by unfold billKv; rw [List.length_map]
    have hsb := hA.sm.bl
    have rest : ¬ (64 ≤ s.bills.length ∧ (Vbemax.billedOf s x i j).isNone = true) → ∀ (D' : Ends), D'.rt = Q →
        tSeq (tAsg (tDGet2 (tFld K (tVar 0) "bills") (tVar 4) (tC (V.int 0))) (gName 5)) (tSeq (sDPut (tFld K (tVar 0) "bills") (tVar 4) (tCall (sp_qay A) [] E0 (tCons (tVar 0) (tCons (tVar 1) (tCons (tVar 2) (tCons (tVar 3) (tCons (tFld K (tVar 0) "today") tNil))))))) (tRet (tLst (tCons (tC (V.int 0)) (tCons (tOp (rI0 fun i j => V.int (i - j)) (tDGet (tFld K (tVar 0) "bills") (tVar 4)) (tVar 5)) tNil))))) D' [some (.ref a), some (.int x), some (.int i), some (.int j), some (.ref kt), none] (upd H kt (.tup [V.int (x : Int), V.int (i : Int), V.int (j : Int)])) := fun c3 D' hD' => by
      rw [if_neg c3] at dd
      rw [step_ok hO.op dd] at D
      refine ⟨_, rfl, a, _, _, _, _, rfl, hA1.ho, T.qad.cl, T.qad.nf 12 _ rfl, rfl, L.b, rfl, .inr ⟨_, .inl hA1.bl⟩, _, rfl, _, DGet.t hA1.bl hkey, ?_⟩
      have egd : (valV (billKv s.bills) (kB x i j)).getD (V.int 0) = V.int (((Vbemax.billedOf s x i j).getD 0 : Nat) : Int) := by
        rw [hval]
        cases Vbemax.billedOf s x i j <;> rfl
      rw [egd]
      refine ⟨_, rfl, _, rfl, _, rfl, _, rfl, _, rfl, a, _, _, _, _, rfl, hA1.ho, T.qad.cl, T.qad.nf 5 _ rfl, rfl, a, s, L, x, i, j, s.today, rfl, hx1, Nat.le_of_not_lt c1', hA1, hO.fi, fun H2 s2 => ?_⟩
      have hA2 := hA1.same s2
      have hkey2 := s2 _ _ hkey
      refine ⟨_, rfl, a, _, _, _, _, rfl, hA2.ho, T.qad.cl, T.qad.nf 12 _ rfl, rfl, _, rfl, L.b, _, rfl, DPut.t hA2.bl hkey2 (by rw [hbl]; exact small1000 (by omega)), ?_⟩
      rw [bill_put x i j _ _ hO.g.bnd]
      have nab : a ≠ L.b := ne_of hA2.ho hA2.bl (by intro q; cases q)
      have nkb : kt ≠ L.b := ne_of hkey2 hA2.bl (by intro q; cases q)
      have hval2 : valV (billKv (Vbemax.putBill ⟨x, i, j, Vbemax.volumeOf s x i j s.today⟩ s.bills)) (kB x i j) = some (V.int ((Vbemax.volumeOf s x i j s.today : Nat) : Int)) := by
        rw [← bill_put x i j _ _ hO.g.bnd, valV_put, if_pos rfl]
      refine ⟨_, rfl, a, _, _, _, _, rfl, (by rw [upd_ne nab]; exact hA2.ho), T.qad.cl, T.qad.nf 12 _ rfl, rfl, _, rfl, L.b, _, rfl, .inr ⟨_, kB x i j, kt, .inl upd_same, rfl, (by rw [upd_ne nkb]; exact hkey2), hval2.symm⟩, _, rfl, _, _, rfl, rfl, sz2, fun l hl => ?_⟩
      rw [hD']
      have hlb : l ≠ L.b := fun z => by rw [z, upd_same] at hl; cases hl
      have hl2 : H2 l = none := by rw [upd_ne hlb] at hl; exact hl
      have k : ∀ b o, H2 b = some o → b ≠ L.b → (upd (upd H2 L.b (.dT (billKv (Vbemax.putBill ⟨x, i, j, Vbemax.volumeOf s x i j s.today⟩ s.bills)))) l (.lst [V.int 0, V.int (((Vbemax.volumeOf s x i j s.today : Nat) : Int) - (((Vbemax.billedOf s x i j).getD 0 : Nat) : Int))])) b = some o := fun b o e hb => by
        rw [upd_ne (ne_of_none e hl2), upd_ne hb]
        exact e
      have fin : HA A (upd (upd H2 L.b (.dT (billKv (Vbemax.putBill ⟨x, i, j, Vbemax.volumeOf s x i j s.today⟩ s.bills)))) l (.lst [V.int 0, V.int (((Vbemax.volumeOf s x i j s.today : Nat) : Int) - (((Vbemax.billedOf s x i j).getD 0 : Nat) : Int))])) a { s with bills := Vbemax.putBill ⟨x, i, j, Vbemax.volumeOf s x i j s.today⟩ s.bills } L := by
        refine ⟨k _ _ hA2.ho nab, k _ _ hA2.fl (ne_of hA2.fl hA2.bl (by intro q; cases q)), k _ _ hA2.hl (ne_of hA2.hl hA2.bl (by intro q; cases q)), hA.hk, k _ _ hA2.rq (ne_of hA2.rq hA2.bl (by intro q; cases q)), paired_same (fun p q ⟨d, z⟩ => ⟨d, k _ _ z (ne_of z hA2.bl (by intro q; cases q))⟩) hA2.rqs, k _ _ hA2.fc (ne_of hA2.fc hA2.bl (by intro q; cases q)), paired_same (fun p q ⟨d, z⟩ => ⟨d, k _ _ z (ne_of z hA2.bl (by intro q; cases q))⟩) hA2.fcs,
          k _ _ hA2.vl (ne_of hA2.vl hA2.bl (by intro q; cases q)), paired_same (fun p q ⟨d, z⟩ => ⟨d, k _ _ z (ne_of z hA2.bl (by intro q; cases q))⟩) hA2.vls, ?_, hA.fh, hA.rfa, hA.rv, hA.fav, hA.rnd, ⟨hA.sm.rq, hA.sm.fc, hA.sm.vl, ?_, hA.sm.hl, hA.sm.pt, hA.sm.sp, hA.sm.fl⟩⟩
        · rw [upd_ne (Ne.symm hlb), upd_same]
        · show (Vbemax.putBill _ s.bills).length ≤ 64
          rw [putBill_length]
          split
          · rename_i cn
            have cn' : (Vbemax.billedOf s x i j).isNone = true := by
              rw [hbo]
              simpa using cn
            have : ¬ 64 ≤ s.bills.length := fun z => c3 ⟨z, cn'⟩
            omega
          · omega
      exact D _ L l ⟨fun b o e hb => k b o ((s1.trans s2) _ _ e) (fun z => hb (.inr (.inr (.inr (.inr (.inr (.inr (.inl z)))))))), fun b hb => .inl hb⟩ fin ((s1.trans s2).free hl2) upd_same
    refine ⟨_, rfl, a, _, _, _, _, rfl, hA1.ho, T.qad.cl, T.qad.nf 12 _ rfl, rfl, L.b, _, rfl, hA1.bl, _, _, rfl, rfl, _, rfl, ?_⟩
    rw [show decide ((64 : Int) ≤ (((billKv s.bills).length : Nat) : Int)) = decide (64 ≤ (billKv s.bills).length) from dle 64 _, hbl]
    refine ite2 (fun c => ?_) (fun c3 => ?_)
    · refine ⟨_, rfl, _, rfl, a, _, _, _, _, rfl, hA1.ho, T.qad.cl, T.qad.nf 12 _ rfl, rfl, L.b, _, rfl, DGet.t hA1.bl hkey, _, rfl, ?_⟩
      have es : (!(valV (billKv s.bills) (kB x i j)).isSome) = (Vbemax.billedOf s x i j).isNone := by
        rw [hval]
        cases Vbemax.billedOf s x i j <;> rfl
      rw [es]
      refine ite2 (fun c4 => ?_) (fun c4 => ?_)
      · refine ⟨_, rfl, sz1, fun l hl => ?_⟩
        refine D.lit hA (step_err hO.op ?_) s1 hl rfl
        rw [dd, if_pos ⟨of_decide_eq_true c, c4⟩]
      · exact rest (fun z => c4 z.2) _ rfl
    · exact iteF (rest (fun z => c3 (decide_eq_true z.1)) _ rfl)
def selP (s : Vbemax.State) (x d k n : Nat) : List Nat := ((List.range n).map fun i => i + 1).filter fun p => Vbemax.whoAt s p d k == x
theorem selP_succ (s : Vbemax.State) (x d k n : Nat) : selP s x d k (n + 1) = selP s x d k n ++ (if Vbemax.whoAt s (n + 1) d k = x then [n + 1] else []) := by
  unfold selP
  rw [List.range_succ, List.map_append, List.filter_append]
  congr 1
  show List.filter _ [n + 1] = _
  by_cases h : Vbemax.whoAt s (n + 1) d k = x
  · rw [if_pos h, List.filter_cons_of_pos (by simpa using h)]
    rfl
  · rw [if_neg h, List.filter_cons_of_neg (by simpa using h)]
    rfl
theorem selP_le (s : Vbemax.State) (x d k n : Nat) : (selP s x d k n).length ≤ n := by
  unfold selP
  refine Nat.le_trans (List.length_filter_le _ _) ?_
  rw [List.length_map, List.length_range]
  exact Nat.le_refl _
def sp_qby (A : Adr) : Sp := fun vs H Q _ => ∃ (a : Addr) (s : Vbemax.State) (L : Lay) (x d k : Nat), vs = [.ref a, .int x, .int d, .int k] ∧ 1 ≤ x ∧ HA A H a s L ∧ Okay s ∧ Done A a L H Q (Vbemax.step s (.supplied x d k))
theorem ok_qby (T : Txt K mg A) : FnOk P w K mg base CX0 3 A.qby.1 A.qby.2 ["house", "supplier", "day", "known_at"] (sp_qby A) := by
  refine T.qby.F.ok sc_qby (fun vs H Q E h => ?_) (fun cdv An outer s0 H vs Q E hr h => ?_)
  · obtain ⟨a, s, L, x, d, k, rfl, _⟩ := h
    rfl
  · obtain ⟨a, s, L, x, d, k, rfl, hx1, hA, hO, D⟩ := h
    have nd := sc_qby.nd
    have hu := hu_of hr
    refine ⟨_, (pss_cons (ps_if (pt_val (pe_call (ok_qal T) (hr.mono (by decide)) rfl T.qal.g T.qal.F.kp T.qal.b .nil pass0 (pa_cons (pv 0) (pa_cons (pv 1) pa_nil)))) (pss_one (ps_ret (pe_lst (pa_cons (pe_un un_neg pe_int) pa_nil)))) pss_nil)
      (pss_cons (ps_if (pt_cmpR op_gt (pv 3) (pe_fl T (pv 0)) (nomark _)) (pss_one (ps_ret (pe_lst (pa_cons (pe_un un_neg pe_int) pa_nil)))) pss_nil)
      (pss_cons (ps_set (i := 4) nd rfl (Or.inl rfl) (pe_lst pa_nil))
      (pss_cons (ps_for PassesOwn.never rfl (pi_range2 rfl T.b_range (pa_cons pe_int (pa_cons (pe_op op_add (pe_fl T (pv 0)) pe_int) pa_nil))) (pg_name (i := 5) nd rfl (Or.inl rfl)) (pss_one (ps_if (pt_cmpR op_eq (pe_call (ok_qar T) (hr.mono (by decide)) rfl T.qar.g T.qar.F.kp T.qar.b .nil pass0 (pa_cons (pv 0) (pa_cons (pv 5) (pa_cons (pv 2) (pa_cons (pv 3) pa_nil))))) (pv 1) (nomark _)) (pss_one (ps_expr (pe_bm PySem.F.plainAttrs_list PySem.F.slot_list_append PySem.F.type_list_append mt_append (pv 4) (pa_cons (pv 5) pa_nil)))) pss_nil)))
      (pss_one (ps_ret (pe_op op_cat (pe_lst (pa_cons pe_int (pa_cons (pe_callB call_len_seq (by rfl) T.b_len PySem.boot_len (pa_cons (pv 4) pa_nil)) pa_nil))) (pv 4)))))))), ?_⟩
    have dd : Vbemax.does s (.supplied x d k) = if Vbemax.isSupplier s x = false then .error (-6) else if s.today < k then .error (-8) else .ok (s, Vbemax.rows ((selP s x d k s.points).map fun p => [Vbemax.nat p])) := rfl
    refine ⟨_, rfl, _, rfl, a, s, L, x, rfl, hA, _, rfl, ?_⟩
    refine ite2 (fun c => ?_) (fun c1 => ?_)
    · refine ⟨_, rfl, sz1, fun l hl => ?_⟩
      refine D.lit hA (step_err hO.op ?_) (Same.refl _) hl rfl
      rw [dd, if_pos (isSupplier_f (of_decide_eq_true c))]
    rw [if_neg (isSupplier_t hx1 (fun z => c1 (decide_eq_true z)))] at dd
    refine ⟨_, rfl, _, rfl, a, _, _, _, _, rfl, hA.ho, T.qad.cl, T.qad.nf 5 _ rfl, rfl, _, _, rfl, rfl, _, rfl, ?_⟩
    rw [dlt]
    refine ite2 (fun c => ?_) (fun c2 => ?_)
    · refine ⟨_, rfl, sz1, fun l hl => ?_⟩
      refine D.lit hA (step_err hO.op ?_) (Same.refl _) hl rfl
      rw [dd, if_pos (of_decide_eq_true c)]
    rw [if_neg (fun z => c2 (decide_eq_true z))] at dd
    refine ⟨Nat.zero_le _, fun lo hlo => ?_⟩
    have s1 := same_new (o := .lst []) hlo
    have hpt := hA.sm.pt
    refine ⟨_, rfl, a, _, _, _, _, rfl, s1 _ _ hA.ho, T.qad.cl, T.qad.nf 8 _ rfl, rfl, _, _, rfl, rfl, _, _, rfl, ⟨by decide, by decide, by omega, by omega⟩, ?_⟩
    have en : (((s.points : Nat) : Int) + 1 - 1).toNat = s.points := by omega
    rw [en]
    refine for_range (lo := 1) (n := s.points) (fun i σ H' => ∃ (v5 : Option V), σ = [some (.ref a), some (.int x), some (.int d), some (.int k), some (.ref lo), v5] ∧ (∀ b o, H b = some o → H' b = some o) ∧ H' lo = some (.lst (natL (selP s x d k i)))) ?_ ?_ ?_
    · exact ⟨none, rfl, s1, upd_same⟩
    · rintro i σ H' hi ⟨v5, rfl, sK, hl'⟩
      have ei : (1 : Int) + ((i : Nat) : Int) = ((i + 1 : Nat) : Int) := by omega
      rw [ei]
      refine ⟨_, rfl, _, rfl, _, rfl, _, rfl, a, s, L, i + 1, d, k, rfl, hA.same sK, fun H4 s4 => ?_⟩
      refine ⟨_, rfl, rfl, _, rfl, ?_⟩
      rw [deq]
      have st := selP_succ s x d k i
      refine ite2 (fun c => ?_) (fun c => ?_)
      · rw [if_pos (of_decide_eq_true c)] at st
        refine ⟨_, rfl, .inl ⟨rfl, _, SqL.of (s4 _ _ hl')⟩, _, rfl, lo, _, _, rfl, rfl, s4 _ _ hl', ?_, ?_⟩
        · have := selP_le s x d k i
          unfold natL
          rw [List.length_map]
          exact small1000 (by omega)
        · refine ⟨_, rfl, fun b o e => ?_, ?_⟩
          · rw [upd_ne (ne_of_none e hlo)]
            exact s4 _ _ (sK _ _ e)
          · rw [upd_same, st]
            unfold natL
            rw [List.map_append]
            rfl
      · rw [if_neg (fun z => c (decide_eq_true z)), List.append_nil] at st
        exact ⟨_, rfl, fun b o e => s4 _ _ (sK _ _ e), by rw [st]; exact s4 _ _ hl'⟩
    rintro σ H' ⟨v5, rfl, sK, hl'⟩
    refine ⟨_, rfl, lo, _, rfl, .inl (SqL.of hl'), sz2, fun l0 hl0 => ⟨_, rfl, l0, lo, _, _, rfl, rfl, upd_same, same_new hl0 _ _ hl', ?_, fun l hl => ?_⟩⟩
    · have := selP_le s x d k s.points
      unfold natL
      rw [List.length_map]
      exact Nat.le_of_lt (small1000 (by show 2 + (selP s x d k s.points).length ≤ 1000; omega))
    · refine D.lit hA (step_ok hO.op dd) (Same.trans sK (same_new hl0)) hl ?_
      unfold natL Vbemax.rows
      rw [List.length_map, List.length_map]
      have ef : ∀ l : List Nat, (l.map fun p => [Vbemax.nat p]).flatten = l.map Vbemax.nat := by
        intro l
        induction l with
        | nil => rfl
        | cons y l ih => rw [List.map_cons, List.flatten_cons, ih]; rfl
      rw [ef]
      show [V.int 0, V.int _] ++ _ = V.int 0 :: V.int _ :: _
      rw [List.map_map]
      rfl
theorem paired_len4 (l : List Vbemax.Fact) : (l.map fun f => [Vbemax.nat f.from_, Vbemax.nat f.to_, Vbemax.nat f.supplier, Vbemax.nat f.known]).flatten.length = 4 * l.length := by
  induction l with
  | nil => rfl
  | cons y l ih => rw [List.map_cons, List.flatten_cons, List.length_append, ih, List.length_cons]; simp; omega
def fRow (f : Vbemax.Fact) : List Int := [Vbemax.nat f.from_, Vbemax.nat f.to_, Vbemax.nat f.supplier, Vbemax.nat f.known]
def sp_qbz (A : Adr) : Sp := fun vs H Q _ => ∃ (a : Addr) (s : Vbemax.State) (L : Lay) (p : Nat), vs = [.ref a, .int p] ∧ 1 ≤ p ∧ HA A H a s L ∧ Okay s ∧ Done A a L H Q (Vbemax.step s (.facts p))
theorem ok_qbz (T : Txt K mg A) : FnOk P w K mg base CX0 2 A.qbz.1 A.qbz.2 ["house", "point"] (sp_qbz A) := by
  refine T.qbz.F.ok sc_qbz (fun vs H Q E h => ?_) (fun cdv An outer s0 H vs Q E hr h => ?_)
  · obtain ⟨a, s, L, p, rfl, _⟩ := h
    rfl
  · obtain ⟨a, s, L, p, rfl, hp1, hA, hO, D⟩ := h
    have nd := sc_qbz.nd
    have hu := hu_of hr
    refine ⟨_, (pss_cons (ps_if (pt_val (pe_call (ok_qak T) (hr.mono (by decide)) rfl T.qak.g T.qak.F.kp T.qak.b .nil pass0 (pa_cons (pv 0) (pa_cons (pv 1) pa_nil)))) (pss_one (ps_ret (pe_lst (pa_cons (pe_un un_neg pe_int) pa_nil)))) pss_nil)
      (pss_cons (ps_setLc (i := 2) rfl nd rfl rfl (sw_true rfl rfl rfl rfl) (pi_list (pe_fl T (pv 0))) (blkOk_by (own := [("fact", 3)]) rfl) (fun _ _ _ _ _ => (pg_name (i := 3) nd rfl (Or.inl rfl))) (fun _ _ _ _ _ => pts_one (pt_cmpR op_eq (pe_fl T (pv 3)) (pv 1) (nomark _))) (fun _ _ _ _ _ => (pv 3)))
      (pss_one (ps_ret (pe_call (ok_qbu T) (hr.mono (by decide)) rfl T.qbu.g T.qbu.F.kp T.qbu.b .nil pass0 (pa_cons (pe_lc rfl nd (pi_list (pv 2)) (blkOk_by (own := [("fact", 3)]) rfl) (fun _ _ _ _ _ => (pg_name (i := 3) nd rfl (Or.inl rfl))) (fun _ _ _ _ _ => pts_nil) (fun _ _ _ _ _ => (pe_tup (pa_cons (pe_fl T (pv 3)) (pa_cons (pe_fl T (pv 3)) (pa_cons (pe_fl T (pv 3)) (pa_cons (pe_fl T (pv 3)) pa_nil))))))) pa_nil)))))), ?_⟩
    have dd : Vbemax.does s (.facts p) = if Vbemax.isPoint s p = false then .error (-5) else .ok (s, Vbemax.rows ((s.facts.filter fun f => f.point == p).map fRow)) := rfl
    refine ⟨_, rfl, _, rfl, a, s, L, p, rfl, hA, _, rfl, ?_⟩
    refine ite2 (fun c => ?_) (fun c1 => ?_)
    · refine ⟨_, rfl, sz1, fun l hl => ?_⟩
      refine D.lit hA (step_err hO.op ?_) (Same.refl _) hl rfl
      rw [dd, if_pos (isPoint_f (of_decide_eq_true c))]
    rw [if_neg (isPoint_t hp1 (fun z => c1 (decide_eq_true z)))] at dd
    refine ⟨_, rfl, a, _, _, _, _, rfl, hA.ho, T.qad.cl, T.qad.nf 10 _ rfl, rfl, L.fa, rfl, ⟨_, SqL.of hA.fc⟩, fun lt hlt => ?_⟩
    have hlen := Paired.length hA.fcs
    have hfn := hA.sm.fc
    refine lc_list (K := K) (a := L.fa) (xs := L.fs.map V.ref) (fun i H' => H' = upd H lt (.lst ((pick (fun f : Vbemax.Fact => f.point == p) (L.fs.take i) (s.facts.take i)).map V.ref))) rfl ?_ ?_ ?_
    · rintro i H' _ rfl
      exact (same_new hlt).seq (SqL.of hA.fc)
    · rintro i x H' hx rfl
      obtain ⟨c, hc, rfl⟩ := map_ref_get hx
      obtain ⟨f, hf1, dx, hf2⟩ := paired_get hA.fcs hc
      have st := pick_step (fun f : Vbemax.Fact => f.point == p) hc hf1
      refine ⟨rfl, ?_⟩
      refine ⟨_, rfl, c, _, _, _, _, rfl, same_new hlt _ _ hf2, T.qab.cl, T.qab.nf 0 _ rfl, rfl, _, rfl, rfl, _, rfl, ?_⟩
      rw [deq]
      refine ite2 (fun c1 => ?_) (fun c1 => ?_)
      · refine ⟨_, rfl, _, upd_same, ?_, ?_⟩
        · rw [List.length_map]
          refine small1000 (Nat.le_trans (pick_le _ _ _) ?_)
          rw [List.length_take]
          omega
        · rw [upd_upd, st, if_pos (by simpa using c1), List.map_append]
          rfl
      · rw [st, if_neg (by simpa using c1), List.append_nil]
    rintro H1 hH1
    rw [List.length_map, pick_all _ hlen] at hH1
    subst hH1
    have s1 := same_new (o := .lst ((pick (fun f : Vbemax.Fact => f.point == p) L.fs s.facts).map V.ref)) hlt
    have pw : Paired (FcAt A.qab (upd H lt (.lst ((pick (fun f : Vbemax.Fact => f.point == p) L.fs s.facts).map V.ref)))) (pick (fun f : Vbemax.Fact => f.point == p) L.fs s.facts) (s.facts.filter fun f => f.point == p) := paired_same (fun x y ⟨d, z⟩ => ⟨d, s1 _ _ z⟩) (pick_paired _ hA.fcs)
    have hpl := pick_le (fun f : Vbemax.Fact => f.point == p) L.fs s.facts
    generalize hps : pick (fun f : Vbemax.Fact => f.point == p) L.fs s.facts = ps at s1 pw hpl ⊢
    generalize hfs : (s.facts.filter fun f => f.point == p) = fl at pw dd
    have hwl := Paired.length pw
    refine ⟨_, rfl, lt, rfl, ⟨_, SqL.of upd_same⟩, fun lr hlr => ?_⟩
    have nlt : lt ≠ lr := fun z => by rw [← z, upd_same] at hlr; cases hlr
    refine lc_list (K := K) (a := lt) (xs := ps.map V.ref) (fun i H' => ∃ ts : List Addr, (∀ b o, (upd H lt (.lst (ps.map V.ref))) b = some o → H' b = some o) ∧ H' lr = some (.lst (ts.map V.ref)) ∧ Paired (TRow H') ts ((fl.take i).map fRow)) ?_ ?_ ?_ ?_
    · exact ⟨[], same_new hlr, upd_same, .nil⟩
    · rintro i H' _ ⟨ts, kp, _, _⟩
      exact SqL.of (kp _ _ upd_same)
    · rintro i x H' hx ⟨ts, kp, hl', hts⟩
      obtain ⟨c, hc, rfl⟩ := map_ref_get hx
      obtain ⟨f, hf1, dx, hf2⟩ := paired_get pw hc
      have hf3 := kp _ _ hf2
      refine ⟨rfl, ?_⟩
      unfold tYes
      show ite _ _ _
      rw [if_pos rfl]
      refine ⟨_, rfl, c, _, _, _, _, rfl, hf3, T.qab.cl, T.qab.nf 1 _ rfl, rfl, _, rfl, c, _, _, _, _, rfl, hf3, T.qab.cl, T.qab.nf 2 _ rfl, rfl, _, rfl, c, _, _, _, _, rfl, hf3, T.qab.cl, T.qab.nf 3 _ rfl, rfl, _, rfl, c, _, _, _, _, rfl, hf3, T.qab.cl, T.qab.nf 4 _ rfl, rfl, sz4, fun t ht => ?_⟩
      refine ⟨_, same_new ht _ _ hl', ?_, ?_⟩
      · have e1 := Paired.length hts
        rw [List.length_map, List.length_take] at e1
        rw [List.length_map]
        exact small1000 (by omega)
      · have ntl : lr ≠ t := ne_of_none hl' ht
        refine ⟨ts ++ [t], fun b o e => ?_, ?_, ?_⟩
        · rw [upd_ne (ne_of_none e hlr)]
          exact same_new ht _ _ (kp b o e)
        · rw [upd_same, List.map_append]
          rfl
        · rw [take_more hf1, List.map_append]
          refine paired_snoc (paired_same (fun x y z => ?_) hts) ?_
          · have z' : H' x = some (.tup (y.map V.int)) := z
            show upd _ lr _ x = _
            rw [upd_ne (ne_of z' hl' (by intro q; cases q))]
            exact same_new ht _ _ z'
          · show upd _ lr _ t = _
            rw [upd_ne (Ne.symm ntl), upd_same]
            rfl
    · rintro H' ⟨ts, kp, hl', hts⟩
      rw [List.length_map, hwl, List.take_length] at hts
      refine ⟨lr, ts, fl.map fRow, rfl, hl', hts, ?_, fun H2 l hn2 s2 h => ?_⟩
      · rw [show (fl.map fRow).flatten.length = 4 * fl.length from paired_len4 fl]
        omega
      · have sk : Same H H' := s1.trans kp
        refine D.q hA (step_ok hO.op dd) (sk.trans s2) (sk.free hn2) ?_
        rw [h]
        rfl
def stL (s : Vbemax.State) (n : Nat) : List Int := ((List.range n).map fun i => i + 1).map fun x => Vbemax.flag (s.failed.contains x)
def sp_qbg (A : Adr) : Sp := fun vs H Q _ => ∃ (a : Addr) (s : Vbemax.State) (L : Lay), vs = [.ref a] ∧ HA A H a s L ∧ Okay s ∧ Done A a L H Q (Vbemax.step s .state)
theorem ok_qbg (T : Txt K mg A) : FnOk P w K mg base CX0 2 A.qbg.1 A.qbg.2 ["house"] (sp_qbg A) := by
  refine T.qbg.F.ok sc_qbg (fun vs H Q E h => ?_) (fun cdv An outer s0 H vs Q E hr h => ?_)
  · obtain ⟨a, s, L, rfl, _⟩ := h
    rfl
  · obtain ⟨a, s, L, rfl, hA, hO, D⟩ := h
    have nd := sc_qbg.nd
    have hu := hu_of hr
    refine ⟨_, (pss_cons (ps_set (i := 1) nd rfl (Or.inl rfl) (pe_lst (pa_cons pe_int (pa_cons (pe_fl T (pv 0)) (pa_cons (pe_fl T (pv 0)) (pa_cons (pe_callB call_len_seq (by rfl) T.b_len PySem.boot_len (pa_cons (pe_fl T (pv 0)) pa_nil)) (pa_cons (pe_callB call_len_seq (by rfl) T.b_len PySem.boot_len (pa_cons (pe_call (ok_qan T) (hr.mono (by decide)) rfl T.qan.g T.qan.F.kp T.qan.b .nil pass0 (pa_cons (pv 0) pa_nil)) pa_nil)) pa_nil)))))))
      (pss_cons (ps_expr (pe_bm PySem.F.plainAttrs_list PySem.F.slot_list_extend PySem.F.type_list_extend mt_extend (pv 1) (pa_cons (pe_lst (pa_cons (pe_callB call_len_seq (by rfl) T.b_len PySem.boot_len (pa_cons (pe_fl T (pv 0)) pa_nil)) (pa_cons (pe_callB call_len_seq (by rfl) T.b_len PySem.boot_len (pa_cons (pe_fl T (pv 0)) pa_nil)) (pa_cons (pe_callB call_lenD (by rfl) T.b_len PySem.boot_len (pa_cons (pe_fl T (pv 0)) pa_nil)) pa_nil)))) pa_nil)))
      (pss_cons (ps_for PassesOwn.never rfl (pi_range2 rfl T.b_range (pa_cons pe_int (pa_cons (pe_op op_add (pe_fl T (pv 0)) pe_int) pa_nil))) (pg_name (i := 2) nd rfl (Or.inl rfl)) (pss_one (ps_expr (pe_bm PySem.F.plainAttrs_list PySem.F.slot_list_append PySem.F.type_list_append mt_append (pv 1) (pa_cons (pe_ifExp (pt_cmp (pc_din hu (pv 2) (pe_fl T (pv 0)))) pe_int pe_int) pa_nil)))))
      (pss_one (ps_ret (pv 1)))))), ?_⟩
    have dd : Vbemax.does s .state = .ok (s, [Vbemax.nat s.today, Vbemax.nat s.points, Vbemax.nat s.requests.length, Vbemax.nat (Vbemax.kept s), Vbemax.nat s.facts.length, Vbemax.nat s.volumes.length, Vbemax.nat s.holidays.length] ++ stL s s.suppliers) := rfl
    refine ⟨_, rfl, a, _, _, _, _, rfl, hA.ho, T.qad.cl, T.qad.nf 5 _ rfl, rfl, _, rfl, a, _, _, _, _, rfl, hA.ho, T.qad.cl, T.qad.nf 8 _ rfl, rfl, _, rfl, a, _, _, _, _, rfl, hA.ho, T.qad.cl, T.qad.nf 9 _ rfl, rfl, L.r, _, rfl, .inl (SqL.of hA.rq), _, rfl, a, s, L, rfl, hA, fun H1 lw hn1 s1 h1 => ?_⟩
    refine ⟨lw, _, rfl, .inl (SqL.of h1), sz5, fun la hla => ?_⟩
    have e1 := Paired.length hA.rqs
    have e2 := kept_pick hA
    have e3 := Paired.length hA.fcs
    have e4 := Paired.length hA.vls
    rw [List.length_map, List.length_map, e2, e1]
    have s2 := same_new (o := .lst [V.int 0, V.int (s.today : Int), V.int (s.points : Int), V.int ((s.requests.length : Nat) : Int), V.int ((Vbemax.kept s : Nat) : Int)]) hla
    have s12 := s1.trans s2
    have hA2 := hA.same s12
    refine ⟨_, rfl, .inl ⟨rfl, _, SqL.of upd_same⟩, _, rfl, a, _, _, _, _, rfl, hA2.ho, T.qad.cl, T.qad.nf 10 _ rfl, rfl, L.fa, _, rfl, .inl (SqL.of hA2.fc), _, rfl, a, _, _, _, _, rfl, hA2.ho, T.qad.cl, T.qad.nf 11 _ rfl, rfl, L.v, _, rfl, .inl (SqL.of hA2.vl), _, rfl, a, _, _, _, _, rfl, hA2.ho, T.qad.cl, T.qad.nf 7 _ rfl, rfl, L.h, _, rfl, hA2.hl, sz3, fun l3 hl3 => ?_⟩
    have n3 : la ≠ l3 := fun z => by rw [← z, upd_same] at hl3; cases hl3
    refine ⟨la, l3, _, _, rfl, rfl, same_new hl3 _ _ upd_same, upd_same, sz8, ?_⟩
    rw [List.length_map, List.length_map, e3, e4, hA.hk.len]
    generalize hH3 : upd (upd (upd H1 la (.lst [V.int 0, V.int (s.today : Int), V.int (s.points : Int), V.int ((s.requests.length : Nat) : Int), V.int ((Vbemax.kept s : Nat) : Int)])) l3 (.lst [V.int ((s.facts.length : Nat) : Int), V.int ((s.volumes.length : Nat) : Int), V.int ((s.holidays.length : Nat) : Int)])) la _ = H3
    have hloN : H la = none := s1.free hla
    have sK : Same H H3 := fun b o e => by
      rw [← hH3, upd_ne (ne_of_none e hloN)]
      exact same_new hl3 _ _ (s12 _ _ e)
    have hl3' : H3 la = some (.lst (([0, Vbemax.nat s.today, Vbemax.nat s.points, Vbemax.nat s.requests.length, Vbemax.nat (Vbemax.kept s), Vbemax.nat s.facts.length, Vbemax.nat s.volumes.length, Vbemax.nat s.holidays.length] ++ stL s 0).map V.int)) := by
      rw [← hH3, upd_same]
      rfl
    clear hH3
    have hA3 := hA.same sK
    have hsp := hA.sm.sp
    refine ⟨_, rfl, a, _, _, _, _, rfl, hA3.ho, T.qad.cl, T.qad.nf 2 _ rfl, rfl, _, _, rfl, rfl, _, _, rfl, ⟨by decide, by decide, by omega, by omega⟩, ?_⟩
    have en : (((s.suppliers : Nat) : Int) + 1 - 1).toNat = s.suppliers := by omega
    rw [en]
    refine for_range (lo := 1) (n := s.suppliers) (fun i σ H' => ∃ (v5 : Option V), σ = [some (.ref a), some (.ref la), v5] ∧ Same H H' ∧ H' la = some (.lst (([0, Vbemax.nat s.today, Vbemax.nat s.points, Vbemax.nat s.requests.length, Vbemax.nat (Vbemax.kept s), Vbemax.nat s.facts.length, Vbemax.nat s.volumes.length, Vbemax.nat s.holidays.length] ++ stL s i).map V.int))) ?_ ?_ ?_
    · exact ⟨none, rfl, sK, hl3'⟩
    · rintro i σ H' hi ⟨v5, rfl, sK', hl'⟩
      have hA' := hA.same sK'
      have ei : (1 : Int) + ((i : Nat) : Int) = ((i + 1 : Nat) : Int) := by omega
      rw [ei]
      have hln : (([0, Vbemax.nat s.today, Vbemax.nat s.points, Vbemax.nat s.requests.length, Vbemax.nat (Vbemax.kept s), Vbemax.nat s.facts.length, Vbemax.nat s.volumes.length, Vbemax.nat s.holidays.length] ++ stL s i).map V.int).length < sizeLine := by
        unfold stL
        rw [List.length_map, List.length_append, List.length_map, List.length_map, List.length_range]
        exact small1000 (by show 8 + i ≤ 1000; omega)
      refine ⟨_, rfl, .inl ⟨rfl, _, SqL.of hl'⟩, _, rfl, _, rfl, a, _, _, _, _, rfl, hA'.ho, T.qad.cl, T.qad.nf 6 _ rfl, rfl, L.f, _, rfl, DGet.k (k := Sum.inl ((i + 1 : Nat) : Int)) hA'.fl, _, rfl, ?_⟩
      rw [fail_val]
      have st : stL s (i + 1) = stL s i ++ [Vbemax.flag (s.failed.contains (i + 1))] := by
        unfold stL
        rw [List.range_succ, List.map_append, List.map_append]
        rfl
      refine ite2 (fun c => ?_) (fun c => ?_)
      · refine ⟨la, _, _, rfl, rfl, hl', hln, _, rfl, fun b o e => ?_, ?_⟩
        · rw [upd_ne (ne_of_none e hloN)]
          exact sK' _ _ e
        · rw [upd_same, st, c]
          simp only [List.map_append, List.append_assoc]
          rfl
      · have c' : s.failed.contains (i + 1) = false := by
          cases z : s.failed.contains (i + 1) with
          | true => exact absurd z c
          | false => rfl
        refine ⟨la, _, _, rfl, rfl, hl', hln, _, rfl, fun b o e => ?_, ?_⟩
        · rw [upd_ne (ne_of_none e hloN)]
          exact sK' _ _ e
        · rw [upd_same, st, c']
          simp only [List.map_append, List.append_assoc]
          rfl
    · rintro σ H' ⟨v5, rfl, sK', hl'⟩
      refine ⟨_, rfl, ?_⟩
      exact D.q hA (step_ok hO.op dd) sK' hloN hl'
theorem any_wait (p : Nat) : ∀ l : List Vbemax.Request, (l.any fun r => r.point == p && decide (r.stage = 0)) = (l.filter isW).any fun r => decide (r.point = p)
  | [] => rfl
  | r :: l => by
    have ih := any_wait p l
    rw [List.any_cons, ih]
    by_cases c : isW r = true
    · rw [List.filter_cons_of_pos c, List.any_cons, show decide (r.stage = 0) = true from c, Bool.and_true]
      congr 1
    · have c' : decide (r.stage = 0) = false := by
        cases z : decide (r.stage = 0) with
        | true => exact absurd z c
        | false => rfl
      rw [List.filter_cons_of_neg c, c', Bool.and_false, Bool.false_or]
def sp_qbj (A : Adr) : Sp := fun vs H Q _ => ∃ (a : Addr) (s : Vbemax.State) (L : Lay) (p : Nat), vs = [.ref a, .int p] ∧ HA A H a s L ∧ ∀ H', Same H H' → Q (.bl (s.requests.any fun r => r.point == p && decide (r.stage = 0))) H'
theorem ok_qbj (T : Txt K mg A) : FnOk P w K mg base CX0 2 A.qbj.1 A.qbj.2 ["house", "point"] (sp_qbj A) := by
  refine T.qbj.F.ok sc_qbj (fun vs H Q E h => ?_) (fun cdv An outer s0 H vs Q E hr h => ?_)
  · obtain ⟨a, s, L, p, rfl, _⟩ := h
    rfl
  · obtain ⟨a, s, L, p, rfl, hA, q⟩ := h
    have nd := sc_qbj.nd
    have hu := hu_of hr
    refine ⟨_, (pss_cons (ps_for PassesOwn.never rfl (pi_list (pe_call (ok_qan T) (hr.mono (by decide)) rfl T.qan.g T.qan.F.kp T.qan.b .nil pass0 (pa_cons (pv 0) pa_nil))) (pg_name (i := 2) nd rfl (Or.inl rfl)) (pss_one (ps_if (pt_cmpR op_eq (pe_fl T (pv 2)) (pv 1) (nomark _)) (pss_one (ps_ret pe_bl)) pss_nil)))
      (pss_one (ps_ret pe_bl))), ?_⟩
    refine ⟨_, rfl, a, s, L, rfl, hA, fun H1 l hn1 s1 h1 => ?_⟩
    have hA1 := hA.same s1
    have pw := pick_paired isW hA1.rqs
    have plen := Paired.length pw
    rw [any_wait] at q
    refine ⟨l, rfl, ⟨_, SqL.of h1⟩, ?_⟩
    refine for_list (K := K) (a := l) (xs := (pick isW L.rs s.requests).map V.ref) (fun i σ H' => ∃ v : Option V, σ = [some (.ref a), some (.int p), v] ∧ H' = H1 ∧ ((s.requests.filter isW).take i).any (fun r => decide (r.point = p)) = false) ⟨none, rfl, rfl, rfl⟩ ?_ ?_ ?_
    · rintro i σ H' _ ⟨v, _, rfl, _⟩
      exact SqL.of h1
    · rintro i x σ H' hx ⟨v, rfl, rfl, he⟩
      obtain ⟨c, hc, rfl⟩ := map_ref_get hx
      obtain ⟨r, hr1, dx, hr2⟩ := paired_get pw hc
      refine ⟨_, rfl, c, _, _, _, _, rfl, hr2, T.qaa.cl, T.qaa.nf 0 _ rfl, rfl, _, rfl, rfl, _, rfl, ?_⟩
      rw [deq]
      refine ite2 (fun c1 => ?_) (fun c1 => ?_)
      · have e : ((s.requests.filter isW).any fun r => decide (r.point = p)) = true := List.any_eq_true.mpr ⟨r, List.mem_of_getElem? hr1, c1⟩
        rw [e] at q
        exact q _ s1
      · refine ⟨_, rfl, rfl, ?_⟩
        rw [take_more hr1, List.any_append, he, Bool.false_or, List.any_cons, List.any_nil, Bool.or_false]
        simpa using c1
    · rintro σ H' ⟨v, rfl, rfl, he⟩
      rw [List.length_map, plen, List.take_length] at he
      rw [he] at q
      exact q _ s1
def sp_qbk (A : Adr) : Sp := fun vs H Q _ => ∃ (a : Addr) (s : Vbemax.State) (L : Lay) (d : Nat), vs = [.ref a, .int d] ∧ HA A H a s L ∧ Q (.bl (decide (d < Vbemax.after_ s.holidays s.today s.notice ∨ s.today + Vbemax.WINDOW < d))) H
theorem ok_qbk (T : Txt K mg A) : FnOk P w K mg base CX0 3 A.qbk.1 A.qbk.2 ["house", "start"] (sp_qbk A) := by
  refine T.qbk.F.ok sc_qbk (fun vs H Q E h => ?_) (fun cdv An outer s0 H vs Q E hr h => ?_)
  · obtain ⟨a, s, L, d, rfl, _⟩ := h
    rfl
  · obtain ⟨a, s, L, d, rfl, hA, q⟩ := h
    have nd := sc_qbk.nd
    have hu := hu_of hr
    refine ⟨_, (pss_cons (ps_set (i := 2) nd rfl (Or.inl rfl) (pe_call (ok_qaf T) (hr.mono (by decide)) rfl T.qaf.g T.qaf.F.kp T.qaf.b .nil pass0 (pa_cons (pe_fl T (pv 0)) (pa_cons (pe_fl T (pv 0)) (pa_cons (pe_fl T (pv 0)) pa_nil)))))
      (pss_one (ps_ret (pe_or (pe_cmpR op_lt (pv 1) (pv 2) (nomark _)) (pe_one (pe_cmpR op_gt (pv 1) (pe_op op_add (pe_fl T (pv 0)) pe_int) (nomark _))))))), ?_⟩
    refine ⟨_, rfl, a, _, _, _, _, rfl, hA.ho, T.qad.cl, T.qad.nf 7 _ rfl, rfl, _, rfl, a, _, _, _, _, rfl, hA.ho, T.qad.cl, T.qad.nf 5 _ rfl, rfl, _, rfl, a, _, _, _, _, rfl, hA.ho, T.qad.cl, T.qad.nf 4 _ rfl, rfl, L.h, s.today, s.notice, L.kh, s.holidays, rfl, hA.hl, hA.hk, ?_⟩
    refine ⟨_, rfl, _, rfl, _, _, rfl, rfl, _, rfl, ?_⟩
    rw [dlt]
    refine ite2 (fun c => ?_) (fun c => ?_)
    · rw [decide_eq_true (Or.inl (of_decide_eq_true c))] at q
      exact q
    · refine ⟨_, rfl, _, rfl, a, _, _, _, _, rfl, hA.ho, T.qad.cl, T.qad.nf 5 _ rfl, rfl, _, _, rfl, rfl, _, _, rfl, rfl, ?_⟩
      have e : decide (((s.today : Nat) : Int) + 400 < ((d : Nat) : Int)) = decide (d < Vbemax.after_ s.holidays s.today s.notice ∨ s.today + Vbemax.WINDOW < d) := by
        have c' : ¬ d < Vbemax.after_ s.holidays s.today s.notice := fun z => c (decide_eq_true z)
        by_cases c2 : s.today + 400 < d
        · rw [decide_eq_true (show ((s.today : Nat) : Int) + 400 < ((d : Nat) : Int) by omega), decide_eq_true (show d < Vbemax.after_ s.holidays s.today s.notice ∨ s.today + Vbemax.WINDOW < d from Or.inr c2)]
        · rw [decide_eq_false (show ¬ ((s.today : Nat) : Int) + 400 < ((d : Nat) : Int) by omega), decide_eq_false (show ¬ (d < Vbemax.after_ s.holidays s.today s.notice ∨ s.today + Vbemax.WINDOW < d) from fun z => z.elim c' c2)]
      rw [← e] at q
      exact q
def sp_qbl (A : Adr) : Sp := fun vs H Q _ => ∃ (a : Addr) (s : Vbemax.State) (L : Lay), vs = [.ref a] ∧ HA A H a s L ∧ ∀ H', Same H H' → Q (.bl (decide (Vbemax.REQUESTS ≤ s.requests.length ∨ Vbemax.FACTS ≤ s.facts.length + Vbemax.kept s))) H'
theorem ok_qbl (T : Txt K mg A) : FnOk P w K mg base CX0 2 A.qbl.1 A.qbl.2 ["house"] (sp_qbl A) := by
  refine T.qbl.F.ok sc_qbl (fun vs H Q E h => ?_) (fun cdv An outer s0 H vs Q E hr h => ?_)
  · obtain ⟨a, s, L, rfl, _⟩ := h
    rfl
  · obtain ⟨a, s, L, rfl, hA, q⟩ := h
    have nd := sc_qbl.nd
    have hu := hu_of hr
    refine ⟨_, (pss_one (ps_ret (pe_or (pe_cmpR op_ge (pe_callB call_len_seq (by rfl) T.b_len PySem.boot_len (pa_cons (pe_fl T (pv 0)) pa_nil)) (pe_co T.qcq) (nomark _)) (pe_one (pe_call (ok_qao T) (hr.mono (by decide)) rfl T.qao.g T.qao.F.kp T.qao.b .nil pass0 (pa_cons (pv 0) (pa_cons pe_int (pa_cons (pe_callB call_len_seq (by rfl) T.b_len PySem.boot_len (pa_cons (pe_call (ok_qan T) (hr.mono (by decide)) rfl T.qan.g T.qan.F.kp T.qan.b .nil pass0 (pa_cons (pv 0) pa_nil)) pa_nil)) pa_nil)))))))), ?_⟩
    have hrl := Paired.length hA.rqs
    refine ⟨_, rfl, a, _, _, _, _, rfl, hA.ho, T.qad.cl, T.qad.nf 9 _ rfl, rfl, L.r, _, rfl, .inl (SqL.of hA.rq), _, _, rfl, rfl, _, rfl, ?_⟩
    rw [show decide ((64 : Int) ≤ (((L.rs.map V.ref).length : Nat) : Int)) = decide (64 ≤ (L.rs.map V.ref).length) from dle 64 _, List.length_map, hrl]
    refine ite2 (fun c => ?_) (fun c => ?_)
    · rw [decide_eq_true (show Vbemax.REQUESTS ≤ s.requests.length ∨ Vbemax.FACTS ≤ s.facts.length + Vbemax.kept s from .inl (of_decide_eq_true c))] at q
      exact q _ (Same.refl _)
    · refine ⟨_, rfl, _, rfl, a, s, L, rfl, hA, fun H2 l2 hn2 s2 h2 => ?_⟩
      refine ⟨l2, _, rfl, .inl (SqL.of h2), a, s, L, 1, _, rfl, hA.same s2, ?_⟩
      rw [List.length_map, kept_pick hA]
      have e : decide (256 < s.facts.length + 1 + Vbemax.kept s) = decide (Vbemax.REQUESTS ≤ s.requests.length ∨ Vbemax.FACTS ≤ s.facts.length + Vbemax.kept s) := by
        have c' : ¬ 64 ≤ s.requests.length := fun z => c (decide_eq_true z)
        by_cases c2 : 256 ≤ s.facts.length + Vbemax.kept s
        · rw [decide_eq_true (show 256 < s.facts.length + 1 + Vbemax.kept s by omega), decide_eq_true (show Vbemax.REQUESTS ≤ s.requests.length ∨ Vbemax.FACTS ≤ s.facts.length + Vbemax.kept s from .inr c2)]
        · rw [decide_eq_false (show ¬ 256 < s.facts.length + 1 + Vbemax.kept s by omega), decide_eq_false (show ¬ (Vbemax.REQUESTS ≤ s.requests.length ∨ Vbemax.FACTS ≤ s.facts.length + Vbemax.kept s) from fun z => z.elim c' c2)]
      rw [e]
      exact q _ s2
def sp_qbm (A : Adr) : Sp := fun vs H Q _ => ∃ (a : Addr) (s : Vbemax.State) (L : Lay) (p x d : Nat), vs = [.ref a, .int p, .int x, .int d] ∧ 1 ≤ p ∧ 1 ≤ x ∧ HA A H a s L ∧ Okay s ∧ Done A a L H Q (Vbemax.step s (.request p x d))
theorem ok_qbm (T : Txt K mg A) : FnOk P w K mg base CX0 4 A.qbm.1 A.qbm.2 ["house", "point", "supplier", "start"] (sp_qbm A) := by
  refine T.qbm.F.ok sc_qbm (fun vs H Q E h => ?_) (fun cdv An outer s0 H vs Q E hr h => ?_)
  · obtain ⟨a, s, L, p, x, d, rfl, _⟩ := h
    rfl
  · obtain ⟨a, s, L, p, x, d, rfl, hp1, hx1, hA, hO, D⟩ := h
    have nd := sc_qbm.nd
    have hu := hu_of hr
    refine ⟨_, (pss_cons (ps_if (pt_val (pe_call (ok_qak T) (hr.mono (by decide)) rfl T.qak.g T.qak.F.kp T.qak.b .nil pass0 (pa_cons (pv 0) (pa_cons (pv 1) pa_nil)))) (pss_one (ps_ret (pe_lst (pa_cons (pe_un un_neg pe_int) pa_nil)))) pss_nil)
      (pss_cons (ps_if (pt_val (pe_call (ok_qam T) (hr.mono (by decide)) rfl T.qam.g T.qam.F.kp T.qam.b .nil pass0 (pa_cons (pv 0) (pa_cons (pv 2) pa_nil)))) (pss_one (ps_ret (pe_lst (pa_cons (pe_un un_neg pe_int) pa_nil)))) pss_nil)
      (pss_cons (ps_if (pt_val (pe_call (ok_qbk T) (hr.mono (by decide)) rfl T.qbk.g T.qbk.F.kp T.qbk.b .nil pass0 (pa_cons (pv 0) (pa_cons (pv 3) pa_nil)))) (pss_one (ps_ret (pe_lst (pa_cons (pe_un un_neg pe_int) pa_nil)))) pss_nil)
      (pss_cons (ps_if (pt_val (pe_call (ok_qbj T) (hr.mono (by decide)) rfl T.qbj.g T.qbj.F.kp T.qbj.b .nil pass0 (pa_cons (pv 0) (pa_cons (pv 1) pa_nil)))) (pss_one (ps_ret (pe_lst (pa_cons (pe_un un_neg pe_int) pa_nil)))) pss_nil)
      (pss_cons (ps_set (i := 4) nd rfl (Or.inl rfl) (pe_call (ok_qar T) (hr.mono (by decide)) rfl T.qar.g T.qar.F.kp T.qar.b .nil pass0 (pa_cons (pv 0) (pa_cons (pv 1) (pa_cons (pv 3) (pa_cons (pe_fl T (pv 0)) pa_nil))))))
      (pss_cons (ps_if (pt_cmpR op_eq (pv 4) (pv 2) (nomark _)) (pss_one (ps_ret (pe_lst (pa_cons (pe_un un_neg pe_int) pa_nil)))) pss_nil)
      (pss_cons (ps_if (pt_val (pe_call (ok_qbl T) (hr.mono (by decide)) rfl T.qbl.g T.qbl.F.kp T.qbl.b .nil pass0 (pa_cons (pv 0) pa_nil))) (pss_one (ps_ret (pe_lst (pa_cons (pe_un un_neg pe_int) pa_nil)))) pss_nil)
      (pss_cons (ps_set (i := 5) nd rfl (Or.inl rfl) (pe_call (ok_qaf T) (hr.mono (by decide)) rfl T.qaf.g T.qaf.F.kp T.qaf.b .nil pass0 (pa_cons (pe_fl T (pv 0)) (pa_cons (pe_fl T (pv 0)) (pa_cons (pe_fl T (pv 0)) pa_nil)))))
      (pss_cons (ps_expr (pe_bm PySem.F.plainAttrs_list PySem.F.slot_list_append PySem.F.type_list_append mt_append (pe_fl T (pv 0)) (pa_cons (pe_make T.qaa.M (ok_qaa T) (hr.mono (by decide)) rfl T.qaa.g T.qaa.b .nil pass0 (pa_cons (pv 1) (pa_cons (pv 2) (pa_cons (pv 3) (pa_cons (pv 4) (pa_cons (pv 5) pa_nil)))))) pa_nil)))
      (pss_one (ps_ret (pe_lst (pa_cons pe_int (pa_cons (pe_callB call_len_seq (by rfl) T.b_len PySem.boot_len (pa_cons (pe_fl T (pv 0)) pa_nil)) (pa_cons (pv 4) (pa_cons (pv 5) pa_nil)))))))))))))))), ?_⟩
    have dd : Vbemax.does s (.request p x d) = if Vbemax.isPoint s p = false then .error (-5) else if Vbemax.lives s x = false then .error (-6)
      else if d < Vbemax.after_ s.holidays s.today s.notice ∨ s.today + Vbemax.WINDOW < d then .error (-8) else if s.requests.any (fun r => r.point == p && decide (r.stage = 0)) = true then .error (-10) else if Vbemax.whoAt s p d s.today = x then .error (-9)
      else if Vbemax.REQUESTS ≤ s.requests.length ∨ Vbemax.FACTS ≤ s.facts.length + Vbemax.kept s then .error (-4) else .ok ({ s with requests := s.requests ++ [{ point := p, supplier := x, start := d, old := Vbemax.whoAt s p d s.today, deadline := Vbemax.after_ s.holidays s.today s.objection }] }, [Vbemax.nat (s.requests.length + 1), Vbemax.nat (Vbemax.whoAt s p d s.today), Vbemax.nat (Vbemax.after_ s.holidays s.today s.objection)]) := rfl
    refine ⟨_, rfl, _, rfl, a, s, L, p, rfl, hA, _, rfl, ?_⟩
    refine ite2 (fun c => ?_) (fun c1 => ?_)
    · refine ⟨_, rfl, sz1, fun l hl => ?_⟩
      refine D.lit hA (step_err hO.op ?_) (Same.refl _) hl rfl
      rw [dd, if_pos (isPoint_f (of_decide_eq_true c))]
    rw [if_neg (isPoint_t hp1 (fun z => c1 (decide_eq_true z)))] at dd
    refine ⟨_, rfl, _, rfl, a, s, L, x, rfl, hx1, hA, _, rfl, ?_⟩
    refine ite2 (fun c => ?_) (fun c2 => ?_)
    · refine ⟨_, rfl, sz1, fun l hl => ?_⟩
      refine D.lit hA (step_err hO.op ?_) (Same.refl _) hl rfl
      rw [dd, if_pos (lives_f c)]
    rw [if_neg (lives_t c2)] at dd
    refine ⟨_, rfl, _, rfl, a, s, L, d, rfl, hA, _, rfl, ?_⟩
    refine ite2 (fun c => ?_) (fun c3 => ?_)
    · refine ⟨_, rfl, sz1, fun l hl => ?_⟩
      refine D.lit hA (step_err hO.op ?_) (Same.refl _) hl rfl
      rw [dd, if_pos (of_decide_eq_true c)]
    rw [if_neg (fun z => c3 (decide_eq_true z))] at dd
    refine ⟨_, rfl, _, rfl, a, s, L, p, rfl, hA, fun H1 s1 => ⟨_, rfl, ?_⟩⟩
    refine ite2 (fun c => ?_) (fun c4 => ?_)
    · refine ⟨_, rfl, sz1, fun l hl => ?_⟩
      refine D.lit hA (step_err hO.op ?_) s1 hl rfl
      rw [dd, if_pos c]
    rw [if_neg c4] at dd
    have hA1 := hA.same s1
    refine ⟨_, rfl, _, rfl, _, rfl, _, rfl, a, _, _, _, _, rfl, hA1.ho, T.qad.cl, T.qad.nf 5 _ rfl, rfl, a, s, L, p, d, s.today, rfl, hA1, fun H2 s2 => ?_⟩
    have hA2 := hA1.same s2
    have s12 := s1.trans s2
    refine ⟨_, rfl, _, rfl, rfl, _, rfl, ?_⟩
    rw [deq]
    refine ite2 (fun c => ?_) (fun c5 => ?_)
    · refine ⟨_, rfl, sz1, fun l hl => ?_⟩
      refine D.lit hA (step_err hO.op ?_) s12 hl rfl
      rw [dd, if_pos (of_decide_eq_true c)]
    rw [if_neg (fun z => c5 (decide_eq_true z))] at dd
    refine ⟨_, rfl, a, s, L, rfl, hA2, fun H3 s3 => ⟨_, rfl, ?_⟩⟩
    have s13 := s12.trans s3
    refine ite2 (fun c => ?_) (fun c6 => ?_)
    · refine ⟨_, rfl, sz1, fun l hl => ?_⟩
      refine D.lit hA (step_err hO.op ?_) s13 hl rfl
      rw [dd, if_pos (of_decide_eq_true c)]
    have hroom : ¬ (64 ≤ s.requests.length ∨ 256 ≤ s.facts.length + Vbemax.kept s) := fun z => c6 (decide_eq_true z)
    rw [if_neg (fun z => c6 (decide_eq_true z))] at dd
    rw [step_ok hO.op dd] at D
    have hA3 := hA2.same s3
    refine ⟨_, rfl, a, _, _, _, _, rfl, hA3.ho, T.qad.cl, T.qad.nf 7 _ rfl, rfl, _, rfl, a, _, _, _, _, rfl, hA3.ho, T.qad.cl, T.qad.nf 5 _ rfl, rfl, _, rfl, a, _, _, _, _, rfl, hA3.ho, T.qad.cl, T.qad.nf 3 _ rfl, rfl, L.h, s.today, s.objection, L.kh, s.holidays, rfl, hA3.hl, hA3.hk, ?_⟩
    refine ⟨_, rfl, a, _, _, _, _, rfl, hA3.ho, T.qad.cl, T.qad.nf 9 _ rfl, rfl, .inl ⟨rfl, _, SqL.of hA3.rq⟩, _, rfl, _, rfl, _, rfl, _, rfl, _, rfl, fun z dx hx hdx hne =>
      ⟨z, dx, { point := p, supplier := x, start := d, old := Vbemax.whoAt s p d s.today, deadline := Vbemax.after_ s.holidays s.today s.objection }, rfl, rfl, upd_same, fun H4 h4 k4 => ⟨rfl, ?_⟩⟩⟩
    have s4 : Same H3 H4 := Same.made hx hdx k4
    have hrl := Paired.length hA.rqs
    refine ⟨L.r, _, _, rfl, rfl, s4 _ _ hA3.rq, ?_, ?_⟩
    · rw [List.length_map]
      exact small1000 (by omega)
    have hA4 := hA3.same s4
    have hzr : z ≠ L.r := ne_of h4 hA4.rq (by intro q; cases q)
    have har : a ≠ L.r := ne_of hA4.ho hA4.rq (by intro q; cases q)
    refine ⟨_, rfl, a, _, _, _, _, rfl, (by rw [upd_ne har]; exact hA4.ho), T.qad.cl, T.qad.nf 9 _ rfl, rfl, L.r, _, rfl, .inl (SqL.of upd_same), _, rfl, _, rfl, sz4, fun l hl => ?_⟩
    have hlr : l ≠ L.r := fun z => by rw [z, upd_same] at hl; cases hl
    have hl4 : H4 l = none := by rw [upd_ne hlr] at hl; exact hl
    have k : ∀ xs b o, H4 b = some o → b ≠ L.r → (upd (upd H4 L.r (.lst (L.rs.map V.ref ++ [V.ref z]))) l (.lst xs)) b = some o := fun xs b o e hb => by
      rw [upd_ne (ne_of_none e hl4), upd_ne hb]
      exact e
    have sH4 : Same H H4 := s13.trans s4
    have hzH : H z = none := s13.free hx
    have fin : ∀ xs, HA A (upd (upd H4 L.r (.lst (L.rs.map V.ref ++ [V.ref z]))) l (.lst xs)) a { s with requests := s.requests ++ [{ point := p, supplier := x, start := d, old := Vbemax.whoAt s p d s.today, deadline := Vbemax.after_ s.holidays s.today s.objection }] } { L with rs := L.rs ++ [z] } := fun xs => by
      refine ⟨k xs _ _ hA4.ho har, k xs _ _ hA4.fl (ne_of hA4.fl hA4.rq (by intro q; cases q)), k xs _ _ hA4.hl (ne_of hA4.hl hA4.rq (by intro q; cases q)), hA.hk, ?_, paired_snoc (paired_same (fun p q ⟨d, z⟩ => ⟨d, k xs _ _ z (ne_of z hA4.rq (by intro q; cases q))⟩) hA4.rqs) ⟨dx, k xs _ _ h4 hzr⟩, k xs _ _ hA4.fc (Ne.symm hA.rfa), paired_same (fun p q ⟨d, z⟩ => ⟨d, k xs _ _ z (ne_of z hA4.rq (by intro q; cases q))⟩) hA4.fcs,
        k xs _ _ hA4.vl (Ne.symm hA.rv), paired_same (fun p q ⟨d, z⟩ => ⟨d, k xs _ _ z (ne_of z hA4.rq (by intro q; cases q))⟩) hA4.vls, k xs _ _ hA4.bl (ne_of hA4.bl hA4.rq (by intro q; cases q)), hA.fh, hA.rfa, hA.rv, hA.fav, ?_, ⟨?_, hA.sm.fc, hA.sm.vl, hA.sm.bl, hA.sm.hl, hA.sm.pt, hA.sm.sp, hA.sm.fl⟩⟩
      · show (upd (upd H4 L.r _) l _) L.r = _
        rw [upd_ne (Ne.symm hlr), upd_same, List.map_append]
        rfl
      · refine List.nodup_append.mpr ⟨hA.rnd, by simp, fun b hb y hy e => ?_⟩
        rw [List.mem_singleton] at hy
        subst hy
        subst e
        obtain ⟨j, hj⟩ := List.mem_iff_getElem?.mp hb
        obtain ⟨r, _, dy, hr⟩ := paired_get hA.rqs hj
        rw [hzH] at hr
        cases hr
      · show (s.requests ++ [_]).length ≤ 64
        rw [List.length_append]
        show s.requests.length + 1 ≤ 64
        omega
    refine D _ { L with rs := L.rs ++ [z] } l ⟨fun b o e hb => k _ b o (sH4 _ _ e) (fun z => hb (.inr (.inr (.inr (.inl z))))), fun b hb => ?_⟩ (fin _) (sH4.free hl4) ?_
    · rcases hb with hb | hb | hb | hb | hb | hb | hb | hb
      · exact .inl (.inl hb)
      · exact .inl (.inr (.inl hb))
      · exact .inl (.inr (.inr (.inl hb)))
      · exact .inl (.inr (.inr (.inr (.inl hb))))
      · exact .inl (.inr (.inr (.inr (.inr (.inl hb)))))
      · exact .inl (.inr (.inr (.inr (.inr (.inr (.inl hb))))))
      · exact .inl (.inr (.inr (.inr (.inr (.inr (.inr (.inl hb)))))))
      · rcases List.mem_append.mp hb with hb | hb
        · exact .inl (.inr (.inr (.inr (.inr (.inr (.inr (.inr hb)))))))
        · rw [List.mem_singleton] at hb
          subst hb
          exact .inr hzH
    · rw [upd_same, List.length_append, List.length_map, hrl]
      rfl
end
theorem HA.upd_req {A : Adr} {H : Hp} {a : Addr} {s : Vbemax.State} {L : Lay} {i st : Nat} {p dx : Addr} {q : Vbemax.Request} (h : HA A H a s L) (h1 : L.rs[i]? = some p) (h2 : s.requests[i]? = some q) :
    HA A (upd H p (.ins A.qaa dx (rf { q with stage := st }))) a { s with requests := Vbemax.mapAt (fun r => { r with stage := st }) i s.requests } L := by
  obtain ⟨q', e1, d0, z0⟩ := paired_get h.rqs h1
  have k : ∀ b o, H b = some o → o ≠ .ins A.qaa d0 (rf q') → (upd H p (.ins A.qaa dx (rf { q with stage := st }))) b = some o := fun b o e n => by rw [upd_ne (ne_of e z0 n)]; exact e
  refine ⟨k _ _ h.ho (ins_ne (by show 13 ≠ 6; decide)), k _ _ h.fl (by intro q; cases q), k _ _ h.hl (by intro q; cases q), h.hk, k _ _ h.rq (by intro q; cases q), ?_, k _ _ h.fc (by intro q; cases q), paired_same (fun p q ⟨d, z⟩ => ⟨d, k _ _ z (ins_ne (by show 5 ≠ 6; decide))⟩) h.fcs, k _ _ h.vl (by intro q; cases q), paired_same (fun p q ⟨d, z⟩ => ⟨d, k _ _ z (ins_ne (by show 4 ≠ 6; decide))⟩) h.vls, k _ _ h.bl (by intro q; cases q), h.fh, h.rfa, h.rv, h.fav, h.rnd, ⟨?_, h.sm.fc, h.sm.vl, h.sm.bl, h.sm.hl, h.sm.pt, h.sm.sp, h.sm.fl⟩⟩
  · refine paired_of (by show L.rs.length = (Vbemax.mapAt _ _ _).length; rw [mapAt_length]; exact Paired.length h.rqs) fun j p' r g1 g2 => ?_
    rw [show ({ s with requests := Vbemax.mapAt (fun r => { r with stage := st }) i s.requests } : Vbemax.State).requests = Vbemax.mapAt (fun r => { r with stage := st }) i s.requests from rfl, mapAt_get] at g2
    by_cases e : j = i
    · subst e
      rw [h1] at g1
      cases g1
      rw [if_pos rfl, h2] at g2
      cases g2
      exact ⟨dx, upd_same⟩
    · rw [if_neg e] at g2
      obtain ⟨r', e3, d, z⟩ := paired_get h.rqs g1
      rw [g2] at e3
      cases e3
      have hne : p' ≠ p := fun z => e (nodup_at h.rnd (z ▸ g1) h1)
      exact ⟨d, by rw [upd_ne hne]; exact z⟩
  · show (Vbemax.mapAt _ _ _).length ≤ 64
    rw [mapAt_length]
    exact h.sm.rq
theorem stage_done {A : Adr} {H : Hp} {a : Addr} {s : Vbemax.State} {L : Lay} {Q : VK} {r : Vbemax.State × List Int} {xs : List V} {l : Addr} {i st : Nat} {p dx : Addr} {q : Vbemax.Request} (D : Done A a L H Q r) (hA : HA A H a s L) (h1 : L.rs[i]? = some p) (h2 : s.requests[i]? = some q) (hp : H p = some (.ins A.qaa dx (rf q)))
    (hl : (upd H p (.ins A.qaa dx (rf { q with stage := st }))) l = none) (hr : r.1 = { s with requests := Vbemax.mapAt (fun r => { r with stage := st }) i s.requests }) (hq : xs = r.2.map V.int) : Q (.ref l) (upd (upd H p (.ins A.qaa dx (rf { q with stage := st }))) l (.lst xs)) := by
  have hlp : l ≠ p := fun z => by rw [z, upd_same] at hl; cases hl
  have hlH : H l = none := by rw [upd_ne hlp] at hl; exact hl
  refine D _ L l ⟨fun b o e hb => ?_, fun b hb => .inl hb⟩ (by rw [hr]; exact (hA.upd_req h1 h2).same (same_new hl)) hlH (by rw [upd_same, hq])
  rw [upd_ne (ne_of_none e hlH), upd_ne (fun z => hb (by rw [z]; exact .inr (.inr (.inr (.inr (.inr (.inr (.inr (List.mem_of_getElem? h1)))))))))]
  exact e
section
variable {P : Program} {w : World} {K : PySem.W.Frag} {mg : Str → Option Value} {base : Heap} {A : Adr}
theorem waiting_lo {s : Vbemax.State} {n : Nat} (h : s.requests.length < n) : Vbemax.waiting s n = none := by
  unfold Vbemax.waiting
  rw [if_neg (by omega), List.getElem?_eq_none (by omega)]
  rfl
theorem waiting_at {s : Vbemax.State} {n : Nat} {r : Vbemax.Request} (hn : 1 ≤ n) (h : s.requests[n - 1]? = some r) : Vbemax.waiting s n = if r.stage = 0 then some r else none := by
  unfold Vbemax.waiting
  rw [if_neg (by omega), h]
  by_cases c : r.stage = 0
  · rw [if_pos c, Option.filter_some_pos (by simpa using c)]
  · rw [if_neg c, Option.filter_some_neg (by simpa using c)]
theorem req_there {A : Adr} {H : Hp} {a : Addr} {s : Vbemax.State} {L : Lay} {n : Nat} (h : HA A H a s L) (h1 : 1 ≤ n) (h2 : ¬ s.requests.length < n) : ∃ p dx r, L.rs[n - 1]? = some p ∧ s.requests[n - 1]? = some r ∧ H p = some (.ins A.qaa dx (rf r)) ∧ atI (L.rs.map V.ref) (((n : Nat) : Int) - 1) = some (V.ref p) := by
  have hl := Paired.length h.rqs
  obtain ⟨p, hp⟩ : ∃ p, L.rs[n - 1]? = some p := ⟨_, List.getElem?_eq_getElem (by omega)⟩
  obtain ⟨r, hr, dx, z⟩ := paired_get h.rqs hp
  refine ⟨p, dx, r, hp, hr, z, ?_⟩
  rw [show ((n : Nat) : Int) - 1 = ((n - 1 : Nat) : Int) by omega]
  apply atI_nat
  rw [List.getElem?_map, hp]
  rfl
def sp_qbn (A : Adr) : Sp := fun vs H Q _ => ∃ (a : Addr) (s : Vbemax.State) (L : Lay) (n : Nat), vs = [.ref a, .int n] ∧ 1 ≤ n ∧ HA A H a s L ∧ Q (.bl (Vbemax.waiting s n).isNone) H
theorem ok_qbn (T : Txt K mg A) : FnOk P w K mg base CX0 1 A.qbn.1 A.qbn.2 ["house", "number"] (sp_qbn A) := by
  refine T.qbn.F.ok sc_qbn (fun vs H Q E h => ?_) (fun cdv An outer s0 H vs Q E hr h => ?_)
  · obtain ⟨a, s, L, n, rfl, _⟩ := h
    rfl
  · obtain ⟨a, s, L, n, rfl, hn1, hA, q⟩ := h
    have nd := sc_qbn.nd
    have hu := hu_of hr
    refine ⟨_, (pss_one (ps_ret (pe_or (pe_cmpR op_gt (pv 1) (pe_callB call_len_seq (by rfl) T.b_len PySem.boot_len (pa_cons (pe_fl T (pv 0)) pa_nil)) (nomark _)) (pe_one (pe_cmpR op_ne (pe_fl T (pe_ix ix_list (pe_fl T (pv 0)) (pe_op op_sub (pv 1) pe_int) (fun _ _ => rfl))) (pe_co T.qcj) (nomark _)))))), ?_⟩
    have hrl := Paired.length hA.rqs
    refine ⟨_, rfl, _, rfl, a, _, _, _, _, rfl, hA.ho, T.qad.cl, T.qad.nf 9 _ rfl, rfl, L.r, _, rfl, .inl (SqL.of hA.rq), _, _, rfl, rfl, _, rfl, ?_⟩
    rw [dlt, List.length_map, hrl]
    refine ite2 (fun c => ?_) (fun c => ?_)
    · rw [waiting_lo (of_decide_eq_true c)] at q
      exact q
    · obtain ⟨p, dx, r, hp, hr1, hz, hat⟩ := req_there hA hn1 (fun z => c (decide_eq_true z))
      refine ⟨_, rfl, a, _, _, _, _, rfl, hA.ho, T.qad.cl, T.qad.nf 9 _ rfl, rfl, _, rfl, _, _, rfl, rfl, L.r, _, _, _, rfl, rfl, SqL.of hA.rq, hat, p, _, _, _, _, rfl, hz, T.qaa.cl, T.qaa.nf 5 _ rfl, rfl, rfl, ?_⟩
      rw [waiting_at hn1 hr1] at q
      rw [show (V.int 0) = V.int ((0 : Nat) : Int) from rfl, deq]
      by_cases c2 : r.stage = 0
      · rw [if_pos c2] at q
        rw [decide_eq_true c2]
        exact q
      · rw [if_neg c2] at q
        rw [decide_eq_false c2]
        exact q
def sp_qbo (A : Adr) : Sp := fun vs H Q _ => ∃ (a : Addr) (s : Vbemax.State) (L : Lay) (n x : Nat), vs = [.ref a, .int n, .int x] ∧ 1 ≤ n ∧ 1 ≤ x ∧ HA A H a s L ∧ Okay s ∧ Done A a L H Q (Vbemax.step s (.object n x))
theorem ok_qbo (T : Txt K mg A) : FnOk P w K mg base CX0 3 A.qbo.1 A.qbo.2 ["house", "number", "supplier"] (sp_qbo A) := by
  refine T.qbo.F.ok sc_qbo (fun vs H Q E h => ?_) (fun cdv An outer s0 H vs Q E hr h => ?_)
  · obtain ⟨a, s, L, n, x, rfl, _⟩ := h
    rfl
  · obtain ⟨a, s, L, n, x, rfl, hn1, hx1, hA, hO, D⟩ := h
    have nd := sc_qbo.nd
    have hu := hu_of hr
    refine ⟨_, (pss_cons (ps_if (pt_val (pe_call (ok_qbn T) (hr.mono (by decide)) rfl T.qbn.g T.qbn.F.kp T.qbn.b .nil pass0 (pa_cons (pv 0) (pa_cons (pv 1) pa_nil)))) (pss_one (ps_ret (pe_lst (pa_cons (pe_un un_neg pe_int) pa_nil)))) pss_nil)
      (pss_cons (ps_if (pt_val (pe_call (ok_qam T) (hr.mono (by decide)) rfl T.qam.g T.qam.F.kp T.qam.b .nil pass0 (pa_cons (pv 0) (pa_cons (pv 2) pa_nil)))) (pss_one (ps_ret (pe_lst (pa_cons (pe_un un_neg pe_int) pa_nil)))) pss_nil)
      (pss_cons (ps_set (i := 3) nd rfl (Or.inl rfl) (pe_ix ix_list (pe_fl T (pv 0)) (pe_op op_sub (pv 1) pe_int) (fun _ _ => rfl)))
      (pss_cons (ps_if (pt_cmpR op_ne (pe_fl T (pv 3)) (pv 2) (nomark _)) (pss_one (ps_ret (pe_lst (pa_cons (pe_un un_neg pe_int) pa_nil)))) pss_nil)
      (pss_cons (ps_fld (pv 3) (pe_co T.qcl) rfl)
      (pss_one (ps_ret (pe_lst (pa_cons pe_int pa_nil))))))))), ?_⟩
    have dd : Vbemax.does s (.object n x) = match Vbemax.waiting s n with
      | none => .error (-7)
      | some r => if Vbemax.lives s x = false then .error (-6) else if r.old ≠ x then .error (-11) else .ok (Vbemax.setStage s n 2, []) := rfl
    refine ⟨_, rfl, _, rfl, a, s, L, n, rfl, hn1, hA, _, rfl, ?_⟩
    cases hw : Vbemax.waiting s n with
    | none =>
      rw [hw] at dd
      refine iteT ?_
      refine ⟨_, rfl, sz1, fun l hl => ?_⟩
      exact D.lit hA (step_err hO.op dd) (Same.refl _) hl rfl
    | some r =>
      rw [hw] at dd
      obtain ⟨w1, w2, w3⟩ := waiting_some hw
      refine iteF ?_
      refine ⟨_, rfl, _, rfl, a, s, L, x, rfl, hx1, hA, _, rfl, ?_⟩
      have dd2 : Vbemax.does s (.object n x) = if Vbemax.lives s x = false then .error (-6) else if r.old ≠ x then .error (-11) else .ok (Vbemax.setStage s n 2, []) := dd
      refine ite2 (fun c => ?_) (fun c2 => ?_)
      · refine ⟨_, rfl, sz1, fun l hl => ?_⟩
        refine D.lit hA (step_err hO.op ?_) (Same.refl _) hl rfl
        rw [dd2, if_pos (lives_f c)]
      rw [if_neg (lives_t c2)] at dd2
      obtain ⟨p, dx, r', hp, hr1, hz, hat⟩ := req_there hA hn1 (fun z => by rw [List.getElem?_eq_none (by omega)] at w2; cases w2)
      rw [w2] at hr1
      cases hr1
      refine ⟨_, rfl, a, _, _, _, _, rfl, hA.ho, T.qad.cl, T.qad.nf 9 _ rfl, rfl, _, rfl, _, _, rfl, rfl, L.r, _, _, _, rfl, rfl, SqL.of hA.rq, hat, ?_⟩
      refine ⟨_, rfl, p, _, _, _, _, rfl, hz, T.qaa.cl, T.qaa.nf 3 _ rfl, rfl, _, rfl, rfl, _, rfl, ?_⟩
      rw [deq]
      refine ite2 (fun c => ?_) (fun c3 => ?_)
      · refine ⟨_, rfl, sz1, fun l hl => ?_⟩
        refine D.lit hA (step_err hO.op ?_) (Same.refl _) hl rfl
        rw [dd2, if_pos (fun z => by rw [decide_eq_true z] at c; cases c)]
      have hold : r.old = x := Classical.byContradiction fun z => c3 (by rw [decide_eq_false z]; rfl)
      rw [if_neg (fun z => z hold)] at dd2
      rw [step_ok hO.op dd2] at D
      refine ⟨_, rfl, p, _, dx, _, rfl, hz, T.qaa.cl, T.qaa.nf 5 _ rfl, (by show 6 < 1000; decide), ?_⟩
      refine ⟨sz1, fun l hl => ?_⟩
      exact stage_done (st := 2) D hA hp w2 hz hl rfl rfl
def sp_qbp (A : Adr) : Sp := fun vs H Q _ => ∃ (a : Addr) (s : Vbemax.State) (L : Lay) (n : Nat), vs = [.ref a, .int n] ∧ 1 ≤ n ∧ HA A H a s L ∧ Okay s ∧ Done A a L H Q (Vbemax.step s (.withdraw n))
theorem ok_qbp (T : Txt K mg A) : FnOk P w K mg base CX0 2 A.qbp.1 A.qbp.2 ["house", "number"] (sp_qbp A) := by
  refine T.qbp.F.ok sc_qbp (fun vs H Q E h => ?_) (fun cdv An outer s0 H vs Q E hr h => ?_)
  · obtain ⟨a, s, L, n, rfl, _⟩ := h
    rfl
  · obtain ⟨a, s, L, n, rfl, hn1, hA, hO, D⟩ := h
    have nd := sc_qbp.nd
    have hu := hu_of hr
    refine ⟨_, (pss_cons (ps_if (pt_val (pe_call (ok_qbn T) (hr.mono (by decide)) rfl T.qbn.g T.qbn.F.kp T.qbn.b .nil pass0 (pa_cons (pv 0) (pa_cons (pv 1) pa_nil)))) (pss_one (ps_ret (pe_lst (pa_cons (pe_un un_neg pe_int) pa_nil)))) pss_nil)
      (pss_cons (ps_fld (pe_ix ix_list (pe_fl T (pv 0)) (pe_op op_sub (pv 1) pe_int) (fun _ _ => rfl)) (pe_co T.qcm) rfl)
      (pss_one (ps_ret (pe_lst (pa_cons pe_int pa_nil)))))), ?_⟩
    have dd : Vbemax.does s (.withdraw n) = match Vbemax.waiting s n with
      | none => .error (-7)
      | some r => .ok (Vbemax.setStage s n 3, []) := rfl
    refine ⟨_, rfl, _, rfl, a, s, L, n, rfl, hn1, hA, _, rfl, ?_⟩
    cases hw : Vbemax.waiting s n with
    | none =>
      rw [hw] at dd
      refine iteT ?_
      refine ⟨_, rfl, sz1, fun l hl => ?_⟩
      exact D.lit hA (step_err hO.op dd) (Same.refl _) hl rfl
    | some r =>
      rw [hw] at dd
      obtain ⟨w1, w2, w3⟩ := waiting_some hw
      refine iteF ?_
      have dd2 : Vbemax.does s (.withdraw n) = .ok (Vbemax.setStage s n 3, []) := dd
      obtain ⟨p, dx, r', hp, hr1, hz, hat⟩ := req_there hA hn1 (fun z => by rw [List.getElem?_eq_none (by omega)] at w2; cases w2)
      rw [w2] at hr1
      cases hr1
      rw [step_ok hO.op dd2] at D
      refine ⟨_, rfl, a, _, _, _, _, rfl, hA.ho, T.qad.cl, T.qad.nf 9 _ rfl, rfl, _, rfl, _, _, rfl, rfl, L.r, _, _, _, rfl, rfl, SqL.of hA.rq, hat, p, _, dx, _, rfl, hz, T.qaa.cl, T.qaa.nf 5 _ rfl, (by show 6 < 1000; decide), ?_⟩
      refine ⟨sz1, fun l hl => ?_⟩
      exact stage_done (st := 3) D hA hp w2 hz hl rfl rfl
def sp_qbt (A : Adr) : Sp := fun vs H Q _ => ∃ (a : Addr) (s : Vbemax.State) (L : Lay) (n : Nat), vs = [.ref a, .int n] ∧ 1 ≤ n ∧ HA A H a s L ∧ Okay s ∧ Done A a L H Q (Vbemax.step s (.requestIs n))
theorem ok_qbt (T : Txt K mg A) : FnOk P w K mg base CX0 1 A.qbt.1 A.qbt.2 ["house", "number"] (sp_qbt A) := by
  refine T.qbt.F.ok sc_qbt (fun vs H Q E h => ?_) (fun cdv An outer s0 H vs Q E hr h => ?_)
  · obtain ⟨a, s, L, n, rfl, _⟩ := h
    rfl
  · obtain ⟨a, s, L, n, rfl, hn1, hA, hO, D⟩ := h
    have nd := sc_qbt.nd
    have hu := hu_of hr
    refine ⟨_, (pss_cons (ps_if (pt_cmpR op_gt (pv 1) (pe_callB call_len_seq (by rfl) T.b_len PySem.boot_len (pa_cons (pe_fl T (pv 0)) pa_nil)) (nomark _)) (pss_one (ps_ret (pe_lst (pa_cons (pe_un un_neg pe_int) pa_nil)))) pss_nil)
      (pss_cons (ps_set (i := 2) nd rfl (Or.inl rfl) (pe_ix ix_list (pe_fl T (pv 0)) (pe_op op_sub (pv 1) pe_int) (fun _ _ => rfl)))
      (pss_one (ps_ret (pe_lst (pa_cons pe_int (pa_cons (pe_fl T (pv 2)) (pa_cons (pe_fl T (pv 2)) (pa_cons (pe_fl T (pv 2)) (pa_cons (pe_fl T (pv 2)) (pa_cons (pe_fl T (pv 2)) (pa_cons (pe_fl T (pv 2)) pa_nil)))))))))))), ?_⟩
    have dd : Vbemax.does s (.requestIs n) = match (if n = 0 then none else s.requests[n - 1]?) with
      | none => .error (-7)
      | some r => .ok (s, [Vbemax.nat r.point, Vbemax.nat r.supplier, Vbemax.nat r.start, Vbemax.nat r.old, Vbemax.nat r.deadline, Vbemax.nat r.stage]) := rfl
    have hrl := Paired.length hA.rqs
    rw [if_neg (by omega)] at dd
    refine ⟨_, rfl, _, rfl, a, _, _, _, _, rfl, hA.ho, T.qad.cl, T.qad.nf 9 _ rfl, rfl, L.r, _, rfl, .inl (SqL.of hA.rq), _, _, rfl, rfl, _, rfl, ?_⟩
    rw [dlt, List.length_map, hrl]
    refine ite2 (fun c => ?_) (fun c => ?_)
    · have c' := of_decide_eq_true c
      rw [List.getElem?_eq_none (by omega)] at dd
      refine ⟨_, rfl, sz1, fun l hl => ?_⟩
      exact D.lit hA (step_err hO.op dd) (Same.refl _) hl rfl
    · obtain ⟨p, dx, r, hp, hr1, hz, hat⟩ := req_there hA hn1 (fun z => c (decide_eq_true z))
      rw [hr1] at dd
      refine ⟨_, rfl, a, _, _, _, _, rfl, hA.ho, T.qad.cl, T.qad.nf 9 _ rfl, rfl, _, rfl, _, _, rfl, rfl, L.r, _, _, _, rfl, rfl, SqL.of hA.rq, hat, ?_⟩
      refine ⟨_, rfl, p, _, _, _, _, rfl, hz, T.qaa.cl, T.qaa.nf 0 _ rfl, rfl, _, rfl, p, _, _, _, _, rfl, hz, T.qaa.cl, T.qaa.nf 1 _ rfl, rfl, _, rfl, p, _, _, _, _, rfl, hz, T.qaa.cl, T.qaa.nf 2 _ rfl, rfl, _, rfl, p, _, _, _, _, rfl, hz, T.qaa.cl, T.qaa.nf 3 _ rfl, rfl, _, rfl, p, _, _, _, _, rfl, hz, T.qaa.cl, T.qaa.nf 4 _ rfl, rfl, _, rfl, p, _, _, _, _, rfl, hz, T.qaa.cl, T.qaa.nf 5 _ rfl, rfl, sz7, fun l hl => ?_⟩
      exact D.lit hA (step_ok hO.op dd) (Same.refl _) hl rfl
def DueAt (H : Hp) (t : Addr) (x : Nat × Vbemax.Request) : Prop := H t = some (.tup [.int ((x.2.deadline : Nat) : Int), .int ((x.1 + 1 : Nat) : Int)])
def sp_qbq (A : Adr) : Sp := fun vs H Q _ => ∃ (a : Addr) (s : Vbemax.State) (L : Lay) (d : Nat), vs = [.ref a, .int d] ∧ HA A H a s L ∧
  ∀ H' l ts, H l = none → Same H H' → H' l = some (.lst (ts.map V.ref)) → Paired (DueAt H') ts (Vbemax.ripe s d) → Q (.ref l) H'
def isRp (d : Nat) (x : Nat × Vbemax.Request) : Bool := decide (x.2.stage = 0) && decide (x.2.deadline < d)
def p3 (t : Addr) (x : Nat × Vbemax.Request) : P3 := (t, ((x.2.deadline : Nat) : Int), ((x.1 + 1 : Nat) : Int))
theorem zip_range_get {l : List Vbemax.Request} {i : Nat} {r : Vbemax.Request} (h : l[i]? = some r) : ((List.range l.length).zip l)[i]? = some (i, r) := by
  rw [List.getElem?_zip_eq_some]
  exact ⟨List.getElem?_range (List.getElem?_eq_some_iff.mp h).1, h⟩
theorem sorted_due {s : Vbemax.State} {d : Nat} {ps ps' : List P3} {ts : List Addr} {xs : List (Nat × Vbemax.Request)} (hx : xs = ripeRow s d) (hps : ps.map (·.2) = xs.map fun x => (p3 0 x).2) (hp : ps'.Perm ps) (hs : ps'.Pairwise le3) : ps'.map (·.2) = (Vbemax.ripe s d).map fun x => (p3 0 x).2 := by
  have hperm : (ps'.map fun p => (p.2.1.toNat, p.2.2.toNat - 1)).Perm ((ripeRow s d).map keyOf) := by
    have e : (ps.map fun p => (p.2.1.toNat, p.2.2.toNat - 1)) = (ripeRow s d).map keyOf := by
      have : (ps.map fun p => (p.2.1.toNat, p.2.2.toNat - 1)) = (ps.map (·.2)).map fun q => (q.1.toNat, q.2.toNat - 1) := by rw [List.map_map]; rfl
      rw [this, hps, List.map_map, hx]
      apply List.map_congr_left
      intro x _
      show ((((x.2.deadline : Nat) : Int)).toNat, (((x.1 + 1 : Nat) : Int)).toNat - 1) = (x.2.deadline, x.1)
      rw [Int.toNat_natCast, Int.toNat_natCast]
      rfl
    rw [← e]
    exact hp.map _
  have hmem : ∀ p ∈ ps', ∃ x ∈ ripeRow s d, p.2 = (p3 0 x).2 := fun p hp' => by
    have h1 : p.2 ∈ ps.map (·.2) := List.mem_map_of_mem (f := (·.2)) (hp.mem_iff.mp hp')
    rw [hps, hx, List.mem_map] at h1
    obtain ⟨x, hx, e⟩ := h1
    exact ⟨x, hx, e.symm⟩
  have hnd : (ps'.map fun p => (p.2.1.toNat, p.2.2.toNat - 1)).Nodup := by
    refine hperm.nodup_iff.mpr ?_
    have hr := ripeRow_rising s d
    rw [List.Nodup, List.pairwise_map]
    refine hr.imp fun {x y} h e => ?_
    have : x.1 = y.1 := congrArg Prod.snd e
    omega
  have hlex : (ps'.map fun p => (p.2.1.toNat, p.2.2.toNat - 1)).Pairwise lexP := by
    rw [List.pairwise_map]
    rw [List.Nodup, List.pairwise_map] at hnd
    refine (hs.and hnd).imp_of_mem fun {x y} hx hy h => ?_
    obtain ⟨x', _, ex⟩ := hmem x hx
    obtain ⟨y', _, ey⟩ := hmem y hy
    obtain ⟨h1, h2⟩ := h
    unfold le3 at h1
    rw [ex, ey] at h1 h2 ⊢
    have h1' : (((x'.2.deadline : Nat) : Int) < ((y'.2.deadline : Nat) : Int)) ∨ (((x'.2.deadline : Nat) : Int) = ((y'.2.deadline : Nat) : Int) ∧ ((x'.1 + 1 : Nat) : Int) ≤ ((y'.1 + 1 : Nat) : Int)) := h1
    have h2' : ¬ ((((x'.2.deadline : Nat) : Int)).toNat, (((x'.1 + 1 : Nat) : Int)).toNat - 1) = ((((y'.2.deadline : Nat) : Int)).toNat, (((y'.1 + 1 : Nat) : Int)).toNat - 1) := h2
    rw [Int.toNat_natCast, Int.toNat_natCast, Int.toNat_natCast, Int.toNat_natCast] at h2'
    show (((x'.2.deadline : Nat) : Int)).toNat < (((y'.2.deadline : Nat) : Int)).toNat ∨ ((((x'.2.deadline : Nat) : Int)).toNat = (((y'.2.deadline : Nat) : Int)).toNat ∧ (((x'.1 + 1 : Nat) : Int)).toNat - 1 < (((y'.1 + 1 : Nat) : Int)).toNat - 1)
    rw [Int.toNat_natCast, Int.toNat_natCast, Int.toNat_natCast, Int.toNat_natCast]
    rcases h1' with h1' | ⟨h1', h3⟩
    · exact .inl (by omega)
    · by_cases c : x'.1 = y'.1
      · exfalso
        apply h2'
        have : x'.2.deadline = y'.2.deadline := by omega
        rw [this, c]
      · exact .inr ⟨by omega, by omega⟩
  have key := sorted_is_ripe hperm hlex
  have back : ps'.map (·.2) = (ps'.map fun p => (p.2.1.toNat, p.2.2.toNat - 1)).map fun k => (((k.1 : Nat) : Int), ((k.2 + 1 : Nat) : Int)) := by
    rw [List.map_map]
    apply List.map_congr_left
    intro p hp'
    obtain ⟨x, _, ex⟩ := hmem p hp'
    show p.2 = (((p.2.1.toNat : Nat) : Int), ((p.2.2.toNat - 1 + 1 : Nat) : Int))
    rw [ex]
    show (((x.2.deadline : Nat) : Int), ((x.1 + 1 : Nat) : Int)) = (((((x.2.deadline : Nat) : Int).toNat : Nat) : Int), (((((x.1 + 1 : Nat) : Int)).toNat - 1 + 1 : Nat) : Int))
    rw [Int.toNat_natCast, Int.toNat_natCast]
    rfl
  rw [back, key, List.map_map]
  rfl
theorem paired_p3 {H : Hp} : ∀ {ps : List P3} {xs : List (Nat × Vbemax.Request)}, ps.map (·.2) = xs.map (fun x => (p3 0 x).2) → (∀ p ∈ ps, H p.1 = some (.tup [.int p.2.1, .int p.2.2])) → Paired (DueAt H) (ps.map (·.1)) xs
  | [], [], _, _ => .nil
  | [], _ :: _, h, _ => by simp at h
  | _ :: _, [], h, _ => by simp at h
  | p :: ps, x :: xs, h, k => by
    rw [List.map_cons, List.map_cons] at h
    injection h with h1 h2
    refine .cons ?_ (paired_p3 h2 fun q hq => k q (List.mem_cons_of_mem _ hq))
    have := k p (List.mem_cons_self ..)
    rw [h1] at this
    exact this
theorem ok_qbq (T : Txt K mg A) : FnOk P w K mg base CX0 1 A.qbq.1 A.qbq.2 ["house", "day"] (sp_qbq A) := by
  refine T.qbq.F.ok sc_qbq (fun vs H Q E h => ?_) (fun cdv An outer s0 H vs Q E hr h => ?_)
  · obtain ⟨a, s, L, d, rfl, _⟩ := h
    rfl
  · obtain ⟨a, s, L, d, rfl, hA, q⟩ := h
    have nd := sc_qbq.nd
    have hu := hu_of hr
    refine ⟨_, (pss_cons (ps_set (i := 2) nd rfl (Or.inl rfl) (pe_lst pa_nil))
      (pss_cons (ps_for PassesOwn.never rfl (pi_enum rfl T.b_enumerate (pa_cons (pe_fl T (pv 0)) pa_nil)) (pg_tup rfl (pgs_cons (pg_name (i := 3) nd rfl (Or.inl rfl)) (pgs_cons (pg_name (i := 4) nd rfl (Or.inl rfl)) pgs_nil))) (pss_one (ps_if ((pw_and (pt_cmpR op_eq (pe_fl T (pv 4)) (pe_co T.qcj) (nomark _)) (pw_and1 (pt_cmpR op_lt (pe_fl T (pv 4)) (pv 1) (nomark _))))).pt (pss_one (ps_expr (pe_bm PySem.F.plainAttrs_list PySem.F.slot_list_append PySem.F.type_list_append mt_append (pv 2) (pa_cons (pe_tup (pa_cons (pe_fl T (pv 4)) (pa_cons (pe_op op_add (pv 3) pe_int) pa_nil))) pa_nil)))) pss_nil)))
      (pss_one (ps_ret (pe_callB cr_sortedT (by rfl) T.b_sorted PyProof.Rows.boot_sorted (pa_cons (pv 2) pa_nil)))))), ?_⟩
    refine ⟨Nat.zero_le _, fun lo hlo => ?_⟩
    have so : Same H (upd H lo (.lst [])) := same_new hlo
    have hrl := Paired.length hA.rqs
    have hrn := hA.sm.rq
    refine ⟨_, rfl, a, _, _, _, _, rfl, so _ _ hA.ho, T.qad.cl, T.qad.nf 9 _ rfl, rfl, L.r, _, rfl, SqL.of (so _ _ hA.rq), ?_⟩
    refine for_it (n := L.rs.length) (fun i σ H' => ∃ (v3 v4 : Option V) (ps : List P3), σ = [some (.ref a), some (.int d), some (.ref lo), v3, v4] ∧ Same H H' ∧ H' lo = some (.lst (ps.map fun p => V.ref p.1)) ∧ (∀ p ∈ ps, H' p.1 = some (.tup [.int p.2.1, .int p.2.2])) ∧
      ps.map (·.2) = ((((List.range s.requests.length).zip s.requests).take i).filter (isRp d)).map fun x => (p3 0 x).2) ?_ ?_ ?_ ?_ ?_
    · exact ⟨none, none, [], rfl, so, upd_same, fun p hp => (nomatch hp), rfl⟩
    · rintro i σ H' hi ⟨v3, v4, ps, _, sK, _⟩
      exact ⟨L.rs.map V.ref, V.ref L.rs[i], SqL.of (sK _ _ hA.rq), by rw [List.getElem?_map, List.getElem?_eq_getElem hi]; rfl⟩
    · rintro σ H' ⟨v3, v4, ps, _, sK, _⟩
      exact ⟨L.rs.map V.ref, SqL.of (sK _ _ hA.rq), by rw [List.length_map]; exact Nat.le_refl _⟩
    · rintro i σ H0 y H' hi ⟨v3, v4, ps, rfl, sK, hl', htp, hps⟩ ⟨tp, z, rfl, htpn, rfl, hz⟩
      have hz2 := hz _ (SqL.of (sK _ _ hA.rq))
      obtain ⟨t, ht, rfl⟩ := map_ref_get hz2
      obtain ⟨r, hr1, dx, hr2⟩ := paired_get hA.rqs ht
      have hsm : Same H0 (upd H0 tp (.tup [.int ((i : Nat) : Int), .ref t])) := same_new htpn
      have hr3 := hsm _ _ (sK _ _ hr2)
      have tk : (((List.range s.requests.length).zip s.requests).take (i + 1)).filter (isRp d) = (((List.range s.requests.length).zip s.requests).take i).filter (isRp d) ++ (if isRp d (i, r) = true then [(i, r)] else []) := by
        rw [take_more (zip_range_get hr1), List.filter_append, List.filter_cons]
        rfl
      have no : ¬ isRp d (i, r) = true → ∃ (v3 v4 : Option V) (ps : List P3), ([some (.ref a), some (.int d), some (.ref lo), some (.int ((i : Nat) : Int)), some (.ref t)] : L2.St) = [some (.ref a), some (.int d), some (.ref lo), v3, v4] ∧ Same H (upd H0 tp (.tup [.int ((i : Nat) : Int), .ref t])) ∧ (upd H0 tp (.tup [.int ((i : Nat) : Int), .ref t])) lo = some (.lst (ps.map fun p => V.ref p.1)) ∧ (∀ p ∈ ps, (upd H0 tp (.tup [.int ((i : Nat) : Int), .ref t])) p.1 = some (.tup [.int p.2.1, .int p.2.2])) ∧
          ps.map (·.2) = ((((List.range s.requests.length).zip s.requests).take (i + 1)).filter (isRp d)).map fun x => (p3 0 x).2 := fun c =>
        ⟨_, _, ps, rfl, Same.trans sK hsm, hsm _ _ hl', fun p hp => hsm _ _ (htp p hp), by rw [tk, if_neg c, List.append_nil]; exact hps⟩
      refine ⟨tp, _, rfl, SqT.of upd_same, rfl, _, _, rfl, _, _, rfl, rfl, ?_⟩
      refine ⟨_, rfl, t, _, _, _, _, rfl, hr3, T.qaa.cl, T.qaa.nf 5 _ rfl, rfl, rfl, _, rfl, ?_⟩
      rw [show (V.int 0) = V.int ((0 : Nat) : Int) from rfl, deq]
      refine ite2 (fun c1 => ?_) (fun c1 => iteF (no fun z => c1 (by unfold isRp at z; rw [Bool.and_eq_true] at z; exact z.1)))
      refine ⟨_, rfl, t, _, _, _, _, rfl, hr3, T.qaa.cl, T.qaa.nf 4 _ rfl, rfl, _, rfl, _, _, rfl, rfl, _, rfl, ?_⟩
      rw [dlt]
      refine ite2 (fun c2 => ?_) (fun c2 => no fun z => c2 (by unfold isRp at z; rw [Bool.and_eq_true] at z; exact z.2))
      have cR : isRp d (i, r) = true := by
        unfold isRp
        rw [c1, c2]
        rfl
      have hpl : (ps.map fun p => V.ref p.1).length < sizeLine := by
        have e1 := congrArg List.length hps
        rw [List.length_map, List.length_map] at e1
        have e2 := List.length_filter_le (isRp d) (((List.range s.requests.length).zip s.requests).take i)
        rw [List.length_take] at e2
        rw [List.length_map]
        exact small1000 (by omega)
      refine ⟨_, rfl, .inl ⟨rfl, _, SqL.of (hsm _ _ hl')⟩, _, rfl, t, _, _, _, _, rfl, hr3, T.qaa.cl, T.qaa.nf 4 _ rfl, rfl, _, rfl, _, _, rfl, rfl, sz2, fun tn htn => ⟨lo, _, _, rfl, rfl, same_new htn _ _ (hsm _ _ hl'), hpl, ?_⟩⟩
      have ntl : lo ≠ tn := ne_of_none (hsm _ _ hl') htn
      refine ⟨_, _, ps ++ [p3 tn (i, r)], rfl, fun b o e => ?_, ?_, fun p hp => ?_, ?_⟩
      · rw [upd_ne (ne_of_none e hlo)]
        exact same_new htn _ _ (hsm _ _ (sK _ _ e))
      · rw [upd_same, List.map_append]
        rfl
      · rcases List.mem_append.mp hp with hp | hp
        · rw [upd_ne (ne_of (htp p hp) hl' (by intro q; cases q))]
          exact same_new htn _ _ (hsm _ _ (htp p hp))
        · rw [List.mem_singleton] at hp
          subst hp
          show upd (upd _ tn _) lo _ tn = _
          rw [upd_ne (Ne.symm ntl), upd_same]
          rfl
      · rw [tk, if_pos cR, List.map_append, List.map_append, hps]
        rfl
    · rintro σ H' ⟨v3, v4, ps, rfl, sK, hl', htp, hps⟩
      have ex : (((List.range s.requests.length).zip s.requests).take L.rs.length).filter (isRp d) = ripeRow s d := by
        rw [List.take_of_length_le (by rw [List.length_zip, List.length_range, hrl]; omega)]
        rfl
      rw [ex] at hps
      refine ⟨_, rfl, lo, ps, rfl, SqL.of hl', fun p hp => SqT.of (htp p hp), fun ps' l hperm hsrt hl => ?_⟩
      have fin := sorted_due (ts := []) rfl hps hperm hsrt
      have s2 := same_new (o := .lst (ps'.map fun p => V.ref p.1)) hl
      refine q _ l (ps'.map (·.1)) (sK.free hl) (sK.trans s2) ?_ (paired_p3 fin fun p hp => s2 _ _ (htp p (hperm.mem_iff.mp hp)))
      rw [upd_same, List.map_map]
      rfl
def sp_qbr (A : Adr) : Sp := fun vs H Q _ => ∃ (a : Addr) (s : Vbemax.State) (L : Lay) (i : Nat) (p : Addr) (r : Vbemax.Request), vs = [.ref a, .ref p] ∧ L.rs[i]? = some p ∧ s.requests[i]? = some r ∧ HA A H a s L ∧ Fine s ∧ s.facts.length ≤ 500 ∧
  ∀ H' L', Frm a L H L' H' → (∀ b, Foot a L b → Foot a L' b) → L'.rs = L.rs → HA A H' a (ripen1 s (i, r)) L' → Q .non H'
theorem ok_qbr (T : Txt K mg A) : FnOk P w K mg base CX0 4 A.qbr.1 A.qbr.2 ["house", "request"] (sp_qbr A) := by
  refine T.qbr.F.ok sc_qbr (fun vs H Q E h => ?_) (fun cdv An outer s0 H vs Q E hr h => ?_)
  · obtain ⟨a, s, L, i, p, r, rfl, _⟩ := h
    rfl
  · obtain ⟨a, s, L, i, p, r, rfl, h1, h2, hA, hF, hn, q⟩ := h
    have nd := sc_qbr.nd
    have hu := hu_of hr
    refine ⟨_, (pss_cons (ps_set (i := 2) nd rfl (Or.inl rfl) (pe_op op_add (pe_fl T (pv 1)) pe_int))
      (pss_cons (ps_set (i := 3) nd rfl (Or.inl rfl) (pe_call (ok_qau T) (hr.mono (by decide)) rfl T.qau.g T.qau.F.kp T.qau.b .nil pass0 (pa_cons (pv 0) (pa_cons (pe_fl T (pv 1)) (pa_cons (pe_fl T (pv 1)) (pa_cons (pv 2) pa_nil))))))
      (pss_cons (ps_expr (pe_bm PySem.F.plainAttrs_list PySem.F.slot_list_append PySem.F.type_list_append mt_append (pe_fl T (pv 0)) (pa_cons (pe_make T.qab.M (ok_qab T) (hr.mono (by decide)) rfl T.qab.g T.qab.b .nil pass0 (pa_cons (pe_fl T (pv 1)) (pa_cons (pe_fl T (pv 1)) (pa_cons (pv 3) (pa_cons (pe_fl T (pv 1)) (pa_cons (pv 2) pa_nil)))))) pa_nil)))
      (pss_one (ps_fld (pv 1) (pe_co T.qck) rfl))))), ?_⟩
    obtain ⟨r', e1, dx, hz⟩ := paired_get hA.rqs h1
    rw [h2] at e1
    cases e1
    refine ⟨_, rfl, p, _, _, _, _, rfl, hz, T.qaa.cl, T.qaa.nf 4 _ rfl, rfl, _, _, rfl, rfl, ?_⟩
    have ed : ((r.deadline : Nat) : Int) + 1 = ((r.deadline + 1 : Nat) : Int) := by omega
    refine ⟨_, rfl, _, rfl, p, _, _, _, _, rfl, hz, T.qaa.cl, T.qaa.nf 0 _ rfl, rfl, _, rfl, p, _, _, _, _, rfl, hz, T.qaa.cl, T.qaa.nf 2 _ rfl, rfl, _, rfl, a, s, L, r.point, r.start, r.deadline + 1, rfl, hA, hF, fun H1 s1 => ?_⟩
    have hA1 := hA.same s1
    have hz1 := s1 _ _ hz
    refine ⟨_, rfl, a, _, _, _, _, rfl, hA1.ho, T.qad.cl, T.qad.nf 10 _ rfl, rfl, .inl ⟨rfl, _, SqL.of hA1.fc⟩, _, rfl, p, _, _, _, _, rfl, hz1, T.qaa.cl, T.qaa.nf 0 _ rfl, rfl, _, rfl, p, _, _, _, _, rfl, hz1, T.qaa.cl, T.qaa.nf 2 _ rfl, rfl, _, rfl, _, rfl, p, _, _, _, _, rfl, hz1, T.qaa.cl, T.qaa.nf 1 _ rfl, rfl, _, rfl, fun z dz hx hdx hne =>
      ⟨z, dz, Vbemax.confirmed s r, rfl, upd_same, fun H4 h4 k4 => ⟨rfl, ?_⟩⟩⟩
    have s4 : Same H1 H4 := Same.made hx hdx k4
    have hA4 := hA1.same s4
    have hfl := Paired.length hA.fcs
    refine ⟨L.fa, _, _, rfl, rfl, hA4.fc, ?_, ?_⟩
    · rw [List.length_map]
      exact small1000 (by omega)
    have hzfa : z ≠ L.fa := ne_of h4 hA4.fc (by intro q; cases q)
    have hA5 : HA A (upd H4 L.fa (.lst (L.fs.map V.ref ++ [V.ref z]))) a { s with facts := s.facts ++ [Vbemax.confirmed s r] } { L with fs := L.fs ++ [z] } := hA4.addFact hn (fun b o e hb => by rw [upd_ne hb]; exact e) ⟨dz, by rw [upd_ne hzfa]; exact h4⟩ upd_same
    have hpfa : p ≠ L.fa := ne_of hz hA.fc (by intro q; cases q)
    have hz5 : (upd H4 L.fa (.lst (L.fs.map V.ref ++ [V.ref z]))) p = some (.ins A.qaa dx (rf r)) := by rw [upd_ne hpfa]; exact s4 _ _ hz1
    refine ⟨_, rfl, p, _, dx, _, rfl, hz5, T.qaa.cl, T.qaa.nf 5 _ rfl, (by show 6 < 1000; decide), ?_⟩
    refine q _ { L with fs := L.fs ++ [z] } ⟨fun b o e hb => ?_, fun b hb => .inl (foot_same rfl rfl rfl rfl rfl rfl rfl hb)⟩ (fun b hb => foot_same rfl rfl rfl rfl rfl rfl rfl hb) rfl (hA5.upd_req (st := 1) h1 h2)
    rw [upd_ne (fun z => hb (by rw [z]; exact .inr (.inr (.inr (.inr (.inr (.inr (.inr (List.mem_of_getElem? h1)))))))))]
    rw [upd_ne (fun z => hb (by rw [z]; exact foot_fa))]
    exact s4 _ _ (s1 _ _ e)
end
theorem okay_of {s : Vbemax.State} (ho : s.opened = true) (g : Good s) (x : Ex s) : Okay s := ⟨ho, g, ⟨(g.op ho).1, g.fact, (g.op ho).2.1, x.fs⟩, x.rs⟩
theorem foot_some {A : Adr} {H : Hp} {a : Addr} {s : Vbemax.State} {L : Lay} (h : HA A H a s L) {b : Addr} (f : Foot a L b) : ∃ o, H b = some o ∧ ∀ xs, o ≠ .tup xs := by
  rcases f with f | f | f | f | f | f | f | f
  · subst f; exact ⟨_, h.ho, fun _ z => nomatch z⟩
  · subst f; exact ⟨_, h.fl, fun _ z => nomatch z⟩
  · subst f; exact ⟨_, h.hl, fun _ z => nomatch z⟩
  · subst f; exact ⟨_, h.rq, fun _ z => nomatch z⟩
  · subst f; exact ⟨_, h.fc, fun _ z => nomatch z⟩
  · subst f; exact ⟨_, h.vl, fun _ z => nomatch z⟩
  · subst f; exact ⟨_, h.bl, fun _ z => nomatch z⟩
  · obtain ⟨j, hj⟩ := List.mem_iff_getElem?.mp f
    obtain ⟨q, _, dx, z⟩ := paired_get h.rqs hj
    exact ⟨_, z, fun _ z => nomatch z⟩
theorem foot_none {A : Adr} {H : Hp} {a : Addr} {s : Vbemax.State} {L : Lay} (h : HA A H a s L) {b : Addr} (e : H b = none) : ¬ Foot a L b := fun f => by
  obtain ⟨o, z, _⟩ := foot_some h f
  rw [e] at z
  cases z
theorem foot_tup {A : Adr} {H : Hp} {a : Addr} {s : Vbemax.State} {L : Lay} (h : HA A H a s L) {b : Addr} {xs : List V} (e : H b = some (.tup xs)) : ¬ Foot a L b := fun f => by
  obtain ⟨o, z, n⟩ := foot_some h f
  rw [e] at z
  exact n xs (Option.some.inj z).symm
theorem Frm.free {A : Adr} {H H' : Hp} {a : Addr} {s : Vbemax.State} {L L' : Lay} (f : Frm a L H L' H') (g : ∀ b, Foot a L b → Foot a L' b) (h : HA A H' a s L') {b : Addr} (e : H' b = none) : H b = none := by
  cases z : H b with
  | none => rfl
  | some o =>
    by_cases c : Foot a L b
    · exact absurd (g b c) (foot_none h e)
    · rw [f.keep b o z c] at e
      cases e
theorem Done.frm {A : Adr} {H H' : Hp} {a : Addr} {s : Vbemax.State} {L L' : Lay} {Q : VK} {r : Vbemax.State × List Int} (D : Done A a L H Q r) (f : Frm a L H L' H') (g : ∀ b, Foot a L b → Foot a L' b) (h : HA A H' a s L') : Done A a L' H' Q r :=
  fun H2 L2 l f2 h2 hn hl => D H2 L2 l (f.trans f2) h2 (f.free g h hn) hl
section
variable {P : Program} {w : World} {K : PySem.W.Frag} {mg : Str → Option Value} {base : Heap} {A : Adr}
def sp_qbs (A : Adr) : Sp := fun vs H Q _ => ∃ (a : Addr) (s : Vbemax.State) (L : Lay) (d : Nat), vs = [.ref a, .int d] ∧ d ≤ Vbemax.LAST ∧ Ex s ∧ HA A H a s L ∧ Okay s ∧ Done A a L H Q (Vbemax.step s (.day d))
theorem ok_qbs (T : Txt K mg A) : FnOk P w K mg base CX0 5 A.qbs.1 A.qbs.2 ["house", "day"] (sp_qbs A) := by
  refine T.qbs.F.ok sc_qbs (fun vs H Q E h => ?_) (fun cdv An outer s0 H vs Q E hr h => ?_)
  · obtain ⟨a, s, L, d, rfl, _⟩ := h
    rfl
  · obtain ⟨a, s, L, d, rfl, hd, hE, hA, hO, D⟩ := h
    have nd := sc_qbs.nd
    have hu := hu_of hr
    refine ⟨_, (pss_cons (ps_if (pt_cmpR op_le (pv 1) (pe_fl T (pv 0)) (nomark _)) (pss_one (ps_ret (pe_lst (pa_cons (pe_un un_neg pe_int) pa_nil)))) pss_nil)
      (pss_cons (ps_set (i := 2) nd rfl (Or.inl rfl) (pe_call (ok_qbq T) (hr.mono (by decide)) rfl T.qbq.g T.qbq.F.kp T.qbq.b .nil pass0 (pa_cons (pv 0) (pa_cons (pv 1) pa_nil))))
      (pss_cons (ps_for PassesOwn.never rfl (pi_list (pv 2)) (pg_name (i := 3) nd rfl (Or.inl rfl)) (pss_one (ps_expr (pe_call (ok_qbr T) (hr.mono (by decide)) rfl T.qbr.g T.qbr.F.kp T.qbr.b .nil pass0 (pa_cons (pv 0) (pa_cons (pe_ix ix_list (pe_fl T (pv 0)) (pe_op op_sub (pe_ix ix_tup (pv 3) pe_int (fun _ _ => rfl)) pe_int) (fun _ _ => rfl)) pa_nil))))))
      (pss_cons (ps_fld (pv 0) (pv 1) rfl)
      (pss_one (ps_ret (pe_lst (pa_cons pe_int (pa_cons (pe_callB call_len_seq (by rfl) T.b_len PySem.boot_len (pa_cons (pv 2) pa_nil)) pa_nil))))))))), ?_⟩
    have dd : Vbemax.does s (.day d) = if d ≤ s.today then .error (-8) else .ok ({ Vbemax.ripened s d with today := d }, [Vbemax.nat (Vbemax.ripe s d).length]) := rfl
    refine ⟨_, rfl, _, rfl, a, _, _, _, _, rfl, hA.ho, T.qad.cl, T.qad.nf 5 _ rfl, rfl, _, _, rfl, rfl, _, rfl, ?_⟩
    rw [dle]
    refine ite2 (fun c => ?_) (fun c1 => ?_)
    · refine ⟨_, rfl, sz1, fun l hl => ?_⟩
      refine D.lit hA (step_err hO.op ?_) (Same.refl _) hl rfl
      rw [dd, if_pos (of_decide_eq_true c)]
    rw [if_neg (fun z => c1 (decide_eq_true z))] at dd
    rw [step_ok hO.op dd] at D
    refine ⟨_, rfl, _, rfl, a, s, L, d, rfl, hA, fun H1 l ts hn s1 h1 h2 => ?_⟩
    have hA1 := hA.same s1
    have hlen := Paired.length h2
    have nfl : ¬ Foot a L l := foot_none hA hn
    refine ⟨_, rfl, l, rfl, ⟨_, SqL.of h1⟩, ?_⟩
    refine for_list (K := K) (a := l) (xs := ts.map V.ref) (fun i σ H' => ∃ (v3 : Option V) (L' : Lay), σ = [some (.ref a), some (.int d), some (.ref l), v3] ∧ Frm a L H1 L' H' ∧ (∀ b, Foot a L b → Foot a L' b) ∧ L'.rs = L.rs ∧ HA A H' a (((Vbemax.ripe s d).take i).foldl ripen1 s) L') ?_ ?_ ?_ ?_
    · exact ⟨_, L, rfl, Frm.same (Same.refl _), fun _ z => z, rfl, hA1⟩
    · rintro i σ H' _ ⟨v3, L', _, f, _⟩
      exact SqL.of (f.keep _ _ h1 nfl)
    · rintro i y σ H' hy ⟨v3, L', rfl, f, ff, er, hA'⟩
      obtain ⟨t, ht, rfl⟩ := map_ref_get hy
      obtain ⟨x, hx1, hx2⟩ := paired_get h2 ht
      have hil : i < (Vbemax.ripe s d).length := (List.getElem?_eq_some_iff.mp hx1).1
      obtain ⟨g', o'⟩ := ripen_good hO.op hd i (Nat.le_of_lt hil) hO.g
      have ex := ripen_ex ((Vbemax.ripe s d).take i) s hE fun x hx => hE.ripe x (List.mem_of_mem_take hx)
      have ok := okay_of o' g' ex.1
      have hx2' : H' t = some (.tup [.int ((x.2.deadline : Nat) : Int), .int ((x.1 + 1 : Nat) : Int)]) := f.keep _ _ hx2 (foot_tup hA1 hx2)
      have hat := ripen_at hx1
      have hxl : x.1 < (((Vbemax.ripe s d).take i).foldl ripen1 s).requests.length := (List.getElem?_eq_some_iff.mp hat).1
      obtain ⟨p, dx, r, hp, hr1, hz, hai⟩ := req_there (n := x.1 + 1) hA' (by omega) (by omega)
      rw [show x.1 + 1 - 1 = x.1 by omega] at hp hr1
      rw [hat] at hr1
      cases hr1
      refine ⟨_, rfl, _, rfl, a, _, _, _, _, rfl, hA'.ho, T.qad.cl, T.qad.nf 9 _ rfl, rfl, _, rfl, t, _, _, _, rfl, rfl, SqT.of hx2', rfl, _, _, rfl, rfl, L'.r, _, _, _, rfl, rfl, SqL.of hA'.rq, hai, ?_⟩
      refine ⟨a, _, L', x.1, p, x.2, rfl, hp, hat, hA', ok.fi, good_facts_le g', fun H2 L2 f2 ff2 er2 hA2 => ?_⟩
      refine ⟨_, L2, rfl, f.trans f2, fun b z => ff2 b (ff b z), er2.trans er, ?_⟩
      rw [ripen_next hx1]
      exact hA2
    rintro σ H2 ⟨v3, L2, rfl, f, ff, er, hA2⟩
    rw [List.length_map, hlen, List.take_length] at hA2
    have hA2' : HA A H2 a (Vbemax.ripened s d) L2 := hA2
    have fr : Frm a L H L2 H2 := (Frm.same s1).trans f
    have D2 := D.frm fr ff hA2'
    have hl2 : H2 l = some (.lst (ts.map V.ref)) := f.keep _ _ h1 nfl
    refine ⟨_, rfl, _, rfl, a, _, L2.dx, _, rfl, hA2'.ho, T.qad.cl, T.qad.nf 5 _ rfl, (by show 13 < 1000; decide), ?_⟩
    have nla : l ≠ a := fun z => nfl (.inl z)
    refine ⟨_, rfl, l, _, rfl, .inl (SqL.of (by rw [upd_ne nla]; exact hl2)), sz2, fun l2 hl => ?_⟩
    refine house_done (s' := { Vbemax.ripened s d with today := d }) D2 hA2' rfl rfl rfl rfl rfl rfl ⟨hA2'.sm.rq, hA2'.sm.fc, hA2'.sm.vl, hA2'.sm.bl, hA2'.sm.hl, hA2'.sm.pt, hA2'.sm.sp, hA2'.sm.fl⟩ hl rfl ?_
    rw [List.length_map, hlen]
    rfl
theorem mk_step {H : Hp} {p l : Addr} {o o' op : HO} (hp : H p = some op) (hl : H l = none) : (upd (upd H l o) p o') p = some o' ∧ (upd (upd H l o) p o') l = some o ∧ (∀ b u, H b = some u → b ≠ p → (upd (upd H l o) p o') b = some u) ∧ (upd H l o) p = some op ∧ (∀ b, (upd (upd H l o) p o') b = none → H b = none) := by
  have n : l ≠ p := Ne.symm (ne_of_none hp hl)
  refine ⟨upd_same, by rw [upd_ne n, upd_same], fun b u e hb => by rw [upd_ne hb, upd_ne (ne_of_none e hl)]; exact e, by rw [upd_ne (Ne.symm n)]; exact hp, fun b e => ?_⟩
  cases z : H b with
  | none => rfl
  | some u =>
    by_cases c : b = p
    · subst c; rw [upd_same] at e; cases e
    · rw [upd_ne c, upd_ne (ne_of_none z hl), z] at e; cases e
def sp_qad (A : Adr) : Sp := fun vs H Q _ => ∃ (p dx : Addr), vs = [.ref p] ∧ H p = some (.ins A.qad dx []) ∧
  ∀ H' L, HA A H' p Vbemax.start L → (∀ b o, H b = some o → b ≠ p → H' b = some o) → (∀ b, Foot p L b → b = p ∨ H b = none) → Q .non H'
theorem ok_qad (T : Txt K mg A) : FnOk P w K mg base CX0 1 A.qad_i.1 A.qad_i.2 ["self"] (sp_qad A) := by
  refine T.qad.F.ok sc_qad (fun vs H Q E h => ?_) (fun cdv An outer s0 H vs Q E hr h => ?_)
  · obtain ⟨p, dx, rfl, _⟩ := h
    rfl
  · obtain ⟨p, dx, rfl, hp, q⟩ := h
    refine ⟨_, (pss_cons (ps_fld (pv 0) pe_bl rfl) (pss_cons (ps_fld (pv 0) pe_int rfl) (pss_cons (ps_fld (pv 0) pe_int rfl) (pss_cons (ps_fld (pv 0) pe_int rfl) (pss_cons (ps_fld (pv 0) pe_int rfl) (pss_cons (ps_fld (pv 0) pe_int rfl) (pss_cons (ps_fld (pv 0) pe_dnewK rfl) (pss_cons (ps_fld (pv 0) pe_dnewK rfl) (pss_cons (ps_fld (pv 0) pe_int rfl) (pss_cons (ps_fld (pv 0) (pe_lst pa_nil) rfl) (pss_cons (ps_fld (pv 0) (pe_lst pa_nil) rfl) (pss_cons (ps_fld (pv 0) (pe_lst pa_nil) rfl) (pss_one (ps_fld (pv 0) pe_dnewT rfl)))))))))))))), ?_⟩
    refine ⟨_, rfl, p, _, dx, _, rfl, hp, T.qad.cl, T.qad.nf 0 _ rfl, (by show 0 < 1000; decide), ?_⟩
    refine ⟨_, rfl, p, _, dx, _, rfl, upd_same, T.qad.cl, T.qad.nf 1 _ rfl, (by show 1 < 1000; decide), ?_⟩
    refine ⟨_, rfl, p, _, dx, _, rfl, upd_same, T.qad.cl, T.qad.nf 2 _ rfl, (by show 2 < 1000; decide), ?_⟩
    refine ⟨_, rfl, p, _, dx, _, rfl, upd_same, T.qad.cl, T.qad.nf 3 _ rfl, (by show 3 < 1000; decide), ?_⟩
    refine ⟨_, rfl, p, _, dx, _, rfl, upd_same, T.qad.cl, T.qad.nf 4 _ rfl, (by show 4 < 1000; decide), ?_⟩
    refine ⟨_, rfl, p, _, dx, _, rfl, upd_same, T.qad.cl, T.qad.nf 5 _ rfl, (by show 5 < 1000; decide), ?_⟩
    rw [upd_upd, upd_upd, upd_upd, upd_upd, upd_upd]
    generalize e : upd H p _ = H0
    have e0 : H0 p = some (.ins A.qad dx [("opened", .bl false), ("basic", .int 0), ("suppliers", .int 0), ("objection_time", .int 0), ("notice", .int 0), ("today", .int 0)]) := by rw [← e]; exact upd_same
    have k0 : ∀ b o, H b = some o → b ≠ p → H0 b = some o := fun b o z hb => by rw [← e, upd_ne hb]; exact z
    have n0 : ∀ b, H0 b = none → H b = none := fun b z => by
      by_cases c : b = p
      · subst c; rw [e0] at z; cases z
      · rw [← e, upd_ne c] at z; exact z
    clear e
    intro f qf
    have m := fun o' => mk_step (o := .dK []) (o' := o') e0 qf
    refine ⟨_, rfl, p, _, dx, _, rfl, (m (.dK [])).2.2.2.1, T.qad.cl, T.qad.nf 6 _ rfl, (by show 6 < 1000; decide), ?_⟩
    generalize e : upd (upd H0 f _) p _ = H1
    have e1 : H1 p = some (.ins A.qad dx [("opened", .bl false), ("basic", .int 0), ("suppliers", .int 0), ("objection_time", .int 0), ("notice", .int 0), ("today", .int 0), ("failed", .ref f)]) := by rw [← e]; exact upd_same
    have k1 : ∀ b o, H0 b = some o → b ≠ p → H1 b = some o := fun b o z hb => by rw [← e]; exact (m _).2.2.1 b o z hb
    have n1 : ∀ b, H1 b = none → H b = none := fun b z => n0 b ((m _).2.2.2.2 b (by rw [e]; exact z))
    have cf : H1 f = some (.dK []) := by rw [← e]; exact (m _).2.1
    have df : f ≠ p := Ne.symm (ne_of_none e0 qf)
    have zf : H f = none := n0 f qf
    clear e m
    intro h qh
    have m := fun o' => mk_step (o := .dK []) (o' := o') e1 qh
    refine ⟨_, rfl, p, _, dx, _, rfl, (m (.dK [])).2.2.2.1, T.qad.cl, T.qad.nf 7 _ rfl, (by show 7 < 1000; decide), ?_⟩
    generalize e : upd (upd H1 h _) p _ = H2
    have e2 : H2 p = some (.ins A.qad dx [("opened", .bl false), ("basic", .int 0), ("suppliers", .int 0), ("objection_time", .int 0), ("notice", .int 0), ("today", .int 0), ("failed", .ref f), ("holidays", .ref h)]) := by rw [← e]; exact upd_same
    have k2 : ∀ b o, H1 b = some o → b ≠ p → H2 b = some o := fun b o z hb => by rw [← e]; exact (m _).2.2.1 b o z hb
    have n2 : ∀ b, H2 b = none → H b = none := fun b z => n1 b ((m _).2.2.2.2 b (by rw [e]; exact z))
    have ch : H2 h = some (.dK []) := by rw [← e]; exact (m _).2.1
    have dh : h ≠ p := Ne.symm (ne_of_none e1 qh)
    have zh : H h = none := n1 h qh
    clear e m
    refine ⟨_, rfl, p, _, dx, _, rfl, e2, T.qad.cl, T.qad.nf 8 _ rfl, (by show 8 < 1000; decide), ?_⟩
    generalize e : upd H2 p _ = H3
    have e3 : H3 p = some (.ins A.qad dx [("opened", .bl false), ("basic", .int 0), ("suppliers", .int 0), ("objection_time", .int 0), ("notice", .int 0), ("today", .int 0), ("failed", .ref f), ("holidays", .ref h), ("points", .int 0)]) := by rw [← e]; exact upd_same
    have k3 : ∀ b o, H2 b = some o → b ≠ p → H3 b = some o := fun b o z hb => by rw [← e, upd_ne hb]; exact z
    have n3 : ∀ b, H3 b = none → H b = none := fun b z => by
      by_cases c : b = p
      · subst c; rw [e3] at z; cases z
      · rw [← e, upd_ne c] at z; exact n2 b z
    clear e
    refine ⟨Nat.zero_le _, ?_⟩
    intro r qr
    have m := fun o' => mk_step (o := .lst []) (o' := o') e3 qr
    refine ⟨_, rfl, p, _, dx, _, rfl, (m (.dK [])).2.2.2.1, T.qad.cl, T.qad.nf 9 _ rfl, (by show 9 < 1000; decide), ?_⟩
    generalize e : upd (upd H3 r _) p _ = H4
    have e4 : H4 p = some (.ins A.qad dx [("opened", .bl false), ("basic", .int 0), ("suppliers", .int 0), ("objection_time", .int 0), ("notice", .int 0), ("today", .int 0), ("failed", .ref f), ("holidays", .ref h), ("points", .int 0), ("requests", .ref r)]) := by rw [← e]; exact upd_same
    have k4 : ∀ b o, H3 b = some o → b ≠ p → H4 b = some o := fun b o z hb => by rw [← e]; exact (m _).2.2.1 b o z hb
    have n4 : ∀ b, H4 b = none → H b = none := fun b z => n3 b ((m _).2.2.2.2 b (by rw [e]; exact z))
    have cr : H4 r = some (.lst []) := by rw [← e]; exact (m _).2.1
    have dr : r ≠ p := Ne.symm (ne_of_none e3 qr)
    have zr : H r = none := n3 r qr
    clear e m
    refine ⟨Nat.zero_le _, ?_⟩
    intro fa qfa
    have m := fun o' => mk_step (o := .lst []) (o' := o') e4 qfa
    refine ⟨_, rfl, p, _, dx, _, rfl, (m (.dK [])).2.2.2.1, T.qad.cl, T.qad.nf 10 _ rfl, (by show 10 < 1000; decide), ?_⟩
    generalize e : upd (upd H4 fa _) p _ = H5
    have e5 : H5 p = some (.ins A.qad dx [("opened", .bl false), ("basic", .int 0), ("suppliers", .int 0), ("objection_time", .int 0), ("notice", .int 0), ("today", .int 0), ("failed", .ref f), ("holidays", .ref h), ("points", .int 0), ("requests", .ref r), ("facts", .ref fa)]) := by rw [← e]; exact upd_same
    have k5 : ∀ b o, H4 b = some o → b ≠ p → H5 b = some o := fun b o z hb => by rw [← e]; exact (m _).2.2.1 b o z hb
    have n5 : ∀ b, H5 b = none → H b = none := fun b z => n4 b ((m _).2.2.2.2 b (by rw [e]; exact z))
    have cfa : H5 fa = some (.lst []) := by rw [← e]; exact (m _).2.1
    have dfa : fa ≠ p := Ne.symm (ne_of_none e4 qfa)
    have zfa : H fa = none := n4 fa qfa
    clear e m
    refine ⟨Nat.zero_le _, ?_⟩
    intro v qv
    have m := fun o' => mk_step (o := .lst []) (o' := o') e5 qv
    refine ⟨_, rfl, p, _, dx, _, rfl, (m (.dK [])).2.2.2.1, T.qad.cl, T.qad.nf 11 _ rfl, (by show 11 < 1000; decide), ?_⟩
    generalize e : upd (upd H5 v _) p _ = H6
    have e6 : H6 p = some (.ins A.qad dx [("opened", .bl false), ("basic", .int 0), ("suppliers", .int 0), ("objection_time", .int 0), ("notice", .int 0), ("today", .int 0), ("failed", .ref f), ("holidays", .ref h), ("points", .int 0), ("requests", .ref r), ("facts", .ref fa), ("volumes", .ref v)]) := by rw [← e]; exact upd_same
    have k6 : ∀ b o, H5 b = some o → b ≠ p → H6 b = some o := fun b o z hb => by rw [← e]; exact (m _).2.2.1 b o z hb
    have n6 : ∀ b, H6 b = none → H b = none := fun b z => n5 b ((m _).2.2.2.2 b (by rw [e]; exact z))
    have cv : H6 v = some (.lst []) := by rw [← e]; exact (m _).2.1
    have dv : v ≠ p := Ne.symm (ne_of_none e5 qv)
    have zv : H v = none := n5 v qv
    clear e m
    intro b qb
    have m := fun o' => mk_step (o := .dT []) (o' := o') e6 qb
    refine ⟨_, rfl, p, _, dx, _, rfl, (m (.dK [])).2.2.2.1, T.qad.cl, T.qad.nf 12 _ rfl, (by show 12 < 1000; decide), ?_⟩
    generalize e : upd (upd H6 b _) p _ = H7
    have e7 : H7 p = some (.ins A.qad dx [("opened", .bl false), ("basic", .int 0), ("suppliers", .int 0), ("objection_time", .int 0), ("notice", .int 0), ("today", .int 0), ("failed", .ref f), ("holidays", .ref h), ("points", .int 0), ("requests", .ref r), ("facts", .ref fa), ("volumes", .ref v), ("bills", .ref b)]) := by rw [← e]; exact upd_same
    have k7 : ∀ b o, H6 b = some o → b ≠ p → H7 b = some o := fun b o z hb => by rw [← e]; exact (m _).2.2.1 b o z hb
    have n7 : ∀ b, H7 b = none → H b = none := fun b z => n6 b ((m _).2.2.2.2 b (by rw [e]; exact z))
    have cb : H7 b = some (.dT []) := by rw [← e]; exact (m _).2.1
    have db : b ≠ p := Ne.symm (ne_of_none e6 qb)
    have zb : H b = none := n6 b qb
    clear e m
    have gf := (k7 _ _ (k6 _ _ (k5 _ _ (k4 _ _ (k3 _ _ (k2 _ _ cf df) df) df) df) df) df)
    have gh := (k7 _ _ (k6 _ _ (k5 _ _ (k4 _ _ (k3 _ _ ch dh) dh) dh) dh) dh)
    have gr := (k7 _ _ (k6 _ _ (k5 _ _ cr dr) dr) dr)
    have gfa := (k7 _ _ (k6 _ _ cfa dfa) dfa)
    have gv := (k7 _ _ cv dv)
    have gb := cb
    refine q H7 ⟨dx, f, h, r, fa, v, b, [], [], [], []⟩ ⟨e7, gf, gh, ⟨List.nodup_nil, fun d => rfl, fun k z => (nomatch z), rfl⟩, gr, .nil, gfa, .nil, gv, .nil, gb, ?_, ?_, ?_, ?_, List.nodup_nil, ?_⟩ (fun b o z hb => (k7 _ _ (k6 _ _ (k5 _ _ (k4 _ _ (k3 _ _ (k2 _ _ (k1 _ _ (k0 _ _ z hb) hb) hb) hb) hb) hb) hb) hb)) (fun y hy => ?_)
    · exact ne_of_none cf qh
    · exact ne_of_none cr qfa
    · exact ne_of_none (k5 _ _ cr dr) qv
    · exact ne_of_none cfa qv
    · exact ⟨by decide, by decide, by decide, by decide, by decide, by decide, by decide, by decide⟩
    · rcases hy with hy | hy | hy | hy | hy | hy | hy | hy
      · exact .inl hy
      · subst hy; exact .inr zf
      · subst hy; exact .inr zh
      · subst hy; exact .inr zr
      · subst hy; exact .inr zfa
      · subst hy; exact .inr zv
      · subst hy; exact .inr zb
      · exact (nomatch hy)
end
def argK : List (List Str) := [["supplier", "supplier", "business days", "business days"], ["day"], [], ["day"], ["point", "supplier", "day"], ["request", "supplier"], ["request"], ["point", "day"], ["point", "day", "day", "supplier"], ["supplier"], ["point", "day", "amount"], ["supplier", "day", "day"], ["point", "day", "day"], ["point", "day"], ["supplier", "day", "day", "day"], ["day", "day", "day"], ["day", "business days behind"], ["day", "day"], ["request"], ["point", "day", "day"], ["supplier", "day", "day"], ["point"], []]
def leastL : List (Str × Int) := [("supplier", 1), ("business days", 1), ("business days behind", 0), ("day", 0), ("point", 1), ("request", 1), ("amount", 0)]
def greatL : List (Str × Int) := [("supplier", 8), ("business days", 30), ("business days behind", 100), ("day", 20000), ("point", 16), ("request", 64), ("amount", 1000000000)]
def loHi (k : Str) : Int × Int := ((leastL.lookup k).getD 0, (greatL.lookup k).getD 0)
def rngs : List (List (Int × Int)) := [[(1, 8), (1, 8), (1, 30), (1, 30)], [(0, 20000)], [], [(0, 20000)], [(1, 16), (1, 8), (0, 20000)], [(1, 64), (1, 8)], [(1, 64)], [(1, 16), (0, 20000)], [(1, 16), (0, 20000), (0, 20000), (1, 8)], [(1, 8)], [(1, 16), (0, 20000), (0, 1000000000)], [(1, 8), (0, 20000), (0, 20000)], [(1, 16), (0, 20000), (0, 20000)], [(1, 16), (0, 20000)], [(1, 8), (0, 20000), (0, 20000), (0, 20000)], [(0, 20000), (0, 20000), (0, 20000)], [(0, 20000), (0, 100)], [(0, 20000), (0, 20000)], [(1, 64)], [(1, 16), (0, 20000), (0, 20000)], [(1, 8), (0, 20000), (0, 20000)], [(1, 16)], []]
theorem rngs_eq : argK.map (fun r => r.map loHi) = rngs := by decide +kernel
theorem argN_eq : argK.map (fun r => r.length) = argN := by decide +kernel
theorem kinds_in : ∀ r ∈ argK, ∀ k ∈ r, (leastL.lookup k).isSome = true ∧ (greatL.lookup k).isSome = true := by decide +kernel
def mKv (l : List (Str × Int)) : List (Key × V) := l.map fun p => (Sum.inr p.1, V.int p.2)
theorem mKv_val (k : Str) : ∀ l : List (Str × Int), valV (mKv l) (Sum.inr k) = (l.lookup k).map V.int
  | [] => rfl
  | (x, n) :: l => by
    have ih := mKv_val k l
    unfold valV mKv at ih ⊢
    rw [List.map_cons, List.find?_cons]
    rw [List.lookup_cons]
    by_cases e : x = k
    · subst e
      rw [decide_eq_true rfl, beq_self_eq_true]
      rfl
    · rw [decide_eq_false (fun z => e (Sum.inr.inj z)), beq_eq_false_iff_ne.mpr (Ne.symm e)]
      exact ih
def MDict (P : Program) (w : World) (K : PySem.W.Frag) (mg : Str → Option Value) (x : Str) (kvs : List (Str × Int)) : Prop :=
  ∃ a o es ep vs, mg x = some (.ref a) ∧ K.lookup a = some o ∧ o.ExactDict ∧ o.data = .dict es ep ∧ PySem.KeysOf (mixKind P w) es ∧ PySem.Pairs (mixKind P w) es.toList vs ∧ (vs.map (·.1)).Nodup ∧ KV (mKv kvs) vs
def tMGet (kvs : List (Str × Int)) (ty : TE) : TE := fun σ H Q => ty σ H fun y H1 => ∃ k v, y = .str k ∧ kvs.lookup k = some v ∧ Q (.int v) H1
theorem pe_mget {X : Cx} {P : Program} {w : World} {K : PySem.W.Frag} {mg : Str → Option Value} {x : Str} {kvs : List (Str × Int)} {i : Expr} {ty : TE} {npos pos : Pos} (D : MDict P w K mg x kvs) (hg : Gl X x) (hi : PE X i ty) (hs : NoSl i)
    (h1 : X.prog = P := by rfl) (h2 : X.w = w := by rfl) (h3 : X.K = K := by rfl) (h4 : X.mg = mg := by rfl) (hd : (x == ("__debug__" : Str)) = false := by decide) : PE X (.Subscript (.Name x npos) i pos) (tMGet kvs ty) := by
  subst h1 h2 h3 h4
  intro pins s σ H Q I h
  obtain ⟨a, o, es, ep, vs, hm, hk, ho, hdt, hks, hps, hnd, rel⟩ := D
  refine subD_of PySem.F.slot_dict_getitem.lookup hs (thn (pe_glob (v := V.ref a) hg hm rfl hd pins s σ H (fun v H' => v = V.ref a ∧ ty σ H' fun y H1 => ∃ k v, y = .str k ∧ kvs.lookup k = some v ∧ Q (.int v) H1) I ⟨rfl, h⟩) fun u s1 ⟨x, H1, I1, rx, ex, q1⟩ => thn (hi pins s1 σ H1 _ I1 q1) fun iv s2 ⟨y, H2, I2, ry, k, v, ey, hv, q2⟩ => ?_)
  subst ex
  obtain rfl : u = Value.ref a := rx
  subst ey
  have dd : s2.heap.DictOf (mixKind X.prog X.w) a vs := ⟨o, es, ep, I2.kIn a o hk, ho, hdt, hks, hps, hnd⟩
  obtain ⟨w', hw, rw'⟩ := RelO.some_of (v := V.int v) (o := valueAt vs (Sum.inr k)) (by
    have e := rel.val (Sum.inr k)
    rw [mKv_val, hv] at e
    exact e)
  exact ⟨dd.typeIs, wpAny_getItem_of (kV_is (k := Sum.inr k) ry) dd.mapOf hw ⟨.int v, H2, I2.tok _, rw', q2⟩⟩
structure Tab (P : Program) (w : World) (K : PySem.W.Frag) (mg : Str → Option Value) : Prop where
  args : ∃ (a0 : Addr) (as : List Addr), mg "ARGUMENTS" = some (.ref a0) ∧ (∀ H, SqT K H a0 (as.map V.ref)) ∧ as.length = 23 ∧ ∀ (i : Nat) (a : Addr) (row : List Str), as[i]? = some a → argK[i]? = some row → ∀ H, SqT K H a (row.map V.str)
  least : MDict P w K mg "LEAST" leastL
  greatest : MDict P w K mg "GREATEST" greatL
section
variable {P : Program} {w : World} {K : PySem.W.Frag} {mg : Str → Option Value} {base : Heap} {A : Adr}
def sp_qbh : Sp := fun vs H Q _ => ∃ (i n : Nat), vs = [.int i] ∧ argN[i]? = some n ∧ Q (.int n) H
theorem row_at {i n : Nat} (h : argN[i]? = some n) : ∃ row, argK[i]? = some row ∧ row.length = n := by
  rw [← argN_eq, List.getElem?_map, Option.map_eq_some_iff] at h
  obtain ⟨row, h1, h2⟩ := h
  exact ⟨row, h1, h2⟩
theorem ok_qbh (T : Txt K mg A) (B : Tab P w K mg) : FnOk P w K mg base CX0 1 A.qbh.1 A.qbh.2 ["call"] sp_qbh := by
  refine T.qbh.F.ok sc_qbh (fun vs H Q E h => ?_) (fun cdv An outer s0 H vs Q E hr h => ?_)
  · obtain ⟨i, n, rfl, _⟩ := h
    rfl
  · obtain ⟨i, n, rfl, hn, q⟩ := h
    obtain ⟨a0, as, hm, h0, hl, hrow⟩ := B.args
    obtain ⟨row, hr1, hr2⟩ := row_at hn
    have hi : i < 23 := (List.getElem?_eq_some_iff.mp hr1).1
    obtain ⟨a, ha⟩ : ∃ a, as[i]? = some a := ⟨_, List.getElem?_eq_getElem (by omega)⟩
    refine ⟨_, (pss_one (ps_ret (pe_callB call_len_seq rfl T.b_len PySem.boot_len (pa_cons (pe_ix ix_tup (pe_glob (v := V.ref a0) rfl hm rfl) (pv 0) (fun _ _ => rfl)) pa_nil)))), ?_⟩
    refine ⟨_, rfl, a0, _, _, _, rfl, rfl, h0 _, atI_nat (by rw [List.getElem?_map, ha]; rfl), a, _, rfl, .inr (hrow i a row ha hr1 _), ?_⟩
    rw [List.length_map, hr2]
    exact q
def okN : List (Int × Int) → List Int → Bool
  | [], _ => true
  | _, [] => true
  | p :: r, x :: xs => Vbemax.inside x p.1 p.2 && okN r xs
def sp_qbi : Sp := fun vs H Q _ => ∃ (i g : Nat) (row : List Str) (xs : List Int), vs = [.int i, .ref g] ∧ argK[i]? = some row ∧ H g = some (.lst (xs.map V.int)) ∧ xs.length = row.length ∧ ∀ H', Same H H' → Q (.bl (okN (row.map loHi) xs)) H'
theorem okN_drop : ∀ {i : Nat} {r : List (Int × Int)} {xs : List Int} {p : Int × Int} {x : Int}, r[i]? = some p → xs[i]? = some x → okN (r.drop i) (xs.drop i) = (Vbemax.inside x p.1 p.2 && okN (r.drop (i + 1)) (xs.drop (i + 1)))
  | i, r, xs, p, x, h1, h2 => by
    obtain ⟨a1, a2⟩ := List.getElem?_eq_some_iff.mp h1
    obtain ⟨b1, b2⟩ := List.getElem?_eq_some_iff.mp h2
    rw [List.drop_eq_getElem_cons a1, List.drop_eq_getElem_cons b1, a2, b2]
    rfl
theorem ok_qbi (T : Txt K mg A) (B : Tab P w K mg) : FnOk P w K mg base CX0 1 A.qbi.1 A.qbi.2 ["call", "given"] sp_qbi := by
  refine T.qbi.F.ok sc_qbi (fun vs H Q E h => ?_) (fun cdv An outer s0 H vs Q E hr h => ?_)
  · obtain ⟨i, g, row, xs, rfl, _⟩ := h
    rfl
  · obtain ⟨i, g, row, xs, rfl, hr1, hg, hxl, q⟩ := h
    have nd := sc_qbi.nd
    obtain ⟨a0, as, hm, h0, hl, hrow⟩ := B.args
    have hi : i < 23 := (List.getElem?_eq_some_iff.mp hr1).1
    obtain ⟨a, ha⟩ : ∃ a, as[i]? = some a := ⟨_, List.getElem?_eq_getElem (by omega)⟩
    have hkin := kinds_in row (List.mem_of_getElem? hr1)
    refine ⟨_, (pss_cons (ps_for PassesOwn.never rfl (pi_enumT rfl T.b_enumerate (pa_cons (pe_ix ix_tup (pe_glob (v := V.ref a0) rfl hm rfl) (pv 0) (fun _ _ => rfl)) pa_nil)) (pg_tup rfl (pgs_cons (pg_name (i := 2) nd rfl (Or.inl rfl)) (pgs_cons (pg_name (i := 3) nd rfl (Or.inl rfl)) pgs_nil))) (pss_one (ps_if ((pw_or (pt_cmpR op_lt (pe_ix ix_list (pv 1) (pv 2) (fun _ _ => rfl)) (pe_mget B.least (by rfl) (pv 3) (fun _ _ => rfl)) (nomark _)) (pw_or1 (pt_cmpR op_gt (pe_ix ix_list (pv 1) (pv 2) (fun _ _ => rfl)) (pe_mget B.greatest (by rfl) (pv 3) (fun _ _ => rfl)) (nomark _))))).pt (pss_one (ps_ret pe_bl)) pss_nil)))
      (pss_one (ps_ret pe_bl))), ?_⟩
    refine ⟨_, rfl, a0, _, _, _, rfl, rfl, h0 _, atI_nat (by rw [List.getElem?_map, ha]; rfl), a, _, rfl, hrow i a row ha hr1 _, ?_⟩
    refine for_it (n := row.length) (fun j σ H' => ∃ (v2 v3 : Option V), σ = [some (.int i), some (.ref g), v2, v3] ∧ Same H H' ∧ okN ((row.map loHi).drop j) (xs.drop j) = okN (row.map loHi) xs) ?_ ?_ ?_ ?_ ?_
    · exact ⟨none, none, rfl, Same.refl _, rfl⟩
    · rintro j σ H' hj ⟨v2, v3, _, sK, _⟩
      exact ⟨row.map V.str, V.str row[j], hrow i a row ha hr1 _, by rw [List.getElem?_map, List.getElem?_eq_getElem hj]; rfl⟩
    · rintro σ H' ⟨v2, v3, _, sK, _⟩
      exact ⟨row.map V.str, hrow i a row ha hr1 _, by rw [List.length_map]; exact Nat.le_refl _⟩
    · rintro j σ H0 y H' hj ⟨v2, v3, rfl, sK, he⟩ ⟨tp, z, rfl, htpn, rfl, hz⟩
      have hz2 := hz _ (hrow i a row ha hr1 _)
      obtain ⟨k, hk⟩ : ∃ k, row[j]? = some k := ⟨_, List.getElem?_eq_getElem hj⟩
      obtain ⟨x, hx⟩ : ∃ x, xs[j]? = some x := ⟨_, List.getElem?_eq_getElem (by omega)⟩
      rw [List.getElem?_map, hk] at hz2
      cases hz2
      have hkr : (row.map loHi)[j]? = some (loHi k) := by rw [List.getElem?_map, hk]; rfl
      rw [okN_drop hkr hx] at he
      obtain ⟨hk1, hk2⟩ := hkin k (List.mem_of_getElem? hk)
      obtain ⟨lo, hlo⟩ := Option.isSome_iff_exists.mp hk1
      obtain ⟨hi', hhi⟩ := Option.isSome_iff_exists.mp hk2
      have elh : loHi k = (lo, hi') := by unfold loHi; rw [hlo, hhi]; rfl
      rw [elh] at he
      have hsm : Same H0 (upd H0 tp (.tup [.int ((j : Nat) : Int), V.str k])) := same_new htpn
      have hg' := hsm _ _ (sK _ _ hg)
      have hat : atI (xs.map V.int) ((j : Nat) : Int) = some (V.int x) := atI_nat (by rw [List.getElem?_map, hx]; rfl)
      refine ⟨tp, _, rfl, SqT.of upd_same, rfl, _, _, rfl, _, _, rfl, rfl, ?_⟩
      have out : (Vbemax.inside x lo hi' = false) → Q (.bl false) (upd H0 tp (.tup [.int ((j : Nat) : Int), V.str k])) := fun c => by
        have := q _ (sK.trans hsm)
        rw [← he, c] at this
        exact this
      refine ⟨_, rfl, _, rfl, g, _, _, _, rfl, rfl, SqL.of hg', hat, _, rfl, k, lo, rfl, hlo, _, _, rfl, rfl, _, rfl, ?_⟩
      refine ite2 (fun c => ?_) (fun c1 => ?_)
      · refine iteT ?_
        refine out ?_
        have := of_decide_eq_true c
        unfold Vbemax.inside
        rw [decide_eq_false (by omega), Bool.false_and]
      refine ⟨_, rfl, _, rfl, g, _, _, _, rfl, rfl, SqL.of hg', hat, _, rfl, k, hi', rfl, hhi, _, _, rfl, rfl, _, rfl, ?_⟩
      refine ite2 (fun c => ?_) (fun c2 => ?_)
      · refine out ?_
        have := of_decide_eq_true c
        unfold Vbemax.inside
        rw [decide_eq_false (show ¬ x ≤ hi' by omega), Bool.and_false]
      · refine ⟨_, _, rfl, sK.trans hsm, ?_⟩
        rw [← he]
        have i1 : lo ≤ x := by
          have : ¬ x < lo := fun z => c1 (decide_eq_true z)
          omega
        have i2 : x ≤ hi' := by
          have : ¬ hi' < x := fun z => c2 (decide_eq_true z)
          omega
        unfold Vbemax.inside
        rw [decide_eq_true i1, decide_eq_true i2]
        rfl
    · rintro σ H' ⟨v2, v3, rfl, sK, he⟩
      have := q _ sK
      rw [← he, List.drop_of_length_le (by rw [List.length_map]; exact Nat.le_refl _)] at this
      exact this
end
theorem and_tt {a b : Bool} (h : (a && b) = true) : a = true ∧ b = true := by rwa [Bool.and_eq_true] at h
theorem ins_nat {x lo hi : Int} (h : Vbemax.inside x lo hi = true) (h0 : 0 ≤ lo) : ∃ n : Nat, x = ((n : Nat) : Int) ∧ lo ≤ n ∧ (n : Int) ≤ hi := by
  unfold Vbemax.inside at h
  obtain ⟨h1, h2⟩ := and_tt h
  have h1 := of_decide_eq_true h1
  have h2 := of_decide_eq_true h2
  exact ⟨x.toNat, by omega, by omega, by omega⟩
section
variable {P : Program} {w : World} {K : PySem.W.Frag} {mg : Str → Option Value} {base : Heap} {A : Adr}
def sp_qce (A : Adr) : Sp := fun vs H Q _ => ∃ (a : Addr) (s : Vbemax.State) (L : Lay) (i g : Nat) (xs : List Int) (cc : Vbemax.Call), vs = [.ref a, .int i, .ref g] ∧ i ≤ 11 ∧ H g = some (.lst (xs.map V.int)) ∧ argN[i]? = some xs.length ∧ Vbemax.decode [((i : Nat) : Int) :: xs] = some cc ∧ Good s ∧ Ex s ∧ (i ≠ 0 → s.opened = true) ∧ HA A H a s L ∧ Done A a L H Q (Vbemax.step s cc)
theorem ok_qce (T : Txt K mg A) : FnOk P w K mg base CX0 6 A.qce.1 A.qce.2 ["house", "call", "given"] (sp_qce A) := by
  refine T.qce.F.ok sc_qce (fun vs H Q E h => ?_) (fun cdv An outer s0 H vs Q E hr h => ?_)
  · obtain ⟨a, s, L, i, g, xs, cc, rfl, _⟩ := h
    rfl
  · obtain ⟨a, s, L, i, g, xs, cc, rfl, hi, hg, hn, hc, hG, hE, ho, hA, D⟩ := h
    have nd := sc_qce.nd
    have hu := hu_of hr
    refine ⟨_, (pss_cons (ps_if (pt_cmpR op_eq (pv 1) pe_int (nomark _)) (pss_one (ps_ret (pe_call (ok_qbd T) (hr.mono (by decide)) rfl T.qbd.g T.qbd.F.kp T.qbd.b .nil pass0 (pa_cons (pv 0) (pa_cons (pe_ix ix_list (pv 2) pe_int (fun _ _ => rfl)) (pa_cons (pe_ix ix_list (pv 2) pe_int (fun _ _ => rfl)) (pa_cons (pe_ix ix_list (pv 2) pe_int (fun _ _ => rfl)) (pa_cons (pe_ix ix_list (pv 2) pe_int (fun _ _ => rfl)) pa_nil)))))))) pss_nil)
      (pss_cons (ps_if (pt_cmpR op_eq (pv 1) pe_int (nomark _)) (pss_one (ps_ret (pe_call (ok_qbe T) (hr.mono (by decide)) rfl T.qbe.g T.qbe.F.kp T.qbe.b .nil pass0 (pa_cons (pv 0) (pa_cons (pe_ix ix_list (pv 2) pe_int (fun _ _ => rfl)) pa_nil))))) pss_nil)
      (pss_cons (ps_if (pt_cmpR op_eq (pv 1) pe_int (nomark _)) (pss_one (ps_ret (pe_call (ok_qbf T) (hr.mono (by decide)) rfl T.qbf.g T.qbf.F.kp T.qbf.b .nil pass0 (pa_cons (pv 0) pa_nil)))) pss_nil)
      (pss_cons (ps_if (pt_cmpR op_eq (pv 1) pe_int (nomark _)) (pss_one (ps_ret (pe_call (ok_qbs T) (hr.mono (by decide)) rfl T.qbs.g T.qbs.F.kp T.qbs.b .nil pass0 (pa_cons (pv 0) (pa_cons (pe_ix ix_list (pv 2) pe_int (fun _ _ => rfl)) pa_nil))))) pss_nil)
      (pss_cons (ps_if (pt_cmpR op_eq (pv 1) pe_int (nomark _)) (pss_one (ps_ret (pe_call (ok_qbm T) (hr.mono (by decide)) rfl T.qbm.g T.qbm.F.kp T.qbm.b .nil pass0 (pa_cons (pv 0) (pa_cons (pe_ix ix_list (pv 2) pe_int (fun _ _ => rfl)) (pa_cons (pe_ix ix_list (pv 2) pe_int (fun _ _ => rfl)) (pa_cons (pe_ix ix_list (pv 2) pe_int (fun _ _ => rfl)) pa_nil))))))) pss_nil)
      (pss_cons (ps_if (pt_cmpR op_eq (pv 1) pe_int (nomark _)) (pss_one (ps_ret (pe_call (ok_qbo T) (hr.mono (by decide)) rfl T.qbo.g T.qbo.F.kp T.qbo.b .nil pass0 (pa_cons (pv 0) (pa_cons (pe_ix ix_list (pv 2) pe_int (fun _ _ => rfl)) (pa_cons (pe_ix ix_list (pv 2) pe_int (fun _ _ => rfl)) pa_nil)))))) pss_nil)
      (pss_cons (ps_if (pt_cmpR op_eq (pv 1) pe_int (nomark _)) (pss_one (ps_ret (pe_call (ok_qbp T) (hr.mono (by decide)) rfl T.qbp.g T.qbp.F.kp T.qbp.b .nil pass0 (pa_cons (pv 0) (pa_cons (pe_ix ix_list (pv 2) pe_int (fun _ _ => rfl)) pa_nil))))) pss_nil)
      (pss_cons (ps_if (pt_cmpR op_eq (pv 1) pe_int (nomark _)) (pss_one (ps_ret (pe_call (ok_qaz T) (hr.mono (by decide)) rfl T.qaz.g T.qaz.F.kp T.qaz.b .nil pass0 (pa_cons (pv 0) (pa_cons (pe_ix ix_list (pv 2) pe_int (fun _ _ => rfl)) (pa_cons (pe_ix ix_list (pv 2) pe_int (fun _ _ => rfl)) pa_nil)))))) pss_nil)
      (pss_cons (ps_if (pt_cmpR op_eq (pv 1) pe_int (nomark _)) (pss_one (ps_ret (pe_call (ok_qba T) (hr.mono (by decide)) rfl T.qba.g T.qba.F.kp T.qba.b .nil pass0 (pa_cons (pv 0) (pa_cons (pe_ix ix_list (pv 2) pe_int (fun _ _ => rfl)) (pa_cons (pe_ix ix_list (pv 2) pe_int (fun _ _ => rfl)) (pa_cons (pe_ix ix_list (pv 2) pe_int (fun _ _ => rfl)) (pa_cons (pe_ix ix_list (pv 2) pe_int (fun _ _ => rfl)) pa_nil)))))))) pss_nil)
      (pss_cons (ps_if (pt_cmpR op_eq (pv 1) pe_int (nomark _)) (pss_one (ps_ret (pe_call (ok_qbc T) (hr.mono (by decide)) rfl T.qbc.g T.qbc.F.kp T.qbc.b .nil pass0 (pa_cons (pv 0) (pa_cons (pe_ix ix_list (pv 2) pe_int (fun _ _ => rfl)) pa_nil))))) pss_nil)
      (pss_cons (ps_if (pt_cmpR op_eq (pv 1) pe_int (nomark _)) (pss_one (ps_ret (pe_call (ok_qca T) (hr.mono (by decide)) rfl T.qca.g T.qca.F.kp T.qca.b .nil pass0 (pa_cons (pv 0) (pa_cons (pe_ix ix_list (pv 2) pe_int (fun _ _ => rfl)) (pa_cons (pe_ix ix_list (pv 2) pe_int (fun _ _ => rfl)) (pa_cons (pe_ix ix_list (pv 2) pe_int (fun _ _ => rfl)) pa_nil))))))) pss_nil)
      (pss_one (ps_ret (pe_call (ok_qcb T) (hr.mono (by decide)) rfl T.qcb.g T.qcb.F.kp T.qcb.b .nil pass0 (pa_cons (pv 0) (pa_cons (pe_ix ix_list (pv 2) pe_int (fun _ _ => rfl)) (pa_cons (pe_ix ix_list (pv 2) pe_int (fun _ _ => rfl)) (pa_cons (pe_ix ix_list (pv 2) pe_int (fun _ _ => rfl)) pa_nil)))))))))))))))))), ?_⟩
    refine ⟨_, rfl, rfl, _, rfl, ?_⟩
    rw [show (V.int 0) = V.int ((0 : Nat) : Int) from rfl, deq]
    refine ite2 (fun c => ?_) (fun c0 => ?_)
    · obtain rfl := of_decide_eq_true c
      obtain ⟨x0, x1, x2, x3, rfl⟩ := len4 (Option.some.inj hn).symm
      obtain ⟨hb, rfl⟩ := guard_some (show Vbemax.guard (Vbemax.isX x0 && (Vbemax.isX x1 && (Vbemax.inside x2 1 30 && (Vbemax.inside x3 1 30)))) (.opens x0.toNat x1.toNat x2.toNat x3.toNat) = some cc from hc)
      obtain ⟨b0, hb⟩ := and_tt hb
      obtain ⟨b1, hb⟩ := and_tt hb
      obtain ⟨b2, hb⟩ := and_tt hb
      have b3 := hb
      obtain ⟨n0, rfl, l0, u0⟩ := ins_nat b0 (by decide)
      obtain ⟨n1, rfl, l1, u1⟩ := ins_nat b1 (by decide)
      obtain ⟨n2, rfl, l2, u2⟩ := ins_nat b2 (by decide)
      obtain ⟨n3, rfl, l3, u3⟩ := ins_nat b3 (by decide)
      exact ⟨_, rfl, _, rfl, g, _, _, _, rfl, rfl, SqL.of hg, rfl, _, rfl, g, _, _, _, rfl, rfl, SqL.of hg, rfl, _, rfl, g, _, _, _, rfl, rfl, SqL.of hg, rfl, _, rfl, g, _, _, _, rfl, rfl, SqL.of hg, rfl, a, s, L, n0, n1, n2, n3, rfl, (by have z : ((n1 : Nat) : Int) ≤ 8 := u1; omega), hA, D⟩
    have e0 : i ≠ 0 := fun z => c0 (decide_eq_true z)
    refine ⟨_, rfl, rfl, _, rfl, ?_⟩
    rw [show (V.int 1) = V.int ((1 : Nat) : Int) from rfl, deq]
    refine ite2 (fun c => ?_) (fun c1 => ?_)
    · obtain rfl := of_decide_eq_true c
      obtain ⟨x0, rfl⟩ := len1 (Option.some.inj hn).symm
      obtain ⟨hb, rfl⟩ := guard_some (show Vbemax.guard (Vbemax.isD x0) (.holiday x0.toNat) = some cc from hc)
      have b0 := hb
      obtain ⟨n0, rfl, l0, u0⟩ := ins_nat b0 (by decide)
      have hO := okay_of (ho (by decide)) hG hE
      exact ⟨_, rfl, _, rfl, g, _, _, _, rfl, rfl, SqL.of hg, rfl, a, s, L, n0, rfl, hA, hO, D⟩
    have e1 : i ≠ 1 := fun z => c1 (decide_eq_true z)
    refine ⟨_, rfl, rfl, _, rfl, ?_⟩
    rw [show (V.int 2) = V.int ((2 : Nat) : Int) from rfl, deq]
    refine ite2 (fun c => ?_) (fun c2 => ?_)
    · obtain rfl := of_decide_eq_true c
      obtain rfl := len0 (Option.some.inj hn).symm
      cases (show some Vbemax.Call.point = some cc from hc)
      have hO := okay_of (ho (by decide)) hG hE
      exact ⟨_, rfl, a, s, L, rfl, hA, hO, D⟩
    have e2 : i ≠ 2 := fun z => c2 (decide_eq_true z)
    refine ⟨_, rfl, rfl, _, rfl, ?_⟩
    rw [show (V.int 3) = V.int ((3 : Nat) : Int) from rfl, deq]
    refine ite2 (fun c => ?_) (fun c3 => ?_)
    · obtain rfl := of_decide_eq_true c
      obtain ⟨x0, rfl⟩ := len1 (Option.some.inj hn).symm
      obtain ⟨hb, rfl⟩ := guard_some (show Vbemax.guard (Vbemax.isD x0) (.day x0.toNat) = some cc from hc)
      have b0 := hb
      obtain ⟨n0, rfl, l0, u0⟩ := ins_nat b0 (by decide)
      have hO := okay_of (ho (by decide)) hG hE
      exact ⟨_, rfl, _, rfl, g, _, _, _, rfl, rfl, SqL.of hg, rfl, a, s, L, n0, rfl, (by have z : ((n0 : Nat) : Int) ≤ 20000 := u0; show n0 ≤ 20000; omega), hE, hA, hO, D⟩
    have e3 : i ≠ 3 := fun z => c3 (decide_eq_true z)
    refine ⟨_, rfl, rfl, _, rfl, ?_⟩
    rw [show (V.int 4) = V.int ((4 : Nat) : Int) from rfl, deq]
    refine ite2 (fun c => ?_) (fun c4 => ?_)
    · obtain rfl := of_decide_eq_true c
      obtain ⟨x0, x1, x2, rfl⟩ := len3 (Option.some.inj hn).symm
      obtain ⟨hb, rfl⟩ := guard_some (show Vbemax.guard (Vbemax.isP x0 && (Vbemax.isX x1 && (Vbemax.isD x2))) (.request x0.toNat x1.toNat x2.toNat) = some cc from hc)
      obtain ⟨b0, hb⟩ := and_tt hb
      obtain ⟨b1, hb⟩ := and_tt hb
      have b2 := hb
      obtain ⟨n0, rfl, l0, u0⟩ := ins_nat b0 (by decide)
      obtain ⟨n1, rfl, l1, u1⟩ := ins_nat b1 (by decide)
      obtain ⟨n2, rfl, l2, u2⟩ := ins_nat b2 (by decide)
      have hO := okay_of (ho (by decide)) hG hE
      exact ⟨_, rfl, _, rfl, g, _, _, _, rfl, rfl, SqL.of hg, rfl, _, rfl, g, _, _, _, rfl, rfl, SqL.of hg, rfl, _, rfl, g, _, _, _, rfl, rfl, SqL.of hg, rfl, a, s, L, n0, n1, n2, rfl, (by omega), (by omega), hA, hO, D⟩
    have e4 : i ≠ 4 := fun z => c4 (decide_eq_true z)
    refine ⟨_, rfl, rfl, _, rfl, ?_⟩
    rw [show (V.int 5) = V.int ((5 : Nat) : Int) from rfl, deq]
    refine ite2 (fun c => ?_) (fun c5 => ?_)
    · obtain rfl := of_decide_eq_true c
      obtain ⟨x0, x1, rfl⟩ := len2 (Option.some.inj hn).symm
      obtain ⟨hb, rfl⟩ := guard_some (show Vbemax.guard (Vbemax.isN x0 && (Vbemax.isX x1)) (.object x0.toNat x1.toNat) = some cc from hc)
      obtain ⟨b0, hb⟩ := and_tt hb
      have b1 := hb
      obtain ⟨n0, rfl, l0, u0⟩ := ins_nat b0 (by decide)
      obtain ⟨n1, rfl, l1, u1⟩ := ins_nat b1 (by decide)
      have hO := okay_of (ho (by decide)) hG hE
      exact ⟨_, rfl, _, rfl, g, _, _, _, rfl, rfl, SqL.of hg, rfl, _, rfl, g, _, _, _, rfl, rfl, SqL.of hg, rfl, a, s, L, n0, n1, rfl, (by omega), (by omega), hA, hO, D⟩
    have e5 : i ≠ 5 := fun z => c5 (decide_eq_true z)
    refine ⟨_, rfl, rfl, _, rfl, ?_⟩
    rw [show (V.int 6) = V.int ((6 : Nat) : Int) from rfl, deq]
    refine ite2 (fun c => ?_) (fun c6 => ?_)
    · obtain rfl := of_decide_eq_true c
      obtain ⟨x0, rfl⟩ := len1 (Option.some.inj hn).symm
      obtain ⟨hb, rfl⟩ := guard_some (show Vbemax.guard (Vbemax.isN x0) (.withdraw x0.toNat) = some cc from hc)
      have b0 := hb
      obtain ⟨n0, rfl, l0, u0⟩ := ins_nat b0 (by decide)
      have hO := okay_of (ho (by decide)) hG hE
      exact ⟨_, rfl, _, rfl, g, _, _, _, rfl, rfl, SqL.of hg, rfl, a, s, L, n0, rfl, (by omega), hA, hO, D⟩
    have e6 : i ≠ 6 := fun z => c6 (decide_eq_true z)
    refine ⟨_, rfl, rfl, _, rfl, ?_⟩
    rw [show (V.int 7) = V.int ((7 : Nat) : Int) from rfl, deq]
    refine ite2 (fun c => ?_) (fun c7 => ?_)
    · obtain rfl := of_decide_eq_true c
      obtain ⟨x0, x1, rfl⟩ := len2 (Option.some.inj hn).symm
      obtain ⟨hb, rfl⟩ := guard_some (show Vbemax.guard (Vbemax.isP x0 && (Vbemax.isD x1)) (.vacate x0.toNat x1.toNat) = some cc from hc)
      obtain ⟨b0, hb⟩ := and_tt hb
      have b1 := hb
      obtain ⟨n0, rfl, l0, u0⟩ := ins_nat b0 (by decide)
      obtain ⟨n1, rfl, l1, u1⟩ := ins_nat b1 (by decide)
      have hO := okay_of (ho (by decide)) hG hE
      exact ⟨_, rfl, _, rfl, g, _, _, _, rfl, rfl, SqL.of hg, rfl, _, rfl, g, _, _, _, rfl, rfl, SqL.of hg, rfl, a, s, L, n0, n1, rfl, (by omega), hA, hO, D⟩
    have e7 : i ≠ 7 := fun z => c7 (decide_eq_true z)
    refine ⟨_, rfl, rfl, _, rfl, ?_⟩
    rw [show (V.int 8) = V.int ((8 : Nat) : Int) from rfl, deq]
    refine ite2 (fun c => ?_) (fun c8 => ?_)
    · obtain rfl := of_decide_eq_true c
      obtain ⟨x0, x1, x2, x3, rfl⟩ := len4 (Option.some.inj hn).symm
      obtain ⟨hb, rfl⟩ := guard_some (show Vbemax.guard (Vbemax.isP x0 && (Vbemax.isD x1 && (Vbemax.isD x2 && (Vbemax.isX x3)))) (.correct x0.toNat x1.toNat x2.toNat x3.toNat) = some cc from hc)
      obtain ⟨b0, hb⟩ := and_tt hb
      obtain ⟨b1, hb⟩ := and_tt hb
      obtain ⟨b2, hb⟩ := and_tt hb
      have b3 := hb
      obtain ⟨n0, rfl, l0, u0⟩ := ins_nat b0 (by decide)
      obtain ⟨n1, rfl, l1, u1⟩ := ins_nat b1 (by decide)
      obtain ⟨n2, rfl, l2, u2⟩ := ins_nat b2 (by decide)
      obtain ⟨n3, rfl, l3, u3⟩ := ins_nat b3 (by decide)
      have hO := okay_of (ho (by decide)) hG hE
      exact ⟨_, rfl, _, rfl, g, _, _, _, rfl, rfl, SqL.of hg, rfl, _, rfl, g, _, _, _, rfl, rfl, SqL.of hg, rfl, _, rfl, g, _, _, _, rfl, rfl, SqL.of hg, rfl, _, rfl, g, _, _, _, rfl, rfl, SqL.of hg, rfl, a, s, L, n0, n1, n2, n3, rfl, (by omega), (by omega), hA, hO, D⟩
    have e8 : i ≠ 8 := fun z => c8 (decide_eq_true z)
    refine ⟨_, rfl, rfl, _, rfl, ?_⟩
    rw [show (V.int 9) = V.int ((9 : Nat) : Int) from rfl, deq]
    refine ite2 (fun c => ?_) (fun c9 => ?_)
    · obtain rfl := of_decide_eq_true c
      obtain ⟨x0, rfl⟩ := len1 (Option.some.inj hn).symm
      obtain ⟨hb, rfl⟩ := guard_some (show Vbemax.guard (Vbemax.isX x0) (.fail x0.toNat) = some cc from hc)
      have b0 := hb
      obtain ⟨n0, rfl, l0, u0⟩ := ins_nat b0 (by decide)
      have hO := okay_of (ho (by decide)) hG hE
      exact ⟨_, rfl, _, rfl, g, _, _, _, rfl, rfl, SqL.of hg, rfl, a, s, L, n0, rfl, (by omega), hA, hO, (hE.failed_le hG (good_s8 hG)), D⟩
    have e9 : i ≠ 9 := fun z => c9 (decide_eq_true z)
    refine ⟨_, rfl, rfl, _, rfl, ?_⟩
    rw [show (V.int 10) = V.int ((10 : Nat) : Int) from rfl, deq]
    refine ite2 (fun c => ?_) (fun c10 => ?_)
    · obtain rfl := of_decide_eq_true c
      obtain ⟨x0, x1, x2, rfl⟩ := len3 (Option.some.inj hn).symm
      obtain ⟨hb, rfl⟩ := guard_some (show Vbemax.guard (Vbemax.isP x0 && (Vbemax.isD x1 && (Vbemax.inside x2 0 1000000000))) (.volume x0.toNat x1.toNat x2.toNat) = some cc from hc)
      obtain ⟨b0, hb⟩ := and_tt hb
      obtain ⟨b1, hb⟩ := and_tt hb
      have b2 := hb
      obtain ⟨n0, rfl, l0, u0⟩ := ins_nat b0 (by decide)
      obtain ⟨n1, rfl, l1, u1⟩ := ins_nat b1 (by decide)
      obtain ⟨n2, rfl, l2, u2⟩ := ins_nat b2 (by decide)
      have hO := okay_of (ho (by decide)) hG hE
      exact ⟨_, rfl, _, rfl, g, _, _, _, rfl, rfl, SqL.of hg, rfl, _, rfl, g, _, _, _, rfl, rfl, SqL.of hg, rfl, _, rfl, g, _, _, _, rfl, rfl, SqL.of hg, rfl, a, s, L, n0, n1, n2, rfl, (by omega), hA, hO, D⟩
    have e10 : i ≠ 10 := fun z => c10 (decide_eq_true z)
    obtain rfl : i = 11 := by omega
    obtain ⟨x0, x1, x2, rfl⟩ := len3 (Option.some.inj hn).symm
    obtain ⟨hb, rfl⟩ := guard_some (show Vbemax.guard (Vbemax.isX x0 && (Vbemax.isD x1 && (Vbemax.isD x2))) (.bill x0.toNat x1.toNat x2.toNat) = some cc from hc)
    obtain ⟨b0, hb⟩ := and_tt hb
    obtain ⟨b1, hb⟩ := and_tt hb
    have b2 := hb
    obtain ⟨n0, rfl, l0, u0⟩ := ins_nat b0 (by decide)
    obtain ⟨n1, rfl, l1, u1⟩ := ins_nat b1 (by decide)
    obtain ⟨n2, rfl, l2, u2⟩ := ins_nat b2 (by decide)
    have hO := okay_of (ho (by decide)) hG hE
    exact ⟨_, rfl, _, rfl, g, _, _, _, rfl, rfl, SqL.of hg, rfl, _, rfl, g, _, _, _, rfl, rfl, SqL.of hg, rfl, _, rfl, g, _, _, _, rfl, rfl, SqL.of hg, rfl, a, s, L, n0, n1, n2, rfl, (by omega), hA, hO, D⟩
def sp_qcf (A : Adr) : Sp := fun vs H Q _ => ∃ (a : Addr) (s : Vbemax.State) (L : Lay) (i g : Nat) (xs : List Int) (cc : Vbemax.Call), vs = [.ref a, .int i, .ref g] ∧ (12 ≤ i ∧ i ≤ 22) ∧ H g = some (.lst (xs.map V.int)) ∧ argN[i]? = some xs.length ∧ Vbemax.decode [((i : Nat) : Int) :: xs] = some cc ∧ Good s ∧ Ex s ∧ (i ≠ 0 → s.opened = true) ∧ HA A H a s L ∧ Done A a L H Q (Vbemax.step s cc)
theorem ok_qcf (T : Txt K mg A) : FnOk P w K mg base CX0 6 A.qcf.1 A.qcf.2 ["house", "call", "given"] (sp_qcf A) := by
  refine T.qcf.F.ok sc_qcf (fun vs H Q E h => ?_) (fun cdv An outer s0 H vs Q E hr h => ?_)
  · obtain ⟨a, s, L, i, g, xs, cc, rfl, _⟩ := h
    rfl
  · obtain ⟨a, s, L, i, g, xs, cc, rfl, hi, hg, hn, hc, hG, hE, ho, hA, D⟩ := h
    have nd := sc_qcf.nd
    have hu := hu_of hr
    refine ⟨_, (pss_cons (ps_if (pt_cmpR op_eq (pv 1) pe_int (nomark _)) (pss_one (ps_ret (pe_call (ok_qbv T) (hr.mono (by decide)) rfl T.qbv.g T.qbv.F.kp T.qbv.b .nil pass0 (pa_cons (pv 0) (pa_cons (pe_ix ix_list (pv 2) pe_int (fun _ _ => rfl)) (pa_cons (pe_ix ix_list (pv 2) pe_int (fun _ _ => rfl)) (pa_cons (pe_ix ix_list (pv 2) pe_int (fun _ _ => rfl)) pa_nil))))))) pss_nil)
      (pss_cons (ps_if (pt_cmpR op_eq (pv 1) pe_int (nomark _)) (pss_one (ps_ret (pe_call (ok_qbw T) (hr.mono (by decide)) rfl T.qbw.g T.qbw.F.kp T.qbw.b .nil pass0 (pa_cons (pv 0) (pa_cons (pe_ix ix_list (pv 2) pe_int (fun _ _ => rfl)) (pa_cons (pe_ix ix_list (pv 2) pe_int (fun _ _ => rfl)) pa_nil)))))) pss_nil)
      (pss_cons (ps_if (pt_cmpR op_eq (pv 1) pe_int (nomark _)) (pss_one (ps_ret (pe_call (ok_qcc T) (hr.mono (by decide)) rfl T.qcc.g T.qcc.F.kp T.qcc.b .nil pass0 (pa_cons (pv 0) (pa_cons (pe_ix ix_list (pv 2) pe_int (fun _ _ => rfl)) (pa_cons (pe_ix ix_list (pv 2) pe_int (fun _ _ => rfl)) (pa_cons (pe_ix ix_list (pv 2) pe_int (fun _ _ => rfl)) (pa_cons (pe_ix ix_list (pv 2) pe_int (fun _ _ => rfl)) pa_nil)))))))) pss_nil)
      (pss_cons (ps_if (pt_cmpR op_eq (pv 1) pe_int (nomark _)) (pss_one (ps_ret (pe_call (ok_qcd T) (hr.mono (by decide)) rfl T.qcd.g T.qcd.F.kp T.qcd.b .nil pass0 (pa_cons (pv 0) (pa_cons (pe_ix ix_list (pv 2) pe_int (fun _ _ => rfl)) (pa_cons (pe_ix ix_list (pv 2) pe_int (fun _ _ => rfl)) (pa_cons (pe_ix ix_list (pv 2) pe_int (fun _ _ => rfl)) pa_nil))))))) pss_nil)
      (pss_cons (ps_if (pt_cmpR op_eq (pv 1) pe_int (nomark _)) (pss_one (ps_ret (pe_call (ok_qai T) (hr.mono (by decide)) rfl T.qai.g T.qai.F.kp T.qai.b .nil pass0 (pa_cons (pv 0) (pa_cons (pe_ix ix_list (pv 2) pe_int (fun _ _ => rfl)) (pa_cons (pe_ix ix_list (pv 2) pe_int (fun _ _ => rfl)) pa_nil)))))) pss_nil)
      (pss_cons (ps_if (pt_cmpR op_eq (pv 1) pe_int (nomark _)) (pss_one (ps_ret (pe_call (ok_qaj T) (hr.mono (by decide)) rfl T.qaj.g T.qaj.F.kp T.qaj.b .nil pass0 (pa_cons (pv 0) (pa_cons (pe_ix ix_list (pv 2) pe_int (fun _ _ => rfl)) (pa_cons (pe_ix ix_list (pv 2) pe_int (fun _ _ => rfl)) pa_nil)))))) pss_nil)
      (pss_cons (ps_if (pt_cmpR op_eq (pv 1) pe_int (nomark _)) (pss_one (ps_ret (pe_call (ok_qbt T) (hr.mono (by decide)) rfl T.qbt.g T.qbt.F.kp T.qbt.b .nil pass0 (pa_cons (pv 0) (pa_cons (pe_ix ix_list (pv 2) pe_int (fun _ _ => rfl)) pa_nil))))) pss_nil)
      (pss_cons (ps_if (pt_cmpR op_eq (pv 1) pe_int (nomark _)) (pss_one (ps_ret (pe_call (ok_qbx T) (hr.mono (by decide)) rfl T.qbx.g T.qbx.F.kp T.qbx.b .nil pass0 (pa_cons (pv 0) (pa_cons (pe_ix ix_list (pv 2) pe_int (fun _ _ => rfl)) (pa_cons (pe_ix ix_list (pv 2) pe_int (fun _ _ => rfl)) (pa_cons (pe_ix ix_list (pv 2) pe_int (fun _ _ => rfl)) pa_nil))))))) pss_nil)
      (pss_cons (ps_if (pt_cmpR op_eq (pv 1) pe_int (nomark _)) (pss_one (ps_ret (pe_call (ok_qby T) (hr.mono (by decide)) rfl T.qby.g T.qby.F.kp T.qby.b .nil pass0 (pa_cons (pv 0) (pa_cons (pe_ix ix_list (pv 2) pe_int (fun _ _ => rfl)) (pa_cons (pe_ix ix_list (pv 2) pe_int (fun _ _ => rfl)) (pa_cons (pe_ix ix_list (pv 2) pe_int (fun _ _ => rfl)) pa_nil))))))) pss_nil)
      (pss_cons (ps_if (pt_cmpR op_eq (pv 1) pe_int (nomark _)) (pss_one (ps_ret (pe_call (ok_qbz T) (hr.mono (by decide)) rfl T.qbz.g T.qbz.F.kp T.qbz.b .nil pass0 (pa_cons (pv 0) (pa_cons (pe_ix ix_list (pv 2) pe_int (fun _ _ => rfl)) pa_nil))))) pss_nil)
      (pss_one (ps_ret (pe_call (ok_qbg T) (hr.mono (by decide)) rfl T.qbg.g T.qbg.F.kp T.qbg.b .nil pass0 (pa_cons (pv 0) pa_nil)))))))))))))), ?_⟩
    refine ⟨_, rfl, rfl, _, rfl, ?_⟩
    rw [show (V.int 12) = V.int ((12 : Nat) : Int) from rfl, deq]
    refine ite2 (fun c => ?_) (fun c12 => ?_)
    · obtain rfl := of_decide_eq_true c
      obtain ⟨x0, x1, x2, rfl⟩ := len3 (Option.some.inj hn).symm
      obtain ⟨hb, rfl⟩ := guard_some (show Vbemax.guard (Vbemax.isP x0 && (Vbemax.isD x1 && (Vbemax.isD x2))) (.who x0.toNat x1.toNat x2.toNat) = some cc from hc)
      obtain ⟨b0, hb⟩ := and_tt hb
      obtain ⟨b1, hb⟩ := and_tt hb
      have b2 := hb
      obtain ⟨n0, rfl, l0, u0⟩ := ins_nat b0 (by decide)
      obtain ⟨n1, rfl, l1, u1⟩ := ins_nat b1 (by decide)
      obtain ⟨n2, rfl, l2, u2⟩ := ins_nat b2 (by decide)
      have hO := okay_of (ho (by decide)) hG hE
      exact ⟨_, rfl, _, rfl, g, _, _, _, rfl, rfl, SqL.of hg, rfl, _, rfl, g, _, _, _, rfl, rfl, SqL.of hg, rfl, _, rfl, g, _, _, _, rfl, rfl, SqL.of hg, rfl, a, s, L, n0, n1, n2, rfl, (by omega), hA, hO, D⟩
    have e12 : i ≠ 12 := fun z => c12 (decide_eq_true z)
    refine ⟨_, rfl, rfl, _, rfl, ?_⟩
    rw [show (V.int 13) = V.int ((13 : Nat) : Int) from rfl, deq]
    refine ite2 (fun c => ?_) (fun c13 => ?_)
    · obtain rfl := of_decide_eq_true c
      obtain ⟨x0, x1, rfl⟩ := len2 (Option.some.inj hn).symm
      obtain ⟨hb, rfl⟩ := guard_some (show Vbemax.guard (Vbemax.isP x0 && (Vbemax.isD x1)) (.history x0.toNat x1.toNat) = some cc from hc)
      obtain ⟨b0, hb⟩ := and_tt hb
      have b1 := hb
      obtain ⟨n0, rfl, l0, u0⟩ := ins_nat b0 (by decide)
      obtain ⟨n1, rfl, l1, u1⟩ := ins_nat b1 (by decide)
      have hO := okay_of (ho (by decide)) hG hE
      exact ⟨_, rfl, _, rfl, g, _, _, _, rfl, rfl, SqL.of hg, rfl, _, rfl, g, _, _, _, rfl, rfl, SqL.of hg, rfl, a, s, L, n0, n1, rfl, (by omega), hA, hO, D⟩
    have e13 : i ≠ 13 := fun z => c13 (decide_eq_true z)
    refine ⟨_, rfl, rfl, _, rfl, ?_⟩
    rw [show (V.int 14) = V.int ((14 : Nat) : Int) from rfl, deq]
    refine ite2 (fun c => ?_) (fun c14 => ?_)
    · obtain rfl := of_decide_eq_true c
      obtain ⟨x0, x1, x2, x3, rfl⟩ := len4 (Option.some.inj hn).symm
      obtain ⟨hb, rfl⟩ := guard_some (show Vbemax.guard (Vbemax.isX x0 && (Vbemax.isD x1 && (Vbemax.isD x2 && (Vbemax.isD x3)))) (.volumeOf x0.toNat x1.toNat x2.toNat x3.toNat) = some cc from hc)
      obtain ⟨b0, hb⟩ := and_tt hb
      obtain ⟨b1, hb⟩ := and_tt hb
      obtain ⟨b2, hb⟩ := and_tt hb
      have b3 := hb
      obtain ⟨n0, rfl, l0, u0⟩ := ins_nat b0 (by decide)
      obtain ⟨n1, rfl, l1, u1⟩ := ins_nat b1 (by decide)
      obtain ⟨n2, rfl, l2, u2⟩ := ins_nat b2 (by decide)
      obtain ⟨n3, rfl, l3, u3⟩ := ins_nat b3 (by decide)
      have hO := okay_of (ho (by decide)) hG hE
      exact ⟨_, rfl, _, rfl, g, _, _, _, rfl, rfl, SqL.of hg, rfl, _, rfl, g, _, _, _, rfl, rfl, SqL.of hg, rfl, _, rfl, g, _, _, _, rfl, rfl, SqL.of hg, rfl, _, rfl, g, _, _, _, rfl, rfl, SqL.of hg, rfl, a, s, L, n0, n1, n2, n3, rfl, (by omega), hA, hO, D⟩
    have e14 : i ≠ 14 := fun z => c14 (decide_eq_true z)
    refine ⟨_, rfl, rfl, _, rfl, ?_⟩
    rw [show (V.int 15) = V.int ((15 : Nat) : Int) from rfl, deq]
    refine ite2 (fun c => ?_) (fun c15 => ?_)
    · obtain rfl := of_decide_eq_true c
      obtain ⟨x0, x1, x2, rfl⟩ := len3 (Option.some.inj hn).symm
      obtain ⟨hb, rfl⟩ := guard_some (show Vbemax.guard (Vbemax.isD x0 && (Vbemax.isD x1 && (Vbemax.isD x2))) (.volumes x0.toNat x1.toNat x2.toNat) = some cc from hc)
      obtain ⟨b0, hb⟩ := and_tt hb
      obtain ⟨b1, hb⟩ := and_tt hb
      have b2 := hb
      obtain ⟨n0, rfl, l0, u0⟩ := ins_nat b0 (by decide)
      obtain ⟨n1, rfl, l1, u1⟩ := ins_nat b1 (by decide)
      obtain ⟨n2, rfl, l2, u2⟩ := ins_nat b2 (by decide)
      have hO := okay_of (ho (by decide)) hG hE
      exact ⟨_, rfl, _, rfl, g, _, _, _, rfl, rfl, SqL.of hg, rfl, _, rfl, g, _, _, _, rfl, rfl, SqL.of hg, rfl, _, rfl, g, _, _, _, rfl, rfl, SqL.of hg, rfl, a, s, L, n0, n1, n2, rfl, hA, hO, D⟩
    have e15 : i ≠ 15 := fun z => c15 (decide_eq_true z)
    refine ⟨_, rfl, rfl, _, rfl, ?_⟩
    rw [show (V.int 16) = V.int ((16 : Nat) : Int) from rfl, deq]
    refine ite2 (fun c => ?_) (fun c16 => ?_)
    · obtain rfl := of_decide_eq_true c
      obtain ⟨x0, x1, rfl⟩ := len2 (Option.some.inj hn).symm
      obtain ⟨hb, rfl⟩ := guard_some (show Vbemax.guard (Vbemax.isD x0 && (Vbemax.inside x1 0 100)) (.businessAfter x0.toNat x1.toNat) = some cc from hc)
      obtain ⟨b0, hb⟩ := and_tt hb
      have b1 := hb
      obtain ⟨n0, rfl, l0, u0⟩ := ins_nat b0 (by decide)
      obtain ⟨n1, rfl, l1, u1⟩ := ins_nat b1 (by decide)
      have hO := okay_of (ho (by decide)) hG hE
      exact ⟨_, rfl, _, rfl, g, _, _, _, rfl, rfl, SqL.of hg, rfl, _, rfl, g, _, _, _, rfl, rfl, SqL.of hg, rfl, a, s, L, n0, n1, rfl, hA, hO, D⟩
    have e16 : i ≠ 16 := fun z => c16 (decide_eq_true z)
    refine ⟨_, rfl, rfl, _, rfl, ?_⟩
    rw [show (V.int 17) = V.int ((17 : Nat) : Int) from rfl, deq]
    refine ite2 (fun c => ?_) (fun c17 => ?_)
    · obtain rfl := of_decide_eq_true c
      obtain ⟨x0, x1, rfl⟩ := len2 (Option.some.inj hn).symm
      obtain ⟨hb, rfl⟩ := guard_some (show Vbemax.guard (Vbemax.isD x0 && (Vbemax.isD x1)) (.businessBetween x0.toNat x1.toNat) = some cc from hc)
      obtain ⟨b0, hb⟩ := and_tt hb
      have b1 := hb
      obtain ⟨n0, rfl, l0, u0⟩ := ins_nat b0 (by decide)
      obtain ⟨n1, rfl, l1, u1⟩ := ins_nat b1 (by decide)
      have hO := okay_of (ho (by decide)) hG hE
      exact ⟨_, rfl, _, rfl, g, _, _, _, rfl, rfl, SqL.of hg, rfl, _, rfl, g, _, _, _, rfl, rfl, SqL.of hg, rfl, a, s, L, n0, n1, rfl, hA, hO, D⟩
    have e17 : i ≠ 17 := fun z => c17 (decide_eq_true z)
    refine ⟨_, rfl, rfl, _, rfl, ?_⟩
    rw [show (V.int 18) = V.int ((18 : Nat) : Int) from rfl, deq]
    refine ite2 (fun c => ?_) (fun c18 => ?_)
    · obtain rfl := of_decide_eq_true c
      obtain ⟨x0, rfl⟩ := len1 (Option.some.inj hn).symm
      obtain ⟨hb, rfl⟩ := guard_some (show Vbemax.guard (Vbemax.isN x0) (.requestIs x0.toNat) = some cc from hc)
      have b0 := hb
      obtain ⟨n0, rfl, l0, u0⟩ := ins_nat b0 (by decide)
      have hO := okay_of (ho (by decide)) hG hE
      exact ⟨_, rfl, _, rfl, g, _, _, _, rfl, rfl, SqL.of hg, rfl, a, s, L, n0, rfl, (by omega), hA, hO, D⟩
    have e18 : i ≠ 18 := fun z => c18 (decide_eq_true z)
    refine ⟨_, rfl, rfl, _, rfl, ?_⟩
    rw [show (V.int 19) = V.int ((19 : Nat) : Int) from rfl, deq]
    refine ite2 (fun c => ?_) (fun c19 => ?_)
    · obtain rfl := of_decide_eq_true c
      obtain ⟨x0, x1, x2, rfl⟩ := len3 (Option.some.inj hn).symm
      obtain ⟨hb, rfl⟩ := guard_some (show Vbemax.guard (Vbemax.isP x0 && (Vbemax.isD x1 && (Vbemax.isD x2))) (.differs x0.toNat x1.toNat x2.toNat) = some cc from hc)
      obtain ⟨b0, hb⟩ := and_tt hb
      obtain ⟨b1, hb⟩ := and_tt hb
      have b2 := hb
      obtain ⟨n0, rfl, l0, u0⟩ := ins_nat b0 (by decide)
      obtain ⟨n1, rfl, l1, u1⟩ := ins_nat b1 (by decide)
      obtain ⟨n2, rfl, l2, u2⟩ := ins_nat b2 (by decide)
      have hO := okay_of (ho (by decide)) hG hE
      exact ⟨_, rfl, _, rfl, g, _, _, _, rfl, rfl, SqL.of hg, rfl, _, rfl, g, _, _, _, rfl, rfl, SqL.of hg, rfl, _, rfl, g, _, _, _, rfl, rfl, SqL.of hg, rfl, a, s, L, n0, n1, n2, rfl, (by omega), hA, hO, D⟩
    have e19 : i ≠ 19 := fun z => c19 (decide_eq_true z)
    refine ⟨_, rfl, rfl, _, rfl, ?_⟩
    rw [show (V.int 20) = V.int ((20 : Nat) : Int) from rfl, deq]
    refine ite2 (fun c => ?_) (fun c20 => ?_)
    · obtain rfl := of_decide_eq_true c
      obtain ⟨x0, x1, x2, rfl⟩ := len3 (Option.some.inj hn).symm
      obtain ⟨hb, rfl⟩ := guard_some (show Vbemax.guard (Vbemax.isX x0 && (Vbemax.isD x1 && (Vbemax.isD x2))) (.supplied x0.toNat x1.toNat x2.toNat) = some cc from hc)
      obtain ⟨b0, hb⟩ := and_tt hb
      obtain ⟨b1, hb⟩ := and_tt hb
      have b2 := hb
      obtain ⟨n0, rfl, l0, u0⟩ := ins_nat b0 (by decide)
      obtain ⟨n1, rfl, l1, u1⟩ := ins_nat b1 (by decide)
      obtain ⟨n2, rfl, l2, u2⟩ := ins_nat b2 (by decide)
      have hO := okay_of (ho (by decide)) hG hE
      exact ⟨_, rfl, _, rfl, g, _, _, _, rfl, rfl, SqL.of hg, rfl, _, rfl, g, _, _, _, rfl, rfl, SqL.of hg, rfl, _, rfl, g, _, _, _, rfl, rfl, SqL.of hg, rfl, a, s, L, n0, n1, n2, rfl, (by omega), hA, hO, D⟩
    have e20 : i ≠ 20 := fun z => c20 (decide_eq_true z)
    refine ⟨_, rfl, rfl, _, rfl, ?_⟩
    rw [show (V.int 21) = V.int ((21 : Nat) : Int) from rfl, deq]
    refine ite2 (fun c => ?_) (fun c21 => ?_)
    · obtain rfl := of_decide_eq_true c
      obtain ⟨x0, rfl⟩ := len1 (Option.some.inj hn).symm
      obtain ⟨hb, rfl⟩ := guard_some (show Vbemax.guard (Vbemax.isP x0) (.facts x0.toNat) = some cc from hc)
      have b0 := hb
      obtain ⟨n0, rfl, l0, u0⟩ := ins_nat b0 (by decide)
      have hO := okay_of (ho (by decide)) hG hE
      exact ⟨_, rfl, _, rfl, g, _, _, _, rfl, rfl, SqL.of hg, rfl, a, s, L, n0, rfl, (by omega), hA, hO, D⟩
    have e21 : i ≠ 21 := fun z => c21 (decide_eq_true z)
    obtain rfl : i = 22 := by omega
    obtain rfl := len0 (Option.some.inj hn).symm
    cases (show some Vbemax.Call.state = some cc from hc)
    have hO := okay_of (ho (by decide)) hG hE
    exact ⟨_, rfl, a, s, L, rfl, hA, hO, D⟩
end
theorem flat_len {α : Type} {k : Nat} {f : α → List Int} (h : ∀ x, (f x).length = k) : ∀ l : List α, (l.map f).flatten.length = k * l.length
  | [] => rfl
  | x :: l => by
    rw [List.map_cons, List.flatten_cons, List.length_append, h, flat_len h l, List.length_cons, Nat.mul_succ, Nat.add_comm]
theorem putDay_le (x : Nat) : ∀ l : List Nat, (Vbemax.putDay x l).length ≤ l.length + 1
  | [] => Nat.le_refl _
  | y :: r => by
    have ih := putDay_le x r
    unfold Vbemax.putDay
    split
    · simp
    · split
      · simp
      · simp only [List.length_cons]; omega
theorem foldr_putDay_le : ∀ l : List Nat, (l.foldr Vbemax.putDay [0]).length ≤ l.length + 1
  | [] => Nat.le_refl _
  | x :: l => by
    have ih := foldr_putDay_le l
    have := putDay_le x (l.foldr Vbemax.putDay [0])
    rw [List.foldr_cons, List.length_cons]
    omega
theorem edges_le (l : List Vbemax.Fact) (p : Nat) : (Vbemax.edges l p).length ≤ 2 * l.length + 1 := by
  unfold Vbemax.edges
  have h1 := foldr_putDay_le ((l.filter fun f => f.point == p).flatMap fun f => [f.from_, f.to_ + 1])
  have h2 : ∀ m : List Vbemax.Fact, (m.flatMap fun f => [f.from_, f.to_ + 1]).length = 2 * m.length := fun m => by
    induction m with
    | nil => rfl
    | cons x m ih => rw [List.flatMap_cons, List.length_append, ih, List.length_cons]; simp; omega
  have h3 := List.length_filter_le (fun f : Vbemax.Fact => f.point == p) l
  rw [h2] at h1
  omega
theorem merged_le : ∀ l : List Vbemax.Span, (Vbemax.merged l).length ≤ l.length
  | [] => Nat.le_refl _
  | a :: l => by
    have ih := merged_le l
    have key : ∀ m : List Vbemax.Span, (Vbemax.addSpan a m).length ≤ m.length + 1 := fun m => by
      unfold Vbemax.addSpan
      split
      · simp
      · split <;> simp
    have := key (Vbemax.merged l)
    show (Vbemax.addSpan a (Vbemax.merged l)).length ≤ _
    rw [List.length_cons]
    omega
theorem ranges_len : ∀ l : List Vbemax.Span, (Vbemax.ranges l).length = l.length
  | [] => rfl
  | [a] => rfl
  | a :: b :: r => by
    have ih := ranges_len (b :: r)
    unfold Vbemax.ranges
    rw [List.length_cons, ih, List.length_cons]
    rfl
theorem spans_le (b : Nat) (l : List Vbemax.Fact) (p k : Nat) : (Vbemax.spans b l p k).length ≤ 2 * l.length + 1 := by
  unfold Vbemax.spans
  refine Nat.le_trans (merged_le _) ?_
  rw [List.length_map]
  exact Nat.le_trans (List.length_filter_le _ _) (edges_le l p)
theorem differing_le (s : Vbemax.State) (p j k : Nat) : (Vbemax.differing s p j k).length ≤ 2 * s.facts.length + 1 := by
  unfold Vbemax.differing
  refine Nat.le_trans (List.length_filterMap_le _ _) ?_
  rw [ranges_len]
  refine Nat.le_trans (merged_le _) ?_
  rw [List.length_map]
  exact Nat.le_trans (List.length_filter_le _ _) (edges_le _ _)
theorem ans_does {s t : Vbemax.State} {c : Vbemax.Call} {a : List Int} (g : Good s) (h : Vbemax.does s c = .ok (t, a)) : a.length ≤ 1900 := by
  have hf : s.facts.length ≤ 256 := by have := g.room; omega
  have h8 := good_s8 g
  have hp := g.pts
  have wf : ∀ {s t : Vbemax.State} {l : List Vbemax.Fact} {x a : List Int}, Vbemax.withFacts s l x = .ok (t, a) → x.length ≤ 1 → a.length ≤ 1900 := fun {s t l x a} h hx => by
    unfold Vbemax.withFacts at h
    split at h
    · cases h
    · cases h
      omega
  cases c with
  | opens b n k m =>
    simp only [Vbemax.does] at h
    repeat (split at h; · cases h)
    cases h; simp
  | holiday d =>
    simp only [Vbemax.does] at h
    repeat (split at h; · cases h)
    cases h; simp
  | point =>
    simp only [Vbemax.does] at h
    repeat (split at h; · cases h)
    cases h; simp
  | day d =>
    simp only [Vbemax.does] at h
    repeat (split at h; · cases h)
    cases h; simp
  | request p x d =>
    simp only [Vbemax.does] at h
    repeat (split at h; · cases h)
    cases h; simp
  | object n x =>
    simp only [Vbemax.does] at h
    split at h
    · cases h
    · repeat (split at h; · cases h)
      cases h; simp
  | withdraw n =>
    simp only [Vbemax.does] at h
    split at h
    · cases h
    · cases h; simp
  | vacate p d =>
    simp only [Vbemax.does] at h
    repeat (split at h; · cases h)
    exact wf h (by simp)
  | correct p i j x =>
    simp only [Vbemax.does] at h
    repeat (split at h; · cases h)
    exact wf h (by simp)
  | fail x =>
    simp only [Vbemax.does] at h
    repeat (split at h; · cases h)
    exact wf h (by simp)
  | volume p d n =>
    simp only [Vbemax.does] at h
    repeat (split at h; · cases h)
    cases h; simp
  | bill x i j =>
    simp only [Vbemax.does] at h
    repeat (split at h; · cases h)
    cases h; simp
  | who p d k =>
    simp only [Vbemax.does] at h
    repeat (split at h; · cases h)
    cases h; simp
  | history p k =>
    simp only [Vbemax.does] at h
    repeat (split at h; · cases h)
    cases h
    unfold Vbemax.rows
    rw [List.length_cons, flat_len (k := 2) (fun _ => rfl)]
    have := spans_le s.basic s.facts p k
    omega
  | volumeOf x i j k =>
    simp only [Vbemax.does] at h
    repeat (split at h; · cases h)
    cases h; simp
  | volumes i j k =>
    simp only [Vbemax.does] at h
    repeat (split at h; · cases h)
    cases h
    rw [List.length_append, List.length_map]
    unfold Vbemax.suppliersOf
    rw [List.length_map, List.length_range]
    simp
    omega
  | businessAfter d n =>
    simp only [Vbemax.does] at h
    cases h; simp
  | businessBetween i j =>
    simp only [Vbemax.does] at h
    repeat (split at h; · cases h)
    cases h; simp
  | requestIs n =>
    simp only [Vbemax.does] at h
    split at h
    · cases h
    · cases h; simp
  | differs p j k =>
    simp only [Vbemax.does] at h
    repeat (split at h; · cases h)
    cases h
    unfold Vbemax.rows
    rw [List.length_cons, flat_len (k := 2) (fun _ => rfl)]
    have := differing_le s p j k
    omega
  | supplied x d k =>
    simp only [Vbemax.does] at h
    repeat (split at h; · cases h)
    cases h
    unfold Vbemax.rows
    rw [List.length_cons, flat_len (k := 1) (fun _ => rfl)]
    have := List.length_filter_le (fun p => Vbemax.whoAt s p d k == x) (Vbemax.pointsOf s)
    have e : (Vbemax.pointsOf s).length = s.points := by unfold Vbemax.pointsOf; rw [List.length_map, List.length_range]
    omega
  | facts p =>
    simp only [Vbemax.does] at h
    repeat (split at h; · cases h)
    cases h
    unfold Vbemax.rows
    rw [List.length_cons, flat_len (k := 4) (fun _ => rfl)]
    have := List.length_filter_le (fun f : Vbemax.Fact => f.point == p) s.facts
    omega
  | state =>
    simp only [Vbemax.does] at h
    cases h
    rw [List.length_append, List.length_map]
    unfold Vbemax.suppliersOf
    rw [List.length_map, List.length_range]
    simp
    omega
theorem ans_step {s : Vbemax.State} {c : Vbemax.Call} (g : Good s) : (Vbemax.step s c).2.length ≤ 2000 := by
  unfold Vbemax.step
  split
  · exact (by decide : 1 ≤ 2000)
  · cases e : Vbemax.does s c with
    | error y => exact (by decide : 1 ≤ 2000)
    | ok ta =>
      obtain ⟨t, a⟩ := ta
      have := ans_does g e
      show (0 :: a).length ≤ 2000
      rw [List.length_cons]
      omega
theorem guard_isSome {b : Bool} {c : Vbemax.Call} : (Vbemax.guard b c).isSome = b := by
  unfold Vbemax.guard
  cases b <;> rfl
def DecOk (i : Nat) (r : List (Int × Int)) (xs : List Int) : Prop := (Vbemax.decode [((i : Nat) : Int) :: xs]).isSome = okN r xs ∧ ∀ c, Vbemax.decode [((i : Nat) : Int) :: xs] = some c → CallOk c ∧ Vbemax.isOpens c = decide (i = 0)
theorem dec_0 {xs : List Int} (hl : xs.length = 4) : DecOk 0 [(1, 8), (1, 8), (1, 30), (1, 30)] xs := by
  obtain ⟨x0, x1, x2, x3, rfl⟩ := len4 hl
  have e : Vbemax.decode [[((0 : Nat) : Int), x0, x1, x2, x3]] = Vbemax.guard (Vbemax.isX x0 && (Vbemax.isX x1 && (Vbemax.inside x2 1 30 && (Vbemax.inside x3 1 30)))) (.opens x0.toNat x1.toNat x2.toNat x3.toNat) := rfl
  refine ⟨?_, fun c hc => ?_⟩
  · rw [e, guard_isSome]
    show _ = (Vbemax.inside x0 1 8 && (Vbemax.inside x1 1 8 && (Vbemax.inside x2 1 30 && (Vbemax.inside x3 1 30 && true))))
    rw [Bool.and_true]
    rfl
  · obtain ⟨hb, rfl⟩ := guard_some (e.symm.trans hc)
    obtain ⟨b0, hb⟩ := and_tt hb
    obtain ⟨b1, hb⟩ := and_tt hb
    obtain ⟨b2, hb⟩ := and_tt hb
    have b3 := hb
    obtain ⟨n0, rfl, l0, u0⟩ := ins_nat b0 (by decide)
    have v0 : ((n0 : Nat) : Int) ≤ 8 := u0
    have w0 : (1 : Int) ≤ ((n0 : Nat) : Int) := l0
    obtain ⟨n1, rfl, l1, u1⟩ := ins_nat b1 (by decide)
    have v1 : ((n1 : Nat) : Int) ≤ 8 := u1
    have w1 : (1 : Int) ≤ ((n1 : Nat) : Int) := l1
    obtain ⟨n2, rfl, l2, u2⟩ := ins_nat b2 (by decide)
    have v2 : ((n2 : Nat) : Int) ≤ 30 := u2
    have w2 : (1 : Int) ≤ ((n2 : Nat) : Int) := l2
    obtain ⟨n3, rfl, l3, u3⟩ := ins_nat b3 (by decide)
    have v3 : ((n3 : Nat) : Int) ≤ 30 := u3
    have w3 : (1 : Int) ≤ ((n3 : Nat) : Int) := l3
    exact ⟨⟨by show 1 ≤ n0; omega, by show n0 ≤ 8; omega, by show 1 ≤ n1; omega, by show n1 ≤ 8; omega, by show 1 ≤ n2; omega, by show n2 ≤ 30; omega, by show 1 ≤ n3; omega, by show n3 ≤ 30; omega⟩, rfl⟩
theorem dec_1 {xs : List Int} (hl : xs.length = 1) : DecOk 1 [(0, 20000)] xs := by
  obtain ⟨x0, rfl⟩ := len1 hl
  have e : Vbemax.decode [[((1 : Nat) : Int), x0]] = Vbemax.guard (Vbemax.isD x0) (.holiday x0.toNat) := rfl
  refine ⟨?_, fun c hc => ?_⟩
  · rw [e, guard_isSome]
    show _ = (Vbemax.inside x0 0 20000 && true)
    rw [Bool.and_true]
    rfl
  · obtain ⟨hb, rfl⟩ := guard_some (e.symm.trans hc)
    have b0 := hb
    obtain ⟨n0, rfl, l0, u0⟩ := ins_nat b0 (by decide)
    have v0 : ((n0 : Nat) : Int) ≤ 20000 := u0
    have w0 : (0 : Int) ≤ ((n0 : Nat) : Int) := l0
    exact ⟨True.intro, rfl⟩
theorem dec_2 {xs : List Int} (hl : xs.length = 0) : DecOk 2 [] xs := by
  obtain rfl := len0 hl
  refine ⟨rfl, fun c hc => ?_⟩
  cases (show some Vbemax.Call.point = some c from hc)
  exact ⟨True.intro, rfl⟩
theorem dec_3 {xs : List Int} (hl : xs.length = 1) : DecOk 3 [(0, 20000)] xs := by
  obtain ⟨x0, rfl⟩ := len1 hl
  have e : Vbemax.decode [[((3 : Nat) : Int), x0]] = Vbemax.guard (Vbemax.isD x0) (.day x0.toNat) := rfl
  refine ⟨?_, fun c hc => ?_⟩
  · rw [e, guard_isSome]
    show _ = (Vbemax.inside x0 0 20000 && true)
    rw [Bool.and_true]
    rfl
  · obtain ⟨hb, rfl⟩ := guard_some (e.symm.trans hc)
    have b0 := hb
    obtain ⟨n0, rfl, l0, u0⟩ := ins_nat b0 (by decide)
    have v0 : ((n0 : Nat) : Int) ≤ 20000 := u0
    have w0 : (0 : Int) ≤ ((n0 : Nat) : Int) := l0
    exact ⟨(by show n0 ≤ 20000; omega), rfl⟩
theorem dec_4 {xs : List Int} (hl : xs.length = 3) : DecOk 4 [(1, 16), (1, 8), (0, 20000)] xs := by
  obtain ⟨x0, x1, x2, rfl⟩ := len3 hl
  have e : Vbemax.decode [[((4 : Nat) : Int), x0, x1, x2]] = Vbemax.guard (Vbemax.isP x0 && (Vbemax.isX x1 && (Vbemax.isD x2))) (.request x0.toNat x1.toNat x2.toNat) := rfl
  refine ⟨?_, fun c hc => ?_⟩
  · rw [e, guard_isSome]
    show _ = (Vbemax.inside x0 1 16 && (Vbemax.inside x1 1 8 && (Vbemax.inside x2 0 20000 && true)))
    rw [Bool.and_true]
    rfl
  · obtain ⟨hb, rfl⟩ := guard_some (e.symm.trans hc)
    obtain ⟨b0, hb⟩ := and_tt hb
    obtain ⟨b1, hb⟩ := and_tt hb
    have b2 := hb
    obtain ⟨n0, rfl, l0, u0⟩ := ins_nat b0 (by decide)
    have v0 : ((n0 : Nat) : Int) ≤ 16 := u0
    have w0 : (1 : Int) ≤ ((n0 : Nat) : Int) := l0
    obtain ⟨n1, rfl, l1, u1⟩ := ins_nat b1 (by decide)
    have v1 : ((n1 : Nat) : Int) ≤ 8 := u1
    have w1 : (1 : Int) ≤ ((n1 : Nat) : Int) := l1
    obtain ⟨n2, rfl, l2, u2⟩ := ins_nat b2 (by decide)
    have v2 : ((n2 : Nat) : Int) ≤ 20000 := u2
    have w2 : (0 : Int) ≤ ((n2 : Nat) : Int) := l2
    exact ⟨⟨by show 1 ≤ n1; omega, by show n2 ≤ 20000; omega⟩, rfl⟩
theorem dec_5 {xs : List Int} (hl : xs.length = 2) : DecOk 5 [(1, 64), (1, 8)] xs := by
  obtain ⟨x0, x1, rfl⟩ := len2 hl
  have e : Vbemax.decode [[((5 : Nat) : Int), x0, x1]] = Vbemax.guard (Vbemax.isN x0 && (Vbemax.isX x1)) (.object x0.toNat x1.toNat) := rfl
  refine ⟨?_, fun c hc => ?_⟩
  · rw [e, guard_isSome]
    show _ = (Vbemax.inside x0 1 64 && (Vbemax.inside x1 1 8 && true))
    rw [Bool.and_true]
    rfl
  · obtain ⟨hb, rfl⟩ := guard_some (e.symm.trans hc)
    obtain ⟨b0, hb⟩ := and_tt hb
    have b1 := hb
    obtain ⟨n0, rfl, l0, u0⟩ := ins_nat b0 (by decide)
    have v0 : ((n0 : Nat) : Int) ≤ 64 := u0
    have w0 : (1 : Int) ≤ ((n0 : Nat) : Int) := l0
    obtain ⟨n1, rfl, l1, u1⟩ := ins_nat b1 (by decide)
    have v1 : ((n1 : Nat) : Int) ≤ 8 := u1
    have w1 : (1 : Int) ≤ ((n1 : Nat) : Int) := l1
    exact ⟨True.intro, rfl⟩
theorem dec_6 {xs : List Int} (hl : xs.length = 1) : DecOk 6 [(1, 64)] xs := by
  obtain ⟨x0, rfl⟩ := len1 hl
  have e : Vbemax.decode [[((6 : Nat) : Int), x0]] = Vbemax.guard (Vbemax.isN x0) (.withdraw x0.toNat) := rfl
  refine ⟨?_, fun c hc => ?_⟩
  · rw [e, guard_isSome]
    show _ = (Vbemax.inside x0 1 64 && true)
    rw [Bool.and_true]
    rfl
  · obtain ⟨hb, rfl⟩ := guard_some (e.symm.trans hc)
    have b0 := hb
    obtain ⟨n0, rfl, l0, u0⟩ := ins_nat b0 (by decide)
    have v0 : ((n0 : Nat) : Int) ≤ 64 := u0
    have w0 : (1 : Int) ≤ ((n0 : Nat) : Int) := l0
    exact ⟨True.intro, rfl⟩
theorem dec_7 {xs : List Int} (hl : xs.length = 2) : DecOk 7 [(1, 16), (0, 20000)] xs := by
  obtain ⟨x0, x1, rfl⟩ := len2 hl
  have e : Vbemax.decode [[((7 : Nat) : Int), x0, x1]] = Vbemax.guard (Vbemax.isP x0 && (Vbemax.isD x1)) (.vacate x0.toNat x1.toNat) := rfl
  refine ⟨?_, fun c hc => ?_⟩
  · rw [e, guard_isSome]
    show _ = (Vbemax.inside x0 1 16 && (Vbemax.inside x1 0 20000 && true))
    rw [Bool.and_true]
    rfl
  · obtain ⟨hb, rfl⟩ := guard_some (e.symm.trans hc)
    obtain ⟨b0, hb⟩ := and_tt hb
    have b1 := hb
    obtain ⟨n0, rfl, l0, u0⟩ := ins_nat b0 (by decide)
    have v0 : ((n0 : Nat) : Int) ≤ 16 := u0
    have w0 : (1 : Int) ≤ ((n0 : Nat) : Int) := l0
    obtain ⟨n1, rfl, l1, u1⟩ := ins_nat b1 (by decide)
    have v1 : ((n1 : Nat) : Int) ≤ 20000 := u1
    have w1 : (0 : Int) ≤ ((n1 : Nat) : Int) := l1
    exact ⟨(by show n1 ≤ 20000; omega), rfl⟩
theorem dec_8 {xs : List Int} (hl : xs.length = 4) : DecOk 8 [(1, 16), (0, 20000), (0, 20000), (1, 8)] xs := by
  obtain ⟨x0, x1, x2, x3, rfl⟩ := len4 hl
  have e : Vbemax.decode [[((8 : Nat) : Int), x0, x1, x2, x3]] = Vbemax.guard (Vbemax.isP x0 && (Vbemax.isD x1 && (Vbemax.isD x2 && (Vbemax.isX x3)))) (.correct x0.toNat x1.toNat x2.toNat x3.toNat) := rfl
  refine ⟨?_, fun c hc => ?_⟩
  · rw [e, guard_isSome]
    show _ = (Vbemax.inside x0 1 16 && (Vbemax.inside x1 0 20000 && (Vbemax.inside x2 0 20000 && (Vbemax.inside x3 1 8 && true))))
    rw [Bool.and_true]
    rfl
  · obtain ⟨hb, rfl⟩ := guard_some (e.symm.trans hc)
    obtain ⟨b0, hb⟩ := and_tt hb
    obtain ⟨b1, hb⟩ := and_tt hb
    obtain ⟨b2, hb⟩ := and_tt hb
    have b3 := hb
    obtain ⟨n0, rfl, l0, u0⟩ := ins_nat b0 (by decide)
    have v0 : ((n0 : Nat) : Int) ≤ 16 := u0
    have w0 : (1 : Int) ≤ ((n0 : Nat) : Int) := l0
    obtain ⟨n1, rfl, l1, u1⟩ := ins_nat b1 (by decide)
    have v1 : ((n1 : Nat) : Int) ≤ 20000 := u1
    have w1 : (0 : Int) ≤ ((n1 : Nat) : Int) := l1
    obtain ⟨n2, rfl, l2, u2⟩ := ins_nat b2 (by decide)
    have v2 : ((n2 : Nat) : Int) ≤ 20000 := u2
    have w2 : (0 : Int) ≤ ((n2 : Nat) : Int) := l2
    obtain ⟨n3, rfl, l3, u3⟩ := ins_nat b3 (by decide)
    have v3 : ((n3 : Nat) : Int) ≤ 8 := u3
    have w3 : (1 : Int) ≤ ((n3 : Nat) : Int) := l3
    exact ⟨⟨by show n1 ≤ 20000; omega, by show n2 ≤ 20000; omega, by show 1 ≤ n3; omega⟩, rfl⟩
theorem dec_9 {xs : List Int} (hl : xs.length = 1) : DecOk 9 [(1, 8)] xs := by
  obtain ⟨x0, rfl⟩ := len1 hl
  have e : Vbemax.decode [[((9 : Nat) : Int), x0]] = Vbemax.guard (Vbemax.isX x0) (.fail x0.toNat) := rfl
  refine ⟨?_, fun c hc => ?_⟩
  · rw [e, guard_isSome]
    show _ = (Vbemax.inside x0 1 8 && true)
    rw [Bool.and_true]
    rfl
  · obtain ⟨hb, rfl⟩ := guard_some (e.symm.trans hc)
    have b0 := hb
    obtain ⟨n0, rfl, l0, u0⟩ := ins_nat b0 (by decide)
    have v0 : ((n0 : Nat) : Int) ≤ 8 := u0
    have w0 : (1 : Int) ≤ ((n0 : Nat) : Int) := l0
    exact ⟨True.intro, rfl⟩
theorem dec_10 {xs : List Int} (hl : xs.length = 3) : DecOk 10 [(1, 16), (0, 20000), (0, 1000000000)] xs := by
  obtain ⟨x0, x1, x2, rfl⟩ := len3 hl
  have e : Vbemax.decode [[((10 : Nat) : Int), x0, x1, x2]] = Vbemax.guard (Vbemax.isP x0 && (Vbemax.isD x1 && (Vbemax.inside x2 0 1000000000))) (.volume x0.toNat x1.toNat x2.toNat) := rfl
  refine ⟨?_, fun c hc => ?_⟩
  · rw [e, guard_isSome]
    show _ = (Vbemax.inside x0 1 16 && (Vbemax.inside x1 0 20000 && (Vbemax.inside x2 0 1000000000 && true)))
    rw [Bool.and_true]
    rfl
  · obtain ⟨hb, rfl⟩ := guard_some (e.symm.trans hc)
    obtain ⟨b0, hb⟩ := and_tt hb
    obtain ⟨b1, hb⟩ := and_tt hb
    have b2 := hb
    obtain ⟨n0, rfl, l0, u0⟩ := ins_nat b0 (by decide)
    have v0 : ((n0 : Nat) : Int) ≤ 16 := u0
    have w0 : (1 : Int) ≤ ((n0 : Nat) : Int) := l0
    obtain ⟨n1, rfl, l1, u1⟩ := ins_nat b1 (by decide)
    have v1 : ((n1 : Nat) : Int) ≤ 20000 := u1
    have w1 : (0 : Int) ≤ ((n1 : Nat) : Int) := l1
    obtain ⟨n2, rfl, l2, u2⟩ := ins_nat b2 (by decide)
    have v2 : ((n2 : Nat) : Int) ≤ 1000000000 := u2
    have w2 : (0 : Int) ≤ ((n2 : Nat) : Int) := l2
    exact ⟨True.intro, rfl⟩
theorem dec_11 {xs : List Int} (hl : xs.length = 3) : DecOk 11 [(1, 8), (0, 20000), (0, 20000)] xs := by
  obtain ⟨x0, x1, x2, rfl⟩ := len3 hl
  have e : Vbemax.decode [[((11 : Nat) : Int), x0, x1, x2]] = Vbemax.guard (Vbemax.isX x0 && (Vbemax.isD x1 && (Vbemax.isD x2))) (.bill x0.toNat x1.toNat x2.toNat) := rfl
  refine ⟨?_, fun c hc => ?_⟩
  · rw [e, guard_isSome]
    show _ = (Vbemax.inside x0 1 8 && (Vbemax.inside x1 0 20000 && (Vbemax.inside x2 0 20000 && true)))
    rw [Bool.and_true]
    rfl
  · obtain ⟨hb, rfl⟩ := guard_some (e.symm.trans hc)
    obtain ⟨b0, hb⟩ := and_tt hb
    obtain ⟨b1, hb⟩ := and_tt hb
    have b2 := hb
    obtain ⟨n0, rfl, l0, u0⟩ := ins_nat b0 (by decide)
    have v0 : ((n0 : Nat) : Int) ≤ 8 := u0
    have w0 : (1 : Int) ≤ ((n0 : Nat) : Int) := l0
    obtain ⟨n1, rfl, l1, u1⟩ := ins_nat b1 (by decide)
    have v1 : ((n1 : Nat) : Int) ≤ 20000 := u1
    have w1 : (0 : Int) ≤ ((n1 : Nat) : Int) := l1
    obtain ⟨n2, rfl, l2, u2⟩ := ins_nat b2 (by decide)
    have v2 : ((n2 : Nat) : Int) ≤ 20000 := u2
    have w2 : (0 : Int) ≤ ((n2 : Nat) : Int) := l2
    exact ⟨True.intro, rfl⟩
theorem dec_12 {xs : List Int} (hl : xs.length = 3) : DecOk 12 [(1, 16), (0, 20000), (0, 20000)] xs := by
  obtain ⟨x0, x1, x2, rfl⟩ := len3 hl
  have e : Vbemax.decode [[((12 : Nat) : Int), x0, x1, x2]] = Vbemax.guard (Vbemax.isP x0 && (Vbemax.isD x1 && (Vbemax.isD x2))) (.who x0.toNat x1.toNat x2.toNat) := rfl
  refine ⟨?_, fun c hc => ?_⟩
  · rw [e, guard_isSome]
    show _ = (Vbemax.inside x0 1 16 && (Vbemax.inside x1 0 20000 && (Vbemax.inside x2 0 20000 && true)))
    rw [Bool.and_true]
    rfl
  · obtain ⟨hb, rfl⟩ := guard_some (e.symm.trans hc)
    obtain ⟨b0, hb⟩ := and_tt hb
    obtain ⟨b1, hb⟩ := and_tt hb
    have b2 := hb
    obtain ⟨n0, rfl, l0, u0⟩ := ins_nat b0 (by decide)
    have v0 : ((n0 : Nat) : Int) ≤ 16 := u0
    have w0 : (1 : Int) ≤ ((n0 : Nat) : Int) := l0
    obtain ⟨n1, rfl, l1, u1⟩ := ins_nat b1 (by decide)
    have v1 : ((n1 : Nat) : Int) ≤ 20000 := u1
    have w1 : (0 : Int) ≤ ((n1 : Nat) : Int) := l1
    obtain ⟨n2, rfl, l2, u2⟩ := ins_nat b2 (by decide)
    have v2 : ((n2 : Nat) : Int) ≤ 20000 := u2
    have w2 : (0 : Int) ≤ ((n2 : Nat) : Int) := l2
    exact ⟨True.intro, rfl⟩
theorem dec_13 {xs : List Int} (hl : xs.length = 2) : DecOk 13 [(1, 16), (0, 20000)] xs := by
  obtain ⟨x0, x1, rfl⟩ := len2 hl
  have e : Vbemax.decode [[((13 : Nat) : Int), x0, x1]] = Vbemax.guard (Vbemax.isP x0 && (Vbemax.isD x1)) (.history x0.toNat x1.toNat) := rfl
  refine ⟨?_, fun c hc => ?_⟩
  · rw [e, guard_isSome]
    show _ = (Vbemax.inside x0 1 16 && (Vbemax.inside x1 0 20000 && true))
    rw [Bool.and_true]
    rfl
  · obtain ⟨hb, rfl⟩ := guard_some (e.symm.trans hc)
    obtain ⟨b0, hb⟩ := and_tt hb
    have b1 := hb
    obtain ⟨n0, rfl, l0, u0⟩ := ins_nat b0 (by decide)
    have v0 : ((n0 : Nat) : Int) ≤ 16 := u0
    have w0 : (1 : Int) ≤ ((n0 : Nat) : Int) := l0
    obtain ⟨n1, rfl, l1, u1⟩ := ins_nat b1 (by decide)
    have v1 : ((n1 : Nat) : Int) ≤ 20000 := u1
    have w1 : (0 : Int) ≤ ((n1 : Nat) : Int) := l1
    exact ⟨True.intro, rfl⟩
theorem dec_14 {xs : List Int} (hl : xs.length = 4) : DecOk 14 [(1, 8), (0, 20000), (0, 20000), (0, 20000)] xs := by
  obtain ⟨x0, x1, x2, x3, rfl⟩ := len4 hl
  have e : Vbemax.decode [[((14 : Nat) : Int), x0, x1, x2, x3]] = Vbemax.guard (Vbemax.isX x0 && (Vbemax.isD x1 && (Vbemax.isD x2 && (Vbemax.isD x3)))) (.volumeOf x0.toNat x1.toNat x2.toNat x3.toNat) := rfl
  refine ⟨?_, fun c hc => ?_⟩
  · rw [e, guard_isSome]
    show _ = (Vbemax.inside x0 1 8 && (Vbemax.inside x1 0 20000 && (Vbemax.inside x2 0 20000 && (Vbemax.inside x3 0 20000 && true))))
    rw [Bool.and_true]
    rfl
  · obtain ⟨hb, rfl⟩ := guard_some (e.symm.trans hc)
    obtain ⟨b0, hb⟩ := and_tt hb
    obtain ⟨b1, hb⟩ := and_tt hb
    obtain ⟨b2, hb⟩ := and_tt hb
    have b3 := hb
    obtain ⟨n0, rfl, l0, u0⟩ := ins_nat b0 (by decide)
    have v0 : ((n0 : Nat) : Int) ≤ 8 := u0
    have w0 : (1 : Int) ≤ ((n0 : Nat) : Int) := l0
    obtain ⟨n1, rfl, l1, u1⟩ := ins_nat b1 (by decide)
    have v1 : ((n1 : Nat) : Int) ≤ 20000 := u1
    have w1 : (0 : Int) ≤ ((n1 : Nat) : Int) := l1
    obtain ⟨n2, rfl, l2, u2⟩ := ins_nat b2 (by decide)
    have v2 : ((n2 : Nat) : Int) ≤ 20000 := u2
    have w2 : (0 : Int) ≤ ((n2 : Nat) : Int) := l2
    obtain ⟨n3, rfl, l3, u3⟩ := ins_nat b3 (by decide)
    have v3 : ((n3 : Nat) : Int) ≤ 20000 := u3
    have w3 : (0 : Int) ≤ ((n3 : Nat) : Int) := l3
    exact ⟨True.intro, rfl⟩
theorem dec_15 {xs : List Int} (hl : xs.length = 3) : DecOk 15 [(0, 20000), (0, 20000), (0, 20000)] xs := by
  obtain ⟨x0, x1, x2, rfl⟩ := len3 hl
  have e : Vbemax.decode [[((15 : Nat) : Int), x0, x1, x2]] = Vbemax.guard (Vbemax.isD x0 && (Vbemax.isD x1 && (Vbemax.isD x2))) (.volumes x0.toNat x1.toNat x2.toNat) := rfl
  refine ⟨?_, fun c hc => ?_⟩
  · rw [e, guard_isSome]
    show _ = (Vbemax.inside x0 0 20000 && (Vbemax.inside x1 0 20000 && (Vbemax.inside x2 0 20000 && true)))
    rw [Bool.and_true]
    rfl
  · obtain ⟨hb, rfl⟩ := guard_some (e.symm.trans hc)
    obtain ⟨b0, hb⟩ := and_tt hb
    obtain ⟨b1, hb⟩ := and_tt hb
    have b2 := hb
    obtain ⟨n0, rfl, l0, u0⟩ := ins_nat b0 (by decide)
    have v0 : ((n0 : Nat) : Int) ≤ 20000 := u0
    have w0 : (0 : Int) ≤ ((n0 : Nat) : Int) := l0
    obtain ⟨n1, rfl, l1, u1⟩ := ins_nat b1 (by decide)
    have v1 : ((n1 : Nat) : Int) ≤ 20000 := u1
    have w1 : (0 : Int) ≤ ((n1 : Nat) : Int) := l1
    obtain ⟨n2, rfl, l2, u2⟩ := ins_nat b2 (by decide)
    have v2 : ((n2 : Nat) : Int) ≤ 20000 := u2
    have w2 : (0 : Int) ≤ ((n2 : Nat) : Int) := l2
    exact ⟨True.intro, rfl⟩
theorem dec_16 {xs : List Int} (hl : xs.length = 2) : DecOk 16 [(0, 20000), (0, 100)] xs := by
  obtain ⟨x0, x1, rfl⟩ := len2 hl
  have e : Vbemax.decode [[((16 : Nat) : Int), x0, x1]] = Vbemax.guard (Vbemax.isD x0 && (Vbemax.inside x1 0 100)) (.businessAfter x0.toNat x1.toNat) := rfl
  refine ⟨?_, fun c hc => ?_⟩
  · rw [e, guard_isSome]
    show _ = (Vbemax.inside x0 0 20000 && (Vbemax.inside x1 0 100 && true))
    rw [Bool.and_true]
    rfl
  · obtain ⟨hb, rfl⟩ := guard_some (e.symm.trans hc)
    obtain ⟨b0, hb⟩ := and_tt hb
    have b1 := hb
    obtain ⟨n0, rfl, l0, u0⟩ := ins_nat b0 (by decide)
    have v0 : ((n0 : Nat) : Int) ≤ 20000 := u0
    have w0 : (0 : Int) ≤ ((n0 : Nat) : Int) := l0
    obtain ⟨n1, rfl, l1, u1⟩ := ins_nat b1 (by decide)
    have v1 : ((n1 : Nat) : Int) ≤ 100 := u1
    have w1 : (0 : Int) ≤ ((n1 : Nat) : Int) := l1
    exact ⟨True.intro, rfl⟩
theorem dec_17 {xs : List Int} (hl : xs.length = 2) : DecOk 17 [(0, 20000), (0, 20000)] xs := by
  obtain ⟨x0, x1, rfl⟩ := len2 hl
  have e : Vbemax.decode [[((17 : Nat) : Int), x0, x1]] = Vbemax.guard (Vbemax.isD x0 && (Vbemax.isD x1)) (.businessBetween x0.toNat x1.toNat) := rfl
  refine ⟨?_, fun c hc => ?_⟩
  · rw [e, guard_isSome]
    show _ = (Vbemax.inside x0 0 20000 && (Vbemax.inside x1 0 20000 && true))
    rw [Bool.and_true]
    rfl
  · obtain ⟨hb, rfl⟩ := guard_some (e.symm.trans hc)
    obtain ⟨b0, hb⟩ := and_tt hb
    have b1 := hb
    obtain ⟨n0, rfl, l0, u0⟩ := ins_nat b0 (by decide)
    have v0 : ((n0 : Nat) : Int) ≤ 20000 := u0
    have w0 : (0 : Int) ≤ ((n0 : Nat) : Int) := l0
    obtain ⟨n1, rfl, l1, u1⟩ := ins_nat b1 (by decide)
    have v1 : ((n1 : Nat) : Int) ≤ 20000 := u1
    have w1 : (0 : Int) ≤ ((n1 : Nat) : Int) := l1
    exact ⟨True.intro, rfl⟩
theorem dec_18 {xs : List Int} (hl : xs.length = 1) : DecOk 18 [(1, 64)] xs := by
  obtain ⟨x0, rfl⟩ := len1 hl
  have e : Vbemax.decode [[((18 : Nat) : Int), x0]] = Vbemax.guard (Vbemax.isN x0) (.requestIs x0.toNat) := rfl
  refine ⟨?_, fun c hc => ?_⟩
  · rw [e, guard_isSome]
    show _ = (Vbemax.inside x0 1 64 && true)
    rw [Bool.and_true]
    rfl
  · obtain ⟨hb, rfl⟩ := guard_some (e.symm.trans hc)
    have b0 := hb
    obtain ⟨n0, rfl, l0, u0⟩ := ins_nat b0 (by decide)
    have v0 : ((n0 : Nat) : Int) ≤ 64 := u0
    have w0 : (1 : Int) ≤ ((n0 : Nat) : Int) := l0
    exact ⟨True.intro, rfl⟩
theorem dec_19 {xs : List Int} (hl : xs.length = 3) : DecOk 19 [(1, 16), (0, 20000), (0, 20000)] xs := by
  obtain ⟨x0, x1, x2, rfl⟩ := len3 hl
  have e : Vbemax.decode [[((19 : Nat) : Int), x0, x1, x2]] = Vbemax.guard (Vbemax.isP x0 && (Vbemax.isD x1 && (Vbemax.isD x2))) (.differs x0.toNat x1.toNat x2.toNat) := rfl
  refine ⟨?_, fun c hc => ?_⟩
  · rw [e, guard_isSome]
    show _ = (Vbemax.inside x0 1 16 && (Vbemax.inside x1 0 20000 && (Vbemax.inside x2 0 20000 && true)))
    rw [Bool.and_true]
    rfl
  · obtain ⟨hb, rfl⟩ := guard_some (e.symm.trans hc)
    obtain ⟨b0, hb⟩ := and_tt hb
    obtain ⟨b1, hb⟩ := and_tt hb
    have b2 := hb
    obtain ⟨n0, rfl, l0, u0⟩ := ins_nat b0 (by decide)
    have v0 : ((n0 : Nat) : Int) ≤ 16 := u0
    have w0 : (1 : Int) ≤ ((n0 : Nat) : Int) := l0
    obtain ⟨n1, rfl, l1, u1⟩ := ins_nat b1 (by decide)
    have v1 : ((n1 : Nat) : Int) ≤ 20000 := u1
    have w1 : (0 : Int) ≤ ((n1 : Nat) : Int) := l1
    obtain ⟨n2, rfl, l2, u2⟩ := ins_nat b2 (by decide)
    have v2 : ((n2 : Nat) : Int) ≤ 20000 := u2
    have w2 : (0 : Int) ≤ ((n2 : Nat) : Int) := l2
    exact ⟨True.intro, rfl⟩
theorem dec_20 {xs : List Int} (hl : xs.length = 3) : DecOk 20 [(1, 8), (0, 20000), (0, 20000)] xs := by
  obtain ⟨x0, x1, x2, rfl⟩ := len3 hl
  have e : Vbemax.decode [[((20 : Nat) : Int), x0, x1, x2]] = Vbemax.guard (Vbemax.isX x0 && (Vbemax.isD x1 && (Vbemax.isD x2))) (.supplied x0.toNat x1.toNat x2.toNat) := rfl
  refine ⟨?_, fun c hc => ?_⟩
  · rw [e, guard_isSome]
    show _ = (Vbemax.inside x0 1 8 && (Vbemax.inside x1 0 20000 && (Vbemax.inside x2 0 20000 && true)))
    rw [Bool.and_true]
    rfl
  · obtain ⟨hb, rfl⟩ := guard_some (e.symm.trans hc)
    obtain ⟨b0, hb⟩ := and_tt hb
    obtain ⟨b1, hb⟩ := and_tt hb
    have b2 := hb
    obtain ⟨n0, rfl, l0, u0⟩ := ins_nat b0 (by decide)
    have v0 : ((n0 : Nat) : Int) ≤ 8 := u0
    have w0 : (1 : Int) ≤ ((n0 : Nat) : Int) := l0
    obtain ⟨n1, rfl, l1, u1⟩ := ins_nat b1 (by decide)
    have v1 : ((n1 : Nat) : Int) ≤ 20000 := u1
    have w1 : (0 : Int) ≤ ((n1 : Nat) : Int) := l1
    obtain ⟨n2, rfl, l2, u2⟩ := ins_nat b2 (by decide)
    have v2 : ((n2 : Nat) : Int) ≤ 20000 := u2
    have w2 : (0 : Int) ≤ ((n2 : Nat) : Int) := l2
    exact ⟨True.intro, rfl⟩
theorem dec_21 {xs : List Int} (hl : xs.length = 1) : DecOk 21 [(1, 16)] xs := by
  obtain ⟨x0, rfl⟩ := len1 hl
  have e : Vbemax.decode [[((21 : Nat) : Int), x0]] = Vbemax.guard (Vbemax.isP x0) (.facts x0.toNat) := rfl
  refine ⟨?_, fun c hc => ?_⟩
  · rw [e, guard_isSome]
    show _ = (Vbemax.inside x0 1 16 && true)
    rw [Bool.and_true]
    rfl
  · obtain ⟨hb, rfl⟩ := guard_some (e.symm.trans hc)
    have b0 := hb
    obtain ⟨n0, rfl, l0, u0⟩ := ins_nat b0 (by decide)
    have v0 : ((n0 : Nat) : Int) ≤ 16 := u0
    have w0 : (1 : Int) ≤ ((n0 : Nat) : Int) := l0
    exact ⟨True.intro, rfl⟩
theorem dec_22 {xs : List Int} (hl : xs.length = 0) : DecOk 22 [] xs := by
  obtain rfl := len0 hl
  refine ⟨rfl, fun c hc => ?_⟩
  cases (show some Vbemax.Call.state = some c from hc)
  exact ⟨True.intro, rfl⟩
theorem dec_all : ∀ (i : Nat) (r : List (Int × Int)) (xs : List Int), rngs[i]? = some r → xs.length = r.length → DecOk i r xs
  | 0, r, xs, h, hl => by cases h; exact dec_0 hl
  | 1, r, xs, h, hl => by cases h; exact dec_1 hl
  | 2, r, xs, h, hl => by cases h; exact dec_2 hl
  | 3, r, xs, h, hl => by cases h; exact dec_3 hl
  | 4, r, xs, h, hl => by cases h; exact dec_4 hl
  | 5, r, xs, h, hl => by cases h; exact dec_5 hl
  | 6, r, xs, h, hl => by cases h; exact dec_6 hl
  | 7, r, xs, h, hl => by cases h; exact dec_7 hl
  | 8, r, xs, h, hl => by cases h; exact dec_8 hl
  | 9, r, xs, h, hl => by cases h; exact dec_9 hl
  | 10, r, xs, h, hl => by cases h; exact dec_10 hl
  | 11, r, xs, h, hl => by cases h; exact dec_11 hl
  | 12, r, xs, h, hl => by cases h; exact dec_12 hl
  | 13, r, xs, h, hl => by cases h; exact dec_13 hl
  | 14, r, xs, h, hl => by cases h; exact dec_14 hl
  | 15, r, xs, h, hl => by cases h; exact dec_15 hl
  | 16, r, xs, h, hl => by cases h; exact dec_16 hl
  | 17, r, xs, h, hl => by cases h; exact dec_17 hl
  | 18, r, xs, h, hl => by cases h; exact dec_18 hl
  | 19, r, xs, h, hl => by cases h; exact dec_19 hl
  | 20, r, xs, h, hl => by cases h; exact dec_20 hl
  | 21, r, xs, h, hl => by cases h; exact dec_21 hl
  | 22, r, xs, h, hl => by cases h; exact dec_22 hl
  | n + 23, r, xs, h, hl => by rw [List.getElem?_eq_none (by show 23 ≤ n + 23; omega)] at h; cases h
theorem Done.later {A : Adr} {H H1 : Hp} {a : Addr} {L : Lay} {Q : VK} {r : Vbemax.State × List Int} (D : Done A a L H Q r) (s1 : Same H H1) : Done A a L H1 Q r :=
  fun H2 L2 l f2 h2 hn hl => D H2 L2 l ((Frm.same s1).trans f2) h2 (s1.free hn) hl
section
variable {P : Program} {w : World} {K : PySem.W.Frag} {mg : Str → Option Value} {base : Heap} {A : Adr}
theorem rng_of {i : Nat} {row : List Str} (h : argK[i]? = some row) : rngs[i]? = some (row.map loHi) := by
  rw [← rngs_eq, List.getElem?_map, h]
  rfl
theorem stepN_none {s : Vbemax.State} {c : List (List Int)} (h : Vbemax.decode c = none) : Vbemax.stepNumbers s c = (s, [-1]) := by
  unfold Vbemax.stepNumbers
  rw [h]
theorem stepN_some {s : Vbemax.State} {c : List (List Int)} {cc : Vbemax.Call} (h : Vbemax.decode c = some cc) : Vbemax.stepNumbers s c = Vbemax.step s cc := by
  unfold Vbemax.stepNumbers
  rw [h]
def sp_qcg (A : Adr) : Sp := fun vs H Q _ => ∃ (a : Addr) (s : Vbemax.State) (L : Lay) (i g : Nat) (xs : List Int), vs = [.ref a, .int i, .ref g] ∧ H g = some (.lst (xs.map V.int)) ∧ argN[i]? = some xs.length ∧ Good s ∧ Ex s ∧ HA A H a s L ∧ Done A a L H Q (Vbemax.stepNumbers s [((i : Nat) : Int) :: xs])
theorem ok_qcg (T : Txt K mg A) (B : Tab P w K mg) : FnOk P w K mg base CX0 7 A.qcg.1 A.qcg.2 ["house", "call", "given"] (sp_qcg A) := by
  refine T.qcg.F.ok sc_qcg (fun vs H Q E h => ?_) (fun cdv An outer s0 H vs Q E hr h => ?_)
  · obtain ⟨a, s, L, i, g, xs, rfl, _⟩ := h
    rfl
  · obtain ⟨a, s, L, i, g, xs, rfl, hg, hn, hG, hE, hA, D⟩ := h
    have nd := sc_qcg.nd
    have hu := hu_of hr
    refine ⟨_, (pss_cons (ps_if (pt_not (pt_val (pe_call (ok_qbi T B) (hr.mono (by decide)) rfl T.qbi.g T.qbi.F.kp T.qbi.b .nil pass0 (pa_cons (pv 1) (pa_cons (pv 2) pa_nil))))) (pss_one (ps_ret (pe_lst (pa_cons (pe_un un_neg pe_int) pa_nil)))) pss_nil)
      (pss_cons (ps_if ((pw_and (pt_cmpR op_ne (pv 1) pe_int (nomark _)) (pw_and1 (pt_not (pt_val (pe_fl T (pv 0))))))).pt (pss_one (ps_ret (pe_lst (pa_cons (pe_un un_neg pe_int) pa_nil)))) pss_nil)
      (pss_cons (ps_if (pt_cmpR op_le (pv 1) (pe_co T.qcu) (nomark _)) (pss_one (ps_ret (pe_call (ok_qce T) (hr.mono (by decide)) rfl T.qce.g T.qce.F.kp T.qce.b .nil pass0 (pa_cons (pv 0) (pa_cons (pv 1) (pa_cons (pv 2) pa_nil)))))) pss_nil)
      (pss_one (ps_ret (pe_call (ok_qcf T) (hr.mono (by decide)) rfl T.qcf.g T.qcf.F.kp T.qcf.b .nil pass0 (pa_cons (pv 0) (pa_cons (pv 1) (pa_cons (pv 2) pa_nil))))))))), ?_⟩
    obtain ⟨row, hr1, hr2⟩ := row_at hn
    have hi : i < 23 := (List.getElem?_eq_some_iff.mp hr1).1
    obtain ⟨d1, d2⟩ := dec_all i (row.map loHi) xs (rng_of hr1) (by rw [List.length_map, hr2])
    refine ⟨_, rfl, _, rfl, i, g, row, xs, rfl, hr1, hg, hr2.symm, fun H1 s1 => ⟨_, rfl, ?_⟩⟩
    have hA1 := hA.same s1
    have D1 := D.later s1
    have hg1 := s1 _ _ hg
    refine ite2 (fun c => ?_) (fun c => ?_)
    · have c' : okN (row.map loHi) xs = false := by
        cases z : okN (row.map loHi) xs with
        | false => rfl
        | true => rw [z] at c; cases c
      rw [c'] at d1
      refine ⟨_, rfl, sz1, fun l hl => ?_⟩
      refine D1.lit hA1 (stepN_none ?_) (Same.refl _) hl rfl
      cases z : Vbemax.decode [((i : Nat) : Int) :: xs] with
      | none => rfl
      | some q => rw [z] at d1; cases d1
    have c' : okN (row.map loHi) xs = true := by
      cases z : okN (row.map loHi) xs with
      | true => rfl
      | false => rw [z] at c; exact absurd rfl c
    rw [c'] at d1
    obtain ⟨cc, hcc⟩ := Option.isSome_iff_exists.mp d1
    rw [stepN_some hcc] at D1
    obtain ⟨k1, k2⟩ := d2 cc hcc
    refine ⟨_, rfl, rfl, _, rfl, ?_⟩
    rw [show (V.int 0) = V.int ((0 : Nat) : Int) from rfl, deq]
    refine ite2 (fun c1 => ?_) (fun c1 => ?_)
    · have i0 : i ≠ 0 := fun z => by rw [decide_eq_true z] at c1; cases c1
      refine ⟨_, rfl, a, _, _, _, _, rfl, hA1.ho, T.qad.cl, T.qad.nf 0 _ rfl, rfl, _, rfl, ?_⟩
      refine ite2 (fun c2 => ?_) (fun c2 => ?_)
      · have o : s.opened = false := by
          cases z : s.opened with
          | false => rfl
          | true => rw [z] at c2; cases c2
        refine ⟨_, rfl, sz1, fun l hl => ?_⟩
        refine D1.lit (ans := [-2]) hA1 ?_ (Same.refl _) hl rfl
        unfold Vbemax.step
        rw [if_pos ⟨o, by rw [k2, decide_eq_false i0]⟩]
      · have o : s.opened = true := by
          cases z : s.opened with
          | true => rfl
          | false => rw [z] at c2; exact absurd rfl c2
        have ho : i ≠ 0 → s.opened = true := fun _ => o
        refine ⟨_, rfl, _, _, rfl, rfl, _, rfl, ?_⟩
        refine ite2 (fun c => ?_) (fun c => ?_)
        · have z := of_decide_eq_true c
          exact ⟨_, rfl, _, rfl, _, rfl, a, s, L, i, g, xs, cc, rfl, by omega, hg1, hn, hcc, hG, hE, ho, hA1, D1⟩
        · have z : ¬ ((i : Nat) : Int) ≤ 11 := fun z => c (decide_eq_true z)
          exact ⟨_, rfl, _, rfl, _, rfl, a, s, L, i, g, xs, cc, rfl, ⟨by omega, by omega⟩, hg1, hn, hcc, hG, hE, ho, hA1, D1⟩
    · have i0 : i = 0 := Classical.byContradiction fun z => c1 (by rw [decide_eq_false z]; rfl)
      have ho : i ≠ 0 → s.opened = true := fun z => absurd i0 z
      refine iteF ?_
      refine ⟨_, rfl, _, _, rfl, rfl, _, rfl, ?_⟩
      refine ite2 (fun c => ?_) (fun c => ?_)
      · have z := of_decide_eq_true c
        exact ⟨_, rfl, _, rfl, _, rfl, a, s, L, i, g, xs, cc, rfl, by omega, hg1, hn, hcc, hG, hE, ho, hA1, D1⟩
      · have z : ¬ ((i : Nat) : Int) ≤ 11 := fun z => c (decide_eq_true z)
        exact ⟨_, rfl, _, rfl, _, rfl, a, s, L, i, g, xs, cc, rfl, ⟨by omega, by omega⟩, hg1, hn, hcc, hG, hE, ho, hA1, D1⟩
theorem HA.off {H : Hp} {a b : Addr} {s : Vbemax.State} {L : Lay} {ys : List V} {o : HO} (h : HA A H a s L) (nf : ¬ Foot a L b) (hb : H b = some (.lst ys)) : HA A (upd H b o) a s L := by
  have k : ∀ c u, H c = some u → c ≠ b → (upd H b o) c = some u := fun c u e n => by rw [upd_ne n]; exact e
  refine ⟨k _ _ h.ho (fun z => nf (.inl z.symm)), k _ _ h.fl (fun z => nf (.inr (.inl z.symm))), k _ _ h.hl (fun z => nf (.inr (.inr (.inl z.symm)))), h.hk, k _ _ h.rq (fun z => nf (.inr (.inr (.inr (.inl z.symm))))), ?_, k _ _ h.fc (fun z => nf (.inr (.inr (.inr (.inr (.inl z.symm)))))), ?_, k _ _ h.vl (fun z => nf (.inr (.inr (.inr (.inr (.inr (.inl z.symm))))))), ?_, k _ _ h.bl (fun z => nf (.inr (.inr (.inr (.inr (.inr (.inr (.inl z.symm)))))))), h.fh, h.rfa, h.rv, h.fav, h.rnd, h.sm⟩
  · exact paired_same (fun p q ⟨d, z⟩ => ⟨d, k _ _ z (ne_of z hb (by intro q; cases q))⟩) h.rqs
  · exact paired_same (fun p q ⟨d, z⟩ => ⟨d, k _ _ z (ne_of z hb (by intro q; cases q))⟩) h.fcs
  · exact paired_same (fun p q ⟨d, z⟩ => ⟨d, k _ _ z (ne_of z hb (by intro q; cases q))⟩) h.vls
theorem stepN_good {s : Vbemax.State} {i : Nat} {r : List (Int × Int)} {xs : List Int} (hd : DecOk i r xs) (g : Good s) (x : Ex s) : Good (Vbemax.stepNumbers s [((i : Nat) : Int) :: xs]).1 ∧ Ex (Vbemax.stepNumbers s [((i : Nat) : Int) :: xs]).1 ∧ (Vbemax.stepNumbers s [((i : Nat) : Int) :: xs]).2.length ≤ 2000 := by
  cases e : Vbemax.decode [((i : Nat) : Int) :: xs] with
  | none =>
    rw [stepN_none e]
    exact ⟨g, x, (by decide : 1 ≤ 2000)⟩
  | some c =>
    rw [stepN_some e]
    exact ⟨good_step g (hd.2 c e).1, ex_step g x, ans_step g⟩
theorem cut_calls {l : List Int} {p n : Nat} (h : p + 1 + n ≤ l.length) : cutV (l.map V.int) (some (((p : Nat) : Int) + 1)) (some (((p : Nat) : Int) + 1 + ((n : Nat) : Int))) = ((l.drop (p + 1)).take n).map V.int := by
  unfold cutV
  rw [show (((p : Nat) : Int) + 1) = ((p + 1 : Nat) : Int) by omega, show (((p + 1 : Nat) : Int) + ((n : Nat) : Int)) = ((p + 1 + n : Nat) : Int) by omega, HT.sIx_nat, HT.sIx_nat, List.length_map, Nat.min_eq_left (show p + 1 ≤ l.length by omega), Nat.min_eq_left h, show p + 1 + n - (p + 1) = n by omega, ← List.map_drop, ← List.map_take]
def LoopI (A : Adr) (c0 x la : Addr) (l total : List Int) (H : Hp) (m : Nat) (σ : L2.St) (H' : Hp) : Prop :=
  ∃ (s : Vbemax.State) (L : Lay) (p f : Nat) (cs : List (List (List Int))) (acc : List Int) (v4 v5 v6 : Option V), σ = [some (.ref c0), some (.ref x), some (.ref la), some (.int p), v4, v5, v6] ∧ m = cs.length ∧ PyFlat.calls PyVbemax.shape f (l.drop p) = some cs ∧ acc ++ PyFlat.told (PyFlat.played VbemaxNeutral.step s cs) = total ∧ acc.length + 2001 * cs.length ≤ 600300 ∧
    Same H H' ∧ (∀ b, Foot x L b → H b = none) ∧ ¬ Foot x L la ∧ H la = none ∧ H' la = some (.lst (acc.map V.int)) ∧ HA A H' x s L ∧ Good s ∧ Ex s
def sp_qch (K : PySem.W.Frag) : Sp := fun vs H Q _ => ∃ (c0 : Addr) (l : List Int), vs = [.ref c0] ∧ SqL K H c0 (l.map V.int) ∧ PyVbemax.answers_asked l = true ∧ ∀ (H' : Hp) (p : Addr), H' p = some (.lst ((PyVbemax.answers l).map V.int)) → Q (.ref p) H'
theorem ok_qch (T : Txt K mg A) (B : Tab P w K mg) : FnOk P w K mg base CX0 8 A.qch.1 A.qch.2 ["calls"] (sp_qch K) := by
  refine T.qch.F.ok sc_qch (fun vs H Q E h => ?_) (fun cdv An outer s0 H vs Q E hr h => ?_)
  · obtain ⟨c0, l, rfl, _⟩ := h
    rfl
  · obtain ⟨c0, l, rfl, hsq0, hask, q⟩ := h
    have nd := sc_qch.nd
    have hu := hu_of hr
    refine ⟨_, (pss_cons (ps_set (i := 1) nd rfl (Or.inl rfl) (pe_make0 T.qad.M (ok_qad T) (hr.mono (by decide)) rfl T.qad.g T.qad.b .nil pass0))
      (pss_cons (ps_set (i := 2) nd rfl (Or.inl rfl) (pe_lst pa_nil))
      (pss_cons (ps_set (i := 3) nd rfl (Or.inl rfl) pe_int)
      (pss_cons (ps_while PassesOwn.never (pt_cmpR op_lt (pv 3) (pe_callB call_len_seq (by rfl) T.b_len PySem.boot_len (pa_cons (pv 0) pa_nil)) (nomark _)) (pss_cons (ps_set (i := 4) nd rfl (Or.inl rfl) (pe_ix ix_list (pv 0) (pv 3) (fun _ _ => rfl)))
      (pss_cons (ps_set (i := 5) nd rfl (Or.inl rfl) (pe_op op_add (pe_op op_add (pv 3) pe_int) (pe_call (ok_qbh T B) (hr.mono (by decide)) rfl T.qbh.g T.qbh.F.kp T.qbh.b .nil pass0 (pa_cons (pv 4) pa_nil))))
      (pss_cons (ps_set (i := 6) nd rfl (Or.inl rfl) (pe_call (ok_qcg T B) (hr.mono (by decide)) rfl T.qcg.g T.qcg.F.kp T.qcg.b .nil pass0 (pa_cons (pv 1) (pa_cons (pv 4) (pa_cons (pe_slice sl_list (pv 0) (po_some (pe_op op_add (pv 3) pe_int)) (po_some (pv 5))) pa_nil)))))
      (pss_cons (ps_expr (pe_bm PySem.F.plainAttrs_list PySem.F.slot_list_append PySem.F.type_list_append mt_append (pv 2) (pa_cons (pe_callB call_len_seq (by rfl) T.b_len PySem.boot_len (pa_cons (pv 6) pa_nil)) pa_nil)))
      (pss_cons (ps_expr (pe_bm PySem.F.plainAttrs_list PySem.F.slot_list_extend PySem.F.type_list_extend mt_extend (pv 2) (pa_cons (pv 6) pa_nil)))
      (pss_one (ps_set (i := 3) nd rfl (Or.inl rfl) (pv 5)))))))))
      (pss_one (ps_ret (pv 2))))))), ?_⟩
    obtain ⟨cs0, hcs0, hlen0, hans⟩ := asked_calls hask
    rw [hans] at q
    generalize htot : PyFlat.told (PyFlat.played VbemaxNeutral.step VbemaxNeutral.start cs0) = total at q
    refine fun x dx hx hdx hne => ⟨x, dx, rfl, upd_same, fun H1 L hA1 kp ft => ⟨rfl, ?_⟩⟩
    have s1 : Same H H1 := Same.made hx hdx kp
    have ft1 : ∀ b, Foot x L b → H b = none := fun b hb => by
      rcases ft b hb with z | z
      · rw [z]; exact hx
      · by_cases c : b = x
        · rw [c]; exact hx
        · rw [upd_ne c] at z
          by_cases c2 : b = dx
          · rw [c2]; exact hdx
          · rw [upd_ne c2] at z; exact z
    refine ⟨Nat.zero_le _, fun la hla => ?_⟩
    have s2 : Same H1 (upd H1 la (.lst [])) := same_new hla
    have hlaH : H la = none := s1.free hla
    have nfl : ¬ Foot x L la := foot_none hA1 hla
    refine ⟨LoopI A c0 x la l total H, ⟨cs0.length, Vbemax.start, L, 0, l.length, cs0, [], none, none, none, rfl, rfl, hcs0, htot, (by show 0 + 2001 * cs0.length ≤ 600300; omega), s1.trans s2, ft1, nfl, hlaH, upd_same, hA1.same s2, good_start, ex_start⟩, ?_⟩
    rintro m σ H' ⟨s, L, p, f, cs, acc, v4, v5, v6, rfl, rfl, hcs, hto, hacc, sH, hft, nf, hlaN, hla', hA', hG, hE⟩
    have hsq : SqL K H' c0 (l.map V.int) := sH.seq hsq0
    refine ⟨_, rfl, _, rfl, c0, _, rfl, .inl hsq, _, _, rfl, rfl, _, rfl, ?_⟩
    rw [dlt, List.length_map]
    refine ite2 (fun c => ?_) (fun c => ?_)
    · have hlt := of_decide_eq_true c
      have hd := List.drop_eq_getElem_cons hlt
      rw [hd] at hcs
      obtain ⟨i, n, f', cs', hp, hi, hn, hnl, ecs, hcs'⟩ := calls_cons hcs
      rw [List.length_drop] at hnl
      subst ecs
      refine ⟨LoopI A c0 x la l total H cs'.length, fun σ' H'' z => ⟨cs'.length, by rw [List.length_cons]; exact Nat.lt_succ_self _, z⟩, ?_⟩
      have hat : atI (l.map V.int) ((p : Nat) : Int) = some (V.int ((i : Nat) : Int)) := atI_nat (by rw [List.getElem?_map, List.getElem?_eq_getElem hlt, ← hp]; rfl)
      refine ⟨_, rfl, _, rfl, c0, _, _, _, rfl, rfl, hsq, hat, ?_⟩
      refine ⟨_, rfl, _, _, rfl, rfl, _, rfl, i, n, rfl, hn, _, _, rfl, rfl, ?_⟩
      refine ⟨_, rfl, _, rfl, _, rfl, _, rfl, _, _, rfl, rfl, _, rfl, _, rfl, _, rfl, c0, _, rfl, hsq, fun g hg => ?_⟩
      have hxl : ((l.drop (p + 1)).take n).length = n := by rw [List.length_take, List.length_drop]; exact Nat.min_eq_left hnl
      have sg := same_new (o := .lst (((l.drop (p + 1)).take n).map V.int)) hg
      rw [cut_calls (by omega)]
      obtain ⟨row, hr1, hr2⟩ := row_at hn
      have hD := dec_all i (row.map loHi) ((l.drop (p + 1)).take n) (rng_of hr1) (by rw [List.length_map, hr2, hxl])
      have hA3 := hA'.same sg
      have sH3 := sH.trans sg
      have hla3 := sg _ _ hla'
      refine ⟨x, s, L, i, g, _, rfl, upd_same, (by rw [hxl]; exact hn), hG, hE, hA3, fun H4 L4 l4 f4 hA4 hn4 hl4 => ?_⟩
      obtain ⟨g1, g2, g3⟩ := stepN_good (s := s) hD hG hE
      rw [hp] at hto
      have hto' : acc ++ PyFlat.told ((Vbemax.stepNumbers s [((i : Nat) : Int) :: (l.drop (p + 1)).take n]).2 :: PyFlat.played VbemaxNeutral.step (Vbemax.stepNumbers s [((i : Nat) : Int) :: (l.drop (p + 1)).take n]).1 cs') = total := hto
      rw [told_cons] at hto'
      generalize Vbemax.stepNumbers s [((i : Nat) : Int) :: (l.drop (p + 1)).take n] = sr at hA4 hl4 g1 g2 g3 hto'
      have hla4 : H4 la = some (.lst (acc.map V.int)) := f4.keep _ _ hla3 nf
      rw [List.length_cons] at hacc
      have hz : sizeLine = 16777216 := by decide
      have nla : l4 ≠ la := Ne.symm (ne_of_none hla3 hn4)
      refine ⟨_, rfl, .inl ⟨rfl, _, SqL.of hla4⟩, _, rfl, l4, _, rfl, .inl (SqL.of hl4), la, _, _, rfl, rfl, hla4, (by rw [List.length_map]; omega), ?_⟩
      refine ⟨_, rfl, .inl ⟨rfl, _, SqL.of upd_same⟩, _, rfl, la, l4, _, _, rfl, rfl, upd_same, (by rw [upd_ne nla]; exact hl4), (by rw [List.length_append, List.length_map, List.length_map]; simp; omega), ?_⟩
      rw [upd_upd]
      have nf4 : ¬ Foot x L4 la := fun z => by
        rcases f4.foot la z with z | z
        · exact nf z
        · rw [hla3] at z; cases z
      refine ⟨_, rfl, sr.1, L4, p + 1 + n, f', cs', acc ++ [((sr.2.length : Nat) : Int)] ++ sr.2, some (V.int ((i : Nat) : Int)), some (V.int (((p : Nat) : Int) + 1 + ((n : Nat) : Int))), some (V.ref l4), ?_, rfl, ?_, ?_, ?_, fun b o e => ?_, fun b hb => ?_, nf4, hlaN, ?_, hA4.off nf4 hla4, g1, g2⟩
      · show [some (V.ref c0), some (V.ref x), some (V.ref la), some (V.int (((p : Nat) : Int) + 1 + ((n : Nat) : Int))), _, _, _] = _
        rw [show ((p + 1 + n : Nat) : Int) = (((p : Nat) : Int) + 1 + ((n : Nat) : Int)) by omega]
      · rw [List.drop_drop] at hcs'
        exact hcs'
      · rw [← hto']
        simp
      · rw [List.length_append, List.length_append]
        simp
        omega
      · rw [upd_ne (ne_of_none e hlaN)]
        exact f4.keep _ _ (sH3 _ _ e) (fun z => by rw [hft b z] at e; cases e)
      · rcases f4.foot b hb with z | z
        · exact hft b z
        · exact sH3.free z
      · rw [upd_same, List.length_map]
        simp
    · have hge : l.length ≤ p := by
        have : ¬ p < l.length := fun z => c (decide_eq_true z)
        omega
      rw [List.drop_of_length_le hge] at hcs
      have e0 := calls_nil hcs
      subst e0
      refine ⟨_, rfl, q H' la ?_⟩
      rw [hla', ← hto]
      show _ = some (HO.lst ((acc ++ []).map V.int))
      rw [List.append_nil]
end
def BD (x qual : Str) (st : Stmt) (ps : List Str) : Prop := ∀ (kV doc pm : Value) (an : Option Addr) (cdv ct : Value) (us : List Value), us.length = ps.length → bindArgs (PySem.W.fnOf x qual (defArgs st) (defBody st) (defScope st) .none kV doc pm an cdv ct) ⟨us, []⟩ = pure (ps.zip us)
section
variable {w : World} {K : PySem.W.Frag} {mg : Str → Option Value} {h : Heap} {W : Prop}
theorem with_fn {name : Str} {st : Stmt} {ps : List Str} {f : Addr} {od an : Option Addr} {sl : Array (Option Value)} {oc kV dc pm cd ct : Value} (X : K.In h) (G : h.Ns mainGlobals mg)
    (hb : BD name name st ps)
    (a : PySem.W.nsIn K mainGlobals name = some (some (.ref f))) (l : K.lookup f = some ⟨oc, od, .func (PySem.W.fnOf name name (defArgs st) (defBody st) (defScope st) .none kV dc pm an cd ct), sl⟩) (c : PySem.W.codeIn K cd name = true) (k : PySem.W.keepIn K (.ref f) = true)
    (go : FnT K mg name st ps (f, PySem.W.fnOf name name (defArgs st) (defBody st) (defScope st) .none kV dc pm an cd ct) → W) : W :=
  have F := fun_mk (st := st) l c k
  go ⟨F, PySem.W.mg_of X G a, F.binds hb⟩
theorem with_cl {name qual : Str} {st : Stmt} {ps fields : List Str} {C f : Addr} {od an : Option Addr} {sl : Array (Option Value)} {oc kV dc pm cd ct : Value} (X : K.In h) (G : h.Ns mainGlobals mg)
    (hb : BD "__init__" qual st ps)
    (a : PySem.W.nsIn K mainGlobals name = some (some (.ref C))) (i : PySem.W.findIn K (.ref C) "__init__" = some (some (.ref f))) (n : PySem.W.isFn K (.ref f) = true)
    (l : K.lookup f = some ⟨oc, od, .func (PySem.W.fnOf "__init__" qual (defArgs st) (defBody st) (defScope st) .none kV dc pm an cd ct), sl⟩) (c : PySem.W.codeIn K cd qual = true) (k : PySem.W.keepIn K (.ref f) = true)
    (pg : PySem.W.plainGet K C Str.empty = true) (hd : PySem.W.hasDictIn K C = true) (po : PySem.W.plainOver K C = true) (sa : PySem.W.findIn K (.ref C) "__setattr__" = some (some (.builtin "object.__setattr__"))) (mk : PySem.W.makesIn K C = true) (kc : PySem.W.keepIn K (.ref C) = true)
    (go : ((∀ (i : Nat) (x : Str), fields[i]? = some x → NoAttr K C x) → ClT K mg name qual st ps C (f, PySem.W.fnOf "__init__" qual (defArgs st) (defBody st) (defScope st) .none kV dc pm an cd ct) fields) → W) : W :=
  have F := fun_mk (st := st) l c k
  go fun nf => ⟨⟨pg, hd, po, sa⟩, nf, PySem.W.mg_of X G a, ⟨mk, i, n, kc⟩, F, F.binds hb⟩
theorem with_nf {Z : Prop} (z : Z) (go : Z → W) : W := go z
theorem with_co {x : Str} {n : Int} {t : Tok} (X : K.In h) (G : h.Ns mainGlobals mg) (a : PySem.W.nsIn K mainGlobals x = some (some (.int n t))) (go : CoT mg x n → W) : W := go ⟨t, PySem.W.mg_of X G a⟩
theorem with_no {x : Str} (X : K.In h) (G : h.Ns mainGlobals mg) (a : PySem.W.nsIn K mainGlobals x = some none) (go : mg x = none → W) : W := go (PySem.W.mg_none_of X G a)
theorem bd_qaa : BD "__init__" "Request.__init__" s_qaa ["self", "point", "supplier", "start", "old", "deadline"] := fun _ _ _ _ _ _ us hl => match us, hl with | [_, _, _, _, _, _], _ => rfl
theorem nf_qaa {C : Addr} (n0 : PySem.W.findIn K (.ref C) "point" = some none) (n1 : PySem.W.findIn K (.ref C) "supplier" = some none) (n2 : PySem.W.findIn K (.ref C) "start" = some none) (n3 : PySem.W.findIn K (.ref C) "old" = some none) (n4 : PySem.W.findIn K (.ref C) "deadline" = some none) (n5 : PySem.W.findIn K (.ref C) "standing" = some none) : ∀ (i : Nat) (x : Str), (["point", "supplier", "start", "old", "deadline", "standing"] : List Str)[i]? = some x → NoAttr K C x
  | 0, x, h => by cases h; exact n0
  | 1, x, h => by cases h; exact n1
  | 2, x, h => by cases h; exact n2
  | 3, x, h => by cases h; exact n3
  | 4, x, h => by cases h; exact n4
  | 5, x, h => by cases h; exact n5
  | n + 6, x, h => by rw [List.getElem?_eq_none (by show 6 ≤ n + 6; omega)] at h; cases h
theorem bd_qab : BD "__init__" "Fact.__init__" s_qab ["self", "point", "first", "last", "supplier", "known_from"] := fun _ _ _ _ _ _ us hl => match us, hl with | [_, _, _, _, _, _], _ => rfl
theorem nf_qab {C : Addr} (n0 : PySem.W.findIn K (.ref C) "point" = some none) (n1 : PySem.W.findIn K (.ref C) "first" = some none) (n2 : PySem.W.findIn K (.ref C) "last" = some none) (n3 : PySem.W.findIn K (.ref C) "supplier" = some none) (n4 : PySem.W.findIn K (.ref C) "known_from" = some none) : ∀ (i : Nat) (x : Str), (["point", "first", "last", "supplier", "known_from"] : List Str)[i]? = some x → NoAttr K C x
  | 0, x, h => by cases h; exact n0
  | 1, x, h => by cases h; exact n1
  | 2, x, h => by cases h; exact n2
  | 3, x, h => by cases h; exact n3
  | 4, x, h => by cases h; exact n4
  | n + 5, x, h => by rw [List.getElem?_eq_none (by show 5 ≤ n + 5; omega)] at h; cases h
theorem bd_qac : BD "__init__" "Volume.__init__" s_qac ["self", "point", "day", "amount", "told_on"] := fun _ _ _ _ _ _ us hl => match us, hl with | [_, _, _, _, _], _ => rfl
theorem nf_qac {C : Addr} (n0 : PySem.W.findIn K (.ref C) "point" = some none) (n1 : PySem.W.findIn K (.ref C) "day" = some none) (n2 : PySem.W.findIn K (.ref C) "amount" = some none) (n3 : PySem.W.findIn K (.ref C) "told_on" = some none) : ∀ (i : Nat) (x : Str), (["point", "day", "amount", "told_on"] : List Str)[i]? = some x → NoAttr K C x
  | 0, x, h => by cases h; exact n0
  | 1, x, h => by cases h; exact n1
  | 2, x, h => by cases h; exact n2
  | 3, x, h => by cases h; exact n3
  | n + 4, x, h => by rw [List.getElem?_eq_none (by show 4 ≤ n + 4; omega)] at h; cases h
theorem bd_qad : BD "__init__" "House.__init__" s_qad ["self"] := fun _ _ _ _ _ _ us hl => match us, hl with | [_], _ => rfl
theorem nf_qad {C : Addr} (n0 : PySem.W.findIn K (.ref C) "opened" = some none) (n1 : PySem.W.findIn K (.ref C) "basic" = some none) (n2 : PySem.W.findIn K (.ref C) "suppliers" = some none) (n3 : PySem.W.findIn K (.ref C) "objection_time" = some none) (n4 : PySem.W.findIn K (.ref C) "notice" = some none) (n5 : PySem.W.findIn K (.ref C) "today" = some none) (n6 : PySem.W.findIn K (.ref C) "failed" = some none) (n7 : PySem.W.findIn K (.ref C) "holidays" = some none) (n8 : PySem.W.findIn K (.ref C) "points" = some none) (n9 : PySem.W.findIn K (.ref C) "requests" = some none) (n10 : PySem.W.findIn K (.ref C) "facts" = some none) (n11 : PySem.W.findIn K (.ref C) "volumes" = some none) (n12 : PySem.W.findIn K (.ref C) "bills" = some none) : ∀ (i : Nat) (x : Str), (["opened", "basic", "suppliers", "objection_time", "notice", "today", "failed", "holidays", "points", "requests", "facts", "volumes", "bills"] : List Str)[i]? = some x → NoAttr K C x
  | 0, x, h => by cases h; exact n0
  | 1, x, h => by cases h; exact n1
  | 2, x, h => by cases h; exact n2
  | 3, x, h => by cases h; exact n3
  | 4, x, h => by cases h; exact n4
  | 5, x, h => by cases h; exact n5
  | 6, x, h => by cases h; exact n6
  | 7, x, h => by cases h; exact n7
  | 8, x, h => by cases h; exact n8
  | 9, x, h => by cases h; exact n9
  | 10, x, h => by cases h; exact n10
  | 11, x, h => by cases h; exact n11
  | 12, x, h => by cases h; exact n12
  | n + 13, x, h => by rw [List.getElem?_eq_none (by show 13 ≤ n + 13; omega)] at h; cases h
theorem bd_qae : BD "is_free" "is_free" s_qae ["holidays", "day"] := fun _ _ _ _ _ _ us hl => match us, hl with | [_, _], _ => rfl
theorem bd_qaf : BD "business_after" "business_after" s_qaf ["holidays", "day", "n"] := fun _ _ _ _ _ _ us hl => match us, hl with | [_, _, _], _ => rfl
theorem bd_qag : BD "weekdays_until" "weekdays_until" s_qag ["day"] := fun _ _ _ _ _ _ us hl => match us, hl with | [_], _ => rfl
theorem bd_qah : BD "business_between" "business_between" s_qah ["holidays", "after", "until"] := fun _ _ _ _ _ _ us hl => match us, hl with | [_, _, _], _ => rfl
theorem bd_qai : BD "ask_business_after" "ask_business_after" s_qai ["house", "day", "n"] := fun _ _ _ _ _ _ us hl => match us, hl with | [_, _, _], _ => rfl
theorem bd_qaj : BD "ask_business_between" "ask_business_between" s_qaj ["house", "after", "until"] := fun _ _ _ _ _ _ us hl => match us, hl with | [_, _, _], _ => rfl
theorem bd_qak : BD "lacks_point" "lacks_point" s_qak ["house", "point"] := fun _ _ _ _ _ _ us hl => match us, hl with | [_, _], _ => rfl
theorem bd_qal : BD "lacks_supplier" "lacks_supplier" s_qal ["house", "supplier"] := fun _ _ _ _ _ _ us hl => match us, hl with | [_, _], _ => rfl
theorem bd_qam : BD "lacks_working_supplier" "lacks_working_supplier" s_qam ["house", "supplier"] := fun _ _ _ _ _ _ us hl => match us, hl with | [_, _], _ => rfl
theorem bd_qan : BD "waiting_requests" "waiting_requests" s_qan ["house"] := fun _ _ _ _ _ _ us hl => match us, hl with | [_], _ => rfl
theorem bd_qao : BD "too_many_facts" "too_many_facts" s_qao ["house", "new_facts", "waiting"] := fun _ _ _ _ _ _ us hl => match us, hl with | [_, _, _], _ => rfl
theorem bd_qap : BD "facts_known" "facts_known" s_qap ["house", "point", "known_at"] := fun _ _ _ _ _ _ us hl => match us, hl with | [_, _, _], _ => rfl
theorem bd_qaq : BD "supplier_by" "supplier_by" s_qaq ["facts", "basic", "day"] := fun _ _ _ _ _ _ us hl => match us, hl with | [_, _, _], _ => rfl
theorem bd_qar : BD "supplier_on" "supplier_on" s_qar ["house", "point", "day", "known_at"] := fun _ _ _ _ _ _ us hl => match us, hl with | [_, _, _, _], _ => rfl
theorem bd_qas : BD "days_of_change" "days_of_change" s_qas ["facts"] := fun _ _ _ _ _ _ us hl => match us, hl with | [_], _ => rfl
theorem bd_qat : BD "span_starts" "span_starts" s_qat ["house", "point", "known_at"] := fun _ _ _ _ _ _ us hl => match us, hl with | [_, _, _], _ => rfl
theorem bd_qau : BD "stretch_end" "stretch_end" s_qau ["house", "point", "day", "known_at"] := fun _ _ _ _ _ _ us hl => match us, hl with | [_, _, _, _], _ => rfl
theorem bd_qav : BD "stretches_of_difference" "stretches_of_difference" s_qav ["house", "point", "known_at", "other_known_at"] := fun _ _ _ _ _ _ us hl => match us, hl with | [_, _, _, _], _ => rfl
theorem bd_qaw : BD "amounts_known" "amounts_known" s_qaw ["house", "known_at"] := fun _ _ _ _ _ _ us hl => match us, hl with | [_, _], _ => rfl
theorem bd_qax : BD "supplier_volumes" "supplier_volumes" s_qax ["house", "first", "last", "known_at"] := fun _ _ _ _ _ _ us hl => match us, hl with | [_, _, _, _], _ => rfl
theorem bd_qay : BD "supplier_volume" "supplier_volume" s_qay ["house", "supplier", "first", "last", "known_at"] := fun _ _ _ _ _ _ us hl => match us, hl with | [_, _, _, _, _], _ => rfl
theorem bd_qaz : BD "vacate" "vacate" s_qaz ["house", "point", "day"] := fun _ _ _ _ _ _ us hl => match us, hl with | [_, _, _], _ => rfl
theorem bd_qba : BD "correct" "correct" s_qba ["house", "point", "first", "last", "supplier"] := fun _ _ _ _ _ _ us hl => match us, hl with | [_, _, _, _, _], _ => rfl
theorem bd_qbb : BD "replacing_facts" "replacing_facts" s_qbb ["house", "point", "supplier"] := fun _ _ _ _ _ _ us hl => match us, hl with | [_, _, _], _ => rfl
theorem bd_qbc : BD "fail" "fail" s_qbc ["house", "supplier"] := fun _ _ _ _ _ _ us hl => match us, hl with | [_, _], _ => rfl
theorem bd_qbd : BD "set_up" "set_up" s_qbd ["house", "basic", "suppliers", "objection_time", "notice"] := fun _ _ _ _ _ _ us hl => match us, hl with | [_, _, _, _, _], _ => rfl
theorem bd_qbe : BD "tell_holiday" "tell_holiday" s_qbe ["house", "day"] := fun _ _ _ _ _ _ us hl => match us, hl with | [_, _], _ => rfl
theorem bd_qbf : BD "add_point" "add_point" s_qbf ["house"] := fun _ _ _ _ _ _ us hl => match us, hl with | [_], _ => rfl
theorem bd_qbg : BD "ask_state" "ask_state" s_qbg ["house"] := fun _ _ _ _ _ _ us hl => match us, hl with | [_], _ => rfl
theorem bd_qbh : BD "argument_count" "argument_count" s_qbh ["call"] := fun _ _ _ _ _ _ us hl => match us, hl with | [_], _ => rfl
theorem bd_qbi : BD "are_within_ranges" "are_within_ranges" s_qbi ["call", "given"] := fun _ _ _ _ _ _ us hl => match us, hl with | [_, _], _ => rfl
theorem bd_qbj : BD "is_point_waiting" "is_point_waiting" s_qbj ["house", "point"] := fun _ _ _ _ _ _ us hl => match us, hl with | [_, _], _ => rfl
theorem bd_qbk : BD "is_start_refused" "is_start_refused" s_qbk ["house", "start"] := fun _ _ _ _ _ _ us hl => match us, hl with | [_, _], _ => rfl
theorem bd_qbl : BD "is_request_without_room" "is_request_without_room" s_qbl ["house"] := fun _ _ _ _ _ _ us hl => match us, hl with | [_], _ => rfl
theorem bd_qbm : BD "make_request" "make_request" s_qbm ["house", "point", "supplier", "start"] := fun _ _ _ _ _ _ us hl => match us, hl with | [_, _, _, _], _ => rfl
theorem bd_qbn : BD "lacks_waiting_request" "lacks_waiting_request" s_qbn ["house", "number"] := fun _ _ _ _ _ _ us hl => match us, hl with | [_, _], _ => rfl
theorem bd_qbo : BD "object_to" "object_to" s_qbo ["house", "number", "supplier"] := fun _ _ _ _ _ _ us hl => match us, hl with | [_, _, _], _ => rfl
theorem bd_qbp : BD "withdraw" "withdraw" s_qbp ["house", "number"] := fun _ _ _ _ _ _ us hl => match us, hl with | [_, _], _ => rfl
theorem bd_qbq : BD "due_requests" "due_requests" s_qbq ["house", "day"] := fun _ _ _ _ _ _ us hl => match us, hl with | [_, _], _ => rfl
theorem bd_qbr : BD "confirm" "confirm" s_qbr ["house", "request"] := fun _ _ _ _ _ _ us hl => match us, hl with | [_, _], _ => rfl
theorem bd_qbs : BD "go_to_day" "go_to_day" s_qbs ["house", "day"] := fun _ _ _ _ _ _ us hl => match us, hl with | [_, _], _ => rfl
theorem bd_qbt : BD "ask_request" "ask_request" s_qbt ["house", "number"] := fun _ _ _ _ _ _ us hl => match us, hl with | [_, _], _ => rfl
theorem bd_qbu : BD "accepted_with_rows" "accepted_with_rows" s_qbu ["rows"] := fun _ _ _ _ _ _ us hl => match us, hl with | [_], _ => rfl
theorem bd_qbv : BD "ask_who" "ask_who" s_qbv ["house", "point", "day", "known_at"] := fun _ _ _ _ _ _ us hl => match us, hl with | [_, _, _, _], _ => rfl
theorem bd_qbw : BD "ask_history" "ask_history" s_qbw ["house", "point", "known_at"] := fun _ _ _ _ _ _ us hl => match us, hl with | [_, _, _], _ => rfl
theorem bd_qbx : BD "ask_differs" "ask_differs" s_qbx ["house", "point", "known_at", "other_known_at"] := fun _ _ _ _ _ _ us hl => match us, hl with | [_, _, _, _], _ => rfl
theorem bd_qby : BD "ask_supplied" "ask_supplied" s_qby ["house", "supplier", "day", "known_at"] := fun _ _ _ _ _ _ us hl => match us, hl with | [_, _, _, _], _ => rfl
theorem bd_qbz : BD "ask_facts" "ask_facts" s_qbz ["house", "point"] := fun _ _ _ _ _ _ us hl => match us, hl with | [_, _], _ => rfl
theorem bd_qca : BD "tell_volume" "tell_volume" s_qca ["house", "point", "day", "amount"] := fun _ _ _ _ _ _ us hl => match us, hl with | [_, _, _, _], _ => rfl
theorem bd_qcb : BD "bill" "bill" s_qcb ["house", "supplier", "first", "last"] := fun _ _ _ _ _ _ us hl => match us, hl with | [_, _, _, _], _ => rfl
theorem bd_qcc : BD "ask_volume_of" "ask_volume_of" s_qcc ["house", "supplier", "first", "last", "known_at"] := fun _ _ _ _ _ _ us hl => match us, hl with | [_, _, _, _, _], _ => rfl
theorem bd_qcd : BD "ask_volumes" "ask_volumes" s_qcd ["house", "first", "last", "known_at"] := fun _ _ _ _ _ _ us hl => match us, hl with | [_, _, _, _], _ => rfl
theorem bd_qce : BD "change" "change" s_qce ["house", "call", "given"] := fun _ _ _ _ _ _ us hl => match us, hl with | [_, _, _], _ => rfl
theorem bd_qcf : BD "ask" "ask" s_qcf ["house", "call", "given"] := fun _ _ _ _ _ _ us hl => match us, hl with | [_, _, _], _ => rfl
theorem bd_qcg : BD "answer_call" "answer_call" s_qcg ["house", "call", "given"] := fun _ _ _ _ _ _ us hl => match us, hl with | [_, _, _], _ => rfl
theorem bd_qch : BD "answers" "answers" s_qch ["calls"] := fun _ _ _ _ _ _ us hl => match us, hl with | [_], _ => rfl
theorem sq_of {a : Addr} {vs : List V} {us : List Value} {ep : Nat} {sl : Array (Option Value)} {dd : Option Addr} (hk : K.lookup a = some ⟨.type "tuple", dd, .seq us.toArray ep, sl⟩) (hr : Vals vs us) (hz : us.length ≤ 1000) : ∀ H, SqT K H a vs := fun H => .inr ⟨_, us.toArray, ep, hk, rfl, rfl, by
  have : us.toArray.size = us.length := by simp
  rw [this]
  exact Nat.le_of_lt (small1000 hz), by simpa using hr⟩
theorem strs_vals : ∀ l : List (Str × Tok), Vals (l.map fun q => V.str q.1) (l.map fun q => Value.str q.1 q.2)
  | [] => .nil
  | q :: l => .cons ⟨q.2, rfl⟩ (strs_vals l)
theorem refs_vals : ∀ l : List Addr, Vals (l.map V.ref) (l.map Value.ref)
  | [] => .nil
  | q :: l => .cons rfl (refs_vals l)
def ent (w : World) (q : Str × Tok × Int × Tok) : DictEntry := ⟨PyData.keyHash w.params q.1, .str q.1 q.2.1, .int q.2.2.1 q.2.2.2⟩
theorem md_pairs {P : Program} : ∀ l : List (Str × Tok × Int × Tok), PySem.Pairs (mixKind P w) (l.map (ent w)) (l.map fun q => ((Sum.inr q.1 : Key), Value.int q.2.2.1 q.2.2.2))
  | [] => .nil
  | q :: l => .cons (mixKind_str P w q.1 q.2.1) rfl (md_pairs l)
theorem md_kv : ∀ l : List (Str × Tok × Int × Tok), KV (mKv (l.map fun q => (q.1, q.2.2.1))) (l.map fun q => ((Sum.inr q.1 : Key), Value.int q.2.2.1 q.2.2.2))
  | [] => .nil
  | q :: l => .cons ⟨rfl, q.2.2.2, rfl⟩ (md_kv l)
theorem md_mk {P : Program} {x : Str} {a : Addr} {ep : Nat} (l : List (Str × Tok × Int × Tok)) (hm : mg x = some (.ref a)) (hk : K.lookup a = some { cls := .type "dict", data := .dict (l.map (ent w)).toArray ep }) (nd : (l.map fun q => (Sum.inr q.1 : Key)).Nodup) : MDict P w K mg x (l.map fun q => (q.1, q.2.2.1)) := by
  refine ⟨a, _, (l.map (ent w)).toArray, ep, l.map fun q => ((Sum.inr q.1 : Key), Value.int q.2.2.1 q.2.2.2), hm, hk, ⟨rfl, rfl, rfl⟩, rfl, fun e he => ?_, by simpa using md_pairs l, ?_, md_kv l⟩
  · rw [List.mem_toArray, List.mem_map] at he
    obtain ⟨q, _, e1⟩ := he
    subst e1
    exact ⟨Sum.inr q.1, mixKind_str P w q.1 q.2.1, rfl⟩
  · rw [List.map_map]
    exact nd
theorem with_tab {a0 al ag a1 a2 a3 a4 a5 a6 a7 a8 a9 a10 a11 a12 a13 a14 a15 a16 a17 a18 a19 a20 a21 a22 a23 : Addr} {t1_0 t1_1 t1_2 t1_3 t2_0 t4_0 t5_0 t5_1 t5_2 t6_0 t6_1 t7_0 t8_0 t8_1 t9_0 t9_1 t9_2 t9_3 t10_0 t11_0 t11_1 t11_2 t12_0 t12_1 t12_2 t13_0 t13_1 t13_2 t14_0 t14_1 t15_0 t15_1 t15_2 t15_3 t16_0 t16_1 t16_2 t17_0 t17_1 t18_0 t18_1 t19_0 t20_0 t20_1 t20_2 t21_0 t21_1 t21_2 t22_0 yk0 yv0 yk1 yv1 yk2 yv2 yk3 yv3 yk4 yv4 yk5 yv5 yk6 yv6 zk0 zv0 zk1 zv1 zk2 zv2 zk3 zv3 zk4 zv4 zk5 zv5 zk6 zv6 : Tok} {e0 el eg e1 e2 e3 e4 e5 e6 e7 e8 e9 e10 e11 e12 e13 e14 e15 e16 e17 e18 e19 e20 e21 e22 e23 : Nat} {d0 d1 d2 d3 d4 d5 d6 d7 d8 d9 d10 d11 d12 d13 d14 d15 d16 d17 d18 d19 d20 d21 d22 d23 : Option Addr} {s0 s1 s2 s3 s4 s5 s6 s7 s8 s9 s10 s11 s12 s13 s14 s15 s16 s17 s18 s19 s20 s21 s22 s23 : Array (Option Value)} (X : K.In h) (G : h.Ns mainGlobals mg)
    (n0 : PySem.W.nsIn K mainGlobals "ARGUMENTS" = some (some (.ref a0))) (nl : PySem.W.nsIn K mainGlobals "LEAST" = some (some (.ref al))) (ng : PySem.W.nsIn K mainGlobals "GREATEST" = some (some (.ref ag)))
    (l0 : K.lookup a0 = some ⟨.type "tuple", d0, .seq #[.ref a1, .ref a2, .ref a3, .ref a4, .ref a5, .ref a6, .ref a7, .ref a8, .ref a9, .ref a10, .ref a11, .ref a12, .ref a13, .ref a14, .ref a15, .ref a16, .ref a17, .ref a18, .ref a19, .ref a20, .ref a21, .ref a22, .ref a23] e0, s0⟩)
    (l1 : K.lookup a1 = some ⟨.type "tuple", d1, .seq #[.str "supplier" t1_0, .str "supplier" t1_1, .str "business days" t1_2, .str "business days" t1_3] e1, s1⟩)
    (l2 : K.lookup a2 = some ⟨.type "tuple", d2, .seq #[.str "day" t2_0] e2, s2⟩)
    (l3 : K.lookup a3 = some ⟨.type "tuple", d3, .seq #[] e3, s3⟩)
    (l4 : K.lookup a4 = some ⟨.type "tuple", d4, .seq #[.str "day" t4_0] e4, s4⟩)
    (l5 : K.lookup a5 = some ⟨.type "tuple", d5, .seq #[.str "point" t5_0, .str "supplier" t5_1, .str "day" t5_2] e5, s5⟩)
    (l6 : K.lookup a6 = some ⟨.type "tuple", d6, .seq #[.str "request" t6_0, .str "supplier" t6_1] e6, s6⟩)
    (l7 : K.lookup a7 = some ⟨.type "tuple", d7, .seq #[.str "request" t7_0] e7, s7⟩)
    (l8 : K.lookup a8 = some ⟨.type "tuple", d8, .seq #[.str "point" t8_0, .str "day" t8_1] e8, s8⟩)
    (l9 : K.lookup a9 = some ⟨.type "tuple", d9, .seq #[.str "point" t9_0, .str "day" t9_1, .str "day" t9_2, .str "supplier" t9_3] e9, s9⟩)
    (l10 : K.lookup a10 = some ⟨.type "tuple", d10, .seq #[.str "supplier" t10_0] e10, s10⟩)
    (l11 : K.lookup a11 = some ⟨.type "tuple", d11, .seq #[.str "point" t11_0, .str "day" t11_1, .str "amount" t11_2] e11, s11⟩)
    (l12 : K.lookup a12 = some ⟨.type "tuple", d12, .seq #[.str "supplier" t12_0, .str "day" t12_1, .str "day" t12_2] e12, s12⟩)
    (l13 : K.lookup a13 = some ⟨.type "tuple", d13, .seq #[.str "point" t13_0, .str "day" t13_1, .str "day" t13_2] e13, s13⟩)
    (l14 : K.lookup a14 = some ⟨.type "tuple", d14, .seq #[.str "point" t14_0, .str "day" t14_1] e14, s14⟩)
    (l15 : K.lookup a15 = some ⟨.type "tuple", d15, .seq #[.str "supplier" t15_0, .str "day" t15_1, .str "day" t15_2, .str "day" t15_3] e15, s15⟩)
    (l16 : K.lookup a16 = some ⟨.type "tuple", d16, .seq #[.str "day" t16_0, .str "day" t16_1, .str "day" t16_2] e16, s16⟩)
    (l17 : K.lookup a17 = some ⟨.type "tuple", d17, .seq #[.str "day" t17_0, .str "business days behind" t17_1] e17, s17⟩)
    (l18 : K.lookup a18 = some ⟨.type "tuple", d18, .seq #[.str "day" t18_0, .str "day" t18_1] e18, s18⟩)
    (l19 : K.lookup a19 = some ⟨.type "tuple", d19, .seq #[.str "request" t19_0] e19, s19⟩)
    (l20 : K.lookup a20 = some ⟨.type "tuple", d20, .seq #[.str "point" t20_0, .str "day" t20_1, .str "day" t20_2] e20, s20⟩)
    (l21 : K.lookup a21 = some ⟨.type "tuple", d21, .seq #[.str "supplier" t21_0, .str "day" t21_1, .str "day" t21_2] e21, s21⟩)
    (l22 : K.lookup a22 = some ⟨.type "tuple", d22, .seq #[.str "point" t22_0] e22, s22⟩)
    (l23 : K.lookup a23 = some ⟨.type "tuple", d23, .seq #[] e23, s23⟩)
    (ll : K.lookup al = some { cls := .type "dict", data := .dict #[⟨PyData.keyHash w.params "supplier", .str "supplier" yk0, .int 1 yv0⟩, ⟨PyData.keyHash w.params "business days", .str "business days" yk1, .int 1 yv1⟩, ⟨PyData.keyHash w.params "business days behind", .str "business days behind" yk2, .int 0 yv2⟩, ⟨PyData.keyHash w.params "day", .str "day" yk3, .int 0 yv3⟩, ⟨PyData.keyHash w.params "point", .str "point" yk4, .int 1 yv4⟩, ⟨PyData.keyHash w.params "request", .str "request" yk5, .int 1 yv5⟩, ⟨PyData.keyHash w.params "amount", .str "amount" yk6, .int 0 yv6⟩] el }) (lg : K.lookup ag = some { cls := .type "dict", data := .dict #[⟨PyData.keyHash w.params "supplier", .str "supplier" zk0, .int 8 zv0⟩, ⟨PyData.keyHash w.params "business days", .str "business days" zk1, .int 30 zv1⟩, ⟨PyData.keyHash w.params "business days behind", .str "business days behind" zk2, .int 100 zv2⟩, ⟨PyData.keyHash w.params "day", .str "day" zk3, .int 20000 zv3⟩, ⟨PyData.keyHash w.params "point", .str "point" zk4, .int 16 zv4⟩, ⟨PyData.keyHash w.params "request", .str "request" zk5, .int 64 zv5⟩, ⟨PyData.keyHash w.params "amount", .str "amount" zk6, .int 1000000000 zv6⟩] eg })
    (go : (∀ P, Tab P w K mg) → W) : W := by
  refine go fun P => ⟨⟨a0, [a1, a2, a3, a4, a5, a6, a7, a8, a9, a10, a11, a12, a13, a14, a15, a16, a17, a18, a19, a20, a21, a22, a23], PySem.W.mg_of X G n0, sq_of (us := ([a1, a2, a3, a4, a5, a6, a7, a8, a9, a10, a11, a12, a13, a14, a15, a16, a17, a18, a19, a20, a21, a22, a23] : List Addr).map Value.ref) l0 (refs_vals [a1, a2, a3, a4, a5, a6, a7, a8, a9, a10, a11, a12, a13, a14, a15, a16, a17, a18, a19, a20, a21, a22, a23]) (by show 23 ≤ 1000; decide), rfl, ?_⟩, ?_, ?_⟩
  · intro i a row h1 h2
    match i, h1, h2 with
    | 0, h1, h2 => cases h1; cases h2; exact sq_of (us := ([("supplier", t1_0), ("supplier", t1_1), ("business days", t1_2), ("business days", t1_3)] : List (Str × Tok)).map fun q : Str × Tok => Value.str q.1 q.2) l1 (strs_vals [("supplier", t1_0), ("supplier", t1_1), ("business days", t1_2), ("business days", t1_3)]) (by show 4 ≤ 1000; decide)
    | 1, h1, h2 => cases h1; cases h2; exact sq_of (us := ([("day", t2_0)] : List (Str × Tok)).map fun q : Str × Tok => Value.str q.1 q.2) l2 (strs_vals [("day", t2_0)]) (by show 1 ≤ 1000; decide)
    | 2, h1, h2 => cases h1; cases h2; exact sq_of (us := ([] : List (Str × Tok)).map fun q : Str × Tok => Value.str q.1 q.2) l3 (strs_vals []) (by show 0 ≤ 1000; decide)
    | 3, h1, h2 => cases h1; cases h2; exact sq_of (us := ([("day", t4_0)] : List (Str × Tok)).map fun q : Str × Tok => Value.str q.1 q.2) l4 (strs_vals [("day", t4_0)]) (by show 1 ≤ 1000; decide)
    | 4, h1, h2 => cases h1; cases h2; exact sq_of (us := ([("point", t5_0), ("supplier", t5_1), ("day", t5_2)] : List (Str × Tok)).map fun q : Str × Tok => Value.str q.1 q.2) l5 (strs_vals [("point", t5_0), ("supplier", t5_1), ("day", t5_2)]) (by show 3 ≤ 1000; decide)
    | 5, h1, h2 => cases h1; cases h2; exact sq_of (us := ([("request", t6_0), ("supplier", t6_1)] : List (Str × Tok)).map fun q : Str × Tok => Value.str q.1 q.2) l6 (strs_vals [("request", t6_0), ("supplier", t6_1)]) (by show 2 ≤ 1000; decide)
    | 6, h1, h2 => cases h1; cases h2; exact sq_of (us := ([("request", t7_0)] : List (Str × Tok)).map fun q : Str × Tok => Value.str q.1 q.2) l7 (strs_vals [("request", t7_0)]) (by show 1 ≤ 1000; decide)
    | 7, h1, h2 => cases h1; cases h2; exact sq_of (us := ([("point", t8_0), ("day", t8_1)] : List (Str × Tok)).map fun q : Str × Tok => Value.str q.1 q.2) l8 (strs_vals [("point", t8_0), ("day", t8_1)]) (by show 2 ≤ 1000; decide)
    | 8, h1, h2 => cases h1; cases h2; exact sq_of (us := ([("point", t9_0), ("day", t9_1), ("day", t9_2), ("supplier", t9_3)] : List (Str × Tok)).map fun q : Str × Tok => Value.str q.1 q.2) l9 (strs_vals [("point", t9_0), ("day", t9_1), ("day", t9_2), ("supplier", t9_3)]) (by show 4 ≤ 1000; decide)
    | 9, h1, h2 => cases h1; cases h2; exact sq_of (us := ([("supplier", t10_0)] : List (Str × Tok)).map fun q : Str × Tok => Value.str q.1 q.2) l10 (strs_vals [("supplier", t10_0)]) (by show 1 ≤ 1000; decide)
    | 10, h1, h2 => cases h1; cases h2; exact sq_of (us := ([("point", t11_0), ("day", t11_1), ("amount", t11_2)] : List (Str × Tok)).map fun q : Str × Tok => Value.str q.1 q.2) l11 (strs_vals [("point", t11_0), ("day", t11_1), ("amount", t11_2)]) (by show 3 ≤ 1000; decide)
    | 11, h1, h2 => cases h1; cases h2; exact sq_of (us := ([("supplier", t12_0), ("day", t12_1), ("day", t12_2)] : List (Str × Tok)).map fun q : Str × Tok => Value.str q.1 q.2) l12 (strs_vals [("supplier", t12_0), ("day", t12_1), ("day", t12_2)]) (by show 3 ≤ 1000; decide)
    | 12, h1, h2 => cases h1; cases h2; exact sq_of (us := ([("point", t13_0), ("day", t13_1), ("day", t13_2)] : List (Str × Tok)).map fun q : Str × Tok => Value.str q.1 q.2) l13 (strs_vals [("point", t13_0), ("day", t13_1), ("day", t13_2)]) (by show 3 ≤ 1000; decide)
    | 13, h1, h2 => cases h1; cases h2; exact sq_of (us := ([("point", t14_0), ("day", t14_1)] : List (Str × Tok)).map fun q : Str × Tok => Value.str q.1 q.2) l14 (strs_vals [("point", t14_0), ("day", t14_1)]) (by show 2 ≤ 1000; decide)
    | 14, h1, h2 => cases h1; cases h2; exact sq_of (us := ([("supplier", t15_0), ("day", t15_1), ("day", t15_2), ("day", t15_3)] : List (Str × Tok)).map fun q : Str × Tok => Value.str q.1 q.2) l15 (strs_vals [("supplier", t15_0), ("day", t15_1), ("day", t15_2), ("day", t15_3)]) (by show 4 ≤ 1000; decide)
    | 15, h1, h2 => cases h1; cases h2; exact sq_of (us := ([("day", t16_0), ("day", t16_1), ("day", t16_2)] : List (Str × Tok)).map fun q : Str × Tok => Value.str q.1 q.2) l16 (strs_vals [("day", t16_0), ("day", t16_1), ("day", t16_2)]) (by show 3 ≤ 1000; decide)
    | 16, h1, h2 => cases h1; cases h2; exact sq_of (us := ([("day", t17_0), ("business days behind", t17_1)] : List (Str × Tok)).map fun q : Str × Tok => Value.str q.1 q.2) l17 (strs_vals [("day", t17_0), ("business days behind", t17_1)]) (by show 2 ≤ 1000; decide)
    | 17, h1, h2 => cases h1; cases h2; exact sq_of (us := ([("day", t18_0), ("day", t18_1)] : List (Str × Tok)).map fun q : Str × Tok => Value.str q.1 q.2) l18 (strs_vals [("day", t18_0), ("day", t18_1)]) (by show 2 ≤ 1000; decide)
    | 18, h1, h2 => cases h1; cases h2; exact sq_of (us := ([("request", t19_0)] : List (Str × Tok)).map fun q : Str × Tok => Value.str q.1 q.2) l19 (strs_vals [("request", t19_0)]) (by show 1 ≤ 1000; decide)
    | 19, h1, h2 => cases h1; cases h2; exact sq_of (us := ([("point", t20_0), ("day", t20_1), ("day", t20_2)] : List (Str × Tok)).map fun q : Str × Tok => Value.str q.1 q.2) l20 (strs_vals [("point", t20_0), ("day", t20_1), ("day", t20_2)]) (by show 3 ≤ 1000; decide)
    | 20, h1, h2 => cases h1; cases h2; exact sq_of (us := ([("supplier", t21_0), ("day", t21_1), ("day", t21_2)] : List (Str × Tok)).map fun q : Str × Tok => Value.str q.1 q.2) l21 (strs_vals [("supplier", t21_0), ("day", t21_1), ("day", t21_2)]) (by show 3 ≤ 1000; decide)
    | 21, h1, h2 => cases h1; cases h2; exact sq_of (us := ([("point", t22_0)] : List (Str × Tok)).map fun q : Str × Tok => Value.str q.1 q.2) l22 (strs_vals [("point", t22_0)]) (by show 1 ≤ 1000; decide)
    | 22, h1, h2 => cases h1; cases h2; exact sq_of (us := ([] : List (Str × Tok)).map fun q : Str × Tok => Value.str q.1 q.2) l23 (strs_vals []) (by show 0 ≤ 1000; decide)
    | n + 23, h1, h2 => rw [List.getElem?_eq_none (by show 23 ≤ n + 23; omega)] at h2; cases h2
  · exact md_mk [("supplier", yk0, 1, yv0), ("business days", yk1, 1, yv1), ("business days behind", yk2, 0, yv2), ("day", yk3, 0, yv3), ("point", yk4, 1, yv4), ("request", yk5, 1, yv5), ("amount", yk6, 0, yv6)] (PySem.W.mg_of X G nl) ll (by show ([Sum.inr "supplier", Sum.inr "business days", Sum.inr "business days behind", Sum.inr "day", Sum.inr "point", Sum.inr "request", Sum.inr "amount"] : List Key).Nodup; decide +kernel)
  · exact md_mk [("supplier", zk0, 8, zv0), ("business days", zk1, 30, zv1), ("business days behind", zk2, 100, zv2), ("day", zk3, 20000, zv3), ("point", zk4, 16, zv4), ("request", zk5, 64, zv5), ("amount", zk6, 1000000000, zv6)] (PySem.W.mg_of X G ng) lg (by show ([Sum.inr "supplier", Sum.inr "business days", Sum.inr "business days behind", Sum.inr "day", Sum.inr "point", Sum.inr "request", Sum.inr "amount"] : List Key).Nodup; decide +kernel)
theorem fin {P : Program} {fa : Addr} {c_qaa : Addr} {i_qaa : Addr × FuncData} {c_qab : Addr} {i_qab : Addr × FuncData} {c_qac : Addr} {i_qac : Addr × FuncData} {c_qad : Addr} {i_qad : Addr × FuncData} {f_qae : Addr × FuncData} {f_qaf : Addr × FuncData} {f_qag : Addr × FuncData} {f_qah : Addr × FuncData} {f_qai : Addr × FuncData} {f_qaj : Addr × FuncData} {f_qak : Addr × FuncData} {f_qal : Addr × FuncData} {f_qam : Addr × FuncData} {f_qan : Addr × FuncData} {f_qao : Addr × FuncData} {f_qap : Addr × FuncData} {f_qaq : Addr × FuncData} {f_qar : Addr × FuncData} {f_qas : Addr × FuncData} {f_qat : Addr × FuncData} {f_qau : Addr × FuncData} {f_qav : Addr × FuncData} {f_qaw : Addr × FuncData} {f_qax : Addr × FuncData} {f_qay : Addr × FuncData} {f_qaz : Addr × FuncData} {f_qba : Addr × FuncData} {f_qbb : Addr × FuncData} {f_qbc : Addr × FuncData} {f_qbd : Addr × FuncData} {f_qbe : Addr × FuncData} {f_qbf : Addr × FuncData} {f_qbg : Addr × FuncData} {f_qbh : Addr × FuncData} {f_qbi : Addr × FuncData} {f_qbj : Addr × FuncData} {f_qbk : Addr × FuncData} {f_qbl : Addr × FuncData} {f_qbm : Addr × FuncData} {f_qbn : Addr × FuncData} {f_qbo : Addr × FuncData} {f_qbp : Addr × FuncData} {f_qbq : Addr × FuncData} {f_qbr : Addr × FuncData} {f_qbs : Addr × FuncData} {f_qbt : Addr × FuncData} {f_qbu : Addr × FuncData} {f_qbv : Addr × FuncData} {f_qbw : Addr × FuncData} {f_qbx : Addr × FuncData} {f_qby : Addr × FuncData} {f_qbz : Addr × FuncData} {f_qca : Addr × FuncData} {f_qcb : Addr × FuncData} {f_qcc : Addr × FuncData} {f_qcd : Addr × FuncData} {f_qce : Addr × FuncData} {f_qcf : Addr × FuncData} {f_qcg : Addr × FuncData} {f_qch : Addr × FuncData} (X : K.In h) (G : h.Ns mainGlobals mg) (hfa : mg "answers" = some (.ref fa)) (B : ∀ P, Tab P w K mg) (hb : ∀ (s : Shared) (us : List Value), us.length = (["calls"] : List Str).length → BindsTo s f_qch.2 ⟨us, []⟩ ((["calls"] : List Str).zip us))
    (F_qaa : ClT K mg "Request" "Request.__init__" s_qaa ["self", "point", "supplier", "start", "old", "deadline"] c_qaa i_qaa ["point", "supplier", "start", "old", "deadline", "standing"])
    (F_qab : ClT K mg "Fact" "Fact.__init__" s_qab ["self", "point", "first", "last", "supplier", "known_from"] c_qab i_qab ["point", "first", "last", "supplier", "known_from"])
    (F_qac : ClT K mg "Volume" "Volume.__init__" s_qac ["self", "point", "day", "amount", "told_on"] c_qac i_qac ["point", "day", "amount", "told_on"])
    (F_qad : ClT K mg "House" "House.__init__" s_qad ["self"] c_qad i_qad ["opened", "basic", "suppliers", "objection_time", "notice", "today", "failed", "holidays", "points", "requests", "facts", "volumes", "bills"])
    (F_qae : FnT K mg "is_free" s_qae ["holidays", "day"] f_qae)
    (F_qaf : FnT K mg "business_after" s_qaf ["holidays", "day", "n"] f_qaf)
    (F_qag : FnT K mg "weekdays_until" s_qag ["day"] f_qag)
    (F_qah : FnT K mg "business_between" s_qah ["holidays", "after", "until"] f_qah)
    (F_qai : FnT K mg "ask_business_after" s_qai ["house", "day", "n"] f_qai)
    (F_qaj : FnT K mg "ask_business_between" s_qaj ["house", "after", "until"] f_qaj)
    (F_qak : FnT K mg "lacks_point" s_qak ["house", "point"] f_qak)
    (F_qal : FnT K mg "lacks_supplier" s_qal ["house", "supplier"] f_qal)
    (F_qam : FnT K mg "lacks_working_supplier" s_qam ["house", "supplier"] f_qam)
    (F_qan : FnT K mg "waiting_requests" s_qan ["house"] f_qan)
    (F_qao : FnT K mg "too_many_facts" s_qao ["house", "new_facts", "waiting"] f_qao)
    (F_qap : FnT K mg "facts_known" s_qap ["house", "point", "known_at"] f_qap)
    (F_qaq : FnT K mg "supplier_by" s_qaq ["facts", "basic", "day"] f_qaq)
    (F_qar : FnT K mg "supplier_on" s_qar ["house", "point", "day", "known_at"] f_qar)
    (F_qas : FnT K mg "days_of_change" s_qas ["facts"] f_qas)
    (F_qat : FnT K mg "span_starts" s_qat ["house", "point", "known_at"] f_qat)
    (F_qau : FnT K mg "stretch_end" s_qau ["house", "point", "day", "known_at"] f_qau)
    (F_qav : FnT K mg "stretches_of_difference" s_qav ["house", "point", "known_at", "other_known_at"] f_qav)
    (F_qaw : FnT K mg "amounts_known" s_qaw ["house", "known_at"] f_qaw)
    (F_qax : FnT K mg "supplier_volumes" s_qax ["house", "first", "last", "known_at"] f_qax)
    (F_qay : FnT K mg "supplier_volume" s_qay ["house", "supplier", "first", "last", "known_at"] f_qay)
    (F_qaz : FnT K mg "vacate" s_qaz ["house", "point", "day"] f_qaz)
    (F_qba : FnT K mg "correct" s_qba ["house", "point", "first", "last", "supplier"] f_qba)
    (F_qbb : FnT K mg "replacing_facts" s_qbb ["house", "point", "supplier"] f_qbb)
    (F_qbc : FnT K mg "fail" s_qbc ["house", "supplier"] f_qbc)
    (F_qbd : FnT K mg "set_up" s_qbd ["house", "basic", "suppliers", "objection_time", "notice"] f_qbd)
    (F_qbe : FnT K mg "tell_holiday" s_qbe ["house", "day"] f_qbe)
    (F_qbf : FnT K mg "add_point" s_qbf ["house"] f_qbf)
    (F_qbg : FnT K mg "ask_state" s_qbg ["house"] f_qbg)
    (F_qbh : FnT K mg "argument_count" s_qbh ["call"] f_qbh)
    (F_qbi : FnT K mg "are_within_ranges" s_qbi ["call", "given"] f_qbi)
    (F_qbj : FnT K mg "is_point_waiting" s_qbj ["house", "point"] f_qbj)
    (F_qbk : FnT K mg "is_start_refused" s_qbk ["house", "start"] f_qbk)
    (F_qbl : FnT K mg "is_request_without_room" s_qbl ["house"] f_qbl)
    (F_qbm : FnT K mg "make_request" s_qbm ["house", "point", "supplier", "start"] f_qbm)
    (F_qbn : FnT K mg "lacks_waiting_request" s_qbn ["house", "number"] f_qbn)
    (F_qbo : FnT K mg "object_to" s_qbo ["house", "number", "supplier"] f_qbo)
    (F_qbp : FnT K mg "withdraw" s_qbp ["house", "number"] f_qbp)
    (F_qbq : FnT K mg "due_requests" s_qbq ["house", "day"] f_qbq)
    (F_qbr : FnT K mg "confirm" s_qbr ["house", "request"] f_qbr)
    (F_qbs : FnT K mg "go_to_day" s_qbs ["house", "day"] f_qbs)
    (F_qbt : FnT K mg "ask_request" s_qbt ["house", "number"] f_qbt)
    (F_qbu : FnT K mg "accepted_with_rows" s_qbu ["rows"] f_qbu)
    (F_qbv : FnT K mg "ask_who" s_qbv ["house", "point", "day", "known_at"] f_qbv)
    (F_qbw : FnT K mg "ask_history" s_qbw ["house", "point", "known_at"] f_qbw)
    (F_qbx : FnT K mg "ask_differs" s_qbx ["house", "point", "known_at", "other_known_at"] f_qbx)
    (F_qby : FnT K mg "ask_supplied" s_qby ["house", "supplier", "day", "known_at"] f_qby)
    (F_qbz : FnT K mg "ask_facts" s_qbz ["house", "point"] f_qbz)
    (F_qca : FnT K mg "tell_volume" s_qca ["house", "point", "day", "amount"] f_qca)
    (F_qcb : FnT K mg "bill" s_qcb ["house", "supplier", "first", "last"] f_qcb)
    (F_qcc : FnT K mg "ask_volume_of" s_qcc ["house", "supplier", "first", "last", "known_at"] f_qcc)
    (F_qcd : FnT K mg "ask_volumes" s_qcd ["house", "first", "last", "known_at"] f_qcd)
    (F_qce : FnT K mg "change" s_qce ["house", "call", "given"] f_qce)
    (F_qcf : FnT K mg "ask" s_qcf ["house", "call", "given"] f_qcf)
    (F_qcg : FnT K mg "answer_call" s_qcg ["house", "call", "given"] f_qcg)
    (F_qch : FnT K mg "answers" s_qch ["calls"] f_qch)
    (C_qci : CoT mg "LAST_DAY" 20000)
    (C_qcj : CoT mg "WAITING" 0)
    (C_qck : CoT mg "CONFIRMED" 1)
    (C_qcl : CoT mg "OBJECTED_TO" 2)
    (C_qcm : CoT mg "WITHDRAWN" 3)
    (C_qcn : CoT mg "DROPPED" 4)
    (C_qco : CoT mg "MOST_HOLIDAYS" 32)
    (C_qcp : CoT mg "MOST_POINTS" 16)
    (C_qcq : CoT mg "MOST_REQUESTS" 64)
    (C_qcr : CoT mg "MOST_FACTS" 256)
    (C_qcs : CoT mg "MOST_VOLUMES" 256)
    (C_qct : CoT mg "MOST_BILLS" 64)
    (C_qcu : CoT mg "LAST_CHANGING_CALL" 11)
    (b_len : mg "len" = none)
    (b_max : mg "max" = none)
    (b_min : mg "min" = none)
    (b_sum : mg "sum" = none)
    (b_sorted : mg "sorted" = none)
    (b_range : mg "range" = none)
    (b_enumerate : mg "enumerate" = none) :
    ∃ fd : FuncData, (∀ (s : Shared) (us : List Value), us.length = (["calls"] : List Str).length → BindsTo s fd ⟨us, []⟩ ((["calls"] : List Str).zip us)) ∧ ∀ base : Heap, K.In base → base.Ns mainGlobals mg → FnOk P w K mg base CX0 8 fa fd ["calls"] (sp_qch K) := by
  have T : Txt K mg ⟨c_qaa, i_qaa, c_qab, i_qab, c_qac, i_qac, c_qad, i_qad, f_qae, f_qaf, f_qag, f_qah, f_qai, f_qaj, f_qak, f_qal, f_qam, f_qan, f_qao, f_qap, f_qaq, f_qar, f_qas, f_qat, f_qau, f_qav, f_qaw, f_qax, f_qay, f_qaz, f_qba, f_qbb, f_qbc, f_qbd, f_qbe, f_qbf, f_qbg, f_qbh, f_qbi, f_qbj, f_qbk, f_qbl, f_qbm, f_qbn, f_qbo, f_qbp, f_qbq, f_qbr, f_qbs, f_qbt, f_qbu, f_qbv, f_qbw, f_qbx, f_qby, f_qbz, f_qca, f_qcb, f_qcc, f_qcd, f_qce, f_qcf, f_qcg, f_qch⟩ := ⟨F_qaa, F_qab, F_qac, F_qad, F_qae, F_qaf, F_qag, F_qah, F_qai, F_qaj, F_qak, F_qal, F_qam, F_qan, F_qao, F_qap, F_qaq, F_qar, F_qas, F_qat, F_qau, F_qav, F_qaw, F_qax, F_qay, F_qaz, F_qba, F_qbb, F_qbc, F_qbd, F_qbe, F_qbf, F_qbg, F_qbh, F_qbi, F_qbj, F_qbk, F_qbl, F_qbm, F_qbn, F_qbo, F_qbp, F_qbq, F_qbr, F_qbs, F_qbt, F_qbu, F_qbv, F_qbw, F_qbx, F_qby, F_qbz, F_qca, F_qcb, F_qcc, F_qcd, F_qce, F_qcf, F_qcg, F_qch, C_qci, C_qcj, C_qck, C_qcl, C_qcm, C_qcn, C_qco, C_qcp, C_qcq, C_qcr, C_qcs, C_qct, C_qcu, b_len, b_max, b_min, b_sum, b_sorted, b_range, b_enumerate⟩
  have e := hfa.symm.trans T.qch.g
  cases e
  exact ⟨f_qch.2, hb, fun base _ _ => ok_qch T (B P)⟩
end
end Sd
def PySem.W.Fast.tw9274149181263867525 : Unit := ()
def PySem.W.Fast.tw2480833599387915457 : Unit := ()
def PySem.W.Fast.tw11004470746673444440 : Unit := ()
def PySem.W.Fast.tw17964889143949468417 : Unit := ()
def PySem.W.Fast.tw14944000265129298328 : Unit := ()
def PySem.W.Fast.tw8526302737124572067 : Unit := ()
def PySem.W.Fast.tw17615174721280569711 : Unit := ()
def PySem.W.Fast.tw15634646031542499400 : Unit := ()
def PySem.W.Fast.tw15623671670655387490 : Unit := ()
def PySem.W.Fast.tw7928555400878046700 : Unit := ()
def PySem.W.Fast.tw4223716243643431561 : Unit := ()
def PySem.W.Fast.tw3649441978820403626 : Unit := ()
def PySem.W.Fast.tw415047905352086424 : Unit := ()
def PySem.W.Fast.tw17285457977981285819 : Unit := ()
def PySem.W.Fast.tw13418470363924457485 : Unit := ()
def PySem.W.Fast.tw4761206213788620180 : Unit := ()
def PySem.W.Fast.tw11888987095253947137 : Unit := ()
def PySem.W.Fast.tw17793940354877259725 : Unit := ()
def PySem.W.Fast.tw15922693788930497714 : Unit := ()
def PySem.W.Fast.tw16918273941569000917 : Unit := ()
def PySem.W.Fast.tw5031749557748986890 : Unit := ()
def PySem.W.Fast.tw8055632249684388811 : Unit := ()
def PySem.W.Fast.tw10080663035978072103 : Unit := ()
def PySem.W.Fast.tw8230704622960020436 : Unit := ()
def PySem.W.Fast.tw5274836273123401874 : Unit := ()
def PySem.W.Fast.tw9669277571803962893 : Unit := ()
def PySem.W.Fast.tw10978326558086004412 : Unit := ()
def PySem.W.Fast.tw3249410150294051452 : Unit := ()
def PySem.W.Fast.tw17416239920024567095 : Unit := ()
def PySem.W.Fast.tw2031342493629053264 : Unit := ()
def PySem.W.Fast.tw5875979278333525338 : Unit := ()
def PySem.W.Fast.tw12876177701319137049 : Unit := ()
def PySem.W.Fast.tw3425463102026656191 : Unit := ()
def PySem.W.Fast.tw11182214435417666836 : Unit := ()
def PySem.W.Fast.tw16159374663725987508 : Unit := ()
def PySem.W.Fast.tw16211134401639283482 : Unit := ()
def PySem.W.Fast.tw17518750303478713088 : Unit := ()
open PySem PySem.W PyProof.Rows
set_option maxRecDepth 100000 in
set_option maxHeartbeats 0 in
theorem PySem.Challenge.cw_supplierdays_s01_answers_holds : PySem.Challenge.rw_supplierdays_s01_answers.Holds := by
  w_on; k_headS; (case hw => exact ⟨[.list [.int 2]], by decide +kernel, by decide +kernel⟩)
  k_fillS
  refine L2.walk_specK (r := PySem.Challenge.rw_supplierdays_s01_answers) (k := 8) (CX := L2.CX0) (ps := ["calls"]) (sp := Sd.sp_qch) (by decide +kernel) rfl rfl ⟨rfl, by decide, by decide⟩ (fun w h Y => PySem.W.kIn_of Y) ?F ?S (fun _ _ _ _ z => z)
  case F =>
    intro w mg fa h Y KX G hmg
    refine' Sd.with_cl (name := "Request") (fields := ["point", "supplier", "start", "old", "deadline", "standing"]) KX G Sd.bd_qaa ?a1 ?i1 ?n1 ?l1 ?c1 ?k1 ?p1 ?h1 ?o1 ?s1 ?m1 ?z1 fun M_qaa => ?_
    case a1 | i1 | n1 | l1 | c1 | k1 | p1 | h1 | o1 | s1 | m1 | z1 => k_is
    refine' Sd.with_nf (M_qaa (Sd.nf_qaa ?y0_2 ?y1_2 ?y2_2 ?y3_2 ?y4_2 ?y5_2)) fun F_qaa => ?_
    case y0_2 | y1_2 | y2_2 | y3_2 | y4_2 | y5_2 => k_is
    refine' Sd.with_cl (name := "Fact") (fields := ["point", "first", "last", "supplier", "known_from"]) KX G Sd.bd_qab ?a3 ?i3 ?n3 ?l3 ?c3 ?k3 ?p3 ?h3 ?o3 ?s3 ?m3 ?z3 fun M_qab => ?_
    case a3 | i3 | n3 | l3 | c3 | k3 | p3 | h3 | o3 | s3 | m3 | z3 => k_is
    refine' Sd.with_nf (M_qab (Sd.nf_qab ?y0_4 ?y1_4 ?y2_4 ?y3_4 ?y4_4)) fun F_qab => ?_
    case y0_4 | y1_4 | y2_4 | y3_4 | y4_4 => k_is
    refine' Sd.with_cl (name := "Volume") (fields := ["point", "day", "amount", "told_on"]) KX G Sd.bd_qac ?a5 ?i5 ?n5 ?l5 ?c5 ?k5 ?p5 ?h5 ?o5 ?s5 ?m5 ?z5 fun M_qac => ?_
    case a5 | i5 | n5 | l5 | c5 | k5 | p5 | h5 | o5 | s5 | m5 | z5 => k_is
    refine' Sd.with_nf (M_qac (Sd.nf_qac ?y0_6 ?y1_6 ?y2_6 ?y3_6)) fun F_qac => ?_
    case y0_6 | y1_6 | y2_6 | y3_6 => k_is
    refine' Sd.with_cl (name := "House") (fields := ["opened", "basic", "suppliers", "objection_time", "notice", "today", "failed", "holidays", "points", "requests", "facts", "volumes", "bills"]) KX G Sd.bd_qad ?a7 ?i7 ?n7 ?l7 ?c7 ?k7 ?p7 ?h7 ?o7 ?s7 ?m7 ?z7 fun M_qad => ?_
    case a7 | i7 | n7 | l7 | c7 | k7 | p7 | h7 | o7 | s7 | m7 | z7 => k_is
    refine' Sd.with_nf (M_qad (Sd.nf_qad ?y0_8 ?y1_8 ?y2_8 ?y3_8 ?y4_8 ?y5_8 ?y6_8 ?y7_8 ?y8_8 ?y9_8 ?y10_8 ?y11_8 ?y12_8)) fun F_qad => ?_
    case y0_8 | y1_8 | y2_8 | y3_8 | y4_8 | y5_8 | y6_8 | y7_8 | y8_8 | y9_8 | y10_8 | y11_8 | y12_8 => k_is
    refine' Sd.with_fn KX G Sd.bd_qae ?a9 ?l9 ?c9 ?k9 fun F_qae => ?_
    case a9 | l9 | c9 | k9 => k_is
    refine' Sd.with_fn KX G Sd.bd_qaf ?a10 ?l10 ?c10 ?k10 fun F_qaf => ?_
    case a10 | l10 | c10 | k10 => k_is
    refine' Sd.with_fn KX G Sd.bd_qag ?a11 ?l11 ?c11 ?k11 fun F_qag => ?_
    case a11 | l11 | c11 | k11 => k_is
    refine' Sd.with_fn KX G Sd.bd_qah ?a12 ?l12 ?c12 ?k12 fun F_qah => ?_
    case a12 | l12 | c12 | k12 => k_is
    refine' Sd.with_fn KX G Sd.bd_qai ?a13 ?l13 ?c13 ?k13 fun F_qai => ?_
    case a13 | l13 | c13 | k13 => k_is
    refine' Sd.with_fn KX G Sd.bd_qaj ?a14 ?l14 ?c14 ?k14 fun F_qaj => ?_
    case a14 | l14 | c14 | k14 => k_is
    refine' Sd.with_fn KX G Sd.bd_qak ?a15 ?l15 ?c15 ?k15 fun F_qak => ?_
    case a15 | l15 | c15 | k15 => k_is
    refine' Sd.with_fn KX G Sd.bd_qal ?a16 ?l16 ?c16 ?k16 fun F_qal => ?_
    case a16 | l16 | c16 | k16 => k_is
    refine' Sd.with_fn KX G Sd.bd_qam ?a17 ?l17 ?c17 ?k17 fun F_qam => ?_
    case a17 | l17 | c17 | k17 => k_is
    refine' Sd.with_fn KX G Sd.bd_qan ?a18 ?l18 ?c18 ?k18 fun F_qan => ?_
    case a18 | l18 | c18 | k18 => k_is
    refine' Sd.with_fn KX G Sd.bd_qao ?a19 ?l19 ?c19 ?k19 fun F_qao => ?_
    case a19 | l19 | c19 | k19 => k_is
    refine' Sd.with_fn KX G Sd.bd_qap ?a20 ?l20 ?c20 ?k20 fun F_qap => ?_
    case a20 | l20 | c20 | k20 => k_is
    refine' Sd.with_fn KX G Sd.bd_qaq ?a21 ?l21 ?c21 ?k21 fun F_qaq => ?_
    case a21 | l21 | c21 | k21 => k_is
    refine' Sd.with_fn KX G Sd.bd_qar ?a22 ?l22 ?c22 ?k22 fun F_qar => ?_
    case a22 | l22 | c22 | k22 => k_is
    refine' Sd.with_fn KX G Sd.bd_qas ?a23 ?l23 ?c23 ?k23 fun F_qas => ?_
    case a23 | l23 | c23 | k23 => k_is
    refine' Sd.with_fn KX G Sd.bd_qat ?a24 ?l24 ?c24 ?k24 fun F_qat => ?_
    case a24 | l24 | c24 | k24 => k_is
    refine' Sd.with_fn KX G Sd.bd_qau ?a25 ?l25 ?c25 ?k25 fun F_qau => ?_
    case a25 | l25 | c25 | k25 => k_is
    refine' Sd.with_fn KX G Sd.bd_qav ?a26 ?l26 ?c26 ?k26 fun F_qav => ?_
    case a26 | l26 | c26 | k26 => k_is
    refine' Sd.with_fn KX G Sd.bd_qaw ?a27 ?l27 ?c27 ?k27 fun F_qaw => ?_
    case a27 | l27 | c27 | k27 => k_is
    refine' Sd.with_fn KX G Sd.bd_qax ?a28 ?l28 ?c28 ?k28 fun F_qax => ?_
    case a28 | l28 | c28 | k28 => k_is
    refine' Sd.with_fn KX G Sd.bd_qay ?a29 ?l29 ?c29 ?k29 fun F_qay => ?_
    case a29 | l29 | c29 | k29 => k_is
    refine' Sd.with_fn KX G Sd.bd_qaz ?a30 ?l30 ?c30 ?k30 fun F_qaz => ?_
    case a30 | l30 | c30 | k30 => k_is
    refine' Sd.with_fn KX G Sd.bd_qba ?a31 ?l31 ?c31 ?k31 fun F_qba => ?_
    case a31 | l31 | c31 | k31 => k_is
    refine' Sd.with_fn KX G Sd.bd_qbb ?a32 ?l32 ?c32 ?k32 fun F_qbb => ?_
    case a32 | l32 | c32 | k32 => k_is
    refine' Sd.with_fn KX G Sd.bd_qbc ?a33 ?l33 ?c33 ?k33 fun F_qbc => ?_
    case a33 | l33 | c33 | k33 => k_is
    refine' Sd.with_fn KX G Sd.bd_qbd ?a34 ?l34 ?c34 ?k34 fun F_qbd => ?_
    case a34 | l34 | c34 | k34 => k_is
    refine' Sd.with_fn KX G Sd.bd_qbe ?a35 ?l35 ?c35 ?k35 fun F_qbe => ?_
    case a35 | l35 | c35 | k35 => k_is
    refine' Sd.with_fn KX G Sd.bd_qbf ?a36 ?l36 ?c36 ?k36 fun F_qbf => ?_
    case a36 | l36 | c36 | k36 => k_is
    refine' Sd.with_fn KX G Sd.bd_qbg ?a37 ?l37 ?c37 ?k37 fun F_qbg => ?_
    case a37 | l37 | c37 | k37 => k_is
    refine' Sd.with_fn KX G Sd.bd_qbh ?a38 ?l38 ?c38 ?k38 fun F_qbh => ?_
    case a38 | l38 | c38 | k38 => k_is
    refine' Sd.with_fn KX G Sd.bd_qbi ?a39 ?l39 ?c39 ?k39 fun F_qbi => ?_
    case a39 | l39 | c39 | k39 => k_is
    refine' Sd.with_fn KX G Sd.bd_qbj ?a40 ?l40 ?c40 ?k40 fun F_qbj => ?_
    case a40 | l40 | c40 | k40 => k_is
    refine' Sd.with_fn KX G Sd.bd_qbk ?a41 ?l41 ?c41 ?k41 fun F_qbk => ?_
    case a41 | l41 | c41 | k41 => k_is
    refine' Sd.with_fn KX G Sd.bd_qbl ?a42 ?l42 ?c42 ?k42 fun F_qbl => ?_
    case a42 | l42 | c42 | k42 => k_is
    refine' Sd.with_fn KX G Sd.bd_qbm ?a43 ?l43 ?c43 ?k43 fun F_qbm => ?_
    case a43 | l43 | c43 | k43 => k_is
    refine' Sd.with_fn KX G Sd.bd_qbn ?a44 ?l44 ?c44 ?k44 fun F_qbn => ?_
    case a44 | l44 | c44 | k44 => k_is
    refine' Sd.with_fn KX G Sd.bd_qbo ?a45 ?l45 ?c45 ?k45 fun F_qbo => ?_
    case a45 | l45 | c45 | k45 => k_is
    refine' Sd.with_fn KX G Sd.bd_qbp ?a46 ?l46 ?c46 ?k46 fun F_qbp => ?_
    case a46 | l46 | c46 | k46 => k_is
    refine' Sd.with_fn KX G Sd.bd_qbq ?a47 ?l47 ?c47 ?k47 fun F_qbq => ?_
    case a47 | l47 | c47 | k47 => k_is
    refine' Sd.with_fn KX G Sd.bd_qbr ?a48 ?l48 ?c48 ?k48 fun F_qbr => ?_
    case a48 | l48 | c48 | k48 => k_is
    refine' Sd.with_fn KX G Sd.bd_qbs ?a49 ?l49 ?c49 ?k49 fun F_qbs => ?_
    case a49 | l49 | c49 | k49 => k_is
    refine' Sd.with_fn KX G Sd.bd_qbt ?a50 ?l50 ?c50 ?k50 fun F_qbt => ?_
    case a50 | l50 | c50 | k50 => k_is
    refine' Sd.with_fn KX G Sd.bd_qbu ?a51 ?l51 ?c51 ?k51 fun F_qbu => ?_
    case a51 | l51 | c51 | k51 => k_is
    refine' Sd.with_fn KX G Sd.bd_qbv ?a52 ?l52 ?c52 ?k52 fun F_qbv => ?_
    case a52 | l52 | c52 | k52 => k_is
    refine' Sd.with_fn KX G Sd.bd_qbw ?a53 ?l53 ?c53 ?k53 fun F_qbw => ?_
    case a53 | l53 | c53 | k53 => k_is
    refine' Sd.with_fn KX G Sd.bd_qbx ?a54 ?l54 ?c54 ?k54 fun F_qbx => ?_
    case a54 | l54 | c54 | k54 => k_is
    refine' Sd.with_fn KX G Sd.bd_qby ?a55 ?l55 ?c55 ?k55 fun F_qby => ?_
    case a55 | l55 | c55 | k55 => k_is
    refine' Sd.with_fn KX G Sd.bd_qbz ?a56 ?l56 ?c56 ?k56 fun F_qbz => ?_
    case a56 | l56 | c56 | k56 => k_is
    refine' Sd.with_fn KX G Sd.bd_qca ?a57 ?l57 ?c57 ?k57 fun F_qca => ?_
    case a57 | l57 | c57 | k57 => k_is
    refine' Sd.with_fn KX G Sd.bd_qcb ?a58 ?l58 ?c58 ?k58 fun F_qcb => ?_
    case a58 | l58 | c58 | k58 => k_is
    refine' Sd.with_fn KX G Sd.bd_qcc ?a59 ?l59 ?c59 ?k59 fun F_qcc => ?_
    case a59 | l59 | c59 | k59 => k_is
    refine' Sd.with_fn KX G Sd.bd_qcd ?a60 ?l60 ?c60 ?k60 fun F_qcd => ?_
    case a60 | l60 | c60 | k60 => k_is
    refine' Sd.with_fn KX G Sd.bd_qce ?a61 ?l61 ?c61 ?k61 fun F_qce => ?_
    case a61 | l61 | c61 | k61 => k_is
    refine' Sd.with_fn KX G Sd.bd_qcf ?a62 ?l62 ?c62 ?k62 fun F_qcf => ?_
    case a62 | l62 | c62 | k62 => k_is
    refine' Sd.with_fn KX G Sd.bd_qcg ?a63 ?l63 ?c63 ?k63 fun F_qcg => ?_
    case a63 | l63 | c63 | k63 => k_is
    refine' Sd.with_fn KX G Sd.bd_qch ?a64 ?l64 ?c64 ?k64 fun F_qch => ?_
    case a64 | l64 | c64 | k64 => k_is
    refine' Sd.with_co (x := "LAST_DAY") (n := 20000) KX G ?a65 fun C_qci => ?_
    case a65 => k_is
    refine' Sd.with_co (x := "WAITING") (n := 0) KX G ?a66 fun C_qcj => ?_
    case a66 => k_is
    refine' Sd.with_co (x := "CONFIRMED") (n := 1) KX G ?a67 fun C_qck => ?_
    case a67 => k_is
    refine' Sd.with_co (x := "OBJECTED_TO") (n := 2) KX G ?a68 fun C_qcl => ?_
    case a68 => k_is
    refine' Sd.with_co (x := "WITHDRAWN") (n := 3) KX G ?a69 fun C_qcm => ?_
    case a69 => k_is
    refine' Sd.with_co (x := "DROPPED") (n := 4) KX G ?a70 fun C_qcn => ?_
    case a70 => k_is
    refine' Sd.with_co (x := "MOST_HOLIDAYS") (n := 32) KX G ?a71 fun C_qco => ?_
    case a71 => k_is
    refine' Sd.with_co (x := "MOST_POINTS") (n := 16) KX G ?a72 fun C_qcp => ?_
    case a72 => k_is
    refine' Sd.with_co (x := "MOST_REQUESTS") (n := 64) KX G ?a73 fun C_qcq => ?_
    case a73 => k_is
    refine' Sd.with_co (x := "MOST_FACTS") (n := 256) KX G ?a74 fun C_qcr => ?_
    case a74 => k_is
    refine' Sd.with_co (x := "MOST_VOLUMES") (n := 256) KX G ?a75 fun C_qcs => ?_
    case a75 => k_is
    refine' Sd.with_co (x := "MOST_BILLS") (n := 64) KX G ?a76 fun C_qct => ?_
    case a76 => k_is
    refine' Sd.with_co (x := "LAST_CHANGING_CALL") (n := 11) KX G ?a77 fun C_qcu => ?_
    case a77 => k_is
    refine' Sd.with_no (x := "len") KX G ?a78 fun b_len => ?_
    case a78 => k_is
    refine' Sd.with_no (x := "max") KX G ?a79 fun b_max => ?_
    case a79 => k_is
    refine' Sd.with_no (x := "min") KX G ?a80 fun b_min => ?_
    case a80 => k_is
    refine' Sd.with_no (x := "sum") KX G ?a81 fun b_sum => ?_
    case a81 => k_is
    refine' Sd.with_no (x := "sorted") KX G ?a82 fun b_sorted => ?_
    case a82 => k_is
    refine' Sd.with_no (x := "range") KX G ?a83 fun b_range => ?_
    case a83 => k_is
    refine' Sd.with_no (x := "enumerate") KX G ?a84 fun b_enumerate => ?_
    case a84 => k_is
    refine' Sd.with_tab (w := w) KX G ?n0_85 ?nl85 ?ng85 ?l0_85 ?l1_85 ?l2_85 ?l3_85 ?l4_85 ?l5_85 ?l6_85 ?l7_85 ?l8_85 ?l9_85 ?l10_85 ?l11_85 ?l12_85 ?l13_85 ?l14_85 ?l15_85 ?l16_85 ?l17_85 ?l18_85 ?l19_85 ?l20_85 ?l21_85 ?l22_85 ?l23_85 ?ll85 ?lg85 fun B => ?_
    case n0_85 | nl85 | ng85 | l0_85 | l1_85 | l2_85 | l3_85 | l4_85 | l5_85 | l6_85 | l7_85 | l8_85 | l9_85 | l10_85 | l11_85 | l12_85 | l13_85 | l14_85 | l15_85 | l16_85 | l17_85 | l18_85 | l19_85 | l20_85 | l21_85 | l22_85 | l23_85 | ll85 | lg85 => k_is
    exact Sd.fin KX G hmg B (fun s us hu => match us, hu with | [_], _ => .of_eq rfl) F_qaa F_qab F_qac F_qad F_qae F_qaf F_qag F_qah F_qai F_qaj F_qak F_qal F_qam F_qan F_qao F_qap F_qaq F_qar F_qas F_qat F_qau F_qav F_qaw F_qax F_qay F_qaz F_qba F_qbb F_qbc F_qbd F_qbe F_qbf F_qbg F_qbh F_qbi F_qbj F_qbk F_qbl F_qbm F_qbn F_qbo F_qbp F_qbq F_qbr F_qbs F_qbt F_qbu F_qbv F_qbw F_qbx F_qby F_qbz F_qca F_qcb F_qcc F_qcd F_qce F_qcf F_qcg F_qch C_qci C_qcj C_qck C_qcl C_qcm C_qcn C_qco C_qcp C_qcq C_qcr C_qcs C_qct C_qcu b_len b_max b_min b_sum b_sorted b_range b_enumerate
  case S =>
    intro K H xs a hO hwi hask hx
    cases hx with
    | cons h1 h2 =>
      cases h2
      cases h1 with
      | lst hs ha =>
        have e := L2.ints_dw a.1 _ ha
        subst e
        exact ⟨_, a.1, rfl, hs, hask, fun H' p hp => .lst (L2.SqL.of hp) (L2.dw_ints _)⟩
