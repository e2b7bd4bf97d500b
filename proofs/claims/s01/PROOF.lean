import PyProof.Rows.All
import Wide.All
import OpenK.AllK
import Wide.FinOn
import PyProof.EqAt
import PyProof.EqKinds
import PyProof.TupleCall
import KE.BitLaws
import Open.SpecLaws
import KE.OsHead
import KE.OsGo
import PyFlatLaws
import PySem.Challenge.RW_plantsdown_s01_answers
section
set_option Elab.async false
set_option linter.all false
set_option maxRecDepth 100000
namespace L2
open PySem PySem.Spec PyProof.Rows
abbrev Key := Sum Int Str
def keyIs : Key → Value → Bool
  | .inl k, v => Value.isInt k v
  | .inr x, v => Value.isStrOf x v
def keyH (w : World) : Key → Int
  | .inl k => hashInt k
  | .inr x => hashStr w x
theorem keyIs_shape : ∀ {k : Key} {v : Value}, keyIs k v = true → (∃ i t, k = Sum.inl i ∧ v = Value.int i t) ∨ (∃ x t, k = Sum.inr x ∧ v = Value.str x t)
  | .inl i, v, h => by
    obtain ⟨t, e⟩ := Value.isInt_shape (k := i) (v := v) h
    exact .inl ⟨i, t, rfl, e⟩
  | .inr x, v, h => by
    obtain ⟨t, e⟩ := Value.isStrOf_shape (x := x) (v := v) h
    exact .inr ⟨x, t, rfl, e⟩
theorem keyIs_int (i : Int) (t : Tok) : keyIs (.inl i) (.int i t) = true := by simp [keyIs, Value.isInt]
theorem keyIs_str (x : Str) (t : Tok) : keyIs (.inr x) (.str x t) = true := by simp [keyIs, Value.isStrOf]
theorem key_ll (a b : Int) : decide ((Sum.inl a : Key) = Sum.inl b) = (a == b) := by
  by_cases e : a = b
  · subst e; simp
  · have h : ¬ (Sum.inl a : Key) = Sum.inl b := fun q => e (Sum.inl.inj q)
    rw [decide_eq_false h]
    exact (beq_eq_false_iff_ne.mpr e).symm
theorem key_rr (a b : Str) : decide ((Sum.inr a : Key) = Sum.inr b) = decide (a = b) := by
  by_cases e : a = b
  · subst e; simp
  · have h : ¬ (Sum.inr a : Key) = Sum.inr b := fun q => e (Sum.inr.inj q)
    rw [decide_eq_false h, decide_eq_false e]
theorem key_lr (a : Int) (b : Str) : decide ((Sum.inl a : Key) = Sum.inr b) = false := decide_eq_false (fun q => nomatch q)
theorem key_rl (a : Str) (b : Int) : decide ((Sum.inr a : Key) = Sum.inl b) = false := decide_eq_false (fun q => nomatch q)
def mixKind (prog : Program) (w : World) : PySem.KeyKind prog w Key where
  is := keyIs
  hash := keyH w
  inj := fun v a b ha hb => by
    rcases keyIs_shape ha with ⟨i, t, rfl, rfl⟩ | ⟨x, t, rfl, rfl⟩
    · rcases keyIs_shape hb with ⟨j, u, rfl, e⟩ | ⟨y, u, rfl, e⟩
      · injection e with e1 _; rw [e1]
      · exact nomatch e
    · rcases keyIs_shape hb with ⟨j, u, rfl, e⟩ | ⟨y, u, rfl, e⟩
      · exact nomatch e
      · injection e with e1 _; rw [e1]
  byValue := fun k v h => by
    rcases keyIs_shape h with ⟨i, t, rfl, rfl⟩ | ⟨x, t, rfl, rfl⟩ <;> rfl
  pyHash := fun hv h => by
    rcases keyIs_shape hv with ⟨i, t, rfl, rfl⟩ | ⟨x, t, rfl, rfl⟩
    · exact wpAny_pyHash_int h
    · exact wpAny_pyHash_str h
  eqBool := fun hu hv h => by
    rcases keyIs_shape hu with ⟨i, t, rfl, rfl⟩ | ⟨x, t, rfl, rfl⟩
    · rcases keyIs_shape hv with ⟨j, u, rfl, rfl⟩ | ⟨y, u, rfl, rfl⟩
      · rw [key_ll] at h; exact wpAny_eqBool_int h
      · rw [key_lr] at h; exact SeqAt.EqAt.int_str i t y u _ _ _ _ h
    · rcases keyIs_shape hv with ⟨j, u, rfl, rfl⟩ | ⟨y, u, rfl, rfl⟩
      · rw [key_rl] at h; exact SeqAt.EqAt.str_int x t j u _ _ _ _ h
      · rw [key_rr] at h; exact wpAny_eqBool_str h
  «strs» := fun k x t v h => by
    rcases keyIs_shape h with ⟨i, u, rfl, e⟩ | ⟨y, u, rfl, e⟩
    · exact nomatch e
    · injection e with e1 _
      subst e1
      cases v <;> rfl
theorem mixKind_int (prog : Program) (w : World) (i : Int) (t : Tok) : (mixKind prog w).is (.inl i) (.int i t) = true := keyIs_int i t
theorem mixKind_str (prog : Program) (w : World) (x : Str) (t : Tok) : (mixKind prog w).is (.inr x) (.str x t) = true := keyIs_str x t
end L2
namespace L2
open PySem PySem.Spec PyProof.Rows
inductive V where
  | non | bl (b : Bool) | int (i : Int) | str (x : Str) | byt (b : Array UInt8) | flt (b : UInt64) | ref (a : Addr) | ty (n : String)
  deriving DecidableEq
def RelV : V → Value → Prop
  | .non, u => u = Value.none
  | .bl b, u => u = Value.bool b
  | .int i, u => ∃ t, u = Value.int i t
  | .str x, u => ∃ t, u = Value.str x t
  | .byt b, u => ∃ t, u = Value.bytes b t
  | .flt b, u => ∃ t, u = Value.float b t
  | .ref a, u => u = Value.ref a
  | .ty n, u => u = Value.type n
abbrev Vals : List V → List Value → Prop := Paired RelV
theorem Vals.length {xs : List V} {us : List Value} (r : Vals xs us) : xs.length = us.length := Paired.length r
theorem Vals.get : ∀ {xs : List V} {us : List Value} {i : Nat} {x : V}, Vals xs us → xs[i]? = some x → ∃ u, us[i]? = some u ∧ RelV x u
  | _, _, _, _, .nil, e => by simp at e
  | _, _, 0, _, .cons r _, e => by simp at e; subst e; exact ⟨_, rfl, r⟩
  | _, _, i + 1, x, .cons _ t, e => by
    obtain ⟨u, h1, h2⟩ := Vals.get (i := i) (x := x) t (by simpa using e)
    exact ⟨u, by simpa using h1, h2⟩
theorem Vals.set {x : V} {u : Value} (r : RelV x u) : ∀ {xs : List V} {us : List Value} (i : Nat), Vals xs us → Vals (xs.set i x) (us.set i u)
  | _, _, _, .nil => .nil
  | _, _, 0, .cons _ t => .cons r t
  | _, _, i + 1, .cons q t => .cons q (Vals.set r i t)
theorem Vals.append : ∀ {xs ys : List V} {us ws : List Value}, Vals xs us → Vals ys ws → Vals (xs ++ ys) (us ++ ws)
  | _, _, _, _, .nil, s => s
  | _, _, _, _, .cons r t, s => .cons r (Vals.append t s)
theorem Vals.take : ∀ {xs : List V} {us : List Value} (n : Nat), Vals xs us → Vals (xs.take n) (us.take n)
  | _, _, 0, _ => .nil
  | _, _, _ + 1, .nil => .nil
  | _, _, n + 1, .cons r t => .cons r (Vals.take n t)
theorem Vals.drop : ∀ {xs : List V} {us : List Value} (n : Nat), Vals xs us → Vals (xs.drop n) (us.drop n)
  | _, _, 0, r => r
  | _, _, _ + 1, .nil => .nil
  | _, _, n + 1, .cons _ t => Vals.drop n t
def RelO : Option V → Option Value → Prop
  | some v, some u => RelV v u
  | none, none => True
  | _, _ => False
def KV {κ : Type} : List (κ × V) → List (κ × Value) → Prop := Paired fun (p : κ × V) (q : κ × Value) => p.1 = q.1 ∧ RelV p.2 q.2
def kV : Key → V
  | .inl i => .int i
  | .inr x => .str x
inductive HO where
  | lst (xs : List V)
  | tup (xs : List V)
  | dK (kvs : List (Key × V)) | dT (kvs : List (List Key × V))
  | set (S : Int → Bool) (n : Nat)
  | ins (C dx : Addr) (fs : List (Str × V))
  | own (x : Addr)
  | xd (fs : List (Str × V))
  | met (f x : Addr)
  | rng (lo hi : Int)
  | frz (o : Obj) (u : HO)
  | tbl (ps : Array Value)
  | ext (φ : Heap → Prop)
abbrev Hp := Addr → Option HO
def upd (H : Hp) (a : Addr) (o : HO) : Hp := fun b => if b = a then some o else H b
theorem upd_same {H : Hp} {a : Addr} {o : HO} : upd H a o a = some o := by unfold upd; rw [if_pos rfl]
theorem upd_ne {H : Hp} {a b : Addr} {o : HO} (h : b ≠ a) : upd H a o b = H b := by unfold upd; rw [if_neg h]
theorem upd_upd {H : Hp} {a : Addr} {o u : HO} : upd (upd H a o) a u = upd H a u := by
  funext b; unfold upd; split <;> rfl
theorem ne_of {H : Hp} {a b : Addr} {o u : HO} (h : H a = some o) (h' : H b = some u) (d : o ≠ u) : a ≠ b := by
  intro e; subst e; rw [h] at h'; exact d (Option.some.inj h')
theorem ne_of_none {H : Hp} {a b : Addr} {o : HO} (h : H a = some o) (h' : H b = none) : a ≠ b := by
  intro e; subst e; rw [h] at h'; cases h'
section
variable (P : Program) (w : World)
def ObjOk (H : Hp) (h : Heap) (a : Addr) : HO → Prop
  | .lst xs => xs.length ≤ sizeLine ∧ ∃ (its : List Value) (n : Nat), Vals xs its ∧ h.get? a = some { cls := .type "list", data := .seq its.toArray n }
  | .tup xs => xs.length ≤ sizeLine ∧ ∃ its : List Value, Vals xs its ∧ IsTup h a its.toArray
  | .dK kvs => kvs.length ≤ sizeLine ∧ (a == sysModules) = false ∧ ∃ vs, KV kvs vs ∧ h.DictOf (mixKind P w) a vs
  | .dT kvs => kvs.length ≤ sizeLine ∧ (a == sysModules) = false ∧ ∃ xs : List (List Key × Addr × Value),
      Paired (fun (p : List Key × V) (q : List Key × Addr × Value) => p.1 = q.1 ∧ H q.2.1 = some (.tup (p.1.map kV)) ∧ RelV p.2 q.2.2) kvs xs ∧
      ∃ o es ep, h.get? a = some o ∧ o.ExactDict ∧ o.data = .dict es ep ∧ es.toList = xs.map (entryOfKey (tupleKind (mixKind P w))) ∧ (xs.map (·.1)).Nodup
  | .set S n => h.SetOf (intKind P w) a S n
  | .ins C dx fs => H dx = some (.own a) ∧ fs.length ≤ 1000 ∧ dx ≠ a ∧ h.get? a = some (PySem.W.instObj C dx) ∧
      ∃ mA, h.Ns1 dx mA ∧ (∀ f, RelO (fs.lookup f) (mA f)) ∧ PySem.Within mA (fs.map (·.1))
  | .own _ => ∃ o, h.get? a = some o
  | .xd fs => ∃ mA, h.Ns1 a mA ∧ ∀ f, RelO (fs.lookup f) (mA f)
  | .rng lo hi => ∃ t u v, h.get? a = some { cls := .type "range", data := .fields #[.int lo t, .int hi u, .int 1 v] }
  | .frz o u => h.get? a = some o ∧ ObjOk H h a u
  | .tbl ps => h.get? a = some { cls := .none, data := .fields ps }
  | .met f x => h.get? a = some (PySem.W.methodObj (.ref f) (.ref x))
  | .ext φ => φ h ∧ (∃ o, h.get? a = some o) ∧ ∀ h1 h2 : Heap, φ h1 → (∀ o, h1.get? a = some o → h2.get? a = some o) → φ h2
def HOk (H : Hp) (h : Heap) : Prop := ∀ a o, H a = some o → ObjOk P w H h a o
end
section
variable {P : Program} {w : World} {H H' : Hp} {h h' : Heap} {a : Addr} {o : HO}
theorem ObjOk.lt (x : ObjOk P w H h a o) : a < h.objs.size := by
  cases o with
  | lst xs => obtain ⟨_, _, _, _, e⟩ := x; exact Heap.lt_size e
  | tup xs => obtain ⟨_, _, _, p⟩ := x; exact p.lt
  | dK kvs => obtain ⟨_, _, _, _, o, _, _, e, _⟩ := x; exact Heap.lt_size e
  | dT kvs => obtain ⟨_, _, _, _, o, _, _, e, _⟩ := x; exact Heap.lt_size e
  | set S n => obtain ⟨o, _, _, _, e, _⟩ := x; exact Heap.lt_size e
  | ins C dx fs => obtain ⟨_, _, _, e, _⟩ := x; exact Heap.lt_size e
  | own y => obtain ⟨_, e⟩ := x; exact Heap.lt_size e
  | xd fs => obtain ⟨_, ⟨_, _, _, e, _⟩, _⟩ := x; exact Heap.lt_size e
  | rng lo hi => obtain ⟨_, _, _, e⟩ := x; exact Heap.lt_size e
  | frz ob u => obtain ⟨e, _⟩ := x; exact Heap.lt_size e
  | tbl ps => exact Heap.lt_size (show h.get? a = some _ from x)
  | met f y => exact Heap.lt_size (show h.get? a = some _ from x)
  | ext φ => obtain ⟨_, ⟨_, e⟩, _⟩ := x; exact Heap.lt_size e
theorem Paired.mapP {α β : Type} {F G : α → β → Prop} : ∀ {l₁ : List α} {l₂ : List β}, Paired F l₁ l₂ → (∀ a b, F a b → G a b) → Paired G l₁ l₂
  | _, _, .nil, _ => .nil
  | _, _, .cons r t, f => .cons (f _ _ r) (Paired.mapP t f)
theorem ObjOk.stay (x : ObjOk P w H h a o) (k : ∀ b u, (b = a ∨ H b = some (.own a)) → h.get? b = some u → h'.get? b = some u)
    (ho : ∀ b, H b = some (.own a) → H' b = some (.own a)) (ht : ∀ b xs, H b = some (.tup xs) → H' b = some (.tup xs)) : ObjOk P w H' h' a o := by
  induction o with
  | lst xs => obtain ⟨z, its, n, r, e⟩ := x; exact ⟨z, its, n, r, k _ _ (.inl rfl) e⟩
  | tup xs => obtain ⟨z, its, r, ob, e, c⟩ := x; exact ⟨z, its, r, ob, k _ _ (.inl rfl) e, c⟩
  | dK kvs => obtain ⟨z, y, vs, r, ob, es, ep, e, c⟩ := x; exact ⟨z, y, vs, r, ob, es, ep, k _ _ (.inl rfl) e, c⟩
  | dT kvs =>
    obtain ⟨z, y, xs, r, ob, es, ep, e, c⟩ := x
    exact ⟨z, y, xs, Paired.mapP r fun p q z => ⟨z.1, ht _ _ z.2.1, z.2.2⟩, ob, es, ep, k _ _ (.inl rfl) e, c⟩
  | set S n => obtain ⟨ob, es, ep, t, e, c⟩ := x; exact ⟨ob, es, ep, t, k _ _ (.inl rfl) e, c⟩
  | ins C dx fs =>
    obtain ⟨d, z, ne, e, mA, ⟨od, es, ep, e2, c⟩, r⟩ := x
    exact ⟨ho _ d, z, ne, k _ _ (.inl rfl) e, mA, ⟨od, es, ep, k _ _ (.inr d) e2, c⟩, r⟩
  | own y => obtain ⟨ob, e⟩ := x; exact ⟨ob, k _ _ (.inl rfl) e⟩
  | xd fs => obtain ⟨mA, ⟨od, es, ep, e, c⟩, r⟩ := x; exact ⟨mA, ⟨od, es, ep, k _ _ (.inl rfl) e, c⟩, r⟩
  | rng lo hi => obtain ⟨t, u, v, e⟩ := x; exact ⟨t, u, v, k _ _ (.inl rfl) e⟩
  | frz ob u ih => obtain ⟨e, q⟩ := x; exact ⟨k _ _ (.inl rfl) e, ih q⟩
  | tbl ps =>
    have e : h.get? a = some { cls := .none, data := .fields ps } := x
    show h'.get? a = some { cls := .none, data := .fields ps }
    exact k a _ (.inl rfl) e
  | met f y =>
    have e : h.get? a = some (PySem.W.methodObj (.ref f) (.ref y)) := x
    show h'.get? a = some (PySem.W.methodObj (.ref f) (.ref y))
    exact k a _ (.inl rfl) e
  | ext φ => obtain ⟨p, ⟨o, e⟩, st⟩ := x; exact ⟨st _ _ p fun o q => k _ _ (.inl rfl) q, ⟨o, k _ _ (.inl rfl) e⟩, st⟩
theorem HOk.lt (x : HOk P w H h) (e : H a = some o) : a < h.objs.size := (x a o e).lt
theorem HOk.fresh (x : HOk P w H h) (e : h.objs.size ≤ a) : H a = none := by
  cases q : H a with
  | none => rfl
  | some u => exact absurd (Nat.lt_of_lt_of_le (x.lt q) e) (Nat.lt_irrefl _)
theorem HOk.kept (x : HOk P w H h) (k : ∀ b u, h.get? b = some u → h'.get? b = some u) : HOk P w H h' := fun a o e =>
  (x a o e).stay (fun b u _ q => k b u q) (fun _ q => q) fun _ _ q => q
theorem HOk.laid (x : HOk P w H h) (k : ∀ b u, h.get? b = some u → h'.get? b = some u) (hp : h.objs.size ≤ a) (new : ObjOk P w (upd H a o) h' a o) : HOk P w (upd H a o) h' := fun b u e => by
  have hn := x.fresh hp
  by_cases hb : b = a
  · subst hb; rw [upd_same] at e; cases e; exact new
  · rw [upd_ne hb] at e
    exact (x b u e).stay (fun c v _ q => k c v q) (fun c q => by rw [upd_ne (ne_of_none q hn)]; exact q) fun c xs q => by rw [upd_ne (ne_of_none q hn)]; exact q
end
def Rd (H : Hp) (a : Addr) (u : HO) : Prop := H a = some u ∨ ∃ o, H a = some (.frz o u)
theorem Rd.of {H : Hp} {a : Addr} {u : HO} (h : H a = some u) : Rd H a u := .inl h
theorem Rd.ok {P : Program} {w : World} {H : Hp} {h : Heap} {a : Addr} {u : HO} (r : Rd H a u) (x : HOk P w H h) : ObjOk P w H h a u := by
  rcases r with r | ⟨o, r⟩
  · exact x a u r
  · obtain ⟨_, q⟩ := x a _ r
    exact q
def Mut : Option HO → Prop
  | some (.lst _) => True
  | some (.dK _) => True
  | some (.dT _) => True
  | some (.set _ _) => True
  | some (.ins _ _ _) => True
  | some (.ext _) => True
  | _ => False
section
variable {P : Program} {w : World} {H : Hp} {h h' : Heap} {x e : Addr} {o' : HO}
theorem HOk.write (ok : HOk P w H h) (mu : Mut (H x)) (he : e = x ∨ H e = some (.own x)) (k : ∀ b u, b ≠ e → h.get? b = some u → h'.get? b = some u) (heo : ∃ u, h'.get? e = some u)
    (new : ObjOk P w (upd H x o') h' x o') : HOk P w (upd H x o') h' := fun b u q => by
  have nown : ∀ c y, H c = some (.own y) → c ≠ x := fun c y r z => by subst z; rw [r] at mu; exact mu
  have ntup : ∀ c xs, H c = some (.tup xs) → c ≠ x := fun c xs r z => by subst z; rw [r] at mu; exact mu
  by_cases hb : b = x
  · subst hb; rw [upd_same] at q; cases q; exact new
  · rw [upd_ne hb] at q
    by_cases hbe : b = e
    · have q' : H b = some (.own x) := by
        rcases he with z | z
        · exact absurd (hbe.trans z) hb
        · rw [hbe]; exact z
      rw [q] at q'; cases q'
      obtain ⟨v, hv⟩ := heo
      exact ⟨v, by rw [hbe]; exact hv⟩
    · refine (ok b u q).stay (fun c v hc r => k c v ?_ r) (fun c r => by rw [upd_ne (nown c b r)]; exact r) fun c xs r => by rw [upd_ne (ntup c xs r)]; exact r
      rcases hc with rfl | hc
      · exact hbe
      · rintro rfl
        rcases he with z | z
        · exact nown c b hc z
        · rw [hc] at z; cases z; exact hb rfl
end
structure Un (fs ex : List Addr) (H H' : Hp) (h h' : Heap) : Prop where
  keep : ∀ b o, h.get? b = some o → H b = none → b ∉ fs → b ∉ ex → h'.get? b = some o
  slot : ∀ b o, h.get? b = some o → H b = none → b ∈ fs → b ∉ ex → ∃ sl, h'.get? b = some { o with slots := sl }
  free : ∀ b o, h.get? b = some o → H b = none → b ∉ ex → H' b = none
  there : ∀ b o, h.get? b = some o → b ∉ ex → ∃ o', h'.get? b = some o'
  tups : ∀ b xs, H b = some (.tup xs) → H' b = some (.tup xs)
  frzs : ∀ b o u, H b = some (.frz o u) → H' b = some (.frz o u)
  tbls : ∀ b ps, H b = some (.tbl ps) → ∃ more, H' b = some (.tbl (ps ++ more))
section
variable {fs fs' ex ex' : List Addr} {H H1 H2 : Hp} {h h1 h2 h' : Heap} {a x e : Addr} {o : HO}
theorem Un.any (u : Un fs ex H H1 h h1) {b : Addr} {ob : Obj} (q : h.get? b = some ob) (n : H b = none) (hx : b ∉ ex) : ∃ sl, h1.get? b = some { ob with slots := sl } := by
  by_cases hb : b ∈ fs
  · exact u.slot b ob q n hb hx
  · exact ⟨ob.slots, u.keep b ob q n hb hx⟩
theorem Un.kept (k : ∀ b u, h.get? b = some u → h'.get? b = some u) : Un fs ex H H h h' :=
  ⟨fun b ob q _ _ _ => k b ob q, fun b ob q _ _ _ => ⟨ob.slots, k b ob q⟩, fun _ _ _ n _ => n, fun b ob q _ => ⟨ob, k b ob q⟩, fun _ _ q => q, fun _ _ _ q => q, fun _ ps q => ⟨#[], by rw [q]; simp⟩⟩
theorem Un.refl : Un fs ex H H h h := Un.kept fun _ _ q => q
theorem Un.laid (k : ∀ b u, h.get? b = some u → h'.get? b = some u) (hp : h.objs.size ≤ a) (hn : H a = none) : Un fs ex H (upd H a o) h h' where
  keep := fun b u q _ _ _ => k b u q
  slot := fun b u q _ _ _ => ⟨u.slots, k b u q⟩
  free := fun b u q n _ => by rw [upd_ne (Nat.ne_of_lt (Nat.lt_of_lt_of_le (Heap.lt_size q) hp))]; exact n
  there := fun b u q _ => ⟨u, k b u q⟩
  tups := fun b xs q => by rw [upd_ne (ne_of_none q hn)]; exact q
  frzs := fun b u xs q => by rw [upd_ne (ne_of_none q hn)]; exact q
  tbls := fun b ps q => ⟨#[], by rw [upd_ne (ne_of_none q hn), q]; simp⟩
theorem Un.write (mu : Mut (H x)) (he : e = x ∨ H e = some (.own x)) (k : ∀ b u, b ≠ e → h.get? b = some u → h'.get? b = some u) (heo : ∃ u, h'.get? e = some u) : Un fs ex H (upd H x o) h h' := by
  have hx : ∀ b, H b = none → b ≠ x := fun b n z => by subst z; rw [n] at mu; exact mu
  have hb : ∀ b, H b = none → b ≠ e := fun b n z => by
    subst z
    rcases he with r | r
    · exact hx b n r
    · rw [n] at r; cases r
  have hm : ∀ b u, H b = some u → ¬ Mut (some u) → b ≠ x := fun b u q nm z => by subst z; rw [q] at mu; exact nm mu
  refine ⟨fun b u q n _ _ => k b u (hb b n) q, fun b u q n _ _ => ⟨u.slots, k b u (hb b n) q⟩, fun b u q n _ => by rw [upd_ne (hx b n)]; exact n, fun b u q _ => ?_,
    fun b xs q => by rw [upd_ne (hm b _ q fun z => z)]; exact q, fun b u xs q => by rw [upd_ne (hm b _ q fun z => z)]; exact q, fun b ps q => ⟨#[], by rw [upd_ne (hm b _ q fun z => z), q]; simp⟩⟩
  by_cases hbe : b = e
  · subst hbe; exact heo
  · exact ⟨u, k b u hbe q⟩
end
def trk (h : Heap) (H : Hp) : List Addr := (List.range h.objs.size).filter fun a => (H a).isSome
def hidT (h : Heap) (H : Hp) : Heap := PySem.W.hideAll h (trk h H)
theorem hidT_size (h : Heap) (H : Hp) : (hidT h H).objs.size = h.objs.size := PySem.W.hideAll_size _ _
theorem hidT_get {h : Heap} {H : Hp} {b : Addr} {o : Obj} (e : h.get? b = some o) (n : H b = none) : (hidT h H).get? b = some o :=
  PySem.W.hideAll_get _ e fun hm => by
    have q : (H b).isSome = true := (List.mem_filter.mp hm).2
    rw [n] at q; simp at q
theorem of_hidT {h : Heap} {H : Hp} {b : Addr} {o : Obj} (e : (hidT h H).get? b = some o) : h.get? b = some o ∧ H b = none := by
  have e' : h.get? b = some o := PySem.W.of_hideAll (trk h H) e
  refine ⟨e', ?_⟩
  cases q : H b with
  | none => rfl
  | some x =>
    have hm : b ∈ trk h H := List.mem_filter.mpr ⟨List.mem_range.mpr (Heap.lt_size e'), by simp [q]⟩
    have z : (hidT h H).get? b = none := PySem.W.hideAll_none (trk h H) hm
    rw [z] at e; cases e
end L2
namespace L2
open PySem PySem.Spec PyProof.Rows
structure Mod (K : PySem.W.Frag) (mg : Str → Option Value) (base : Heap) : Prop where
  kin : K.In base
  glob : base.Ns mainGlobals mg
  blt : ∃ mb, base.Ns builtinsNs mb ∧ ∀ x : Str, x ≠ "__name__" → mb x = bootBuiltins x
  nolimit : base.NoLimit
structure Cx where
  prog : Program
  w : World
  K : PySem.W.Frag
  mg : Str → Option Value
  base : Heap
  A : Around
  N : List Str
  s_0 : Shared
  H_0 : Hp
  env : Env
  outer : List Env
  stack : List Env
  ex : List Addr
  fn : Str → Bool
  calm : Bool
  pn : List (Addr × Obj)
  xe : Value → Shared → Prop
def frs (l : List Env) : List Addr := l.filterMap (·.frame)
abbrev Cx.fs (X : Cx) : List Addr := frs X.outer
def Vis (sc : Scope) (x : Str) : Prop := sc.names.lookup x = some .local ∨ sc.names.lookup x = some .cell ∨ sc.names.lookup x = some .free
def Loc (sc : Scope) (x : Str) : Prop := sc.names.lookup x = some .local ∨ sc.names.lookup x = some .cell
def Look (env : Env) (h : Heap) (m : Str → Option Value) (x : Str) (u : Value) : Prop :=
  (env.kindOf x = some .local ∧ m x = some u) ∨ ((env.kindOf x = some .cell ∨ env.kindOf x = some .free) ∧ ∃ c, env.cells.lookup x = some c ∧ h.IsCell c (some u))
structure Cx.Ok (X : Cx) : Prop where
  mod : Mod X.K X.mg X.base
  kind : X.env.scope.kind = .function
  glob : X.env.globals = mainGlobals
  blt : X.env.builtins = builtinsNs
  above : X.s_0.heap.objs.size ≤ X.env.locals
  inj : ∀ x y c, X.env.cells.lookup x = some c → X.env.cells.lookup y = some c → x = y
  has : ∀ x, (X.env.kindOf x = some .cell ∨ X.env.kindOf x = some .free) → ∃ c, X.env.cells.lookup x = some c
  cab : ∀ x c, X.fn x = true → X.env.cells.lookup x = some c → X.s_0.heap.objs.size ≤ c
  hd : X.calm = true → X.A.handled = none
  frames : X.A.frames = some X.stack
  stk : X.stack = X.outer ∨ (X.stack = X.env :: X.outer ∧ X.env.frame = some X.env.locals)
  exf : ∀ b ∈ X.ex, b ≠ X.env.locals ∧ ∀ x c, X.env.cells.lookup x = some c → c ≠ b
  bs : ∀ b o, X.base.get? b = some o → X.s_0.heap.get? b = some o ∧ X.H_0 b = none
  bsz : X.base.objs.size ≤ X.s_0.heap.objs.size
  noex : ∀ b o, X.base.get? b = some o → b ∉ X.ex
  exfs : ∀ b ∈ X.ex, b ∉ X.fs
  funs : X.s_0.heap.FunFrames X.base X.outer
  frf : ∀ b ∈ X.fs, X.H_0 b = none
structure Inv (X : Cx) (pins : List (Addr × Obj)) (σ : List (Option V)) (H : Hp) (s : Shared) : Prop where
  ok : X.Ok
  os : s.os = X.s_0.os
  bare : AllBare s.gens
  base : Un X.fs X.ex X.H_0 H X.s_0.heap s.heap
  loc : ∃ m, s.heap.Ns X.env.locals m ∧ ∀ (i : Nat) (x : Str) (v : V), X.N[i]? = some x → σ[i]? = some (some v) → Vis X.env.scope x → ∃ u, RelV v u ∧ Look X.env s.heap m x u
  cell : ∀ x c, X.env.cells.lookup x = some c → ∃ v, s.heap.IsCell c v
  free : H X.env.locals = none
  freeC : ∀ x c, X.env.cells.lookup x = some c → H c = none
  pin : ∀ p ∈ X.pn ++ pins, s.heap.get? p.1 = some p.2 ∧ H p.1 = none ∧ p.1 ≠ X.env.locals ∧ p.1 ∉ X.fs ∧ ∀ v, p.2.data ≠ .cell v
  hok : HOk X.prog X.w H s.heap
  len : σ.length = X.N.length
section
variable {X : Cx} {pins : List (Addr × Obj)} {σ : List (Option V)} {H H' : Hp} {s : Shared} {h' : Heap}
theorem Cx.Ok.nofr (ok : X.Ok) {b : Addr} {o : Obj} (e : X.base.get? b = some o) : b ∉ X.fs := fun hb => by
  have := (ok.funs.mem hb).1
  rw [e] at this; cases this
theorem Inv.bs (I : Inv X pins σ H s) : ∀ b o, X.base.get? b = some o → s.heap.get? b = some o ∧ H b = none := fun b o e =>
  ⟨I.base.keep b o (I.ok.bs b o e).1 (I.ok.bs b o e).2 (I.ok.nofr e) (I.ok.noex b o e), I.base.free b o (I.ok.bs b o e).1 (I.ok.bs b o e).2 (I.ok.noex b o e)⟩
theorem Inv.bk (I : Inv X pins σ H s) : ∀ b o, X.base.get? b = some o → s.heap.get? b = some o := fun b o e => (I.bs b o e).1
theorem Inv.mod (I : Inv X pins σ H s) : Mod X.K X.mg X.base := I.ok.mod
theorem Inv.kIn (I : Inv X pins σ H s) : X.K.In s.heap := I.ok.mod.kin.keeps I.bk
theorem Inv.fr (I : Inv X pins σ H s) : ∃ m, Fr X.base X.env.locals s.heap m :=
  let ⟨m, hn, _⟩ := I.loc
  ⟨m, hn, I.bk, Nat.le_trans I.ok.bsz I.ok.above⟩
theorem Inv.lt (I : Inv X pins σ H s) : X.env.locals < s.heap.objs.size := let ⟨_, hn, _⟩ := I.loc; hn.lt
theorem Inv.sz (I : Inv X pins σ H s) : X.s_0.heap.objs.size ≤ s.heap.objs.size := Nat.le_trans I.ok.above (Nat.le_of_lt I.lt)
theorem Inv.nofs (I : Inv X pins σ H s) {a : Addr} (h : s.heap.objs.size ≤ a) : a ∉ X.fs := fun hb => by
  obtain ⟨_, o, ho, _⟩ := I.ok.funs.mem hb
  exact absurd (Nat.lt_of_lt_of_le (Heap.lt_size ho) (Nat.le_trans I.sz h)) (Nat.lt_irrefl _)
theorem Inv.cne (I : Inv X pins σ H s) : ∀ x c, X.env.cells.lookup x = some c → c ≠ X.env.locals := fun x c e z => by
  obtain ⟨v, o, ho, hd⟩ := I.cell x c e
  obtain ⟨m, ⟨o', es, ep, ho', hd', _⟩, _⟩ := I.loc
  rw [z, ho'] at ho; cases ho; rw [hd'] at hd; cases hd
theorem Inv.funs (I : Inv X pins σ H s) : s.heap.FunFrames X.base X.outer := by
  have all : ∀ (l : List Env), (∀ b ∈ frs l, b ∈ X.fs) → X.s_0.heap.FunFrames X.base l → s.heap.FunFrames X.base l := by
    intro l
    induction l with
    | nil => intro _ _; trivial
    | cons env r ih =>
      intro hs hl
      obtain ⟨hk, ⟨L, o, hf, hn, ho, hd⟩, hr⟩ := hl
      have hL : L ∈ X.fs := hs L (by unfold frs; rw [List.filterMap_cons, hf]; exact List.mem_cons_self)
      obtain ⟨sl, e⟩ := I.base.slot L o ho (I.ok.frf L hL) hL fun z => I.ok.exfs L z hL
      exact ⟨hk, ⟨L, _, hf, hn, e, hd⟩, ih (fun b hb => hs b (by unfold frs; rw [List.filterMap_cons, hf]; exact List.mem_cons_of_mem _ hb)) hr⟩
  exact all X.outer (fun _ hb => hb) I.ok.funs
theorem Inv.stack (I : Inv X pins σ H s) : s.heap.FunFrames X.base X.stack := by
  rcases I.ok.stk with e | ⟨e, hf⟩
  · rw [e]; exact I.funs
  · rw [e]
    obtain ⟨m, hn, _⟩ := I.loc
    refine .cons (by rw [I.ok.kind]; decide) hf hn ?_ I.funs
    exact Heap.get?_none_of_le (Nat.le_trans I.ok.bsz I.ok.above)
theorem Inv.stkSub (I : Inv X pins σ H s) : ∀ b ∈ frs X.stack, b ∈ X.env.locals :: X.fs := fun b hb => by
  rcases I.ok.stk with e | ⟨e, hf⟩
  · rw [e] at hb; exact List.mem_cons_of_mem _ hb
  · rw [e] at hb
    unfold frs at hb
    rw [List.filterMap_cons, hf] at hb
    exact hb
theorem Inv.stkFree (I : Inv X pins σ H s) : ∀ b ∈ frs X.stack, H b = none := fun b hb => by
  rcases List.mem_cons.mp (I.stkSub b hb) with e | hb
  · rw [e]; exact I.free
  · obtain ⟨_, o, ho, _⟩ := I.ok.funs.mem hb
    exact I.base.free b o ho (I.ok.frf b hb) fun z => I.ok.exfs b z hb
theorem Inv.step {g' : Array GenState} {t' : Nat} {d' : Drawn} {ch : List Addr} (I : Inv X pins σ H s)
    (hch : ∀ b ∈ ch, (b ∈ X.ex ∨ X.s_0.heap.objs.size ≤ b) ∧ b ≠ X.env.locals ∧ (∀ x c, X.env.cells.lookup x = some c → c ≠ b) ∧ ∀ p ∈ X.pn ++ pins, p.1 ≠ b)
    (keep : ∀ b o, b ≠ X.env.locals → b ∉ X.fs → b ∉ ch → s.heap.get? b = some o → H b = none → h'.get? b = some o)
    (slot : ∀ b o, b ≠ X.env.locals → b ∈ X.fs → b ∉ ch → s.heap.get? b = some o → H b = none → ∃ sl, h'.get? b = some { o with slots := sl }) (free : ∀ b o, b ∉ ch → s.heap.get? b = some o → H b = none → H' b = none)
    (there : ∀ b o, b ∉ ch → s.heap.get? b = some o → ∃ o', h'.get? b = some o')
    (tups : ∀ b xs, H b = some (.tup xs) → H' b = some (.tup xs)) (frzs : ∀ b o u, H b = some (.frz o u) → H' b = some (.frz o u)) (tbls : ∀ b ps, H b = some (.tbl ps) → ∃ more, H' b = some (.tbl (ps ++ more)))
    (ns : ∀ m, s.heap.Ns X.env.locals m → h'.Ns X.env.locals m) (hok : HOk X.prog X.w H' h') (hg : AllBare g') :
    Inv X pins σ H' { s with heap := h', gens := g', drawn := d', toks := t' } := by
  have neL : ∀ b o, X.s_0.heap.get? b = some o → b ≠ X.env.locals := fun b o e => Nat.ne_of_lt (Nat.lt_of_lt_of_le (Heap.lt_size e) I.ok.above)
  have neC : ∀ b o, X.s_0.heap.get? b = some o → b ∉ X.ex → b ∉ ch := fun b o e hx hb => by
    rcases (hch b hb).1 with z | z
    · exact hx z
    · exact absurd (Nat.lt_of_lt_of_le (Heap.lt_size e) z) (Nat.lt_irrefl _)
  have cellK : ∀ x c, X.env.cells.lookup x = some c → ∀ v, s.heap.IsCell c v → h'.IsCell c v := fun x c e v ⟨o, ho, hd⟩ => by
    have nch : c ∉ ch := fun z => (hch c z).2.2.1 x c e rfl
    by_cases hc : c ∈ X.fs
    · obtain ⟨sl, q⟩ := slot c o (I.cne x c e) hc nch ho (I.freeC x c e)
      exact ⟨_, q, hd⟩
    · exact ⟨o, keep c o (I.cne x c e) hc nch ho (I.freeC x c e), hd⟩
  refine ⟨I.ok, I.os, hg, ⟨fun b o e n hb hx => ?_, fun b o e n hb hx => ?_, fun b o e n hx => ?_, fun b o e hx => ?_, fun b xs e => tups b xs (I.base.tups b xs e), fun b o xs e => frzs b o xs (I.base.frzs b o xs e), fun b ps e => ?_⟩, ?_, fun x c e => ?_, ?_, fun x c e => ?_, fun p hp => ?_, hok, I.len⟩
  · exact keep b o (neL b o e) hb (neC b o e hx) (I.base.keep b o e n hb hx) (I.base.free b o e n hx)
  · obtain ⟨sl, e1⟩ := I.base.slot b o e n hb hx
    obtain ⟨sl', e2⟩ := slot b _ (neL b o e) hb (neC b o e hx) e1 (I.base.free b o e n hx)
    exact ⟨sl', e2⟩
  · obtain ⟨o', e1⟩ := I.base.there b o e hx
    exact free b o' (neC b o e hx) e1 (I.base.free b o e n hx)
  · obtain ⟨o', e1⟩ := I.base.there b o e hx
    exact there b o' (neC b o e hx) e1
  · obtain ⟨m1, e1⟩ := I.base.tbls b ps e
    obtain ⟨m2, e2⟩ := tbls b _ e1
    exact ⟨m1 ++ m2, by rw [e2, Array.append_assoc]⟩
  · obtain ⟨m, hn, hl⟩ := I.loc
    refine ⟨m, ns m hn, fun i x v e1 e2 e3 => ?_⟩
    obtain ⟨u, r, l⟩ := hl i x v e1 e2 e3
    refine ⟨u, r, ?_⟩
    rcases l with l | ⟨k, c, e, z⟩
    · exact .inl l
    · exact .inr ⟨k, c, e, cellK x c e _ z⟩
  · obtain ⟨v, z⟩ := I.cell x c e
    exact ⟨v, cellK x c e v z⟩
  · obtain ⟨m, ⟨o, _, _, ho, _⟩, _⟩ := I.loc
    exact free _ o (fun z => (hch _ z).2.1 rfl) ho I.free
  · obtain ⟨v, o, ho, hd⟩ := I.cell x c e
    exact free c o (fun z => (hch c z).2.2.1 x c e rfl) ho (I.freeC x c e)
  · obtain ⟨e, n, ne, nf, d⟩ := I.pin p hp
    have nch : p.1 ∉ ch := fun z => (hch p.1 z).2.2.2 p hp rfl
    exact ⟨keep p.1 p.2 ne nf nch e n, free p.1 p.2 nch e n, ne, nf, d⟩
theorem Inv.un {t' : Nat} (I : Inv X pins σ H s) (u : Un X.fs [] H H' s.heap h') (hok : HOk X.prog X.w H' h') : Inv X pins σ H' { s with heap := h', toks := t' } := by
  obtain ⟨m, ⟨o, es, ep, ho, r⟩, _⟩ := id I.loc
  obtain ⟨sl, hL⟩ := u.any ho I.free (by simp)
  exact I.step (g' := s.gens) (d' := s.drawn) (ch := []) (fun _ z => nomatch z) (fun b o _ hb _ e n => u.keep b o e n hb (by simp)) (fun b o _ hb _ e n => u.slot b o e n hb (by simp)) (fun b o _ e n => u.free b o e n (by simp)) (fun b o _ e => u.there b o e (by simp)) u.tups u.frzs u.tbls (fun m' hm => by
    obtain ⟨o', es', ep', ho', r'⟩ := hm
    rw [ho] at ho'; cases ho'
    exact ⟨_, es', ep', hL, r'⟩) hok I.bare
theorem Inv.call {g' : Array GenState} {t' : Nat} {d' : Drawn} {ch : List Addr} (I : Inv X pins σ H s) (u : Un (frs X.stack) ch H H' s.heap h') (hok : HOk X.prog X.w H' h') (hg : AllBare g')
    (hch : ∀ b ∈ ch, (b ∈ X.ex ∨ X.s_0.heap.objs.size ≤ b) ∧ b ≠ X.env.locals ∧ (∀ x c, X.env.cells.lookup x = some c → c ≠ b) ∧ ∀ p ∈ X.pn ++ pins, p.1 ≠ b) :
    Inv X pins σ H' { s with heap := h', gens := g', drawn := d', toks := t' } := by
  obtain ⟨m, ⟨o, es, ep, ho, r⟩, _⟩ := id I.loc
  obtain ⟨sl, hL⟩ := u.any ho I.free fun z => (hch _ z).2.1 rfl
  exact I.step (ch := ch) hch (fun b o hL hb hc e n => u.keep b o e n (fun z => (List.mem_cons.mp (I.stkSub b z)).elim hL hb) hc) (fun b o _ _ hc e n => u.any e n hc) (fun b o hc e n => u.free b o e n hc) (fun b o hc e => u.there b o e hc) u.tups u.frzs u.tbls (fun m' hm => by
    obtain ⟨o', es', ep', ho', r'⟩ := hm
    rw [ho] at ho'; cases ho'
    exact ⟨_, es', ep', hL, r'⟩) hok hg
theorem Inv.turned {t' : Nat} {it : Addr} (I : Inv X pins σ H s) (k : ∀ b o, b ≠ it → s.heap.get? b = some o → h'.get? b = some o) (hn : H it = none) (hL : it ≠ X.env.locals)
    (h1 : it ∈ X.ex ∨ X.s_0.heap.objs.size ≤ it) (h2 : ∀ x c, X.env.cells.lookup x = some c → c ≠ it) (h3 : ∀ p ∈ X.pn ++ pins, p.1 ≠ it) : Inv X pins σ H { s with heap := h', toks := t' } := by
  have nit : ∀ b u, H b = some u → b ≠ it := fun b u e z => by rw [z, hn] at e; cases e
  refine I.step (g' := s.gens) (d' := s.drawn) (ch := [it]) (fun b hb => ?_) (fun b o _ _ hc e _ => k b o (fun z => hc (by simp [z])) e) (fun b o _ _ hc e _ => ⟨o.slots, k b o (fun z => hc (by simp [z])) e⟩) (fun _ _ _ _ n => n)
    (fun b o hc e => ⟨o, k b o (fun z => hc (by simp [z])) e⟩) (fun _ _ e => e) (fun _ _ _ e => e) (fun b ps e => ⟨#[], by rw [e]; simp⟩) (fun m hm => ?_) (fun b u e => ?_) I.bare
  · have e : b = it := by simpa using hb
    subst e
    exact ⟨h1, hL, h2, h3⟩
  · obtain ⟨o, es, ep, ho, r⟩ := hm
    exact ⟨o, es, ep, k _ o (Ne.symm hL) ho, r⟩
  · refine (I.hok b u e).stay (fun c v hc q => k c v ?_ q) (fun _ q => q) fun _ _ q => q
    rcases hc with z | z
    · rw [z]; exact nit b u e
    · exact nit c _ z
theorem Inv.tok (I : Inv X pins σ H s) (t : Nat) : Inv X pins σ H { s with toks := t } := I.un (h' := s.heap) (t' := t) Un.refl I.hok
theorem Inv.kept {t' : Nat} (I : Inv X pins σ H s) (k : ∀ b u, s.heap.get? b = some u → h'.get? b = some u) : Inv X pins σ H { s with heap := h', toks := t' } := I.un (Un.kept k) (I.hok.kept k)
theorem Inv.laid {a : Addr} {o : HO} {t' : Nat} (I : Inv X pins σ H s) (k : ∀ b u, s.heap.get? b = some u → h'.get? b = some u) (hp : s.heap.objs.size ≤ a) (new : ObjOk X.prog X.w (upd H a o) h' a o) :
    Inv X pins σ (upd H a o) { s with heap := h', toks := t' } := I.un (Un.laid k hp (I.hok.fresh hp)) (I.hok.laid k hp new)
theorem Inv.write {x e : Addr} {o : HO} {t' : Nat} (I : Inv X pins σ H s) (mu : Mut (H x)) (he : e = x ∨ H e = some (.own x)) (k : ∀ b u, b ≠ e → s.heap.get? b = some u → h'.get? b = some u) (heo : ∃ u, h'.get? e = some u)
    (new : ObjOk X.prog X.w (upd H x o) h' x o) : Inv X pins σ (upd H x o) { s with heap := h', toks := t' } := I.un (Un.write mu he k heo) (I.hok.write mu he k heo new)
theorem Inv.weak {σ' : List (Option V)} (I : Inv X pins σ H s) (hl : σ'.length = σ.length) (w : ∀ (i : Nat) v, σ'[i]? = some (some v) → σ[i]? = some (some v)) : Inv X pins σ' H s :=
  ⟨I.ok, I.os, I.bare, I.base, let ⟨m, hn, hl'⟩ := I.loc; ⟨m, hn, fun i x v e1 e2 e3 => hl' i x v e1 (w i v e2) e3⟩, I.cell, I.free, I.freeC, I.pin, I.hok, hl.trans I.len⟩
theorem Inv.pins_of {pins' : List (Addr × Obj)} (I : Inv X pins σ H s) (h : ∀ p ∈ pins', s.heap.get? p.1 = some p.2 ∧ H p.1 = none ∧ p.1 ≠ X.env.locals ∧ p.1 ∉ X.fs ∧ ∀ v, p.2.data ≠ .cell v) : Inv X pins' σ H s :=
  ⟨I.ok, I.os, I.bare, I.base, I.loc, I.cell, I.free, I.freeC, fun p hp => (List.mem_append.mp hp).elim (fun z => I.pin p (List.mem_append_left _ z)) (h p), I.hok, I.len⟩
theorem nodup_ix {N : List Str} (hN : N.Nodup) {i j : Nat} {x : Str} (a : N[i]? = some x) (b : N[j]? = some x) : i = j := by
  obtain ⟨h1, e1⟩ := List.getElem?_eq_some_iff.mp a
  obtain ⟨h2, e2⟩ := List.getElem?_eq_some_iff.mp b
  exact (List.getElem_inj hN).mp (e1.trans e2.symm)
theorem store_ok2 {M : Model} {A : Around} {E : Value → Shared → Prop} {i : Nat} {x : Str} {v : V} {u : Value} {Q : Unit → Shared → Prop} (I : Inv X pins σ H s) (hN : X.N.Nodup) (hi : X.N[i]? = some x) (hx : Loc X.env.scope x) (r : RelV v u)
    (h : ∀ s', Inv X pins (σ.set i (some v)) H s' → (∃ a, Heap.SameBut a s.heap s'.heap ∧ (a = X.env.locals ∨ X.env.cells.lookup x = some a)) → Q () s') (hf : X.fn x = true ∨ X.env.scope.names.lookup x = some .local := by first | exact .inl rfl | exact .inr rfl | assumption) : wpAny M A (storeName X.env x u) Q E s := by
  obtain ⟨m, hn, hl⟩ := id I.loc
  have hcls : (X.env.scope.kind == .class || (X.env.scope.kind == .module && X.env.locals != X.env.globals)) = false := by rw [I.ok.kind]; rfl
  have hiσ : i < σ.length := by rw [I.len]; exact (List.getElem?_eq_some_iff.mp hi).1
  have cne := I.cne
  have tracked : ∀ {a : Addr} {h' : Heap}, (∃ o, s.heap.get? a = some o ∧ H a = none) → Heap.SameBut a s.heap h' → HOk X.prog X.w H h' := fun {a h'} ha hs b ob e => by
    obtain ⟨_, _, hfree⟩ := ha
    refine (I.hok b ob e).stay (fun c w' hc q => (hs.2 c ?_).trans q) (fun _ q => q) fun _ _ q => q
    rintro rfl
    rcases hc with rfl | hc
    · rw [hfree] at e; cases e
    · rw [hfree] at hc; cases hc
  rcases hx with hk | hk
  · refine wpAny_storeName_local hk hn (fun h' hn' hs => ?_) hcls
    obtain ⟨oL, _, _, hoL, _⟩ := id hn
    refine h _ ⟨I.ok, I.os, I.bare, ⟨fun b o e n hb hx => ?_, fun b o e n hb hx => ?_, I.base.free, fun b o e hx => ?_, I.base.tups, I.base.frzs, I.base.tbls⟩, ⟨_, hn', fun j y v' e1 e2 e3 => ?_⟩, fun y c e => ?_, I.free, I.freeC, fun p hp => ?_, tracked ⟨oL, hoL, I.free⟩ hs, by simpa using I.len⟩ ⟨_, hs, .inl rfl⟩
    · exact (hs.2 b (Nat.ne_of_lt (Nat.lt_of_lt_of_le (Heap.lt_size e) I.ok.above))).trans (I.base.keep b o e n hb hx)
    · obtain ⟨sl, e1⟩ := I.base.slot b o e n hb hx
      exact ⟨sl, (hs.2 b (Nat.ne_of_lt (Nat.lt_of_lt_of_le (Heap.lt_size e) I.ok.above))).trans e1⟩
    · obtain ⟨o', e1⟩ := I.base.there b o e hx
      exact ⟨o', (hs.2 b (Nat.ne_of_lt (Nat.lt_of_lt_of_le (Heap.lt_size e) I.ok.above))).trans e1⟩
    · by_cases hj : j = i
      · subst hj
        rw [hi] at e1; cases e1
        rw [List.getElem?_set_self hiσ] at e2
        cases e2
        exact ⟨u, r, .inl ⟨hk, by simp⟩⟩
      · rw [List.getElem?_set_ne (Ne.symm hj)] at e2
        obtain ⟨u', r', q⟩ := hl j y v' e1 e2 e3
        refine ⟨u', r', ?_⟩
        rcases q with ⟨k, e⟩ | ⟨k, c, e, z⟩
        · refine .inl ⟨k, ?_⟩
          have : y ≠ x := fun e => hj (nodup_ix hN e1 (e ▸ hi))
          simp [this, e]
        · exact .inr ⟨k, c, e, z.sameBut hs (cne y c e)⟩
    · obtain ⟨w', z⟩ := I.cell y c e
      exact ⟨w', z.sameBut hs (cne y c e)⟩
    · obtain ⟨e, n, ne, nf, d⟩ := I.pin p hp
      exact ⟨(hs.2 p.1 ne).trans e, n, ne, nf, d⟩
  · have hfn : X.fn x = true := by
      rcases hf with z | z
      · exact z
      · rw [z] at hk; cases hk
    obtain ⟨c, hc⟩ := I.ok.has x (.inl hk)
    obtain ⟨w', z⟩ := I.cell x c hc
    refine wpAny_storeName_cell I.ok.kind hk hc z (fun h' hc' hs => ?_)
    obtain ⟨oc, hoc, hocd⟩ := id z
    refine h { s with heap := h' } ⟨I.ok, I.os, I.bare, ⟨fun b o e n hb hx => ?_, fun b o e n hb hx => ?_, I.base.free, fun b o e hx => ?_, I.base.tups, I.base.frzs, I.base.tbls⟩, ⟨m, hn.sameBut hs (Ne.symm (cne x c hc)), fun j y v' e1 e2 e3 => ?_⟩, fun y c' e => ?_, I.free, I.freeC, fun p hp => ?_, tracked ⟨oc, hoc, I.freeC x c hc⟩ hs, by simpa using I.len⟩ ⟨c, hs, .inr hc⟩
    · exact (hs.2 b (Nat.ne_of_lt (Nat.lt_of_lt_of_le (Heap.lt_size e) (I.ok.cab x c hfn hc)))).trans (I.base.keep b o e n hb hx)
    · obtain ⟨sl, e1⟩ := I.base.slot b o e n hb hx
      exact ⟨sl, (hs.2 b (Nat.ne_of_lt (Nat.lt_of_lt_of_le (Heap.lt_size e) (I.ok.cab x c hfn hc)))).trans e1⟩
    · obtain ⟨o', e1⟩ := I.base.there b o e hx
      exact ⟨o', (hs.2 b (Nat.ne_of_lt (Nat.lt_of_lt_of_le (Heap.lt_size e) (I.ok.cab x c hfn hc)))).trans e1⟩
    · by_cases hj : j = i
      · subst hj
        rw [hi] at e1; cases e1
        rw [List.getElem?_set_self hiσ] at e2
        cases e2
        exact ⟨u, r, .inr ⟨.inl hk, c, hc, hc'⟩⟩
      · rw [List.getElem?_set_ne (Ne.symm hj)] at e2
        obtain ⟨u', r', q⟩ := hl j y v' e1 e2 e3
        refine ⟨u', r', ?_⟩
        rcases q with q | ⟨k, c', e, z'⟩
        · exact .inl q
        · refine .inr ⟨k, c', e, z'.sameBut hs ?_⟩
          rintro rfl
          exact hj (nodup_ix hN e1 (I.ok.inj _ _ _ e hc ▸ hi))
    · by_cases hcc : c' = c
      · subst hcc; exact ⟨_, hc'⟩
      · obtain ⟨w2, z2⟩ := I.cell y c' e
        exact ⟨w2, z2.sameBut hs hcc⟩
    · obtain ⟨e, n, ne, nf, d⟩ := I.pin p hp
      refine ⟨(hs.2 p.1 ?_).trans e, n, ne, nf, d⟩
      intro q
      rw [q, hoc] at e
      have q' : oc = p.2 := Option.some.inj e
      exact d w' (by rw [← q']; exact hocd)
theorem store_ok {M : Model} {A : Around} {E : Value → Shared → Prop} {i : Nat} {x : Str} {v : V} {u : Value} {Q : Unit → Shared → Prop} (I : Inv X pins σ H s) (hN : X.N.Nodup) (hi : X.N[i]? = some x) (hx : Loc X.env.scope x) (r : RelV v u)
    (h : ∀ s', Inv X pins (σ.set i (some v)) H s' → Q () s') (hf : X.fn x = true ∨ X.env.scope.names.lookup x = some .local := by first | exact .inl rfl | exact .inr rfl | assumption) : wpAny M A (storeName X.env x u) Q E s :=
  store_ok2 I hN hi hx r (fun s' I' _ => h s' I') hf
theorem Inv.call' {s' : Shared} {ch : List Addr} (I : Inv X pins σ H s) (ho : s'.os = s.os) (u : Un (frs X.stack) ch H H' s.heap s'.heap) (hok : HOk X.prog X.w H' s'.heap) (hg : AllBare s'.gens)
    (hch : ∀ b ∈ ch, (b ∈ X.ex ∨ X.s_0.heap.objs.size ≤ b) ∧ b ≠ X.env.locals ∧ (∀ x c, X.env.cells.lookup x = some c → c ≠ b) ∧ ∀ p ∈ X.pn ++ pins, p.1 ≠ b) : Inv X pins σ H' s' := by
  obtain ⟨h', g', d', t', o'⟩ := s'
  have e : o' = s.os := ho
  subst e
  exact I.call (g' := g') (t' := t') (d' := d') u hok hg hch
end
abbrev XK := Value → Option Addr → Hp → Prop
abbrev St := List (Option V)
abbrev VK := V → Hp → Prop
abbrev TE := St → Hp → VK → Prop
abbrev TT := St → Hp → (Bool → Hp → Prop) → Prop
abbrev TA := St → Hp → (List V → Hp → Prop) → Prop
structure Ends where
  nx : St → Hp → Prop
  rt : VK
  bk : St → Hp → Prop := fun _ _ => False
  ct : St → Hp → Prop := fun _ _ => False
abbrev TS := Ends → St → Hp → Prop
def EP (X : Cx) (pins : List (Addr × Obj)) (σ : St) (Q : VK) (u : Value) (s' : Shared) : Prop := ∃ v H', Inv X pins σ H' s' ∧ RelV v u ∧ Q v H'
def TP (X : Cx) (pins : List (Addr × Obj)) (σ : St) (Q : Bool → Hp → Prop) (b : Bool) (s' : Shared) : Prop := ∃ H', Inv X pins σ H' s' ∧ Q b H'
def AP (X : Cx) (pins : List (Addr × Obj)) (σ : St) (Q : List V → Hp → Prop) (us : List Value) (s' : Shared) : Prop := ∃ vs H', Inv X pins σ H' s' ∧ Vals vs us ∧ Q vs H'
def SP (X : Cx) (pins : List (Addr × Obj)) (D : Ends) (f : Flow) (s' : Shared) : Prop :=
  match f with
  | .next => ∃ σ' H', Inv X pins σ' H' s' ∧ D.nx σ' H'
  | .brk => ∃ σ' H', Inv X pins σ' H' s' ∧ D.bk σ' H'
  | .cont => ∃ σ' H', Inv X pins σ' H' s' ∧ D.ct σ' H'
  | .ret u => ∃ v σ' H', Inv X pins σ' H' s' ∧ RelV v u ∧ D.rt v H'
def PE (X : Cx) (e : Expr) (t : TE) : Prop :=
  ∀ (pins : List (Addr × Obj)) (s : Shared) (σ : St) (H : Hp) (Q : VK), Inv X pins σ H s → t σ H Q → wpAny (model X.prog X.w) X.A (eval e X.env) (EP X pins σ Q) X.xe s
def PT (X : Cx) (e : Expr) (t : TT) : Prop :=
  ∀ (pins : List (Addr × Obj)) (s : Shared) (σ : St) (H : Hp) (Q : Bool → Hp → Prop), Inv X pins σ H s → t σ H Q → wpAny (model X.prog X.w) X.A (isTrue e X.env (eval e X.env)) (TP X pins σ Q) X.xe s
def PW (X : Cx) (e : Expr) (t : TT) : Prop :=
  ∀ (whole : Sem Value) (pins : List (Addr × Obj)) (s : Shared) (σ : St) (H : Hp) (Q : Bool → Hp → Prop), Inv X pins σ H s → t σ H Q → wpAny (model X.prog X.w) X.A (isTrue e X.env whole) (TP X pins σ Q) X.xe s
theorem PW.pt {X : Cx} {e : Expr} {t : TT} (h : PW X e t) : PT X e t := h _
def PA (X : Cx) (es : List Expr) (t : TA) : Prop :=
  ∀ (pos : Pos) (pins : List (Addr × Obj)) (s : Shared) (σ : St) (H : Hp) (Q : List V → Hp → Prop), Inv X pins σ H s → t σ H Q → wpAny (model X.prog X.w) X.A (spliced (backTo pos (starEach es X.env))) (AP X pins σ Q) X.xe s
def PS (X : Cx) (st : Stmt) (t : TS) : Prop :=
  ∀ (pins : List (Addr × Obj)) (s : Shared) (σ : St) (H : Hp) (D : Ends), Inv X pins σ H s → t D σ H → wpAny (model X.prog X.w) X.A (exec st X.env) (SP X pins D) X.xe s
def PSs (X : Cx) (st : List Stmt) (t : TS) : Prop :=
  ∀ (pins : List (Addr × Obj)) (s : Shared) (σ : St) (H : Hp) (D : Ends), Inv X pins σ H s → t D σ H → wpAny (model X.prog X.w) X.A (execs st X.env) (SP X pins D) X.xe s
theorem thn {α : Type} {t : Sem α} {Q Q' : α → Shared → Prop} {M : Model} {A : Around} {E : Value → Shared → Prop} {s : Shared} (h : wpAny M A t Q E s) (hQ : ∀ a s, Q a s → Q' a s) : wpAny M A t Q' E s := wpAny_mono h hQ fun _ _ x => x
end L2
namespace L2
open PySem PySem.Spec PyProof.Rows
section
variable {X : Cx}
theorem bin {a b : Expr} {ta tb : TE} (ha : PE X a ta) (hb : PE X b tb) {pins : List (Addr × Obj)} {s : Shared} {σ : St} {H : Hp} {R : V → V → Hp → Prop} (I : Inv X pins σ H s) (h : ta σ H fun x H1 => tb σ H1 fun y H2 => R x y H2)
    {α : Type} {Q : α → Shared → Prop} {f : Value → Value → Sem α}
    (hf : ∀ v u s2 x y H2, Inv X pins σ H2 s2 → RelV x v → RelV y u → R x y H2 → wpAny (model X.prog X.w) X.A (f v u) Q X.xe s2) :
    wpAny (model X.prog X.w) X.A (eval a X.env) (fun v s₁ => wpAny (model X.prog X.w) X.A (eval b X.env) (fun u s₂ => wpAny (model X.prog X.w) X.A (f v u) Q X.xe s₂) X.xe s₁) X.xe s := by
  refine thn (ha pins s σ H _ I h) fun v s1 ⟨x, H1, I1, r1, q1⟩ => ?_
  refine thn (hb pins s1 σ H1 _ I1 q1) fun u s2 ⟨y, H2, I2, r2, q2⟩ => ?_
  exact hf v u s2 x y H2 I2 r1 r2 q2
def tVar (i : Nat) : TE := fun σ H Q => ∃ v, σ[i]? = some (some v) ∧ Q v H
def tC (v : V) : TE := fun _ H Q => Q v H
theorem pe_var {i : Nat} {x : Str} {pos : Pos} (hN : X.N[i]? = some x) (hv : Vis X.env.scope x) (hd : (x == ("__debug__" : Str)) = false := by decide) (hcd : (x == ("__classdict__" : Str)) = false := by decide) : PE X (.Name x pos) (tVar i) := by
  intro pins s σ H Q I h
  obtain ⟨v, e, h⟩ := h
  obtain ⟨m, hn, hl⟩ := I.loc
  obtain ⟨u, r, l⟩ := hl i x v hN e hv
  have fin : EP X pins σ Q u s := ⟨v, H, I, r, h⟩
  rcases l with ⟨hk, hm⟩ | ⟨hk, c, hc, hcell⟩
  · exact wpAny_Name (wpAny_loadName_local I.ok.kind hk hn hm fin) hd
  · rcases hk with hk | hk
    · exact wpAny_Name (wpAny_loadName_cell I.ok.kind hk hc hcell fin) hd
    · exact wpAny_Name (wpAny_loadName_free I.ok.kind hk hc hcell fin hcd) hd
theorem pe_int {i j pos} : PE X (.Constant (.int i) j pos) (tC (.int i)) := fun _ _ _ H _ I h => wpAny_Constant_int ⟨.int i, H, I.tok _, ⟨_, rfl⟩, h⟩
theorem pe_bl {b j pos} : PE X (.Constant (.bool b) j pos) (tC (.bl b)) := fun _ _ _ H _ I h => Constant_bool ⟨.bl b, H, I, rfl, h⟩
theorem pe_non {j pos} : PE X (.Constant .none j pos) (tC .non) := fun _ _ _ H _ I h => Constant_none ⟨.non, H, I, rfl, h⟩
def Gl (X : Cx) (x : Str) : Prop := X.env.kindOf x = some .globalImplicit
theorem ld_glob {E : Value → Shared → Prop} {pins : List (Addr × Obj)} {s : Shared} {σ : St} {H : Hp} {x : Str} {u : Value} {pos : Pos} {Q : Value → Shared → Prop} (I : Inv X pins σ H s) (hg : Gl X x) (hm : X.mg x = some u) (h : Q u s)
    (hd : (x == ("__debug__" : Str)) = false := by decide) : wpAny (model X.prog X.w) X.A (eval (.Name x pos) X.env) Q E s :=
  Calls.Name_function_global I.ok.kind hg (Calls.loadGlobal_global (by rw [I.ok.glob]; exact I.mod.glob.keeps I.bk) hm h) hd
theorem ld_blt {E : Value → Shared → Prop} {pins : List (Addr × Obj)} {s : Shared} {σ : St} {H : Hp} {x : Str} {u : Value} {pos : Pos} {Q : Value → Shared → Prop} (I : Inv X pins σ H s) (hg : Gl X x) (hm : X.mg x = none) (hv : bootBuiltins x = some u) (h : Q u s)
    (hn : x ≠ "__name__" := by decide) (hd : (x == ("__debug__" : Str)) = false := by decide) : wpAny (model X.prog X.w) X.A (eval (.Name x pos) X.env) Q E s := by
  obtain ⟨mb, h1, h2⟩ := I.mod.blt
  exact Calls.Name_function_global I.ok.kind hg (Calls.loadGlobal_builtin (by rw [I.ok.glob]; exact I.mod.glob.keeps I.bk) hm (by rw [I.ok.blt]; exact h1.keeps I.bk) ((h2 x hn).trans hv) h) hd
theorem pe_glob {x : Str} {v : V} {u : Value} {pos : Pos} (hg : Gl X x) (hm : X.mg x = some u) (r : RelV v u) (hd : (x == ("__debug__" : Str)) = false := by decide) : PE X (.Name x pos) (tC v) :=
  fun _ _ _ H _ I h => ld_glob I hg hm ⟨v, H, I, r, h⟩ hd
variable {a b : Expr} {ta tb : TE} {pos : Pos}
def PC (X : Cx) (op : CmpOp) (a b : Expr) (t : TE) : Prop :=
  ∀ (pins : List (Addr × Obj)) (s : Shared) (σ : St) (H : Hp) (Q : VK), Inv X pins σ H s → t σ H Q →
    wpAny (model X.prog X.w) X.A (eval a X.env) (fun v s₁ => wpAny (model X.prog X.w) X.A (eval b X.env) (fun u s₂ => wpAny (model X.prog X.w) X.A (compareOp op v u) (EP X pins σ Q) X.xe s₂) X.xe s₁) X.xe s
theorem nobehind (b : Expr) {op : CmpOp} (h : op ≠ .In) (h2 : op ≠ .NotIn) : behindInMarks op b = false := by
  have e1 : (op == CmpOp.In) = false := by cases op <;> first | rfl | exact absurd rfl h
  have e2 : (op == CmpOp.NotIn) = false := by cases op <;> first | rfl | exact absurd rfl h2
  cases b <;> simp [behindInMarks, e1, e2]
def tIsN (ta : TE) : TE := fun σ H Q => ta σ H fun x H1 => Q (.bl (decide (x = .non))) H1
theorem RelV.none_iff {x : V} {v : Value} (r : RelV x v) : (v == Value.none) = decide (x = .non) := by
  cases x with
  | non => cases r; rfl
  | bl _ => cases r; rfl
  | int _ => obtain ⟨t, rfl⟩ := r; rfl
  | str _ => obtain ⟨t, rfl⟩ := r; rfl
  | byt _ => obtain ⟨t, rfl⟩ := r; rfl
  | flt _ => obtain ⟨t, rfl⟩ := r; rfl
  | ref _ => cases r; rfl
  | ty _ => cases r; rfl
theorem pc_isN {j pos'} (ha : PE X a ta) : PC X .Is a (.Constant .none j pos') (tIsN ta) := by
  intro pins s σ H Q I h
  refine thn (ha pins s σ H _ I h) fun v s1 ⟨x, H1, I1, r1, q1⟩ => ?_
  exact Constant_none (is_none_gen ⟨.bl _, H1, I1, by rw [r1.none_iff]; rfl, q1⟩)
def tB (t : TE) : TT := fun σ H Q => t σ H fun x H1 => ∃ c, x = .bl c ∧ Q c H1
theorem pe_cmp {op : CmpOp} {t : TE} (h : PC X op a b t) (h1 : behindInMarks op b = false := by first | exact nobehind _ (by decide) (by decide) | rfl) : PE X (.Compare a [op] [b] pos) t := fun pins s σ H Q I hw => wpAny_Compare1 (h pins s σ H Q I hw) h1
theorem pt_cmp {op : CmpOp} {t : TE} (h : PC X op a b t) (h1 : behindInMarks op b = false := by first | exact nobehind _ (by decide) (by decide) | rfl) : PT X (.Compare a [op] [b] pos) (tB t) := by
  intro pins s σ H Q I hw
  refine wpAny_isTrue_Compare1 (thn (h pins s σ H _ I hw) fun v s1 h1 => thn h1 fun u s2 h2 => thn h2 fun c s3 ⟨x, H1, I1, r1, q1⟩ => ?_) h1
  obtain ⟨d, rfl, q⟩ := q1
  cases r1
  exact wpAny_truthy_bool ⟨H1, I1, q⟩
theorem pt_val {e : Expr} {t : TE} (h : PE X e t) (he : ∀ whole, isTrue e X.env whole = (do let v ← whole; standAt e.pos; holding [v] (truthy v)) := by intro _; rfl) : PT X e (tB t) := by
  intro pins s σ H Q I hw
  refine isTrue_plain (thn (h pins s σ H _ I hw) fun v s1 ⟨x, H1, I1, r1, q1⟩ => ?_) (he _)
  obtain ⟨d, rfl, q⟩ := q1
  cases r1
  exact wpAny_truthy_bool ⟨H1, I1, q⟩
variable {tA tB' : TT} {rest : List Expr}
def tAnd (t u : TT) : TT := fun σ H Q => t σ H fun c H1 => if c = true then u σ H1 Q else Q false H1
def tOr (t u : TT) : TT := fun σ H Q => t σ H fun c H1 => if c = true then Q true H1 else u σ H1 Q
def tNot (t : TT) : TT := fun σ H Q => t σ H fun c H1 => Q (!c) H1
theorem pw_and1 (ha : PT X a tA) : PW X (.BoolOp .And [a] pos) tA := by
  intro wh pins s σ H Q I h
  refine isTrue_and (thn (ha pins s σ H Q I h) fun c s1 e => ?_)
  cases c with
  | true => exact isTrue_and_nil e
  | false => exact e
theorem pw_or1 (ha : PT X a tA) : PW X (.BoolOp .Or [a] pos) tA := by
  intro wh pins s σ H Q I h
  refine isTrue_or (thn (ha pins s σ H Q I h) fun c s1 e => ?_)
  cases c with
  | false => exact isTrue_or_nil e
  | true => exact e
theorem pw_and (ha : PT X a tA) (hb : PW X (.BoolOp .And (b :: rest) pos) tB') : PW X (.BoolOp .And (a :: b :: rest) pos) (tAnd tA tB') := by
  intro wh pins s σ H Q I h
  refine isTrue_and (thn (ha pins s σ H _ I h) fun c s1 ⟨H1, I1, q1⟩ => ?_)
  cases c with
  | true => exact hb wh pins s1 σ H1 Q I1 q1
  | false => exact ⟨H1, I1, q1⟩
theorem pw_or (ha : PT X a tA) (hb : PW X (.BoolOp .Or (b :: rest) pos) tB') : PW X (.BoolOp .Or (a :: b :: rest) pos) (tOr tA tB') := by
  intro wh pins s σ H Q I h
  refine isTrue_or (thn (ha pins s σ H _ I h) fun c s1 ⟨H1, I1, q1⟩ => ?_)
  cases c with
  | true => exact ⟨H1, I1, q1⟩
  | false => exact hb wh pins s1 σ H1 Q I1 q1
theorem pt_not (ha : PT X a tA) : PT X (.UnaryOp .Not a pos) (tNot tA) := by
  intro pins s σ H Q I h
  exact isTrue_not (ha pins s σ H (fun c H1 => Q (!c) H1) I h)
def tIf (t : TT) (ta tb : TE) : TE := fun σ H Q => t σ H fun c H1 => if c = true then ta σ H1 Q else tb σ H1 Q
theorem pe_ifExp {c : Expr} (hc : PT X c tA) (ha : PE X a ta) (hb : PE X b tb) : PE X (.IfExp c a b pos) (tIf tA ta tb) := by
  intro pins s σ H Q I h
  refine wpAny_IfExp (thn (hc pins s σ H _ I h) fun d s1 ⟨H1, I1, q1⟩ => ?_)
  cases d with
  | true => exact ha pins s1 σ H1 Q I1 q1
  | false => exact hb pins s1 σ H1 Q I1 q1
end
end L2
namespace L2
open PySem PySem.Spec PyProof.Rows
def SqL (K : PySem.W.Frag) (H : Hp) (a : Addr) (xs : List V) : Prop :=
  Rd H a (.lst xs) ∨
    ∃ (o : Obj) (its : Array Value) (n : Nat), K.lookup a = some o ∧ o.cls = .type "list" ∧ o.dict = none ∧ o.data = .seq its n ∧ its.size ≤ sizeLine ∧ Vals xs its.toList
def SqT (K : PySem.W.Frag) (H : Hp) (a : Addr) (xs : List V) : Prop :=
  Rd H a (.tup xs) ∨
    ∃ (o : Obj) (its : Array Value) (n : Nat), K.lookup a = some o ∧ o.cls = .type "tuple" ∧ o.data = .seq its n ∧ its.size ≤ sizeLine ∧ Vals xs its.toList
def absV : Value → Option V
  | .none => some .non
  | .bool b => some (.bl b)
  | .int i _ => some (.int i)
  | .str x _ => some (.str x)
  | .bytes b _ => some (.byt b)
  | .float b _ => some (.flt b)
  | .ref a => some (.ref a)
  | .type n => some (.ty n)
  | _ => none
theorem RelV.abs {x : V} {u : Value} (r : RelV x u) : absV u = some x := by
  cases x with
  | non => cases r; rfl
  | bl _ => cases r; rfl
  | int _ => obtain ⟨t, rfl⟩ := r; rfl
  | str _ => obtain ⟨t, rfl⟩ := r; rfl
  | byt _ => obtain ⟨t, rfl⟩ := r; rfl
  | flt _ => obtain ⟨t, rfl⟩ := r; rfl
  | ref _ => cases r; rfl
  | ty _ => cases r; rfl
theorem RelV.inj {x y : V} {u : Value} (r : RelV x u) (q : RelV y u) : x = y := Option.some.inj (r.abs.symm.trans q.abs)
theorem Vals.inj : ∀ {xs ys : List V} {us : List Value}, Vals xs us → Vals ys us → xs = ys
  | _, _, _, .nil, .nil => rfl
  | _, _, _, .cons r t, .cons r' t' => by rw [r.inj r', Vals.inj t t']
section
variable {X : Cx} {pins : List (Addr × Obj)} {σ : St} {H : Hp} {s : Shared} {a : Addr} {xs ys : List V}
theorem SqL.of {K : PySem.W.Frag} (h : H a = some (.lst xs)) : SqL K H a xs := .inl (.inl h)
theorem Inv.list (I : Inv X pins σ H s) (h : SqL X.K H a xs) : ∃ its : List Value, Vals xs its ∧ PlainL s.heap a its.toArray ∧ xs.length ≤ sizeLine := by
  rcases h with h | ⟨o, its, n, hk, hc, hd, hs, hz, r⟩
  · obtain ⟨z, its, n, r, e⟩ := h.ok I.hok
    exact ⟨its, r, ⟨_, n, e, rfl, rfl, rfl⟩, z⟩
  · refine ⟨its.toList, r, ⟨o, n, I.kIn a o hk, hc, hd, by simpa using hs⟩, ?_⟩
    have e := r.length
    simp only [Array.length_toList] at e
    omega
theorem Inv.tuple (I : Inv X pins σ H s) (h : SqT X.K H a xs) : ∃ its : List Value, Vals xs its ∧ IsTup s.heap a its.toArray ∧ xs.length ≤ sizeLine := by
  rcases h with h | ⟨o, its, n, hk, hc, hs, hz, r⟩
  · obtain ⟨z, its, r, p⟩ := h.ok I.hok
    exact ⟨its, r, p, z⟩
  · refine ⟨its.toList, r, ⟨o, I.kIn a o hk, hc, n, by simpa using hs⟩, ?_⟩
    have e := r.length
    simp only [Array.length_toList] at e
    omega
theorem Inv.list_inj (I : Inv X pins σ H s) (h : SqL X.K H a xs) (h' : SqL X.K H a ys) : xs = ys := by
  obtain ⟨its, r, ⟨o, n, e, _, _, d⟩, _⟩ := I.list h
  obtain ⟨its', r', ⟨o', n', e', _, _, d'⟩, _⟩ := I.list h'
  rw [e] at e'; cases e'
  rw [d] at d'
  injection d' with d1 _
  have : its = its' := by simpa using congrArg Array.toList d1
  subst this
  exact r.inj r'
theorem Inv.tuple_inj (I : Inv X pins σ H s) (h : SqT X.K H a xs) (h' : SqT X.K H a ys) : xs = ys := by
  obtain ⟨its, r, ⟨o, e, _, n, d⟩, _⟩ := I.tuple h
  obtain ⟨its', r', ⟨o', e', _, n', d'⟩, _⟩ := I.tuple h'
  rw [e] at e'; cases e'
  rw [d] at d'
  injection d' with d1 _
  have : its = its' := by simpa using congrArg Array.toList d1
  subst this
  exact r.inj r'
end
abbrev Cx.wish (X : Cx) (E : Value → Shared → Prop) : Cx := { X with xe := E }
abbrev Cx.nox (X : Cx) : Cx := X.wish fun _ _ => False
theorem Cx.Ok.wish {X : Cx} (ok : X.Ok) (E : Value → Shared → Prop) : (X.wish E).Ok :=
  ⟨ok.mod, ok.kind, ok.glob, ok.blt, ok.above, ok.inj, ok.has, ok.cab, ok.hd, ok.frames, ok.stk, ok.exf, ok.bs, ok.bsz, ok.noex, ok.exfs, ok.funs, ok.frf⟩
theorem Cx.Ok.unwish {X : Cx} {E : Value → Shared → Prop} (ok : (X.wish E).Ok) : X.Ok :=
  ⟨ok.mod, ok.kind, ok.glob, ok.blt, ok.above, ok.inj, ok.has, ok.cab, ok.hd, ok.frames, ok.stk, ok.exf, ok.bs, ok.bsz, ok.noex, ok.exfs, ok.funs, ok.frf⟩
section
variable {X : Cx} {pins : List (Addr × Obj)} {σ : St} {H : Hp} {s : Shared} {E : Value → Shared → Prop}
theorem Inv.wish (I : Inv X pins σ H s) (E : Value → Shared → Prop) : Inv (X.wish E) pins σ H s := ⟨I.ok.wish E, I.os, I.bare, I.base, I.loc, I.cell, I.free, I.freeC, I.pin, I.hok, I.len⟩
theorem Inv.unwish (I : Inv (X.wish E) pins σ H s) : Inv X pins σ H s := ⟨I.ok.unwish, I.os, I.bare, I.base, I.loc, I.cell, I.free, I.freeC, I.pin, I.hok, I.len⟩
theorem SP.unwish {D : Ends} {f : Flow} {s' : Shared} (h : SP (X.wish E) pins D f s') : SP X pins D f s' := by
  cases f with
  | next => obtain ⟨σ', H', I, q⟩ := h; exact ⟨σ', H', I.unwish, q⟩
  | brk => obtain ⟨σ', H', I, q⟩ := h; exact ⟨σ', H', I.unwish, q⟩
  | cont => obtain ⟨σ', H', I, q⟩ := h; exact ⟨σ', H', I.unwish, q⟩
  | ret u => obtain ⟨v, σ', H', I, r, q⟩ := h; exact ⟨v, σ', H', I.unwish, r, q⟩
theorem PSs.nox {st : List Stmt} {t : TS} (h : PSs X.nox st t) : PSs X st t := fun pins s σ H D I hw =>
  wpAny_mono (h pins s σ H D (I.wish _) hw) (fun _ _ q => q.unwish) fun _ _ z => False.elim z
end
section
variable {X : Cx} {st : Stmt} {rest : List Stmt} {t u : TS} {e : Expr} {te : TE} {pos : Pos}
def tNext : TS := fun D σ H => D.nx σ H
def tSeq (t u : TS) : TS := fun D σ H => t { D with nx := u D } σ H
theorem pss_nil : PSs X [] tNext := fun _ _ σ H _ I h => wpAny_execs_nil ⟨σ, H, I, h⟩
theorem pss_cons (h1 : PS X st t) (h2 : PSs X rest u) : PSs X (st :: rest) (tSeq t u) := by
  intro pins s σ H D I h
  refine wpAny_execs_cons (thn (h1 pins s σ H { D with nx := u D } I h) fun f s1 q => ?_)
  cases f with
  | next =>
    obtain ⟨σ', H', I', q⟩ := q
    exact h2 pins s1 σ' H' D I' q
  | ret v => exact q
  | brk => exact q
  | cont => exact q
theorem pss_one (h1 : PS X st t) : PSs X [st] t := by
  intro pins s σ H D I h
  refine wpAny_execs_cons (thn (h1 pins s σ H D I h) fun f s1 q => ?_)
  cases f with
  | next => exact wpAny_execs_nil q
  | ret v => exact q
  | brk => exact q
  | cont => exact q
theorem Inv.quiet {pins : List (Addr × Obj)} {σ : St} {H : Hp} {s : Shared} (I : Inv X pins σ H s) : interactive X.env = false := by simp [interactive, I.ok.kind]
def tDrop (te : TE) : TS := fun D σ H => te σ H fun _ H1 => D.nx σ H1
theorem ps_expr (he : PE X e te) (hs : swapsWith e none pos.line X.env = pure false := by rfl) : PS X (.Expr e pos) (tDrop te) := by
  intro pins s σ H D I h
  exact wpAny_Expr_any (thn (he pins s σ H _ I h) fun v s1 ⟨x, H1, I1, r1, q1⟩ => ⟨σ, H1, I1, q1⟩) I.quiet hs
def tRet (te : TE) : TS := fun D σ H => te σ H D.rt
theorem ps_ret (he : PE X e te) : PS X (.Return (some e) pos) (tRet te) := by
  intro pins s σ H D I h
  exact wpAny_Return_some (thn (he pins s σ H _ I h) fun v s1 ⟨x, H1, I1, r1, q1⟩ => ⟨x, σ, H1, I1, r1, q1⟩)
def tIfS (c : TT) (t u : TS) : TS := fun D σ H => c σ H fun b H1 => if b = true then t D σ H1 else u D σ H1
theorem ps_if {c : Expr} {a b : List Stmt} {tc : TT} (hc : PT X c tc) (ha : PSs X a t) (hb : PSs X b u) : PS X (.If c a b pos) (tIfS tc t u) := by
  intro pins s σ H D I h
  refine wpAny_If (thn (hc pins s σ H _ I h) fun d s1 ⟨H1, I1, q1⟩ => ?_)
  cases d with
  | true => exact ha pins s1 σ H1 D I1 q1
  | false => exact hb pins s1 σ H1 D I1 q1
end
abbrev TG := V → St → Hp → (St → Hp → Prop) → Prop
abbrev TGs := List V → St → Hp → (St → Hp → Prop) → Prop
def PG (X : Cx) (target : Expr) (t : TG) : Prop :=
  ∀ (pins : List (Addr × Obj)) (s : Shared) (σ : St) (H : Hp) (v : V) (u : Value) (Q : St → Hp → Prop), Inv X pins σ H s → RelV v u → t v σ H Q →
    wpAny (model X.prog X.w) X.A (assign target X.env u) (fun _ s' => ∃ σ' H', Inv X pins σ' H' s' ∧ Q σ' H') X.xe s
def PGs (X : Cx) (ts : List Expr) (t : TGs) : Prop :=
  ∀ (pins : List (Addr × Obj)) (s : Shared) (σ : St) (H : Hp) (vs : List V) (us : List Value) (Q : St → Hp → Prop), Inv X pins σ H s → Vals vs us → t vs σ H Q →
    wpAny (model X.prog X.w) X.A (assignInOrder ((assignEach ts X.env).map (·.2)) us) (fun _ s' => ∃ σ' H', Inv X pins σ' H' s' ∧ Q σ' H') X.xe s
abbrev TSet := V → V → V → Hp → (Hp → Prop) → Prop
def PSet (X : Cx) (t : TSet) : Prop :=
  ∀ (pins : List (Addr × Obj)) (s : Shared) (σ : St) (H : Hp) (o i v : V) (ov iv u : Value) (Q : Hp → Prop), Inv X pins σ H s → RelV o ov → RelV i iv → RelV v u → t o i v H Q →
    wpAny (model X.prog X.w) X.A (setItem ov iv u) (fun _ s' => ∃ H', Inv X pins σ H' s' ∧ Q H') X.xe s
abbrev TIp := V → V → Hp → VK → Prop
def PIp (X : Cx) (op : Operator) (t : TIp) : Prop :=
  ∀ (pins : List (Addr × Obj)) (s : Shared) (σ : St) (H : Hp) (x y : V) (v u : Value) (Q : VK), Inv X pins σ H s → RelV x v → RelV y u → t x y H Q →
    wpAny (model X.prog X.w) X.A (inplaceOp op v u) (EP X pins σ Q) X.xe s
section
variable {X : Cx} {pos : Pos}
def gName (i : Nat) : TG := fun v σ H Q => Q (σ.set i (some v)) H
theorem pg_name {i : Nat} {x : Str} (hN : X.N.Nodup) (hi : X.N[i]? = some x) (hx : Loc X.env.scope x) (hf : X.fn x = true ∨ X.env.scope.names.lookup x = some .local := by first | exact .inl rfl | exact .inr rfl | assumption) : PG X (.Name x pos) (gName i) := by
  intro pins s σ H v u Q I r h
  exact wpAny_assign_Name (store_ok I hN hi hx r (fun s' I' => ⟨_, H, I', h⟩) hf)
def gNil : TGs := fun vs σ H Q => vs = [] ∧ Q σ H
def gCons (t : TG) (u : TGs) : TGs := fun vs σ H Q => ∃ v r, vs = v :: r ∧ t v σ H fun σ' H' => u r σ' H' Q
theorem pgs_nil : PGs X [] gNil := by
  intro pins s σ H vs us Q I r h
  obtain ⟨e, h⟩ := h
  subst e
  cases r
  exact assignInOrder_nil ⟨σ, H, I, h⟩
theorem pgs_cons {e : Expr} {es : List Expr} {t : TG} {u : TGs} (h1 : PG X e t) (h2 : PGs X es u)
    (hs : (assignEach (e :: es) X.env).map (·.2) = assign e X.env :: (assignEach es X.env).map (·.2) := by rfl) : PGs X (e :: es) (gCons t u) := by
  intro pins s σ H vs us Q I r h
  obtain ⟨v, vr, e1, h⟩ := h
  subst e1
  cases r with
  | cons r rr =>
    rw [hs]
    refine assignInOrder_cons (thn (h1 pins s σ H _ _ _ I r h) fun _ s1 ⟨σ1, H1, I1, q1⟩ => ?_)
    exact h2 pins s1 σ1 H1 _ _ Q I1 rr q1
def gTup (K : PySem.W.Frag) (n : Nat) (t : TGs) : TG := fun v σ H Q => ∃ a xs, v = .ref a ∧ SqT K H a xs ∧ xs.length = n ∧ t xs σ H Q
theorem pg_tup {es : List Expr} {k : Nat} {t : TGs} {n : Nat} (hc : X.calm = true) (h : PGs X es t)
    (hn : (assignEach es X.env).length = n := by rfl) (hst : (assignEach es X.env).findIdx? (·.1) = none := by rfl) : PG X (.Tuple es k pos) (gTup X.K n t) := by
  intro pins s σ H v u Q I r hw
  obtain ⟨a, xs, e1, hq, hl, hw⟩ := hw
  subst e1
  cases r
  obtain ⟨its, rv, ht, hz⟩ := I.tuple hq
  refine assign_Tuple_tuple (I.ok.hd hc) ht (by simp [hn, ← hl, rv.length]) hst fun h' hx => ?_
  have I1 : Inv X pins σ H { s with heap := h' } := I.kept (t' := s.toks) fun b o e => hx b o (Nat.ne_of_lt (Heap.lt_size e)) e
  exact h pins _ σ H xs _ Q I1 (by simpa using rv) hw
def gSub (to ti : TE) (t : TSet) : TG := fun v σ H Q => to σ H fun o H1 => ti σ H1 fun i H2 => t o i v H2 fun H3 => Q σ H3
theorem pg_sub {o i : Expr} {to ti : TE} {t : TSet} (ho : PE X o to) (hi : PE X i ti) (hs : PSet X t)
    (ha : ∀ v, assign (.Subscript o i pos) X.env v = (do
      let ov ← holding [v] (eval o X.env)
      let iv ← holding [v, ov] (eval i X.env)
      standAt pos
      holding [v, ov, iv] (setItem ov iv v)
      release [v, ov, iv] []) := by intro _; rfl) : PG X (.Subscript o i pos) (gSub to ti t) := by
  intro pins s σ H v u Q I r h
  rw [ha]
  refine wpAny_bind (wpAny_holding (thn (ho pins s σ H _ I h) fun ov s1 ⟨x, H1, I1, r1, q1⟩ => ?_))
  refine wpAny_bind (wpAny_holding (thn (hi pins s1 σ H1 _ I1 q1) fun iv s2 ⟨y, H2, I2, r2, q2⟩ => ?_))
  refine wpAny_bind (wpAny_standAt (wpAny_bind (wpAny_holding (thn (hs pins s2 σ H2 x y v ov iv u _ I2 r1 r2 r q2) fun _ s3 ⟨H3, I3, q3⟩ => ?_))))
  exact wpAny_release ⟨σ, H3, I3, q3⟩
def tAsg (te : TE) (g : TG) : TS := fun D σ H => te σ H fun x H1 => g x σ H1 D.nx
theorem ps_asg {tg e : Expr} {te : TE} {g : TG} (he : PE X e te) (hg : PG X tg g) (hs : swapsWithSole [tg] e pos.line X.env = pure false := by rfl) (hw : swappedStores [tg] e X.env = pure none := by rfl)
    (h1 : (assignEach [tg] X.env).map (·.2) = [assign tg X.env] := by rfl) : PS X (.Assign [tg] e pos) (tAsg te g) := by
  intro pins s σ H D I h
  refine wpAny_Assign_stores (thn (he pins s σ H _ I h) fun v s1 ⟨x, H1, I1, r1, q1⟩ => ?_) hs hw
  rw [h1]
  exact thn (hg pins s1 σ H1 x v _ I1 r1 q1) fun _ s2 q => q
theorem ps_set {i : Nat} {x : Str} {e : Expr} {te : TE} {pos' : Pos} (hN : X.N.Nodup) (hi : X.N[i]? = some x) (hx : Loc X.env.scope x) (he : PE X e te) (hs : swapsWith e (some (.Name x pos')) pos.line X.env = pure false := by rfl) (hf : X.fn x = true ∨ X.env.scope.names.lookup x = some .local := by first | exact .inl rfl | exact .inr rfl | assumption) :
    PS X (.Assign [.Name x pos'] e pos) (tAsg te (gName i)) := by
  intro pins s σ H D I h
  refine wpAny_Assign_Name (thn (he pins s σ H _ I h) fun v s1 ⟨y, H1, I1, r1, q1⟩ => ?_) hs
  exact store_ok I1 hN hi hx r1 (fun s2 I2 => ⟨_, H1, I2, q1⟩) hf
def tAug (i : Nat) (te : TE) (ti : TIp) : TS := fun D σ H => ∃ x, σ[i]? = some (some x) ∧ te σ H fun y H1 => ti x y H1 fun z H2 => D.nx (σ.set i (some z)) H2
theorem ps_aug {i : Nat} {x : Str} {e : Expr} {te : TE} {op : Operator} {ti : TIp} {pos' : Pos} (hN : X.N.Nodup) (hi : X.N[i]? = some x) (hx : Loc X.env.scope x) (he : PE X e te) (ho : PIp X op ti) (hf : X.fn x = true ∨ X.env.scope.names.lookup x = some .local := by first | exact .inl rfl | exact .inr rfl | assumption) :
    PS X (.AugAssign (.Name x pos') op e pos) (tAug i te ti) := by
  intro pins s σ H D I h
  obtain ⟨v, e1, h⟩ := h
  obtain ⟨m, hn, hl⟩ := I.loc
  have vis : Vis X.env.scope x := by rcases hx with k | k; exact .inl k; exact .inr (.inl k)
  obtain ⟨u, r, l⟩ := hl i x v hi e1 vis
  refine wpAny_AugAssign_Name ?_
  have go : wpAny (model X.prog X.w) X.A (eval e X.env) (fun w s₂ => wpAny (model X.prog X.w) X.A (inplaceOp op u w) (fun r s₃ => wpAny (model X.prog X.w) X.A (storeName X.env x r) (fun _ => SP X pins D .next) X.xe s₃) X.xe s₂) X.xe s := by
    refine thn (he pins s σ H _ I h) fun w s1 ⟨y, H1, I1, r1, q1⟩ => ?_
    refine thn (ho pins s1 σ H1 v y u w _ I1 r r1 q1) fun z s2 ⟨zv, H2, I2, r2, q2⟩ => ?_
    exact store_ok I2 hN hi hx r2 (fun s3 I3 => ⟨_, H2, I3, q2⟩) hf
  rcases l with ⟨hk, hm⟩ | ⟨hk, c, hc, hcell⟩
  · exact wpAny_loadName_local I.ok.kind hk hn hm go
  · rcases hk with hk | hk
    · exact wpAny_loadName_cell I.ok.kind hk hc hcell go
    · rcases hx with k | k
      · have : X.env.scope.names.lookup x = some .free := hk
        rw [k] at this; cases this
      · have : X.env.scope.names.lookup x = some .free := hk
        rw [k] at this; cases this
def tAugS (to ti te : TE) (tget : V → V → Hp → VK → Prop) (tip : TIp) (tset : TSet) : TS := fun D σ H => to σ H fun o H1 => ti σ H1 fun i H2 => tget o i H2 fun x H3 => te σ H3 fun y H4 => tip x y H4 fun z H5 => tset o i z H5 fun H6 => D.nx σ H6
def PGet (X : Cx) (t : V → V → Hp → VK → Prop) : Prop :=
  ∀ (pins : List (Addr × Obj)) (s : Shared) (σ : St) (H : Hp) (o i : V) (ov iv : Value) (Q : VK), Inv X pins σ H s → RelV o ov → RelV i iv → t o i H Q →
    wpAny (model X.prog X.w) X.A (getItem ov iv) (EP X pins σ Q) X.xe s
theorem ps_augS {o i e : Expr} {to ti te : TE} {tget : V → V → Hp → VK → Prop} {tip : TIp} {tset : TSet} {op : Operator} {tpos : Pos} (ho : PE X o to) (hi : PE X i ti) (hg : PGet X tget) (he : PE X e te) (hp : PIp X op tip) (hs : PSet X tset)
    (ha : ∀ ov iv new, augStore i ov iv new = (do holding [new, ov, iv] (setItem ov iv new); release [new, ov, iv] []; pure .next) := by intros; rfl) : PS X (.AugAssign (.Subscript o i tpos) op e pos) (tAugS to ti te tget tip tset) := by
  intro pins s σ H D I h
  refine wpAny_AugAssign_SubscriptAny (thn (ho pins s σ H _ I h) fun ov s1 ⟨x1, H1, I1, r1, q1⟩ => ?_) ha
  refine thn (hi pins s1 σ H1 _ I1 q1) fun iv s2 ⟨x2, H2, I2, r2, q2⟩ => ?_
  refine thn (hg pins s2 σ H2 x1 x2 ov iv _ I2 r1 r2 q2) fun old s3 ⟨x3, H3, I3, r3, q3⟩ => ?_
  refine thn (he pins s3 σ H3 _ I3 q3) fun v s4 ⟨x4, H4, I4, r4, q4⟩ => ?_
  refine thn (hp pins s4 σ H4 x3 x4 old v _ I4 r3 r4 q4) fun new s5 ⟨x5, H5, I5, r5, q5⟩ => ?_
  exact thn (hs pins s5 σ H5 x1 x2 x5 ov iv new _ I5 r1 r2 r5 q5) fun _ s6 ⟨H6, I6, q6⟩ => ⟨σ, H6, I6, q6⟩
def ipI (f : Int → Int → Int) : TIp := fun x y H Q => ∃ i j, x = .int i ∧ y = .int j ∧ Q (.int (f i j)) H
theorem ip_add : PIp X .Add (ipI fun i j => i + j) := by
  intro pins s σ H x y v u Q I r1 r2 h
  obtain ⟨i, j, e1, e2, q⟩ := h
  subst e1; subst e2
  obtain ⟨t, rfl⟩ := r1
  obtain ⟨t', rfl⟩ := r2
  exact iadd_int ⟨.int _, H, I.tok _, ⟨_, rfl⟩, q⟩
theorem ip_sub : PIp X .Sub (ipI fun i j => i - j) := by
  intro pins s σ H x y v u Q I r1 r2 h
  obtain ⟨i, j, e1, e2, q⟩ := h
  subst e1; subst e2
  obtain ⟨t, rfl⟩ := r1
  obtain ⟨t', rfl⟩ := r2
  exact isub_int ⟨.int _, H, I.tok _, ⟨_, rfl⟩, q⟩
end
section
variable {X : Cx} {pos : Pos}
def tWhile (c : TT) (tb : TS) : TS := fun D σ H => ∃ W : Nat → St → Hp → Prop, (∃ m, W m σ H) ∧ ∀ m σ H, W m σ H →
  c σ H fun b H1 => if b = true then ∃ N : St → Hp → Prop, (∀ σ' H', N σ' H' → ∃ m', m' < m ∧ W m' σ' H') ∧ tb { D with nx := N, ct := N, bk := D.nx } σ H1 else D.nx σ H1
theorem ps_while {c : Expr} {body : List Stmt} {tc : TT} {tb : TS} (hp : PassesOwn (model X.prog X.w) X.A X.env X.xe) (hc : PT X c tc) (hb : PSs X body tb) : PS X (.While c body [] pos) (tWhile tc tb) := by
  intro pins s σ H D I h
  obtain ⟨W, ⟨m0, w0⟩, turn⟩ := h
  refine wpAny_While (codeAny_whileLoop (fun n s' => ∃ σ' H', Inv X pins σ' H' s' ∧ W n σ' H') ?_ m0 ⟨σ, H, I, w0⟩)
  rintro n s1 ⟨σ1, H1, I1, w1⟩
  refine wpAny_passesOwn hp (thn (hc pins s1 σ1 H1 _ I1 (turn n σ1 H1 w1)) fun b s2 ⟨H2, I2, q2⟩ => ?_)
  cases b with
  | true =>
    obtain ⟨N, hN, q2⟩ := q2
    rw [if_pos rfl]
    refine wpAny_passesOwn hp (thn (hb pins s2 σ1 H2 _ I2 q2) fun f s3 q3 => ?_)
    cases f with
    | next =>
      obtain ⟨σ3, H3, I3, n3⟩ := q3
      obtain ⟨m', hm, w3⟩ := hN σ3 H3 n3
      exact ⟨m', hm, σ3, H3, I3, w3⟩
    | cont =>
      obtain ⟨σ3, H3, I3, n3⟩ := q3
      obtain ⟨m', hm, w3⟩ := hN σ3 H3 n3
      exact ⟨m', hm, σ3, H3, I3, w3⟩
    | brk => exact q3
    | ret v => exact q3
  | false =>
    rw [if_neg Bool.false_ne_true]
    exact wpAny_execs_nil ⟨σ1, H2, I2, q2⟩
end
structure It where
  go : Nat → Hp → Prop
  yld : Nat → Hp → V → Hp → Prop
  stop : Nat → Hp → Prop
def FpOk (X : Cx) (pins : List (Addr × Obj)) (H : Hp) (b : Addr) : Prop :=
  H b = none ∧ b ≠ X.env.locals ∧ b ∉ X.fs ∧ (b ∈ X.ex ∨ X.s_0.heap.objs.size ≤ b) ∧ (∀ x c, X.env.cells.lookup x = some c → c ≠ b) ∧ ∀ p ∈ X.pn ++ pins, p.1 ≠ b
theorem Inv.fpOk {X : Cx} {pins : List (Addr × Obj)} {σ : St} {H H' : Hp} {s : Shared} {b : Addr} (I : Inv X pins σ H s) (hb : s.heap.objs.size ≤ b) (hn : H' b = none) : FpOk X pins H' b := by
  refine ⟨hn, Nat.ne_of_gt (Nat.lt_of_lt_of_le I.lt hb), I.nofs hb, .inr (Nat.le_trans I.sz hb), fun x c e z => ?_, fun p hp z => ?_⟩
  · obtain ⟨v, q⟩ := I.cell x c e
    exact absurd (Nat.lt_of_lt_of_le q.lt (by rw [z]; exact hb)) (Nat.lt_irrefl _)
  · exact absurd (Nat.lt_of_lt_of_le (Heap.lt_size (I.pin p hp).1) (by rw [z]; exact hb)) (Nat.lt_irrefl _)
structure Turn (P : Program) (w : World) (K : PySem.W.Frag) (tg : Expr) (J : It) (fp : List Addr) (it : Addr) (tn : Nat → Heap → Prop) : Prop where
  mem : it ∈ fp
  obj : ∀ i h, tn i h → ∀ b ∈ fp, ∃ o, h.get? b = some o ∧ ∀ v, o.data ≠ .cell v
  keep : ∀ i h h', tn i h → (∀ b ∈ fp, ∀ o, h.get? b = some o → h'.get? b = some o) → tn i h'
  item : ∀ (X : Cx), X.prog = P → X.w = w → X.K = K → X.calm = true → ∀ (i : Nat) (pins : List (Addr × Obj)) (s : Shared) (σ : St) (H : Hp) (E : Value → Shared → Prop), Inv X pins σ H s → (∀ b ∈ fp, FpOk X pins H b) → tn i s.heap → J.go i H →
    wpAny (model P w) X.A (pyNext (.ref it)) (fun r s1 => ∃ u, r = some u ∧
      wpAny (model P w) X.A (letOwnedTupleGo tg (.ref it) u) (fun _ s2 => ∃ x H', Inv X pins σ H' s2 ∧ RelV x u ∧ J.yld i H x H' ∧ tn (i + 1) s2.heap ∧ ∀ b ∈ fp, H' b = none) E s1) E s
  done : ∀ (X : Cx), X.prog = P → X.w = w → X.K = K → X.calm = true → ∀ (i : Nat) (pins : List (Addr × Obj)) (s : Shared) (σ : St) (H : Hp) (E : Value → Shared → Prop), Inv X pins σ H s → (∀ b ∈ fp, FpOk X pins H b) → tn i s.heap → J.stop i H →
    wpAny (model P w) X.A (pyNext (.ref it)) (fun r s1 => r = none ∧ Inv X pins σ H s1) E s
  self : ∀ (A : Around) (i : Nat) (s : Shared) (Q : Value → Shared → Prop) (E : Value → Shared → Prop), tn i s.heap → Q (.ref it) s → wpAny (model P w) A (pyIter (.ref it)) Q E s
abbrev TI := St → Hp → (It → Hp → Prop) → Prop
def PIE (X : Cx) (pins : List (Addr × Obj)) (σ : St) (tg : Expr) (R : It → Hp → Prop) (itv : Value) (s2 : Shared) : Prop :=
  ∃ (it : Addr) (fp : List Addr) (tn : Nat → Heap → Prop) (J : It) (H' : Hp), itv = .ref it ∧ Inv X pins σ H' s2 ∧ Turn X.prog X.w X.K tg J fp it tn ∧ tn 0 s2.heap ∧ (∀ b ∈ fp, FpOk X pins H' b) ∧ R J H'
def PI (X : Cx) (tg iter : Expr) (wi : TI) : Prop :=
  ∀ (pins : List (Addr × Obj)) (s : Shared) (σ : St) (H : Hp) (R : It → Hp → Prop), Inv X pins σ H s → wi σ H R →
    wpAny (model X.prog X.w) X.A (eval iter X.env) (fun v s1 => wpAny (model X.prog X.w) X.A (pyIter v) (PIE X pins σ tg R) X.xe s1) X.xe s
theorem go_of {M : Model} {A : Around} {E : Value → Shared → Prop} {s : Shared} {tg : Expr} {it : Addr} {u : Value} {o : Obj} {n : String} {vs : Array Value} {Q : Unit → Shared → Prop} (ho : s.heap.get? it = some o) (hc : o.cls = .type n) (hd : o.data = .fields vs)
    (hn : ["enumerate", "zip", "dict_itemiterator", "dict_reverseitemiterator", "odict_iterator", "itertools.zip_longest", "itertools.pairwise"].contains n = false) (hQ : Q () s) : wpAny M A (letOwnedTupleGo tg (.ref it) u) Q E s := by
  unfold letOwnedTupleGo
  cases tg <;> first
    | exact wpAny_pure hQ
    | (cases u <;> first
        | exact wpAny_pure hQ
        | (refine wpAny_bind (wpAny_load ho ?_)
           rw [hc, hd]
           show wpAny M A (if (["enumerate", "zip", "dict_itemiterator", "dict_reverseitemiterator", "odict_iterator", "itertools.zip_longest", "itertools.pairwise"].contains n && vs[0]? == some (rawInt _)) = true then _ else _) Q E s
           rw [if_neg (by intro h; rw [hn, Bool.false_and] at h; cases h)]
           exact wpAny_pure hQ))
def Itl (K : PySem.W.Frag) (a : Addr) : It :=
  ⟨fun i H => ∃ xs x, SqL K H a xs ∧ xs[i]? = some x, fun i H x H' => H' = H ∧ ∀ xs, SqL K H a xs → xs[i]? = some x, fun i H => ∃ xs, SqL K H a xs ∧ xs.length ≤ i⟩
theorem turn_list {P : Program} {w : World} {K : PySem.W.Frag} {tg : Expr} (a it : Addr) : Turn P w K tg (Itl K a) [it] it (fun i h => h.IsListIter it a i) where
  mem := by simp
  obj := fun i h st b hb => by
    have e : b = it := by simpa using hb
    subst e
    obtain ⟨o, e, c, d⟩ := st
    exact ⟨o, e, fun v z => by rw [d] at z; cases z⟩
  keep := fun i h h' st k => st.at fun o e => k it (by simp) o e
  item := by
    intro X hP hw hK hc i pins s σ H E I hf st hg
    subst hP hw hK
    obtain ⟨xs, x, hq, hx⟩ := hg
    obtain ⟨its, rv, p, hz⟩ := I.list hq
    obtain ⟨u, hu, ru⟩ := rv.get hx
    obtain ⟨f0, f1, f2, f3, f4, f5⟩ := hf it (by simp)
    refine wpAny_pyNext_list_item st p.isList (x := u) (by simpa using hu) fun h' st' sb => ?_
    have I1 : Inv X pins σ H { s with heap := h' } := I.turned (t' := s.toks) (fun b o hb e => (sb.2 b hb).trans e) f0 f1 f3 f4 f5
    obtain ⟨o, e, c, d⟩ := id st'
    exact ⟨u, rfl, go_of (s := { s with heap := h' }) e c d (by decide) ⟨x, H, I1, ru, ⟨rfl, fun ys hy => by rw [I.list_inj hy hq]; exact hx⟩, st', fun b hb => (hf b hb).1⟩⟩
  done := by
    intro X hP hw hK hc i pins s σ H E I hf st hg
    subst hP hw hK
    obtain ⟨xs, hq, hx⟩ := hg
    obtain ⟨its, rv, p, hz⟩ := I.list hq
    obtain ⟨f0, f1, f2, f3, f4, f5⟩ := hf it (by simp)
    have hl := rv.length
    exact wpAny_pyNext_list_end (I.ok.hd hc) st p.isList (by simp; omega) fun h' eb => ⟨rfl, I.turned (t' := s.toks) (fun b o hb e => eb b o hb e) f0 f1 f3 f4 f5⟩
  self := fun _ _ _ _ _ st h => wpAny_pyIter_listiter st h
end L2
namespace L2
open PySem PySem.Spec PyProof.Rows
section
variable {X : Cx} {tg : Expr}
def iList (K : PySem.W.Frag) (tl : TE) : TI := fun σ H R => tl σ H fun x H1 => ∃ a, x = .ref a ∧ (∃ xs, SqL K H1 a xs) ∧ R (Itl K a) H1
theorem pi_list {l : Expr} {tl : TE} (hl : PE X l tl) : PI X tg l (iList X.K tl) := by
  intro pins s σ H R I h
  refine thn (hl pins s σ H _ I h) fun v s1 ⟨x, H1, I1, r1, q1⟩ => ?_
  obtain ⟨a, e, ⟨xs, hq⟩, q⟩ := q1
  subst e
  cases r1
  obtain ⟨its, rv, p, hz⟩ := I1.list hq
  refine wpAny_pyIter_list p.isList ?_
  refine ⟨s1.heap.objs.size, [s1.heap.objs.size], _, _, H1, rfl, I1.kept (t' := s1.toks) fun b o e => Heap.get?_push_of_some _ e, turn_list a _, ⟨_, Heap.get?_push_size _ rfl, rfl, rfl⟩, fun b hb => ?_, q⟩
  have e : b = s1.heap.objs.size := by simpa using hb
  subst e
  exact I1.fpOk (Nat.le_refl _) (I1.hok.fresh (Nat.le_refl _))
def tFor (wi : TI) (g : TG) (tb : TS) : TS := fun D σ H => wi σ H fun J H1 => ∃ W : Nat → Nat → St → Hp → Prop, (∃ m, W 0 m σ H1) ∧ ∀ i m σ H, W i m σ H →
  (J.stop i H ∧ D.nx σ H) ∨ (J.go i H ∧ ∃ N : St → Hp → Prop, (∀ σ' H', N σ' H' → ∃ m', m' < m ∧ W (i + 1) m' σ' H') ∧ ∀ x H', J.yld i H x H' → g x σ H' fun σ2 H2 => tb { D with nx := N, ct := N, bk := D.nx } σ2 H2)
def pinsAt (fp : List Addr) (h : Heap) : List (Addr × Obj) := fp.filterMap fun b => (h.get? b).map fun o => (b, o)
theorem mem_pinsAt {fp : List Addr} {h : Heap} {b : Addr} {o : Obj} (hb : b ∈ fp) (e : h.get? b = some o) : (b, o) ∈ pinsAt fp h := List.mem_filterMap.mpr ⟨b, hb, by rw [e]; rfl⟩
theorem of_pinsAt {fp : List Addr} {h : Heap} {p : Addr × Obj} (hp : p ∈ pinsAt fp h) : p.1 ∈ fp ∧ h.get? p.1 = some p.2 := by
  obtain ⟨b, hb, e⟩ := List.mem_filterMap.mp hp
  cases q : h.get? b with
  | none => rw [q] at e; cases e
  | some o =>
    rw [q] at e
    have e' : (b, o) = p := Option.some.inj e
    subst e'
    exact ⟨hb, q⟩
theorem Inv.pinned {pins : List (Addr × Obj)} {σ : St} {H : Hp} {s : Shared} {fp : List Addr} (I : Inv X pins σ H s) (hf : ∀ b ∈ fp, FpOk X pins H b) (ho : ∀ b ∈ fp, ∃ o, s.heap.get? b = some o ∧ ∀ v, o.data ≠ .cell v) : Inv X (pins ++ pinsAt fp s.heap) σ H s :=
  I.pins_of fun p hp => (List.mem_append.mp hp).elim (fun z => I.pin p (List.mem_append_right _ z)) fun z => by
    obtain ⟨hb, e⟩ := of_pinsAt z
    obtain ⟨f0, f1, f2, _⟩ := hf p.1 hb
    obtain ⟨o, e', d⟩ := ho p.1 hb
    rw [e] at e'; cases e'
    exact ⟨e, f0, f1, f2, d⟩
theorem Inv.unpinned {pins pl : List (Addr × Obj)} {σ : St} {H : Hp} {s : Shared} (I : Inv X (pins ++ pl) σ H s) : Inv X pins σ H s := I.pins_of fun p hp => I.pin p (List.mem_append_right _ (List.mem_append_left _ hp))
theorem ps_for {iter : Expr} {body : List Stmt} {wi : TI} {g : TG} {tb : TS} {pos : Pos} (hp : PassesOwn (model X.prog X.w) X.A X.env X.xe) (hc : X.calm = true) (hi : PI X tg iter wi) (hg : PG X tg g) (hb : PSs X body tb)
    (hs : ∀ x, foldedSetIterable iter X.env x = pure x := by intro _; rfl) : PS X (.For tg iter body [] pos) (tFor wi g tb) := by
  intro pins s σ H D I h
  refine wpAny_For (thn (hi pins s σ H _ I h) fun v s1 h1 => thn h1 fun itv s2 h2 => ?_) hs
  obtain ⟨it, fp, tn, J, H2, e, I2, T, st2, f2, W, ⟨m0, w0⟩, turn⟩ := h2
  subst e
  have stat : ∀ {H' : Hp}, (∀ b ∈ fp, H' b = none) → ∀ b ∈ fp, FpOk X pins H' b := fun hn b hb => ⟨hn b hb, (f2 b hb).2⟩
  refine codeAny_forLoop_any (fun n s' => ∃ i σ' H', Inv X pins σ' H' s' ∧ tn i s'.heap ∧ (∀ b ∈ fp, H' b = none) ∧ W i n σ' H') ?_ m0 ⟨0, σ, H2, I2, st2, fun b hb => (f2 b hb).1, w0⟩
  rintro n s3 ⟨i, σ3, H3, I3, st3, fr3, w3⟩
  rcases turn i n σ3 H3 w3 with ⟨stop, qn⟩ | ⟨go, N, hN, step⟩
  · refine wpAny_passesOwn hp (thn (T.done X rfl rfl rfl hc i pins s3 σ3 H3 X.xe I3 (stat fr3) st3 stop) fun r s4 ⟨hr, I4⟩ => ?_)
    subst hr
    exact wpAny_execs_nil ⟨σ3, H3, I4, qn⟩
  · refine wpAny_passesOwn hp (thn (T.item X rfl rfl rfl hc i pins s3 σ3 H3 X.xe I3 (stat fr3) st3 go) fun r s4 ⟨u, hr, h4⟩ => ?_)
    subst hr
    refine wpAny_passesOwn hp (thn h4 fun _ s5 ⟨x, H5, I5, r5, y5, st5, fr5⟩ => ?_)
    have I5' := I5.pinned (stat fr5) (T.obj _ _ st5)
    refine wpAny_passesOwn hp (thn (hg _ s5 σ3 H5 x u _ I5' r5 (step x H5 y5)) fun _ s6 ⟨σ6, H6, I6, q6⟩ => ?_)
    refine wpAny_passesOwn hp (thn (hb _ s6 σ6 H6 _ I6 q6) fun f s7 q7 => ?_)
    have again : ∀ {σ7 : St} {H7 : Hp}, Inv X (pins ++ pinsAt fp s5.heap) σ7 H7 s7 → N σ7 H7 → ∃ m, m < n ∧ ∃ i σ' H', Inv X pins σ' H' s7 ∧ tn i s7.heap ∧ (∀ b ∈ fp, H' b = none) ∧ W i m σ' H' := fun {σ7 H7} I7 n7 => by
      obtain ⟨m', hm, w7⟩ := hN σ7 H7 n7
      refine ⟨m', hm, i + 1, σ7, H7, I7.unpinned, T.keep _ _ _ st5 fun b hb o e => (I7.pin (b, o) (List.mem_append_right _ (List.mem_append_right _ (mem_pinsAt hb e)))).1, fun b hb => ?_, w7⟩
      obtain ⟨o, e, d⟩ := T.obj _ _ st5 b hb
      exact (I7.pin (b, o) (List.mem_append_right _ (List.mem_append_right _ (mem_pinsAt hb e)))).2.1
    cases f with
    | next => obtain ⟨σ7, H7, I7, n7⟩ := q7; exact again I7 n7
    | cont => obtain ⟨σ7, H7, I7, n7⟩ := q7; exact again I7 n7
    | brk => obtain ⟨σ7, H7, I7, q7⟩ := q7; exact ⟨σ7, H7, I7.unpinned, q7⟩
    | ret v => obtain ⟨x7, σ7, H7, I7, r7, q7⟩ := q7; exact ⟨x7, σ7, H7, I7.unpinned, r7, q7⟩
end
theorem for_list {K : PySem.W.Frag} {a : Addr} {xs : List V} {g : TG} {tb : TS} {D : Ends} {σ : St} {H : Hp} (Pv : Nat → St → Hp → Prop) (h0 : Pv 0 σ H) (hl : ∀ i σ H, i ≤ xs.length → Pv i σ H → SqL K H a xs)
    (hs : ∀ i x σ H, xs[i]? = some x → Pv i σ H → g x σ H fun σ2 H2 => tb { D with nx := Pv (i + 1), ct := Pv (i + 1), bk := D.nx } σ2 H2) (hd : ∀ σ H, Pv xs.length σ H → D.nx σ H) :
    ∃ W : Nat → Nat → St → Hp → Prop, (∃ m, W 0 m σ H) ∧ ∀ i m σ H, W i m σ H →
      ((Itl K a).stop i H ∧ D.nx σ H) ∨ ((Itl K a).go i H ∧ ∃ N : St → Hp → Prop, (∀ σ' H', N σ' H' → ∃ m', m' < m ∧ W (i + 1) m' σ' H') ∧ ∀ x H', (Itl K a).yld i H x H' → g x σ H' fun σ2 H2 => tb { D with nx := N, ct := N, bk := D.nx } σ2 H2) := by
  refine ⟨fun i m σ H => m = xs.length - i ∧ i ≤ xs.length ∧ Pv i σ H, ⟨xs.length, by simp, Nat.zero_le _, h0⟩, ?_⟩
  rintro i m σ H ⟨rfl, hi, p⟩
  have q := hl i σ H hi p
  by_cases hlt : i < xs.length
  · refine .inr ⟨⟨xs, xs[i], q, by simp [hlt]⟩, Pv (i + 1), fun σ' H' p' => ⟨xs.length - (i + 1), by omega, rfl, hlt, p'⟩, fun x H' y => ?_⟩
    obtain ⟨e, y⟩ := y
    subst e
    exact hs i x σ _ (y xs q) p
  · have e : i = xs.length := by omega
    subst e
    exact .inl ⟨⟨xs, q, Nat.le_refl _⟩, hd σ H p⟩
end L2
namespace L2
open PySem PySem.Spec PyProof.Rows
abbrev R2 := V → V → Hp → VK → Prop
def OpR (X : Cx) (f : Value → Value → Sem Value) (r : R2) : Prop :=
  ∀ (pins : List (Addr × Obj)) (s : Shared) (σ : St) (H : Hp) (x y : V) (v u : Value) (Q : VK), Inv X pins σ H s → RelV x v → RelV y u → r x y H Q →
    wpAny (model X.prog X.w) X.A (f v u) (EP X pins σ Q) X.xe s
def UnR (X : Cx) (f : Value → Sem Value) (r : V → Hp → VK → Prop) : Prop :=
  ∀ (pins : List (Addr × Obj)) (s : Shared) (σ : St) (H : Hp) (x : V) (v : Value) (Q : VK), Inv X pins σ H s → RelV x v → r x H Q →
    wpAny (model X.prog X.w) X.A (f v) (EP X pins σ Q) X.xe s
def CallR (X : Cx) (f : Value) (r : List V → Hp → VK → Prop) : Prop :=
  ∀ (pins : List (Addr × Obj)) (s : Shared) (σ : St) (H : Hp) (xs : List V) (us : List Value) (Q : VK), Inv X pins σ H s → Vals xs us → r xs H Q →
    wpAny (model X.prog X.w) X.A (call f us) (EP X pins σ Q) X.xe s
def tOp (r : R2) (ta tb : TE) : TE := fun σ H Q => ta σ H fun x H1 => tb σ H1 fun y H2 => r x y H2 Q
def tUn (r : V → Hp → VK → Prop) (ta : TE) : TE := fun σ H Q => ta σ H fun x H1 => r x H1 Q
def rI (C : Int → Int → Prop) (g : Int → Int → V) : R2 := fun x y H Q => ∃ i j, x = .int i ∧ y = .int j ∧ C i j ∧ Q (g i j) H
def rI0 (g : Int → Int → V) : R2 := fun x y H Q => ∃ i j, x = .int i ∧ y = .int j ∧ Q (g i j) H
def rU (g : Int → V) : V → Hp → VK → Prop := fun x H Q => ∃ i, x = .int i ∧ Q (g i) H
section
variable {X : Cx} {a b c : Expr} {ta tb tc : TE} {pos : Pos}
theorem binT (ha : PE X a ta) (hb : PE X b tb) {pins : List (Addr × Obj)} {s : Shared} {σ : St} {H : Hp} {R : V → V → Hp → Prop} (I : Inv X pins σ H s)
    (h : ta σ H fun x H1 => tb σ H1 fun y H2 => R x y H2) {Q : Value → Shared → Prop} {f : Value → Value → Sem Value}
    (hf : ∀ v u s2 x y H2, Inv X pins σ H2 s2 → RelV x v → RelV y u → R x y H2 → wpAny (model X.prog X.w) X.A (f v u) Q X.xe s2) :
    wpAny (model X.prog X.w) X.A (eval a X.env) (fun v s₁ => wpAny (model X.prog X.w) X.A (eval b X.env) (fun u s₂ => wpAny (model X.prog X.w) X.A (f v u) Q X.xe s₂) X.xe s₁) X.xe s := by
  refine thn (ha pins s σ H _ I h) fun v s1 ⟨x, H1, I1, r1, q1⟩ => ?_
  refine thn (hb pins s1 σ H1 _ I1 q1) fun u s2 ⟨y, H2, I2, r2, q2⟩ => ?_
  exact hf v u s2 x y H2 I2 r1 r2 q2
theorem pe_op {op : Operator} {r : R2} (ho : OpR X (binaryOp op) r) (ha : PE X a ta) (hb : PE X b tb) : PE X (.BinOp a op b pos) (tOp r ta tb) := by
  intro pins s σ H Q I h
  exact wpAny_BinOp (binT ha hb I h fun v u s2 x y H2 I2 rx ry q => ho pins s2 σ H2 x y v u Q I2 rx ry q)
theorem pe_un {op : UnaryOp} {r : V → Hp → VK → Prop} (ho : UnR X (unaryOp op) r) (ha : PE X a ta) : PE X (.UnaryOp op a pos) (tUn r ta) := by
  intro pins s σ H Q I h
  exact UnaryOp_ (thn (ha pins s σ H _ I h) fun v s1 ⟨x, H1, I1, r1, q1⟩ => ho pins s1 σ H1 x v Q I1 r1 q1)
theorem opI {f : Value → Value → Sem Value} {C : Int → Int → Prop} {g : Int → Int → Int}
    (rule : ∀ (i j : Int) (t u : Tok) (s : Shared) (Q : Value → Shared → Prop) (E : Value → Shared → Prop), C i j → Q (.int (g i j) s.toks) { s with toks := s.toks + 1 } → wpAny (model X.prog X.w) X.A (f (.int i t) (.int j u)) Q E s) :
    OpR X f (rI C fun i j => .int (g i j)) := by
  intro pins s σ H x y v u Q I rx ry h
  obtain ⟨i, j, rfl, rfl, hc, q⟩ := h
  obtain ⟨t, rfl⟩ := rx
  obtain ⟨t', rfl⟩ := ry
  exact rule i j t t' s _ _ hc ⟨.int (g i j), H, I.tok _, ⟨_, rfl⟩, q⟩
theorem opI0 {f : Value → Value → Sem Value} {g : Int → Int → Int}
    (rule : ∀ (i j : Int) (t u : Tok) (s : Shared) (Q : Value → Shared → Prop) (E : Value → Shared → Prop), Q (.int (g i j) s.toks) { s with toks := s.toks + 1 } → wpAny (model X.prog X.w) X.A (f (.int i t) (.int j u)) Q E s) :
    OpR X f (rI0 fun i j => .int (g i j)) := by
  intro pins s σ H x y v u Q I rx ry h
  obtain ⟨i, j, rfl, rfl, q⟩ := h
  obtain ⟨t, rfl⟩ := rx
  obtain ⟨t', rfl⟩ := ry
  exact rule i j t t' s _ _ ⟨.int (g i j), H, I.tok _, ⟨_, rfl⟩, q⟩
theorem opB0 {f : Value → Value → Sem Value} {g : Int → Int → Bool}
    (rule : ∀ (i j : Int) (t u : Tok) (s : Shared) (Q : Value → Shared → Prop) (E : Value → Shared → Prop), Q (.bool (g i j)) s → wpAny (model X.prog X.w) X.A (f (.int i t) (.int j u)) Q E s) :
    OpR X f (rI0 fun i j => .bl (g i j)) := by
  intro pins s σ H x y v u Q I rx ry h
  obtain ⟨i, j, rfl, rfl, q⟩ := h
  obtain ⟨t, rfl⟩ := rx
  obtain ⟨t', rfl⟩ := ry
  exact rule i j t t' s _ _ ⟨.bl (g i j), H, I, rfl, q⟩
def CDiv (i j : Int) : Prop := 0 < j ∧ j < 1073741824
theorem op_add : OpR X (binaryOp .Add) (rI0 fun i j => .int (i + j)) := opI0 fun _ _ _ _ _ _ _ q => add_int q
theorem op_sub : OpR X (binaryOp .Sub) (rI0 fun i j => .int (i - j)) := opI0 fun _ _ _ _ _ _ _ q => sub_int q
theorem op_fdiv : OpR X (binaryOp .FloorDiv) (rI CDiv fun i j => .int (i / j)) := opI fun i j _ _ _ _ _ hc q => by
  have h1 : (0 : Int) < j := hc.1
  have h2 : j < 1073741824 := hc.2
  exact floordiv_int (by omega) (by rw [Int.fdiv_eq_ediv_of_nonneg i (by omega)]; exact q) (.inl (PyProof.noPylong_small (by omega)))
theorem unI {f : Value → Sem Value} {g : Int → Int}
    (rule : ∀ (i : Int) (t : Tok) (s : Shared) (Q : Value → Shared → Prop) (E : Value → Shared → Prop), Q (.int (g i) s.toks) { s with toks := s.toks + 1 } → wpAny (model X.prog X.w) X.A (f (.int i t)) Q E s) :
    UnR X f (rU fun i => .int (g i)) := by
  intro pins s σ H x v Q I rx h
  obtain ⟨i, rfl, q⟩ := h
  obtain ⟨t, rfl⟩ := rx
  exact rule i t s _ _ ⟨.int (g i), H, I.tok _, ⟨_, rfl⟩, q⟩
theorem un_neg : UnR X (unaryOp .USub) (rU fun i => .int (-i)) := unI fun _ _ _ _ _ q => neg_int q
end
def scal : V → V → Bool
  | .non, .non => true | .non, .int _ => true | .int _, .non => true | .non, .bl _ => true | .bl _, .non => true | .non, .str _ => true | .str _, .non => true
  | .int _, .int _ => true | .bl _, .bl _ => true | .str _, .str _ => true | .byt _, .byt _ => true
  | .int _, .str _ => true | .str _, .int _ => true | .bl _, .str _ => true | .str _, .bl _ => true
  | _, _ => false
def rEq : R2 := fun x y H Q => scal x y = true ∧ Q (.bl (decide (x = y))) H
def rNe : R2 := fun x y H Q => scal x y = true ∧ Q (.bl (!decide (x = y))) H
theorem dec_int {i j : Int} : decide (V.int i = V.int j) = (i == j) := by
  rw [Bool.eq_iff_iff]
  simp
theorem dec_bl {i j : Bool} : decide (V.bl i = V.bl j) = (i == j) := by
  rw [Bool.eq_iff_iff]
  simp
theorem dec_str {i j : Str} : decide (V.str i = V.str j) = (i == j) := by
  rw [Bool.eq_iff_iff]
  simp
theorem dec_byt {i j : Array UInt8} : decide (V.byt i = V.byt j) = (i.toList == j.toList) := by
  rw [Bool.eq_iff_iff]
  cases i
  cases j
  simp
section
variable {X : Cx} {a b c : Expr} {ta tb tc : TE} {pos : Pos}
theorem fin_bl {pins : List (Addr × Obj)} {σ : St} {H : Hp} {s : Shared} {Q : VK} {k k' : Bool} (I : Inv X pins σ H s) (q : Q (.bl k) H) (e : k = k') : EP X pins σ Q (.bool k') s := by
  subst e
  exact ⟨.bl k, H, I, rfl, q⟩
theorem op_eq : OpR X (compareOp .Eq) rEq := by
  intro pins s σ H x y v u Q I rx ry h
  obtain ⟨hs, q⟩ := h
  cases x with
  | non =>
    cases rx
    cases y with
    | non => cases ry; exact PySem.EqNone.eq_none_none (fin_bl I q (by simp))
    | bl j => cases ry; exact PySem.EqNone.eq_none_bool (fin_bl I q (by simp))
    | int j => obtain ⟨t', rfl⟩ := ry; exact PySem.EqNone.eq_none_int (fin_bl I q (by simp))
    | str j => obtain ⟨t', rfl⟩ := ry; exact PySem.EqNone.eq_none_str (fin_bl I q (by simp))
    | _ => exact absurd (show false = true from hs) Bool.false_ne_true
  | bl i =>
    cases rx
    cases y with
    | non => cases ry; exact PySem.EqNone.eq_bool_none (fin_bl I q (by simp))
    | bl j => cases ry; exact eq_bool (fin_bl I q dec_bl)
    | str j => obtain ⟨t', rfl⟩ := ry; exact PySem.EqMixed.eq_bool_str (fin_bl I q (by simp))
    | _ => exact absurd (show false = true from hs) Bool.false_ne_true
  | int i =>
    obtain ⟨t, rfl⟩ := rx
    cases y with
    | non => cases ry; exact PySem.EqNone.eq_int_none (fin_bl I q (by simp))
    | int j => obtain ⟨t', rfl⟩ := ry; exact eq_int (fin_bl I q dec_int)
    | str j => obtain ⟨t', rfl⟩ := ry; exact PySem.EqMixed.eq_int_str (fin_bl I q (by simp))
    | _ => exact absurd (show false = true from hs) Bool.false_ne_true
  | str i =>
    obtain ⟨t, rfl⟩ := rx
    cases y with
    | non => cases ry; exact PySem.EqNone.eq_str_none (fin_bl I q (by simp))
    | bl j => cases ry; exact PySem.EqMixed.eq_str_bool (fin_bl I q (by simp))
    | int j => obtain ⟨t', rfl⟩ := ry; exact PySem.EqMixed.eq_str_int (fin_bl I q (by simp))
    | str j => obtain ⟨t', rfl⟩ := ry; exact eq_str (fin_bl I q dec_str)
    | _ => exact absurd (show false = true from hs) Bool.false_ne_true
  | byt i =>
    obtain ⟨t, rfl⟩ := rx
    cases y with
    | byt j => obtain ⟨t', rfl⟩ := ry; exact PySem.W.eq_bytes (fin_bl I q dec_byt)
    | _ => exact absurd (show false = true from hs) Bool.false_ne_true
  | _ => cases y <;> exact absurd (show false = true from hs) Bool.false_ne_true
theorem op_ne : OpR X (compareOp .NotEq) rNe := by
  intro pins s σ H x y v u Q I rx ry h
  obtain ⟨hs, q⟩ := h
  cases x with
  | non =>
    cases rx
    cases y with
    | non => cases ry; exact PySem.EqNone.ne_none_none (fin_bl I q (by simp))
    | bl j => cases ry; exact PySem.EqNone.ne_none_bool (fin_bl I q (by simp))
    | int j => obtain ⟨t', rfl⟩ := ry; exact PySem.EqNone.ne_none_int (fin_bl I q (by simp))
    | str j => obtain ⟨t', rfl⟩ := ry; exact PySem.EqNone.ne_none_str (fin_bl I q (by simp))
    | _ => exact absurd (show false = true from hs) Bool.false_ne_true
  | bl i =>
    cases rx
    cases y with
    | non => cases ry; exact PySem.EqNone.ne_bool_none (fin_bl I q (by simp))
    | bl j => cases ry; exact ne_bool (fin_bl I q (congrArg not dec_bl))
    | str j => obtain ⟨t', rfl⟩ := ry; exact PySem.EqMixed.ne_bool_str (fin_bl I q (by simp))
    | _ => exact absurd (show false = true from hs) Bool.false_ne_true
  | int i =>
    obtain ⟨t, rfl⟩ := rx
    cases y with
    | non => cases ry; exact PySem.EqNone.ne_int_none (fin_bl I q (by simp))
    | int j => obtain ⟨t', rfl⟩ := ry; exact ne_int (fin_bl I q (congrArg not dec_int))
    | str j => obtain ⟨t', rfl⟩ := ry; exact PySem.EqMixed.ne_int_str (fin_bl I q (by simp))
    | _ => exact absurd (show false = true from hs) Bool.false_ne_true
  | str i =>
    obtain ⟨t, rfl⟩ := rx
    cases y with
    | non => cases ry; exact PySem.EqNone.ne_str_none (fin_bl I q (by simp))
    | bl j => cases ry; exact PySem.EqMixed.ne_str_bool (fin_bl I q (by simp))
    | int j => obtain ⟨t', rfl⟩ := ry; exact PySem.EqMixed.ne_str_int (fin_bl I q (by simp))
    | str j => obtain ⟨t', rfl⟩ := ry; exact ne_str (fin_bl I q (congrArg not dec_str))
    | _ => exact absurd (show false = true from hs) Bool.false_ne_true
  | byt i =>
    obtain ⟨t, rfl⟩ := rx
    cases y with
    | byt j => obtain ⟨t', rfl⟩ := ry; exact PySem.W.ne_bytes (fin_bl I q (congrArg not dec_byt))
    | _ => exact absurd (show false = true from hs) Bool.false_ne_true
  | _ => cases y <;> exact absurd (show false = true from hs) Bool.false_ne_true
theorem op_lt : OpR X (compareOp .Lt) (rI0 fun i j => .bl (decide (i < j))) := opB0 fun _ _ _ _ _ _ _ q => lt_int q
theorem op_le : OpR X (compareOp .LtE) (rI0 fun i j => .bl (decide (i ≤ j))) := opB0 fun _ _ _ _ _ _ _ q => le_int q
theorem op_gt : OpR X (compareOp .Gt) (rI0 fun i j => .bl (decide (j < i))) := opB0 fun _ _ _ _ _ _ _ q => gt_int q
theorem op_ge : OpR X (compareOp .GtE) (rI0 fun i j => .bl (decide (j ≤ i))) := opB0 fun _ _ _ _ _ _ _ q => ge_int q
theorem nomark (b : Expr) {op : CmpOp} (h : op ≠ .In := by decide) (h2 : op ≠ .NotIn := by decide) : behindInMarks op b = false := by
  have e1 : (op == CmpOp.In) = false := by cases op <;> first | rfl | exact absurd rfl h
  have e2 : (op == CmpOp.NotIn) = false := by cases op <;> first | rfl | exact absurd rfl h2
  cases b <;> simp [behindInMarks, e1, e2]
theorem pe_cmpR {op : CmpOp} {r : R2} (ho : OpR X (compareOp op) r) (ha : PE X a ta) (hb : PE X b tb) (hm : behindInMarks op b = false) : PE X (.Compare a [op] [b] pos) (tOp r ta tb) := by
  intro pins s σ H Q I h
  exact wpAny_Compare1 (binT ha hb I h fun v u s2 x y H2 I2 rx ry q => ho pins s2 σ H2 x y v u Q I2 rx ry q) hm
def tTest (t : TE) : TT := fun σ H Q => t σ H fun x H' => ∃ k, x = .bl k ∧ Q k H'
theorem pt_cmpR {op : CmpOp} {r : R2} (ho : OpR X (compareOp op) r) (ha : PE X a ta) (hb : PE X b tb) (hm : behindInMarks op b = false) : PT X (.Compare a [op] [b] pos) (tTest (tOp r ta tb)) := by
  intro pins s σ H Q I h
  refine wpAny_isTrue_Compare1 (thn (ha pins s σ H _ I h) fun v s1 ⟨x, H1, I1, r1, q1⟩ => thn (hb pins s1 σ H1 _ I1 q1) fun u s2 ⟨y, H2, I2, r2, q2⟩ =>
    thn (ho pins s2 σ H2 x y v u _ I2 r1 r2 q2) fun c s3 ⟨z, H3, I3, r3, k, e, q3⟩ => ?_) hm
  subst e
  cases r3
  exact wpAny_truthy_bool ⟨H3, I3, q3⟩
def tChain (r r' : R2) (ta tb tc : TE) : TE := fun σ H Q => ta σ H fun x H1 => tb σ H1 fun y H2 => r x y H2 fun z H3 => ∃ k, z = .bl k ∧
  (if k = true then tc σ H3 fun w' H4 => r' y w' H4 Q else Q (.bl false) H3)
theorem pe_chain {op op' : CmpOp} {r r' : R2} (ho : OpR X (compareOp op) r) (ho' : OpR X (compareOp op') r') (ha : PE X a ta) (hb : PE X b tb) (hc : PE X c tc)
    (hm : lastMarks [op, op'] [b, c] = false := by with_unfolding_all rfl) : PE X (.Compare a [op, op'] [b, c] pos) (tChain r r' ta tb tc) := by
  intro pins s σ H Q I h
  refine Compare_chain (thn (ha pins s σ H _ I h) fun v s1 ⟨x, H1, I1, r1, q1⟩ => chain_link (thn (hb pins s1 σ H1 _ I1 q1) fun u s2 ⟨y, H2, I2, r2, q2⟩ =>
    thn (ho pins s2 σ H2 x y v u _ I2 r1 r2 q2) fun d s3 ⟨z, H3, I3, r3, k, e, q3⟩ => ?_)) hm
  subst e
  cases r3
  refine wpAny_truthy_bool ?_
  cases k with
  | false => exact ite_ff ⟨.bl false, H3, I3, rfl, q3⟩
  | true => exact ite_tt (chain_last (thn (hc pins s3 σ H3 _ I3 q3) fun w' s4 ⟨z', H4, I4, r4, q4⟩ => ho' pins s4 σ H4 y z' u w' Q I4 r2 r4 q4))
theorem line63 : (sizeLine : Nat) < 2 ^ 63 := by rw [sizeLine_eq]; decide
theorem vals1 {x : V} {us : List Value} (r : Vals [x] us) : ∃ u, us = [u] ∧ RelV x u := by
  cases r with
  | cons r1 r2 => cases r2; exact ⟨_, rfl, r1⟩
theorem vals2 {x y : V} {us : List Value} (r : Vals [x, y] us) : ∃ u w', us = [u, w'] ∧ RelV x u ∧ RelV y w' := by
  cases r with
  | cons r1 r2 =>
    cases r2 with
    | cons r3 r4 => cases r4; exact ⟨_, _, rfl, r1, r3⟩
theorem call_min2 (hc : X.calm = true) : CallR X (.builtin "min") (fun xs H Q => ∃ i j, xs = [.int i, .int j] ∧ Q (.int (if j < i then j else i)) H) := by
  intro pins s σ H xs us Q I r h
  obtain ⟨i, j, rfl, q⟩ := h
  obtain ⟨u, w', rfl, ⟨t, rfl⟩, ⟨t', rfl⟩⟩ := vals2 r
  refine min_two_ints (I.ok.hd hc) fun h' tk k => ⟨_, H, I.kept k, ?_, q⟩
  by_cases hj : j < i
  · rw [if_pos hj, if_pos hj]; exact ⟨_, rfl⟩
  · rw [if_neg hj, if_neg hj]; exact ⟨_, rfl⟩
end
end L2
namespace L2
open PySem PySem.Spec PyProof.Rows
structure ObjM (h : Heap) (x dx C : Addr) (mA : Str → Option Value) : Prop where
  obj : h.get? x = some (PySem.W.instObj C dx)
  ns : h.Ns1 dx mA
  ne : dx ≠ x
theorem lookIn_ns {h : Heap} {dx : Addr} {mA : Str → Option Value} (n : h.Ns1 dx mA) : ∃ od, h.get? dx = some od ∧ ∀ name, PySem.W.lookIn name od = some (mA name) := by
  obtain ⟨o, es, ep, ho, hd, hk, _, hm⟩ := n
  refine ⟨o, ho, fun name => ?_⟩
  have e := hm name
  unfold nsFind findBy at e
  rw [← Array.find?_toList] at e
  unfold PySem.W.lookIn
  rw [hd]
  dsimp only
  split
  · rename_i y q
    rw [q] at e
    exact congrArg some e
  · rename_i q
    rw [q] at e
    have a : es.toList.any (·.refKey) = false := by
      rw [List.any_eq_false]
      intro y hy
      obtain ⟨z, t, hkey⟩ := hk y (Array.mem_toList_iff.mp hy)
      simp [DictEntry.refKey, hkey]
    have a' : ¬ es.toList.any (·.refKey) = true := by rw [a]; exact Bool.false_ne_true
    rw [if_neg a']
    exact congrArg some e
theorem ObjM.look {h : Heap} {x dx C : Addr} {mA : Str → Option Value} (I : ObjM h x dx C mA) : ∃ od, PySem.W.InstAt h x (PySem.W.instObj C dx) C (some od) ∧ ∀ name, PySem.W.lookIn name od = some (mA name) :=
  let ⟨od, ho, hl⟩ := lookIn_ns I.ns
  ⟨od, ⟨I.obj, rfl, rfl, ho⟩, hl⟩
section
variable {prog : Program} {w : World} {A : Around} {E : Value → Shared → Prop} {s : Shared} {K : PySem.W.Frag} {x dx C f : Addr} {mA : Str → Option Value} {name : Str} {v : Value}
theorem get_map {expr : Bool} {Q : Value → Shared → Prop} (X : K.In s.heap) (I : ObjM s.heap x dx C mA) (hg : PySem.W.plainGet K C name = true) (hh : PySem.W.hasDictIn K C = true)
    (ha : PySem.W.findIn K (.ref C) name = some none) (hv : mA name = some v) (hv' : PySem.W.handedIn v = true) (h : Q v { s with toks := s.toks + 1 }) :
    wpAny (model prog w) A (getAttr (.ref x) name expr) Q E s := by
  obtain ⟨od, J, hl⟩ := I.look
  exact PySem.W.get_value X J (PySem.W.plainGet_of hg).1 (PySem.W.findObj_own hh ha rfl (by rw [hl, hv])) hv' h
theorem get_meth {pl : Sem Bool} {Q : Value × List Value → Shared → Prop} (X : K.In s.heap) (I : ObjM s.heap x dx C mA) (hg : PySem.W.plainGet K C name = true)
    (hf : PySem.W.findIn K (.ref C) name = some (some (.ref f))) (ht : PySem.W.isFn K (.ref f) = true) (hv : mA name = none) (h : Q (.ref f, [.ref x]) s) :
    wpAny (model prog w) A (getMethod (.ref x) name pl) Q E s := by
  obtain ⟨od, J, hl⟩ := I.look
  exact PySem.W.method_fn X J (PySem.W.plainGet_of hg).1 (PySem.W.plainGet_of hg).2 hf (beq_iff_eq.mp ht) (by show (PySem.W.lookIn name od).map (·.isSome) = some false; rw [hl, hv]; rfl) h
theorem set_map {ns : List Str} {Q : Unit → Shared → Prop} (X : K.In s.heap) (I : ObjM s.heap x dx C mA)
    (hs : PySem.W.findIn K (.ref C) "__setattr__" = some (some (.builtin "object.__setattr__"))) (hp : PySem.W.plainOver K C = true) (ht : PySem.W.takerIn K C name = some none) (hh : PySem.W.hasDictIn K C = true)
    (hw : PySem.Within mA ns) (hsz : ns.length ≤ sizeLine)
    (h : ∀ h', ObjM h' x dx C (fun y => if y = name then some v else mA y) → Heap.SameBut dx s.heap h' → Q () { s with heap := h', toks := s.toks + 2 }) :
    wpAny (model prog w) A (setAttr (.ref x) name v) Q E s := by
  obtain ⟨od, J, hl⟩ := I.look
  refine PySem.W.set_plain X J hs (PySem.W.osa_open (s := { s with toks := s.toks + 1 }) (r := none) X J hp ht fun b => ?_)
  obtain ⟨cd, hc, hd'⟩ := PySem.W.any_some hh
  have hx : s.heap.get? x = some ⟨.ref C, some dx, .plain, #[]⟩ := I.obj
  refine wpAny_bind (wpAny_pure (wpAny_bind (wpAny_bind (wpAny_loadPart hx (wpAny_bind (PySem.W.Looks.here (s := { s with toks := s.toks + 1 }) (PySem.W.looks_clsIn X hc) ?_))))))
  rw [hd']
  refine wpAny_pure (a := some dx) (wpAny_bind (wpAny_pure (wpAny_bind ?_)))
  refine wpAny_nsSet1 (s := { s with toks := s.toks + 1 }) I.ns fun h' hn2 hs2 => ?_
  obtain ⟨oD, esD, epD, hoD, hdD, hcD⟩ := hn2.count (PySem.Within.cons name v hw)
  refine wpAny_bind (wpAny_lookBehind hoD (by rw [hdD]; exact pastItsLine_dict (Nat.le_trans hcD (by rw [List.length_cons]; omega))) ?_)
  exact wpAny_pure (h _ ⟨(hs2.2 _ (Ne.symm I.ne)).trans I.obj, hn2, I.ne⟩ hs2)
theorem make_map {R : Result → Shared → Prop} {vs : List Value} {kw : List (Str × Value)} (X : K.In s.heap) (hm : PySem.W.makesIn K C = true)
    (hi : PySem.W.findIn K (.ref C) "__init__" = some (some (.ref f))) (hf : PySem.W.typeIn K (.ref f) = some (.type "function"))
    (h : codeAny (model prog w) (A.under (.builtin "type.__call__" ⟨.ref C :: vs, kw⟩)) (.call (.ref f) ⟨.ref (s.heap.objs.size + 1) :: vs, kw⟩) (PySem.W.InitBack (s.heap.objs.size + 1) R)
      { s with heap := (s.heap.push PySem.W.emptyDict).push (PySem.W.instObj C s.heap.objs.size) }) :
    codeAny (model prog w) A (.call (.ref C) ⟨vs, kw⟩) R s := by
  obtain ⟨hh, g, d, t, os⟩ := s
  exact PySem.W.make_core (PySem.W.makes_of X hm) (PySem.W.looks_findIn X hi) (fun self => PySem.W.bind_fn X self hf) (.inl rfl) h
end
def putF (f : Str) (v : V) : List (Str × V) → List (Str × V)
  | [] => [(f, v)]
  | (g, x) :: r => if g = f then (g, v) :: r else (g, x) :: putF f v r
theorem lookup_putF (f g : Str) (v : V) : ∀ fs : List (Str × V), (putF f v fs).lookup g = if g = f then some v else fs.lookup g
  | [] => by
    show List.lookup g [(f, v)] = _
    by_cases h : g = f
    · have hb : (g == f) = true := beq_iff_eq.mpr h
      simp only [List.lookup, hb, if_pos h]
    · have hb : (g == f) = false := beq_eq_false_iff_ne.mpr h
      simp only [List.lookup, hb, if_neg h]
  | (k, x) :: r => by
    have ih := lookup_putF f g v r
    rw [show putF f v ((k, x) :: r) = (if k = f then (k, v) :: r else (k, x) :: putF f v r) from rfl]
    by_cases hk : k = f
    · rw [if_pos hk]
      by_cases h : g = k
      · have hb : (g == k) = true := beq_iff_eq.mpr h
        simp only [List.lookup, hb, if_pos (h.trans hk)]
      · have hb : (g == k) = false := beq_eq_false_iff_ne.mpr h
        simp only [List.lookup, hb, if_neg (fun e : g = f => h (e.trans hk.symm))]
    · rw [if_neg hk]
      by_cases h : g = k
      · have hb : (g == k) = true := beq_iff_eq.mpr h
        simp only [List.lookup, hb, if_neg (fun e : g = f => hk (h.symm.trans e))]
      · have hb : (g == k) = false := beq_eq_false_iff_ne.mpr h
        simp only [List.lookup, hb]
        exact ih
theorem keys_putF (f : Str) (v : V) : ∀ fs : List (Str × V), f ∈ (putF f v fs).map (·.1) ∧ ∀ g, g ∈ fs.map (·.1) → g ∈ (putF f v fs).map (·.1)
  | [] => ⟨by simp [putF], fun g h => by simp at h⟩
  | (k, x) :: r => by
    obtain ⟨i1, i2⟩ := keys_putF f v r
    rw [show putF f v ((k, x) :: r) = (if k = f then (k, v) :: r else (k, x) :: putF f v r) from rfl]
    by_cases hk : k = f
    · rw [if_pos hk]
      subst hk
      exact ⟨by simp, fun g h => by simpa using h⟩
    · rw [if_neg hk]
      refine ⟨?_, fun g h => ?_⟩
      · rw [List.map_cons]
        exact List.mem_cons_of_mem _ i1
      · rw [List.map_cons] at h ⊢
        rcases List.mem_cons.mp h with e | e
        · exact List.mem_cons.mpr (.inl e)
        · exact List.mem_cons_of_mem _ (i2 g e)
theorem length_putF (f : Str) (v : V) : ∀ fs : List (Str × V), (putF f v fs).length ≤ fs.length + 1
  | [] => by simp [putF]
  | (k, x) :: r => by
    have ih := length_putF f v r
    rw [show putF f v ((k, x) :: r) = (if k = f then (k, v) :: r else (k, x) :: putF f v r) from rfl]
    by_cases hk : k = f
    · rw [if_pos hk, List.length_cons, List.length_cons]; omega
    · rw [if_neg hk, List.length_cons, List.length_cons]; omega
theorem RelO.some_of {v : V} {o : Option Value} (r : RelO (some v) o) : ∃ u, o = some u ∧ RelV v u := by
  cases o with
  | none => exact (show False from r).elim
  | some u => exact ⟨u, rfl, r⟩
theorem RelO.none_of {o : Option Value} (r : RelO none o) : o = none := by
  cases o with
  | none => rfl
  | some u => exact (show False from r).elim
theorem handed_of {v : V} {u : Value} (r : RelV v u) : PySem.W.handedIn u = true := by
  cases v with
  | non => cases (show u = Value.none from r); rfl
  | bl b => cases (show u = Value.bool b from r); rfl
  | int i => obtain ⟨t, e⟩ := (show ∃ t, u = Value.int i t from r); cases e; rfl
  | str x => obtain ⟨t, e⟩ := (show ∃ t, u = Value.str x t from r); cases e; rfl
  | byt b => obtain ⟨t, e⟩ := (show ∃ t, u = Value.bytes b t from r); cases e; rfl
  | flt b => obtain ⟨t, e⟩ := (show ∃ t, u = Value.float b t from r); cases e; rfl
  | ref a => cases (show u = Value.ref a from r); rfl
  | ty n => cases (show u = Value.type n from r); rfl
section
variable {P : Program} {w : World} {H H' : Hp} {h h' : Heap} {a C dx : Addr} {fs fs' : List (Str × V)}
theorem ins_get (hok : HOk P w H h) (e : H a = some (.ins C dx fs)) : ∃ mA, ObjM h a dx C mA ∧ (∀ f, RelO (fs.lookup f) (mA f)) ∧ PySem.Within mA (fs.map (·.1)) ∧ fs.length ≤ 1000 ∧ H dx = some (.own a) := by
  obtain ⟨d, z, ne, ob, mA, n, r, q⟩ := (show ObjOk P w H h a (.ins C dx fs) from hok a _ e)
  exact ⟨mA, ⟨ob, n, ne⟩, r, q, z, d⟩
end
structure Cls (K : PySem.W.Frag) (C : Addr) : Prop where
  pg : PySem.W.plainGet K C Str.empty = true
  hd : PySem.W.hasDictIn K C = true
  po : PySem.W.plainOver K C = true
  sa : PySem.W.findIn K (.ref C) "__setattr__" = some (some (.builtin "object.__setattr__"))
theorem Cls.get {K : PySem.W.Frag} {C : Addr} (c : Cls K C) (f : Str) : PySem.W.plainGet K C f = true := c.pg
def NoAttr (K : PySem.W.Frag) (C : Addr) (f : Str) : Prop := PySem.W.findIn K (.ref C) f = some none
theorem NoAttr.taker {K : PySem.W.Frag} {C : Addr} {f : Str} (n : NoAttr K C f) : PySem.W.takerIn K C f = some none := by
  unfold PySem.W.takerIn
  rw [show PySem.W.findIn K (.ref C) f = some none from n]
  rfl
structure Meth (K : PySem.W.Frag) (C : Addr) (m : Str) (f : Addr) : Prop where
  at_ : PySem.W.findIn K (.ref C) m = some (some (.ref f))
  fn : PySem.W.isFn K (.ref f) = true
  kp : PySem.W.keepIn K (.ref f) = true
section
variable {X : Cx} {pins : List (Addr × Obj)} {σ : St} {H : Hp} {s : Shared} {a C dx : Addr} {fs : List (Str × V)} {f : Str} {v : V} {A : Around} {E : Value → Shared → Prop}
theorem getattr_ok {b : Bool} {Q : Value → Shared → Prop} (I : Inv X pins σ H s) (e : H a = some (.ins C dx fs)) (c : Cls X.K C) (n : NoAttr X.K C f) (l : fs.lookup f = some v)
    (h : ∀ u s', Inv X pins σ H s' → RelV v u → Q u s') : wpAny (model X.prog X.w) A (getAttr (.ref a) f b) Q E s := by
  obtain ⟨mA, O, r, _, _, _⟩ := ins_get I.hok e
  obtain ⟨u, hu, ru⟩ := RelO.some_of (v := v) (o := mA f) (by rw [← l]; exact r f)
  exact get_map I.kIn O (c.get f) c.hd n hu (handed_of ru) (h u _ (I.tok _) ru)
theorem getmeth_ok {m : Str} {g : Addr} {pl : Sem Bool} {Q : Value × List Value → Shared → Prop} (I : Inv X pins σ H s) (e : H a = some (.ins C dx fs)) (c : Cls X.K C) (k : Meth X.K C m g) (l : fs.lookup m = none)
    (h : Q (.ref g, [.ref a]) s) : wpAny (model X.prog X.w) A (getMethod (.ref a) m pl) Q E s := by
  obtain ⟨mA, O, r, _, _, _⟩ := ins_get I.hok e
  have hn : mA m = none := RelO.none_of (by rw [← l]; exact r m)
  exact get_meth I.kIn O (c.get m) k.at_ k.fn hn h
theorem setattr_ok {y : V} {u : Value} {Q : Unit → Shared → Prop} (I : Inv X pins σ H s) (e : H a = some (.ins C dx fs)) (c : Cls X.K C) (n : NoAttr X.K C f) (hl : fs.length < 1000) (ry : RelV y u)
    (h : ∀ s', Inv X pins σ (upd H a (.ins C dx (putF f y fs))) s' → Q () s') : wpAny (model X.prog X.w) A (setAttr (.ref a) f u) Q E s := by
  obtain ⟨mA, O, r, wi, _, ho⟩ := ins_get I.hok e
  have hz : (fs.map (·.1)).length ≤ sizeLine := by rw [List.length_map, sizeLine_eq]; omega
  refine set_map I.kIn O c.sa c.po n.taker c.hd wi hz fun h' O' sb => h _ ?_
  have hd : ∃ o, h'.get? dx = some o := let ⟨o, _, _, e', _⟩ := O'.ns; ⟨o, e'⟩
  refine I.write (x := a) (e := dx) (by rw [e]; exact True.intro) (.inr ho) (fun b q hb z => (sb.2 b hb).trans z) hd ?_
  refine ⟨by rw [upd_ne O.ne]; exact ho, ?_, O.ne, O'.obj, _, O'.ns, fun g => ?_, fun g hg => ?_⟩
  · have := length_putF f y fs; omega
  · show RelO ((putF f y fs).lookup g) (if g = f then some u else mA g)
    rw [lookup_putF]
    by_cases q : g = f
    · rw [if_pos q, if_pos q]; exact ry
    · rw [if_neg q, if_neg q]; exact r g
  · by_cases q : g = f
    · rw [q]; exact (keys_putF f y fs).1
    · refine (keys_putF f y fs).2 g (wi g fun z => hg ?_)
      show (if g = f then some u else mA g) = none
      rw [if_neg q]; exact z
theorem Inv.made (I : Inv X pins σ H s) : Inv X pins σ (upd (upd H s.heap.objs.size (.own (s.heap.objs.size + 1))) (s.heap.objs.size + 1) (.ins C s.heap.objs.size []))
    { s with heap := (s.heap.push PySem.W.emptyDict).push (PySem.W.instObj C s.heap.objs.size) } := by
  have e1 : (s.heap.push PySem.W.emptyDict).get? s.heap.objs.size = some PySem.W.emptyDict := Heap.get?_push_size s.heap rfl
  have e2 : ((s.heap.push PySem.W.emptyDict).push (PySem.W.instObj C s.heap.objs.size)).get? (s.heap.objs.size + 1) = some (PySem.W.instObj C s.heap.objs.size) := by
    have := Heap.get?_push_size (s.heap.push PySem.W.emptyDict) (o := PySem.W.instObj C s.heap.objs.size) rfl
    rwa [Heap.size_push] at this
  have e3 : (s.heap.push PySem.W.emptyDict).Ns s.heap.objs.size (fun _ => none) := ⟨PySem.W.emptyDict, #[], _, e1, rfl, (fun e he => absurd he (by simp)), fun _ => rfl⟩
  have I1 := I.laid (a := s.heap.objs.size) (o := .own (s.heap.objs.size + 1)) (h' := s.heap.push PySem.W.emptyDict) (t' := s.toks) (fun b u q => Heap.get?_push_of_some _ q) (Nat.le_refl _) ⟨_, e1⟩
  refine I1.laid (a := s.heap.objs.size + 1) (o := .ins C s.heap.objs.size []) (t' := s.toks) (fun b u q => Heap.get?_push_of_some _ q) (Nat.le_of_eq (Heap.size_push _ _)) ?_
  have ne : s.heap.objs.size ≠ s.heap.objs.size + 1 := Nat.ne_of_lt (Nat.lt_succ_self _)
  refine ⟨by rw [upd_ne ne, upd_same], Nat.zero_le _, ne, e2, fun _ => none, (Heap.Ns1.of_empty e3).at fun o q => Heap.get?_push_of_some _ q, fun _ => True.intro, fun y hy => absurd rfl hy⟩
theorem attr_of {prog : Program} {w : World} {env : Env} {e : Expr} {f : Str} {pos : Pos} {s : Shared} {Q : Value → Shared → Prop} (hb : attributeBase e f env (eval e env) = eval e env)
    (h : wpAny (model prog w) A (eval e env) (fun o s₁ => wpAny (model prog w) A (getAttr o f true) Q E s₁) E s) : wpAny (model prog w) A (eval (.Attribute e f pos) env) Q E s :=
  Attribute_any_ h (by rw [arm_eval_Attribute, hb])
end
def tFld (K : PySem.W.Frag) (ta : TE) (f : Str) : TE := fun σ H Q => ta σ H fun x H1 => ∃ a C dx fs v, x = .ref a ∧ H1 a = some (.ins C dx fs) ∧ Cls K C ∧ NoAttr K C f ∧ fs.lookup f = some v ∧ Q v H1
def sFld (K : PySem.W.Frag) (ta tv : TE) (f : Str) : TS := fun D σ H => tv σ H fun y H1 => ta σ H1 fun x H2 => ∃ a C dx fs, x = .ref a ∧ H2 a = some (.ins C dx fs) ∧ Cls K C ∧ NoAttr K C f ∧ fs.length < 1000 ∧
  D.nx σ (upd H2 a (.ins C dx (putF f y fs)))
def InOp (X : Cx) (op : Operator) (rd : V → V → Hp → VK → Prop) : Prop :=
  ∀ (pins : List (Addr × Obj)) (s : Shared) (σ : St) (H : Hp) (x y : V) (u v : Value) (Q : VK), Inv X pins σ H s → RelV x u → RelV y v → rd x y H Q → wpAny (model X.prog X.w) X.A (inplaceOp op u v) (EP X pins σ Q) X.xe s
def sFldAug (K : PySem.W.Frag) (ta tv : TE) (rd : V → V → Hp → VK → Prop) (f : Str) : TS := fun D σ H => ta σ H fun x H1 => ∃ a C dx fs v, x = .ref a ∧ H1 a = some (.ins C dx fs) ∧ Cls K C ∧ NoAttr K C f ∧ fs.lookup f = some v ∧
  tv σ H1 fun y H2 => rd v y H2 fun z H3 => ∃ dx' fs', H3 a = some (.ins C dx' fs') ∧ fs'.length < 1000 ∧ D.nx σ (upd H3 a (.ins C dx' (putF f z fs')))
section
variable {X : Cx} {o e value : Expr} {f : Str} {pos pos' tpos : Pos} {ta tv : TE}
theorem pe_fld (he : PE X e ta) (hb : attributeBase e f X.env (eval e X.env) = eval e X.env) : PE X (.Attribute e f pos) (tFld X.K ta f) := by
  intro pins s σ H Q I h
  refine attr_of hb (thn (he pins s σ H _ I h) fun u s1 ⟨x, H1, I1, rx, a, C, dx, fs, v, ex, ea, c, n, l, q⟩ => ?_)
  subst ex
  obtain rfl : u = Value.ref a := rx
  exact getattr_ok I1 ea c n l fun u' s2 I2 ru => ⟨v, H1, I2, ru, q⟩
theorem ps_fld (ha : PE X o ta) (hv : PE X value tv) (hs : swapsWith value (some (.Attribute o f pos')) pos.line X.env = pure false) : PS X (.Assign [.Attribute o f pos'] value pos) (sFld X.K ta tv f) := by
  intro pins s σ H D I h
  refine plainObj_wpAny_Assign_Attribute (thn (hv pins s σ H _ I h) fun u s1 ⟨y, H1, I1, ry, q⟩ => thn (ha pins s1 σ H1 _ I1 q) fun ov s2 ⟨x, H2, I2, rx, a, C, dx, fs, ex, ea, c, n, l, q2⟩ => ?_) hs
  subst ex
  obtain rfl : ov = Value.ref a := rx
  exact setattr_ok I2 ea c n l ry fun s3 I3 => ⟨σ, _, I3, q2⟩
theorem ps_fldaug {op : Operator} {rd : V → V → Hp → VK → Prop} (ha : PE X o ta) (hv : PE X value tv) (hop : InOp X op rd) : PS X (.AugAssign (.Attribute o f tpos) op value pos) (sFldAug X.K ta tv rd f) := by
  intro pins s σ H D I h
  refine wpAny_AugAssign_AttributeAny (thn (ha pins s σ H _ I h) fun ov s1 ⟨x, H1, I1, rx, a, C, dx, fs, v, ex, ea, c, n, l, q⟩ => ?_)
  subst ex
  obtain rfl : ov = Value.ref a := rx
  refine getattr_ok I1 ea c n l fun u s2 I2 ru => thn (hv pins s2 σ H1 _ I2 q) fun w3 s3 ⟨y, H2, I3, ry, q3⟩ => thn (hop pins s3 σ H2 v y u w3 _ I3 ru ry q3) fun w4 s4 ⟨z, H3, I4, rz, dx', fs', ea', l', q4⟩ => ?_
  exact setattr_ok I4 ea' c n l' rz fun s5 I5 => ⟨σ, _, I5, q4⟩
def rAdd : V → V → Hp → VK → Prop := fun x y H Q => ∃ i j, x = .int i ∧ y = .int j ∧ Q (.int (i + j)) H
def rSub : V → V → Hp → VK → Prop := fun x y H Q => ∃ i j, x = .int i ∧ y = .int j ∧ Q (.int (i - j)) H
theorem in_add : InOp X .Add rAdd := by
  rintro pins s σ H x y u v Q I rx ry ⟨i, j, rfl, rfl, q⟩
  obtain ⟨t, rfl⟩ := (show ∃ t, u = Value.int i t from rx)
  obtain ⟨t', rfl⟩ := (show ∃ t', v = Value.int j t' from ry)
  exact PyProof.Rows.iadd_int ⟨.int (i + j), H, I.tok _, ⟨_, rfl⟩, q⟩
theorem in_sub : InOp X .Sub rSub := by
  rintro pins s σ H x y u v Q I rx ry ⟨i, j, rfl, rfl, q⟩
  obtain ⟨t, rfl⟩ := (show ∃ t, u = Value.int i t from rx)
  obtain ⟨t', rfl⟩ := (show ∃ t', v = Value.int j t' from ry)
  exact PyProof.Rows.isub_int ⟨.int (i - j), H, I.tok _, ⟨_, rfl⟩, q⟩
theorem methcall_of {pl : Sem Bool} {m : Str} {apos : Pos} {args : List Expr} {pins : List (Addr × Obj)} {s : Shared} {σ : St} {H : Hp} {Q : Value → Shared → Prop} {te : TE} (he : PE X e te) (I : Inv X pins σ H s)
    (h : te σ H fun x H1 => ∃ a C dx fs g, x = .ref a ∧ H1 a = some (.ins C dx fs) ∧ Cls X.K C ∧ Meth X.K C m g ∧ fs.lookup m = none ∧
      ∀ s1, Inv X pins σ H1 s1 → wpAny (model X.prog X.w) X.A (callWith pos (.ref g) [.ref a] (backTo pos (starEach args X.env)) (backToKw pos (keywordEach [] X.env))) Q X.xe s1)
    (ht : eval (.Call (.Attribute e m apos) args [] pos) X.env = (do
      let ov ← eval e X.env
      standAt apos.atName
      let (f, first) ← holding [ov] (getMethod ov m pl)
      callWith pos f first (backTo pos (starEach args X.env)) (backToKw pos (keywordEach [] X.env)))) :
    wpAny (model X.prog X.w) X.A (eval (.Call (.Attribute e m apos) args [] pos) X.env) Q X.xe s := by
  refine PySem.W.methodCall_KW (pl := pl) (thn (he pins s σ H _ I h) fun u s1 ⟨x, H1, I1, rx, a, C, dx, fs, g, ex, ea, c, k, l, q⟩ => ?_) ht
  subst ex
  obtain rfl : u = Value.ref a := rx
  exact getmeth_ok I1 ea c k l (q s1 I1)
end
section
variable {X : Cx} {pins : List (Addr × Obj)} {σ : St} {H : Hp} {s : Shared} {A : Around} {E : Value → Shared → Prop} {Q : Value → Shared → Prop} {c : Value} {b : Bool}
end
end L2
namespace L2
open PySem PySem.Spec PyProof.Rows
structure Room (k : Nat) (A : Around) : Prop where
  hd : A.handled = none
  dp : A.depth + 3 * k + 5 < recursionLimit
  un : A.units + 16 * k + 200 < cLine
theorem Room.mono {j k : Nat} {A : Around} (r : Room k A) (h : j ≤ k) : Room j A := ⟨r.hd, by have := r.dp; omega, by have := r.un; omega⟩
theorem Room.deeper {k : Nat} {A : Around} (r : Room (k + 1) A) (env : Env) : Room k (A.deeper env) :=
  ⟨r.hd, by have := r.dp; show A.depth + 1 + 3 * k + 5 < _; omega, by have := r.un; show A.units + 3 + 16 * k + 200 < _; omega⟩
theorem make_depth {A : Around} {C : Addr} {us : List Value} {kw : List (Str × Value)} : (A.under (.builtin "type.__call__" ⟨.ref C :: us, kw⟩)).depth = A.depth + 1 := by
  first | rfl | simp [Around.under, Code.weight, Code.isCreation, Code.isGuard, Code.isCaller, Code.frames, Code.isFrame, guardIds]
theorem make_units {A : Around} {C : Addr} {us : List Value} {kw : List (Str × Value)} : (A.under (.builtin "type.__call__" ⟨.ref C :: us, kw⟩)).units = A.units + 1 := by
  first | rfl | simp [Around.under, Code.cUnits, Code.frames, Code.isFrame]
theorem Room.make {k : Nat} {A : Around} (r : Room (k + 1) A) (C : Addr) (us : List Value) (kw : List (Str × Value)) : Room k (A.under (.builtin "type.__call__" ⟨.ref C :: us, kw⟩)) :=
  ⟨r.hd, by have := r.dp; rw [make_depth]; omega, by have := r.un; rw [make_units]; omega⟩
theorem Room.depth {k : Nat} {A : Around} (r : Room k A) : A.depth < recursionLimit := by have := r.dp; omega
theorem Room.units {k : Nat} {A : Around} (r : Room k A) : A.units + 64 < cLine := by have := r.un; omega
def tNil : TA := fun _ H Q => Q [] H
def tCons (ta : TE) (tr : TA) : TA := fun σ H Q => ta σ H fun x H1 => tr σ H1 fun xs H2 => Q (x :: xs) H2
section
variable {X : Cx} {e : Expr} {es : List Expr} {te : TE} {t : TA} {pos : Pos}
theorem pa_nil : PA X [] tNil := fun _ _ _ _ H Q I h => Calls.spliced_nil ⟨[], H, I, .nil, h⟩
theorem pa_cons (ha : PE X e te) (hr : PA X es t) (hs : starEach (e :: es) X.env = (false, eval e X.env) :: starEach es X.env := by rfl) : PA X (e :: es) (tCons te t) := by
  intro pos pins s σ H Q I h
  rw [hs]
  show wpAny _ _ (spliced ((false, eval e X.env) :: backTo pos (starEach es X.env))) _ _ s
  refine Calls.spliced_cons (thn (ha pins s σ H _ I h) fun u s1 ⟨x, H1, I1, r1, q1⟩ => ?_)
  exact thn (hr pos pins s1 σ H1 _ I1 q1) fun us s2 ⟨xs, H2, I2, r2, q2⟩ => ⟨x :: xs, H2, I2, .cons r1 r2, q2⟩
def tTup (t : TA) : TE := fun σ H Q => t σ H fun xs H1 => xs.length ≤ sizeLine ∧ ∀ p, H1 p = none → Q (.ref p) (upd H1 p (.tup xs))
def tLst (t : TA) : TE := fun σ H Q => t σ H fun xs H1 => xs.length ≤ sizeLine ∧ ∀ p, H1 p = none → Q (.ref p) (upd H1 p (.lst xs))
theorem pe_tup {x1} (h : PA X es t) : PE X (.Tuple es x1 pos) (tTup t) := by
  intro pins s σ H Q I hq
  refine wpAny_Tuple_spliced (thn (h pos pins s σ H _ I hq) fun us s1 ⟨xs, H1, I1, r, z, q⟩ => ⟨by rw [← r.length]; exact z, ?_⟩)
  have hf : H1 s1.heap.objs.size = none := I1.hok.fresh (Nat.le_refl _)
  refine ⟨.ref s1.heap.objs.size, upd H1 s1.heap.objs.size (.tup xs), I1.laid (t' := s1.toks) (fun b u e => Heap.get?_push_of_some _ e) (Nat.le_refl _) ?_, rfl, q _ hf⟩
  exact ⟨z, us, r, ⟨_, Heap.get?_push_size _ rfl, rfl, _, rfl⟩⟩
theorem pe_lst (h : PA X es t) : PE X (.List es pos) (tLst t) := by
  intro pins s σ H Q I hq
  refine wpAny_List_spliced (thn (h pos pins s σ H _ I hq) fun us s1 ⟨xs, H1, I1, r, z, q⟩ => ⟨by rw [← r.length]; exact z, ?_⟩)
  have hf : H1 s1.heap.objs.size = none := I1.hok.fresh (Nat.le_refl _)
  refine ⟨.ref s1.heap.objs.size, upd H1 s1.heap.objs.size (.lst xs), I1.laid (t' := s1.toks) (fun b u e => Heap.get?_push_of_some _ e) (Nat.le_refl _) ?_, rfl, q _ hf⟩
  exact ⟨z, us, 0, r, Heap.get?_push_size _ rfl⟩
end
abbrev Sp := List V → Hp → VK → XK → Prop
abbrev CXT := List Env → Hp → Shared → XK → Value → Shared → Prop
structure Env0 (P : Program) (w : World) (K : PySem.W.Frag) (mg : Str → Option Value) (base : Heap) (A : Around) (outer : List Env) (s : Shared) (H : Hp) : Prop where
  frames : A.frames = some outer
  mod : Mod K mg base
  bs : ∀ b o, base.get? b = some o → s.heap.get? b = some o ∧ H b = none
  bsz : base.objs.size ≤ s.heap.objs.size
  funs : s.heap.FunFrames base outer
  frf : ∀ b ∈ frs outer, H b = none
  hok : HOk P w H s.heap
  bare : AllBare s.gens
def CE (outer : List Env) (P : Program) (w : World) (H : Hp) (s : Shared) (Q : VK) (u : Value) (s' : Shared) : Prop :=
  ∃ v H', s'.os = s.os ∧ AllBare s'.gens ∧ Un (frs outer) [] H H' s.heap s'.heap ∧ HOk P w H' s'.heap ∧ RelV v u ∧ Q v H'
def CR (CX : CXT) (outer : List Env) (P : Program) (w : World) (H : Hp) (s : Shared) (Q : VK) (E : XK) (r : Result) (s' : Shared) : Prop :=
  match r with
  | .ok (.ret u) => CE outer P w H s Q u s'
  | .ok _ => False
  | .error e => CX outer H s E e s'
structure FnOk (P : Program) (w : World) (K : PySem.W.Frag) (mg : Str → Option Value) (base : Heap) (CX : CXT) (k : Nat) (f : Addr) (fd : FuncData) (ps : List Str) (sp : Sp) : Prop where
  len : ∀ vs H Q E, sp vs H Q E → vs.length = ps.length
  run : ∀ (A : Around) (outer : List Env) (s : Shared) (H : Hp) (args : Args) (us : List Value) (vs : List V) (Q : VK) (E : XK), Room k A → Env0 P w K mg base A outer s H → BindsTo s fd args (ps.zip us) → Vals vs us → sp vs H Q E →
    codeAny (model P w) A (.call (.ref f) args) (CR CX outer P w H s Q E) s
theorem FnOk.mono {P : Program} {w : World} {K : PySem.W.Frag} {mg : Str → Option Value} {base : Heap} {CX : CXT} {j k : Nat} {f : Addr} {fd : FuncData} {ps : List Str} {sp : Sp} (F : FnOk P w K mg base CX j f fd ps sp) (h : j ≤ k) :
    FnOk P w K mg base CX k f fd ps sp := ⟨F.len, fun A outer s H args us vs Q E hr => F.run A outer s H args us vs Q E (hr.mono h)⟩
theorem Env0.make {P : Program} {w : World} {K : PySem.W.Frag} {mg : Str → Option Value} {base : Heap} {A : Around} {outer : List Env} {s : Shared} {H : Hp} (e : Env0 P w K mg base A outer s H) (C : Addr) (us : List Value) (kw : List (Str × Value)) :
    Env0 P w K mg base (A.under (.builtin "type.__call__" ⟨.ref C :: us, kw⟩)) outer s H := ⟨by first | exact e.frames | (simpa [Around.under, Code.envs, Code.isFrame, pushEnvs] using e.frames), e.mod, e.bs, e.bsz, e.funs, e.frf, e.hok, e.bare⟩
section
variable {X : Cx} {pins : List (Addr × Obj)} {σ : St} {H : Hp} {s s' : Shared}
theorem Inv.env0 (I : Inv X pins σ H s) : Env0 X.prog X.w X.K X.mg X.base X.A X.stack s H :=
  ⟨I.ok.frames, I.ok.mod, I.bs, Nat.le_trans I.ok.bsz I.sz, I.stack, I.stkFree, I.hok, I.bare⟩
theorem Inv.after {Q : VK} {u : Value} (I : Inv X pins σ H s) (h : CE X.stack X.prog X.w H s Q u s') : EP X pins σ Q u s' := by
  obtain ⟨v, H', os, bare, un, hok, r, q⟩ := h
  obtain ⟨hh, g, d, t, os'⟩ := s'
  obtain rfl : os' = s.os := os
  exact ⟨v, H', I.call (h' := hh) (g' := g) (d' := d) (t' := t) (ch := []) un hok bare (fun b z => absurd z (by simp)), r, q⟩
end
def tCall (sp : Sp) (dvs : List V) (E : XK) (t : TA) : TE := fun σ H Q => t σ H fun vs H1 => sp (vs ++ dvs) H1 Q E
def tMeth (C : Addr) (m : Str) (sp : Sp) (dvs : List V) (E : XK) (ta : TE) (t : TA) : TE := fun σ H Q => ta σ H fun x H1 => ∃ a dx fs, x = .ref a ∧ H1 a = some (.ins C dx fs) ∧ fs.lookup m = none ∧
  t σ H1 fun vs H2 => sp (x :: (vs ++ dvs)) H2 Q E
def tMake (C : Addr) (sp : Sp) (dvs : List V) (E : XK) (t : TA) : TE := fun σ H Q => t σ H fun vs H1 => ∀ x dx, H1 x = none → H1 dx = none → dx ≠ x →
  sp (.ref x :: (vs ++ dvs)) (upd (upd H1 dx (.own x)) x (.ins C dx [])) (fun v H2 => v = .non ∧ Q (.ref x) H2) E
def Binds (K : PySem.W.Frag) (fd : FuncData) (ps : List Str) (ds : List Value) : Prop :=
  ∀ (s : Shared) (us : List Value), K.In s.heap → (us ++ ds).length = ps.length → BindsTo s fd ⟨us, []⟩ (ps.zip (us ++ ds))
theorem Binds.all {K : PySem.W.Frag} {fd : FuncData} {ps : List Str} (h : ∀ us : List Value, us.length = ps.length → bindArgs fd ⟨us, []⟩ = pure (ps.zip us)) : Binds K fd ps [] := fun s us _ hl => by
  rw [List.append_nil] at hl ⊢
  exact .of_eq (h us hl)
def Passes (CX : CXT) (X : Cx) (E : XK) : Prop := ∀ (pins : List (Addr × Obj)) (σ : St) (H : Hp) (s : Shared) (e : Value) (s' : Shared), Inv X pins σ H s → CX X.stack H s E e s' → X.xe e s'
section
variable {X : Cx} {CX : CXT} {k : Nat} {f C : Addr} {fd : FuncData} {ps : List Str} {sp : Sp} {dvs : List V} {ds : List Value} {E : XK} {x m : Str} {p pos apos : Pos} {e o : Expr} {es : List Expr} {ta : TE} {t : TA}
theorem run_fn {pins : List (Addr × Obj)} {σ : St} {H : Hp} {s : Shared} {Q : VK} {us : List Value} {vs : List V} (F : FnOk X.prog X.w X.K X.mg X.base CX k f fd ps sp) (hr : Room k X.A) (hb : Binds X.K fd ps ds) (hd : Vals dvs ds) (hx : Passes CX X E)
    (I : Inv X pins σ H s) (r : Vals vs us) (h : sp (vs ++ dvs) H Q E) : wpAny (model X.prog X.w) X.A (call (.ref f) us) (EP X pins σ Q) X.xe s := by
  have r2 : Vals (vs ++ dvs) (us ++ ds) := r.append hd
  have hl : (us ++ ds).length = ps.length := by rw [← r2.length]; exact F.len _ _ _ _ h
  refine wpAny_call (codeAny_mono (F.run X.A X.stack s H ⟨us, []⟩ (us ++ ds) (vs ++ dvs) Q E hr I.env0 (hb s us I.kIn hl) r2 h) fun r s' hq => ?_)
  cases r with
  | error e => exact hx pins σ H s e s' I hq
  | ok fl =>
    cases fl with
    | ret u => exact I.after hq
    | next => exact False.elim hq
    | brk => exact False.elim hq
    | cont => exact False.elim hq
theorem pe_call (F : FnOk X.prog X.w X.K X.mg X.base CX k f fd ps sp) (hr : Room k X.A) (hg : Gl X x) (hm : X.mg x = some (.ref f)) (hk : PySem.W.keepIn X.K (.ref f) = true) (hb : Binds X.K fd ps ds) (hd : Vals dvs ds) (hx : Passes CX X E)
    (ha : PA X (e :: es) t) (hdb : (x == ("__debug__" : Str)) = false := by decide) (he : starEach (e :: es) X.env = (false, eval e X.env) :: starEach es X.env := by rfl) (hpl : (backTo pos (starEach es X.env)).any (·.1) = false := by rfl) :
    PE X (.Call (.Name x p) (e :: es) [] pos) (tCall sp dvs E t) := by
  intro pins s σ H Q I h
  refine wpAny_Call_Name_kw (ld_glob I hg hm ?_ hdb)
  refine PySem.W.callWith_K (h₀ := X.base) I.ok.mod.kin hk (thn (ha pos pins s σ H _ I h) fun us s1 ⟨vs, H1, I1, r, q⟩ => ⟨I1.kIn, ?_⟩) he hpl
  exact run_fn F hr hb hd hx I1 r q
theorem pe_meth {pl : Sem Bool} (he : PE X o ta) (c : Cls X.K C) (hm : Meth X.K C m f) (F : FnOk X.prog X.w X.K X.mg X.base CX k f fd ps sp) (hr : Room k X.A) (hb : Binds X.K fd ps ds) (hd : Vals dvs ds) (hx : Passes CX X E) (ha : PA X (e :: es) t)
    (hst : starEach (e :: es) X.env = (false, eval e X.env) :: starEach es X.env := by rfl) (hpl : (backTo pos (starEach es X.env)).any (·.1) = false := by rfl)
    (ht : eval (.Call (.Attribute o m apos) (e :: es) [] pos) X.env = (do
      let ov ← eval o X.env
      standAt apos.atName
      let (f, first) ← holding [ov] (getMethod ov m pl)
      callWith pos f first (backTo pos (starEach (e :: es) X.env)) (backToKw pos (keywordEach [] X.env))) := by rfl) :
    PE X (.Call (.Attribute o m apos) (e :: es) [] pos) (tMeth C m sp dvs E ta t) := by
  intro pins s σ H Q I h
  refine PySem.W.methodCall_KW (pl := pl) (thn (he pins s σ H _ I h) fun u s1 ⟨x, H1, I1, rx, a, dx, fs, ex, ea, l, q⟩ => ?_) ht
  subst ex
  obtain rfl : u = Value.ref a := rx
  refine getmeth_ok I1 ea c hm l ?_
  refine PySem.W.callWith_K (first := [.ref a]) (h₀ := X.base) I.ok.mod.kin hm.kp (thn (ha pos pins s1 σ H1 _ I1 q) fun us s2 ⟨vs, H2, I2, r, q2⟩ => ⟨I2.kIn, ?_⟩) hst hpl
  exact run_fn (us := .ref a :: us) (vs := .ref a :: vs) F hr hb hd hx I2 (.cons rfl r) q2
theorem pe_meth0 {pl : Sem Bool} (he : PE X o ta) (c : Cls X.K C) (hm : Meth X.K C m f) (F : FnOk X.prog X.w X.K X.mg X.base CX k f fd ps sp) (hr : Room k X.A) (hb : Binds X.K fd ps ds) (hd : Vals dvs ds) (hx : Passes CX X E)
    (ht : eval (.Call (.Attribute o m apos) [] [] pos) X.env = (do
      let ov ← eval o X.env
      standAt apos.atName
      let (f, first) ← holding [ov] (getMethod ov m pl)
      callWith pos f first (backTo pos (starEach [] X.env)) (backToKw pos (keywordEach [] X.env))) := by rfl) :
    PE X (.Call (.Attribute o m apos) [] [] pos) (tMeth C m sp dvs E ta tNil) := by
  intro pins s σ H Q I h
  refine PySem.W.methodCall_KW (pl := pl) (thn (he pins s σ H _ I h) fun u s1 ⟨x, H1, I1, rx, a, dx, fs, ex, ea, l, q⟩ => ?_) ht
  subst ex
  obtain rfl : u = Value.ref a := rx
  refine getmeth_ok I1 ea c hm l ?_
  exact PySem.W.callWith_K0 (first := [.ref a]) I1.kIn hm.kp (run_fn (us := [.ref a]) (vs := [.ref a]) F hr hb hd hx I1 (.cons rfl .nil) q)
structure Mk (K : PySem.W.Frag) (C f : Addr) : Prop where
  makes : PySem.W.makesIn K C = true
  init : PySem.W.findIn K (.ref C) "__init__" = some (some (.ref f))
  fn : PySem.W.isFn K (.ref f) = true
  kp : PySem.W.keepIn K (.ref C) = true
theorem run_make {pins : List (Addr × Obj)} {σ : St} {H : Hp} {s : Shared} {Q : VK} {us : List Value} {vs : List V} (M : Mk X.K C f) (F : FnOk X.prog X.w X.K X.mg X.base CX k f fd ps sp) (hr : Room (k + 1) X.A) (hb : Binds X.K fd ps ds) (hd : Vals dvs ds)
    (hx : Passes CX X E) (I : Inv X pins σ H s) (r : Vals vs us)
    (h : ∀ x dx, H x = none → H dx = none → dx ≠ x → sp (.ref x :: (vs ++ dvs)) (upd (upd H dx (.own x)) x (.ins C dx [])) (fun v H2 => v = .non ∧ Q (.ref x) H2) E) :
    wpAny (model X.prog X.w) X.A (call (.ref C) us) (EP X pins σ Q) X.xe s := by
  have hq := h (s.heap.objs.size + 1) s.heap.objs.size (I.hok.fresh (Nat.le_succ _)) (I.hok.fresh (Nat.le_refl _)) (Nat.ne_of_lt (Nat.lt_succ_self _))
  have I2 := Inv.made (C := C) I
  have r2 : Vals (V.ref (s.heap.objs.size + 1) :: (vs ++ dvs)) (Value.ref (s.heap.objs.size + 1) :: (us ++ ds)) := .cons rfl (r.append hd)
  have hl : (Value.ref (s.heap.objs.size + 1) :: us ++ ds).length = ps.length := by
    have e := r2.length
    rw [F.len _ _ _ _ hq] at e
    exact e.symm
  refine wpAny_call (make_map (f := f) I.kIn M.makes M.init (beq_iff_eq.mp M.fn) (codeAny_mono (F.run _ X.stack _ _ ⟨Value.ref (s.heap.objs.size + 1) :: us, []⟩ (Value.ref (s.heap.objs.size + 1) :: (us ++ ds)) _ _ E (hr.make C us [])
    (I2.env0.make C us []) (hb _ (Value.ref (s.heap.objs.size + 1) :: us) I2.kIn hl) r2 hq) fun r s' hq' => ?_))
  cases r with
  | error e => exact hx pins σ _ _ e s' I2 hq'
  | ok fl =>
    cases fl with
    | ret u =>
      obtain ⟨v, H', I3, rv, ev, q3⟩ := I2.after hq'
      subst ev
      exact ⟨rv, ⟨V.ref (s.heap.objs.size + 1), H', I3, rfl, q3⟩⟩
    | next => exact False.elim hq'
    | brk => exact False.elim hq'
    | cont => exact False.elim hq'
theorem pe_make (M : Mk X.K C f) (F : FnOk X.prog X.w X.K X.mg X.base CX k f fd ps sp) (hr : Room (k + 1) X.A) (hg : Gl X x) (hm : X.mg x = some (.ref C)) (hb : Binds X.K fd ps ds) (hd : Vals dvs ds) (hx : Passes CX X E)
    (ha : PA X (e :: es) t) (hdb : (x == ("__debug__" : Str)) = false := by decide) (he : starEach (e :: es) X.env = (false, eval e X.env) :: starEach es X.env := by rfl) (hpl : (backTo pos (starEach es X.env)).any (·.1) = false := by rfl) :
    PE X (.Call (.Name x p) (e :: es) [] pos) (tMake C sp dvs E t) := by
  intro pins s σ H Q I h
  refine wpAny_Call_Name_kw (ld_glob I hg hm ?_ hdb)
  refine PySem.W.callWith_K (h₀ := X.base) I.ok.mod.kin M.kp (thn (ha pos pins s σ H _ I h) fun us s1 ⟨vs, H1, I1, r, q⟩ => ⟨I1.kIn, ?_⟩) he hpl
  exact run_make M F hr hb hd hx I1 r q
theorem pe_make0 (M : Mk X.K C f) (F : FnOk X.prog X.w X.K X.mg X.base CX k f fd ps sp) (hr : Room (k + 1) X.A) (hg : Gl X x) (hm : X.mg x = some (.ref C)) (hb : Binds X.K fd ps ds) (hd : Vals dvs ds) (hx : Passes CX X E)
    (hdb : (x == ("__debug__" : Str)) = false := by decide) : PE X (.Call (.Name x p) [] [] pos) (tMake C sp dvs E tNil) := by
  intro pins s σ H Q I h
  refine wpAny_Call_Name_kw (ld_glob I hg hm ?_ hdb)
  exact PySem.W.callWith_K0 I.kIn M.kp (run_make (us := []) M F hr hb hd hx I .nil h)
end
def PK (X : Cx) (kws : List Keyword) (t : TA) : Prop :=
  ∀ (pos : Pos) (pins : List (Addr × Obj)) (s : Shared) (σ : St) (H : Hp) (Q : List V → Hp → Prop), Inv X pins σ H s → t σ H Q → wpAny (model X.prog X.w) X.A (evalAll ((backToKw pos (keywordEach kws X.env)).map (·.2))) (AP X pins σ Q) X.xe s
section
variable {X : Cx} {CX : CXT} {k : Nat} {f C : Addr} {fd : FuncData} {ps ks : List Str} {sp : Sp} {E : XK} {x m : Str} {p pos apos kpos : Pos} {e o : Expr} {es : List Expr} {kws : List Keyword} {te ta : TE} {t tk : TA} {nm : Option Str}
theorem pk_nil : PK X [] tNil := fun _ _ _ _ H Q I h => wpAny_evalAll_nil ⟨[], H, I, .nil, h⟩
theorem pk_cons (ha : PE X e te) (hr : PK X kws t) : PK X (⟨nm, e, kpos⟩ :: kws) (tCons te t) := by
  intro pos pins s σ H Q I h
  show wpAny _ _ (evalAll ((do let v ← eval e X.env; standAt pos; pure v) :: (backToKw pos (keywordEach kws X.env)).map (·.2))) _ _ s
  refine wpAny_evalAll_cons (wpAny_bind (thn (ha pins s σ H _ I h) fun u s1 ⟨x, H1, I1, r1, q1⟩ => wpAny_bind (wpAny_standAt (wpAny_pure ?_))))
  exact thn (hr pos pins s1 σ H1 _ I1 q1) fun us s2 ⟨xs, H2, I2, r2, q2⟩ => ⟨x :: xs, H2, I2, .cons r1 r2, q2⟩
variable {g : List Value → List Value → List Value} {gV : List V → List V → List V}
end
structure FnScope (N P : List Str) (sc : Scope) : Prop where
  kind : sc.kind = .function
  co : sc.isCoroutine = false
  gen : sc.isGenerator = false
  nd : N.Nodup
  pre : N.take P.length = P
  par : ∀ x ∈ P, sc.names.lookup x = some .local ∨ sc.names.lookup x = some .cell
  nofree : ∀ y ∈ sc.names, y.2 ≠ .free
theorem bindL_out {kindOf : Str → Option NameKind} {x : Str} : ∀ {binds : List (Str × Value)} {m : Str → Option Value}, (∀ v, (x, v) ∉ binds) → bindL kindOf binds m x = m x
  | [], _, _ => rfl
  | (n, v) :: r, m, h => by
    unfold bindL
    rw [bindL_out fun w hw => h w (List.mem_cons_of_mem _ hw)]
    split
    · have : x ≠ n := by rintro rfl; exact h v List.mem_cons_self
      simp [this]
    · rfl
theorem bindC_out {kindOf : Str → Option NameKind} {x : Str} : ∀ {binds : List (Str × Value)} {m : Str → Option Value}, (∀ v, (x, v) ∉ binds) → bindC kindOf binds m x = m x
  | [], _, _ => rfl
  | (n, v) :: r, m, h => by
    unfold bindC
    rw [bindC_out fun w hw => h w (List.mem_cons_of_mem _ hw)]
    split
    · rfl
    · have : x ≠ n := by rintro rfl; exact h v List.mem_cons_self
      simp [this]
theorem bindL_get {kindOf : Str → Option NameKind} {x : Str} {v : Value} : ∀ {P : List Str} {vs : List Value} {i : Nat} {m : Str → Option Value}, P.Nodup → P[i]? = some x → vs[i]? = some v → kindOf x = some .local →
    bindL kindOf (P.zip vs) m x = some v
  | [], _, _, _, _, h, _, _ => by simp at h
  | _ :: _, [], _, _, _, _, h, _ => by simp at h
  | p :: P, w :: vs, 0, m, nd, h1, h2, hk => by
    simp at h1 h2; subst h1; subst h2
    show bindL kindOf ((p, w) :: P.zip vs) m p = _
    unfold bindL
    rw [bindL_out fun v hv => (List.nodup_cons.mp nd).1 (List.of_mem_zip hv).1, if_pos hk]
    simp
  | p :: P, w :: vs, i + 1, m, nd, h1, h2, hk => by
    show bindL kindOf ((p, w) :: P.zip vs) m x = _
    unfold bindL
    exact bindL_get (i := i) (List.nodup_cons.mp nd).2 (by simpa using h1) (by simpa using h2) hk
theorem bindC_get {kindOf : Str → Option NameKind} {x : Str} {v : Value} : ∀ {P : List Str} {vs : List Value} {i : Nat} {m : Str → Option Value}, P.Nodup → P[i]? = some x → vs[i]? = some v → kindOf x ≠ some .local →
    bindC kindOf (P.zip vs) m x = some v
  | [], _, _, _, _, h, _, _ => by simp at h
  | _ :: _, [], _, _, _, _, h, _ => by simp at h
  | p :: P, w :: vs, 0, m, nd, h1, h2, hk => by
    simp at h1 h2; subst h1; subst h2
    show bindC kindOf ((p, w) :: P.zip vs) m p = _
    unfold bindC
    rw [bindC_out fun v hv => (List.nodup_cons.mp nd).1 (List.of_mem_zip hv).1, if_neg hk]
    simp
  | p :: P, w :: vs, i + 1, m, nd, h1, h2, hk => by
    show bindC kindOf ((p, w) :: P.zip vs) m x = _
    unfold bindC
    exact bindC_get (i := i) (List.nodup_cons.mp nd).2 (by simpa using h1) (by simpa using h2) hk
def start (N : List Str) (vs : List V) : St := vs.map some ++ List.replicate (N.length - vs.length) none
def cxOf (CX : CXT) (P : Program) (w : World) (K : PySem.W.Frag) (mg : Str → Option Value) (base : Heap) (N : List Str) (qual : Str) (scope : Scope) (f : Addr) (cd : Value) (A : Around) (outer : List Env) (s : Shared) (H : Hp) (E : XK) : Cx where
  prog := P
  w := w
  K := K
  mg := mg
  base := base
  A := A.deeper (envOfC qual scope s.heap.objs.size f cd)
  N := N
  s_0 := s
  H_0 := H
  env := envOfC qual scope s.heap.objs.size f cd
  outer := outer
  stack := envOfC qual scope s.heap.objs.size f cd :: outer
  ex := []
  calm := true
  fn := fun _ => true
  pn := []
  xe := fun e s' => wpAny (model P w) (A.deeper (envOfC qual scope s.heap.objs.size f cd)) (leaving (envOfC qual scope s.heap.objs.size f cd) e) (fun _ s'' => CX outer H s E e s'') (fun e' s'' => CX outer H s E e' s'') s'
theorem cell_has {sc : Scope} {n : Nat} {x : Str} (h : sc.names.lookup x = some .cell) : ∃ c, (cellsFrom n sc.names []).lookup x = some c := by
  have q := PySem.W.cellsFrom_some sc.names n [] (.inl h)
  exact Option.isSome_iff_exists.mp q
theorem inv_start {CX : CXT} {P : Program} {w : World} {K : PySem.W.Frag} {mg : Str → Option Value} {base : Heap} {N ps : List Str} {qual : Str} {scope : Scope} {f : Addr} {cd : Value} {A : Around} {outer : List Env} {s s1 : Shared} {H : Hp} {E : XK} {us : List Value} {vs : List V}
    (S : FnScope N ps scope) (hd : A.handled = none) (e0 : Env0 P w K mg base A outer s H) (hl : vs.length = ps.length) (r : Vals vs us)
    (x : InCallC s s.heap.objs.size (bindL (envOfC qual scope s.heap.objs.size f cd).kindOf (ps.zip us) fun _ => none) (cellsFrom (s.heap.objs.size + 1) scope.names []) (bindC (envOfC qual scope s.heap.objs.size f cd).kindOf (ps.zip us) fun _ => none) s1) :
    Inv (cxOf CX P w K mg base N qual scope f cd A outer s H E) [] (start N vs) H s1 := by
  have hpl : ps.length ≤ N.length := by have := congrArg List.length S.pre; rw [List.length_take] at this; omega
  obtain ⟨h1, tk, rfl, hk⟩ := x.done
  have noA : ∀ b : Addr, b ∉ (cxOf CX P w K mg base N qual scope f cd A outer s H E).ex := fun b z => absurd (show b ∈ ([] : List Addr) from z) (by simp)
  refine ⟨⟨e0.mod, S.kind, rfl, rfl, Nat.le_refl _, fun y z c h1 h2 => ?_, fun y hy => ?_, fun y c _ h => ?_, fun _ => hd, Around.frames_deeper e0.frames, .inr ⟨rfl, rfl⟩, fun b z => absurd z (noA b), e0.bs, e0.bsz, fun b _ _ => noA b, fun b z => absurd z (noA b), e0.funs, e0.frf⟩,
    rfl, e0.bare, Un.kept hk, ⟨_, x.toInCall.ns, fun i y v h1 h2 h3 => ?_⟩, fun y c h => ⟨_, x.cell y c h⟩, e0.hok.fresh (Nat.le_refl _), fun y c h => ?_, fun p hp => absurd (show p ∈ ([] : List (Addr × Obj)) from hp) (by simp), e0.hok.kept hk, ?_⟩
  · exact name_of_addr x.apart (PySem.mem_of_lookup h1) (PySem.mem_of_lookup h2)
  · have hy : scope.names.lookup y = some .cell ∨ scope.names.lookup y = some .free := hy
    rcases hy with hy | hy
    · exact cell_has hy
    · exact absurd rfl (S.nofree _ (PySem.mem_of_lookup hy))
  · exact Nat.le_of_lt (x.above y c (PySem.mem_of_lookup h))
  · have hi : i < vs.length := by
      unfold start at h2
      by_cases hi : i < vs.length
      · exact hi
      · rw [List.getElem?_append_right (by simpa using hi)] at h2
        rw [List.getElem?_replicate] at h2
        split at h2 <;> cases h2
    have ha : vs[i]? = some v := by
      unfold start at h2
      rw [List.getElem?_append_left (by simpa using hi), List.getElem?_map] at h2
      cases e : vs[i]? with
      | none => rw [e] at h2; cases h2
      | some a => rw [e] at h2; cases h2; rfl
    obtain ⟨u, hu, rv⟩ := r.get ha
    have hp : ps[i]? = some y := by
      rw [← S.pre, List.getElem?_take_of_lt (by omega)]; exact h1
    have ndP : ps.Nodup := by rw [← S.pre]; exact S.nd.sublist (List.take_sublist _ _)
    refine ⟨u, rv, ?_⟩
    rcases S.par y (List.mem_of_getElem? hp) with k | k
    · exact .inl ⟨k, bindL_get ndP hp hu k⟩
    · obtain ⟨c, e⟩ := cell_has (n := s.heap.objs.size + 1) k
      refine .inr ⟨.inl k, c, e, ?_⟩
      have q := x.cell y c e
      rw [bindC_get ndP hp hu (by show scope.names.lookup y ≠ _; rw [k]; decide)] at q
      exact q
  · exact e0.hok.fresh (Nat.le_of_lt (x.above y c (PySem.mem_of_lookup h)))
  · unfold start
    show _ = N.length
    rw [List.length_append, List.length_map, List.length_replicate]
    omega
theorem fn_of {CX : CXT} {P : Program} {w : World} {K : PySem.W.Frag} {mg : Str → Option Value} {base : Heap} {k : Nat} {f : Addr} {name qual : Str} {params : Arguments} {body : List Stmt} {scope : Scope} {dV kV doc pm cdv ct oc : Value} {an od : Option Addr}
    {osl : Array (Option Value)} {N ps : List Str} {sp : Sp} (lk : K.lookup f = some ⟨oc, od, .func (PySem.W.fnOf name qual params body scope dV kV doc pm an cdv ct), osl⟩) (hcd : PySem.W.codeIn K cdv qual = true) (S : FnScope N ps scope)
    (len : ∀ vs H Q E, sp vs H Q E → vs.length = ps.length)
    (hbody : ∀ (A : Around) (outer : List Env) (s : Shared) (H : Hp) (vs : List V) (Q : VK) (E : XK), Room k (A.deeper (envOfC qual scope s.heap.objs.size f cdv)) → sp vs H Q E →
      ∃ t, PSs (cxOf CX P w K mg base N qual scope f cdv A outer s H E) body t ∧ t { nx := fun _ H' => Q .non H', rt := Q } (start N vs) H) :
    FnOk P w K mg base CX (k + 1) f (PySem.W.fnOf name qual params body scope dV kV doc pm an cdv ct) ps sp := by
  refine ⟨len, fun A outer s H args us vs Q E hr e0 hb r hsp => ?_⟩
  have hl := len _ _ _ _ hsp
  have KX : K.In s.heap := e0.mod.kin.keeps fun b o e => (e0.bs b o e).1
  have lim : s.heap.NoLimit := e0.mod.nolimit.keeps fun b o e => (e0.bs b o e).1
  have hkind : ∀ y ∈ ps.zip us, scope.names.lookup y.1 = some .local ∨ (scope.names.lookup y.1 = some .cell ∧ ((cellsFrom (s.heap.objs.size + 1) scope.names []).lookup y.1).isSome = true) := fun ⟨n, v⟩ hy => by
    rcases S.par n (List.of_mem_zip hy).1 with q | q
    · exact .inl q
    · exact .inr ⟨q, PySem.W.cellsFrom_some _ _ _ (.inl q)⟩
  refine codeAny_call_function hr.depth (KX _ _ lk) rfl S.co S.gen rfl (PySem.W.codeRec_of KX hcd) (hb _ _ _ _ ?_)
  refine wpAny_newFunctionEnv_cells S.kind hkind fun env he s1 x => ?_
  subst he
  refine ⟨lim.keeps x.toInCall.keep, codeAny_func ?_⟩
  obtain ⟨t, ht, hq⟩ := hbody A outer s H vs Q E (hr.deeper _) hsp
  have I : Inv (cxOf CX P w K mg base N qual scope f cdv A outer s H E) [] (start N vs) H s1 := inv_start S hr.hd e0 hl r x
  refine wpAny_mono (ht [] s1 (start N vs) H _ I hq) (fun fl s' hs => ?_) fun e s' hs => hs
  have fin : ∀ {σ' : St} {H' : Hp} {v : V} {u : Value}, Inv (cxOf CX P w K mg base N qual scope f cdv A outer s H E) [] σ' H' s' → RelV v u → Q v H' → CE outer P w H s Q u s' :=
    fun {σ' H' v u} J rv q => ⟨v, H', J.os, J.bare, J.base, J.hok, rv, q⟩
  cases fl with
  | ret u =>
    obtain ⟨v, σ', H', J, rv, q⟩ := hs
    exact fin J rv q
  | next =>
    obtain ⟨σ', H', J, q⟩ := hs
    exact fin (v := V.non) (u := Value.none) J rfl q
  | brk =>
    obtain ⟨_, _, _, q⟩ := hs
    exact False.elim q
  | cont =>
    obtain ⟨_, _, _, q⟩ := hs
    exact False.elim q
end L2
namespace L2
open PySem PySem.Spec PyProof.Rows
section
variable {X : Cx} {x : Str} {p pos : Pos} {e : Expr} {es : List Expr} {t : TA} {id T : String} {r : List V → Hp → VK → Prop}
def tCB (r : List V → Hp → VK → Prop) (t : TA) : TE := fun σ H Q => t σ H fun vs H1 => r vs H1 Q
theorem pe_callB (hc : CallR X (.builtin id) r) (hg : Gl X x) (hm : X.mg x = none) (hv : bootBuiltins x = some (.builtin id)) (ha : PA X (e :: es) t) (hn : x ≠ "__name__" := by decide) (hdb : (x == ("__debug__" : Str)) = false := by decide)
    (he : starEach (e :: es) X.env = (false, eval e X.env) :: starEach es X.env := by rfl) (hpl : (backTo pos (starEach es X.env)).any (·.1) = false := by rfl) : PE X (.Call (.Name x p) (e :: es) [] pos) (tCB r t) := by
  intro pins s σ H Q I h
  refine wpAny_Call_Name_kw (ld_blt I hg hm hv ?_ hn hdb)
  exact PyProof.Rows.callWith_builtin1 (thn (ha pos pins s σ H _ I h) fun us s1 ⟨vs, H1, I1, r1, q1⟩ => hc pins s1 σ H1 vs us Q I1 r1 q1) he hpl
theorem pe_callTy (hc : CallR X (.type T) r) (hg : Gl X x) (hm : X.mg x = none) (hv : bootBuiltins x = some (.type T)) (ha : PA X (e :: es) t) (hn : x ≠ "__name__" := by decide) (hdb : (x == ("__debug__" : Str)) = false := by decide)
    (he : starEach (e :: es) X.env = (false, eval e X.env) :: starEach es X.env := by rfl) (hpl : (backTo pos (starEach es X.env)).any (·.1) = false := by rfl) : PE X (.Call (.Name x p) (e :: es) [] pos) (tCB r t) := by
  intro pins s σ H Q I h
  refine wpAny_Call_Name_kw (ld_blt I hg hm hv ?_ hn hdb)
  exact PyProof.Rows.callWith_type1 (thn (ha pos pins s σ H _ I h) fun us s1 ⟨vs, H1, I1, r1, q1⟩ => hc pins s1 σ H1 vs us Q I1 r1 q1) he hpl
end
end L2
namespace HT
open PySem PyProof.Rows
section
open PySem.SeqAt
open PySem.AutoSeq1 (wpAny_loadPart')
open PySem.MeetsSeq PySem.MeetsSeq2 PySem.MeetsSeq3
end
section
variable {prog : Program} {w : World} {A : Around} {E : Value → Shared → Prop} {s : Shared}
def sIx (n d : Nat) : Option Int → Nat
  | none => d
  | some v => if v < 0 then (v + (n : Int)).toNat else min v.toNat n
theorem sIx_nat (n d k : Nat) : sIx n d (some (k : Int)) = min k n := by
  show (if (k : Int) < 0 then ((k : Int) + (n : Int)).toNat else min (k : Int).toNat n) = min k n
  rw [if_neg (by omega), Int.toNat_natCast]
end
end HT
namespace L2
open PySem PySem.Spec PyProof.Rows
abbrev TO := St → Hp → (Option Int → Hp → Prop) → Prop
def PO (X : Cx) (e : Option Expr) (t : TO) : Prop :=
  ∀ (pins : List (Addr × Obj)) (s : Shared) (σ : St) (H : Hp) (Q : Option Int → Hp → Prop), Inv X pins σ H s → t σ H Q →
    wpAny (model X.prog X.w) X.A (evalPart e X.env) (fun u s' => ∃ o H', Inv X pins σ H' s' ∧ IsPart u o ∧ Q o H') X.xe s
def tPart (t : TE) : TO := fun σ H Q => t σ H fun x H1 => ∃ i, x = .int i ∧ Q (some i) H1
section
variable {X : Cx} {e : Expr} {te : TE} {lo hi : Option Expr} {tl th : TO} {pos p2 : Pos}
theorem po_some (h : PE X e te) : PO X (some e) (tPart te) := by
  intro pins s σ H Q I hw
  rw [evalPart_some]
  refine thn (h pins s σ H _ I hw) fun u s1 ⟨x, H1, I1, r1, q1⟩ => ?_
  obtain ⟨i, rfl, q⟩ := q1
  obtain ⟨t, rfl⟩ := r1
  exact ⟨some i, H1, I1, .int i t, q⟩
def SlR (X : Cx) (r : V → Option Int → Option Int → Hp → VK → Prop) : Prop :=
  ∀ (pins : List (Addr × Obj)) (s : Shared) (σ : St) (H : Hp) (x : V) (v vl vu : Value) (lo hi : Option Int) (sl : Addr) (Q : VK), Inv X pins σ H s → RelV x v → s.heap.IsSliceOf sl vl vu .none → IsPart vl lo → IsPart vu hi → r x lo hi H Q →
    ∃ T id, typeLookup (.type T) "__getitem__" = pure (some (.builtin id)) ∧ s.TypeIs v T ∧ wpAny (model X.prog X.w) X.A (getItem v (.ref sl)) (EP X pins σ Q) X.xe s
def tSl (r : V → Option Int → Option Int → Hp → VK → Prop) (te : TE) (tl th : TO) : TE := fun σ H Q => te σ H fun x H1 => tl σ H1 fun l H2 => th σ H2 fun u H3 => r x l u H3 Q
theorem pe_slice {r : V → Option Int → Option Int → Hp → VK → Prop} (hr : SlR X r) (he : PE X e te) (hl : PO X lo tl) (hu : PO X hi th) : PE X (.Subscript e (.Slice lo hi none p2) pos) (tSl r te tl th) := by
  intro pins s σ H Q I h
  refine Subscript_ (thn (he pins s σ H _ I h) fun v s1 ⟨x, H1, I1, r1, q1⟩ => ?_)
  refine wpAny_Slice (thn (hl pins s1 σ H1 _ I1 q1) fun vl s2 ⟨l, H2, I2, pl, q2⟩ => thn (hu pins s2 σ H2 _ I2 q2) fun vu s3 ⟨u, H3, I3, pu, q3⟩ => ?_)
  rw [evalPart_none]
  refine wpAny_pure ?_
  have I4 : Inv X pins σ H3 { s3 with heap := s3.heap.push { cls := .type "slice", data := .fields #[vl, vu, .none] } } := I3.kept (t' := s3.toks) fun b ob q => Heap.get?_push_of_some _ q
  obtain ⟨T, id, hT, ht, hg⟩ := hr pins { s3 with heap := s3.heap.push { cls := .type "slice", data := .fields #[vl, vu, .none] } } σ H3 x v vl vu l u s3.heap.objs.size Q I4 r1 (Heap.IsSliceOf.new ..) pl pu q3
  show wpAny (model X.prog X.w) X.A (subscriptTail e (.Slice lo hi none p2) v (.ref s3.heap.objs.size)) (EP X pins σ Q) X.xe { s3 with heap := s3.heap.push { cls := .type "slice", data := .fields #[vl, vu, .none] } }
  exact tail_any (ops := [.ref s3.heap.objs.size, v]) ht hT hg (by with_unfolding_all rfl)
def cutV (xs : List V) (lo hi : Option Int) : List V := (xs.drop (HT.sIx xs.length 0 lo)).take (HT.sIx xs.length xs.length hi - HT.sIx xs.length 0 lo)
theorem cutV_length (xs : List V) (lo hi : Option Int) : (cutV xs lo hi).length ≤ xs.length := by
  unfold cutV
  rw [List.length_take, List.length_drop]
  omega
end
end L2
namespace L2
open PySem PySem.Spec PyProof.Rows
def ixN (n : Nat) (i : Int) : Option Nat := if 0 ≤ i then (if i < n then some i.toNat else none) else if -(n : Int) ≤ i then some (i + n).toNat else none
def atI {α : Type} (xs : List α) (i : Int) : Option α := (ixN xs.length i).bind fun j => xs[j]?
theorem ixN_seq {n : Nat} {i : Int} {j : Nat} (h : ixN n i = some j) : seqIndex? i n = some j ∧ j < n ∧ -(n : Int) ≤ i ∧ i < n := by
  unfold ixN at h
  by_cases h0 : 0 ≤ i
  · rw [if_pos h0] at h
    by_cases h1 : i < n
    · rw [if_pos h1] at h
      have e : i.toNat = j := Option.some.inj h
      exact ⟨by rw [seqIndex_of h0 h1, e], by omega, by omega, h1⟩
    · rw [if_neg h1] at h; cases h
  · rw [if_neg h0] at h
    by_cases h1 : -(n : Int) ≤ i
    · rw [if_pos h1] at h
      have e : (i + n).toNat = j := Option.some.inj h
      exact ⟨by rw [seqIndex_neg (by omega) h1, e], by omega, h1, by omega⟩
    · rw [if_neg h1] at h; cases h
theorem atI_get {α : Type} {xs : List α} {i : Int} {v : α} (h : atI xs i = some v) : ∃ j, seqIndex? i xs.length = some j ∧ xs[j]? = some v ∧ j < xs.length ∧ -(xs.length : Int) ≤ i ∧ i < xs.length := by
  unfold atI at h
  cases e : ixN xs.length i with
  | none => rw [e] at h; cases h
  | some j =>
    rw [e] at h
    obtain ⟨h1, h2, h3, h4⟩ := ixN_seq e
    exact ⟨j, h1, h, h2, h3, h4⟩
theorem atI_nat {α : Type} {xs : List α} {j : Nat} {v : α} (h : xs[j]? = some v) : atI xs (j : Int) = some v := by
  have hj : j < xs.length := (List.getElem?_eq_some_iff.mp h).1
  have e : ixN xs.length (j : Int) = some j := by
    unfold ixN
    rw [if_pos (by omega), if_pos (by omega)]; simp
  unfold atI; rw [e]; exact h
theorem atI_last {α : Type} (xs : List α) (v : α) : atI (xs ++ [v]) (-1) = some v := by
  have hl : (xs ++ [v]).length = xs.length + 1 := by simp
  have e : ixN (xs ++ [v]).length (-1) = some xs.length := by
    unfold ixN
    rw [hl, if_neg (by decide), if_pos (by omega)]
    congr 1
    omega
  unfold atI
  rw [e]
  show (xs ++ [v])[xs.length]? = some v
  simp
def PlainIx (b : Expr) : Prop := ∀ o i, subscripted b false o i = operate [o, i] (getItem o i)
def IxR (X : Cx) (r : R2) : Prop :=
  ∀ (value slice : Expr) (pins : List (Addr × Obj)) (s : Shared) (σ : St) (H : Hp) (x y : V) (v u : Value) (Q : VK), Inv X pins σ H s → RelV x v → RelV y u → r x y H Q →
    subscripted slice false v u = operate [v, u] (getItem v u) → wpAny (model X.prog X.w) X.A (subscriptTail value slice v u) (EP X pins σ Q) X.xe s
def MtR (X : Cx) (id : String) (r : V → List V → Hp → VK → Prop) : Prop :=
  ∀ (pins : List (Addr × Obj)) (s : Shared) (σ : St) (H : Hp) (x : V) (xs : List V) (v : Value) (us : List Value) (Q : VK), Inv X pins σ H s → RelV x v → Vals xs us → r x xs H Q →
    wpAny (model X.prog X.w) X.A (call (.builtin id) (v :: us)) (EP X pins σ Q) X.xe s
section
variable {X : Cx} {a b : Expr} {ta tb : TE} {pos : Pos}
theorem pe_ix {r : R2} (hr : IxR X r) (ha : PE X a ta) (hb : PE X b tb) (hs : PlainIx b) : PE X (.Subscript a b pos) (tOp r ta tb) := by
  intro pins s σ H Q I h
  exact Subscript_ (binT ha hb I h fun v u s2 x y H2 I2 rx ry q => hr a b pins s2 σ H2 x y v u Q I2 rx ry q (hs _ _))
def rIxL (K : PySem.W.Frag) : R2 := fun x y H Q => ∃ p xs i v, x = .ref p ∧ y = .int i ∧ SqL K H p xs ∧ atI xs i = some v ∧ Q v H
def rIxT (K : PySem.W.Frag) : R2 := fun x y H Q => ∃ p xs i v, x = .ref p ∧ y = .int i ∧ SqT K H p xs ∧ atI xs i = some v ∧ Q v H
theorem ix_list : IxR X (rIxL X.K) := by
  intro value slice pins s σ H x y v u Q I rx ry h hs
  obtain ⟨p, xs, i, z, rfl, rfl, hq, he, q⟩ := h
  cases rx
  obtain ⟨t, rfl⟩ := ry
  obtain ⟨its, r, pl, hz⟩ := I.list hq
  obtain ⟨j, h1, h2, h3, h4, h5⟩ := atI_get he
  obtain ⟨w, ew, rw'⟩ := r.get h2
  have hl := r.length
  have hn := line63
  have fin : EP X pins σ Q w s := ⟨z, H, I, rw', q⟩
  by_cases h0 : 0 ≤ i
  · have hj : i.toNat = j := by
      rw [seqIndex_of h0 h5] at h1
      exact Option.some.inj h1
    exact item_listR pl.isList h0 (by omega) (by rw [hj]; simpa using ew) fin hs
  · have hj : (i + (its.toArray.size : Int)).toNat = j := by
      rw [seqIndex_neg (by omega) h4] at h1
      rw [List.size_toArray, ← hl]
      exact Option.some.inj h1
    exact subscriptTail_builtinR (x := w) pl.isList.typeIs slot_list_getitem.lookup
      (wpAny_getItem_list_neg (Q := fun r s' => r = w ∧ EP X pins σ Q r s') pl.isList (by omega) (by rw [List.size_toArray] <;> omega) (by omega) (by rw [hj]; simpa using ew) ⟨rfl, fin⟩) hs
theorem ix_tup : IxR X (rIxT X.K) := by
  intro value slice pins s σ H x y v u Q I rx ry h hs
  obtain ⟨p, xs, i, z, rfl, rfl, hq, he, q⟩ := h
  cases rx
  obtain ⟨t, rfl⟩ := ry
  obtain ⟨its, r, pl, hz⟩ := I.tuple hq
  obtain ⟨j, h1, h2, h3, h4, h5⟩ := atI_get he
  obtain ⟨w, ew, rw'⟩ := r.get h2
  have hl := r.length
  have hn := line63
  have fin : EP X pins σ Q w s := ⟨z, H, I, rw', q⟩
  exact subscriptTail_builtinR (x := w) pl.typeIs slot_tuple_getitem.lookup
    (getItem_tuple (j := j) (Q := fun r s' => r = w ∧ EP X pins σ Q r s') pl (by omega) (by omega) (by rw [List.size_toArray, ← hl]; exact h1) (by simpa using ew) ⟨rfl, fin⟩) hs
theorem mapSeq_set (its : List Value) (n j : Nat) (u : Value) : Obj.mapSeq (·.setIfInBounds j u) { cls := .type "list", data := .seq its.toArray n } = { cls := .type "list", data := .seq (its.set j u).toArray n } := by
  simp [Obj.mapSeq]
theorem Inv.lst {pins : List (Addr × Obj)} {σ : St} {H : Hp} {s : Shared} {p : Addr} {xs : List V} (I : Inv X pins σ H s) (h : H p = some (.lst xs)) :
    ∃ (its : List Value) (n : Nat), Vals xs its ∧ s.heap.get? p = some { cls := .type "list", data := .seq its.toArray n } ∧ xs.length ≤ sizeLine := by
  obtain ⟨z, its, n, r, e⟩ := I.hok p _ h
  exact ⟨its, n, r, e, z⟩
theorem Inv.lstUpd {pins : List (Addr × Obj)} {σ : St} {H : Hp} {s : Shared} {p : Addr} {xs ys : List V} {its its' : List Value} {n n' : Nat} {f : Obj → Obj} (I : Inv X pins σ H s) (h : H p = some (.lst xs))
    (ho : s.heap.get? p = some { cls := .type "list", data := .seq its.toArray n }) (hf : f { cls := .type "list", data := .seq its.toArray n } = { cls := .type "list", data := .seq its'.toArray n' }) (r : Vals ys its') (hz : ys.length ≤ sizeLine) (t : Nat) :
    Inv X pins σ (upd H p (.lst ys)) { s with heap := s.heap.update p f, toks := t } := by
  have e : (s.heap.update p f).get? p = some { cls := .type "list", data := .seq its'.toArray n' } := by
    rw [Heap.get?_update_self f ho (by rw [hf] <;> rfl), hf]
  refine I.write (x := p) (e := p) (by rw [h]; trivial) (.inl rfl) (fun b u hb q => (Heap.get?_update_other _ _ (Ne.symm hb)).trans q) ⟨_, e⟩ ?_
  exact ⟨hz, its', n', r, e⟩
def rSetL : V → V → V → Hp → (Hp → Prop) → Prop := fun o i v H Q => ∃ p xs k j, o = .ref p ∧ i = .int k ∧ H p = some (.lst xs) ∧ ixN xs.length k = some j ∧ Q (upd H p (.lst (xs.set j v)))
theorem set_list : PSet X rSetL := by
  intro pins s σ H o i v ov iv u Q I ro ri rv h
  obtain ⟨p, xs, k, j, rfl, rfl, hp, hj, q⟩ := h
  cases ro
  obtain ⟨t, rfl⟩ := ri
  obtain ⟨its, n, r, ho, hz⟩ := I.lst hp
  obtain ⟨h1, h2, h3, h4⟩ := ixN_seq hj
  have hl := r.length
  have hn := line63
  have I' : Inv X pins σ (upd H p (.lst (xs.set j v))) { s with heap := s.heap.update p (Obj.mapSeq (·.setIfInBounds j u)) } :=
    I.lstUpd hp ho (mapSeq_set its n j u) (r.set rv j) (by rw [List.length_set]; exact hz) s.toks
  by_cases h0 : 0 ≤ k
  · have hk : k.toNat = j := by
      rw [seqIndex_of h0 h4] at h1
      exact Option.some.inj h1
    exact PySem.W.ki_setAt ho h0 (by omega) (by rw [List.size_toArray, ← hl]; exact h4) (by rw [hk]; exact ⟨_, I', q⟩)
  · have hk : (k + (its.toArray.size : Int)).toNat = j := by
      rw [seqIndex_neg (by omega) h3] at h1
      rw [List.size_toArray, ← hl]
      exact Option.some.inj h1
    exact PySem.W.ki_setBack ho (by omega) (by rw [List.size_toArray, ← hl]; exact h3) (by omega) (by rw [hk]; exact ⟨_, I', q⟩)
theorem slice_bounds (lo hi : Option Int) (n : Nat) : (sliceBounds lo hi none n).1 = ((HT.sIx n 0 lo : Nat) : Int) ∧ (sliceBounds lo hi none n).2.1 = ((HT.sIx n n hi : Nat) : Int) ∧ (sliceBounds lo hi none n).2.2 = 1 := by
  refine ⟨?_, ?_, rfl⟩
  · cases lo with
    | none => simp [sliceBounds, HT.sIx]
    | some i =>
      simp only [sliceBounds, HT.sIx, Option.getD_none, show (1 : Int) > 0 by decide, if_true]
      by_cases h : i < 0
      · simp only [h, if_true] <;> omega
      · simp only [h, if_false] <;> omega
  · cases hi with
    | none => simp [sliceBounds, HT.sIx]
    | some i =>
      simp only [sliceBounds, HT.sIx, Option.getD_none, show (1 : Int) > 0 by decide, if_true]
      by_cases h : i < 0
      · simp only [h, if_true] <;> omega
      · simp only [h, if_false] <;> omega
theorem slicePick_cut (its : List Value) (lo hi : Option Int) : slicePick its.toArray lo hi none = ((its.drop (HT.sIx its.length 0 lo)).take (HT.sIx its.length its.length hi - HT.sIx its.length 0 lo)).toArray := by
  obtain ⟨h1, h2, h3⟩ := slice_bounds lo hi its.toArray.size
  unfold slicePick
  rw [h1, h2, h3]
  simp only [sliceRange_one, pick_run, List.size_toArray] <;> rfl
def rSlL (K : PySem.W.Frag) : V → Option Int → Option Int → Hp → VK → Prop := fun x lo hi H Q => ∃ a xs, x = .ref a ∧ SqL K H a xs ∧ ∀ p, H p = none → Q (.ref p) (upd H p (.lst (cutV xs lo hi)))
theorem sl_list : SlR X (rSlL X.K) := by
  intro pins s σ H x v vl vu lo hi sl Q I rx hs pl pu h
  obtain ⟨a, xs, rfl, hx, q⟩ := h
  cases rx
  obtain ⟨its, r, ht, hz⟩ := I.list hx
  have hlen := r.length
  refine ⟨"list", _, slot_list_getitem.lookup, ht.isList.typeIs, ?_⟩
  refine wpAny_getItem_list_slice ht.isList hs pl pu .none (by simp) ?_ (by rw [List.size_toArray] <;> omega)
  rw [slicePick_cut, ← hlen]
  refine ⟨.ref s.heap.objs.size, _, I.laid (t' := s.toks) (o := .lst (cutV xs lo hi)) (fun b ob q => Heap.get?_push_of_some _ q) (Nat.le_refl _) ?_, rfl, q _ (I.hok.fresh (Nat.le_refl _))⟩
  exact ⟨Nat.le_trans (cutV_length xs lo hi) hz, _, 0, (r.drop (HT.sIx xs.length 0 lo)).take (HT.sIx xs.length xs.length hi - HT.sIx xs.length 0 lo), Heap.get?_push_size _ rfl⟩
def flatV : V → Bool
  | .non => true
  | .bl _ => true
  | .int _ => true
  | .str _ => true
  | _ => false
def eqV : V → V → Bool
  | .non, .non => true
  | .bl a, .bl b => a == b
  | .bl a, .int b => (if a then 1 else 0) == b
  | .int a, .bl b => a == (if b then 1 else 0)
  | .int a, .int b => a == b
  | .str a, .str b => a == b
  | _, _ => false
theorem eqAt_V {A : Around} {s : Shared} {y x : V} {u v : Value} (ry : RelV y u) (rx : RelV x v) (fy : flatV y = true) (fx : flatV x = true) : SeqAt.EqAt A s u v (eqV y x) := by
  cases y with
  | non =>
    cases ry
    cases x with
    | non => cases rx; exact SeqAt.EqAt.same _
    | bl b => cases rx; exact SeqAt.EqAt.none_bool b
    | int b => obtain ⟨t, rfl⟩ := rx; exact SeqAt.EqAt.none_int b t
    | str b => obtain ⟨t, rfl⟩ := rx; exact SeqAt.EqAt.none_str b t
    | _ => exact absurd (show false = true from fx) Bool.false_ne_true
  | bl a =>
    cases ry
    cases x with
    | non => cases rx; exact SeqAt.EqAt.bool_none a
    | bl b => cases rx; exact SeqAt.EqAt.bool_bool a b
    | int b => obtain ⟨t, rfl⟩ := rx; exact SeqAt.EqAt.bool_int a b t
    | str b => obtain ⟨t, rfl⟩ := rx; exact SeqAt.EqAt.bool_str a b t
    | _ => exact absurd (show false = true from fx) Bool.false_ne_true
  | int a =>
    obtain ⟨t', rfl⟩ := ry
    cases x with
    | non => cases rx; exact SeqAt.EqAt.int_none a t'
    | bl b => cases rx; exact SeqAt.EqAt.int_bool a t' b
    | int b => obtain ⟨t, rfl⟩ := rx; exact SeqAt.EqAt.int_int a t' b t
    | str b => obtain ⟨t, rfl⟩ := rx; exact SeqAt.EqAt.int_str a t' b t
    | _ => exact absurd (show false = true from fx) Bool.false_ne_true
  | str a =>
    obtain ⟨t', rfl⟩ := ry
    cases x with
    | non => cases rx; exact SeqAt.EqAt.str_none a t'
    | bl b => cases rx; exact SeqAt.EqAt.str_bool a t' b
    | int b => obtain ⟨t, rfl⟩ := rx; exact SeqAt.EqAt.str_int a t' b t
    | str b => obtain ⟨t, rfl⟩ := rx; exact SeqAt.EqAt.str_str a t' b t
    | _ => exact absurd (show false = true from fx) Bool.false_ne_true
  | _ => exact absurd (show false = true from fy) Bool.false_ne_true
def eqU (x : V) (u : Value) : Bool := match u with
  | .none => eqV .non x
  | .bool b => eqV (.bl b) x
  | .int i _ => eqV (.int i) x
  | .str z _ => eqV (.str z) x
  | _ => false
theorem eqU_of {x y : V} {u : Value} (r : RelV y u) (f : flatV y = true) : eqU x u = eqV y x := by
  cases y with
  | non => cases r; rfl
  | bl b => cases r; rfl
  | int i => obtain ⟨t, rfl⟩ := r; rfl
  | str z => obtain ⟨t, rfl⟩ := r; rfl
  | _ => exact absurd (show false = true from f) Bool.false_ne_true
theorem any_eqU {x : V} : ∀ {xs : List V} {us : List Value}, Vals xs us → xs.all flatV = true → us.any (eqU x) = xs.any fun y => eqV y x
  | _, _, .nil, _ => rfl
  | y :: xs, u :: us, .cons r t, f => by
    rw [List.all_cons, Bool.and_eq_true] at f
    rw [List.any_cons, List.any_cons, eqU_of r f.1, any_eqU t f.2]
theorem mem_eqAt {A : Around} {s : Shared} {x : V} {v : Value} (rx : RelV x v) (fx : flatV x = true) : ∀ {xs : List V} {us : List Value}, Vals xs us → xs.all flatV = true → ∀ u ∈ us, SeqAt.EqAt A s u v (eqU x u)
  | _, _, .nil, _ => fun u hu => by cases hu
  | y :: xs, u :: us, .cons r t, f => fun u' hu => by
    rw [List.all_cons, Bool.and_eq_true] at f
    rcases List.mem_cons.mp hu with rfl | hu
    · rw [eqU_of r f.1]; exact eqAt_V r rx f.1 fx
    · exact mem_eqAt rx fx t f.2 u' hu
def inV (x : V) (xs : List V) : Bool := xs.any fun y => eqV y x
def rIn (K : PySem.W.Frag) (neg : Bool) : R2 := fun x y H Q => ∃ p xs, y = .ref p ∧ (SqL K H p xs ∨ SqT K H p xs) ∧ flatV x = true ∧ xs.all flatV = true ∧ Q (.bl (if neg then !inV x xs else inV x xs)) H
theorem op_in_seq : OpR X (compareOp .In) (rIn X.K false) := by
  intro pins s σ H x y v u Q I rx ry h
  obtain ⟨p, xs, rfl, hq, fx, fs, q⟩ := h
  cases ry
  rcases hq with hq | hq
  · obtain ⟨its, r, pl, hz⟩ := I.list hq
    refine SeqAt.in_listAt (eqU x) pl.isList (fun w hw => mem_eqAt rx fx r fs w (by simpa using hw)) ⟨.bl _, H, I, rfl, ?_⟩
    rw [show its.toArray.any (eqU x) = its.any (eqU x) by simp, any_eqU r fs]
    exact q
  · obtain ⟨its, r, pl, hz⟩ := I.tuple hq
    refine SeqAt.in_tupleAt (eqU x) pl (fun w hw => mem_eqAt rx fx r fs w (by simpa using hw)) ⟨.bl _, H, I, rfl, ?_⟩
    rw [show its.toArray.any (eqU x) = its.any (eqU x) by simp, any_eqU r fs]
    exact q
theorem call_len_seq : CallR X (.builtin "len") (fun xs H Q => ∃ p ys, xs = [.ref p] ∧ (SqL X.K H p ys ∨ SqT X.K H p ys) ∧ Q (.int ys.length) H) := by
  intro pins s σ H xs us Q I r h
  obtain ⟨p, ys, rfl, hq, q⟩ := h
  obtain ⟨u, rfl, rx⟩ := vals1 r
  cases rx
  have hn := line63
  rcases hq with hq | hq
  · obtain ⟨its, r', pl, hz⟩ := I.list hq
    have hlen := r'.length
    exact Calls.call_len_list pl.isList (by simp only [List.size_toArray] <;> omega) ⟨.int ys.length, H, I.tok _, ⟨s.toks + 1, by rw [List.size_toArray, hlen]⟩, q⟩
  · obtain ⟨its, r', pl, hz⟩ := I.tuple hq
    have hlen := r'.length
    exact len_tuple pl (by simp only [List.size_toArray] <;> omega) ⟨.int ys.length, H, I.tok _, ⟨s.toks + 1, by rw [List.size_toArray, hlen]⟩, q⟩
theorem call_list_of : CallR X (.type "list") (fun xs H Q => ∃ p ys, xs = [.ref p] ∧ (SqL X.K H p ys ∨ SqT X.K H p ys) ∧ ∀ l, H l = none → Q (.ref l) (upd H l (.lst ys))) := by
  intro pins s σ H xs us Q I r h
  obtain ⟨p, ys, rfl, hq, q⟩ := h
  obtain ⟨u, rfl, rx⟩ := vals1 r
  cases rx
  have fin : ∀ (its : List Value), Vals ys its → ys.length ≤ sizeLine → ∀ (h' : Heap) (c' : Nat), (∀ b o', s.heap.get? b = some o' → h'.get? b = some o') →
      h'.get? s.heap.objs.size = some { cls := .type "list", dict := none, data := .seq its.toArray c', slots := #[] } → EP X pins σ Q (.ref s.heap.objs.size) { s with heap := h' } := fun its r' hz h' c' kp e =>
    ⟨.ref s.heap.objs.size, _, I.laid (t' := s.toks) kp (Nat.le_refl _) (show ObjOk X.prog X.w _ h' _ (.lst ys) from ⟨hz, its, c', r', e⟩), rfl, q _ (I.hok.fresh (Nat.le_refl _))⟩
  rcases hq with hq | hq
  · obtain ⟨its, r', pl, hz⟩ := I.list hq
    have hlen := r'.length
    obtain ⟨o, ho, hc, n, hd⟩ := pl.isList
    exact call_list_seq p (.inl rfl) ho hc hd (fun h' c' kp e => fin its r' hz h' c' kp e) (by simp only [List.size_toArray] <;> omega)
  · obtain ⟨its, r', pl, hz⟩ := I.tuple hq
    have hlen := r'.length
    obtain ⟨o, ho, hc, n, hd⟩ := pl
    exact call_list_seq p (.inr rfl) ho hc hd (fun h' c' kp e => fin its r' hz h' c' kp e) (by simp only [List.size_toArray] <;> omega)
def tyV (K : PySem.W.Frag) (T : String) (x : V) (H : Hp) : Prop := match x with
  | .str _ => T = "str"
  | .int _ => T = "int"
  | .ref p => (T = "list" ∧ ∃ xs, SqL K H p xs) ∨ (T = "tuple" ∧ ∃ o, K.lookup p = some o ∧ o.cls = .type "tuple" ∧ o.dict = none) ∨
      (T = "dict" ∧ ((∃ kvs, H p = some (.dK kvs)) ∨ ∃ kvs, H p = some (.dT kvs))) ∨ (T = "set" ∧ ∃ S n, H p = some (.set S n))
  | _ => False
theorem tyV_is {pins : List (Addr × Obj)} {σ : St} {H : Hp} {s : Shared} {T : String} {x : V} {v : Value} (I : Inv X pins σ H s) (r : RelV x v) (ty : tyV X.K T x H) :
    s.TypeIs v T ∧ ∀ a, v = .ref a → ∃ ob, s.heap.get? a = some ob ∧ ob.dict = none := by
  cases x with
  | str z =>
    obtain ⟨t, rfl⟩ := r
    cases (show T = "str" from ty)
    exact ⟨typeIs_str s z t, fun _ e => nomatch e⟩
  | int i =>
    obtain ⟨t, rfl⟩ := r
    cases (show T = "int" from ty)
    exact ⟨typeIs_int s i t, fun _ e => nomatch e⟩
  | ref p =>
    cases r
    rcases ty with ⟨rfl, xs, hq⟩ | ⟨rfl, o, hk, hc, hd⟩ | ⟨rfl, hk⟩ | ⟨rfl, S, n, hk⟩
    · obtain ⟨its, _, pl, _⟩ := I.list hq
      refine ⟨pl.isList.typeIs, fun a e => ?_⟩
      cases e
      obtain ⟨o, n, e, c, hd, _⟩ := pl
      exact ⟨o, e, hd⟩
    · refine ⟨⟨o, I.kIn p o hk, hc⟩, fun a e => ?_⟩
      cases e
      exact ⟨o, I.kIn _ o hk, hd⟩
    · have z : ∃ o, s.heap.get? p = some o ∧ o.ExactDict := by
        rcases hk with ⟨kvs, hk⟩ | ⟨kvs, hk⟩
        · obtain ⟨_, _, _, _, o, _, _, e, ex, _⟩ := I.hok p _ hk
          exact ⟨o, e, ex⟩
        · obtain ⟨_, _, _, _, o, _, _, e, ex, _⟩ := I.hok p _ hk
          exact ⟨o, e, ex⟩
      obtain ⟨o, e, ex⟩ := z
      refine ⟨⟨o, e, ex.1⟩, fun a e2 => ?_⟩
      cases e2
      exact ⟨o, e, ex.2.1⟩
    · obtain ⟨o, _, _, _, e, ex, _⟩ := I.hok p _ hk
      refine ⟨⟨o, e, ex.1⟩, fun a e2 => ?_⟩
      cases e2
      exact ⟨o, e, ex.2.1⟩
  | _ => exact False.elim ty
def tBM (K : PySem.W.Frag) (T : String) (r : V → List V → Hp → VK → Prop) (to : TE) (t : TA) : TE := fun σ H Q => to σ H fun x H1 => tyV K T x H1 ∧ t σ H1 fun xs H2 => r x xs H2 Q
variable {o e : Expr} {es : List Expr} {to : TE} {t : TA} {name : Str} {apos cpos : Pos} {T id : String} {r : V → List V → Hp → VK → Prop}
theorem pe_bm (pa : PlainAttrs T) (slot : Slot T name id) (hty : typeOf (.builtin id) = pure (.type "method_descriptor")) (hm : MtR X id r) (ho : PE X o to) (ha : PA X (e :: es) t)
    (hbase : attributeBase o name X.env (eval o X.env) = eval o X.env := by rfl)
    (hfew : ((backTo cpos (starEach (e :: es) X.env)).all (fun x => !x.1) && (backToKw cpos (keywordEach [] X.env)).all (fun x => x.1.isSome)
      && decide ((e :: es).length + ([] : List Keyword).length + (if ([] : List Keyword).isEmpty then 0 else 1) < 30)) = true := by rfl)
    (hline : (apos.endLine == cpos.line) = true := by rfl) (hs : starEach (e :: es) X.env = (false, eval e X.env) :: starEach es X.env := by rfl) (hplain : (backTo cpos (starEach es X.env)).any (·.1) = false := by rfl) :
    PE X (.Call (.Attribute o name apos) (e :: es) [] cpos) (tBM X.K T r to t) := by
  intro pins s σ H Q I h
  refine wpAny_Call_method_late hbase hfew hline rfl (thn (ho pins s σ H _ I h) fun v s1 ⟨x, H1, I1, r1, ty, q1⟩ => ?_)
  obtain ⟨h1, h2⟩ := tyV_is I1 r1 ty
  refine ⟨T, id, pa, slot, hty, h1, h2, ?_⟩
  have hA := ha cpos pins s1 σ H1 _ I1 q1
  rw [hs] at hA ⊢
  refine Calls.callWith_builtin (by show (false || (backTo cpos (starEach es X.env)).any (·.1)) = false; rw [hplain] <;> rfl) (Calls.evalArgs_plain ?_)
  exact thn hA fun us s2 ⟨vs, H2, I2, r2, q2⟩ => hm pins s2 σ H2 x vs v us Q I2 r1 r2 q2
/- xs.append(e), list.index on a module's tuple .. are MtR facts of 06m -/
end
end L2
namespace L2
open PySem PySem.Spec PyProof.Rows
def MtM (X : Cx) (id : String) (r : V → List V → Hp → VK → Prop) : Prop :=
  ∀ (pins : List (Addr × Obj)) (s : Shared) (σ : St) (H : Hp) (x : V) (xs : List V) (v : Value) (us : List Value) (Q : VK), Inv X pins σ H s → RelV x v → Vals xs us → r x xs H Q →
    wpAny (model X.prog X.w) X.A (call (.builtin id) (v :: us)) (EP X pins σ Q) X.xe s
theorem Vals.one : ∀ {x : V} {us : List Value}, Vals [x] us → ∃ u, us = [u] ∧ RelV x u
  | _, _, .cons r .nil => ⟨_, rfl, r⟩
section
variable {X : Cx} {pins : List (Addr × Obj)} {σ : St} {H : Hp} {s : Shared} {l b : Addr} {xs ys zs : List V}
theorem Inv.lset {its its' : List Value} {n : Nat} {f : Array Value → Array Value} {t' : Nat} (I : Inv X pins σ H s) (hH : H l = some (.lst xs))
    (e : s.heap.get? l = some { cls := .type "list", data := .seq its.toArray n }) (hf : f its.toArray = its'.toArray) (hv : Vals ys its') (hz : ys.length ≤ sizeLine) :
    Inv X pins σ (upd H l (.lst ys)) { s with heap := s.heap.update l (Obj.mapSeq f), toks := t' } := by
  have q := PySem.IsL.update e f
  rw [hf] at q
  refine I.write (x := l) (e := l) (by rw [hH]; exact trivial) (.inl rfl) (fun b' u hb hu => (Heap.get?_update_other s.heap (Obj.mapSeq f) (Ne.symm hb)).trans hu) ⟨_, q⟩ ?_
  exact ⟨hz, its', _, hv, q⟩
theorem Inv.lnew {its : List Value} {t' : Nat} (I : Inv X pins σ H s) (hv : Vals ys its) (hz : ys.length ≤ sizeLine) :
    Inv X pins σ (upd H s.heap.objs.size (.lst ys)) { s with heap := s.heap.push { cls := .type "list", data := .seq its.toArray }, toks := t' } :=
  I.laid (fun _ _ q => Heap.get?_push_of_some _ q) (Nat.le_refl _) ⟨hz, its, 0, hv, Heap.get?_push_size _ rfl⟩
theorem Inv.fresh (I : Inv X pins σ H s) : H s.heap.objs.size = none := I.hok.fresh (Nat.le_refl _)
theorem Inv.lstM (I : Inv X pins σ H s) (hH : H l = some (.lst xs)) : xs.length ≤ sizeLine ∧ ∃ (its : List Value) (n : Nat), Vals xs its ∧ xs.length = its.length ∧ s.heap.get? l = some { cls := .type "list", data := .seq its.toArray n } := by
  obtain ⟨z, its, n, r, e⟩ := I.hok l _ hH
  exact ⟨z, its, n, r, r.length, e⟩
theorem notLongL {n : Nat} (h : n ≤ sizeLine) : Builtin.List.listTooLong n = false := by
  unfold Builtin.List.listTooLong
  exact decide_eq_false (by omega)
end
section
variable {X : Cx}
def rAppend : V → List V → Hp → VK → Prop := fun x vs H Q => ∃ l xs y, x = .ref l ∧ vs = [y] ∧ H l = some (.lst xs) ∧ xs.length < sizeLine ∧ Q .non (upd H l (.lst (xs ++ [y])))
theorem mt_append : MtM X "list.append" rAppend := by
  intro pins s σ H x vs v us Q I rx rv h
  obtain ⟨l, xs, y, rfl, rfl, hH, hz, q⟩ := h
  cases rx
  obtain ⟨u, rfl, ru⟩ := rv.one
  obtain ⟨z, its, n, r, hl, e⟩ := I.lstM hH
  refine call_meets F.slot_list_append ⟨_, e, rfl⟩ F.entry_list_append (F.args_list_append_2 _ _) (PySem.list_append l its.toArray n u (by rw [List.size_toArray]; omega)) ⟨e, ?_⟩
  refine ⟨.non, _, I.lset (its' := its ++ [u]) hH e (by simp) (r.append (.cons ru .nil)) ?_, rfl, q⟩
  rw [List.length_append, List.length_singleton]
  omega
def rExtend : V → List V → Hp → VK → Prop := fun x vs H Q => ∃ l b xs zs, x = .ref l ∧ vs = [.ref b] ∧ H l = some (.lst xs) ∧ H b = some (.lst zs) ∧ xs.length + zs.length ≤ sizeLine ∧ Q .non (upd H l (.lst (xs ++ zs)))
theorem mt_extend : MtM X "list.extend" rExtend := by
  intro pins s σ H x vs v us Q I rx rv h
  obtain ⟨l, b, xs, zs, rfl, rfl, hH, hB, hz, q⟩ := h
  cases rx
  obtain ⟨u, rfl, ru⟩ := rv.one
  cases ru
  obtain ⟨z, its, n, r, hl, e⟩ := I.lstM hH
  obtain ⟨z2, its2, n2, r2, hl2, e2⟩ := I.lstM hB
  have hsz : its.toArray.size + its2.toArray.size ≤ sizeLine := by rw [List.size_toArray, List.size_toArray]; omega
  have hlong : ¬ (!its.toArray.isEmpty && Builtin.List.listTooLong (its.toArray.size + its2.toArray.size)) = true := by
    rw [notLongL hsz, Bool.and_false]
    exact Bool.false_ne_true
  refine call_meets F.slot_list_extend ⟨_, e, rfl⟩ F.entry_list_extend (F.args_list_extend_2 _ _)
    (AutoSeq1.list_extend_list_list_0 l its.toArray n b its2.toArray n2 hlong (by rw [List.size_toArray]; omega) (by omega)) ⟨e, e2, ?_⟩
  refine ⟨.non, _, I.lset (its' := its ++ its2) hH e (by simp) (r.append r2) ?_, rfl, q⟩
  rw [List.length_append]
  omega
def rCat : R2 := fun x y H Q => ∃ l b xs zs, x = .ref l ∧ y = .ref b ∧ H l = some (.lst xs) ∧ H b = some (.lst zs) ∧ xs.length + zs.length ≤ sizeLine ∧ ∀ p, H p = none → Q (.ref p) (upd H p (.lst (xs ++ zs)))
theorem op_cat : OpR X (binaryOp .Add) rCat := by
  intro pins s σ H x y v u Q I rx ry h
  obtain ⟨l, b, xs, zs, rfl, rfl, hH, hB, hz, q⟩ := h
  cases rx
  cases ry
  obtain ⟨z, its, n, r, hl, e⟩ := I.lstM hH
  obtain ⟨z2, its2, n2, r2, hl2, e2⟩ := I.lstM hB
  refine PySem.P.add_list e e2 ?_ (by rw [List.size_toArray, List.size_toArray]; omega)
  have ea : its.toArray ++ its2.toArray = (its ++ its2).toArray := by simp
  rw [ea]
  exact ⟨.ref _, _, I.lnew (t' := s.toks) (r.append r2) (by rw [List.length_append]; omega), rfl, q _ I.fresh⟩
end
section
variable {prog : Program} {w : World} {A : Around} {E : Value → Shared → Prop} {s : Shared}
end
section
variable {X : Cx}
end
end L2
namespace L2
open PySem PySem.Spec PyProof.Rows
theorem Vals.ints : ∀ {ns : List Int} {us : List Value}, Vals (ns.map V.int) us → IntsAre us ns
  | [], us, h => by
    rw [List.map_nil] at h
    cases h
    exact IntsAre.nil
  | n :: ns, us, h => by
    rw [List.map_cons] at h
    cases h with
    | cons r t =>
      obtain ⟨k, rfl⟩ := r
      exact IntsAre.cons n k (Vals.ints t)
theorem vals_of_ints : ∀ {us : List Value} {ns : List Int}, IntsAre us ns → Vals (ns.map V.int) us
  | _, _, .nil => by rw [List.map_nil]; exact Paired.nil
  | _, _, .cons n t h => by rw [List.map_cons]; exact Paired.cons (show RelV (V.int n) (Value.int n t) from ⟨t, rfl⟩) (vals_of_ints h)
theorem Vals.bls : ∀ {bs : List Bool} {us : List Value}, Vals (bs.map V.bl) us → us = bs.map Value.bool
  | [], us, h => by
    rw [List.map_nil] at h
    cases h
    rfl
  | b :: bs, us, h => by
    rw [List.map_cons] at h
    cases h with
    | cons r t =>
      cases r
      rw [Vals.bls t, List.map_cons]
theorem Vals.ref1 {a : Addr} {us : List Value} (r : Vals [V.ref a] us) : us = [Value.ref a] := by
  cases r with
  | cons r t =>
    cases t
    cases r
    rfl
section
variable {prog : Program} {w : World} {A : Around} {E : Value → Shared → Prop} {s : Shared} {l : Addr} {its : List Value} {ns : List Int} {Q : Value → Shared → Prop}
theorem sum_raw (hh : A.handled = none) (hl : s.heap.IsList l its.toArray) (hi : IntsAre its ns)
    (h : ∀ h' tk t', (∀ b o, s.heap.get? b = some o → h'.get? b = some o) → Q (.int ns.sum t') { s with heap := h', toks := tk }) : wpAny (model prog w) A (call (.builtin "sum") [.ref l]) Q E s := by
  obtain ⟨xs, e⟩ := hi.allInts.items
  have hn : numsOf (intItems xs).toList = ns := by rw [← e]; exact hi.numsOf
  rw [nums_intItems] at hn
  rw [e] at hl
  refine PySem.sum_intListG hh hl fun h' tk t' hk => ?_
  have := h h' tk t' hk
  rw [preSum_eq, List.take_of_length_le (by simp), hn]; exact this
theorem max_raw (hh : A.handled = none) (hl : s.heap.IsList l its.toArray) (hi : IntsAre its ns) (hne : 0 < ns.length)
    (h : ∀ h' tk M t', (∀ b o, s.heap.get? b = some o → h'.get? b = some o) → M ∈ ns → (∀ a, a ∈ ns → a ≤ M) → Q (.int M t') { s with heap := h', toks := tk }) : wpAny (model prog w) A (call (.builtin "max") [.ref l]) Q E s := by
  obtain ⟨xs, e⟩ := hi.allInts.items
  have hn : numsOf (intItems xs).toList = ns := by rw [← e]; exact hi.numsOf
  rw [nums_intItems] at hn
  subst hn
  rw [e] at hl
  have hsz : 0 < xs.size := by simpa using hne
  refine PySem.max_intList hh hl hsz fun v h' tk hv hk => ?_
  obtain ⟨t, rfl⟩ := intItems_at hv
  obtain ⟨h1, h2⟩ := argBest_gt (numAt xs) (xs.size - 1)
  refine h h' tk _ t hk ?_ fun a ha => ?_
  · rw [numAt_eq]; exact PySem.getD_mem (by rw [List.length_map, Array.length_toList]; omega)
  · obtain ⟨j, hj, rfl⟩ := mem_getD ha
    rw [List.length_map, Array.length_toList] at hj
    rw [← numAt_eq]; exact h2 j (by omega)
theorem min_raw (hh : A.handled = none) (hl : s.heap.IsList l its.toArray) (hi : IntsAre its ns) (hne : 0 < ns.length)
    (h : ∀ h' tk M t', (∀ b o, s.heap.get? b = some o → h'.get? b = some o) → M ∈ ns → (∀ a, a ∈ ns → M ≤ a) → Q (.int M t') { s with heap := h', toks := tk }) : wpAny (model prog w) A (call (.builtin "min") [.ref l]) Q E s := by
  obtain ⟨xs, e⟩ := hi.allInts.items
  have hn : numsOf (intItems xs).toList = ns := by rw [← e]; exact hi.numsOf
  rw [nums_intItems] at hn
  subst hn
  rw [e] at hl
  have hsz : 0 < xs.size := by simpa using hne
  refine PySem.min_intList hh hl hsz fun v h' tk hv hk => ?_
  obtain ⟨t, rfl⟩ := intItems_at hv
  obtain ⟨h1, h2⟩ := argBest_lt (numAt xs) (xs.size - 1)
  refine h h' tk _ t hk ?_ fun a ha => ?_
  · rw [numAt_eq]; exact PySem.getD_mem (by rw [List.length_map, Array.length_toList]; omega)
  · obtain ⟨j, hj, rfl⟩ := mem_getD ha
    rw [List.length_map, Array.length_toList] at hj
    rw [← numAt_eq]; exact h2 j (by omega)
end
section
variable {X : Cx}
def rSum (K : PySem.W.Frag) : List V → Hp → VK → Prop := fun vs H Q => ∃ (a : Addr) (ns : List Int), vs = [V.ref a] ∧ SqL K H a (ns.map V.int) ∧ Q (.int ns.sum) H
def rMax (K : PySem.W.Frag) : List V → Hp → VK → Prop := fun vs H Q => ∃ (a : Addr) (ns : List Int), vs = [V.ref a] ∧ SqL K H a (ns.map V.int) ∧ 0 < ns.length ∧ ∀ m, m ∈ ns → (∀ y, y ∈ ns → y ≤ m) → Q (.int m) H
def rMin (K : PySem.W.Frag) : List V → Hp → VK → Prop := fun vs H Q => ∃ (a : Addr) (ns : List Int), vs = [V.ref a] ∧ SqL K H a (ns.map V.int) ∧ 0 < ns.length ∧ ∀ m, m ∈ ns → (∀ y, y ∈ ns → m ≤ y) → Q (.int m) H
theorem cr_sum (hc : X.calm = true) : CallR X (.builtin "sum") (rSum X.K) := by
  intro pins s σ H vs us Q I r h
  obtain ⟨a, ns, rfl, hs, q⟩ := h
  obtain ⟨its, rv, hl, _⟩ := I.list hs
  rw [Vals.ref1 r]
  exact sum_raw (I.ok.hd hc) hl.isList rv.ints fun h' tk t' hk => ⟨.int _, H, I.kept hk, ⟨_, rfl⟩, q⟩
theorem cr_max (hc : X.calm = true) : CallR X (.builtin "max") (rMax X.K) := by
  intro pins s σ H vs us Q I r h
  obtain ⟨a, ns, rfl, hs, hne, q⟩ := h
  obtain ⟨its, rv, hl, _⟩ := I.list hs
  rw [Vals.ref1 r]
  exact max_raw (I.ok.hd hc) hl.isList rv.ints hne fun h' tk m t' hk h1 h2 => ⟨.int _, H, I.kept hk, ⟨_, rfl⟩, q m h1 h2⟩
theorem cr_min (hc : X.calm = true) : CallR X (.builtin "min") (rMin X.K) := by
  intro pins s σ H vs us Q I r h
  obtain ⟨a, ns, rfl, hs, hne, q⟩ := h
  obtain ⟨its, rv, hl, _⟩ := I.list hs
  rw [Vals.ref1 r]
  exact min_raw (I.ok.hd hc) hl.isList rv.ints hne fun h' tk m t' hk h1 h2 => ⟨.int _, H, I.kept hk, ⟨_, rfl⟩, q m h1 h2⟩
def rSorted (K : PySem.W.Frag) : List V → Hp → VK → Prop := fun vs H Q => ∃ (a : Addr) (ns : List Int), vs = [V.ref a] ∧ SqL K H a (ns.map V.int) ∧ ns.length < 64 ∧
  ∀ (ns' : List Int) (p : Addr), ns'.Perm ns → ns'.Pairwise (· ≤ ·) → H p = none → Q (.ref p) (upd H p (.lst (ns'.map V.int)))
theorem small64 {n : Nat} (h : n < 64) : n ≤ sizeLine := by rw [sizeLine_eq]; omega
theorem cr_sorted : CallR X (.builtin "sorted") (rSorted X.K) := by
  intro pins s σ H vs us Q I r h
  obtain ⟨a, ns, rfl, hs, h64, q⟩ := h
  obtain ⟨its, rv, hl, _⟩ := I.list hs
  rw [Vals.ref1 r]
  have hi := rv.ints
  refine PyProof.Rows.sorted_ints hl.isList hi (by rw [hi.length]; exact h64) fun out ns' h1 h2 h3 => ?_
  obtain ⟨ep, he'⟩ := PyProof.Rows.sortedAll_at s.heap its out
  have hlen : (ns'.map V.int).length ≤ sizeLine := by rw [List.length_map, h2.length_eq]; exact small64 h64
  exact ⟨.ref _, upd H (s.heap.objs.size + 1) (.lst (ns'.map V.int)), I.laid (t' := s.toks) (fun _ _ => PyProof.Rows.sortedAll_old) (Nat.le_succ _) ⟨hlen, out.toList, ep, vals_of_ints h1, he'⟩, rfl, q ns' _ h2 h3 (I.hok.fresh (Nat.le_succ _))⟩
end
section
variable {X : Cx}
end
section
variable {X : Cx}
end
theorem iter_any {prog : Program} {w : World} {A : Around} {E : Value → Shared → Prop} {s : Shared} {l : Addr} {items : Array Value} {Q : Value → Shared → Prop} (hl : s.heap.IsList l items)
    (h : ∀ s₂ : Shared, s₂ = { s with heap := s.heap.push { cls := .type "list_iterator", data := .fields #[.ref l, .int 0 0] } } →
      (s₂.heap.IsListIter s.heap.objs.size l 0 ∧ s₂.heap.IsList l items) → l ≠ s.heap.objs.size → Q (.ref s.heap.objs.size) s₂) : wpAny (model prog w) A (pyIter (.ref l)) Q E s := by
  have hlt : l < s.heap.objs.size := by obtain ⟨_, e, _⟩ := hl; exact Heap.lt_size e
  exact wpAny_pyIter_list hl (h _ rfl ⟨⟨_, Heap.get?_push_size _ rfl, rfl, rfl⟩, hl.push _⟩ (Nat.ne_of_lt hlt))
theorem truth_bools {prog : Program} {w : World} {A : Around} {bs : List Bool} {its : List Value} (e : its = bs.map Value.bool) :
    TruthOf prog w A (fun i v => its.toArray[i]? = some v) (fun i => bs.getD i false) := fun i v s Q E hv hq => by
  have hv' : its[i]? = some v := by simpa using hv
  rw [e, List.getElem?_map] at hv'
  obtain ⟨b, hb, rfl⟩ := Option.map_eq_some_iff.mp hv'
  have hg : bs.getD i false = b := by rw [List.getD_eq_getElem?_getD, hb] <;> rfl
  have hq' : Q (bs.getD i false) s := hq
  rw [hg] at hq'
  exact wpAny_truthy_bool hq'
theorem any_range : ∀ bs : List Bool, (List.range bs.length).any (fun i => bs.getD i false) = bs.any id
  | [] => rfl
  | b :: bs => by
    rw [List.length_cons, List.range_succ_eq_map, List.any_cons, List.any_map, List.any_cons, ← any_range bs]
    all_goals rfl
theorem all_range : ∀ bs : List Bool, (List.range bs.length).all (fun i => bs.getD i false) = bs.all id
  | [] => rfl
  | b :: bs => by
    rw [List.length_cons, List.range_succ_eq_map, List.all_cons, List.all_map, List.all_cons, ← all_range bs]
    all_goals rfl
section
variable {X : Cx}
def rAny (K : PySem.W.Frag) : List V → Hp → VK → Prop := fun vs H Q => ∃ (a : Addr) (bs : List Bool), vs = [V.ref a] ∧ SqL K H a (bs.map V.bl) ∧ Q (.bl (bs.any id)) H
def rAll (K : PySem.W.Frag) : List V → Hp → VK → Prop := fun vs H Q => ∃ (a : Addr) (bs : List Bool), vs = [V.ref a] ∧ SqL K H a (bs.map V.bl) ∧ Q (.bl (bs.all id)) H
theorem cr_any (hc : X.calm = true) : CallR X (.builtin "any") (rAny X.K) := by
  intro pins s σ H vs us Q I r h
  obtain ⟨a, bs, rfl, hs, q⟩ := h
  obtain ⟨its, rv, hl, _⟩ := I.list hs
  rw [Vals.ref1 r]
  have hb := rv.bls
  refine call_any_walk (iter_any hl.isList fun s₂ e2 st hne => ?_)
  subst e2
  refine ⟨_, _, _, _, _, _, _, rfl, Walks.list (A := X.A.in1) (I.ok.hd hc) _ a hne its.toArray, st, truth_bools hb, fun h' tk hk => ?_⟩
  refine ⟨.bl _, H, I.kept fun b o eo => hk b o (fun hmem => ?_) (Heap.get?_push_of_some _ eo), ?_, q⟩
  · rcases List.mem_cons.mp hmem with e1 | hmem
    · exact absurd (e1 ▸ Heap.lt_size eo) (Nat.lt_irrefl _)
    · cases hmem
  · show Value.bool _ = Value.bool _
    rw [← any_range, hb, List.size_toArray, List.length_map]
theorem cr_all (hc : X.calm = true) : CallR X (.builtin "all") (rAll X.K) := by
  intro pins s σ H vs us Q I r h
  obtain ⟨a, bs, rfl, hs, q⟩ := h
  obtain ⟨its, rv, hl, _⟩ := I.list hs
  rw [Vals.ref1 r]
  have hb := rv.bls
  refine call_all_walk (iter_any hl.isList fun s₂ e2 st hne => ?_)
  subst e2
  refine ⟨_, _, _, _, _, _, _, rfl, Walks.list (A := X.A.in1) (I.ok.hd hc) _ a hne its.toArray, st, truth_bools hb, fun h' tk hk => ?_⟩
  refine ⟨.bl _, H, I.kept fun b o eo => hk b o (fun hmem => ?_) (Heap.get?_push_of_some _ eo), ?_, q⟩
  · rcases List.mem_cons.mp hmem with e1 | hmem
    · exact absurd (e1 ▸ Heap.lt_size eo) (Nat.lt_irrefl _)
    · cases hmem
  · show Value.bool _ = Value.bool _
    rw [← all_range, hb, List.size_toArray, List.length_map]
end
mutual
inductive Dp (K : PySem.W.Frag) (H : Hp) : V → PyData → Prop
  | non : Dp K H .non .none
  | bl (b : Bool) : Dp K H (.bl b) (.bool b)
  | int (i : Int) : Dp K H (.int i) (.int i)
  | str (x : Str) : Dp K H (.str x) (.str x)
  | lst {a : Addr} {xs : List V} {ds : List PyData} : SqL K H a xs → DpAll K H xs ds → Dp K H (.ref a) (.list ds)
  | tup {a : Addr} {xs : List V} {ds : List PyData} : SqT K H a xs → DpAll K H xs ds → Dp K H (.ref a) (.tuple ds)
inductive DpAll (K : PySem.W.Frag) (H : Hp) : List V → List PyData → Prop
  | nil : DpAll K H [] []
  | cons {v : V} {vs : List V} {d : PyData} {ds : List PyData} : Dp K H v d → DpAll K H vs ds → DpAll K H (v :: vs) (d :: ds)
end
section
variable {X : Cx} {pins : List (Addr × Obj)} {σ : St} {H : Hp} {s : Shared}
mutual
theorem Dp.reads (I : Inv X pins σ H s) : ∀ (d : PyData) (v : V) (u : Value), Dp X.K H v d → RelV v u → ∃ as, Reads s.heap u d as
  | .none, _, _, h, r => by
    cases h
    cases r
    exact ⟨_, Reads.none⟩
  | .bool b, _, _, h, r => by
    cases h
    cases r
    exact ⟨_, Reads.bool b⟩
  | .int i, _, _, h, r => by
    cases h
    obtain ⟨t, rfl⟩ := r
    exact ⟨_, Reads.int i t⟩
  | .str x, _, _, h, r => by
    cases h
    obtain ⟨t, rfl⟩ := r
    exact ⟨_, Reads.str x t⟩
  | .list ds, _, _, h, r => by
    cases h with
    | lst hs ha =>
      cases r
      obtain ⟨its, rv, ⟨o, n, ho, hc, _, hd⟩, _⟩ := I.list hs
      obtain ⟨as, hr⟩ := Dp.readsAll I ds _ its ha rv
      exact ⟨_, Reads.list ho hc hd hr⟩
  | .tuple ds, _, _, h, r => by
    cases h with
    | tup hs ha =>
      cases r
      obtain ⟨its, rv, ⟨o, ho, hc, n, hd⟩, _⟩ := I.tuple hs
      obtain ⟨as, hr⟩ := Dp.readsAll I ds _ its ha rv
      exact ⟨_, Reads.tuple ho hc hd hr⟩
  | .dict _, _, _, h, _ => by cases h
theorem Dp.readsAll (I : Inv X pins σ H s) : ∀ (ds : List PyData) (vs : List V) (us : List Value), DpAll X.K H vs ds → Vals vs us → ∃ as, ReadsAll s.heap us ds as
  | [], _, _, h, r => by
    cases h
    cases r
    exact ⟨_, ReadsAll.nil⟩
  | d :: ds, _, _, h, r => by
    cases h with
    | cons h1 h2 =>
      cases r with
      | cons r1 r2 =>
        obtain ⟨as, q1⟩ := Dp.reads I d _ _ h1 r1
        obtain ⟨bs, q2⟩ := Dp.readsAll I ds _ _ h2 r2
        exact ⟨_, ReadsAll.cons q1 q2⟩
end
end
section
variable {X : Cx}
def rEqD (K : PySem.W.Frag) : R2 := fun x y H Q => ∃ d e, Dp K H x d ∧ Dp K H y e ∧ SeqAt.shaped d = true ∧ SeqAt.shaped e = true ∧ Q (.bl (PyData.eqv d e)) H
def rNeD (K : PySem.W.Frag) : R2 := fun x y H Q => ∃ d e, Dp K H x d ∧ Dp K H y e ∧ SeqAt.shaped d = true ∧ SeqAt.shaped e = true ∧ Q (.bl (!PyData.eqv d e)) H
theorem op_eqD (hu : X.A.units + 64 < cLine) : OpR X (compareOp .Eq) (rEqD X.K) := by
  intro pins s σ H x y v u Q I rx ry h
  obtain ⟨d, e, hd, he, sd, se, q⟩ := h
  obtain ⟨as, r1⟩ := Dp.reads I d x v hd rx
  obtain ⟨bs, r2⟩ := Dp.reads I e y u he ry
  exact SeqAt.compareEq_shaped r1 r2 sd se hu ⟨.bl _, H, I, rfl, q⟩
theorem op_neD (hu : X.A.units + 64 < cLine) : OpR X (compareOp .NotEq) (rNeD X.K) := by
  intro pins s σ H x y v u Q I rx ry h
  obtain ⟨d, e, hd, he, sd, se, q⟩ := h
  obtain ⟨as, r1⟩ := Dp.reads I d x v hd rx
  obtain ⟨bs, r2⟩ := Dp.reads I e y u he ry
  exact SeqAt.compareNe_shaped r1 r2 sd se hu ⟨.bl _, H, I, rfl, q⟩
end
end L2
namespace L2
open PySem PySem.Spec PyProof.Rows
abbrev CellAt (h : Heap) (c : Addr) (v : Option Value) : Prop := h.IsCell c v
def relS (scope sc : Scope) : Scope :=
  { scope with names := scope.names.map fun (n, k) => if (k == .free && sc.kind == .function && sc.names.lookup n == some .cell) then (n, .cell) else (n, k) }
def cloFrom (cells : List (Str × Addr)) : List (Str × NameKind) → List (Str × Addr) → List (Str × Addr)
  | [], acc => acc
  | (n, k) :: r, acc => if k == .free then cloFrom cells r ((n, (cells.lookup n).getD 0) :: acc) else cloFrom cells r acc
theorem closure_loop (env : Env) (f : Str × NameKind → List (Str × Addr) → Sem (ForInStep (List (Str × Addr))))
    (hf : ∀ n k c, f (n, k) c = if k == .free then (do let a ← cellOf env n; pure (.yield ((n, a) :: c))) else pure (.yield c)) :
    ∀ (names : List (Str × NameKind)) (acc : List (Str × Addr)), (∀ y ∈ names, y.2 = .free → ∃ c, env.cells.lookup y.1 = some c) → forIn names acc f = pure (cloFrom env.cells names acc)
  | [], acc, _ => by rw [List.forIn_nil]; rfl
  | (n, k) :: r, acc, h => by
    rw [List.forIn_cons, hf]
    have ih := fun acc => closure_loop env f hf r acc fun y hy => h y (List.mem_cons_of_mem _ hy)
    unfold cloFrom
    by_cases hk : (k == NameKind.free) = true
    · rw [if_pos hk, if_pos hk]
      obtain ⟨c, hc⟩ := h (n, k) List.mem_cons_self (by simpa using hk)
      have e : cellOf env n = pure c := by unfold cellOf; rw [hc]
      rw [e]
      have e2 : (env.cells.lookup n).getD 0 = c := by rw [hc]; rfl
      rw [e2]
      exact ih _
    · rw [if_neg hk, if_neg hk]
      exact ih _
theorem closure_ok {scope : Scope} {env : Env} (h : ∀ y ∈ scope.names, y.2 = .free → ∃ c, env.cells.lookup y.1 = some c) : closureFor scope env = pure (cloFrom env.cells scope.names []) := by
  simp only [closureFor]
  rw [closure_loop env _ (fun n k c => rfl) scope.names [] h]
  rfl
theorem mem_lookup {α : Type} : ∀ {l : List (Str × α)} {n : Str} {c : α}, (n, c) ∈ l → ∃ c', l.lookup n = some c'
  | (k, v) :: r, n, c, h => by
    rw [List.lookup_cons]
    cases hb : n == k with
    | true => exact ⟨_, rfl⟩
    | false =>
      rcases List.mem_cons.mp h with e | h
      · cases e; simp at hb
      · exact mem_lookup h
theorem cloFrom_mem {cells : List (Str × Addr)} : ∀ {names : List (Str × NameKind)} {acc : List (Str × Addr)} {n : Str} {c : Addr}, (n, c) ∈ cloFrom cells names acc → (n, c) ∈ acc ∨ ((n, .free) ∈ names ∧ c = (cells.lookup n).getD 0)
  | [], _, _, _, h => .inl h
  | (m, k) :: r, acc, n, c, h => by
    unfold cloFrom at h
    split at h
    · rename_i hk
      have hk : k = .free := by simpa using hk
      rcases cloFrom_mem h with h | ⟨h1, h2⟩
      · rcases List.mem_cons.mp h with e | h
        · cases e; exact .inr ⟨hk ▸ List.mem_cons_self, rfl⟩
        · exact .inl h
      · exact .inr ⟨List.mem_cons_of_mem _ h1, h2⟩
    · rcases cloFrom_mem h with h | ⟨h1, h2⟩
      · exact .inl h
      · exact .inr ⟨List.mem_cons_of_mem _ h1, h2⟩
theorem cloFrom_acc {cells : List (Str × Addr)} : ∀ {names : List (Str × NameKind)} {acc : List (Str × Addr)} {p : Str × Addr}, p ∈ acc → p ∈ cloFrom cells names acc
  | [], _, _, h => h
  | (m, k) :: r, acc, p, h => by
    unfold cloFrom
    split
    · exact cloFrom_acc (List.mem_cons_of_mem _ h)
    · exact cloFrom_acc h
theorem cloFrom_has {cells : List (Str × Addr)} : ∀ {names : List (Str × NameKind)} {acc : List (Str × Addr)} {n : Str}, (n, .free) ∈ names → (n, (cells.lookup n).getD 0) ∈ cloFrom cells names acc
  | (m, k) :: r, acc, n, h => by
    unfold cloFrom
    rcases List.mem_cons.mp h with e | h
    · cases e
      exact cloFrom_acc List.mem_cons_self
    · split
      · exact cloFrom_has h
      · exact cloFrom_has h
theorem cells_mem : ∀ {names : List (Str × NameKind)} {h : Heap} {acc : List (Str × Addr)} {x : Str} {c : Addr}, (x, c) ∈ cellsFrom h.objs.size names acc →
    (x, c) ∈ acc ∨ ((x, .cell) ∈ names ∧ h.objs.size ≤ c ∧ CellAt (pushCells h names) c none)
  | [], _, _, _, _, h => .inl h
  | (n, k) :: r, h, acc, x, c, hm => by
    unfold cellsFrom at hm
    unfold pushCells
    split at hm
    · rename_i hk
      rw [if_pos hk]
      have hk : k = .cell := by simpa using hk
      rw [← Heap.size_push h { cls := .type "cell", data := .cell none }] at hm
      rcases cells_mem hm with hm | ⟨h1, h2, h3⟩
      · rcases List.mem_cons.mp hm with e | hm
        · cases e
          exact .inr ⟨hk ▸ List.mem_cons_self, Nat.le_refl _, _, pushCells_keeps r _ _ _ (Heap.get?_push_size _ rfl), rfl⟩
        · exact .inl hm
      · rw [Heap.size_push] at h2
        exact .inr ⟨List.mem_cons_of_mem _ h1, Nat.le_of_succ_le h2, h3⟩
    · rename_i hk
      rw [if_neg hk]
      rcases cells_mem hm with hm | ⟨h1, h2, h3⟩
      · exact .inl hm
      · exact .inr ⟨List.mem_cons_of_mem _ h1, h2, h3⟩
theorem cells_acc : ∀ {names : List (Str × NameKind)} {n : Nat} {acc : List (Str × Addr)} {p : Str × Addr}, p ∈ acc → p ∈ cellsFrom n names acc
  | [], _, _, _, h => h
  | (m, k) :: r, n, acc, p, h => by
    unfold cellsFrom
    split
    · exact cells_acc (List.mem_cons_of_mem _ h)
    · exact cells_acc h
theorem cells_has : ∀ {names : List (Str × NameKind)} {n : Nat} {acc : List (Str × Addr)} {x : Str}, (x, .cell) ∈ names → ∃ c, (x, c) ∈ cellsFrom n names acc
  | (m, k) :: r, n, acc, x, h => by
    unfold cellsFrom
    rcases List.mem_cons.mp h with e | h
    · cases e
      exact ⟨n, cells_acc List.mem_cons_self⟩
    · split
      · exact cells_has h
      · exact cells_has h
theorem cells_inj : ∀ {names : List (Str × NameKind)} {h : Heap} {acc : List (Str × Addr)} {x y : Str} {c : Addr}, (∀ p ∈ acc, p.2 < h.objs.size) → (∀ x y c, (x, c) ∈ acc → (y, c) ∈ acc → x = y) →
    (x, c) ∈ cellsFrom h.objs.size names acc → (y, c) ∈ cellsFrom h.objs.size names acc → x = y
  | [], _, _, _, _, _, _, hi, h1, h2 => hi _ _ _ h1 h2
  | (n, k) :: r, h, acc, x, y, c, hl, hi, h1, h2 => by
    unfold cellsFrom at h1 h2
    split at h1
    · rename_i hk
      rw [if_pos hk] at h2
      rw [← Heap.size_push h { cls := .type "cell", data := .cell none }] at h1 h2
      refine cells_inj (h := h.push _) (fun p hp => ?_) (fun x y c a b => ?_) h1 h2
      · rw [Heap.size_push]
        rcases List.mem_cons.mp hp with rfl | hp
        · exact Nat.lt_succ_self _
        · exact Nat.lt_succ_of_lt (hl p hp)
      · rcases List.mem_cons.mp a with e | a <;> rcases List.mem_cons.mp b with e' | b
        · cases e; cases e'; rfl
        · cases e; exact absurd (hl _ b) (Nat.lt_irrefl _)
        · cases e'; exact absurd (hl _ a) (Nat.lt_irrefl _)
        · exact hi _ _ _ a b
    · rename_i hk
      rw [if_neg hk] at h2
      exact cells_inj hl hi h1 h2
theorem newEnv_comp {M : Model} {A : Around} {E : Value → Shared → Prop} {s : Shared} {scope : Scope} {globals : Addr} {closure : List (Str × Addr)} {qual : Str} {func : Option Addr} {code : Value} {around : Env} {builtins : Addr} {Q : Env → Shared → Prop}
    (h : Q (newEnv scope s.heap.objs.size globals (cellsFrom (s.heap.objs.size + 1) scope.names closure) qual func code (some around) builtins)
      { s with heap := pushCells (s.heap.push { cls := .type "dict", data := .dict #[] }) scope.names }) :
    wpAny M A (newFunctionEnv scope globals closure [] qual func code (some around) builtins) Q E s := by
  simp only [newFunctionEnv, Option.isSome_some, if_true]
  refine wpAny_bind (wpAny_alloc ?_)
  refine wpAny_bind (wpAny_layCells _ (fun n k c => rfl) scope.names closure _ _ ?_)
  rw [show ({ s with heap := s.heap.push { cls := .type "dict", data := .dict #[] } } : Shared).heap.objs.size = s.heap.objs.size + 1 from Heap.size_push ..]
  rw [List.forIn_nil]
  exact wpAny_bind (wpAny_pure (wpAny_pure h))
theorem lookup_relS {sc : Scope} : ∀ {names : List (Str × NameKind)} {x : Str} {k : NameKind},
    (names.map fun (n, k) => if (k == NameKind.free && sc.kind == .function && sc.names.lookup n == some .cell) then (n, NameKind.cell) else (n, k)).lookup x = some k →
    ∃ k', names.lookup x = some k' ∧ (k = k' ∨ (k' = .free ∧ k = .cell))
  | [], _, _, h => by simp at h
  | (n, k₀) :: r, x, k, h => by
    have ih := @lookup_relS sc r x k
    have h' : List.lookup x ((if (k₀ == NameKind.free && sc.kind == .function && sc.names.lookup n == some .cell) = true then (n, NameKind.cell) else (n, k₀)) :: (r.map _)) = some k := h
    cases hx : x == n with
    | true =>
      simp only [List.lookup_cons, hx]
      by_cases hc : (k₀ == NameKind.free && sc.kind == .function && sc.names.lookup n == some .cell) = true
      · rw [if_pos hc] at h'
        simp only [List.lookup_cons, hx] at h'
        cases h'
        simp only [Bool.and_eq_true, beq_iff_eq] at hc
        exact ⟨k₀, rfl, .inr ⟨hc.1.1, rfl⟩⟩
      · rw [if_neg hc] at h'
        simp only [List.lookup_cons, hx] at h'
        cases h'
        exact ⟨_, rfl, .inl rfl⟩
    | false =>
      simp only [List.lookup_cons, hx]
      by_cases hc : (k₀ == NameKind.free && sc.kind == .function && sc.names.lookup n == some .cell) = true
      · rw [if_pos hc] at h'
        simp only [List.lookup_cons, hx] at h'
        exact ih h'
      · rw [if_neg hc] at h'
        simp only [List.lookup_cons, hx] at h'
        exact ih h'
structure BlkOk (N : List Str) (sc scope : Scope) (own : List (Str × Nat)) : Prop where
  kind : scope.kind = .function
  uniq : ∀ y ∈ scope.names, scope.names.lookup y.1 = some y.2
  ix : ∀ p ∈ own, N[p.2]? = some p.1
  free : ∀ y ∈ scope.names, y.2 = .free → sc.names.lookup y.1 = some .cell ∨ sc.names.lookup y.1 = some .free
  own : ∀ y ∈ scope.names, y.2 = .local ∨ y.2 = .cell → y.1 ∈ own.map (·.1) ∨ y.1 ∉ N
def wipe (σ : St) : List Nat → St
  | [] => σ
  | v :: vs => (wipe σ vs).set v none
theorem wipe_length (σ : St) : ∀ vs : List Nat, (wipe σ vs).length = σ.length
  | [] => rfl
  | v :: vs => by unfold wipe; rw [List.length_set, wipe_length σ vs]
theorem wipe_some {σ : St} {i : Nat} {x : V} : ∀ {vs : List Nat}, (wipe σ vs)[i]? = some (some x) → σ[i]? = some (some x) ∧ i ∉ vs
  | [], h => ⟨h, by simp⟩
  | v :: vs, h => by
    unfold wipe at h
    by_cases hi : v = i
    · subst hi
      by_cases hv : v < (wipe σ vs).length
      · rw [List.getElem?_set_self hv] at h; cases h
      · rw [List.getElem?_eq_none (by simpa using hv)] at h; cases h
    · rw [List.getElem?_set_ne hi] at h
      obtain ⟨h1, h2⟩ := wipe_some h
      exact ⟨h1, by simp only [List.mem_cons, not_or]; exact ⟨fun e => hi e.symm, h2⟩⟩
abbrev Cx.blk (X : Cx) (s : Shared) (H : Hp) (scope : Scope) (cenv : Env) (fp : List Addr) : Cx := { X with s_0 := s, H_0 := H, env := cenv, outer := X.stack, ex := fp, fn := fun x => scope.names.lookup x == some .cell, pn := [], xe := fun _ _ => False }
section
variable {X : Cx} {pins : List (Addr × Obj)} {σ : St} {H : Hp} {s : Shared}
theorem block_start {scope : Scope} {own : List (Str × Nat)} {fp : List Addr} (I : Inv X pins σ H s) (ok : BlkOk X.N X.env.scope scope own) (hN : X.N.Nodup) (hfp : ∀ b ∈ fp, FpOk X pins H b ∧ b < s.heap.objs.size) :
    Inv (X.blk s H scope (compEnvC scope (cellsFrom (s.heap.objs.size + 1) scope.names (cloFrom X.env.cells scope.names [])) s.heap.objs.size X.env) fp) [] (wipe σ (own.map (·.2))) H { s with heap := pushCells (s.heap.push { cls := .type "dict", data := .dict #[] }) scope.names } := by
  have hfree : ∀ y ∈ scope.names, y.2 = .free → ∃ c, X.env.cells.lookup y.1 = some c := fun y hy e => by
    rcases ok.free y hy e with k | k
    · exact I.ok.has _ (.inl k)
    · exact I.ok.has _ (.inr k)
  generalize hcenv : compEnvC scope (cellsFrom (s.heap.objs.size + 1) scope.names (cloFrom X.env.cells scope.names [])) s.heap.objs.size X.env = cenv
  have kp : ∀ b o, s.heap.get? b = some o → (pushCells (s.heap.push { cls := .type "dict", data := .dict #[] }) scope.names).get? b = some o := fun b o e => pushCells_keeps _ _ _ _ (Heap.get?_push_of_some _ e)
  have hL : cenv.locals = s.heap.objs.size := by rw [← hcenv]; rfl
  have hcl : cenv.cells = cellsFrom (s.heap.objs.size + 1) scope.names (cloFrom X.env.cells scope.names []) := by rw [← hcenv]; rfl
  have hsc : cenv.scope = relS scope X.env.scope := by rw [← hcenv]; rfl
  rw [← Heap.size_push s.heap { cls := .type "dict", data := .dict #[] }] at hcl
  have cm : ∀ {y c}, (y, c) ∈ cloFrom X.env.cells scope.names [] → X.env.cells.lookup y = some c ∧ c < s.heap.objs.size := fun {y c} hm => by
    rcases cloFrom_mem hm with hm | ⟨h1, rfl⟩
    · cases hm
    · obtain ⟨c, hc⟩ := hfree _ h1 rfl
      rw [hc]
      obtain ⟨w, z⟩ := I.cell _ _ hc
      exact ⟨rfl, z.lt⟩
  have mem : ∀ {y c}, cenv.cells.lookup y = some c → (X.env.cells.lookup y = some c ∧ c < s.heap.objs.size) ∨ (s.heap.objs.size + 1 ≤ c ∧ CellAt (pushCells (s.heap.push { cls := .type "dict", data := .dict #[] }) scope.names) c none) := fun {y c} e => by
    rw [hcl] at e
    rcases cells_mem (PySem.mem_of_lookup e) with hm | ⟨_, h2, h3⟩
    · exact .inl (cm hm)
    · rw [Heap.size_push] at h2; exact .inr ⟨h2, h3⟩
  have look : ∀ {y}, scope.names.lookup y = some .free → ∃ c, cenv.cells.lookup y = some c ∧ X.env.cells.lookup y = some c := fun {y} hl => by
    have hy : (y, NameKind.free) ∈ scope.names := PySem.mem_of_lookup hl
    obtain ⟨c', e'⟩ := mem_lookup (cells_acc (names := scope.names) (n := (s.heap.push { cls := .type "dict", data := .dict #[] }).objs.size) (cloFrom_has (cells := X.env.cells) (acc := []) hy))
    rw [← hcl] at e'
    refine ⟨c', e', ?_⟩
    rw [hcl] at e'
    rcases cells_mem (PySem.mem_of_lookup e') with hm | ⟨h1, _, _⟩
    · exact (cm hm).1
    · have := ok.uniq _ h1
      rw [hl] at this; cases this
  have okB : (X.blk s H scope cenv fp).Ok := by
    refine ⟨I.ok.mod, by show cenv.scope.kind = _; rw [hsc]; exact ok.kind, by show cenv.globals = _; rw [← hcenv]; exact I.ok.glob, by show cenv.builtins = _; rw [← hcenv]; exact I.ok.blt, by show s.heap.objs.size ≤ cenv.locals; rw [hL]; exact Nat.le_refl _,
      fun y z c e1 e2 => ?_, fun y hy => ?_, fun y c z e => ?_, I.ok.hd, I.ok.frames, .inl rfl, fun b hb => ⟨?_, fun y c e z => ?_⟩, I.bs, Nat.le_trans I.ok.bsz I.sz, fun b o e hb => ?_, fun b hb z => ?_, I.stack, I.stkFree⟩
    · have e1 : cenv.cells.lookup y = some c := e1
      have e2 : cenv.cells.lookup z = some c := e2
      rw [hcl] at e1 e2
      refine cells_inj (fun p hp => ?_) (fun y z c a b => I.ok.inj y z c (cm a).1 (cm b).1) (PySem.mem_of_lookup e1) (PySem.mem_of_lookup e2)
      rw [Heap.size_push]
      exact Nat.lt_succ_of_lt (cm (y := p.1) (c := p.2) hp).2
    · show ∃ c, cenv.cells.lookup y = some c
      have key : ∀ k, cenv.kindOf y = some k → (k = .cell ∨ k = .free) → ∃ c, cenv.cells.lookup y = some c := fun k hk hk' => by
        unfold Env.kindOf at hk
        rw [hsc] at hk
        obtain ⟨k', e, r⟩ := lookup_relS hk
        have : k' = .cell ∨ k' = .free := by
          rcases r with rfl | ⟨rfl, _⟩
          · exact hk'
          · exact .inr rfl
        rcases this with rfl | rfl
        · obtain ⟨c, hm⟩ := cells_has (n := (s.heap.push { cls := .type "dict", data := .dict #[] }).objs.size) (acc := cloFrom X.env.cells scope.names []) (PySem.mem_of_lookup e)
          obtain ⟨c', e'⟩ := mem_lookup hm
          exact ⟨c', by rw [hcl]; exact e'⟩
        · obtain ⟨c, h1, _⟩ := look e
          exact ⟨c, h1⟩
      rcases hy with hy | hy
      · exact key _ hy (.inl rfl)
      · exact key _ hy (.inr rfl)
    · have z : (scope.names.lookup y == some NameKind.cell) = true := z
      have z : scope.names.lookup y = some .cell := by simpa using z
      have e : cenv.cells.lookup y = some c := e
      rw [hcl] at e
      rcases cells_mem (PySem.mem_of_lookup e) with hm | ⟨_, h2, _⟩
      · rcases cloFrom_mem hm with hm | ⟨h1, _⟩
        · cases hm
        · have q := ok.uniq _ h1
          rw [z] at q; cases q
      · rw [Heap.size_push] at h2
        exact Nat.le_of_succ_le h2
    · show b ≠ cenv.locals
      rw [hL]; exact Nat.ne_of_lt (hfp b hb).2
    · have e : cenv.cells.lookup y = some c := e
      rcases mem e with ⟨h1, _⟩ | ⟨h1, _⟩
      · exact (hfp b hb).1.2.2.2.2.1 y c h1 z
      · have h2 : s.heap.objs.size + 1 ≤ b := by rw [← z]; exact h1
        exact absurd (Nat.lt_of_lt_of_le (hfp b hb).2 (Nat.le_of_succ_le h2)) (Nat.lt_irrefl _)
    · rcases (hfp b hb).1.2.2.2.1 with z | z
      · exact I.ok.noex b o e z
      · exact absurd (Nat.lt_of_lt_of_le (Heap.lt_size e) (Nat.le_trans I.ok.bsz z)) (Nat.lt_irrefl _)
    · rcases List.mem_cons.mp (I.stkSub b z) with z | z
      · exact (hfp b hb).1.2.1 z
      · exact (hfp b hb).1.2.2.1 z
  refine ⟨okB, rfl, I.bare, Un.kept kp, ⟨fun _ => none, ?_, fun i y av e1 e2 e3 => ?_⟩, fun y c e => ?_, ?_, fun y c e => ?_, fun p hp => ?_, I.hok.kept kp, by rw [wipe_length]; exact I.len⟩
  · show Heap.Ns _ cenv.locals _
    rw [hL]
    exact Heap.Ns.keeps (Heap.Ns.new ..) fun b o e => pushCells_keeps _ _ _ _ e
  · obtain ⟨e2, hne⟩ := wipe_some e2
    have hfr : scope.names.lookup y = some .free ∧ (cenv.kindOf y = some .cell ∨ cenv.kindOf y = some .free) := by
      have key : ∀ k, cenv.scope.names.lookup y = some k → k = .local ∨ k = .cell ∨ k = .free → scope.names.lookup y = some .free ∧ (cenv.kindOf y = some .cell ∨ cenv.kindOf y = some .free) := fun k hk hk' => by
        have hk0 := hk
        rw [hsc] at hk
        obtain ⟨k', e, r⟩ := lookup_relS hk
        have no : ¬ (k' = .local ∨ k' = .cell) := fun hh => by
          rcases ok.own _ (PySem.mem_of_lookup e) hh with e' | e'
          · obtain ⟨p, hp, hpy⟩ := List.mem_map.mp e'
            have e3 := ok.ix p hp
            have : p.1 = y := hpy
            rw [this] at e3
            exact hne (List.mem_map.mpr ⟨p, hp, nodup_ix hN e3 e1⟩)
          · exact e' (List.mem_of_getElem? e1)
        rcases r with rfl | ⟨rfl, rfl⟩
        · rcases hk' with rfl | rfl | rfl
          · exact absurd (.inl rfl) no
          · exact absurd (.inr rfl) no
          · exact ⟨e, .inr hk0⟩
        · exact ⟨e, .inl hk0⟩
      have e3 : Vis cenv.scope y := e3
      rcases e3 with e3 | e3 | e3
      · exact key _ e3 (.inl rfl)
      · exact key _ e3 (.inr (.inl rfl))
      · exact key _ e3 (.inr (.inr rfl))
    obtain ⟨m, hn, hl⟩ := I.loc
    have hvis : Vis X.env.scope y := (ok.free _ (PySem.mem_of_lookup hfr.1) rfl).elim (fun k => .inr (.inl k)) (fun k => .inr (.inr k))
    obtain ⟨w, r, q⟩ := hl i y av e1 e2 hvis
    refine ⟨w, r, .inr ⟨hfr.2, ?_⟩⟩
    obtain ⟨c, h1, h2⟩ := look hfr.1
    rcases q with ⟨k, _⟩ | ⟨_, c', e', z⟩
    · have k : X.env.scope.names.lookup y = some .local := k
      rcases ok.free _ (PySem.mem_of_lookup hfr.1) rfl with k' | k' <;> rw [show X.env.scope.names.lookup y = _ from k'] at k <;> cases k
    · rw [h2] at e'; cases e'
      exact ⟨c, h1, z.keeps kp⟩
  · have e : cenv.cells.lookup y = some c := e
    rcases mem e with ⟨h1, _⟩ | ⟨_, z⟩
    · obtain ⟨w, z⟩ := I.cell y c h1
      exact ⟨w, z.keeps kp⟩
    · exact ⟨_, z⟩
  · show H cenv.locals = none
    rw [hL]; exact I.hok.fresh (Nat.le_refl _)
  · have e : cenv.cells.lookup y = some c := e
    rcases mem e with ⟨h1, _⟩ | ⟨h1, _⟩
    · exact I.freeC y c h1
    · exact I.hok.fresh (Nat.le_of_succ_le h1)
  · exact absurd (show p ∈ ([] : List (Addr × Obj)) ++ [] from hp) (by simp)
theorem app_ok {E : Value → Shared → Prop} {D : Addr} {xs : List V} {y : V} {v : Value} {Q : Value → Shared → Prop} (I : Inv X pins σ H s) (hD : H D = some (.lst xs)) (hz : xs.length < sizeLine) (r : RelV y v)
    (h : ∀ s', Inv X pins σ (upd H D (.lst (xs ++ [y]))) s' → Q .none s') : wpAny (model X.prog X.w) X.A (call (.builtin "list.append") [.ref D, v]) Q E s := by
  obtain ⟨hz', its, n, ri, e⟩ := I.hok D _ hD
  have hl := ri.length
  refine append_at (hsz := by rw [List.size_toArray]; omega) e fun h' sb ho' => ?_
  refine h { s with heap := h' } (I.write (t' := s.toks) (by rw [hD]; trivial) (.inl rfl) (fun b u hb q => (sb.2 b hb).trans q) ⟨_, ho'⟩ ⟨by rw [List.length_append]; exact hz, its ++ [v], n + 1, ri.append (.cons r .nil), ?_⟩)
  rw [ho']
  simp
def PTs (X : Cx) (ifs : List Expr) (t : TT) : Prop :=
  ∀ (pins : List (Addr × Obj)) (s : Shared) (σ : St) (H : Hp) (Q : Bool → Hp → Prop), Inv X pins σ H s → t σ H Q →
    wpAny (model X.prog X.w) X.A (forIn ifs true fun c r => if r = true then do let ok ← isTrue c X.env (eval c X.env); pure (ForInStep.yield ok) else pure (ForInStep.yield r)) (TP X pins σ Q) X.xe s
def tYes : TT := fun _ H Q => Q true H
theorem pts_nil : PTs X [] tYes := fun _ _ _ H _ I h => wpAny_tests_nil ⟨H, I, h⟩
theorem pts_one {c : Expr} {t : TT} (h : PT X c t) : PTs X [c] t := fun pins s σ H Q I hw => wpAny_tests_one (h pins s σ H Q I hw)
end
theorem thnF {α : Type} {t : Sem α} {Q Q' : α → Shared → Prop} {M : Model} {A : Around} {E : Value → Shared → Prop} {s : Shared} (h : wpAny M A t Q (fun _ _ => False) s) (hQ : ∀ a s, Q a s → Q' a s) : wpAny M A t Q' E s := wpAny_mono h hQ fun _ _ z => False.elim z
theorem compLoop_any {prog : Program} {w : World} {A : Around} {R : Result → Shared → Prop} {s : Shared} {elt target iter : Expr} {ifs : List Expr} {scope : Scope} {pos : Pos} {it acc : Value} {env : Env} (I : Nat → Shared → Prop)
    (turn : ∀ n s, I n s → wpAny (model prog w) A (pyNext it) (fun r s₁ => match r with
      | none => R (.ok .next) s₁
      | some v => wpAny (model prog w) A (letOwnedTupleGo target it v) (fun _ s₁' => wpAny (model prog w) A (assign target env v) (fun _ s₂ =>
          wpAny (model prog w) A (forIn ifs true fun c r => if r = true then do let ok ← isTrue c env (eval c env); pure (ForInStep.yield ok) else pure (ForInStep.yield r)) (fun ok s₃ =>
            if ok = true then wpAny (model prog w) A (eval elt env) (fun x s₄ =>
              wpAny (model prog w) A (call (.builtin "list.append") [acc, x]) (fun _ s₅ => ∃ m, m < n ∧ I m s₅) (notedBy (model prog w) A env fun e s' => R (.error e) s') s₄) (notedBy (model prog w) A env fun e s' => R (.error e) s') s₃
            else ∃ m, m < n ∧ I m s₃) (notedBy (model prog w) A env fun e s' => R (.error e) s') s₂) (notedBy (model prog w) A env fun e s' => R (.error e) s') s₁') (notedBy (model prog w) A env fun e s' => R (.error e) s') s₁) (notedBy (model prog w) A env fun e s' => R (.error e) s') s)
    (n : Nat) (h : I n s) :
    codeAny (model prog w) A (.compLoop (.ListComp elt [⟨target, iter, ifs, 0⟩] scope pos) 0 it acc env) R s := by
  refine codeAny_loop rfl I (fun n s hI => ?_) n h
  show wpAny _ A ((compTurn (.ListComp elt [⟨target, iter, ifs, 0⟩] scope pos) 0 it acc env).onRaise (fun x => do noteFrame x env; theTreesLotGoes x)) _ _ s
  refine wpAny_noted ?_
  rw [compTurn_list]
  refine wpAny_bind (wpAny_standAt (wpAny_bind (wpAny_mono (turn n s hI) (fun r s₁ h₁ => ?_) fun _ _ h' => h')))
  cases r with
  | none => exact wpAny_pure h₁
  | some v =>
    refine wpAny_bind (wpAny_mono h₁ (fun _ s₁' h₁' => ?_) fun _ _ h' => h')
    refine wpAny_bind (wpAny_mono h₁' (fun _ s₂ h₂ => wpAny_bind (wpAny_mono h₂ (fun ok s₃ h₃ => ?_) fun _ _ h' => h')) fun _ _ h' => h')
    cases ok with
    | false => exact wpAny_pure ⟨rfl, h₃⟩
    | true =>
      exact wpAny_bind (wpAny_bind (wpAny_mono h₃ (fun x s₄ h₄ => wpAny_bind (wpAny_mono h₄ (fun _ s₅ h₅ => wpAny_pure (wpAny_pure ⟨rfl, h₅⟩)) fun _ _ h' => h')) fun _ _ h' => h'))
section
variable {X : Cx}
def tLc (wi : TI) (g : TG) (tt : TT) (te : TE) (vs : List Nat) : TE := fun σ H Q => wi σ H fun J H1 => ∀ D, H1 D = none → ∃ W : Nat → Nat → Hp → Prop, (∃ m, W 0 m (upd H1 D (.lst []))) ∧ ∀ i m H, W i m H →
  (J.stop i H ∧ Q (.ref D) H) ∨ (J.go i H ∧ ∃ Nx : Hp → Prop, (∀ H', Nx H' → ∃ m', m' < m ∧ W (i + 1) m' H') ∧ ∀ x H', J.yld i H x H' → g x (wipe σ vs) H' fun σ2 H2 => wipe σ2 vs = wipe σ vs ∧ tt σ2 H2 fun b H3 =>
    if b = true then te σ2 H3 fun y H4 => ∃ acc, H4 D = some (.lst acc) ∧ acc.length < sizeLine ∧ Nx (upd H4 D (.lst (acc ++ [y]))) else Nx H3)
theorem lc_core {pins : List (Addr × Obj)} {s : Shared} {σ : St} {H : Hp} {Q : VK} {elt tg iter : Expr} {ifs : List Expr} {scope : Scope} {own : List (Str × Nat)} {pos pos' : Pos} {wi : TI} {g : TG} {tt : TT} {te : TE} {use : Option (Value → Sem Unit)} {Qf : Value → Shared → Prop}
    (hc : X.calm = true) (hN : X.N.Nodup) (I : Inv X pins σ H s) (hi : PI X tg iter wi) (ok : BlkOk X.N X.env.scope scope own)
    (hg : ∀ (s : Shared) (H : Hp) (C : Addr) (cl : List (Str × Addr)) (fp : List Addr), PG (X.blk s H scope (compEnvC scope cl C X.env) fp) tg g) (ht : ∀ (s : Shared) (H : Hp) (C : Addr) (cl : List (Str × Addr)) (fp : List Addr), PTs (X.blk s H scope (compEnvC scope cl C X.env) fp) ifs tt)
    (he : ∀ (s : Shared) (H : Hp) (C : Addr) (cl : List (Str × Addr)) (fp : List Addr), PE (X.blk s H scope (compEnvC scope cl C X.env) fp) elt te) (hs : ∀ x, foldedSetIterable iter X.env x = pure x)
    (h : tLc wi g tt te (own.map (·.2)) σ H Q)
    (hRR : ∀ D C s' m H', Inv X pins σ H' s' → Q (.ref D) H' → s'.heap.Ns C m → FpOk X pins H' C → compPost (model X.prog X.w) X.A X.xe use Qf (.ref D) C (.ok .next) s') :
    wpAny (model X.prog X.w) X.A (comprehension (.ListComp elt [⟨tg, iter, ifs, 0⟩] scope pos) scope X.env pos' (newList []) false (eval iter X.env) use) Qf X.xe s := by
  have hfree : ∀ y ∈ scope.names, y.2 = .free → ∃ c, X.env.cells.lookup y.1 = some c := fun y hy e => by
    rcases ok.free y hy e with k | k
    · exact I.ok.has _ (.inl k)
    · exact I.ok.has _ (.inr k)
  refine wpAny_comprehension_free (use := use) rfl hs (closure_ok hfree) ok.kind (fun y hy e => by rw [ok.uniq y hy, e])
    (thn (hi pins s σ H _ I h) fun xv s1 hx => thn hx fun itv s2 h2 => ?_)
  obtain ⟨it, fp, tn, J, H2, e, I2, T, st2, f2, q⟩ := h2
  subst e
  refine wpAny_newObj_type (newEnv_comp ?_) (by show 0 ≤ sizeLine; decide)
  generalize hD : s2.heap.objs.size = D
  have hDn : H2 D = none := I2.hok.fresh (Nat.le_of_eq hD)
  obtain ⟨W, ⟨m0, w0⟩, turn⟩ := q D hDn
  generalize hs3 : ({ s2 with heap := s2.heap.push { cls := .type "list", data := .seq ([] : List Value).toArray } } : Shared) = s3
  have I3 : Inv X pins σ (upd H2 D (.lst [])) s3 := by
    rw [← hs3]
    refine I2.laid (t' := s2.toks) (fun b o e => Heap.get?_push_of_some _ e) (Nat.le_of_eq hD) ⟨Nat.zero_le _, [], 0, .nil, ?_⟩
    rw [← hD]
    exact Heap.get?_push_size _ rfl
  have h3 : s3.heap = s2.heap.push { cls := .type "list", data := .seq ([] : List Value).toArray } := by rw [← hs3]
  have sz : ∀ b ∈ fp, b < s2.heap.objs.size := fun b hb => by
    obtain ⟨o, e, _⟩ := T.obj _ _ st2 b hb
    exact Heap.lt_size e
  have f3 : ∀ b ∈ fp, FpOk X pins (upd H2 D (.lst [])) b ∧ b < s3.heap.objs.size := fun b hb => by
    have hlt := sz b hb
    refine ⟨⟨?_, (f2 b hb).2⟩, by rw [h3, Heap.size_push]; exact Nat.lt_succ_of_lt hlt⟩
    rw [upd_ne (by rw [← hD]; exact Nat.ne_of_lt hlt)]
    exact (f2 b hb).1
  have st3 : tn 0 s3.heap := T.keep _ _ _ st2 fun b _ o e => by rw [h3]; exact Heap.get?_push_of_some _ e
  have I4 := block_start I3 ok hN f3
  have pg := hg s3 (upd H2 D (.lst [])) s3.heap.objs.size (cellsFrom (s3.heap.objs.size + 1) scope.names (cloFrom X.env.cells scope.names [])) fp
  have pt := ht s3 (upd H2 D (.lst [])) s3.heap.objs.size (cellsFrom (s3.heap.objs.size + 1) scope.names (cloFrom X.env.cells scope.names [])) fp
  have pe := he s3 (upd H2 D (.lst [])) s3.heap.objs.size (cellsFrom (s3.heap.objs.size + 1) scope.names (cloFrom X.env.cells scope.names [])) fp
  show codeAny _ _ (.compStart (.ListComp elt [⟨tg, iter, ifs, 0⟩] scope pos) 0 (.ref it) (.ref D) (compEnvC scope (cellsFrom (s3.heap.objs.size + 1) scope.names (cloFrom X.env.cells scope.names [])) s3.heap.objs.size X.env)) (compPost (model X.prog X.w) X.A X.xe use Qf (.ref D) s3.heap.objs.size) { s3 with heap := pushCells (s3.heap.push { cls := .type "dict", data := .dict #[] }) scope.names }
  have nfp : ∀ b ∈ fp, (upd H2 D (.lst [])) b = none := fun b hb => (f3 b hb).1.1
  generalize hce : compEnvC scope (cellsFrom (s3.heap.objs.size + 1) scope.names (cloFrom X.env.cells scope.names [])) s3.heap.objs.size X.env = ce at I4 pg pt pe ⊢
  have cL : ce.locals = s3.heap.objs.size := by subst hce; rfl
  generalize hH3 : upd H2 D (.lst []) = H3 at I3 I4 pg pt pe w0 nfp f3
  generalize hs4 : ({ s3 with heap := pushCells (s3.heap.push { cls := .type "dict", data := .dict #[] }) scope.names } : Shared) = s4 at I4 ⊢
  have st4 : tn 0 s4.heap := T.keep _ _ _ st3 fun b _ o e => by rw [← hs4]; exact pushCells_keeps _ _ _ _ (Heap.get?_push_of_some _ e)
  have stat : ∀ {σ' : St} {H' : Hp} {s' : Shared}, Inv (X.blk s3 H3 scope ce fp) [] σ' H' s' → (∀ b ∈ fp, H' b = none) → ∀ b ∈ fp, FpOk (X.blk s3 H3 scope ce fp) [] H' b := fun {σ' H' s'} I' hn b hb =>
    ⟨hn b hb, (I'.ok.exf b hb).1, I'.ok.exfs b hb, .inl hb, fun x c e => (I'.ok.exf b hb).2 x c e, fun p hp => absurd (show p ∈ ([] : List (Addr × Obj)) ++ [] from hp) (by simp)⟩
  have loop : codeAny (model X.prog X.w) X.A (.compLoop (.ListComp elt [⟨tg, iter, ifs, 0⟩] scope pos) 0 (.ref it) (.ref D) ce) (compPost (model X.prog X.w) X.A X.xe use Qf (.ref D) s3.heap.objs.size) s4 := by
    refine compLoop_any (fun n s' => ∃ i H', Inv (X.blk s3 H3 scope ce fp) [] (wipe σ (own.map (·.2))) H' s' ∧ tn i s'.heap ∧ (∀ b ∈ fp, H' b = none) ∧ W i n H') ?_ m0 ⟨0, H3, I4, st4, nfp, w0⟩
    rintro n s5 ⟨i, H5, I5, st5, n5, w5⟩
    rcases turn i n H5 w5 with ⟨stop, qq⟩ | ⟨go, Nx, hNx, step⟩
    · have td := T.done (X.blk s3 H3 scope ce fp) rfl rfl rfl hc i [] s5 _ H5 (fun _ _ => False) I5 (stat I5 n5) st5 stop
      refine thnF td fun r s6 ⟨hr, I6⟩ => ?_
      subst hr
      have I7 : Inv X pins σ H5 s6 := I3.call' (ch := fp) I6.os I6.base I6.hok I6.bare fun b hb => ⟨(f3 b hb).1.2.2.2.1, (f3 b hb).1.2.1, (f3 b hb).1.2.2.2.2.1, (f3 b hb).1.2.2.2.2.2⟩
      have nC : H5 s3.heap.objs.size = none := by
        have z : H5 ce.locals = none := I6.free
        rw [cL] at z
        exact z
      obtain ⟨m, hn, _⟩ := I6.loc
      have hn : s6.heap.Ns ce.locals m := hn
      rw [cL] at hn
      exact hRR D s3.heap.objs.size s6 m H5 I7 qq hn (I3.fpOk (Nat.le_refl _) nC)
    · have ti := T.item (X.blk s3 H3 scope ce fp) rfl rfl rfl hc i [] s5 _ H5 (fun _ _ => False) I5 (stat I5 n5) st5 go
      refine thnF ti fun r s6 ⟨u, hr, h6⟩ => ?_
      subst hr
      refine thnF h6 fun _ s7 ⟨x, H7, I7, r7, y7, st7, n7⟩ => ?_
      have I7' := I7.pinned (stat I7 n7) (T.obj _ _ st7)
      refine thnF (pg _ s7 _ H7 x u _ I7' r7 (step x H7 y7)) fun _ s8 ⟨σ8, H8, I8, hw8, q8⟩ => ?_
      refine thnF (pt _ s8 σ8 H8 _ I8 q8) fun b s9 ⟨H9, I9, q9⟩ => ?_
      have fin : ∀ {s' : Shared} {H' : Hp}, Inv (X.blk s3 H3 scope ce fp) ([] ++ pinsAt fp s7.heap) σ8 H' s' → Nx H' → ∃ m, m < n ∧ ∃ i H', Inv (X.blk s3 H3 scope ce fp) [] (wipe σ (own.map (·.2))) H' s' ∧ tn i s'.heap ∧ (∀ b ∈ fp, H' b = none) ∧ W i m H' := fun {s' H'} I' nx => by
        obtain ⟨m', hm, w'⟩ := hNx H' nx
        have pin' : ∀ b ∈ fp, ∀ o, s7.heap.get? b = some o → s'.heap.get? b = some o ∧ H' b = none := fun b hb o e =>
          let z := I'.pin (b, o) (List.mem_append_right _ (List.mem_append_right _ (mem_pinsAt hb e)))
          ⟨z.1, z.2.1⟩
        have hl : (wipe σ (own.map (·.2))).length = σ8.length := by rw [← hw8, wipe_length]
        refine ⟨m', hm, i + 1, H', (I'.unpinned (pins := [])).weak hl (fun j v e => ?_), T.keep _ _ _ st7 fun b hb o e => (pin' b hb o e).1, fun b hb => ?_, w'⟩
        · rw [← hw8] at e
          exact (wipe_some e).1
        · obtain ⟨o, e, _⟩ := T.obj _ _ st7 b hb
          exact (pin' b hb o e).2
      cases b with
      | false =>
        simp only [Bool.false_eq_true, if_false] at q9 ⊢
        exact fin I9 q9
      | true =>
        simp only [if_true] at q9 ⊢
        refine thnF (pe _ s9 σ8 H9 _ I9 q9) fun z s10 ⟨yv, H10, I10, r10, acc, hD10, hz10, nx⟩ => ?_
        exact app_ok (X := X.blk s3 H3 scope ce fp) I10 hD10 hz10 r10 fun s11 I11 => fin I11 nx
  exact codeAny_compStart_list loop (T.self X.A 0 _ _ _ st4 loop)
theorem pe_lc {elt tg iter : Expr} {ifs : List Expr} {scope : Scope} {own : List (Str × Nat)} {pos : Pos} {wi : TI} {g : TG} {tt : TT} {te : TE} (hc : X.calm = true) (hN : X.N.Nodup) (hi : PI X tg iter wi) (ok : BlkOk X.N X.env.scope scope own)
    (hg : ∀ (s : Shared) (H : Hp) (C : Addr) (cl : List (Str × Addr)) (fp : List Addr), PG (X.blk s H scope (compEnvC scope cl C X.env) fp) tg g) (ht : ∀ (s : Shared) (H : Hp) (C : Addr) (cl : List (Str × Addr)) (fp : List Addr), PTs (X.blk s H scope (compEnvC scope cl C X.env) fp) ifs tt)
    (he : ∀ (s : Shared) (H : Hp) (C : Addr) (cl : List (Str × Addr)) (fp : List Addr), PE (X.blk s H scope (compEnvC scope cl C X.env) fp) elt te) (hs : ∀ x, foldedSetIterable iter X.env x = pure x := by intro _; rfl) :
    PE X (.ListComp elt [⟨tg, iter, ifs, 0⟩] scope pos) (tLc wi g tt te (own.map (·.2))) := by
  intro pins s σ H Q I h
  rw [eval_ListComp]
  refine lc_core hc hN I hi ok hg ht he hs h fun D C s' m H' I' q hn f => ⟨m, hn, fun h'' sb => ?_⟩
  obtain ⟨f0, f1, f2, f3, f4, f5⟩ := f
  exact ⟨.ref D, H', I'.turned (t' := s'.toks) (fun b o hb e => (sb.2 b hb).trans e) f0 f1 f3 f4 f5, rfl, q⟩
theorem ps_setLc {i : Nat} {y : Str} {py : Pos} {elt tg iter : Expr} {ifs : List Expr} {scope : Scope} {own : List (Str × Nat)} {pos spos : Pos} {wi : TI} {g : TG} {tt : TT} {te : TE} (hc : X.calm = true) (hN : X.N.Nodup) (hy : X.N[i]? = some y) (hyl : X.env.scope.names.lookup y = some .local)
    (hsw : swapsWith (.ListComp elt [⟨tg, iter, ifs, 0⟩] scope pos) (some (.Name y py)) spos.line X.env = pure true) (hi : PI X tg iter wi) (ok : BlkOk X.N X.env.scope scope own)
    (hg : ∀ (s : Shared) (H : Hp) (C : Addr) (cl : List (Str × Addr)) (fp : List Addr), PG (X.blk s H scope (compEnvC scope cl C X.env) fp) tg g) (ht : ∀ (s : Shared) (H : Hp) (C : Addr) (cl : List (Str × Addr)) (fp : List Addr), PTs (X.blk s H scope (compEnvC scope cl C X.env) fp) ifs tt)
    (he : ∀ (s : Shared) (H : Hp) (C : Addr) (cl : List (Str × Addr)) (fp : List Addr), PE (X.blk s H scope (compEnvC scope cl C X.env) fp) elt te) (hs : ∀ x, foldedSetIterable iter X.env x = pure x := by intro _; rfl) :
    PS X (.Assign [.Name y py] (.ListComp elt [⟨tg, iter, ifs, 0⟩] scope pos) spos) (tAsg (tLc wi g tt te (own.map (·.2))) (gName i)) := by
  intro pins s σ H D I h
  rw [exec_Assign_Name_used _ _ _ _ hsw]
  refine wpAny_bind (wpAny_standAt (wpAny_bind ?_))
  show wpAny _ X.A (do let _ ← comprehension (.ListComp elt [⟨tg, iter, ifs, 0⟩] scope pos) scope X.env (firstIterPos [⟨tg, iter, ifs, 0⟩] pos) (newList []) false (eval iter X.env) (some (assign (.Name y py) X.env))) _ _ s
  have h : tLc wi g tt te (own.map (·.2)) σ H (fun x H1 => gName i x σ H1 D.nx) := h
  refine wpAny_bind (thn (lc_core (Qf := fun _ s' => SP X pins D .next s') hc hN I hi ok hg ht he hs h fun L C s' m H' I' q hn f => ?_) fun _ s' hq => wpAny_pure (wpAny_pure hq))
  show wpAny _ _ (assign (.Name y py) X.env (.ref L)) _ _ _
  refine wpAny_assign_Name (store_ok2 (v := V.ref L) I' hN hy (.inl hyl) rfl (fun s2 I2 ⟨a, sb, ha⟩ => ?_) (.inr hyl))
  obtain ⟨f0, f1, f2, f3, f4, f5⟩ := f
  have haC : C ≠ a := by
    rcases ha with z | z
    · rw [z]; exact f1
    · exact fun e => f4 y a z e.symm
  refine ⟨m, hn.sameBut sb haC, fun h3 sb3 => ?_⟩
  exact ⟨_, H', I2.turned (t' := s2.toks) (fun b o hb e => (sb3.2 b hb).trans e) f0 f1 f3 f4 f5, q⟩
theorem sw_true {elt : Expr} {gs : List Comprehension} {scope : Scope} {pos py : Pos} {y : Str} {l : Nat} {env : Env} (hk : env.scope.kind = .function) (hy : env.scope.names.lookup y = some .local) (hl : (py.line == pos.line) = true)
    (ha : (scope.names.any fun (n, k) => n == y && (k == .local || k == .cell)) = false) : swapsWith (.ListComp elt gs scope pos) (some (.Name y py)) l env = pure true := by
  have ky : env.kindOf y = some .local := hy
  have hb : env.blockKind = .function := by unfold Env.blockKind; rw [hk]; rfl
  unfold swapsWith
  simp only [hb, ky, ha, Expr.pos, hl]
  rfl
end
end L2
namespace L2
open PySem PySem.Spec PyProof.Rows
section
variable {prog : Program} {w : World} {A : Around} {R : Result → Shared → Prop} {s : Shared} {elt t0 i0 t1 i1 : Expr} {ifs0 ifs1 : List Expr} {scope : Scope} {pos : Pos} {it acc : Value} {env : Env}
end
section
variable {X : Cx}
end
end L2
namespace L2
open PySem PySem.Spec PyProof.Rows
section
variable {κ : Type} [DecidableEq κ]
def valV (kvs : List (κ × V)) (k : κ) : Option V := (kvs.find? fun kv => decide (kv.1 = k)).map (·.2)
def putK (kvs : List (κ × V)) (k : κ) (v : V) : List (κ × V) :=
  if (kvs.any fun kv => decide (kv.1 = k)) = true then kvs.map (fun kv => if kv.1 = k then (kv.1, v) else kv) else kvs ++ [(k, v)]
theorem valV_pos {p : κ × V} {r : List (κ × V)} {k : κ} (e : p.1 = k) : valV (p :: r) k = some p.2 := by simp [valV, List.find?_cons, e]
theorem valV_neg {p : κ × V} {r : List (κ × V)} {k : κ} (e : ¬ p.1 = k) : valV (p :: r) k = valV r k := by simp [valV, List.find?_cons, e]
theorem valV_any (k : κ) : ∀ kvs : List (κ × V), (kvs.any fun kv => decide (kv.1 = k)) = (valV kvs k).isSome
  | [] => rfl
  | p :: r => by
    rw [List.any_cons]
    by_cases e : p.1 = k
    · simp only [valV_pos e, decide_eq_true e, Bool.true_or, Option.isSome_some]
    · rw [valV_neg e, decide_eq_false e, Bool.false_or]; exact valV_any k r
theorem valV_map (k j : κ) (y : V) : ∀ kvs : List (κ × V), valV (kvs.map fun kv => if kv.1 = k then (kv.1, y) else kv) j = (valV kvs j).map fun x => if j = k then y else x
  | [] => rfl
  | p :: r => by
    have ih := valV_map k j y r
    rw [List.map_cons]
    by_cases h : p.1 = k
    · rw [if_pos h]
      by_cases e : p.1 = j
      · rw [valV_pos (p := (p.1, y)) e, valV_pos e, Option.map_some, if_pos (e.symm.trans h)]
      · rw [valV_neg (p := (p.1, y)) e, valV_neg e, ih]
    · rw [if_neg h]
      by_cases e : p.1 = j
      · rw [valV_pos (p := p) e, valV_pos e, Option.map_some, if_neg (fun z => h (e.trans z))]
      · rw [valV_neg (p := p) e, valV_neg e, ih]
theorem valV_snoc (k j : κ) (y : V) : ∀ kvs : List (κ × V), valV kvs k = none → valV (kvs ++ [(k, y)]) j = if j = k then some y else valV kvs j
  | [], _ => by
    by_cases e : k = j
    · rw [if_pos e.symm]; exact valV_pos (p := (k, y)) e
    · rw [if_neg (fun z => e z.symm)]; exact valV_neg (p := (k, y)) e
  | p :: r, hn => by
    rw [List.cons_append]
    have hk : ¬ p.1 = k := fun z => by rw [valV_pos z] at hn; cases hn
    rw [valV_neg hk] at hn
    have ih := valV_snoc k j y r hn
    by_cases e : p.1 = j
    · rw [valV_pos e, valV_pos e, if_neg (fun z => hk (e.trans z))]
    · rw [valV_neg e, valV_neg e, ih]
theorem valV_put (kvs : List (κ × V)) (k j : κ) (y : V) : valV (putK kvs k y) j = if j = k then some y else valV kvs j := by
  unfold putK
  by_cases a : (kvs.any fun kv => decide (kv.1 = k)) = true
  · rw [if_pos a, valV_map]
    rw [valV_any] at a
    by_cases e : j = k
    · obtain ⟨x, hx⟩ := Option.isSome_iff_exists.mp a
      rw [if_pos e, e, hx, Option.map_some, if_pos rfl]
    · rw [if_neg e]
      cases valV kvs j with
      | none => rfl
      | some x => rw [Option.map_some, if_neg e]
  · rw [if_neg a]
    refine valV_snoc k j y kvs ?_
    rw [valV_any] at a
    cases q : valV kvs k with
    | none => rfl
    | some x => rw [q] at a; exact (a rfl).elim
theorem length_putK (kvs : List (κ × V)) (k : κ) (v : V) : (putK kvs k v).length ≤ kvs.length + 1 := by
  unfold putK
  split
  · rw [List.length_map]; omega
  · rw [List.length_append, List.length_cons, List.length_nil]; omega
theorem putK_new {kvs : List (κ × V)} {k : κ} (v : V) (h : valV kvs k = none) : putK kvs k v = kvs ++ [(k, v)] := by
  unfold putK
  rw [valV_any, h]
  exact if_neg (by decide)
theorem RelO.isSome_eq {o : Option V} {u : Option Value} (r : RelO o u) : o.isSome = u.isSome := by
  cases o with
  | none => cases u with
    | none => rfl
    | some _ => exact (show False from r).elim
  | some _ => cases u with
    | none => exact (show False from r).elim
    | some _ => rfl
theorem RelO.getD {o : Option V} {u : Option Value} {d : V} {d' : Value} (r : RelO o u) (rd : RelV d d') : RelV (o.getD d) (u.getD d') := by
  cases o with
  | none => cases u with
    | none => exact rd
    | some _ => exact (show False from r).elim
  | some _ => cases u with
    | none => exact (show False from r).elim
    | some _ => exact r
theorem KV.val {kvs : List (κ × V)} {vs : List (κ × Value)} (r : KV kvs vs) (k : κ) : RelO (valV kvs k) (valueAt vs k) := by
  unfold KV at r
  induction r with
  | nil => exact True.intro
  | @cons p q ps qs h t ih =>
    obtain ⟨h1, h2⟩ := h
    by_cases e : p.1 = k
    · have e' : q.1 = k := h1.symm.trans e
      have b : valueAt (q :: qs) k = some q.2 := by simp [valueAt, List.find?_cons, e']
      rw [valV_pos e, b]; exact h2
    · have e' : ¬ q.1 = k := fun z => e (h1.trans z)
      have b : valueAt (q :: qs) k = valueAt qs k := by simp [valueAt, List.find?_cons, e']
      rw [valV_neg e, b]; exact ih
theorem KV.any {kvs : List (κ × V)} {vs : List (κ × Value)} (r : KV kvs vs) (k : κ) : (kvs.any fun kv => decide (kv.1 = k)) = vs.any fun kv => decide (kv.1 = k) := by
  unfold KV at r
  induction r with
  | nil => rfl
  | cons h t ih => rw [List.any_cons, List.any_cons, ih, h.1]
theorem KV.repl {kvs : List (κ × V)} {vs : List (κ × Value)} (r : KV kvs vs) (k : κ) {y : V} {u : Value} (ry : RelV y u) :
    KV (kvs.map fun kv => if kv.1 = k then (kv.1, y) else kv) (vs.map fun kv => if kv.1 = k then (kv.1, u) else kv) := by
  unfold KV at r ⊢
  induction r with
  | nil => exact .nil
  | @cons p q ps qs h t ih =>
    rw [List.map_cons, List.map_cons]
    refine .cons ?_ ih
    obtain ⟨h1, h2⟩ := h
    by_cases e : p.1 = k
    · rw [if_pos e, if_pos (h1.symm.trans e)]; exact ⟨h1, ry⟩
    · rw [if_neg e, if_neg (fun z => e (h1.trans z))]; exact ⟨h1, h2⟩
theorem KV.put {kvs : List (κ × V)} {vs : List (κ × Value)} (r : KV kvs vs) (k : κ) {y : V} {u : Value} (ry : RelV y u) : KV (putK kvs k y) (stored vs k u) := by
  unfold putK stored
  rw [r.any k]
  by_cases e : (vs.any fun kv => decide (kv.1 = k)) = true
  · rw [if_pos e, if_pos e]; exact r.repl k ry
  · rw [if_neg e, if_neg e]; exact Paired.snoc r ⟨rfl, ry⟩
theorem KV.length {kvs : List (κ × V)} {vs : List (κ × Value)} (r : KV kvs vs) : kvs.length = vs.length := Paired.length r
end
theorem kV_is {P : Program} {w : World} {k : Key} {u : Value} (r : RelV (kV k) u) : (mixKind P w).is k u = true := by
  cases k with
  | inl i => obtain ⟨t, e⟩ := (show ∃ t, u = Value.int i t from r); subst e; exact mixKind_int P w i t
  | inr x => obtain ⟨t, e⟩ := (show ∃ t, u = Value.str x t from r); subst e; exact mixKind_str P w x t
theorem items_are {P : Program} {w : World} : ∀ {ks : List Key} {us : List Value}, Vals (ks.map kV) us → ItemsAre (mixKind P w) ks us
  | [], _, r => by rw [List.map_nil] at r; cases r; exact .nil
  | k :: ks, _, r => by
    rw [List.map_cons] at r
    cases r with
    | cons h t => exact .cons (kV_is h) (items_are t)
abbrev KT (H : Hp) : List (List Key × V) → List (List Key × Addr × Value) → Prop := Paired fun p q => p.1 = q.1 ∧ H q.2.1 = some (.tup (p.1.map kV)) ∧ RelV p.2 q.2.2
theorem KT.val {H : Hp} {kvs : List (List Key × V)} {xs : List (List Key × Addr × Value)} (r : KT H kvs xs) (k : List Key) : RelO (valV kvs k) ((atKey xs k).map (·.2)) := by
  induction r with
  | nil => exact True.intro
  | @cons p q ps qs h t ih =>
    obtain ⟨h1, _, h2⟩ := h
    by_cases e : p.1 = k
    · have e' : q.1 = k := h1.symm.trans e
      have b : atKey (q :: qs) k = some q.2 := by simp [atKey, List.find?_cons, e']
      rw [valV_pos e, b]; exact h2
    · have e' : ¬ q.1 = k := fun z => e (h1.trans z)
      have b : atKey (q :: qs) k = atKey qs k := by simp [atKey, List.find?_cons, e']
      rw [valV_neg e, b]; exact ih
theorem KT.repl {H : Hp} {kvs : List (List Key × V)} {xs : List (List Key × Addr × Value)} (r : KT H kvs xs) (k : List Key) {y : V} {u : Value} (ry : RelV y u) :
    KT H (kvs.map fun kv => if kv.1 = k then (kv.1, y) else kv) (xs.map (putAt k u)) := by
  induction r with
  | nil => exact .nil
  | @cons p q ps qs h t ih =>
    rw [List.map_cons, List.map_cons]
    refine .cons ?_ ih
    obtain ⟨h1, h2, h3⟩ := h
    unfold putAt
    by_cases e : p.1 = k
    · rw [if_pos e, if_pos (h1.symm.trans e)]; exact ⟨h1, h2, ry⟩
    · rw [if_neg e, if_neg (fun z => e (h1.trans z))]; exact ⟨h1, h2, h3⟩
theorem KT.put {H : Hp} {kvs : List (List Key × V)} {xs : List (List Key × Addr × Value)} (r : KT H kvs xs) (k : List Key) {b : Addr} {y : V} {u : Value} (hb : H b = some (.tup (k.map kV))) (ry : RelV y u) :
    KT H (putK kvs k y) (storedH xs k b u) := by
  have e : (kvs.any fun kv => decide (kv.1 = k)) = (atKey xs k).isSome := by
    rw [valV_any, (r.val k).isSome_eq, Option.isSome_map]
  unfold putK storedH
  rw [e]
  by_cases q : (atKey xs k).isSome = true
  · rw [if_pos q, if_pos q]; exact r.repl k ry
  · rw [if_neg q, if_neg q]; exact Paired.snoc r ⟨rfl, hb, ry⟩
theorem KT.keeps {H H' : Hp} {kvs : List (List Key × V)} {xs : List (List Key × Addr × Value)} (r : KT H kvs xs) (ht : ∀ b ys, H b = some (.tup ys) → H' b = some (.tup ys)) : KT H' kvs xs :=
  Paired.mapP r fun _ _ z => ⟨z.1, ht _ _ z.2.1, z.2.2⟩
section
variable {P : Program} {w : World} {H : Hp} {h : Heap} {a : Addr}
theorem rd_of {u : HO} (ok : HOk P w H h) (e : Rd H a u) : ObjOk P w H h a u := e.ok ok
theorem dk_rd {kvs : List (Key × V)} (ok : HOk P w H h) (e : Rd H a (.dK kvs)) : kvs.length ≤ sizeLine ∧ (a == sysModules) = false ∧ ∃ vs, KV kvs vs ∧ h.DictOf (mixKind P w) a vs :=
  show ObjOk P w H h a (.dK kvs) from rd_of ok e
theorem dk_of {kvs : List (Key × V)} (ok : HOk P w H h) (e : H a = some (.dK kvs)) : kvs.length ≤ sizeLine ∧ (a == sysModules) = false ∧ ∃ vs, KV kvs vs ∧ h.DictOf (mixKind P w) a vs := dk_rd ok (.inl e)
theorem key_of {ks : List Key} (ok : HOk P w H h) (e : H a = some (.tup (ks.map kV))) : (tupleKind (mixKind P w)).is h ks a := by
  obtain ⟨_, its, r, o, h1, h2, n, h3⟩ := (show ObjOk P w H h a (.tup (ks.map kV)) from ok a _ e)
  exact ⟨o, its.toArray, n, h1, h2, h3, by simpa using items_are r⟩
theorem dt_rd {kvs : List (List Key × V)} (ok : HOk P w H h) (e : Rd H a (.dT kvs)) : kvs.length ≤ sizeLine ∧ (a == sysModules) = false ∧
    ∃ xs, KT H kvs xs ∧ h.DictOfH (tupleKind (mixKind P w)) a xs := by
  obtain ⟨z, y, xs, r, o, es, ep, h1, h2, h3, h4, h5⟩ := (show ObjOk P w H h a (.dT kvs) from rd_of ok e)
  refine ⟨z, y, xs, r, o, es, ep, h1, h2, h3, h4, fun x hx => ?_, h5⟩
  have all : ∀ {l : List (List Key × V)} {m : List (List Key × Addr × Value)}, KT H l m → ∀ x ∈ m, (tupleKind (mixKind P w)).is h x.1 x.2.1 := by
    intro l m q
    induction q with
    | nil => intro x hx; exact nomatch hx
    | @cons p q ps qs hq t ih =>
      intro x hx
      rcases List.mem_cons.mp hx with e | hx
      · subst e
        exact key_of ok (by rw [← hq.1]; exact hq.2.1)
      · exact ih x hx
  exact all r x hx
theorem dt_of {kvs : List (List Key × V)} (ok : HOk P w H h) (e : H a = some (.dT kvs)) : kvs.length ≤ sizeLine ∧ (a == sysModules) = false ∧
    ∃ xs, KT H kvs xs ∧ h.DictOfH (tupleKind (mixKind P w)) a xs := dt_rd ok (.inl e)
end
def DGet (H : Hp) (a : Addr) (y : V) (r : Option V) : Prop :=
  (∃ kvs k, Rd H a (.dK kvs) ∧ y = kV k ∧ r = valV kvs k) ∨ ∃ kvs k b, Rd H a (.dT kvs) ∧ y = .ref b ∧ H b = some (.tup (k.map kV)) ∧ r = valV kvs k
def DPut (H : Hp) (a : Addr) (y v : V) (H' : Hp) : Prop :=
  (∃ kvs k, H a = some (.dK kvs) ∧ y = kV k ∧ kvs.length < sizeLine ∧ H' = upd H a (.dK (putK kvs k v))) ∨
  ∃ kvs k b, H a = some (.dT kvs) ∧ y = .ref b ∧ H b = some (.tup (k.map kV)) ∧ kvs.length < sizeLine ∧ H' = upd H a (.dT (putK kvs k v))
theorem DGet.k {H : Hp} {a : Addr} {kvs : List (Key × V)} {k : Key} (e : H a = some (.dK kvs)) : DGet H a (kV k) (valV kvs k) := .inl ⟨kvs, k, .inl e, rfl, rfl⟩
theorem DPut.k {H : Hp} {a : Addr} {kvs : List (Key × V)} {k : Key} {v : V} (e : H a = some (.dK kvs)) (hl : kvs.length < sizeLine) : DPut H a (kV k) v (upd H a (.dK (putK kvs k v))) := .inl ⟨kvs, k, e, rfl, hl, rfl⟩
section
variable {X : Cx} {pins : List (Addr × Obj)} {σ : St} {H : Hp} {s : Shared} {a : Addr} {y v : V} {u r : Value} {o : Option V} {A : Around} {E : Value → Shared → Prop}
theorem Inv.big (I : Inv X pins σ H s) : sysModules < s.heap.objs.size := by
  have h : mainGlobals < s.heap.objs.size := (I.mod.glob.keeps I.bk).lt
  exact Nat.lt_trans (by decide) h
theorem d_getItem {Q : Value → Shared → Prop} (hu : A.units + 1 < cLine) (I : Inv X pins σ H s) (g : DGet H a y (some v)) (ry : RelV y u) (h : ∀ w' s', Inv X pins σ H s' → RelV v w' → Q w' s') :
    wpAny (model X.prog X.w) A (getItem (.ref a) u) Q E s := by
  rcases g with ⟨kvs, k, e, ey, l⟩ | ⟨kvs, k, b, e, ey, eb, l⟩
  · subst ey
    obtain ⟨z, hd, vs, rel, dd⟩ := dk_rd I.hok e
    obtain ⟨w', hw, rw'⟩ := RelO.some_of (v := v) (o := valueAt vs k) (by rw [l]; exact rel.val k)
    exact wpAny_getItem_of (kV_is ry) dd.mapOf hw (h w' _ (I.tok _) rw')
  · subst ey
    cases (show u = Value.ref b from ry)
    obtain ⟨z, hd, xs, rel, dd⟩ := dt_rd I.hok e
    obtain ⟨w', hw, rw'⟩ := RelO.some_of (v := v) (o := (atKey xs k).map (·.2)) (by rw [l]; exact rel.val k)
    obtain ⟨p, hp, hp2⟩ := Option.map_eq_some_iff.mp hw
    refine wpAny_getItem_heap (tupleKind_room_in1 hu) (key_of I.hok eb) dd hp ?_
    rw [hp2]
    exact h w' _ (I.tok _) rw'
theorem d_in {Q : Value → Shared → Prop} (hu : A.units + 1 < cLine) (I : Inv X pins σ H s) (g : DGet H a y o) (ry : RelV y u) (h : ∀ s', Inv X pins σ H s' → Q (.bool o.isSome) s') :
    wpAny (model X.prog X.w) A (compareOp .In u (.ref a)) Q E s := by
  rcases g with ⟨kvs, k, e, ey, l⟩ | ⟨kvs, k, b, e, ey, eb, l⟩
  · subst ey
    obtain ⟨z, hd, vs, rel, dd⟩ := dk_rd I.hok e
    refine wpAny_in_of (kV_is ry) hd dd.mapOf ?_
    rw [← (rel.val k).isSome_eq, ← l]
    exact h _ (I.tok _)
  · subst ey
    cases (show u = Value.ref b from ry)
    obtain ⟨z, hd, xs, rel, dd⟩ := dt_rd I.hok e
    refine wpAny_in_heap (tupleKind_room_in1 hu) (key_of I.hok eb) hd dd ?_
    have q := (rel.val k).isSome_eq
    rw [Option.isSome_map] at q
    rw [← q, ← l]
    exact h _ (I.tok _)
theorem d_write {h' : Heap} {t' : Nat} {ob : HO} (I : Inv X pins σ H s) (mu : Mut (H a)) (hs : Heap.SameBut a s.heap h') (he : ∃ q, h'.get? a = some q) (new : ObjOk X.prog X.w (upd H a ob) h' a ob) :
    Inv X pins σ (upd H a ob) { s with heap := h', toks := t' } :=
  I.write (x := a) (e := a) mu (.inl rfl) (fun b q hb z => (hs.2 b hb).trans z) he new
theorem dk_new {P : Program} {w : World} {H' : Hp} {h' : Heap} {kvs : List (Key × V)} {vs : List (Key × Value)} (z : kvs.length ≤ sizeLine) (hd : (a == sysModules) = false) (rel : KV kvs vs) (dd : h'.DictOf (mixKind P w) a vs) :
    ObjOk P w H' h' a (.dK kvs) := ⟨z, hd, vs, rel, dd⟩
theorem d_setItem {H' : Hp} {Q : Unit → Shared → Prop} (hu : A.units + 1 < cLine) (I : Inv X pins σ H s) (g : DPut H a y v H') (ry : RelV y u) (rv : RelV v r) (h : ∀ s', Inv X pins σ H' s' → Q () s') :
    wpAny (model X.prog X.w) A (setItem (.ref a) u r) Q E s := by
  rcases g with ⟨kvs, k, e, ey, l, eH⟩ | ⟨kvs, k, b, e, ey, eb, l, eH⟩
  · subst ey eH
    obtain ⟨z, hd, vs, rel, dd⟩ := dk_of I.hok e
    have hz : vs.length ≤ sizeLine := by rw [← rel.length]; exact z
    have hl : (putK kvs k v).length ≤ sizeLine := by have := length_putK kvs k v; omega
    refine wpAny_setItem_pairs (hsz := hz) (kV_is ry) dd fun h' dd' hs => h _ ?_
    have he : ∃ q, h'.get? a = some q := let ⟨q, _, _, hq, _⟩ := dd'; ⟨q, hq⟩
    exact d_write I (by rw [e]; exact True.intro) hs he (dk_new hl hd (rel.put k rv) dd')
  · subst ey eH
    cases (show u = Value.ref b from ry)
    obtain ⟨z, hd, xs, rel, dd⟩ := dt_of I.hok e
    have hz : xs.length ≤ sizeLine := by rw [← Paired.length rel]; exact z
    have hl : (putK kvs k v).length ≤ sizeLine := by have := length_putK kvs k v; omega
    refine wpAny_setItem_heap (hsz := hz) (tupleKind_room_in1 hu) (key_of I.hok eb) dd fun h' dd' hs => h _ ?_
    obtain ⟨q, es, ep, hq, h2, h3, h4, _, h5⟩ := dd'
    refine d_write I (by rw [e]; exact True.intro) hs ⟨q, hq⟩ ⟨hl, hd, _, (rel.put k eb rv).keeps fun c ys ec => ?_, q, es, ep, hq, h2, h3, h4, h5⟩
    rw [upd_ne (ne_of ec e (fun z => nomatch z))]
    exact ec
end
section
variable {X : Cx} {pins : List (Addr × Obj)} {σ : St} {H : Hp} {s : Shared} {a : Addr} {kvs : List (Key × V)} {k : Key} {u : Value} {A : Around} {E : Value → Shared → Prop}
theorem d_len {Q : Value → Shared → Prop} (I : Inv X pins σ H s) (e : Rd H a (.dK kvs)) (h : ∀ t s', Inv X pins σ H s' → Q (.int kvs.length t) s') : wpAny (model X.prog X.w) A (call (.builtin "len") [.ref a]) Q E s := by
  obtain ⟨z, hd, vs, rel, dd⟩ := dk_rd I.hok e
  refine call_len_dict hd dd (by rw [← rel.length]; rw [sizeLine_eq] at z; omega) ?_
  rw [← rel.length]
  exact h _ _ (I.tok _)
end
def NoSl (i : Expr) : Prop := ∀ ov iv, subscripted i false ov iv = operate [ov, iv] (getItem ov iv)
theorem subD_of {prog : Program} {w : World} {A : Around} {E : Value → Shared → Prop} {s : Shared} {env : Env} {value slice : Expr} {pos : Pos} {T id : String} {Q : Value → Shared → Prop}
    (hl : typeLookup (.type T) "__getitem__" = pure (some (.builtin id))) (hs : NoSl slice)
    (h : wpAny (model prog w) A (eval value env) (fun o s₁ => wpAny (model prog w) A (eval slice env) (fun i s₂ => s₂.TypeIs o T ∧ wpAny (model prog w) A (getItem o i) Q E s₂) E s₁) E s) :
    wpAny (model prog w) A (eval (.Subscript value slice pos) env) Q E s := by
  refine Subscript_ (wpAny_mono h (fun o s₁ h₁ => wpAny_mono h₁ (fun i s₂ h₂ => ?_) fun _ _ x => x) fun _ _ x => x)
  obtain ⟨hT, h₂⟩ := h₂
  unfold subscriptTail
  refine wpAny_bind ?_
  rw [getitemInPython_of_ne hT.not_modules]
  refine wpAny_bind (wpAny_specialOf hT hl ?_)
  have fin : wpAny (model prog w) A (subscripted slice false o i) (fun r s₃ => wpAny (model prog w) A (letTemporaryGo value o r >>= fun _ => pure r) Q E s₃) E s₂ := by
    rw [hs o i]
    exact wpAny_operating (wpAny_mono h₂ (fun r s₃ h₃ => wpAny_bind (wpAny_letTemporaryGo (wpAny_pure h₃))) fun _ _ x => x)
  first
    | exact wpAny_pure (wpAny_bind fin)
    | exact wpAny_bind (wpAny_pure (wpAny_bind fin))
    | exact wpAny_bind fin
theorem dict_typeIs {X : Cx} {pins : List (Addr × Obj)} {σ : St} {H : Hp} {s : Shared} {a : Addr} {y : V} {o : Option V} (I : Inv X pins σ H s) (g : DGet H a y o) : s.TypeIs (.ref a) "dict" := by
  rcases g with ⟨kvs, k, e, _, _⟩ | ⟨kvs, k, b, e, _, _, _⟩
  · obtain ⟨_, _, vs, _, dd⟩ := dk_rd I.hok e
    exact dd.typeIs
  · obtain ⟨_, _, xs, _, dd⟩ := dt_rd I.hok e
    exact dd.typeIs
def tDGet (td ty : TE) : TE := fun σ H Q => td σ H fun x H1 => ty σ H1 fun y H2 => ∃ a v, x = .ref a ∧ DGet H2 a y (some v) ∧ Q v H2
def tDIn (ty td : TE) : TE := fun σ H Q => ty σ H fun y H1 => td σ H1 fun x H2 => ∃ a o, x = .ref a ∧ DGet H2 a y o ∧ Q (.bl o.isSome) H2
def sDPut (td ty tv : TE) : TS := fun D σ H => tv σ H fun v H1 => td σ H1 fun x H2 => ty σ H2 fun y H3 => ∃ a H4, x = .ref a ∧ DPut H3 a y v H4 ∧ D.nx σ H4
def sDAug (td ty tv : TE) (rd : V → V → Hp → VK → Prop) : TS := fun D σ H => td σ H fun x H1 => ty σ H1 fun y H2 => ∃ a v, x = .ref a ∧ DGet H2 a y (some v) ∧
  tv σ H2 fun y2 H3 => rd v y2 H3 fun z H4 => ∃ H5, DPut H4 a y z H5 ∧ D.nx σ H5
section
variable {X : Cx} {o i e value : Expr} {pos pos' tpos : Pos} {td ty tv : TE}
theorem pe_dget (hu : X.A.units + 1 < cLine) (ho : PE X o td) (hi : PE X i ty) (hs : NoSl i) : PE X (.Subscript o i pos) (tDGet td ty) := by
  intro pins s σ H Q I h
  refine subD_of PySem.F.slot_dict_getitem.lookup hs (thn (ho pins s σ H _ I h) fun u s1 ⟨x, H1, I1, rx, q1⟩ => thn (hi pins s1 σ H1 _ I1 q1) fun iv s2 ⟨y, H2, I2, ry, a, v, ex, g, q2⟩ => ?_)
  subst ex
  obtain rfl : u = Value.ref a := rx
  exact ⟨dict_typeIs I2 g, d_getItem hu I2 g ry fun w' s3 I3 rw' => ⟨v, H2, I3, rw', q2⟩⟩
theorem pc_din (hu : X.A.units + 1 < cLine) (hi : PE X i ty) (ho : PE X o td) : PC X .In i o (tDIn ty td) := by
  intro pins s σ H Q I h
  refine thn (hi pins s σ H _ I h) fun iv s1 ⟨y, H1, I1, ry, q1⟩ => thn (ho pins s1 σ H1 _ I1 q1) fun u s2 ⟨x, H2, I2, rx, a, ov, ex, g, q2⟩ => ?_
  subst ex
  obtain rfl : u = Value.ref a := rx
  exact d_in hu I2 g ry fun s3 I3 => ⟨.bl ov.isSome, H2, I3, rfl, q2⟩
theorem ps_dput (hu : X.A.units + 1 < cLine) (ho : PE X o td) (hi : PE X i ty) (hv : PE X value tv) (hs : swapsWith value (some (.Subscript o i pos')) pos.line X.env = pure false) :
    PS X (.Assign [.Subscript o i pos'] value pos) (sDPut td ty tv) := by
  intro pins s σ H D I h
  refine wpAny_Assign_Subscript (thn (hv pins s σ H _ I h) fun r s1 ⟨v, H1, I1, rv, q1⟩ => thn (ho pins s1 σ H1 _ I1 q1) fun u s2 ⟨x, H2, I2, rx, q2⟩ => thn (hi pins s2 σ H2 _ I2 q2) fun iv s3 ⟨y, H3, I3, ry, a, H4, ex, g, q3⟩ => ?_) hs
  subst ex
  obtain rfl : u = Value.ref a := rx
  exact d_setItem hu I3 g ry rv fun s4 I4 => ⟨σ, H4, I4, q3⟩
theorem ps_daug {op : Operator} {rd : V → V → Hp → VK → Prop} (hu : X.A.units + 1 < cLine) (ho : PE X o td) (hi : PE X i ty) (hv : PE X value tv) (hop : InOp X op rd)
    (ha : ∀ ov iv new, augStore i ov iv new = (do holding [new, ov, iv] (setItem ov iv new); release [new, ov, iv] []; pure .next)) : PS X (.AugAssign (.Subscript o i tpos) op value pos) (sDAug td ty tv rd) := by
  intro pins s σ H D I h
  refine wpAny_AugAssign_SubscriptAny (thn (ho pins s σ H _ I h) fun u s1 ⟨x, H1, I1, rx, q1⟩ => thn (hi pins s1 σ H1 _ I1 q1) fun iv s2 ⟨y, H2, I2, ry, a, v, ex, g, q2⟩ => ?_) ha
  subst ex
  obtain rfl : u = Value.ref a := rx
  refine d_getItem hu I2 g ry fun w' s3 I3 rw' => thn (hv pins s3 σ H2 _ I3 q2) fun w2 s4 ⟨y2, H3, I4, ry2, q3⟩ => thn (hop pins s4 σ H3 v y2 w' w2 _ I4 rw' ry2 q3) fun w3 s5 ⟨z, H4, I5, rz, H5, g5, q4⟩ => ?_
  exact d_setItem hu I5 g5 ry rz fun s6 I6 => ⟨σ, H5, I6, q4⟩
end
theorem dk_empty {P : Program} {w : World} {H : Hp} (h : Heap) (hb : sysModules < h.objs.size) : ObjOk P w H (h.push { cls := .type "dict", data := .dict #[] }) h.objs.size (.dK []) :=
  ⟨Nat.zero_le _, beq_eq_false_iff_ne.mpr (Ne.symm (Nat.ne_of_lt hb)), [], .nil, Heap.DictOf.new h⟩
def tDNewK : TE := fun _ H Q => ∀ p, H p = none → Q (.ref p) (upd H p (.dK []))
section
variable {X : Cx} {pos : Pos}
theorem pe_dnewK : PE X (.Dict [] [] pos) tDNewK := fun pins s σ H Q I h =>
  wpAny_Dict_empty ⟨.ref s.heap.objs.size, _, I.laid (a := s.heap.objs.size) (o := .dK []) (t' := s.toks) (fun _ _ q => Heap.get?_push_of_some _ q) (Nat.le_refl _) (dk_empty s.heap I.big), rfl, h _ (I.hok.fresh (Nat.le_refl _))⟩
end
def tPairs : List (TE × TE) → St → Hp → (List (V × V) → Hp → Prop) → Prop
  | [], _, H, Q => Q [] H
  | (tk, tv) :: r, σ, H, Q => tk σ H fun x H1 => tv σ H1 fun y H2 => tPairs r σ H2 fun ps H3 => Q ((x, y) :: ps) H3
abbrev VV : List (V × V) → List (Value × Value) → Prop := Paired fun p q => RelV p.1 q.1 ∧ RelV p.2 q.2
def PPs (X : Cx) (pos : Pos) (keys : List (Option Expr)) (values : List Expr) (trs : List (TE × TE)) : Prop :=
  ∀ (pins : List (Addr × Obj)) (s : Shared) (σ : St) (H : Hp) (Q : List (V × V) → Hp → Prop), Inv X pins σ H s → tPairs trs σ H Q →
    wpAny (model X.prog X.w) X.A (evalPairs (pairTrees keys values X.env pos)) (fun vs s' => ∃ ps H', Inv X pins σ H' s' ∧ VV ps vs ∧ Q ps H') X.xe s
theorem pps_nil {X : Cx} {pos : Pos} : PPs X pos [] [] [] := fun pins s σ H Q I h => pairTrees_nil_walk ⟨[], H, I, .nil, h⟩
theorem pps_cons {X : Cx} {pos : Pos} {k v : Expr} {ks : List (Option Expr)} {vs : List Expr} {tk tv : TE} {trs : List (TE × TE)} (hk : PE X k tk) (hv : PE X v tv) (hr : PPs X pos ks vs trs) :
    PPs X pos (some k :: ks) (v :: vs) ((tk, tv) :: trs) := fun pins s σ H Q I h =>
  pairTrees_cons_walk (thn (hk pins s σ H _ I h) fun u s1 ⟨x, H1, I1, rx, q1⟩ => thn (hv pins s1 σ H1 _ I1 q1) fun w2 s2 ⟨y, H2, I2, ry, q2⟩ =>
    thn (hr pins s2 σ H2 _ I2 q2) fun ws s3 ⟨ps, H3, I3, rel, q3⟩ => ⟨(x, y) :: ps, H3, I3, .cons ⟨rx, ry⟩ rel, q3⟩)
def mergeK (kvs more : List (Key × V)) : List (Key × V) := more.foldl (fun acc kv => putK acc kv.1 kv.2) kvs
theorem KV.merge : ∀ {more : List (Key × V)} {rs : List (Key × Value)} {kvs : List (Key × V)} {vs : List (Key × Value)}, KV more rs → KV kvs vs → KV (mergeK kvs more) (merged vs rs) := by
  intro more rs kvs vs r
  unfold KV at r
  induction r generalizing kvs vs with
  | nil => intro q; exact q
  | @cons p q ps qs h t ih =>
    intro r0
    have e : KV (putK kvs p.1 p.2) (stored vs q.1 q.2) := by
      have := r0.put p.1 h.2
      rw [← h.1]; exact this
    exact ih e
theorem length_mergeK : ∀ (more kvs : List (Key × V)), (mergeK kvs more).length ≤ kvs.length + more.length
  | [], kvs => by show kvs.length ≤ kvs.length + 0; omega
  | p :: r, kvs => by
    have h1 := length_mergeK r (putK kvs p.1 p.2)
    have h2 := length_putK kvs p.1 p.2
    show (mergeK (putK kvs p.1 p.2) r).length ≤ _
    rw [List.length_cons]; omega
theorem carries_of {P : Program} {w : World} : ∀ {kvs : List (Key × V)} {ws : List (Value × Value)}, VV (kvs.map fun kv => (kV kv.1, kv.2)) ws → ∃ rs, Carries (mixKind P w) ws rs ∧ KV kvs rs
  | [], _, r => by rw [List.map_nil] at r; cases r; exact ⟨[], True.intro, .nil⟩
  | p :: kvs, _, r => by
    rw [List.map_cons] at r
    cases r with
    | @cons a b as bs h t =>
      obtain ⟨rs, c, q⟩ := carries_of (P := P) (w := w) t
      obtain ⟨b1, b2⟩ := b
      exact ⟨(p.1, b2) :: rs, ⟨kV_is h.1, rfl, c⟩, .cons ⟨rfl, h.2⟩ q⟩
def tDisp (trs : List (TE × TE)) : TE := fun σ H Q => ∀ p, H p = none → tPairs trs σ (upd H p (.dK [])) fun ps H2 => H2 p = some (.dK []) ∧ ∃ kvs : List (Key × V), ps = kvs.map (fun kv => (kV kv.1, kv.2)) ∧ kvs.length ≤ 15 ∧ Q (.ref p) (upd H2 p (.dK (mergeK [] kvs)))
theorem pe_disp {X : Cx} {pos : Pos} {keys : List (Option Expr)} {values : List Expr} {trs : List (TE × TE)} (h : PPs X pos keys values trs) (hall : keys.all (·.isSome) = true) (hl : keys.length = values.length) (h0 : keys ≠ [])
    (h15 : keys.length ≤ 15) : PE X (.Dict keys values pos) (tDisp trs) := by
  intro pins s σ H Q I q
  have hn := I.hok.fresh (Nat.le_refl s.heap.objs.size)
  have I1 := I.laid (a := s.heap.objs.size) (o := .dK []) (h' := s.heap.push { cls := .type "dict", data := .dict #[] }) (t' := s.toks) (fun _ _ q => Heap.get?_push_of_some _ q) (Nat.le_refl _) (dk_empty s.heap I.big)
  refine wpAny_Dict_walk (knd := mixKind X.prog X.w) hall hl h0 h15 (thn (h pins _ σ _ _ I1 (q _ hn)) fun ws s2 ⟨ps, H2, I2, rel, e, kvs, ep, lk, q2⟩ => ?_)
  subst ep
  obtain ⟨rs, c, rk⟩ := carries_of (P := X.prog) (w := X.w) rel
  obtain ⟨z, hd, vs0, r0, dd⟩ := dk_of I2.hok e
  cases r0
  refine ⟨rs, c, dd, fun h' dd' hs => ⟨.ref s.heap.objs.size, _, ?_, rfl, q2⟩⟩
  have hz : (mergeK [] kvs).length ≤ sizeLine := by
    have h1 := length_mergeK kvs []
    rw [List.length_nil] at h1
    rw [sizeLine_eq]; omega
  have he : ∃ q, h'.get? s.heap.objs.size = some q := let ⟨q, _, _, hq, _⟩ := dd'; ⟨q, hq⟩
  exact d_write I2 (by rw [e]; exact True.intro) hs he (dk_new hz hd (rk.merge .nil) dd')
structure M2 (X : Cx) (o : Expr) (m : Str) (apos : Pos) (e f : Expr) (cpos : Pos) : Prop where
  base : attributeBase o m X.env (eval o X.env) = eval o X.env
  few : ((backTo cpos (starEach [e, f] X.env)).all (fun x => !x.1) && (backToKw cpos (keywordEach [] X.env)).all (fun x => x.1.isSome)
    && decide (([e, f] : List Expr).length + ([] : List Keyword).length + (if ([] : List Keyword).isEmpty then 0 else 1) < 30)) = true
  line : (apos.endLine == cpos.line) = true
  trees : backTo cpos (starEach [e, f] X.env) = [(false, eval e X.env), (false, eval f X.env)]
section
variable {X : Cx} {pins : List (Addr × Obj)} {σ : St} {H : Hp} {s : Shared} {a : Addr} {y d : V} {u r : Value} {o : Option V} {A : Around} {E : Value → Shared → Prop}
end
section
variable {X : Cx} {o e f : Expr} {apos cpos : Pos} {td ty tx : TE}
end
section
variable {X : Cx} {pins : List (Addr × Obj)} {σ : St} {H : Hp} {s : Shared} {a : Addr} {kvs : List (Key × V)} {A : Around} {E : Value → Shared → Prop}
theorem d_copyOf {Q : Value → Shared → Prop} (I : Inv X pins σ H s) (e : Rd H a (.dK kvs)) (h : ∀ p s', H p = none → Inv X pins σ (upd H p (.dK kvs)) s' → Q (.ref p) s') : wpAny (model X.prog X.w) A (call (.type "dict") [.ref a]) Q E s := by
  obtain ⟨z, hd, vs, rel, dd⟩ := dk_rd I.hok e
  refine kt_call_dict hd dd (by rw [← rel.length]; exact z) fun h' dd' hs => ?_
  refine h _ _ (I.hok.fresh (Nat.le_refl _)) (I.laid (a := s.heap.objs.size) (o := .dK kvs) (t' := s.toks) (fun b q hq => ?_) (Nat.le_refl _) (dk_new z (beq_eq_false_iff_ne.mpr (Ne.symm (Nat.ne_of_lt I.big))) rel dd'))
  exact (hs.2 b (Nat.ne_of_lt (Heap.lt_size hq))).trans (Heap.get?_push_of_some _ hq)
end
section
variable {X : Cx} {pins : List (Addr × Obj)} {σ : St} {H : Hp} {s : Shared} {a : Addr} {y : V} {u : Value} {A : Around} {E : Value → Shared → Prop}
end
end L2
namespace L2
open PySem PySem.Spec PyProof.Rows
section
variable {prog : Program} {w : World} {A : Around} {E : Value → Shared → Prop}
end
section
variable {X : Cx}
end
end L2
namespace L2
open PySem PySem.Spec PyProof.Rows
section
variable {X : Cx} {pins : List (Addr × Obj)} {σ : St} {H : Hp} {s : Shared} {h' : Heap}
theorem Inv.turnedL {t' : Nat} {ch : List Addr} (I : Inv X pins σ H s) (k : ∀ b o, b ∉ ch → s.heap.get? b = some o → h'.get? b = some o) (hf : ∀ b ∈ ch, FpOk X pins H b) : Inv X pins σ H { s with heap := h', toks := t' } := by
  have nit : ∀ b u, H b = some u → b ∉ ch := fun b u e z => by
    have q := (hf b z).1
    rw [q] at e; cases e
  refine I.step (g' := s.gens) (d' := s.drawn) (ch := ch) (fun b hb => ⟨(hf b hb).2.2.2.1, (hf b hb).2.1, (hf b hb).2.2.2.2.1, (hf b hb).2.2.2.2.2⟩) (fun b o _ _ hc e _ => k b o hc e) (fun b o _ _ hc e _ => ⟨o.slots, k b o hc e⟩)
    (fun _ _ _ _ n => n) (fun b o hc e => ⟨o, k b o hc e⟩) (fun _ _ e => e) (fun _ _ _ e => e) (fun b ps e => ⟨#[], by rw [e]; simp⟩) (fun m hm => ?_) (fun b u e => ?_) I.bare
  · obtain ⟨o, es, ep, ho, r⟩ := hm
    exact ⟨o, es, ep, k _ o (fun z => (hf _ z).2.1 rfl) ho, r⟩
  · refine (I.hok b u e).stay (fun c v hc q => k c v ?_ q) (fun _ q => q) fun _ _ q => q
    rcases hc with z | z
    · rw [z]; exact nit b u e
    · exact nit c _ z
theorem Inv.turnedNew {t' : Nat} {ch : List Addr} {T : Addr} {ob : HO} (I : Inv X pins σ H s) (k : ∀ b o, b ∉ ch → s.heap.get? b = some o → h'.get? b = some o) (hf : ∀ b ∈ ch, FpOk X pins H b) (hT : s.heap.objs.size ≤ T)
    (new : ObjOk X.prog X.w (upd H T ob) h' T ob) : Inv X pins σ (upd H T ob) { s with heap := h', toks := t' } := by
  have hn : H T = none := I.hok.fresh hT
  have nit : ∀ b u, H b = some u → b ∉ ch := fun b u e z => by
    have q := (hf b z).1
    rw [q] at e; cases e
  refine I.step (g' := s.gens) (d' := s.drawn) (ch := ch) (fun b hb => ⟨(hf b hb).2.2.2.1, (hf b hb).2.1, (hf b hb).2.2.2.2.1, (hf b hb).2.2.2.2.2⟩) (fun b o _ _ hc e _ => k b o hc e) (fun b o _ _ hc e _ => ⟨o.slots, k b o hc e⟩)
    (fun b o _ e n => ?_) (fun b o hc e => ⟨o, k b o hc e⟩) (fun b xs e => ?_) (fun b o u e => ?_) (fun b ps e => ⟨#[], ?_⟩) (fun m hm => ?_) (fun b u e => ?_) I.bare
  · rw [upd_ne (Nat.ne_of_lt (Nat.lt_of_lt_of_le (Heap.lt_size e) hT))]; exact n
  · rw [upd_ne (ne_of_none e hn)]; exact e
  · rw [upd_ne (ne_of_none e hn)]; exact e
  · rw [upd_ne (ne_of_none e hn), e]; simp
  · obtain ⟨o, es, ep, ho, r⟩ := hm
    exact ⟨o, es, ep, k _ o (fun z => (hf _ z).2.1 rfl) ho, r⟩
  · by_cases hb : b = T
    · subst hb
      rw [upd_same] at e
      cases e
      exact new
    · rw [upd_ne hb] at e
      refine (I.hok b u e).stay (fun c v hc q => k c v ?_ q) (fun c q => by rw [upd_ne (ne_of_none q hn)]; exact q) fun c xs q => by rw [upd_ne (ne_of_none q hn)]; exact q
      rcases hc with z | z
      · rw [z]; exact nit b u e
      · exact nit c _ z
theorem Inv.lock {d : Addr} {u : HO} (I : Inv X pins σ H s) (h : H d = some u) (mu : Mut (some u)) : ∃ od, Inv X pins σ (upd H d (.frz od u)) s := by
  have x := I.hok d u h
  have ex : ∃ od, s.heap.get? d = some od := by
    cases u with
    | lst xs => obtain ⟨_, _, _, _, e⟩ := x; exact ⟨_, e⟩
    | dK kvs => obtain ⟨_, _, _, _, o, _, _, e, _⟩ := x; exact ⟨o, e⟩
    | dT kvs => obtain ⟨_, _, _, _, o, _, _, e, _⟩ := x; exact ⟨o, e⟩
    | set S n => obtain ⟨o, _, _, _, e, _⟩ := x; exact ⟨o, e⟩
    | ins C dx fs => obtain ⟨_, _, _, e, _⟩ := x; exact ⟨_, e⟩
    | ext φ => obtain ⟨_, ⟨_, e⟩, _⟩ := x; exact ⟨_, e⟩
    | _ => exact False.elim mu
  obtain ⟨od, e⟩ := ex
  have new : ObjOk X.prog X.w (upd H d (.frz od u)) s.heap d (.frz od u) := by
    refine ⟨e, x.stay (fun b v _ q => q) (fun b q => ?_) fun b xs q => ?_⟩
    · rw [upd_ne (fun z => by rw [z, h] at q; cases q; exact mu)]; exact q
    · rw [upd_ne (fun z => by rw [z, h] at q; cases q; exact mu)]; exact q
  exact ⟨od, I.write (x := d) (e := d) (t' := s.toks) (h' := s.heap) (by rw [h]; exact mu) (.inl rfl) (fun b v _ q => q) ⟨od, e⟩ new⟩
theorem Inv.nofrz {d : Addr} {u : HO} (I : Inv X pins σ H s) (h : H d = some u) (mu : Mut (some u)) : ∀ o' u', X.H_0 d ≠ some (.frz o' u') := fun o' u' e => by
  have q := I.base.frzs d o' u' e
  rw [h] at q
  cases q
  exact mu
theorem Inv.unlock {d : Addr} {od : Obj} {u : HO} (I : Inv X pins σ H s) (h : H d = some (.frz od u)) (hn : ∀ o' u', X.H_0 d ≠ some (.frz o' u')) : Inv X pins σ (upd H d u) s := by
  have neH : ∀ b o, H b = some o → (∀ o' u', o ≠ .frz o' u') → b ≠ d := fun b o e hne z => by
    rw [z, h] at e
    cases e
    exact hne _ _ rfl
  have neN : ∀ b, H b = none → b ≠ d := fun b e z => by rw [z, h] at e; cases e
  refine ⟨I.ok, I.os, I.bare, ⟨I.base.keep, I.base.slot, fun b o e n hx => ?_, I.base.there, fun b xs e => ?_, fun b o x e => ?_, fun b ps e => ?_⟩, I.loc, I.cell, ?_, fun x c e => ?_, fun p hp => ?_, fun b o e => ?_, I.len⟩
  · rw [upd_ne (neN b (I.base.free b o e n hx))]; exact I.base.free b o e n hx
  · have q := I.base.tups b xs e
    rw [upd_ne (neH b _ q (fun _ _ z => nomatch z))]; exact q
  · have q := I.base.frzs b o x e
    rw [upd_ne (fun z => by rw [z] at e; exact hn _ _ e)]; exact q
  · obtain ⟨m, q⟩ := I.base.tbls b ps e
    exact ⟨m, by rw [upd_ne (neH b _ q (fun _ _ z => nomatch z))]; exact q⟩
  · rw [upd_ne (neN _ I.free)]; exact I.free
  · rw [upd_ne (neN c (I.freeC x c e))]; exact I.freeC x c e
  · obtain ⟨e, n, r⟩ := I.pin p hp
    exact ⟨e, by rw [upd_ne (neN _ n)]; exact n, r⟩
  · by_cases hb : b = d
    · rw [hb, upd_same] at e
      cases e
      rw [hb]
      obtain ⟨_, x⟩ := I.hok d _ h
      exact x.stay (fun c v _ q => q) (fun c q => by rw [upd_ne (neH c _ q (fun _ _ z => nomatch z))]; exact q) fun c xs q => by rw [upd_ne (neH c _ q (fun _ _ z => nomatch z))]; exact q
    · rw [upd_ne hb] at e
      exact (I.hok b o e).stay (fun c v _ q => q) (fun c q => by rw [upd_ne (neH c _ q (fun _ _ z => nomatch z))]; exact q) fun c xs q => by rw [upd_ne (neH c _ q (fun _ _ z => nomatch z))]; exact q
end
def tLockE (t : TE) : TE := fun σ H Q => ∃ d u, H d = some u ∧ Mut (some u) ∧ ∀ od, t σ (upd H d (.frz od u)) fun v H' => H' d = some (.frz od u) ∧ Q v (upd H' d u)
section
variable {X : Cx}
theorem pe_lock {e : Expr} {t : TE} (h : PE X e t) : PE X e (tLockE t) := by
  intro pins s σ H Q I hw
  obtain ⟨d, u, hd, mu, hw⟩ := hw
  obtain ⟨od, I1⟩ := I.lock hd mu
  refine thn (h pins s σ _ _ I1 (hw od)) fun v s1 ⟨x, H1, I2, r, e2, q⟩ => ?_
  exact ⟨x, _, I2.unlock e2 (I.nofrz hd mu), r, q⟩
theorem pi_one {tg : Expr} {pins : List (Addr × Obj)} {σ : St} {H : Hp} {s : Shared} {R : It → Hp → Prop} {J : It} {tn : Nat → Heap → Prop} {tk : Nat} (I : Inv X pins σ H s) (o : Obj)
    (T : Turn X.prog X.w X.K tg J [s.heap.objs.size] s.heap.objs.size tn) (st : tn 0 (s.heap.push o)) (q : R J H) : PIE X pins σ tg R (.ref s.heap.objs.size) { s with heap := s.heap.push o, toks := tk } := by
  refine ⟨s.heap.objs.size, [s.heap.objs.size], tn, J, H, rfl, I.kept fun b ob e => Heap.get?_push_of_some _ e, T, st, fun b hb => ?_, q⟩
  have e : b = s.heap.objs.size := by simpa using hb
  subst e
  exact I.fpOk (Nat.le_refl _) (I.hok.fresh (Nat.le_refl _))
end
def RgC (i j c : Int) (n : Nat) : Prop := c ≠ 0 ∧ c.natAbs < 1073741824 ∧ Builtin.Range.small i j c = true ∧ Builtin.Range.rangeSize i j c = n
theorem RgC.neg {i j : Int} (ha : -(2 ^ 62) ≤ i) (ha' : i < 2 ^ 62) (hb : -(2 ^ 62) ≤ j) (hb' : j < 2 ^ 62) : RgC i j (-1) (i - j).toNat :=
  ⟨by decide, by decide, PySem.W.small_down ha ha' hb hb', PySem.W.rangeSize_downNat i j⟩
section
variable {X : Cx} {tg : Expr}
end
section
variable {X : Cx} {tg : Expr}
end
section
variable {prog : Program} {w : World} {A : Around} {E : Value → Shared → Prop} {s : Shared}
theorem iter_keys {d : Addr} {o : Obj} {es : Array DictEntry} {ep : Nat} {Q : Value → Shared → Prop} (hd : (d == sysModules) = false) (ho : s.heap.get? d = some o) (hc : o.ExactDict) (hdat : o.data = .dict es ep)
    (hQ : Q (.ref s.heap.objs.size) { s with heap := s.heap.push { cls := .type "dict_keyiterator", data := .fields #[.ref d, .int 0 0, .int es.size 0, .int ep 0] } }) :
    wpAny (model prog w) A (pyIter (.ref d)) Q E s := by
  have hT : s.TypeIs (.ref d) "dict" := ⟨o, ho, hc.1⟩
  refine wpAny_pyIter_slot hT F.slot_dict_iter (wpAny_call_entry F.slot_dict_iter hT F.entry_dict_iter ?_ (F.args_dict_iter_1 _))
  unfold Builtin.«dict.__iter__»
  refine wpAny_bind ?_
  unfold Builtin.Dict.dictSlotNone
  refine wpAny_bind (wpAny_notOrdered_dict hT ?_)
  show wpAny _ _ (pure (Value.ref d)) _ _ s
  refine wpAny_pure ?_
  show wpAny _ _ (Builtin.Dict.showsAll d >>= _) _ _ s
  unfold Builtin.Dict.showsAll
  rw [if_neg (by rw [hd]; exact Bool.false_ne_true)]
  refine wpAny_bind (wpAny_pure ?_)
  refine wpAny_bind (wpAny_dictEntries ho hdat ?_)
  refine wpAny_bind (wpAny_dictEpoch ho hdat ?_)
  refine wpAny_bind (wpAny_newObj_type (wpAny_pure ⟨_, rfl, "dict_keyiterator", _, ⟨_, Heap.get?_push_size _ rfl, rfl⟩, F.slot_dict_keyiterator_next.lookup, ?_⟩))
  simpa [rawInt] using hQ
theorem next_key_item {it d : Addr} {i n ep : Nat} {od : Obj} {es : Array DictEntry} {en : DictEntry} {Q : Option Value → Shared → Prop} (hit : s.heap.IsKeyIter it d i n ep) (hod : s.heap.get? d = some od) (hdd : od.data = .dict es ep)
    (hsz : es.size = n) (hx : es[i]? = some en) (hQ : ∀ h', h'.IsKeyIter it d (i + 1) n ep → Heap.SameBut it s.heap h' → Q (some en.key) { s with heap := h' }) : wpAny (model prog w) A (pyNext (.ref it)) Q E s := by
  obtain ⟨o, ho, hc, hd⟩ := id hit
  unfold pyNext
  refine wpAny_bind (wpAny_attempt (wpAny_callSpecial?_slot (name := Str.ofString "__next__") hit.typeIs F.slot_dict_keyiterator_next
    (wpAny_call_entry F.slot_dict_keyiterator_next hit.typeIs F.entry_dict_keyiterator_next ?_ (F.args_dict_keyiterator_next_1 _))))
  refine wpAny_bind (wpAny_pure ?_)
  refine wpAny_bind ?_
  refine wpAny_bind ?_
  first | refine wpAny_bind (wpAny_typeNameOfWhole_keyiter hit.typeIs (wpAny_pure ?_)) | refine wpAny_bind (wpAny_typeNameOf_keyiter hit.typeIs (wpAny_pure ?_))
  refine wpAny_bind (wpAny_fieldsOf ho hd ?_)
  have hown : Builtin.Dict_items.ownsTuple "dict_keyiterator" = false := by decide
  simp only [hown, Bool.false_eq_true, if_false]
  show wpAny _ _ (if (Value.ref d == Value.none) = true then _ else _) _ _ s
  rw [if_neg (show ¬ ((Value.ref d == Value.none) = true) from Bool.false_ne_true)]
  refine wpAny_bind (wpAny_pure ?_)
  refine wpAny_bind (wpAny_dictEntries hod hdd ?_)
  rw [if_neg (by rw [hsz]; simp)]
  refine wpAny_bind (wpAny_pure ?_)
  refine wpAny_bind (wpAny_dictEpoch hod hdd ?_)
  rw [if_neg (by simp)]
  refine wpAny_pure ?_
  obtain ⟨hlt', hen⟩ := Array.getElem?_eq_some_iff.mp hx
  simp only [show ¬ ((i : Int) < 0) from by omega, if_false, Int.toNat_natCast, Array.getElem?_eq_getElem hlt']
  refine wpAny_bind ?_
  first | refine wpAny_bind (wpAny_typeNameOfWhole_keyiter hit.typeIs (wpAny_pure ?_)) | refine wpAny_bind (wpAny_typeNameOf_keyiter hit.typeIs (wpAny_pure ?_))
  refine wpAny_bind (wpAny_isOneOf_keyiter hit.typeIs ?_)
  show wpAny _ _ (setField (.ref it) 1 (rawInt ((i : Int) + 1)) >>= _) _ _ s
  refine wpAny_bind (wpAny_setField ho hd (by simp) ?_)
  have hit' : (s.heap.update it (Obj.mapFields (·.setIfInBounds 1 (rawInt ((i : Int) + 1))))).IsKeyIter it d (i + 1) n ep :=
    ⟨_, Heap.get?_update_self _ ho (Obj.isFreed_of_fields (Obj.data_mapFields hd _)), (Obj.cls_mapFields ..).trans hc, by rw [Obj.data_mapFields hd]; simp [rawInt]⟩
  refine wpAny_bind (wpAny_holding ?_)
  refine wpAny_bind (wpAny_isOneOf_keyiter (s := { s with heap := s.heap.update it (Obj.mapFields (·.setIfInBounds 1 (rawInt ((i : Int) + 1)))) }) hit'.typeIs ?_)
  show wpAny _ _ (pure es[i].key) _ _ _
  rw [hen]
  exact wpAny_pure (wpAny_pure ⟨_, rfl, wpAny_pure (hQ _ hit' (Heap.SameBut.update ..))⟩)
theorem next_key_end {it d : Addr} {i n ep : Nat} {od : Obj} {es : Array DictEntry} {Q : Option Value → Shared → Prop} (hh : A.handled = none) (hit : s.heap.IsKeyIter it d i n ep) (hod : s.heap.get? d = some od) (hdd : od.data = .dict es ep)
    (hsz : es.size = n) (hge : n ≤ i) (hQ : ∀ h', Heap.ExtBut it s.heap h' → Q none { s with heap := h' }) : wpAny (model prog w) A (pyNext (.ref it)) Q E s := by
  obtain ⟨o, ho, hc, hd⟩ := id hit
  unfold pyNext
  refine wpAny_bind (wpAny_attempt (wpAny_callSpecial?_slot (name := Str.ofString "__next__") hit.typeIs F.slot_dict_keyiterator_next
    (wpAny_call_entry F.slot_dict_keyiterator_next hit.typeIs F.entry_dict_keyiterator_next ?_ (F.args_dict_keyiterator_next_1 _))))
  refine wpAny_bind (wpAny_pure ?_)
  refine wpAny_bind ?_
  refine wpAny_bind ?_
  first | refine wpAny_bind (wpAny_typeNameOfWhole_keyiter hit.typeIs (wpAny_pure ?_)) | refine wpAny_bind (wpAny_typeNameOf_keyiter hit.typeIs (wpAny_pure ?_))
  refine wpAny_bind (wpAny_fieldsOf ho hd ?_)
  have hown : Builtin.Dict_items.ownsTuple "dict_keyiterator" = false := by decide
  simp only [hown, Bool.false_eq_true, if_false]
  show wpAny _ _ (if (Value.ref d == Value.none) = true then _ else _) _ _ s
  rw [if_neg (show ¬ ((Value.ref d == Value.none) = true) from Bool.false_ne_true)]
  refine wpAny_bind (wpAny_pure ?_)
  refine wpAny_bind (wpAny_dictEntries hod hdd ?_)
  rw [if_neg (by rw [hsz]; simp)]
  refine wpAny_bind (wpAny_pure ?_)
  refine wpAny_bind (wpAny_dictEpoch hod hdd ?_)
  rw [if_neg (by simp)]
  refine wpAny_pure ?_
  have hge' : es.size ≤ i := by rw [hsz]; exact hge
  simp only [show ¬ ((i : Int) < 0) from by omega, if_false, Int.toNat_natCast, Array.getElem?_eq_none hge']
  refine wpAny_bind ?_
  first | refine wpAny_bind (wpAny_typeNameOfWhole_keyiter hit.typeIs (wpAny_pure ?_)) | refine wpAny_bind (wpAny_typeNameOf_keyiter hit.typeIs (wpAny_pure ?_))
  show wpAny _ _ (setField (.ref it) 0 .none >>= _) _ _ s
  refine wpAny_bind (wpAny_setField ho hd (by simp) ?_)
  show wpAny _ _ (newExc (.type "StopIteration") [] >>= _) _ _ _
  refine wpAny_bind ?_
  simp only [newExc, newTuple]
  refine wpAny_bind (wpAny_newObj_type ?_ (by size_fits))
  refine wpAny_bind (m := firstArgMember _ _) (wpAny_of_eq (a := Value.none) (by first | rfl | (simp only [firstArgMember]; rfl)) ?_)
  refine wpAny_newObj_type ?_ (by size_fits)
  simp only [raiseNew]
  refine wpAny_bind (wpAny_handled ?_)
  rw [show A.in1.handled = none from hh]
  refine wpAny_bind (wpAny_pure (wpAny_throw ?_))
  refine wpAny_bind (wpAny_isInstance (T := "StopIteration") (b := true) ⟨_, Heap.get?_push_size _ rfl, rfl⟩ isSubtype_stop ?_)
  exact wpAny_pure (hQ _ (((Heap.SameBut.update ..).extBut.push _).push _))
end
theorem kv_get {κ : Type} {kvs : List (κ × V)} {vs : List (κ × Value)} (h : KV kvs vs) : ∀ {i : Nat} {k : κ} {v : V}, kvs[i]? = some (k, v) → ∃ u, vs[i]? = some (k, u) ∧ RelV v u := by
  unfold KV at h
  induction h with
  | nil => intro i k v e; simp at e
  | @cons a b l₁ l₂ r t ih =>
    intro i k v e
    cases i with
    | zero =>
      simp only [List.getElem?_cons_zero, Option.some.injEq] at e
      subst e
      refine ⟨b.2, ?_, r.2⟩
      simp only [List.getElem?_cons_zero]
      exact congrArg some (Prod.ext r.1.symm rfl)
    | succ j =>
      simp only [List.getElem?_cons_succ] at e ⊢
      exact ih e
theorem paired_get {α β : Type} {G : α → β → Prop} {l₁ : List α} {l₂ : List β} (h : Paired G l₁ l₂) : ∀ {i : Nat} {a : α}, l₁[i]? = some a → ∃ b, l₂[i]? = some b ∧ G a b := by
  induction h with
  | nil => intro i a e; simp at e
  | @cons a b l₁ l₂ r t ih =>
    intro i a' e
    cases i with
    | zero =>
      simp only [List.getElem?_cons_zero, Option.some.injEq] at e
      subst e
      exact ⟨b, rfl, r⟩
    | succ j =>
      simp only [List.getElem?_cons_succ] at e ⊢
      exact ih e
theorem relV_key {k : Key} {u : Value} (h : keyIs k u = true) : RelV (kV k) u := by
  rcases keyIs_shape h with ⟨i, t, rfl, rfl⟩ | ⟨x, t, rfl, rfl⟩
  · exact ⟨t, rfl⟩
  · exact ⟨t, rfl⟩
section
variable {X : Cx} {pins : List (Addr × Obj)} {σ : St} {H : Hp} {s : Shared} {d : Addr} {o : Obj}
theorem Inv.frzK {kvs : List (Key × V)} (I : Inv X pins σ H s) (h : H d = some (.frz o (.dK kvs))) :
    (d == sysModules) = false ∧ s.heap.get? d = some o ∧ o.ExactDict ∧ ∃ (es : Array DictEntry) (ep : Nat) (vs : List (Key × Value)), o.data = .dict es ep ∧ es.size = kvs.length ∧ KV kvs vs ∧ s.heap.DictAt (mixKind X.prog X.w) d vs ep := by
  obtain ⟨hd, z, hs, vs, kv, o', es, ep, ho, hx, hdt, r⟩ := I.hok d _ h
  rw [hd] at ho
  cases ho
  refine ⟨hs, hd, hx, es, ep, vs, hdt, ?_, kv, o, es, hd, hx, hdt, r⟩
  have l1 := r.2.1.length
  have l2 : kvs.length = vs.length := Paired.length kv
  rw [Array.length_toList] at l1
  omega
theorem Inv.frzT {kvs : List (List Key × V)} (I : Inv X pins σ H s) (h : H d = some (.frz o (.dT kvs))) :
    (d == sysModules) = false ∧ s.heap.get? d = some o ∧ o.ExactDict ∧ ∃ (es : Array DictEntry) (ep : Nat), o.data = .dict es ep ∧ es.size = kvs.length ∧
      ∀ (i : Nat) (k : List Key) (v : V), kvs[i]? = some (k, v) → ∃ (en : DictEntry) (q : Addr), es[i]? = some en ∧ en.key = .ref q ∧ H q = some (.tup (k.map kV)) := by
  obtain ⟨hd, z, hs, xs, pr, o', es, ep, ho, hx, hdt, he, _⟩ := I.hok d _ h
  rw [hd] at ho
  cases ho
  refine ⟨hs, hd, hx, es, ep, hdt, ?_, fun i k v e => ?_⟩
  · have l1 : es.size = xs.length := size_of_entries he
    have l2 : kvs.length = xs.length := Paired.length pr
    omega
  · obtain ⟨b, hb, e1, e2, _⟩ := paired_get pr e
    have q := entry_at he i
    rw [hb] at q
    exact ⟨_, b.2.1, q, rfl, e2⟩
end
def Itk (d : Addr) (o : Obj) (kvs : List (Key × V)) : It :=
  ⟨fun i H => H d = some (.frz o (.dK kvs)) ∧ i < kvs.length, fun i H x H' => H' = H ∧ ∃ k v, kvs[i]? = some (k, v) ∧ x = kV k, fun i H => H d = some (.frz o (.dK kvs)) ∧ kvs.length ≤ i⟩
def Itkt (d : Addr) (o : Obj) (kvs : List (List Key × V)) : It :=
  ⟨fun i H => H d = some (.frz o (.dT kvs)) ∧ i < kvs.length, fun i H x H' => H' = H ∧ ∃ (k : List Key) (v : V) (q : Addr), kvs[i]? = some (k, v) ∧ x = .ref q ∧ H q = some (.tup (k.map kV)), fun i H => H d = some (.frz o (.dT kvs)) ∧ kvs.length ≤ i⟩
theorem dict_ep {o : Obj} {es es' : Array DictEntry} {ep ep' : Nat} (h : o.data = .dict es ep) (h' : o.data = .dict es' ep') : es' = es ∧ ep' = ep := by
  rw [h] at h'
  cases h'
  exact ⟨rfl, rfl⟩
section
variable {P : Program} {w : World} {K : PySem.W.Frag} {tg : Expr} {d : Addr} {o : Obj} {es : Array DictEntry} {ep : Nat}
theorem turn_keys {kvs : List (Key × V)} (it : Addr) (hod : o.data = .dict es ep) : Turn P w K tg (Itk d o kvs) [it] it (fun i h => h.IsKeyIter it d i kvs.length ep) where
  mem := by simp
  obj := fun i h st b hb => by
    have e : b = it := by simpa using hb
    subst e
    obtain ⟨oi, e, c, dd⟩ := st
    exact ⟨oi, e, fun v z => by rw [dd] at z; cases z⟩
  keep := fun i h h' st k => st.at fun oi e => k it (by simp) oi e
  item := by
    intro X hP hw hK hc i pins s σ H E I hf st hg
    subst hP hw hK
    obtain ⟨hd, hi⟩ := hg
    obtain ⟨f0, f1, f2, f3, f4, f5⟩ := hf it (by simp)
    obtain ⟨hs, hgd, hx, es', ep', vs, hdt, hsz, kv, hm⟩ := I.frzK hd
    obtain ⟨rfl, rfl⟩ := dict_ep hod hdt
    obtain ⟨⟨k, v⟩, hkv⟩ : ∃ p, kvs[i]? = some p := ⟨kvs[i], List.getElem?_eq_getElem hi⟩
    obtain ⟨u, hu, ru⟩ := kv_get kv hkv
    have hl : kvs.length = vs.length := Paired.length kv
    rw [hl] at st
    refine wpAny_pyNext_dict_item st hm hu fun key h' hkey st' sb => ?_
    have I1 : Inv X pins σ H { s with heap := h' } := I.turned (t' := s.toks) (fun b ob hb e => (sb.2 b hb).trans e) f0 f1 f3 f4 f5
    obtain ⟨oi, e, c, dd⟩ := id st'
    refine ⟨key, rfl, go_of (s := { s with heap := h' }) e c dd (by decide) ⟨kV k, H, I1, relV_key (show keyIs k key = true from hkey), ⟨rfl, k, v, hkv, rfl⟩, ?_, fun b hb => (hf b hb).1⟩⟩
    show h'.IsKeyIter it d (i + 1) kvs.length _
    rw [hl]
    exact st'
  done := by
    intro X hP hw hK hc i pins s σ H E I hf st hg
    subst hP hw hK
    obtain ⟨hd, hi⟩ := hg
    obtain ⟨f0, f1, f2, f3, f4, f5⟩ := hf it (by simp)
    obtain ⟨hs, hgd, hx, es', ep', vs, hdt, hsz, kv, hm⟩ := I.frzK hd
    obtain ⟨rfl, rfl⟩ := dict_ep hod hdt
    exact next_key_end (I.ok.hd hc) st hgd hdt hsz hi fun h' eb => ⟨rfl, I.turned (t' := s.toks) (fun b ob hb e => eb b ob hb e) f0 f1 f3 f4 f5⟩
  self := fun A i s Q E st h => wpAny_pyIter_keyiter st h
theorem turn_keysT {kvs : List (List Key × V)} (it : Addr) (hod : o.data = .dict es ep) : Turn P w K tg (Itkt d o kvs) [it] it (fun i h => h.IsKeyIter it d i kvs.length ep) where
  mem := by simp
  obj := fun i h st b hb => by
    have e : b = it := by simpa using hb
    subst e
    obtain ⟨oi, e, c, dd⟩ := st
    exact ⟨oi, e, fun v z => by rw [dd] at z; cases z⟩
  keep := fun i h h' st k => st.at fun oi e => k it (by simp) oi e
  item := by
    intro X hP hw hK hc i pins s σ H E I hf st hg
    subst hP hw hK
    obtain ⟨hd, hi⟩ := hg
    obtain ⟨f0, f1, f2, f3, f4, f5⟩ := hf it (by simp)
    obtain ⟨hs, hgd, hx, es', ep', hdt, hsz, ent⟩ := I.frzT hd
    obtain ⟨rfl, rfl⟩ := dict_ep hod hdt
    obtain ⟨⟨k, v⟩, hkv⟩ : ∃ p, kvs[i]? = some p := ⟨kvs[i], List.getElem?_eq_getElem hi⟩
    obtain ⟨en, q, hen, hkey, hq⟩ := ent i k v hkv
    refine next_key_item st hgd hdt hsz hen fun h' st' sb => ?_
    have I1 : Inv X pins σ H { s with heap := h' } := I.turned (t' := s.toks) (fun b ob hb e => (sb.2 b hb).trans e) f0 f1 f3 f4 f5
    obtain ⟨oi, e, c, dd⟩ := id st'
    exact ⟨en.key, rfl, go_of (s := { s with heap := h' }) e c dd (by decide) ⟨.ref q, H, I1, hkey, ⟨rfl, k, v, q, hkv, rfl, hq⟩, st', fun b hb => (hf b hb).1⟩⟩
  done := by
    intro X hP hw hK hc i pins s σ H E I hf st hg
    subst hP hw hK
    obtain ⟨hd, hi⟩ := hg
    obtain ⟨f0, f1, f2, f3, f4, f5⟩ := hf it (by simp)
    obtain ⟨hs, hgd, hx, es', ep', hdt, hsz, ent⟩ := I.frzT hd
    obtain ⟨rfl, rfl⟩ := dict_ep hod hdt
    exact next_key_end (I.ok.hd hc) st hgd hdt hsz hi fun h' eb => ⟨rfl, I.turned (t' := s.toks) (fun b ob hb e => eb b ob hb e) f0 f1 f3 f4 f5⟩
  self := fun A i s Q E st h => by
    refine wpAny_pyIter_slot st.typeIs F.slot_dict_keyiterator_iter (wpAny_call_entry F.slot_dict_keyiterator_iter st.typeIs F.entry_dict_keyiterator_iter ?_ (F.args_dict_keyiterator_iter_1 _))
    show wpAny _ _ (ret (.ref it)) _ _ s
    exact wpAny_pure ⟨_, rfl, "dict_keyiterator", _, st.typeIs, F.slot_dict_keyiterator_next.lookup, h⟩
end
def iKeys (td : TE) : TI := fun σ H R => td σ H fun x H1 => ∃ d o, x = .ref d ∧ ((∃ kvs, H1 d = some (.frz o (.dK kvs)) ∧ R (Itk d o kvs) H1) ∨ ∃ kvs, H1 d = some (.frz o (.dT kvs)) ∧ R (Itkt d o kvs) H1)
section
variable {X : Cx} {tg e : Expr} {td : TE} {apos cpos : Pos}
theorem pi_keys (he : PE X e td) : PI X tg e (iKeys td) := by
  intro pins s σ H R I h
  refine thn (he pins s σ H _ I h) fun u s1 ⟨x, H1, I1, rx, d, o, ex, q⟩ => ?_
  subst ex
  obtain rfl : u = Value.ref d := rx
  rcases q with ⟨kvs, hd, q⟩ | ⟨kvs, hd, q⟩
  · obtain ⟨hs, hgd, hx, es, ep, vs, hdt, hsz, kv, hm⟩ := I1.frzK hd
    refine iter_keys hs hgd hx hdt (pi_one (tk := s1.toks) I1 _ (turn_keys _ hdt) ⟨_, Heap.get?_push_size _ rfl, rfl, ?_⟩ q)
    rw [hsz] <;> rfl
  · obtain ⟨hs, hgd, hx, es, ep, hdt, hsz, ent⟩ := I1.frzT hd
    refine iter_keys hs hgd hx hdt (pi_one (tk := s1.toks) I1 _ (turn_keysT _ hdt) ⟨_, Heap.get?_push_size _ rfl, rfl, ?_⟩ q)
    rw [hsz] <;> rfl
end
theorem boot_zip5 : bootBuiltins "zip" = some (.type "zip") := by decide +kernel
end L2
section 
namespace Bits
open PySem PyProof.Rows
end Bits
end 
section 
namespace TL
open PySem PySem.Builtin PySem.Builtin.Str PySem.StrLaws
end TL
end 
namespace L2
open PySem PySem.Spec PyProof.Rows
section
variable {X : Cx} {pins : List (Addr × Obj)} {σ : St} {H : Hp} {s : Shared} {Q : VK}
end
section
variable {X : Cx}
end
section
variable {X : Cx} {o e : Expr} {to te : TE}
end
end L2
namespace L2
open PySem PySem.Spec PyProof.Rows
section
variable {X : Cx}
end
end L2
namespace Att
open PySem PySem.W PySem.Calls PyProof.Rows
section
variable {prog : Program} {w : World} {A : Around} {E : Value → Shared → Prop} {s : Shared} {K : Frag}
end
end Att
namespace L2
open PySem PySem.Spec PyProof.Rows
theorem vals_ints : ∀ {vs : List Value} {ns : List Int}, IntsAre vs ns → Vals (ns.map V.int) vs
  | _, _, .nil => .nil
  | _, _, .cons n t h => .cons ⟨t, rfl⟩ (vals_ints h)
def Only (H : Hp) : Prop := ∀ b, H b = none ∨ ∃ o xs, H b = some (.frz o (.lst xs))
theorem law_call {P : Program} {w : World} {K : PySem.W.Frag} {mg mb : Str → Option Value} {CX : CXT} {k : Nat} {fa a : Addr} {fd : FuncData} {x : Str} {sp : Sp} {s₁ : Shared} {vs : List Value} {ns : List Int}
    (KX : K.In s₁.heap) (hns : s₁.heap.Ns mainGlobals mg) (hb : s₁.heap.Ns builtinsNs mb) (hbb : ∀ x : Str, x ≠ "__name__" → mb x = bootBuiltins x) (hlim : s₁.heap.NoLimit) (hg : s₁.gens = #[])
    (ha : s₁.heap.get? a = some { cls := .type "list", data := .seq vs.toArray }) (hi : IntsAre vs ns) (hl : ns.length ≤ sizeLine) (hr : Room k callerA)
    (F : ∀ base : Heap, K.In base → base.Ns mainGlobals mg → FnOk P w K mg base CX k fa fd [x] sp) (hbind : ∀ (s : Shared) (u : Value), BindsTo s fd ⟨[u], []⟩ [(x, u)])
    (hsp : ∀ H : Hp, Only H → SqL K H a (ns.map V.int) → sp [.ref a] H (fun v _ => v = .bl true) fun _ _ _ => False)
    (hCX : ∀ H e s', CX [] H s₁ (fun _ _ _ => False) e s' → False) :
    codeAny (model P w) callerA (.call (.ref fa) ⟨[.ref a], []⟩) (fun r s' => r = .ok (.ret (.bool true)) ∧ OldK s₁.heap s'.heap ∧ s'.os = s₁.os ∧ AllBare s'.gens) s₁ := by
  have rv := vals_ints hi
  have lenV := hi.length
  have core : ∀ H : Hp, Only H → SqL K H a (ns.map V.int) → HOk P w H s₁.heap → (∀ b, H b ≠ none → b = a) → (H a ≠ none → K.lookup a = none) →
      codeAny (model P w) callerA (.call (.ref fa) ⟨[.ref a], []⟩) (fun r s' => r = .ok (.ret (.bool true)) ∧ OldK s₁.heap s'.heap ∧ s'.os = s₁.os ∧ AllBare s'.gens) s₁ := by
    intro H hO hS hok hA hK
    have base_of : ∀ {b : Addr} {o : Obj}, s₁.heap.get? b = some o → H b = none → (hidT s₁.heap H).get? b = some o := fun e n => hidT_get e n
    have noA : ∀ {b : Addr} {o : Obj} {es : Array DictEntry} {ep : Nat}, s₁.heap.get? b = some o → o.data = .dict es ep → H b = none := fun {b o es ep} e d => by
      cases q : H b with
      | none => rfl
      | some u =>
        have e' : b = a := hA b (by rw [q]; simp)
        subst e'
        rw [ha] at e; cases e
        have d' : Data.seq vs.toArray _ = Data.dict es ep := d
        cases d'
    have nsK : ∀ {b : Addr} {m : Str → Option Value}, s₁.heap.Ns b m → (hidT s₁.heap H).Ns b m := fun {b m} ⟨o, es, ep, e, d, r⟩ => ⟨o, es, ep, base_of e (noA e d), d, r⟩
    have hKb : K.In (hidT s₁.heap H) := fun b o e => base_of (KX b o e) (by
      cases q : H b with
      | none => rfl
      | some u =>
        have e' : b = a := hA b (by rw [q]; simp)
        subst e'
        rw [hK (by rw [q]; simp)] at e; cases e)
    have hM : Mod K mg (hidT s₁.heap H) := ⟨hKb, nsK hns, ⟨mb, nsK hb, hbb⟩, let ⟨mc, h1, h2⟩ := hlim; ⟨mc, nsK h1, h2⟩⟩
    have e0 : Env0 P w K mg (hidT s₁.heap H) callerA [] s₁ H := ⟨rfl, hM, fun b o e => of_hidT e, Nat.le_of_eq (hidT_size _ _), trivial, fun b hb => absurd (show b ∈ ([] : List Addr) from hb) (by simp), hok, .of_eq hg⟩
    refine codeAny_mono ((F _ hKb (nsK hns)).run callerA [] s₁ H ⟨[.ref a], []⟩ [.ref a] [.ref a] _ _ hr e0 (hbind s₁ (.ref a)) (.cons rfl .nil) (hsp H hO hS)) fun r s' h => ?_
    cases r with
    | error e => exact (hCX H e s' h).elim
    | ok fl =>
      cases fl with
      | next => exact False.elim h
      | brk => exact False.elim h
      | cont => exact False.elim h
      | ret u =>
        obtain ⟨v, H', os, bare, un, hok', r', q⟩ := h
        have q' : v = .bl true := q
        subst q'
        obtain rfl : u = Value.bool true := r'
        refine ⟨rfl, OldK.of_keep fun b o e => ?_, os, bare⟩
        cases q : H b with
        | none => exact un.keep b o e q (by intro z; exact absurd (show b ∈ ([] : List Addr) from z) (by simp)) (by simp)
        | some u =>
          rcases hO b with z | ⟨ob, xs, z⟩
          · rw [q] at z; cases z
          · have z2 := un.frzs b ob _ z
            obtain ⟨e1, _⟩ := hok b _ z
            obtain ⟨e2, _⟩ := hok' b _ z2
            rw [e] at e1; cases e1
            exact e2
  cases hk : K.lookup a with
  | some o =>
    have e := KX a o hk
    rw [ha] at e
    cases e
    refine core (fun _ => none) (fun _ => .inl rfl) (.inr ⟨_, vs.toArray, _, hk, rfl, rfl, rfl, by rw [List.size_toArray, lenV]; exact hl, by simpa using rv⟩) (fun b u z => by have z' : (none : Option HO) = some u := z; cases z') (fun b z => absurd rfl z) fun z => absurd rfl z
  | none =>
    refine core (fun b => if b = a then some (.frz { cls := .type "list", data := .seq vs.toArray } (.lst (ns.map V.int))) else none) (fun b => ?_) (.inl (.inr ⟨{ cls := .type "list", data := .seq vs.toArray }, if_pos rfl⟩)) (fun b u z => ?_) (fun b z => ?_) fun _ => hk
    · by_cases hb : b = a
      · exact .inr ⟨_, _, if_pos hb⟩
      · exact .inl (if_neg hb)
    · by_cases hb : b = a
      · have z' := (if_pos hb).symm.trans z
        cases z'
        subst hb
        exact ⟨ha, by rw [List.length_map]; exact hl, vs, _, rv, ha⟩
      · have z' := (if_neg hb).symm.trans z
        cases z'
    · by_cases hb : b = a
      · exact hb
      · exact absurd (if_neg hb) z
end L2
namespace L2
open PySem PySem.Spec PyProof.Rows
end L2
/- THE LAST THEOREM (shape; LID, My.* are yours):
   My.Adr: a structure of the addresses that your layer names (classes, functions); My.Txt K t: a structure (Prop) of the equations over K;
   My.txt_mk : {K} {implicit addresses ..} (e1 : nsIn K mainGlobals "law" = some (some (.ref f))) (e2 : K.lookup f = some ⟨oc, od, .func (fnOf "law" "law" params body scope dV kV doc pm an cdv ct), sl⟩) (e3 : codeIn K cdv "law" = true) .. : ∃ t, My.Txt K t
set_option maxRecDepth 100000 in
set_option maxHeartbeats 0 in
theorem PySem.Challenge.cw_LID_holds : PySem.Challenge.rw_LID.Holds := by
  w_on; o_law; k_head; (case hw => w_witness2)
  k_fill
  refine L2.walk_of (l := PySem.Challenge.rw_LID) (n := 63) (k := 40) (x := "script") (CX := fun w => ..) (sp := fun _ => My.sp_law) rfl (by decide) rfl ⟨rfl, by decide, by decide⟩ (fun w h Y => PySem.W.kIn_of Y) ?F ?S ?C
  case F =>
    intro w mg fa h KX G hmg
    have T : ∃ t, My.Txt (L2.KOf KX) t := by
      dsimp only [L2.KOf]                          -- K must stand as «<heap const> w.params» for k_is
      refine' My.txt_mk ?e1 ?e2 ?e3 ..
      (case e1 => PySem.W.k_is)                    -- in the order: a name -> its address -> its object -> its parts
      (case e2 => PySem.W.k_is)
      ..
    obtain ⟨t, T⟩ := T
    have e0 := hmg.symm.trans (PySem.W.mg_of KX G T.law)
    cases e0                                       -- fa is the law's own address
    exact ⟨_, fun s u => .of_eq rfl, fun base kb nb => My.law_fn T kb nb⟩     -- if «.of_eq rfl» comes too early: refine' ⟨_, ?b, fun base kb nb => My.law_fn T kb nb⟩; exact fun s u => .of_eq rfl
  case S => exact fun w H a ns hl hO hS => ..
  case C => exact ..
(the tactic k_is has no namespace: write k_is) -/
namespace L2
open PySem PySem.Spec PyProof.Rows
def inClass (s : Stmt) (j : Nat) : Stmt := match s with
  | .ClassDef _ _ _ body _ _ _ _ _ _ _ => body.getD j (.Pass ⟨0, 0, 0, 0⟩)
  | _ => .Pass ⟨0, 0, 0, 0⟩
def defArgs (s : Stmt) : Arguments := match s with
  | .FunctionDef _ a _ _ _ _ _ _ _ _ => a
  | _ => { posonlyargs := [], args := [], vararg := none, kwonlyargs := [], kw_defaults := [], kwarg := none, defaults := [] }
def defBody (s : Stmt) : List Stmt := match s with
  | .FunctionDef _ _ b _ _ _ _ _ _ _ => b
  | _ => []
def defScope (s : Stmt) : Scope := match s with
  | .FunctionDef _ _ _ _ _ _ sc _ _ _ => sc
  | _ => { kind := .function, names := [], isGenerator := false, isCoroutine := false }
abbrev CX0 : CXT := fun _ _ _ _ _ _ => False
abbrev E0 : XK := fun _ _ _ => False
theorem pass0 {X : Cx} : Passes CX0 X E0 := fun _ _ _ _ _ _ _ h => h.elim
structure Fun (K : PySem.W.Frag) (x qual : Str) (st : Stmt) (f : Addr) (fd : FuncData) : Prop where
  ex : ∃ (oc : Value) (od : Option Addr) (kV doc pm : Value) (an : Option Addr) (cdv ct : Value) (osl : Array (Option Value)),
    fd = PySem.W.fnOf x qual (defArgs st) (defBody st) (defScope st) .none kV doc pm an cdv ct ∧ K.lookup f = some ⟨oc, od, .func fd, osl⟩ ∧ PySem.W.codeIn K cdv qual = true
  kp : PySem.W.keepIn K (.ref f) = true
section
variable {P : Program} {w : World} {K : PySem.W.Frag} {mg : Str → Option Value} {base : Heap}
theorem Fun.ok {x qual : Str} {st : Stmt} {f : Addr} {fd : FuncData} {N ps : List Str} {k : Nat} {sp : Sp} (F : Fun K x qual st f fd) (S : FnScope N ps (defScope st)) (len : ∀ vs H Q E, sp vs H Q E → vs.length = ps.length)
    (hbody : ∀ (cdv : Value) (A : Around) (outer : List Env) (s : Shared) (H : Hp) (vs : List V) (Q : VK) (E : XK), Room k (A.deeper (envOfC qual (defScope st) s.heap.objs.size f cdv)) → sp vs H Q E →
      ∃ t, PSs (cxOf CX0 P w K mg base N qual (defScope st) f cdv A outer s H E).nox (defBody st) t ∧ t { nx := fun _ H' => Q .non H', rt := Q } (start N vs) H) : FnOk P w K mg base CX0 (k + 1) f fd ps sp := by
  obtain ⟨oc, od, kV, doc, pm, an, cdv, ct, osl, rfl, lk, hcd⟩ := F.ex
  refine fn_of lk hcd S len fun A outer s H vs Q E hr hsp => ?_
  obtain ⟨t, h, q⟩ := hbody cdv A outer s H vs Q E hr hsp
  exact ⟨t, h.nox, q⟩
theorem Fun.binds {x qual : Str} {st : Stmt} {f : Addr} {fd : FuncData} {ps : List Str} (F : Fun K x qual st f fd)
    (h : ∀ (kV doc pm : Value) (an : Option Addr) (cdv ct : Value) (us : List Value), us.length = ps.length → bindArgs (PySem.W.fnOf x qual (defArgs st) (defBody st) (defScope st) .none kV doc pm an cdv ct) ⟨us, []⟩ = pure (ps.zip us)) : Binds K fd ps [] := by
  obtain ⟨oc, od, kV, doc, pm, an, cdv, ct, osl, rfl, lk, hcd⟩ := F.ex
  exact .all (h kV doc pm an cdv ct)
theorem fun_mk {x qual : Str} {st : Stmt} {f : Addr} {oc : Value} {od an : Option Addr} {osl : Array (Option Value)} {kV doc pm cdv ct : Value} (l : K.lookup f = some ⟨oc, od, .func (PySem.W.fnOf x qual (defArgs st) (defBody st) (defScope st) .none kV doc pm an cdv ct), osl⟩)
    (c : PySem.W.codeIn K cdv qual = true) (k : PySem.W.keepIn K (.ref f) = true) : Fun K x qual st f (PySem.W.fnOf x qual (defArgs st) (defBody st) (defScope st) .none kV doc pm an cdv ct) := ⟨⟨oc, od, kV, doc, pm, an, cdv, ct, osl, rfl, l, c⟩, k⟩
end
theorem hu_of {A : Around} {k : Nat} (hr : Room k A) : A.units + 1 < cLine := Nat.lt_of_le_of_lt (Nat.add_le_add_left (by decide : 1 ≤ 64) _) hr.units
section
variable {X : Cx}
theorem pv (i : Nat) {x : Str} {pos : Pos} (hN : X.N[i]? = some x := by rfl) (hv : Vis X.env.scope x := by first | exact Or.inl rfl | exact Or.inr (Or.inl rfl) | exact Or.inr (Or.inr rfl)) (hd : (x == ("__debug__" : Str)) = false := by decide)
    (hcd : (x == ("__classdict__" : Str)) = false := by decide) : PE X (.Name x pos) (tVar i) := pe_var hN hv hd hcd
theorem call_lenD : CallR X (.builtin "len") (fun xs H Q => ∃ a kvs, xs = [V.ref a] ∧ H a = some (.dK kvs) ∧ Q (.int kvs.length) H) := by
  intro pins s σ H xs us Q I r h
  obtain ⟨a, kvs, rfl, ha, q⟩ := h
  obtain ⟨u, rfl, ru⟩ := vals1 r
  cases ru
  exact d_len I (.inl ha) fun t s' I' => ⟨.int kvs.length, H, I', ⟨t, rfl⟩, q⟩
end
theorem iteF {A B : Prop} (h : B) : if false = true then A else B := by
  rw [if_neg Bool.false_ne_true]
  exact h
theorem iteT {A B : Prop} (h : A) : if true = true then A else B := by
  rw [if_pos rfl]
  exact h
def Same (H H' : Hp) : Prop := ∀ b o, H b = some o → H' b = some o
theorem Same.refl (H : Hp) : Same H H := fun _ _ h => h
theorem Same.trans {H H1 H2 : Hp} (a : Same H H1) (b : Same H1 H2) : Same H H2 := fun c o h => b c o (a c o h)
theorem Same.free {H H' : Hp} (e : Same H H') {l : Addr} (h : H' l = Option.none) : H l = Option.none := by
  cases q : H l with
  | none => rfl
  | some o =>
    rw [e l o q] at h
    cases h
theorem Same.seq {K : PySem.W.Frag} {H H' : Hp} {a : Addr} {xs : List V} (e : Same H H') (h : SqL K H a xs) : SqL K H' a xs := by
  rcases h with (h | ⟨o, h⟩) | h
  · exact .inl (.inl (e _ _ h))
  · exact .inl (.inr ⟨o, e _ _ h⟩)
  · exact .inr h
section
variable {κ : Type} [DecidableEq κ]
end
theorem nd_ix {α : Type} {l : List α} (hN : l.Nodup) {i j : Nat} {x : α} (a : l[i]? = some x) (b : l[j]? = some x) : i = j := by
  obtain ⟨h1, e1⟩ := List.getElem?_eq_some_iff.mp a
  obtain ⟨h2, e2⟩ := List.getElem?_eq_some_iff.mp b
  exact (List.getElem_inj hN).mp (e1.trans e2.symm)
theorem Same.made {H H1 : Hp} {x dx C : Addr} (nx : H x = Option.none) (nd : H dx = Option.none) (k : ∀ b o, (upd (upd H dx (.own x)) x (.ins C dx [])) b = some o → b ≠ x → H1 b = some o) : Same H H1 := fun b o e =>
  k b o (by rw [upd_ne (ne_of_none e nx), upd_ne (ne_of_none e nd)]; exact e) (ne_of_none e nx)
end L2
section
set_option Elab.async false
set_option linter.all false
set_option maxRecDepth 100000
set_option maxHeartbeats 2000000
namespace L2
open PySem PySem.Spec PyProof.Rows
open PySem.W (WData Codec OpenSpec Well WellAll ReadsW ReadsAllW)
mutual
inductive Dw (K : PySem.W.Frag) (H : Hp) : V → WData → Prop
  | non : Dw K H .non .none
  | bl (b : Bool) : Dw K H (.bl b) (.bool b)
  | int (i : Int) : Dw K H (.int i) (.int i)
  | str (x : Str) : Dw K H (.str x) (.str x)
  | byt (b : Array UInt8) : Dw K H (.byt b) (.bytes b.toList)
  | lst {a : Addr} {xs : List V} {ds : List WData} : SqL K H a xs → DwAll K H xs ds → Dw K H (.ref a) (.list ds)
  | tup {a : Addr} {xs : List V} {ds : List WData} : SqT K H a xs → DwAll K H xs ds → Dw K H (.ref a) (.tuple ds)
inductive DwAll (K : PySem.W.Frag) (H : Hp) : List V → List WData → Prop
  | nil : DwAll K H [] []
  | cons {v : V} {vs : List V} {d : WData} {ds : List WData} : Dw K H v d → DwAll K H vs ds → DwAll K H (v :: vs) (d :: ds)
end
theorem dw_ints {K : PySem.W.Frag} {H : Hp} : ∀ ns : List Int, DwAll K H (ns.map V.int) (ns.map WData.int)
  | [] => .nil
  | n :: r => .cons (.int n) (dw_ints r)
theorem ints_dw {K : PySem.W.Frag} {H : Hp} : ∀ (ns : List Int) (xs : List V), DwAll K H xs (ns.map WData.int) → xs = ns.map V.int
  | [], xs, h => by
    cases h
    rfl
  | n :: r, xs, h => by
    cases h with
    | cons h1 h2 =>
      cases h1
      rw [ints_dw r _ h2] <;> rfl
section
variable {P : Program} {w : World} {K : PySem.W.Frag} {H : Hp} {h : Heap} {R : PySem.W.WRecords} {cl : Str → Option Addr}
theorem sqL_at {a : Addr} {xs : List V} (hok : HOk P w H h) (KX : K.In h) (q : SqL K H a xs) : ∃ (its : List Value) (o : Obj) (n : Nat), Vals xs its ∧ h.get? a = some o ∧ o.cls = .type "list" ∧ o.data = .seq its.toArray n := by
  rcases q with q | ⟨o, its, n, e, hc, _, hd, _, hv⟩
  · obtain ⟨_, its, n, hv, e⟩ := (show ObjOk P w H h a (.lst xs) from q.ok hok)
    exact ⟨its, _, n, hv, e, rfl, rfl⟩
  · exact ⟨its.toList, o, n, hv, KX _ _ e, hc, by simp [hd]⟩
theorem sqT_at {a : Addr} {xs : List V} (hok : HOk P w H h) (KX : K.In h) (q : SqT K H a xs) : ∃ (its : List Value) (o : Obj) (n : Nat), Vals xs its ∧ h.get? a = some o ∧ o.cls = .type "tuple" ∧ o.data = .seq its.toArray n := by
  rcases q with q | ⟨o, its, n, e, hc, hd, _, hv⟩
  · obtain ⟨_, its, hv, o, e, hc, n, hd⟩ := (show ObjOk P w H h a (.tup xs) from q.ok hok)
    exact ⟨its, o, n, hv, e, hc, hd⟩
  · exact ⟨its.toList, o, n, hv, KX _ _ e, hc, by simp [hd]⟩
mutual
theorem Dw.reads (hok : HOk P w H h) (KX : K.In h) : ∀ (d : WData) (v : V) (u : Value), Dw K H v d → RelV v u → ∃ as, ReadsW R cl h u d as
  | .none, _, _, x, r => by
    cases x
    cases r
    exact ⟨_, ReadsW.none⟩
  | .bool b, _, _, x, r => by
    cases x
    cases r
    exact ⟨_, ReadsW.bool b⟩
  | .int i, _, _, x, r => by
    cases x
    obtain ⟨t, rfl⟩ := r
    exact ⟨_, ReadsW.int i t⟩
  | .str s, _, _, x, r => by
    cases x
    obtain ⟨t, rfl⟩ := r
    exact ⟨_, ReadsW.str s t⟩
  | .bytes b, _, _, x, r => by
    cases x
    obtain ⟨t, rfl⟩ := r
    exact ⟨_, ReadsW.bytes _ t⟩
  | .list ds, _, _, x, r => by
    cases x with
    | lst hs ha =>
      cases r
      obtain ⟨its, o, n, rv, ho, hc, hd⟩ := sqL_at hok KX hs
      obtain ⟨as, hr⟩ := Dw.readsAll hok KX ds _ its ha rv
      exact ⟨_, ReadsW.list ho hc hd hr⟩
  | .tuple ds, _, _, x, r => by
    cases x with
    | tup hs ha =>
      cases r
      obtain ⟨its, o, n, rv, ho, hc, hd⟩ := sqT_at hok KX hs
      obtain ⟨as, hr⟩ := Dw.readsAll hok KX ds _ its ha rv
      exact ⟨_, ReadsW.tuple ho hc hd hr⟩
  | .float _, _, _, x, _ => by cases x
  | .dict _, _, _, x, _ => by cases x
  | .bytearray _, _, _, x, _ => by cases x
  | .set _, _, _, x, _ => by cases x
  | .frozenset _, _, _, x, _ => by cases x
  | .obj _ _, _, _, x, _ => by cases x
theorem Dw.readsAll (hok : HOk P w H h) (KX : K.In h) : ∀ (ds : List WData) (vs : List V) (us : List Value), DwAll K H vs ds → Vals vs us → ∃ as, ReadsAllW R cl h us ds as
  | [], _, _, x, r => by
    cases x
    cases r
    exact ⟨_, ReadsAllW.nil⟩
  | d :: ds, _, _, x, r => by
    cases x with
    | cons h1 h2 =>
      cases r with
      | cons r1 r2 =>
        obtain ⟨as, q1⟩ := Dw.reads hok KX d _ _ h1 r1
        obtain ⟨bs, q2⟩ := Dw.readsAll hok KX ds _ _ h2 r2
        exact ⟨_, ReadsAllW.cons q1 q2⟩
end
end
mutual
def plW : WData → Bool
  | .none => true
  | .bool _ => true
  | .int _ => true
  | .str _ => true
  | .bytes _ => true
  | .list xs => plWs xs
  | .tuple xs => plWs xs
  | _ => false
def plWs : List WData → Bool
  | [] => true
  | x :: r => plW x && plWs r
end
theorem plWs_map {α : Type} {f : α → WData} (h : ∀ a, plW (f a) = true) : ∀ l : List α, plWs (l.map f) = true
  | [] => rfl
  | x :: r => by
    show (plW (f x) && plWs (r.map f)) = true
    rw [h x, plWs_map h r] <;> rfl
theorem pl_enc : ∀ (c : Codec) (a : c.denote), plW (c.enc a) = true
  | .unit, _ => rfl
  | .bool, _ => rfl
  | .int _ _, _ => rfl
  | .nat _ _, _ => rfl
  | .u8, _ => rfl
  | .bytes _ _, _ => rfl
  | .text _ _ _ _, _ => rfl
  | .list _ _ c, a => plWs_map (fun x => pl_enc c x) a
  | .pair c d, a => by
    show (plW (c.enc a.1) && (plW (d.enc a.2) && true)) = true
    rw [pl_enc c a.1, pl_enc d a.2] <;> rfl
  | .triple c d e, a => by
    show (plW (c.enc a.1) && (plW (d.enc a.2.1) && (plW (e.enc a.2.2) && true))) = true
    rw [pl_enc c a.1, pl_enc d a.2.1, pl_enc e a.2.2] <;> rfl
  | .option c, none => rfl
  | .option c, some x => pl_enc c x
theorem pl_encAll : ∀ (cs : List Codec) (a : Codec.denoteAll cs), plWs (Codec.encAll cs a) = true
  | [], _ => rfl
  | c :: cs, a => by
    show (plW (c.enc a.1) && plWs (Codec.encAll cs a.2)) = true
    rw [pl_enc c a.1, pl_encAll cs a.2] <;> rfl
theorem weight_mem : ∀ {xs : List WData} {d : WData}, d ∈ xs → d.weight ≤ WData.weightAll xs
  | [], d, h => absurd h (by simp)
  | x :: r, d, h => by
    show d.weight ≤ x.weight + 1 + WData.weightAll r
    rcases List.mem_cons.mp h with e | m
    · rw [e]
      omega
    · have z := weight_mem m
      omega
def toV : Value → V
  | .none => .non
  | .bool b => .bl b
  | .int i _ => .int i
  | .str x _ => .str x
  | .bytes b _ => .byt b
  | .ref a => .ref a
  | _ => .non
def OkU (A : List Addr) : Value → Prop
  | .none => True
  | .bool _ => True
  | .int _ _ => True
  | .str _ _ => True
  | .bytes _ _ => True
  | .ref a => a ∈ A
  | _ => False
theorem OkU.mono {A B : List Addr} (h : ∀ a ∈ A, a ∈ B) : ∀ {u : Value}, OkU A u → OkU B u := fun {u} x => by
  cases u with
  | ref a => exact h a x
  | none => trivial
  | bool b => trivial
  | int i t => trivial
  | str s t => trivial
  | bytes b t => trivial
  | _ => exact False.elim x
theorem relV_toV {A : List Addr} {u : Value} (x : OkU A u) : RelV (toV u) u := by
  cases u with
  | ref a => rfl
  | none => rfl
  | bool b => rfl
  | int i t => exact ⟨t, rfl⟩
  | str s t => exact ⟨t, rfl⟩
  | bytes b t => exact ⟨t, rfl⟩
  | _ => exact False.elim x
theorem vals_toV {A : List Addr} : ∀ {vs : List Value}, (∀ u ∈ vs, OkU A u) → Vals (vs.map toV) vs
  | [], _ => .nil
  | u :: r, h => .cons (relV_toV (h u (List.mem_cons_self ..))) (vals_toV fun x hx => h x (List.mem_cons_of_mem _ hx))
def ArgOb (h : Heap) (A : List Addr) (a : Addr) : Prop := ∃ vs : List Value, vs.length ≤ sizeLine ∧ (∀ u ∈ vs, OkU A u) ∧
  (h.get? a = some { cls := .type "list", data := .seq vs.toArray } ∨ h.get? a = some { cls := .type "tuple", data := .seq vs.toArray })
theorem ArgOb.mono {h : Heap} {A B : List Addr} {a : Addr} (k : ∀ a ∈ A, a ∈ B) (x : ArgOb h A a) : ArgOb h B a := by
  obtain ⟨vs, h1, h2, h3⟩ := x
  exact ⟨vs, h1, fun u hu => (h2 u hu).mono k, h3⟩
theorem wellAll_len {P : Params} {h : Heap} : ∀ {vs : List Value} {ds : List WData}, WellAll P h vs ds → vs.length = ds.length
  | _, _, .nil => rfl
  | _, _, .cons _ b => by
    show _ + 1 = _ + 1
    rw [wellAll_len b]
theorem well_list {P : Params} {h : Heap} {v : Value} {ds : List WData} (x : Well P h v (.list ds)) : ∃ (a : Addr) (vs : List Value), v = .ref a ∧ h.get? a = some { cls := .type "list", data := .seq vs.toArray } ∧ WellAll P h vs ds := by
  cases x with
  | list ho hall => exact ⟨_, _, rfl, ho, hall⟩
theorem well_tuple {P : Params} {h : Heap} {v : Value} {ds : List WData} (x : Well P h v (.tuple ds)) : ∃ (a : Addr) (vs : List Value), v = .ref a ∧ h.get? a = some { cls := .type "tuple", data := .seq vs.toArray } ∧ WellAll P h vs ds := by
  cases x with
  | tuple ho hall => exact ⟨_, _, rfl, ho, hall⟩
theorem well_cons {P : Params} {h : Heap} {us : List Value} {d : WData} {ds : List WData} (x : WellAll P h us (d :: ds)) : ∃ (v : Value) (vs : List Value), us = v :: vs ∧ Well P h v d ∧ WellAll P h vs ds := by
  cases x with
  | cons a b => exact ⟨_, _, rfl, a, b⟩
theorem line_of {n : Nat} (h : n ≤ 1048576) : n ≤ sizeLine := Nat.le_trans h (by decide)
section
variable {P : Params} {h : Heap}
mutual
theorem area_one : ∀ (d : WData) (v : Value), Well P h v d → plW d = true → d.weight ≤ 1048576 → ∃ A : List Addr, OkU A v ∧ ∀ a ∈ A, ArgOb h A a
  | .none, _, x, _, _ => by
    cases x
    exact ⟨[], trivial, fun a m => absurd m (by simp)⟩
  | .bool b, _, x, _, _ => by
    cases x
    exact ⟨[], trivial, fun a m => absurd m (by simp)⟩
  | .int i, _, x, _, _ => by
    cases x
    exact ⟨[], trivial, fun a m => absurd m (by simp)⟩
  | .str s, _, x, _, _ => by
    cases x
    exact ⟨[], trivial, fun a m => absurd m (by simp)⟩
  | .bytes b, _, x, _, _ => by
    cases x
    exact ⟨[], trivial, fun a m => absurd m (by simp)⟩
  | .list ds, _, x, p, z => by
    obtain ⟨a, vs, rfl, ho, hall⟩ := well_list x
    have z2 : WData.weightAll ds ≤ 1048576 := z
    obtain ⟨A, h1, h2⟩ := area_all ds _ hall p fun d hd => Nat.le_trans (weight_mem hd) z2
    have k : ∀ b ∈ A, b ∈ a :: A := fun b hb => List.mem_cons_of_mem _ hb
    refine ⟨a :: A, List.mem_cons_self .., fun b hb => ?_⟩
    rcases List.mem_cons.mp hb with e | m
    · rw [e]
      exact ⟨vs, line_of (by rw [wellAll_len hall]; exact Nat.le_trans (PySem.W.length_le_weightAllW ds) z2), fun u hu => (h1 u hu).mono k, .inl ho⟩
    · exact (h2 b m).mono k
  | .tuple ds, _, x, p, z => by
    obtain ⟨a, vs, rfl, ho, hall⟩ := well_tuple x
    have z2 : WData.weightAll ds ≤ 1048576 := z
    obtain ⟨A, h1, h2⟩ := area_all ds _ hall p fun d hd => Nat.le_trans (weight_mem hd) z2
    have k : ∀ b ∈ A, b ∈ a :: A := fun b hb => List.mem_cons_of_mem _ hb
    refine ⟨a :: A, List.mem_cons_self .., fun b hb => ?_⟩
    rcases List.mem_cons.mp hb with e | m
    · rw [e]
      exact ⟨vs, line_of (by rw [wellAll_len hall]; exact Nat.le_trans (PySem.W.length_le_weightAllW ds) z2), fun u hu => (h1 u hu).mono k, .inr ho⟩
    · exact (h2 b m).mono k
  | .float _, _, _, p, _ => Bool.noConfusion (show false = true from p)
  | .dict _, _, _, p, _ => Bool.noConfusion (show false = true from p)
  | .bytearray _, _, _, p, _ => Bool.noConfusion (show false = true from p)
  | .set _, _, _, p, _ => Bool.noConfusion (show false = true from p)
  | .frozenset _, _, _, p, _ => Bool.noConfusion (show false = true from p)
  | .obj _ _, _, _, p, _ => Bool.noConfusion (show false = true from p)
theorem area_all : ∀ (ds : List WData) (vs : List Value), WellAll P h vs ds → plWs ds = true → (∀ d ∈ ds, d.weight ≤ 1048576) → ∃ A : List Addr, (∀ u ∈ vs, OkU A u) ∧ ∀ a ∈ A, ArgOb h A a
  | [], _, x, _, _ => by
    cases x
    exact ⟨[], fun u m => absurd m (by simp), fun a m => absurd m (by simp)⟩
  | d :: ds, _, x, p, z => by
    obtain ⟨v, vs, rfl, x1, x2⟩ := well_cons x
    have q : plW d = true ∧ plWs ds = true := Bool.and_eq_true_iff.mp p
    obtain ⟨A, a1, a2⟩ := area_one d v x1 q.1 (z d (List.mem_cons_self ..))
    obtain ⟨B, b1, b2⟩ := area_all ds vs x2 q.2 fun e he => z e (List.mem_cons_of_mem _ he)
    have kA : ∀ b ∈ A, b ∈ A ++ B := fun b hb => List.mem_append.mpr (.inl hb)
    have kB : ∀ b ∈ B, b ∈ A ++ B := fun b hb => List.mem_append.mpr (.inr hb)
    refine ⟨A ++ B, fun u hu => ?_, fun b hb => ?_⟩
    · rcases List.mem_cons.mp hu with e | m
      · rw [e]
        exact a1.mono kA
      · exact (b1 u m).mono kB
    · rcases List.mem_append.mp hb with m | m
      · exact (a2 b m).mono kA
      · exact (b2 b m).mono kB
end
end
def hoOf (o : Obj) : Option HO := match o.data with
  | .seq vs _ => if (o.cls == Value.type "list") = true then some (.frz o (.lst (vs.toList.map toV))) else some (.frz o (.tup (vs.toList.map toV)))
  | _ => none
def argH (K : PySem.W.Frag) (h : Heap) (A : List Addr) : Hp := fun b => if b ∈ A then (if (K.lookup b).isNone = true then (h.get? b).bind hoOf else none) else none
def OnlyF (H : Hp) : Prop := ∀ b, H b = none ∨ ∃ o u, H b = some (.frz o u)
theorem hoOf_lst (vs : List Value) : hoOf { cls := .type "list", data := .seq vs.toArray } = some (.frz { cls := .type "list", data := .seq vs.toArray } (.lst (vs.map toV))) := by
  show (if (Value.type "list" == Value.type "list") = true then some (HO.frz { cls := .type "list", data := .seq vs.toArray } (.lst (vs.toArray.toList.map toV))) else some (HO.frz { cls := .type "list", data := .seq vs.toArray } (.tup (vs.toArray.toList.map toV)))) = _
  rw [if_pos (beq_self_eq_true _)]
theorem hoOf_tup (vs : List Value) : hoOf { cls := .type "tuple", data := .seq vs.toArray } = some (.frz { cls := .type "tuple", data := .seq vs.toArray } (.tup (vs.map toV))) := by
  show (if (Value.type "tuple" == Value.type "list") = true then some (HO.frz { cls := .type "tuple", data := .seq vs.toArray } (.lst (vs.toArray.toList.map toV))) else some (HO.frz { cls := .type "tuple", data := .seq vs.toArray } (.tup (vs.toArray.toList.map toV)))) = _
  rw [if_neg (by decide)]
section
variable {P : Program} {w : World} {K : PySem.W.Frag} {h : Heap} {A : List Addr}
theorem argH_at {b : Addr} {o : Obj} (hb : b ∈ A) (hk : K.lookup b = none) (e : h.get? b = some o) : argH K h A b = hoOf o := by
  unfold argH
  rw [if_pos hb, hk, if_pos (show (none : Option Obj).isNone = true from rfl), e] <;> rfl
theorem of_argH {b : Addr} {u : HO} (q : argH K h A b = some u) : b ∈ A ∧ K.lookup b = none := by
  unfold argH at q
  by_cases hb : b ∈ A
  · rw [if_pos hb] at q
    cases hk : K.lookup b with
    | none => exact ⟨hb, rfl⟩
    | some o =>
      rw [hk, if_neg (by simp)] at q
      cases q
  · rw [if_neg hb] at q
    cases q
theorem argH_is (ar : ∀ a ∈ A, ArgOb h A a) {b : Addr} {u : HO} (q : argH K h A b = some u) : K.lookup b = none ∧ ∃ vs : List Value, vs.length ≤ sizeLine ∧ (∀ u ∈ vs, OkU A u) ∧
    ((h.get? b = some { cls := .type "list", data := .seq vs.toArray } ∧ u = .frz { cls := .type "list", data := .seq vs.toArray } (.lst (vs.map toV))) ∨
     (h.get? b = some { cls := .type "tuple", data := .seq vs.toArray } ∧ u = .frz { cls := .type "tuple", data := .seq vs.toArray } (.tup (vs.map toV)))) := by
  obtain ⟨hb, hk⟩ := of_argH q
  obtain ⟨vs, h1, h2, h3⟩ := ar b hb
  refine ⟨hk, vs, h1, h2, ?_⟩
  rcases h3 with e | e
  · rw [argH_at hb hk e, hoOf_lst] at q
    exact .inl ⟨e, (Option.some.inj q).symm⟩
  · rw [argH_at hb hk e, hoOf_tup] at q
    exact .inr ⟨e, (Option.some.inj q).symm⟩
theorem argH_only (ar : ∀ a ∈ A, ArgOb h A a) : OnlyF (argH K h A) := fun b => by
  cases q : argH K h A b with
  | none => exact .inl rfl
  | some u =>
    obtain ⟨_, vs, _, _, ⟨_, e⟩ | ⟨_, e⟩⟩ := argH_is ar q
    · exact .inr ⟨_, _, by rw [e]⟩
    · exact .inr ⟨_, _, by rw [e]⟩
theorem argH_ok (ar : ∀ a ∈ A, ArgOb h A a) : HOk P w (argH K h A) h := fun b u q => by
  obtain ⟨_, vs, h1, h2, ⟨e, rfl⟩ | ⟨e, rfl⟩⟩ := argH_is ar q
  · exact ⟨e, by rw [List.length_map]; exact h1, vs, _, vals_toV h2, e⟩
  · exact ⟨e, by rw [List.length_map]; exact h1, vs, vals_toV h2, _, e, rfl, _, rfl⟩
theorem seq_inj {c c' : Value} {vs us : List Value} (e : (some { cls := c, data := .seq vs.toArray } : Option Obj) = some { cls := c', data := .seq us.toArray }) : c = c' ∧ vs = us := by
  have e1 := Option.some.inj e
  have e2 : c = c' := congrArg Obj.cls e1
  have e3 : Data.seq vs.toArray = Data.seq us.toArray := congrArg Obj.data e1
  injection e3 with e4
  refine ⟨e2, ?_⟩
  have e5 := congrArg Array.toList e4
  simpa using e5
theorem argL (KX : K.In h) (ar : ∀ a ∈ A, ArgOb h A a) {a : Addr} {vs : List Value} (ha : a ∈ A) (e : h.get? a = some { cls := .type "list", data := .seq vs.toArray }) : (∀ u ∈ vs, OkU A u) ∧ SqL K (argH K h A) a (vs.map toV) := by
  obtain ⟨us, h1, h2, h3⟩ := ar a ha
  have hu : us = vs := by
    rcases h3 with q | q
    · rw [e] at q
      exact (seq_inj q).2.symm
    · rw [e] at q
      exact absurd (Value.type.inj (seq_inj q).1) (by decide)
  subst hu
  refine ⟨h2, ?_⟩
  cases hk : K.lookup a with
  | none => exact .inl (.inr ⟨_, by rw [argH_at ha hk e, hoOf_lst]⟩)
  | some o =>
    have e2 := KX a o hk
    rw [e] at e2
    obtain rfl := Option.some.inj e2
    exact .inr ⟨_, us.toArray, _, hk, rfl, rfl, rfl, by rw [List.size_toArray]; exact h1, by simpa using vals_toV h2⟩
theorem argT (KX : K.In h) (ar : ∀ a ∈ A, ArgOb h A a) {a : Addr} {vs : List Value} (ha : a ∈ A) (e : h.get? a = some { cls := .type "tuple", data := .seq vs.toArray }) : (∀ u ∈ vs, OkU A u) ∧ SqT K (argH K h A) a (vs.map toV) := by
  obtain ⟨us, h1, h2, h3⟩ := ar a ha
  have hu : us = vs := by
    rcases h3 with q | q
    · rw [e] at q
      exact absurd (Value.type.inj (seq_inj q).1) (by decide)
    · rw [e] at q
      exact (seq_inj q).2.symm
  subst hu
  refine ⟨h2, ?_⟩
  cases hk : K.lookup a with
  | none => exact .inl (.inr ⟨_, by rw [argH_at ha hk e, hoOf_tup]⟩)
  | some o =>
    have e2 := KX a o hk
    rw [e] at e2
    obtain rfl := Option.some.inj e2
    exact .inr ⟨_, us.toArray, _, hk, rfl, rfl, by rw [List.size_toArray]; exact h1, by simpa using vals_toV h2⟩
mutual
theorem dw_one {Pm : Params} (KX : K.In h) (ar : ∀ a ∈ A, ArgOb h A a) : ∀ (d : WData) (v : Value), Well Pm h v d → plW d = true → OkU A v → Dw K (argH K h A) (toV v) d
  | .none, _, x, _, _ => by
    cases x
    exact .non
  | .bool b, _, x, _, _ => by
    cases x
    exact .bl b
  | .int i, _, x, _, _ => by
    cases x
    exact .int i
  | .str s, _, x, _, _ => by
    cases x
    exact .str s
  | .bytes b, _, x, _, _ => by
    cases x
    have z := Dw.byt (K := K) (H := argH K h A) b.toArray
    exact z
  | .list ds, _, x, p, hu => by
    obtain ⟨a, vs, rfl, ho, hall⟩ := well_list x
    obtain ⟨h2, hs⟩ := argL KX ar hu ho
    exact .lst hs (dw_all KX ar ds _ hall p h2)
  | .tuple ds, _, x, p, hu => by
    obtain ⟨a, vs, rfl, ho, hall⟩ := well_tuple x
    obtain ⟨h2, hs⟩ := argT KX ar hu ho
    exact .tup hs (dw_all KX ar ds _ hall p h2)
  | .float _, _, _, p, _ => Bool.noConfusion (show false = true from p)
  | .dict _, _, _, p, _ => Bool.noConfusion (show false = true from p)
  | .bytearray _, _, _, p, _ => Bool.noConfusion (show false = true from p)
  | .set _, _, _, p, _ => Bool.noConfusion (show false = true from p)
  | .frozenset _, _, _, p, _ => Bool.noConfusion (show false = true from p)
  | .obj _ _, _, _, p, _ => Bool.noConfusion (show false = true from p)
theorem dw_all {Pm : Params} (KX : K.In h) (ar : ∀ a ∈ A, ArgOb h A a) : ∀ (ds : List WData) (vs : List Value), WellAll Pm h vs ds → plWs ds = true → (∀ u ∈ vs, OkU A u) → DwAll K (argH K h A) (vs.map toV) ds
  | [], _, x, _, _ => by
    cases x
    exact .nil
  | d :: ds, _, x, p, hu => by
    obtain ⟨v, vs, rfl, x1, x2⟩ := well_cons x
    have q : plW d = true ∧ plWs ds = true := Bool.and_eq_true_iff.mp p
    exact .cons (dw_one KX ar d v x1 q.1 (hu _ (List.mem_cons_self ..))) (dw_all KX ar ds vs x2 q.2 fun u m => hu u (List.mem_cons_of_mem _ m))
end
end
theorem spec_call {P : Program} {w : World} {K : PySem.W.Frag} {mg mb : Str → Option Value} {CX : CXT} {k : Nat} {fa : Addr} {fd : FuncData} {ps : List Str} {sp : Sp} {s₁ : Shared} {vals : List Value} {ds : List WData} {R : PySem.W.WRecords} {cl : Str → Option Addr} {d0 : WData}
    (KX : K.In s₁.heap) (hns : s₁.heap.Ns mainGlobals mg) (hb : s₁.heap.Ns builtinsNs mb) (hbb : ∀ x : Str, x ≠ "__name__" → mb x = bootBuiltins x) (hlim : s₁.heap.NoLimit) (hg : s₁.gens = #[])
    (hwl : WellAll w.params s₁.heap vals ds) (hpl : plWs ds = true) (hwt : ∀ d ∈ ds, d.weight ≤ 1048576) (hr : Room k callerA)
    (F : ∀ base : Heap, K.In base → base.Ns mainGlobals mg → FnOk P w K mg base CX k fa fd ps sp) (hbind : ∀ (s : Shared) (us : List Value), us.length = ps.length → BindsTo s fd ⟨us, []⟩ (ps.zip us)) (hlen : ds.length = ps.length)
    (hsp : ∀ (H : Hp) (xs : List V), OnlyF H → DwAll K H xs ds → sp xs H (fun v H' => Dw K H' v d0) fun _ _ _ => False)
    (hCX : ∀ H e s', CX [] H s₁ (fun _ _ _ => False) e s' → False) :
    codeAny (model P w) callerA (.call (.ref fa) ⟨vals, []⟩) (fun r s' => ∃ u as, r = .ok (.ret u) ∧ ReadsW R cl s'.heap u d0 as ∧ OldK s₁.heap s'.heap ∧ s'.os = s₁.os ∧ AllBare s'.gens) s₁ := by
  obtain ⟨A, ho, ar⟩ := area_all ds vals hwl hpl hwt
  have hO : OnlyF (argH K s₁.heap A) := argH_only ar
  have hok : HOk P w (argH K s₁.heap A) s₁.heap := argH_ok ar
  have hS := dw_all KX ar ds vals hwl hpl ho
  have hV := vals_toV ho
  have hK : ∀ b u, argH K s₁.heap A b = some u → K.lookup b = none := fun b u q => (argH_is ar q).1
  have noA : ∀ {b : Addr} {o : Obj} {es : Array DictEntry} {ep : Nat}, s₁.heap.get? b = some o → o.data = .dict es ep → argH K s₁.heap A b = none := fun {b o es ep} e d => by
    cases q : argH K s₁.heap A b with
    | none => rfl
    | some u =>
      obtain ⟨_, vs, _, _, ⟨e2, _⟩ | ⟨e2, _⟩⟩ := argH_is ar q
      · rw [e2] at e
        cases e
        have d' : Data.seq vs.toArray _ = Data.dict es ep := d
        cases d'
      · rw [e2] at e
        cases e
        have d' : Data.seq vs.toArray _ = Data.dict es ep := d
        cases d'
  generalize argH K s₁.heap A = H at hO hok hS hK noA
  have base_of : ∀ {b : Addr} {o : Obj}, s₁.heap.get? b = some o → H b = none → (hidT s₁.heap H).get? b = some o := fun e n => hidT_get e n
  have nsK : ∀ {b : Addr} {m : Str → Option Value}, s₁.heap.Ns b m → (hidT s₁.heap H).Ns b m := fun {b m} ⟨o, es, ep, e, d, r⟩ => ⟨o, es, ep, base_of e (noA e d), d, r⟩
  have nK : ∀ b o, K.lookup b = some o → H b = none := fun b o e => by
    cases q : H b with
    | none => rfl
    | some u =>
      rw [hK b u q] at e
      cases e
  have hKb : K.In (hidT s₁.heap H) := fun b o e => base_of (KX b o e) (nK b o e)
  have hM : Mod K mg (hidT s₁.heap H) := ⟨hKb, nsK hns, ⟨mb, nsK hb, hbb⟩, let ⟨mc, h1, h2⟩ := hlim; ⟨mc, nsK h1, h2⟩⟩
  have e0 : Env0 P w K mg (hidT s₁.heap H) callerA [] s₁ H := ⟨rfl, hM, fun b o e => of_hidT e, Nat.le_of_eq (hidT_size _ _), trivial, fun b hb => absurd (show b ∈ ([] : List Addr) from hb) (by simp), hok, .of_eq hg⟩
  have hl : vals.length = ps.length := by rw [wellAll_len hwl]; exact hlen
  refine codeAny_mono ((F _ hKb (nsK hns)).run callerA [] s₁ H ⟨vals, []⟩ vals (vals.map toV) _ _ hr e0 (hbind s₁ vals hl) hV (hsp H _ hO hS)) fun r s' x => ?_
  cases r with
  | error e => exact (hCX H e s' x).elim
  | ok fl =>
    cases fl with
    | next => exact False.elim x
    | brk => exact False.elim x
    | cont => exact False.elim x
    | ret u =>
      obtain ⟨v, H', os, bare, un, hok', r', q⟩ := x
      have kept : ∀ b o, s₁.heap.get? b = some o → s'.heap.get? b = some o := fun b o e => by
        cases q2 : H b with
        | none => exact un.keep b o e q2 (by intro z; exact absurd (show b ∈ ([] : List Addr) from z) (by simp)) (by simp)
        | some u2 =>
          rcases hO b with z | ⟨ob, u3, z⟩
          · rw [q2] at z
            cases z
          · have z2 := un.frzs b ob _ z
            obtain ⟨e1, _⟩ := hok b _ z
            obtain ⟨e2, _⟩ := hok' b _ z2
            rw [e] at e1
            cases e1
            exact e2
      have KX' : K.In s'.heap := fun b o e => kept b o (KX b o e)
      obtain ⟨as, hrd⟩ := Dw.reads (R := R) (cl := cl) hok' KX' d0 v u q r'
      exact ⟨u, as, rfl, hrd, OldK.of_keep kept, os, bare⟩
theorem layable_weight {ds : List WData} (h : WData.layableAll ds = true) : ∀ d ∈ ds, d.weight ≤ 1048576 := fun d hd =>
  (PySem.W.layableW_iff.mp (List.all_eq_true.mp h d hd)).2.2
theorem encAll_len : ∀ (cs : List Codec) (a : Codec.denoteAll cs), (Codec.encAll cs a).length = cs.length
  | [], _ => rfl
  | c :: cs, a => by
    show (Codec.encAll cs a.2).length + 1 = cs.length + 1
    rw [encAll_len cs a.2]
theorem walk_spec {r : OpenSpec} {k : Nat} {q : Program} {loose : List Str} {XP : (Str → Option Value) → Heap → Prop} {YP : World → Heap → Prop} {d : DefRec} {K : Params → PySem.W.Frag} {CX : World → CXT} {ps : List Str} {sp : World → Sp}
    (hwell : r.wellSaid = true) (hdf : d.params.defaults = []) (hlen : r.args.length = ps.length) (hr : Room k callerA)
    (hY : ∀ (w : World) (h : Heap), YP w h → (K w.params).In h)
    (F : ∀ (w : World) (mg : Str → Option Value) (fa : Addr) (h : Heap), YP w h → (K w.params).In h → h.Ns mainGlobals mg → mg d.name = some (.ref fa) →
      ∃ fd : FuncData, (∀ (s : Shared) (us : List Value), us.length = ps.length → BindsTo s fd ⟨us, []⟩ (ps.zip us)) ∧
        ∀ base : Heap, (K w.params).In base → base.Ns mainGlobals mg → FnOk r.prog w (K w.params) mg base (CX w) k fa fd ps (sp w))
    (hsp : ∀ (w : World) (H : Hp) (xs : List V) (a : Codec.denoteAll r.args), OnlyF H → Codec.withinAll r.args a = true → Codec.app r.args r.asked a = true → DwAll (K w.params) H xs (Codec.encAll r.args a) →
      sp w xs H (fun v H' => Dw (K w.params) H' v (r.ret.enc (Codec.app r.args r.f a))) fun _ _ _ => False)
    (hCX : ∀ (w : World) (H : Hp) (s : Shared) (e : Value) (s' : Shared), CX w [] H s (fun _ _ _ => False) e s' → False) :
    PySem.W.WalkOS q loose XP YP r d [] (fun f vs => PySem.call f vs) := by
  intro w s_0 s₁ mg mb G Y fa o pm cd doc dV kV ho hd hcd hD hmg hg args vals as hpre hlay hrd hwl hlo
  obtain ⟨a, e1, e2⟩ := PySem.W.os_pre_some hpre
  obtain ⟨e3, hwi⟩ := Codec.encAll_of_decAll r.args args a e1
  subst e3
  have KX := hY w _ Y
  obtain ⟨fd, hb, hF⟩ := F w mg fa _ Y KX G.T.g hmg
  refine PySem.W.enter_call (codeAny_mono (spec_call (R := []) (cl := classAt s_0.heap) (d0 := r.ret.enc (Codec.app r.args r.f a)) KX G.T.g G.T.b G.T.builtins G.T.nolimit hg hwl (pl_encAll _ _) (layable_weight hlay) hr hF hb (by rw [encAll_len]; exact hlen)
    (fun H xs hO hS => hsp w H xs a hO hwi e2 hS) fun H e s' => hCX w H s₁ e s') fun r' s' hq => ?_)
  obtain ⟨u, as', rfl, h1, h2, h3, h4⟩ := hq
  exact ⟨.inl ⟨u, _, as', rfl, fun _ => rfl, h1, (OpenSpec.post_iff hwell hwi _ _).mpr rfl, fun z => Bool.noConfusion (show false = true from z)⟩, h2, h3, h4⟩
theorem walk_specK {r : OpenSpec} {k : Nat} {q : Program} {loose : List Str} {XP : (Str → Option Value) → Heap → Prop} {YP : World → Heap → Prop} {d : DefRec} {K : Params → PySem.W.Frag} {CX : CXT} {ps : List Str} {sp : PySem.W.Frag → Sp}
    (hwell : r.wellSaid = true) (hdf : d.params.defaults = []) (hlen : r.args.length = ps.length) (hr : Room k callerA)
    (hY : ∀ (w : World) (h : Heap), YP w h → (K w.params).In h)
    (F : ∀ (w : World) (mg : Str → Option Value) (fa : Addr) (h : Heap), YP w h → (K w.params).In h → h.Ns mainGlobals mg → mg d.name = some (.ref fa) →
      ∃ fd : FuncData, (∀ (s : Shared) (us : List Value), us.length = ps.length → BindsTo s fd ⟨us, []⟩ (ps.zip us)) ∧
        ∀ base : Heap, (K w.params).In base → base.Ns mainGlobals mg → FnOk r.prog w (K w.params) mg base CX k fa fd ps (sp (K w.params)))
    (hsp : ∀ (K : PySem.W.Frag) (H : Hp) (xs : List V) (a : Codec.denoteAll r.args), OnlyF H → Codec.withinAll r.args a = true → Codec.app r.args r.asked a = true → DwAll K H xs (Codec.encAll r.args a) →
      sp K xs H (fun v H' => Dw K H' v (r.ret.enc (Codec.app r.args r.f a))) fun _ _ _ => False)
    (hCX : ∀ (H : Hp) (s : Shared) (e : Value) (s' : Shared), CX [] H s (fun _ _ _ => False) e s' → False) :
    PySem.W.WalkOS q loose XP YP r d [] (fun f vs => PySem.call f vs) :=
  walk_spec (K := K) (CX := fun _ => CX) (sp := fun w => sp (K w.params)) hwell hdf hlen hr hY F (fun w H xs a h1 h2 h3 h4 => hsp (K w.params) H xs a h1 h2 h3 h4) fun _ H s e s' => hCX H s e s'
end L2
end
end
section
set_option Elab.async false
set_option linter.all false
set_option maxRecDepth 100000
set_option maxHeartbeats 4000000
namespace PySem
open Sem (wp)
section
variable {prog : Program} {w : World} {A : Around} {E : Value → Shared → Prop} {s : Shared}
theorem zs_callType {T newId initId : String} {Bn Bi : Builtin} {args : List Value} {kw : List (Str × Value)} {S : Spec} {Q Q₁ : Value → Shared → Prop} (ft : TypeCalled T newId initId)
    (hct : checkTypeCall T ⟨args, kw⟩ = pure ()) (hcn : checkBuiltinCall newId ⟨.type T :: args, kw⟩ = pure ())
    (entryN : entryFor table newId = some Bn) (entryI : entryFor table initId = some Bi) (g : Meets (Bn ⟨.type T :: args, kw⟩) S)
    (h : S A.in1 (wants Q₁ E) s)
    (hnext : ∀ obj s₁, Q₁ obj s₁ → s₁.TypeIs obj T ∧ argsOk initId ⟨obj :: args, kw⟩ ∧ ∃ Si, Meets (Bi ⟨obj :: args, kw⟩) Si ∧ Si A.in1 (wants (fun r s₂ => r = .none ∧ Q obj s₂) E) s₁) :
    wpAny (model prog w) A (call (.type T) args kw) Q E s := by
  obtain ⟨c, tl, hmro⟩ := ft.mro
  have hmade := ft.made
  have hsub := ft.sub
  refine wpAny_call (codeAny_of_tree ?_)
  show wpAny _ _ (callAny (.type T) _) _ _ _
  refine wpAny_pure ⟨Code.quiet_builtin _ (by decide +kernel), codeAny_builtin F.entry_type_call ?_⟩
  rw [Around.under_plain (weight_type_call_type T args kw) (units_type_call_type T args kw)]
  have h1 := ft.notType
  have h2 := ft.canCreate
  repeat (any_goals (first | assumption | wp_step))
  refine codeAny_mono (codeAny_call_builtin ft.plain entryN (wpAny_of_eq hcn (g prog w A.in1 _ s h))) fun r s₁ hr => ?_
  cases r with
  | error e => exact hr
  | ok fl =>
    cases fl with
    | ret obj =>
      obtain ⟨hT, hok, Si, gi, hsi⟩ := hnext _ _ hr
      have hli := ft.init.lookup
      have hbi := ft.init.bind obj
      repeat (any_goals (first | assumption | wp_step))
      refine codeAny_mono (codeAny_call_builtin ft.init.plain entryI (ft.init.check _ _ _ _ _ _ _ _ hT hok (gi prog w A.in1 _ s₁ hsi))) fun r₂ s₂ hr₂ => ?_
      cases r₂ with
      | error e => exact hr₂
      | ok fl₂ =>
        cases fl₂ with
        | ret r =>
          obtain ⟨rfl, hq⟩ := hr₂
          repeat (any_goals (first | assumption | wp_step))
        | _ => exact hr₂.elim
    | _ => exact hr.elim
theorem zs_object_init {T newId : String} {self a : Value} {rest : List Value} {kw : List (Str × Value)} (hl : typeLookup (.type T) "__init__" = pure (some (.builtin "object.__init__")))
    (hm : Bind.madeBy (.type T) = pure (some newId)) (hne : (some newId != some "object.__new__") = true) :
    Meets (Builtin.«object.__init__» ⟨self :: a :: rest, kw⟩) (fun _ R s => s.TypeIs self T ∧ R (.ok (.ret .none)) s) := by
  refine Meets.of_wp fun prog w A R s hs => ?_
  obtain ⟨hT, hq⟩ := hs
  repeat (any_goals (first | assumption | wp_step))
  exact ⟨_, rfl, hq⟩
theorem zs_typeCall (a b v : Value) : checkTypeCall "zip" ⟨[a, b], [("strict", v)]⟩ = pure () := by kernel_rfl
theorem zs_newCall (a b v : Value) : checkBuiltinCall "zip.__new__" ⟨[.type "zip", a, b], [("strict", v)]⟩ = pure () := by kernel_rfl
theorem zs_initArgs (a b c v : Value) : argsOk "object.__init__" ⟨[a, b, c], [("strict", v)]⟩ := by
  unfold argsOk; rw [signature?_of (id := "object.__init__") (n := ['_', '_', 't', 'i', 'n', 'i', '_', '_']) (o := ['t', 'c', 'e', 'j', 'b', 'o']) (by kernel_rfl) F.owner_object]; kernel_rfl
abbrev IsZipS (h : Heap) (z TI TO : Addr) (f0 : Value) : Prop :=
  h.get? z = some { cls := .type "zip", dict := none, data := .fields #[f0, .bool false, .bool true, .ref TI, .ref TO], slots := #[] }
theorem nextOrEnd_item {i l : Addr} {k : Nat} {xs : Array Value} {x : Value} {Q : Option Value → Shared → Prop} (h1 : s.heap.IsListIter i l k) (hl : s.heap.IsList l xs) (hx : xs[k]? = some x)
    (hQ : ∀ h', h'.IsListIter i l (k + 1) → Heap.SameBut i s.heap h' → Q (some x) { s with heap := h' }) : wpAny (model prog w) A (Builtin.SmallTypes.nextOrEnd (.ref i)) Q E s := by
  unfold Builtin.SmallTypes.nextOrEnd
  exact wpAny_bind (wpAny_attempt (wpAny_nextOf_list_item h1 hl hx fun h' a b => wpAny_pure (hQ h' a b)))
theorem nextOrEnd_end {i l : Addr} {k : Nat} {xs : Array Value} {Q : Option Value → Shared → Prop} (hh : A.handled = none) (h1 : s.heap.IsListIter i l k) (hl : s.heap.IsList l xs) (hx : xs[k]? = none)
    (hQ : ∀ h', Heap.ExtBut i s.heap h' → Q none { s with heap := h' }) : wpAny (model prog w) A (Builtin.SmallTypes.nextOrEnd (.ref i)) Q E s := by
  unfold Builtin.SmallTypes.nextOrEnd
  refine wpAny_bind (wpAny_attempt (wpAny_nextOf_list_end hh h1 hl hx fun h' e hs he => ?_))
  obtain ⟨o, ho, hc⟩ := he
  refine wpAny_bind (wpAny_isInstance (T := "StopIteration") (b := true) ⟨o, ho, hc⟩ isSubtype_stop ?_)
  exact wpAny_pure (hQ h' hs)
theorem zs_next_item {z TI TO i1 i2 l1 l2 : Addr} {k1 k2 : Nat} {xs ys : Array Value} {x y a b : Value} {Q : Value → Shared → Prop} (D : ZipApart z TI TO i1 i2 l1 l2)
    (hz : IsZipS s.heap z TI TO .none) (hTI : IsPair s.heap TI (.ref i1) (.ref i2)) (hTO : IsPair s.heap TO a b)
    (h1 : s.heap.IsListIter i1 l1 k1) (h2 : s.heap.IsListIter i2 l2 k2) (hl1 : s.heap.IsList l1 xs) (hl2 : s.heap.IsList l2 ys) (hx : xs[k1]? = some x) (hy : ys[k2]? = some y)
    (hQ : ∀ h', IsZipS h' z TI TO (rawInt s.heap.objs.size) → IsPair h' TO x y → h'.IsListIter i1 l1 (k1 + 1) → h'.IsListIter i2 l2 (k2 + 1) → IsPair h' s.heap.objs.size x y → h'.objs.size = s.heap.objs.size + 1 →
      (∀ c o, c ≠ z → c ≠ TO → c ≠ i1 → c ≠ i2 → s.heap.get? c = some o → h'.get? c = some o) → Q (.ref s.heap.objs.size) { s with heap := h' }) :
    wpAny (model prog w) A (Builtin.«zip.__next__» ⟨[.ref z], []⟩) (fun fin s' => ∃ v, fin = .done (.ret v) ∧ Q v s') E s := by
  show wpAny _ _ (field (.ref z) 2 >>= _) _ _ _
  refine wpAny_bind (wpAny_field hz rfl (x := .bool true) rfl ?_)
  show wpAny _ _ (field (.ref z) 3 >>= _) _ _ _
  refine wpAny_bind (wpAny_field hz rfl (x := .ref TI) rfl ?_)
  refine wpAny_bind (wpAny_seqItems hTI rfl ?_)
  show wpAny _ _ (Builtin.SmallTypes.ownedTupleIsFree (.ref z) >>= _) _ _ _
  refine wpAny_bind ?_
  unfold Builtin.SmallTypes.ownedTupleIsFree
  refine wpAny_bind (wpAny_field hz rfl (x := .none) rfl (wpAny_pure ?_))
  simp only [if_true]
  refine wpAny_bind (wpAny_rule ?_)
  refine wpAny_bind (wpAny_field hz rfl (x := .ref TO) rfl ?_)
  refine wpAny_bind (wpAny_setField_rec hz (by simp) fun h₁ hz₁ hs₁ => ?_)
  replace hz₁ : IsZipS h₁ z TI TO .ellipsis := hz₁
  refine wpAny_bind ?_
  simp only [List.zipIdx_cons, List.zipIdx_nil, List.forIn_cons, List.forIn_nil]
  refine wpAny_bind (wpAny_bind (wpAny_onRaise ?_))
  show wpAny _ _ (Builtin.SmallTypes.nextOrEnd (.ref i1)) _ _ _
  refine nextOrEnd_item (h1.extBut hs₁.extBut D.i1z) (hl1.extBut hs₁.extBut D.l1z) hx fun h₂ h1₂ hs₂ => ?_
  have hTO₂ : IsPair h₂ TO a b := hs₂.extBut _ _ D.TOi1 (hs₁.extBut _ _ D.TOz hTO)
  refine wpAny_bind (wpAny_seqItems hTO₂ rfl ?_)
  refine wpAny_bind (wpAny_updateSeq_pair hTO₂ fun h₃ hTO₃ hs₃ => ?_)
  replace hTO₃ : IsPair h₃ TO x b := hTO₃
  refine wpAny_bind (wpAny_letGo (wpAny_pure ?_))
  refine wpAny_bind (wpAny_bind (wpAny_onRaise ?_))
  show wpAny _ _ (Builtin.SmallTypes.nextOrEnd (.ref i2)) _ _ _
  refine nextOrEnd_item (((h2.extBut hs₁.extBut D.i2z).extBut hs₂.extBut D.i12.symm).extBut hs₃.extBut D.TOi2.symm)
    (((hl2.extBut hs₁.extBut D.l2z).extBut hs₂.extBut D.l2i1).extBut hs₃.extBut D.l2TO) hy fun h₄ h2₄ hs₄ => ?_
  have hTO₄ : IsPair h₄ TO x b := hs₄.extBut _ _ D.TOi2 hTO₃
  refine wpAny_bind (wpAny_seqItems hTO₄ rfl ?_)
  refine wpAny_bind (wpAny_updateSeq_pair hTO₄ fun h₅ hTO₅ hs₅ => ?_)
  replace hTO₅ : IsPair h₅ TO x y := hTO₅
  refine wpAny_bind (wpAny_letGo (wpAny_pure (wpAny_pure ?_)))
  refine wpAny_bind (wpAny_seqItems hTO₅ rfl ?_)
  refine wpAny_bind (wpAny_newTuple ?_)
  have hsz : h₅.objs.size = s.heap.objs.size := by rw [hs₅.1, hs₄.1, hs₃.1, hs₂.1, hs₁.1]
  have hz₅ : IsZipS h₅ z TI TO .ellipsis := hs₅.extBut _ _ D.TOz.symm (hs₄.extBut _ _ D.i2z.symm (hs₃.extBut _ _ D.TOz.symm (hs₂.extBut _ _ D.i1z.symm hz₁)))
  have hk₅ : ∀ c o, c ≠ z → c ≠ TO → c ≠ i1 → c ≠ i2 → s.heap.get? c = some o → h₅.get? c = some o := fun c o c1 c2 c3 c4 e =>
    hs₅.extBut _ _ c2 (hs₄.extBut _ _ c4 (hs₃.extBut _ _ c2 (hs₂.extBut _ _ c3 (hs₁.extBut _ _ c1 e))))
  have h1₅ : h₅.IsListIter i1 l1 (k1 + 1) := ((h1₂.extBut hs₃.extBut D.TOi1.symm).extBut hs₄.extBut D.i12).extBut hs₅.extBut D.TOi1.symm
  have h2₅ : h₅.IsListIter i2 l2 (k2 + 1) := h2₄.extBut hs₅.extBut D.TOi2.symm
  have hzlt : z < h₅.objs.size := Heap.lt_size hz₅
  show wpAny _ _ (Builtin.SmallTypes.ownedTupleHandOut (.ref z) (.ref h₅.objs.size) >>= _) _ _ _
  refine wpAny_bind ?_
  unfold Builtin.SmallTypes.ownedTupleHandOut
  have hz₆ : IsZipS (h₅.push { cls := .type "tuple", data := .seq #[x, y] }) z TI TO .ellipsis := Heap.get?_push_of_some _ hz₅
  refine wpAny_bind (wpAny_setField_rec hz₆ (by simp) fun h₇ hz₇ hs₇ => ?_)
  replace hz₇ : IsZipS h₇ z TI TO (rawInt h₅.objs.size) := hz₇
  refine wpAny_setField_rec hz₇ (by simp) fun h₈ hz₈ hs₈ => ?_
  replace hz₈ : IsZipS h₈ z TI TO (rawInt h₅.objs.size) := hz₈
  have up : ∀ c o, c ≠ z → h₅.get? c = some o → h₈.get? c = some o := fun c o c1 e => hs₈.extBut _ _ c1 (hs₇.extBut _ _ c1 (Heap.get?_push_of_some _ e))
  have hT₈ : IsPair h₈ h₅.objs.size x y := hs₈.extBut _ _ (Nat.ne_of_gt hzlt) (hs₇.extBut _ _ (Nat.ne_of_gt hzlt) (Heap.get?_push_size _ rfl))
  have hz8 : h₈.objs.size = h₅.objs.size + 1 := by rw [hs₈.1, hs₇.1, Heap.size_push]
  rw [hsz] at hz₈ hT₈ hz8
  refine wpAny_pure ⟨_, rfl, ?_⟩
  show Q (.ref h₅.objs.size) _
  rw [hsz]
  exact hQ h₈ hz₈ (up _ _ D.TOz hTO₅) (h1₅.at fun o e => up _ o D.i1z e) (h2₅.at fun o e => up _ o D.i2z e) hT₈ hz8 fun c o c1 c2 c3 c4 e => up c o c1 (hk₅ c o c1 c2 c3 c4 e)
theorem zs_next_end {z TI TO i1 i2 l1 l2 : Addr} {k1 k2 : Nat} {xs ys : Array Value} {a b : Value} {Q : Fin → Shared → Prop} (hh : A.handled = none) (D : ZipApart z TI TO i1 i2 l1 l2)
    (hz : IsZipS s.heap z TI TO .none) (hTI : IsPair s.heap TI (.ref i1) (.ref i2)) (hTO : IsPair s.heap TO a b)
    (h1 : s.heap.IsListIter i1 l1 k1) (h2 : s.heap.IsListIter i2 l2 k2) (hl1 : s.heap.IsList l1 xs) (hl2 : s.heap.IsList l2 ys) (hx : xs[k1]? = none) (hy : ys[k2]? = none)
    (hE : ∀ h' e, (∀ c o, c ≠ z → c ≠ TO → c ≠ i1 → c ≠ i2 → s.heap.get? c = some o → h'.get? c = some o) → (∃ o, h'.get? e = some o ∧ o.cls = .type "StopIteration") → E (.ref e) { s with heap := h' }) :
    wpAny (model prog w) A (Builtin.«zip.__next__» ⟨[.ref z], []⟩) Q E s := by
  show wpAny _ _ (field (.ref z) 2 >>= _) _ _ _
  refine wpAny_bind (wpAny_field hz rfl (x := .bool true) rfl ?_)
  show wpAny _ _ (field (.ref z) 3 >>= _) _ _ _
  refine wpAny_bind (wpAny_field hz rfl (x := .ref TI) rfl ?_)
  refine wpAny_bind (wpAny_seqItems hTI rfl ?_)
  show wpAny _ _ (Builtin.SmallTypes.ownedTupleIsFree (.ref z) >>= _) _ _ _
  refine wpAny_bind ?_
  unfold Builtin.SmallTypes.ownedTupleIsFree
  refine wpAny_bind (wpAny_field hz rfl (x := .none) rfl (wpAny_pure ?_))
  simp only [if_true]
  refine wpAny_bind (wpAny_rule ?_)
  refine wpAny_bind (wpAny_field hz rfl (x := .ref TO) rfl ?_)
  refine wpAny_bind (wpAny_setField_rec hz (by simp) fun h₁ hz₁ hs₁ => ?_)
  replace hz₁ : IsZipS h₁ z TI TO .ellipsis := hz₁
  refine wpAny_bind ?_
  simp only [List.zipIdx_cons, List.zipIdx_nil, List.forIn_cons, List.forIn_nil]
  refine wpAny_bind (wpAny_bind (wpAny_onRaise ?_))
  show wpAny _ _ (Builtin.SmallTypes.nextOrEnd (.ref i1)) _ _ _
  refine nextOrEnd_end hh (h1.extBut hs₁.extBut D.i1z) (hl1.extBut hs₁.extBut D.l1z) hx fun h₂ hs₂ => ?_
  have hz₂ : IsZipS h₂ z TI TO .ellipsis := hs₂ _ _ D.i1z.symm hz₁
  refine wpAny_bind (wpAny_setField_rec hz₂ (by simp) fun h₃ hz₃ hs₃ => ?_)
  have h2₃ : h₃.IsListIter i2 l2 k2 := ((h2.extBut hs₁.extBut D.i2z).extBut hs₂ D.i12.symm).extBut hs₃.extBut D.i2z
  have hl2₃ : h₃.IsList l2 ys := ((hl2.extBut hs₁.extBut D.l2z).extBut hs₂ D.l2i1).extBut hs₃.extBut D.l2z
  refine wpAny_bind ?_
  show wpAny _ _ (forIn [((Value.ref i2, 1) : Value × Nat)] PUnit.unit _ >>= _) _ _ _
  simp only [List.forIn_cons, List.forIn_nil]
  refine wpAny_bind (wpAny_bind (wpAny_bind ?_))
  refine nextOrEnd_end hh h2₃ hl2₃ hy fun h₄ hs₄ => ?_
  rw [if_neg (by decide)]
  refine wpAny_pure (wpAny_pure ?_)
  refine wpAny_bind (wpAny_rule ?_)
  unfold Builtin.SmallTypes.stopIteration
  refine wpAny_bind ?_
  simp only [newExc, newTuple]
  refine wpAny_bind (wpAny_newObj_type ?_ (by size_fits))
  refine wpAny_bind (m := firstArgMember _ _) (wpAny_of_eq (a := Value.none) (by first | rfl | (simp only [firstArgMember]; rfl)) ?_)
  refine wpAny_newObj_type ?_ (by size_fits)
  simp only [raiseNew]
  refine wpAny_bind (wpAny_handled ?_)
  rw [hh]
  refine wpAny_bind (wpAny_pure (wpAny_throw ?_))
  refine hE _ _ (fun c o c1 c2 c3 c4 x => Heap.get?_push_of_some _ (Heap.get?_push_of_some _ (hs₄ _ _ c4 (hs₃.extBut _ _ c1 (hs₂ _ _ c3 (hs₁.extBut _ _ c1 x)))))) ⟨_, Heap.get?_push_size _ rfl, rfl⟩
theorem zs_pyNext_item {z TI TO i1 i2 l1 l2 : Addr} {k1 k2 : Nat} {xs ys : Array Value} {x y a b : Value} {Q : Option Value → Shared → Prop} (D : ZipApart z TI TO i1 i2 l1 l2)
    (hz : IsZipS s.heap z TI TO .none) (hTI : IsPair s.heap TI (.ref i1) (.ref i2)) (hTO : IsPair s.heap TO a b)
    (h1 : s.heap.IsListIter i1 l1 k1) (h2 : s.heap.IsListIter i2 l2 k2) (hl1 : s.heap.IsList l1 xs) (hl2 : s.heap.IsList l2 ys) (hx : xs[k1]? = some x) (hy : ys[k2]? = some y)
    (hQ : ∀ h', IsZipS h' z TI TO (rawInt s.heap.objs.size) → IsPair h' TO x y → h'.IsListIter i1 l1 (k1 + 1) → h'.IsListIter i2 l2 (k2 + 1) → IsPair h' s.heap.objs.size x y → h'.objs.size = s.heap.objs.size + 1 →
      (∀ c o, c ≠ z → c ≠ TO → c ≠ i1 → c ≠ i2 → s.heap.get? c = some o → h'.get? c = some o) → Q (some (.ref s.heap.objs.size)) { s with heap := h' }) :
    wpAny (model prog w) A (pyNext (.ref z)) Q E s := by
  have hT : s.TypeIs (.ref z) "zip" := ⟨_, hz, rfl⟩
  unfold pyNext
  exact wpAny_bind (wpAny_attempt (wpAny_callSpecial?_slot (name := Str.ofString "__next__") hT F.slot_zip_next
    (wpAny_call_entry F.slot_zip_next hT F.entry_zip_next
      (zs_next_item D hz hTI hTO h1 h2 hl1 hl2 hx hy fun h' a1 a2 a3 a4 a5 a6 a7 => wpAny_pure (hQ h' a1 a2 a3 a4 a5 a6 a7)) (F.args_zip_next_1 _))))
theorem zs_pyNext_end {z TI TO i1 i2 l1 l2 : Addr} {k1 k2 : Nat} {xs ys : Array Value} {a b : Value} {Q : Option Value → Shared → Prop} (hh : A.handled = none) (D : ZipApart z TI TO i1 i2 l1 l2)
    (hz : IsZipS s.heap z TI TO .none) (hTI : IsPair s.heap TI (.ref i1) (.ref i2)) (hTO : IsPair s.heap TO a b)
    (h1 : s.heap.IsListIter i1 l1 k1) (h2 : s.heap.IsListIter i2 l2 k2) (hl1 : s.heap.IsList l1 xs) (hl2 : s.heap.IsList l2 ys) (hx : xs[k1]? = none) (hy : ys[k2]? = none)
    (hQ : ∀ h', (∀ c o, c ≠ z → c ≠ TO → c ≠ i1 → c ≠ i2 → s.heap.get? c = some o → h'.get? c = some o) → Q none { s with heap := h' }) : wpAny (model prog w) A (pyNext (.ref z)) Q E s := by
  have hT : s.TypeIs (.ref z) "zip" := ⟨_, hz, rfl⟩
  unfold pyNext
  refine wpAny_bind (wpAny_attempt (wpAny_callSpecial?_slot (name := Str.ofString "__next__") hT F.slot_zip_next
    (wpAny_call_entry F.slot_zip_next hT F.entry_zip_next (zs_next_end hh D hz hTI hTO h1 h2 hl1 hl2 hx hy fun h' e hk he => ?_) (F.args_zip_next_1 _))))
  obtain ⟨o, ho, hc⟩ := he
  refine wpAny_bind (wpAny_isInstance (T := "StopIteration") (b := true) ⟨o, ho, hc⟩ isSubtype_stop ?_)
  exact wpAny_pure (hQ _ hk)
theorem zs_letGo {elts : List Expr} {x1} {pos : Pos} {z TI TO T : Addr} {Q : Unit → Shared → Prop} (hz : IsZipS s.heap z TI TO (rawInt T))
    (hQ : ∀ h', IsZipS h' z TI TO .none → Heap.SameBut z s.heap h' → Q () { s with heap := h' }) :
    wpAny (model prog w) A (letOwnedTupleGo (.Tuple elts x1 pos) (.ref z) (.ref T)) Q E s := by
  unfold letOwnedTupleGo
  refine wpAny_bind (wpAny_load hz ?_)
  show wpAny _ _ (if (["enumerate", "zip", "dict_itemiterator", "dict_reverseitemiterator", "odict_iterator", "itertools.zip_longest", "itertools.pairwise"].contains "zip" &&
      (#[rawInt T, .bool false, .bool true, .ref TI, .ref TO] : Array Value)[0]? == some (rawInt T)) = true then _ else _) Q E s
  rw [if_pos (by simp)]
  refine wpAny_bind (wpAny_rule ?_)
  show wpAny _ _ (setField (.ref z) 0 .none) Q E s
  exact wpAny_setField_rec hz (by simp) fun h' hz' hs' => hQ h' hz' hs'
theorem zs_pyIter {z TI TO : Addr} {f0 : Value} {Q : Value → Shared → Prop} (hz : IsZipS s.heap z TI TO f0) (h : Q (.ref z) s) : wpAny (model prog w) A (pyIter (.ref z)) Q E s := by
  have hT : s.TypeIs (.ref z) "zip" := ⟨_, hz, rfl⟩
  refine wpAny_pyIter_slot hT F.slot_zip_iter (wpAny_call_entry F.slot_zip_iter hT F.entry_zip_iter ?_ (F.args_zip_iter_1 _))
  show wpAny _ _ (ret (.ref z)) _ _ s
  exact wpAny_pure ⟨_, rfl, "zip", _, hT, F.slot_zip_next.lookup, h⟩
end
abbrev zsH5 (h : Heap) (l1 l2 : Addr) : Heap := (zipH4 h l1 l2).push { cls := .type "zip", data := .fields #[.none, .bool false, .bool true, .ref (zipH2 h l1 l2).objs.size, .ref (zipH3 h l1 l2).objs.size] }
theorem zs_meets_new (l1 l2 : Addr) (xs ys : Array Value) :
    Meets (Builtin.«zip.__new__» ⟨[.type "zip", .ref l1, .ref l2], [("strict", .bool true)]⟩) (fun _ R s => s.heap.IsList l1 xs ∧ s.heap.IsList l2 ys ∧
      R (.ok (.ret (.ref (zipH4 s.heap l1 l2).objs.size))) { s with heap := zsH5 s.heap l1 l2 }) :=
  .of_wp fun prog w A R s h => by
    obtain ⟨hp, g, d, tk, os⟩ := s; obtain ⟨hl1, hl2, h⟩ := h
    have hsub := sub_zip
    have hL1 : Heap.IsList (Shared.heap ⟨hp, g, d, tk, os⟩) l1 xs := hl1
    have hL2 : Heap.IsList (Shared.heap ⟨hp.push { cls := .type "list_iterator", data := .fields #[.ref l1, .int 0 0] }, g, d, tk, os⟩) l2 ys := Heap.IsList.push hl2 _
    wp_walk using wpAny_pyIter_list hL1, wpAny_pyIter_list hL2
    exact ⟨_, rfl, h⟩
section
variable {prog : Program} {w : World} {A : Around} {E : Value → Shared → Prop} {s : Shared}
theorem zs_call {l1 l2 : Addr} {xs ys : Array Value} {Q : Value → Shared → Prop} (hl1 : s.heap.IsList l1 xs) (hl2 : s.heap.IsList l2 ys)
    (h : ∀ h', IsZipS h' (s.heap.objs.size + 4) (s.heap.objs.size + 2) (s.heap.objs.size + 3) .none → IsPair h' (s.heap.objs.size + 2) (.ref s.heap.objs.size) (.ref (s.heap.objs.size + 1)) →
      IsPair h' (s.heap.objs.size + 3) .none .none → h'.IsListIter s.heap.objs.size l1 0 → h'.IsListIter (s.heap.objs.size + 1) l2 0 → h'.objs.size = s.heap.objs.size + 5 →
      (∀ c o, s.heap.get? c = some o → h'.get? c = some o) → Q (.ref (s.heap.objs.size + 4)) { s with heap := h' }) :
    wpAny (model prog w) A (call (.type "zip") [.ref l1, .ref l2] [("strict", .bool true)]) Q E s := by
  refine zs_callType (Q₁ := fun obj s₁ => s₁.TypeIs obj "zip" ∧ Q obj s₁) F.called_zip (zs_typeCall _ _ _) (zs_newCall _ _ _) F.entry_zip_new F.entry_object_init
    (zs_meets_new l1 l2 xs ys) ⟨hl1, hl2, ?_⟩ fun obj _ hq => ⟨hq.1, zs_initArgs obj _ _ _, _, zs_object_init F.called_zip.init.lookup F.called_zip.made (by decide), hq.1, rfl, hq.2⟩
  have z1 : (zipH1 s.heap l1).objs.size = s.heap.objs.size + 1 := Heap.size_push ..
  have z2 : (zipH2 s.heap l1 l2).objs.size = s.heap.objs.size + 2 := by rw [Heap.size_push, z1]
  have z3 : (zipH3 s.heap l1 l2).objs.size = s.heap.objs.size + 3 := by rw [Heap.size_push, z2]
  have z4 : (zipH4 s.heap l1 l2).objs.size = s.heap.objs.size + 4 := by rw [Heap.size_push, z3]
  have z5 : (zsH5 s.heap l1 l2).objs.size = s.heap.objs.size + 5 := by rw [Heap.size_push, z4]
  have g5 : (zsH5 s.heap l1 l2).get? (zipH4 s.heap l1 l2).objs.size = some _ := Heap.get?_push_size _ rfl
  have g4 : (zsH5 s.heap l1 l2).get? (zipH3 s.heap l1 l2).objs.size = some _ := Heap.get?_push_of_some _ (Heap.get?_push_size _ rfl)
  have g3 : (zsH5 s.heap l1 l2).get? (zipH2 s.heap l1 l2).objs.size = some _ := Heap.get?_push_of_some _ (Heap.get?_push_of_some _ (Heap.get?_push_size _ rfl))
  have g2 : (zsH5 s.heap l1 l2).get? (zipH1 s.heap l1).objs.size = some _ := Heap.get?_push_of_some _ (Heap.get?_push_of_some _ (Heap.get?_push_of_some _ (Heap.get?_push_size _ rfl)))
  have g1 : (zsH5 s.heap l1 l2).get? s.heap.objs.size = some _ := Heap.get?_push_of_some _ (Heap.get?_push_of_some _ (Heap.get?_push_of_some _ (Heap.get?_push_of_some _ (Heap.get?_push_size _ rfl))))
  show _ ∧ _
  rw [z2, z3, z4] at g5
  rw [z1, z2] at g3
  rw [z3] at g4
  rw [z1] at g2
  rw [z4]
  exact ⟨⟨_, g5, rfl⟩, h _ g5 g3 g4 ⟨_, g1, rfl, rfl⟩ ⟨_, g2, rfl, rfl⟩ z5 fun c o x =>
    Heap.get?_push_of_some _ (Heap.get?_push_of_some _ (Heap.get?_push_of_some _ (Heap.get?_push_of_some _ (Heap.get?_push_of_some _ x))))⟩
theorem zs_callWith {pos : Pos} {T : String} {first : List Value} {args : List (Bool × Sem Value)} {kws : List (Option Str × Sem Value)} {Q : Value → Shared → Prop} (hplain : (args.any (·.1) || kws.any (·.1.isNone)) = false)
    (h : wpAny (model prog w) A (evalArgs (.type T) true args kws) (fun a s₁ => wpAny (model prog w) A (call (.type T) (first ++ a.pos) a.kw) Q E s₁) E s) :
    wpAny (model prog w) A (callWith pos (.type T) first args kws) Q E s := by
  unfold callWith
  refine wpAny_bind (wpAny_holding (wpAny_mono h (fun a s₁ h₁ => wpAny_bind (wpAny_standAt ?_)) fun _ _ x => x))
  simp only [hplain]
  refine wpAny_bind (wpAny_pure ?_)
  exact wpAny_bind (wpAny_mono h₁ (fun r s₂ hr => wpAny_bind (wpAny_holding (wpAny_point (wpAny_pure hr)))) fun _ _ x => x)
end
end PySem
namespace L2
open PySem PySem.Spec PyProof.Rows
def Itzs (K : PySem.W.Frag) (a b : Addr) : It :=
  ⟨fun i H => ∃ (xs ys : List V) (x y : V), SqL K H a xs ∧ SqL K H b ys ∧ xs[i]? = some x ∧ ys[i]? = some y,
    fun i H v H' => ∃ T x y, v = .ref T ∧ H T = none ∧ H' = upd H T (.tup [x, y]) ∧ (∀ xs, SqL K H a xs → xs[i]? = some x) ∧ ∀ ys, SqL K H b ys → ys[i]? = some y,
    fun i H => ∃ xs ys : List V, SqL K H a xs ∧ SqL K H b ys ∧ xs.length ≤ i ∧ ys.length ≤ i⟩
theorem turn_zs {P : Program} {w : World} {K : PySem.W.Frag} {elts : List Expr} {kk : Nat} {tpos : Pos} {a b z TI TO i1 i2 : Addr} (D : ZipApart z TI TO i1 i2 a b) :
    Turn P w K (.Tuple elts kk tpos) (Itzs K a b) [z, TI, TO, i1, i2] z (fun i h => IsZipS h z TI TO .none ∧ IsPair h TI (.ref i1) (.ref i2) ∧ (∃ x y, IsPair h TO x y) ∧ h.IsListIter i1 a i ∧ h.IsListIter i2 b i) where
  mem := by simp
  obj := fun i h st c hc => by
    obtain ⟨hz, hTI, ⟨x, y, hTO⟩, ⟨o1, e1, _, d1⟩, ⟨o2, e2, _, d2⟩⟩ := st
    have e' : c = z ∨ c = TI ∨ c = TO ∨ c = i1 ∨ c = i2 := by simpa using hc
    rcases e' with q | q | q | q | q
    · rw [q]; exact ⟨_, hz, fun v q => nomatch q⟩
    · rw [q]; exact ⟨_, hTI, fun v q => nomatch q⟩
    · rw [q]; exact ⟨_, hTO, fun v q => nomatch q⟩
    · rw [q]; exact ⟨o1, e1, fun v q => by rw [d1] at q; cases q⟩
    · rw [q]; exact ⟨o2, e2, fun v q => by rw [d2] at q; cases q⟩
  keep := fun i h h' st k => by
    obtain ⟨hz, hTI, ⟨x, y, hTO⟩, h1, h2⟩ := st
    exact ⟨k z (by simp) _ hz, k TI (by simp) _ hTI, ⟨x, y, k TO (by simp) _ hTO⟩, h1.at fun o q => k i1 (by simp) o q, h2.at fun o q => k i2 (by simp) o q⟩
  item := by
    intro X hP hw hK hc i pins s σ H E I hf st hg
    subst hP hw hK
    obtain ⟨hz, hTI, ⟨x0, y0, hTO⟩, h1, h2⟩ := st
    obtain ⟨xs, ys, x, y, hqx, hqy, hx, hy⟩ := hg
    obtain ⟨its, rv, p, _⟩ := I.list hqx
    obtain ⟨its2, rv2, p2, _⟩ := I.list hqy
    obtain ⟨u, hu, ru⟩ := rv.get hx
    obtain ⟨u2, hu2, ru2⟩ := rv2.get hy
    have hzl : z < s.heap.objs.size := Heap.lt_size hz
    refine zs_pyNext_item D hz hTI hTO h1 h2 p.isList p2.isList (x := u) (y := u2) (by simpa using hu) (by simpa using hu2) fun h' z' TO' h1' h2' hT hsz hk => ?_
    refine ⟨_, rfl, zs_letGo (s := { s with heap := h' }) z' fun h'' z'' sb => ?_⟩
    have hT2 : h''.get? s.heap.objs.size = some { cls := .type "tuple", data := .seq #[u, u2] } := (sb.2 _ (Nat.ne_of_gt hzl)).trans hT
    have new : ObjOk X.prog X.w (upd H s.heap.objs.size (.tup [x, y])) h'' s.heap.objs.size (.tup [x, y]) :=
      ⟨by show 2 ≤ sizeLine; decide, [u, u2], .cons ru (.cons ru2 .nil), ⟨_, hT2, rfl, _, rfl⟩⟩
    have I1 : Inv X pins σ (upd H s.heap.objs.size (.tup [x, y])) { s with heap := h'' } :=
      I.turnedNew (t' := s.toks) (ch := [z, TI, TO, i1, i2]) (fun c o hb q => (sb.2 c (fun q' => hb (by simp [q']))).trans (hk c o (fun q' => hb (by simp [q'])) (fun q' => hb (by simp [q'])) (fun q' => hb (by simp [q'])) (fun q' => hb (by simp [q'])) q)) hf (Nat.le_refl _) new
    refine ⟨.ref s.heap.objs.size, _, I1, rfl, ⟨_, x, y, rfl, I.hok.fresh (Nat.le_refl _), rfl, fun l hl => by rw [I.list_inj hl hqx]; exact hx, fun l hl => by rw [I.list_inj hl hqy]; exact hy⟩, ⟨z'', ?_, ⟨u, u2, ?_⟩, ?_, ?_⟩, fun c hcm => ?_⟩
    · exact (sb.2 _ D.TIz).trans (hk _ _ D.TIz D.TITO D.TIi1 D.TIi2 hTI)
    · exact (sb.2 _ D.TOz).trans TO'
    · exact h1'.at fun o q => (sb.2 _ D.i1z).trans q
    · exact h2'.at fun o q => (sb.2 _ D.i2z).trans q
    · have hlt : c < s.heap.objs.size := by
        have e' : c = z ∨ c = TI ∨ c = TO ∨ c = i1 ∨ c = i2 := by simpa using hcm
        rcases e' with q | q | q | q | q
        · rw [q]; exact hzl
        · rw [q]; exact Heap.lt_size hTI
        · rw [q]; exact Heap.lt_size hTO
        · rw [q]; obtain ⟨_, e1, _⟩ := h1; exact Heap.lt_size e1
        · rw [q]; obtain ⟨_, e2, _⟩ := h2; exact Heap.lt_size e2
      rw [upd_ne (Nat.ne_of_lt hlt)]
      exact (hf c hcm).1
  done := by
    intro X hP hw hK hc i pins s σ H E I hf st hg
    subst hP hw hK
    obtain ⟨hz, hTI, ⟨x0, y0, hTO⟩, h1, h2⟩ := st
    obtain ⟨xs, ys, hqx, hqy, hend1, hend2⟩ := hg
    obtain ⟨its, rv, p, _⟩ := I.list hqx
    obtain ⟨its2, rv2, p2, _⟩ := I.list hqy
    have l1 := rv.length
    have l2 := rv2.length
    have he1 : its.toArray[i]? = none := by simp; omega
    have he2 : its2.toArray[i]? = none := by simp; omega
    exact zs_pyNext_end (I.ok.hd hc) D hz hTI hTO h1 h2 p.isList p2.isList he1 he2 fun h' hk => ⟨rfl, I.turnedL (t' := s.toks) (ch := [z, TI, TO, i1, i2]) (fun c o hb q =>
      hk c o (fun q' => hb (by simp [q'])) (fun q' => hb (by simp [q'])) (fun q' => hb (by simp [q'])) (fun q' => hb (by simp [q'])) q) hf⟩
  self := fun A i s Q E st h => zs_pyIter st.1 h
def iZipS (K : PySem.W.Frag) (ta : TA) : TI := fun σ H R => ta σ H fun vs H1 => ∃ a b xs ys, vs = [.ref a, .ref b] ∧ SqL K H1 a xs ∧ SqL K H1 b ys ∧ R (Itzs K a b) H1
theorem pi_zipS {X : Cx} {e e2 : Expr} {ta : TA} {p pos tpos kpos cpos : Pos} {j : Nat} {elts : List Expr} {kk : Nat} (hg : Gl X "zip") (hm : X.mg "zip" = none) (ha : PA X [e, e2] ta)
    (hs : starEach [e, e2] X.env = (false, eval e X.env) :: starEach [e2] X.env := by rfl) (hall : (backToKw pos (keywordEach [⟨some "strict", .Constant (.bool true) j cpos, kpos⟩] X.env)).all (·.1.isSome) = true := by rfl)
    (hks : (backToKw pos (keywordEach [⟨some "strict", .Constant (.bool true) j cpos, kpos⟩] X.env)).filterMap (·.1) = [Str.ofString "strict"] := by rfl)
    (hpl : ((backTo pos (starEach [e, e2] X.env)).any (·.1) || (backToKw pos (keywordEach [⟨some "strict", .Constant (.bool true) j cpos, kpos⟩] X.env)).any (·.1.isNone)) = false := by rfl) :
    PI X (.Tuple elts kk tpos) (.Call (.Name "zip" p) [e, e2] [⟨some "strict", .Constant (.bool true) j cpos, kpos⟩] pos) (iZipS X.K ta) := by
  intro pins s σ H R I h
  refine wpAny_Call_Name_kw (ld_blt I hg hm boot_zip5 ?_)
  refine zs_callWith hpl (evalArgs_kw2 hall (thn (ha pos pins s σ H _ I h) fun us s1 ⟨vs, H1, I1, r1, q1⟩ => ?_) hs)
  refine thn (pk_cons (nm := some "strict") (kpos := kpos) (pe_bl (X := X) (b := true) (j := j) (pos := cpos)) pk_nil pos pins s1 σ H1 (fun zs H2 => zs = [.bl true] ∧ H2 = H1) I1 ⟨rfl, rfl⟩) fun ws s2 ⟨zs, H2, I2, rz, ez, eH⟩ => ?_
  subst ez eH
  obtain rfl : ws = [Value.bool true] := by
    cases rz with
    | cons r rr =>
      cases rr
      cases r
      rfl
  rw [hks]
  obtain ⟨a, b, xs, ys, ex, hqx, hqy, q⟩ := q1
  subst ex
  cases r1 with
  | cons r rr =>
    cases rr with
    | cons r' rr =>
      cases rr
      cases r
      cases r'
      obtain ⟨its, rv, p1, _⟩ := I2.list hqx
      obtain ⟨its2, rv2, p2, _⟩ := I2.list hqy
      have la : a < s2.heap.objs.size := p1.lt
      have lb : b < s2.heap.objs.size := p2.lt
      refine zs_call p1.isList p2.isList fun h' hz hTI hTO h1 h2 hsz hk => zs_pyIter hz ?_
      have I3 : Inv X pins σ H2 { s2 with heap := h' } := I2.kept (t' := s2.toks) hk
      refine ⟨s2.heap.objs.size + 4, [s2.heap.objs.size + 4, s2.heap.objs.size + 2, s2.heap.objs.size + 3, s2.heap.objs.size, s2.heap.objs.size + 1], _, _, H2, rfl, I3, turn_zs (PySem.W.ktu_apart s2.heap.objs.size a b la lb), ⟨hz, hTI, ⟨_, _, hTO⟩, h1, h2⟩, fun c hcm => ?_, q⟩
      have e' : c = s2.heap.objs.size + 4 ∨ c = s2.heap.objs.size + 2 ∨ c = s2.heap.objs.size + 3 ∨ c = s2.heap.objs.size ∨ c = s2.heap.objs.size + 1 := by simpa using hcm
      have hle : s2.heap.objs.size ≤ c := by
        rcases e' with z | z | z | z | z
        · rw [z]; exact Nat.le_add_right _ _
        · rw [z]; exact Nat.le_add_right _ _
        · rw [z]; exact Nat.le_add_right _ _
        · rw [z]; exact Nat.le_refl _
        · rw [z]; exact Nat.le_add_right _ _
      exact I2.fpOk hle (I2.hok.fresh hle)
end L2
end
section
set_option Elab.async false
set_option linter.all false
set_option maxRecDepth 100000
set_option maxHeartbeats 4000000
namespace PySem
open Sem (wp)
section
variable {prog : Program} {w : World} {A : Around} {E : Value → Shared → Prop} {s : Shared}
theorem nextT_item {it t : Addr} {i : Nat} {items : Array Value} {x : Value} {Q : Value → Shared → Prop} (hit : s.heap.IsTupleIter it t i) (ht : s.heap.IsTuple t items) (hx : items[i]? = some x)
    (hQ : ∀ h', h'.IsTupleIter it t (i + 1) → Heap.SameBut it s.heap h' → Q x { s with heap := h' }) : wpAny (model prog w) A (Builtin.SmallTypes.nextOf (.ref it)) Q E s := by
  obtain ⟨o, ho, hc, hd⟩ := id hit; obtain ⟨ol, hol, _, nl, hdl⟩ := ht; unfold Builtin.SmallTypes.nextOf
  refine wpAny_bind (wpAny_callSpecial?_slot (name := Str.ofString "__next__") hit.typeIs F.slot_tuple_iterator_next (wpAny_call_entry F.slot_tuple_iterator_next hit.typeIs F.entry_tuple_iterator_next ?_ (F.args_tuple_iterator_next_1 _)))
  show wpAny _ _ (field (.ref it) 0 >>= _) _ _ s; refine wpAny_bind (wpAny_field ho hd (x := .ref t) rfl ?_)
  show wpAny _ _ (if (Value.ref t == Value.none) = true then _ else _) _ _ s; rw [if_neg (show ¬ ((Value.ref t == Value.none) = true) from Bool.false_ne_true)]
  show wpAny _ _ (field (.ref it) 1 >>= _) _ _ s; refine wpAny_bind (wpAny_field ho hd (x := .int i 0) rfl ?_)
  show wpAny _ _ (seqItems? (.ref t) >>= _) _ _ s; refine wpAny_bind (wpAny_seqItems hol hdl ?_); simp only [Int.toNat_natCast, hx]
  refine wpAny_bind (wpAny_setField ho hd (by simp) (wpAny_pure ⟨x, rfl, wpAny_pure (hQ _ ⟨_, Heap.get?_update_self _ ho (Obj.isFreed_of_fields (Obj.data_mapFields hd _)), (Obj.cls_mapFields ..).trans hc, by rw [Obj.data_mapFields hd]; simp [rawInt]⟩ (Heap.SameBut.update ..))⟩))
theorem nextT_end {it t : Addr} {i : Nat} {items : Array Value} {Q : Value → Shared → Prop} (hh : A.handled = none) (hit : s.heap.IsTupleIter it t i) (ht : s.heap.IsTuple t items) (hx : items[i]? = none)
    (hE : ∀ h' e, Heap.ExtBut it s.heap h' → (∃ o, h'.get? e = some o ∧ o.cls = .type "StopIteration") → E (.ref e) { s with heap := h' }) : wpAny (model prog w) A (Builtin.SmallTypes.nextOf (.ref it)) Q E s := by
  obtain ⟨o, ho, hc, hd⟩ := id hit; obtain ⟨ol, hol, _, nl, hdl⟩ := ht; unfold Builtin.SmallTypes.nextOf
  refine wpAny_bind (wpAny_callSpecial?_slot (name := Str.ofString "__next__") hit.typeIs F.slot_tuple_iterator_next (wpAny_call_entry F.slot_tuple_iterator_next hit.typeIs F.entry_tuple_iterator_next ?_ (F.args_tuple_iterator_next_1 _)))
  show wpAny _ _ (field (.ref it) 0 >>= _) _ _ s; refine wpAny_bind (wpAny_field ho hd (x := .ref t) rfl ?_)
  show wpAny _ _ (if (Value.ref t == Value.none) = true then _ else _) _ _ s; rw [if_neg (show ¬ ((Value.ref t == Value.none) = true) from Bool.false_ne_true)]
  show wpAny _ _ (field (.ref it) 1 >>= _) _ _ s; refine wpAny_bind (wpAny_field ho hd (x := .int i 0) rfl ?_)
  show wpAny _ _ (seqItems? (.ref t) >>= _) _ _ s; refine wpAny_bind (wpAny_seqItems hol hdl ?_); simp only [Int.toNat_natCast, hx]
  refine wpAny_bind (wpAny_rule (wpAny_bind (wpAny_setField ho hd (by simp) ?_))); show wpAny _ _ (newExc (.type "StopIteration") [] >>= _) _ _ _; refine wpAny_bind ?_; simp only [newExc, newTuple]
  refine wpAny_bind (wpAny_newObj_type ?_ (by size_fits)); refine wpAny_bind (m := firstArgMember _ _) (wpAny_of_eq (a := Value.none) (by first | rfl | (simp only [firstArgMember]; rfl)) ?_)
  refine wpAny_newObj_type ?_ (by size_fits); simp only [raiseNew]; refine wpAny_bind (wpAny_handled ?_); first | rw [show A.in1.handled = none from hh] | rw [hh]
  refine wpAny_bind (wpAny_pure (wpAny_throw ?_)); exact hE _ _ (((Heap.SameBut.update ..).extBut.push _).push _) ⟨_, Heap.get?_push_size _ rfl, rfl⟩
theorem nextOrEndT_item {i l : Addr} {k : Nat} {xs : Array Value} {x : Value} {Q : Option Value → Shared → Prop} (h1 : s.heap.IsTupleIter i l k) (hl : s.heap.IsTuple l xs) (hx : xs[k]? = some x)
    (hQ : ∀ h', h'.IsTupleIter i l (k + 1) → Heap.SameBut i s.heap h' → Q (some x) { s with heap := h' }) : wpAny (model prog w) A (Builtin.SmallTypes.nextOrEnd (.ref i)) Q E s := by
  unfold Builtin.SmallTypes.nextOrEnd
  exact wpAny_bind (wpAny_attempt (nextT_item h1 hl hx fun h' a b => wpAny_pure (hQ h' a b)))
theorem nextOrEndT_end {i l : Addr} {k : Nat} {xs : Array Value} {Q : Option Value → Shared → Prop} (hh : A.handled = none) (h1 : s.heap.IsTupleIter i l k) (hl : s.heap.IsTuple l xs) (hx : xs[k]? = none)
    (hQ : ∀ h', Heap.ExtBut i s.heap h' → Q none { s with heap := h' }) : wpAny (model prog w) A (Builtin.SmallTypes.nextOrEnd (.ref i)) Q E s := by
  unfold Builtin.SmallTypes.nextOrEnd
  refine wpAny_bind (wpAny_attempt (nextT_end hh h1 hl hx fun h' e hs he => ?_))
  obtain ⟨o, ho, hc⟩ := he
  refine wpAny_bind (wpAny_isInstance (T := "StopIteration") (b := true) ⟨o, ho, hc⟩ isSubtype_stop ?_)
  exact wpAny_pure (hQ h' hs)
theorem zt_next_item {z TI TO i1 i2 l1 l2 : Addr} {k1 k2 : Nat} {xs ys : Array Value} {x y a b : Value} {Q : Value → Shared → Prop} (D : ZipApart z TI TO i1 i2 l1 l2)
    (hz : IsZipS s.heap z TI TO .none) (hTI : IsPair s.heap TI (.ref i1) (.ref i2)) (hTO : IsPair s.heap TO a b)
    (h1 : s.heap.IsTupleIter i1 l1 k1) (h2 : s.heap.IsListIter i2 l2 k2) (hl1 : s.heap.IsTuple l1 xs) (hl2 : s.heap.IsList l2 ys) (hx : xs[k1]? = some x) (hy : ys[k2]? = some y)
    (hQ : ∀ h', IsZipS h' z TI TO (rawInt s.heap.objs.size) → IsPair h' TO x y → h'.IsTupleIter i1 l1 (k1 + 1) → h'.IsListIter i2 l2 (k2 + 1) → IsPair h' s.heap.objs.size x y → h'.objs.size = s.heap.objs.size + 1 →
      (∀ c o, c ≠ z → c ≠ TO → c ≠ i1 → c ≠ i2 → s.heap.get? c = some o → h'.get? c = some o) → Q (.ref s.heap.objs.size) { s with heap := h' }) :
    wpAny (model prog w) A (Builtin.«zip.__next__» ⟨[.ref z], []⟩) (fun fin s' => ∃ v, fin = .done (.ret v) ∧ Q v s') E s := by
  show wpAny _ _ (field (.ref z) 2 >>= _) _ _ _
  refine wpAny_bind (wpAny_field hz rfl (x := .bool true) rfl ?_)
  show wpAny _ _ (field (.ref z) 3 >>= _) _ _ _
  refine wpAny_bind (wpAny_field hz rfl (x := .ref TI) rfl ?_)
  refine wpAny_bind (wpAny_seqItems hTI rfl ?_)
  show wpAny _ _ (Builtin.SmallTypes.ownedTupleIsFree (.ref z) >>= _) _ _ _
  refine wpAny_bind ?_
  unfold Builtin.SmallTypes.ownedTupleIsFree
  refine wpAny_bind (wpAny_field hz rfl (x := .none) rfl (wpAny_pure ?_))
  simp only [if_true]
  refine wpAny_bind (wpAny_rule ?_)
  refine wpAny_bind (wpAny_field hz rfl (x := .ref TO) rfl ?_)
  refine wpAny_bind (wpAny_setField_rec hz (by simp) fun h₁ hz₁ hs₁ => ?_)
  replace hz₁ : IsZipS h₁ z TI TO .ellipsis := hz₁
  refine wpAny_bind ?_
  simp only [List.zipIdx_cons, List.zipIdx_nil, List.forIn_cons, List.forIn_nil]
  refine wpAny_bind (wpAny_bind (wpAny_onRaise ?_))
  show wpAny _ _ (Builtin.SmallTypes.nextOrEnd (.ref i1)) _ _ _
  refine nextOrEndT_item (h1.extBut hs₁.extBut D.i1z) (hl1.extBut hs₁.extBut D.l1z) hx fun h₂ h1₂ hs₂ => ?_
  have hTO₂ : IsPair h₂ TO a b := hs₂.extBut _ _ D.TOi1 (hs₁.extBut _ _ D.TOz hTO)
  refine wpAny_bind (wpAny_seqItems hTO₂ rfl ?_)
  refine wpAny_bind (wpAny_updateSeq_pair hTO₂ fun h₃ hTO₃ hs₃ => ?_)
  replace hTO₃ : IsPair h₃ TO x b := hTO₃
  refine wpAny_bind (wpAny_letGo (wpAny_pure ?_))
  refine wpAny_bind (wpAny_bind (wpAny_onRaise ?_))
  show wpAny _ _ (Builtin.SmallTypes.nextOrEnd (.ref i2)) _ _ _
  refine nextOrEnd_item (((h2.extBut hs₁.extBut D.i2z).extBut hs₂.extBut D.i12.symm).extBut hs₃.extBut D.TOi2.symm)
    (((hl2.extBut hs₁.extBut D.l2z).extBut hs₂.extBut D.l2i1).extBut hs₃.extBut D.l2TO) hy fun h₄ h2₄ hs₄ => ?_
  have hTO₄ : IsPair h₄ TO x b := hs₄.extBut _ _ D.TOi2 hTO₃
  refine wpAny_bind (wpAny_seqItems hTO₄ rfl ?_)
  refine wpAny_bind (wpAny_updateSeq_pair hTO₄ fun h₅ hTO₅ hs₅ => ?_)
  replace hTO₅ : IsPair h₅ TO x y := hTO₅
  refine wpAny_bind (wpAny_letGo (wpAny_pure (wpAny_pure ?_)))
  refine wpAny_bind (wpAny_seqItems hTO₅ rfl ?_)
  refine wpAny_bind (wpAny_newTuple ?_)
  have hsz : h₅.objs.size = s.heap.objs.size := by rw [hs₅.1, hs₄.1, hs₃.1, hs₂.1, hs₁.1]
  have hz₅ : IsZipS h₅ z TI TO .ellipsis := hs₅.extBut _ _ D.TOz.symm (hs₄.extBut _ _ D.i2z.symm (hs₃.extBut _ _ D.TOz.symm (hs₂.extBut _ _ D.i1z.symm hz₁)))
  have hk₅ : ∀ c o, c ≠ z → c ≠ TO → c ≠ i1 → c ≠ i2 → s.heap.get? c = some o → h₅.get? c = some o := fun c o c1 c2 c3 c4 e =>
    hs₅.extBut _ _ c2 (hs₄.extBut _ _ c4 (hs₃.extBut _ _ c2 (hs₂.extBut _ _ c3 (hs₁.extBut _ _ c1 e))))
  have h1₅ : h₅.IsTupleIter i1 l1 (k1 + 1) := ((h1₂.extBut hs₃.extBut D.TOi1.symm).extBut hs₄.extBut D.i12).extBut hs₅.extBut D.TOi1.symm
  have h2₅ : h₅.IsListIter i2 l2 (k2 + 1) := h2₄.extBut hs₅.extBut D.TOi2.symm
  have hzlt : z < h₅.objs.size := Heap.lt_size hz₅
  show wpAny _ _ (Builtin.SmallTypes.ownedTupleHandOut (.ref z) (.ref h₅.objs.size) >>= _) _ _ _
  refine wpAny_bind ?_
  unfold Builtin.SmallTypes.ownedTupleHandOut
  have hz₆ : IsZipS (h₅.push { cls := .type "tuple", data := .seq #[x, y] }) z TI TO .ellipsis := Heap.get?_push_of_some _ hz₅
  refine wpAny_bind (wpAny_setField_rec hz₆ (by simp) fun h₇ hz₇ hs₇ => ?_)
  replace hz₇ : IsZipS h₇ z TI TO (rawInt h₅.objs.size) := hz₇
  refine wpAny_setField_rec hz₇ (by simp) fun h₈ hz₈ hs₈ => ?_
  replace hz₈ : IsZipS h₈ z TI TO (rawInt h₅.objs.size) := hz₈
  have up : ∀ c o, c ≠ z → h₅.get? c = some o → h₈.get? c = some o := fun c o c1 e => hs₈.extBut _ _ c1 (hs₇.extBut _ _ c1 (Heap.get?_push_of_some _ e))
  have hT₈ : IsPair h₈ h₅.objs.size x y := hs₈.extBut _ _ (Nat.ne_of_gt hzlt) (hs₇.extBut _ _ (Nat.ne_of_gt hzlt) (Heap.get?_push_size _ rfl))
  have hz8 : h₈.objs.size = h₅.objs.size + 1 := by rw [hs₈.1, hs₇.1, Heap.size_push]
  rw [hsz] at hz₈ hT₈ hz8
  refine wpAny_pure ⟨_, rfl, ?_⟩
  show Q (.ref h₅.objs.size) _
  rw [hsz]
  exact hQ h₈ hz₈ (up _ _ D.TOz hTO₅) (h1₅.at fun o e => up _ o D.i1z e) (h2₅.at fun o e => up _ o D.i2z e) hT₈ hz8 fun c o c1 c2 c3 c4 e => up c o c1 (hk₅ c o c1 c2 c3 c4 e)
theorem zt_next_end {z TI TO i1 i2 l1 l2 : Addr} {k1 k2 : Nat} {xs ys : Array Value} {a b : Value} {Q : Fin → Shared → Prop} (hh : A.handled = none) (D : ZipApart z TI TO i1 i2 l1 l2)
    (hz : IsZipS s.heap z TI TO .none) (hTI : IsPair s.heap TI (.ref i1) (.ref i2)) (hTO : IsPair s.heap TO a b)
    (h1 : s.heap.IsTupleIter i1 l1 k1) (h2 : s.heap.IsListIter i2 l2 k2) (hl1 : s.heap.IsTuple l1 xs) (hl2 : s.heap.IsList l2 ys) (hx : xs[k1]? = none) (hy : ys[k2]? = none)
    (hE : ∀ h' e, (∀ c o, c ≠ z → c ≠ TO → c ≠ i1 → c ≠ i2 → s.heap.get? c = some o → h'.get? c = some o) → (∃ o, h'.get? e = some o ∧ o.cls = .type "StopIteration") → E (.ref e) { s with heap := h' }) :
    wpAny (model prog w) A (Builtin.«zip.__next__» ⟨[.ref z], []⟩) Q E s := by
  show wpAny _ _ (field (.ref z) 2 >>= _) _ _ _
  refine wpAny_bind (wpAny_field hz rfl (x := .bool true) rfl ?_)
  show wpAny _ _ (field (.ref z) 3 >>= _) _ _ _
  refine wpAny_bind (wpAny_field hz rfl (x := .ref TI) rfl ?_)
  refine wpAny_bind (wpAny_seqItems hTI rfl ?_)
  show wpAny _ _ (Builtin.SmallTypes.ownedTupleIsFree (.ref z) >>= _) _ _ _
  refine wpAny_bind ?_
  unfold Builtin.SmallTypes.ownedTupleIsFree
  refine wpAny_bind (wpAny_field hz rfl (x := .none) rfl (wpAny_pure ?_))
  simp only [if_true]
  refine wpAny_bind (wpAny_rule ?_)
  refine wpAny_bind (wpAny_field hz rfl (x := .ref TO) rfl ?_)
  refine wpAny_bind (wpAny_setField_rec hz (by simp) fun h₁ hz₁ hs₁ => ?_)
  replace hz₁ : IsZipS h₁ z TI TO .ellipsis := hz₁
  refine wpAny_bind ?_
  simp only [List.zipIdx_cons, List.zipIdx_nil, List.forIn_cons, List.forIn_nil]
  refine wpAny_bind (wpAny_bind (wpAny_onRaise ?_))
  show wpAny _ _ (Builtin.SmallTypes.nextOrEnd (.ref i1)) _ _ _
  refine nextOrEndT_end hh (h1.extBut hs₁.extBut D.i1z) (hl1.extBut hs₁.extBut D.l1z) hx fun h₂ hs₂ => ?_
  have hz₂ : IsZipS h₂ z TI TO .ellipsis := hs₂ _ _ D.i1z.symm hz₁
  refine wpAny_bind (wpAny_setField_rec hz₂ (by simp) fun h₃ hz₃ hs₃ => ?_)
  have h2₃ : h₃.IsListIter i2 l2 k2 := ((h2.extBut hs₁.extBut D.i2z).extBut hs₂ D.i12.symm).extBut hs₃.extBut D.i2z
  have hl2₃ : h₃.IsList l2 ys := ((hl2.extBut hs₁.extBut D.l2z).extBut hs₂ D.l2i1).extBut hs₃.extBut D.l2z
  refine wpAny_bind ?_
  show wpAny _ _ (forIn [((Value.ref i2, 1) : Value × Nat)] PUnit.unit _ >>= _) _ _ _
  simp only [List.forIn_cons, List.forIn_nil]
  refine wpAny_bind (wpAny_bind (wpAny_bind ?_))
  refine nextOrEnd_end hh h2₃ hl2₃ hy fun h₄ hs₄ => ?_
  rw [if_neg (by decide)]
  refine wpAny_pure (wpAny_pure ?_)
  refine wpAny_bind (wpAny_rule ?_)
  unfold Builtin.SmallTypes.stopIteration
  refine wpAny_bind ?_
  simp only [newExc, newTuple]
  refine wpAny_bind (wpAny_newObj_type ?_ (by size_fits))
  refine wpAny_bind (m := firstArgMember _ _) (wpAny_of_eq (a := Value.none) (by first | rfl | (simp only [firstArgMember]; rfl)) ?_)
  refine wpAny_newObj_type ?_ (by size_fits)
  simp only [raiseNew]
  refine wpAny_bind (wpAny_handled ?_)
  rw [hh]
  refine wpAny_bind (wpAny_pure (wpAny_throw ?_))
  refine hE _ _ (fun c o c1 c2 c3 c4 x => Heap.get?_push_of_some _ (Heap.get?_push_of_some _ (hs₄ _ _ c4 (hs₃.extBut _ _ c1 (hs₂ _ _ c3 (hs₁.extBut _ _ c1 x)))))) ⟨_, Heap.get?_push_size _ rfl, rfl⟩
theorem zt_pyNext_item {z TI TO i1 i2 l1 l2 : Addr} {k1 k2 : Nat} {xs ys : Array Value} {x y a b : Value} {Q : Option Value → Shared → Prop} (D : ZipApart z TI TO i1 i2 l1 l2)
    (hz : IsZipS s.heap z TI TO .none) (hTI : IsPair s.heap TI (.ref i1) (.ref i2)) (hTO : IsPair s.heap TO a b)
    (h1 : s.heap.IsTupleIter i1 l1 k1) (h2 : s.heap.IsListIter i2 l2 k2) (hl1 : s.heap.IsTuple l1 xs) (hl2 : s.heap.IsList l2 ys) (hx : xs[k1]? = some x) (hy : ys[k2]? = some y)
    (hQ : ∀ h', IsZipS h' z TI TO (rawInt s.heap.objs.size) → IsPair h' TO x y → h'.IsTupleIter i1 l1 (k1 + 1) → h'.IsListIter i2 l2 (k2 + 1) → IsPair h' s.heap.objs.size x y → h'.objs.size = s.heap.objs.size + 1 →
      (∀ c o, c ≠ z → c ≠ TO → c ≠ i1 → c ≠ i2 → s.heap.get? c = some o → h'.get? c = some o) → Q (some (.ref s.heap.objs.size)) { s with heap := h' }) :
    wpAny (model prog w) A (pyNext (.ref z)) Q E s := by
  have hT : s.TypeIs (.ref z) "zip" := ⟨_, hz, rfl⟩
  unfold pyNext
  exact wpAny_bind (wpAny_attempt (wpAny_callSpecial?_slot (name := Str.ofString "__next__") hT F.slot_zip_next
    (wpAny_call_entry F.slot_zip_next hT F.entry_zip_next
      (zt_next_item D hz hTI hTO h1 h2 hl1 hl2 hx hy fun h' a1 a2 a3 a4 a5 a6 a7 => wpAny_pure (hQ h' a1 a2 a3 a4 a5 a6 a7)) (F.args_zip_next_1 _))))
theorem zt_pyNext_end {z TI TO i1 i2 l1 l2 : Addr} {k1 k2 : Nat} {xs ys : Array Value} {a b : Value} {Q : Option Value → Shared → Prop} (hh : A.handled = none) (D : ZipApart z TI TO i1 i2 l1 l2)
    (hz : IsZipS s.heap z TI TO .none) (hTI : IsPair s.heap TI (.ref i1) (.ref i2)) (hTO : IsPair s.heap TO a b)
    (h1 : s.heap.IsTupleIter i1 l1 k1) (h2 : s.heap.IsListIter i2 l2 k2) (hl1 : s.heap.IsTuple l1 xs) (hl2 : s.heap.IsList l2 ys) (hx : xs[k1]? = none) (hy : ys[k2]? = none)
    (hQ : ∀ h', (∀ c o, c ≠ z → c ≠ TO → c ≠ i1 → c ≠ i2 → s.heap.get? c = some o → h'.get? c = some o) → Q none { s with heap := h' }) : wpAny (model prog w) A (pyNext (.ref z)) Q E s := by
  have hT : s.TypeIs (.ref z) "zip" := ⟨_, hz, rfl⟩
  unfold pyNext
  refine wpAny_bind (wpAny_attempt (wpAny_callSpecial?_slot (name := Str.ofString "__next__") hT F.slot_zip_next
    (wpAny_call_entry F.slot_zip_next hT F.entry_zip_next (zt_next_end hh D hz hTI hTO h1 h2 hl1 hl2 hx hy fun h' e hk he => ?_) (F.args_zip_next_1 _))))
  obtain ⟨o, ho, hc⟩ := he
  refine wpAny_bind (wpAny_isInstance (T := "StopIteration") (b := true) ⟨o, ho, hc⟩ isSubtype_stop ?_)
  exact wpAny_pure (hQ _ hk)
end
abbrev ztH1 (h : Heap) (l1 : Addr) : Heap := h.push { cls := .type "tuple_iterator", data := .fields #[.ref l1, .int 0 0] }
abbrev ztH2 (h : Heap) (l1 l2 : Addr) : Heap := (ztH1 h l1).push { cls := .type "list_iterator", data := .fields #[.ref l2, .int 0 0] }
abbrev ztH3 (h : Heap) (l1 l2 : Addr) : Heap := (ztH2 h l1 l2).push { cls := .type "tuple", data := .seq #[.ref h.objs.size, .ref (ztH1 h l1).objs.size] }
abbrev ztH4 (h : Heap) (l1 l2 : Addr) : Heap := (ztH3 h l1 l2).push { cls := .type "tuple", data := .seq #[.none, .none] }
abbrev ztH5 (h : Heap) (l1 l2 : Addr) : Heap := (ztH4 h l1 l2).push { cls := .type "zip", data := .fields #[.none, .bool false, .bool true, .ref (ztH2 h l1 l2).objs.size, .ref (ztH3 h l1 l2).objs.size] }
theorem zt_meets_new (l1 l2 : Addr) (xs ys : Array Value) :
    Meets (Builtin.«zip.__new__» ⟨[.type "zip", .ref l1, .ref l2], [("strict", .bool true)]⟩) (fun _ R s => s.heap.IsTuple l1 xs ∧ s.heap.IsList l2 ys ∧
      R (.ok (.ret (.ref (ztH4 s.heap l1 l2).objs.size))) { s with heap := ztH5 s.heap l1 l2 }) :=
  .of_wp fun prog w A R s h => by
    obtain ⟨hp, g, d, tk, os⟩ := s; obtain ⟨hl1, hl2, h⟩ := h
    have hsub := sub_zip
    have hL1 : Heap.IsTuple (Shared.heap ⟨hp, g, d, tk, os⟩) l1 xs := hl1
    have hL2 : Heap.IsList (Shared.heap ⟨hp.push { cls := .type "tuple_iterator", data := .fields #[.ref l1, .int 0 0] }, g, d, tk, os⟩) l2 ys := Heap.IsList.push hl2 _
    wp_walk using wpAny_pyIter_tuple hL1, wpAny_pyIter_list hL2
    exact ⟨_, rfl, h⟩
section
variable {prog : Program} {w : World} {A : Around} {E : Value → Shared → Prop} {s : Shared}
theorem zt_call {l1 l2 : Addr} {xs ys : Array Value} {Q : Value → Shared → Prop} (hl1 : s.heap.IsTuple l1 xs) (hl2 : s.heap.IsList l2 ys)
    (h : ∀ h', IsZipS h' (s.heap.objs.size + 4) (s.heap.objs.size + 2) (s.heap.objs.size + 3) .none → IsPair h' (s.heap.objs.size + 2) (.ref s.heap.objs.size) (.ref (s.heap.objs.size + 1)) →
      IsPair h' (s.heap.objs.size + 3) .none .none → h'.IsTupleIter s.heap.objs.size l1 0 → h'.IsListIter (s.heap.objs.size + 1) l2 0 → h'.objs.size = s.heap.objs.size + 5 →
      (∀ c o, s.heap.get? c = some o → h'.get? c = some o) → Q (.ref (s.heap.objs.size + 4)) { s with heap := h' }) :
    wpAny (model prog w) A (call (.type "zip") [.ref l1, .ref l2] [("strict", .bool true)]) Q E s := by
  refine zs_callType (Q₁ := fun obj s₁ => s₁.TypeIs obj "zip" ∧ Q obj s₁) F.called_zip (zs_typeCall _ _ _) (zs_newCall _ _ _) F.entry_zip_new F.entry_object_init
    (zt_meets_new l1 l2 xs ys) ⟨hl1, hl2, ?_⟩ fun obj _ hq => ⟨hq.1, zs_initArgs obj _ _ _, _, zs_object_init F.called_zip.init.lookup F.called_zip.made (by decide), hq.1, rfl, hq.2⟩
  have z1 : (ztH1 s.heap l1).objs.size = s.heap.objs.size + 1 := Heap.size_push ..
  have z2 : (ztH2 s.heap l1 l2).objs.size = s.heap.objs.size + 2 := by rw [Heap.size_push, z1]
  have z3 : (ztH3 s.heap l1 l2).objs.size = s.heap.objs.size + 3 := by rw [Heap.size_push, z2]
  have z4 : (ztH4 s.heap l1 l2).objs.size = s.heap.objs.size + 4 := by rw [Heap.size_push, z3]
  have z5 : (ztH5 s.heap l1 l2).objs.size = s.heap.objs.size + 5 := by rw [Heap.size_push, z4]
  have g5 : (ztH5 s.heap l1 l2).get? (ztH4 s.heap l1 l2).objs.size = some _ := Heap.get?_push_size _ rfl
  have g4 : (ztH5 s.heap l1 l2).get? (ztH3 s.heap l1 l2).objs.size = some _ := Heap.get?_push_of_some _ (Heap.get?_push_size _ rfl)
  have g3 : (ztH5 s.heap l1 l2).get? (ztH2 s.heap l1 l2).objs.size = some _ := Heap.get?_push_of_some _ (Heap.get?_push_of_some _ (Heap.get?_push_size _ rfl))
  have g2 : (ztH5 s.heap l1 l2).get? (ztH1 s.heap l1).objs.size = some _ := Heap.get?_push_of_some _ (Heap.get?_push_of_some _ (Heap.get?_push_of_some _ (Heap.get?_push_size _ rfl)))
  have g1 : (ztH5 s.heap l1 l2).get? s.heap.objs.size = some _ := Heap.get?_push_of_some _ (Heap.get?_push_of_some _ (Heap.get?_push_of_some _ (Heap.get?_push_of_some _ (Heap.get?_push_size _ rfl))))
  show _ ∧ _
  rw [z2, z3, z4] at g5
  rw [z1, z2] at g3
  rw [z3] at g4
  rw [z1] at g2
  rw [z4]
  exact ⟨⟨_, g5, rfl⟩, h _ g5 g3 g4 ⟨_, g1, rfl, rfl⟩ ⟨_, g2, rfl, rfl⟩ z5 fun c o x =>
    Heap.get?_push_of_some _ (Heap.get?_push_of_some _ (Heap.get?_push_of_some _ (Heap.get?_push_of_some _ (Heap.get?_push_of_some _ x))))⟩
end
end PySem
namespace L2
open PySem PySem.Spec PyProof.Rows
def Itzt (K : PySem.W.Frag) (a b : Addr) : It :=
  ⟨fun i H => ∃ (xs ys : List V) (x y : V), SqT K H a xs ∧ SqL K H b ys ∧ xs[i]? = some x ∧ ys[i]? = some y,
    fun i H v H' => ∃ T x y, v = .ref T ∧ H T = none ∧ H' = upd H T (.tup [x, y]) ∧ (∀ xs, SqT K H a xs → xs[i]? = some x) ∧ ∀ ys, SqL K H b ys → ys[i]? = some y,
    fun i H => ∃ xs ys : List V, SqT K H a xs ∧ SqL K H b ys ∧ xs.length ≤ i ∧ ys.length ≤ i⟩
theorem turn_zt {P : Program} {w : World} {K : PySem.W.Frag} {elts : List Expr} {kk : Nat} {tpos : Pos} {a b z TI TO i1 i2 : Addr} (D : ZipApart z TI TO i1 i2 a b) :
    Turn P w K (.Tuple elts kk tpos) (Itzt K a b) [z, TI, TO, i1, i2] z (fun i h => IsZipS h z TI TO .none ∧ IsPair h TI (.ref i1) (.ref i2) ∧ (∃ x y, IsPair h TO x y) ∧ h.IsTupleIter i1 a i ∧ h.IsListIter i2 b i) where
  mem := by simp
  obj := fun i h st c hc => by
    obtain ⟨hz, hTI, ⟨x, y, hTO⟩, ⟨o1, e1, _, d1⟩, ⟨o2, e2, _, d2⟩⟩ := st
    have e' : c = z ∨ c = TI ∨ c = TO ∨ c = i1 ∨ c = i2 := by simpa using hc
    rcases e' with q | q | q | q | q
    · rw [q]; exact ⟨_, hz, fun v q => nomatch q⟩
    · rw [q]; exact ⟨_, hTI, fun v q => nomatch q⟩
    · rw [q]; exact ⟨_, hTO, fun v q => nomatch q⟩
    · rw [q]; exact ⟨o1, e1, fun v q => by rw [d1] at q; cases q⟩
    · rw [q]; exact ⟨o2, e2, fun v q => by rw [d2] at q; cases q⟩
  keep := fun i h h' st k => by
    obtain ⟨hz, hTI, ⟨x, y, hTO⟩, h1, h2⟩ := st
    exact ⟨k z (by simp) _ hz, k TI (by simp) _ hTI, ⟨x, y, k TO (by simp) _ hTO⟩, h1.at fun o q => k i1 (by simp) o q, h2.at fun o q => k i2 (by simp) o q⟩
  item := by
    intro X hP hw hK hc i pins s σ H E I hf st hg
    subst hP hw hK
    obtain ⟨hz, hTI, ⟨x0, y0, hTO⟩, h1, h2⟩ := st
    obtain ⟨xs, ys, x, y, hqx, hqy, hx, hy⟩ := hg
    obtain ⟨its, rv, p, _⟩ := I.tuple hqx
    obtain ⟨its2, rv2, p2, _⟩ := I.list hqy
    obtain ⟨u, hu, ru⟩ := rv.get hx
    obtain ⟨u2, hu2, ru2⟩ := rv2.get hy
    have hzl : z < s.heap.objs.size := Heap.lt_size hz
    refine zt_pyNext_item D hz hTI hTO h1 h2 (show s.heap.IsTuple a its.toArray from p) p2.isList (x := u) (y := u2) (by simpa using hu) (by simpa using hu2) fun h' z' TO' h1' h2' hT hsz hk => ?_
    refine ⟨_, rfl, zs_letGo (s := { s with heap := h' }) z' fun h'' z'' sb => ?_⟩
    have hT2 : h''.get? s.heap.objs.size = some { cls := .type "tuple", data := .seq #[u, u2] } := (sb.2 _ (Nat.ne_of_gt hzl)).trans hT
    have new : ObjOk X.prog X.w (upd H s.heap.objs.size (.tup [x, y])) h'' s.heap.objs.size (.tup [x, y]) :=
      ⟨by show 2 ≤ sizeLine; decide, [u, u2], .cons ru (.cons ru2 .nil), ⟨_, hT2, rfl, _, rfl⟩⟩
    have I1 : Inv X pins σ (upd H s.heap.objs.size (.tup [x, y])) { s with heap := h'' } :=
      I.turnedNew (t' := s.toks) (ch := [z, TI, TO, i1, i2]) (fun c o hb q => (sb.2 c (fun q' => hb (by simp [q']))).trans (hk c o (fun q' => hb (by simp [q'])) (fun q' => hb (by simp [q'])) (fun q' => hb (by simp [q'])) (fun q' => hb (by simp [q'])) q)) hf (Nat.le_refl _) new
    refine ⟨.ref s.heap.objs.size, _, I1, rfl, ⟨_, x, y, rfl, I.hok.fresh (Nat.le_refl _), rfl, fun l hl => by rw [I.tuple_inj hl hqx]; exact hx, fun l hl => by rw [I.list_inj hl hqy]; exact hy⟩, ⟨z'', ?_, ⟨u, u2, ?_⟩, ?_, ?_⟩, fun c hcm => ?_⟩
    · exact (sb.2 _ D.TIz).trans (hk _ _ D.TIz D.TITO D.TIi1 D.TIi2 hTI)
    · exact (sb.2 _ D.TOz).trans TO'
    · exact h1'.at fun o q => (sb.2 _ D.i1z).trans q
    · exact h2'.at fun o q => (sb.2 _ D.i2z).trans q
    · have hlt : c < s.heap.objs.size := by
        have e' : c = z ∨ c = TI ∨ c = TO ∨ c = i1 ∨ c = i2 := by simpa using hcm
        rcases e' with q | q | q | q | q
        · rw [q]; exact hzl
        · rw [q]; exact Heap.lt_size hTI
        · rw [q]; exact Heap.lt_size hTO
        · rw [q]; obtain ⟨_, e1, _⟩ := h1; exact Heap.lt_size e1
        · rw [q]; obtain ⟨_, e2, _⟩ := h2; exact Heap.lt_size e2
      rw [upd_ne (Nat.ne_of_lt hlt)]
      exact (hf c hcm).1
  done := by
    intro X hP hw hK hc i pins s σ H E I hf st hg
    subst hP hw hK
    obtain ⟨hz, hTI, ⟨x0, y0, hTO⟩, h1, h2⟩ := st
    obtain ⟨xs, ys, hqx, hqy, hend1, hend2⟩ := hg
    obtain ⟨its, rv, p, _⟩ := I.tuple hqx
    obtain ⟨its2, rv2, p2, _⟩ := I.list hqy
    have l1 := rv.length
    have l2 := rv2.length
    have he1 : its.toArray[i]? = none := by simp; omega
    have he2 : its2.toArray[i]? = none := by simp; omega
    exact zt_pyNext_end (I.ok.hd hc) D hz hTI hTO h1 h2 (show s.heap.IsTuple a its.toArray from p) p2.isList he1 he2 fun h' hk => ⟨rfl, I.turnedL (t' := s.toks) (ch := [z, TI, TO, i1, i2]) (fun c o hb q =>
      hk c o (fun q' => hb (by simp [q'])) (fun q' => hb (by simp [q'])) (fun q' => hb (by simp [q'])) (fun q' => hb (by simp [q'])) q) hf⟩
  self := fun A i s Q E st h => zs_pyIter st.1 h
def iZipT (K : PySem.W.Frag) (ta : TA) : TI := fun σ H R => ta σ H fun vs H1 => ∃ a b xs ys, vs = [.ref a, .ref b] ∧ SqT K H1 a xs ∧ SqL K H1 b ys ∧ R (Itzt K a b) H1
theorem pi_zipT {X : Cx} {e e2 : Expr} {ta : TA} {p pos tpos kpos cpos : Pos} {j : Nat} {elts : List Expr} {kk : Nat} (hg : Gl X "zip") (hm : X.mg "zip" = none) (ha : PA X [e, e2] ta)
    (hs : starEach [e, e2] X.env = (false, eval e X.env) :: starEach [e2] X.env := by rfl) (hall : (backToKw pos (keywordEach [⟨some "strict", .Constant (.bool true) j cpos, kpos⟩] X.env)).all (·.1.isSome) = true := by rfl)
    (hks : (backToKw pos (keywordEach [⟨some "strict", .Constant (.bool true) j cpos, kpos⟩] X.env)).filterMap (·.1) = [Str.ofString "strict"] := by rfl)
    (hpl : ((backTo pos (starEach [e, e2] X.env)).any (·.1) || (backToKw pos (keywordEach [⟨some "strict", .Constant (.bool true) j cpos, kpos⟩] X.env)).any (·.1.isNone)) = false := by rfl) :
    PI X (.Tuple elts kk tpos) (.Call (.Name "zip" p) [e, e2] [⟨some "strict", .Constant (.bool true) j cpos, kpos⟩] pos) (iZipT X.K ta) := by
  intro pins s σ H R I h
  refine wpAny_Call_Name_kw (ld_blt I hg hm boot_zip5 ?_)
  refine zs_callWith hpl (evalArgs_kw2 hall (thn (ha pos pins s σ H _ I h) fun us s1 ⟨vs, H1, I1, r1, q1⟩ => ?_) hs)
  refine thn (pk_cons (nm := some "strict") (kpos := kpos) (pe_bl (X := X) (b := true) (j := j) (pos := cpos)) pk_nil pos pins s1 σ H1 (fun zs H2 => zs = [.bl true] ∧ H2 = H1) I1 ⟨rfl, rfl⟩) fun ws s2 ⟨zs, H2, I2, rz, ez, eH⟩ => ?_
  subst ez eH
  obtain rfl : ws = [Value.bool true] := by
    cases rz with
    | cons r rr =>
      cases rr
      cases r
      rfl
  rw [hks]
  obtain ⟨a, b, xs, ys, ex, hqx, hqy, q⟩ := q1
  subst ex
  cases r1 with
  | cons r rr =>
    cases rr with
    | cons r' rr =>
      cases rr
      cases r
      cases r'
      obtain ⟨its, rv, p1, _⟩ := I2.tuple hqx
      obtain ⟨its2, rv2, p2, _⟩ := I2.list hqy
      have la : a < s2.heap.objs.size := p1.lt
      have lb : b < s2.heap.objs.size := p2.lt
      refine zt_call (show s2.heap.IsTuple a its.toArray from p1) p2.isList fun h' hz hTI hTO h1 h2 hsz hk => zs_pyIter hz ?_
      have I3 : Inv X pins σ H2 { s2 with heap := h' } := I2.kept (t' := s2.toks) hk
      refine ⟨s2.heap.objs.size + 4, [s2.heap.objs.size + 4, s2.heap.objs.size + 2, s2.heap.objs.size + 3, s2.heap.objs.size, s2.heap.objs.size + 1], _, _, H2, rfl, I3, turn_zt (PySem.W.ktu_apart s2.heap.objs.size a b la lb), ⟨hz, hTI, ⟨_, _, hTO⟩, h1, h2⟩, fun c hcm => ?_, q⟩
      have e' : c = s2.heap.objs.size + 4 ∨ c = s2.heap.objs.size + 2 ∨ c = s2.heap.objs.size + 3 ∨ c = s2.heap.objs.size ∨ c = s2.heap.objs.size + 1 := by simpa using hcm
      have hle : s2.heap.objs.size ≤ c := by
        rcases e' with z | z | z | z | z
        · rw [z]; exact Nat.le_add_right _ _
        · rw [z]; exact Nat.le_add_right _ _
        · rw [z]; exact Nat.le_add_right _ _
        · rw [z]; exact Nat.le_refl _
        · rw [z]; exact Nat.le_add_right _ _
      exact I2.fpOk hle (I2.hok.fresh hle)
end L2
end
section
set_option Elab.async false
set_option linter.all false
set_option maxRecDepth 100000
set_option maxHeartbeats 4000000
namespace L2
open PySem PySem.Spec PyProof.Rows
def KD (P : Program) (w : World) (K : PySem.W.Frag) (a : Addr) (kvs : List (Key × V)) : Prop :=
  (a == sysModules) = false ∧ ∀ h : Heap, K.In h → ∃ vs : List (Key × Value), KV kvs vs ∧ h.DictOf (mixKind P w) a vs
section
variable {X : Cx} {pins : List (Addr × Obj)} {σ : St} {H : Hp} {s : Shared} {a : Addr} {kvs : List (Key × V)} {k : Key} {u r : Value} {A : Around} {E : Value → Shared → Prop}
theorem kd_getItem {v : V} {Q : Value → Shared → Prop} (I : Inv X pins σ H s) (d : KD X.prog X.w X.K a kvs) (l : valV kvs k = some v) (ry : RelV (kV k) u) (h : ∀ w' s', Inv X pins σ H s' → RelV v w' → Q w' s') :
    wpAny (model X.prog X.w) A (getItem (.ref a) u) Q E s := by
  obtain ⟨vs, rel, dd⟩ := d.2 s.heap I.kIn
  obtain ⟨w', hw, rw'⟩ := RelO.some_of (v := v) (o := valueAt vs k) (by rw [← l]; exact rel.val k)
  exact wpAny_getItem_of (kV_is ry) dd.mapOf hw (h w' _ (I.tok _) rw')
theorem kd_in {Q : Value → Shared → Prop} (I : Inv X pins σ H s) (d : KD X.prog X.w X.K a kvs) (ry : RelV (kV k) u) (h : ∀ s', Inv X pins σ H s' → Q (.bool (valV kvs k).isSome) s') :
    wpAny (model X.prog X.w) A (compareOp .In u (.ref a)) Q E s := by
  obtain ⟨vs, rel, dd⟩ := d.2 s.heap I.kIn
  refine wpAny_in_of (kV_is ry) d.1 dd.mapOf ?_
  rw [← (rel.val k).isSome_eq]
  exact h _ (I.tok _)
theorem kd_notIn {Q : Value → Shared → Prop} (I : Inv X pins σ H s) (d : KD X.prog X.w X.K a kvs) (ry : RelV (kV k) u) (h : ∀ s', Inv X pins σ H s' → Q (.bool (!(valV kvs k).isSome)) s') :
    wpAny (model X.prog X.w) A (compareOp .NotIn u (.ref a)) Q E s := by
  obtain ⟨vs, rel, dd⟩ := d.2 s.heap I.kIn
  refine wpAny_notIn_of (kV_is ry) d.1 dd.mapOf ?_
  rw [← (rel.val k).isSome_eq]
  exact h _ (I.tok _)
theorem kd_get2 {d : V} {Q : Value → Shared → Prop} (I : Inv X pins σ H s) (g : KD X.prog X.w X.K a kvs) (ry : RelV (kV k) u) (rd : RelV d r) (h : ∀ w' s', Inv X pins σ H s' → RelV ((valV kvs k).getD d) w' → Q w' s') :
    wpAny (model X.prog X.w) A (call (.builtin "dict.get") [.ref a, u, r]) Q E s := by
  obtain ⟨vs, rel, dd⟩ := g.2 s.heap I.kIn
  refine call_meetsIn PySem.F.slot_dict_get dd.typeIs PySem.F.entry_dict_get (PySem.F.args_dict_get_3 _ _ _) (meets_dict_get_default (mixKind X.prog X.w) a (kV_is ry) g.1 r) ⟨_, dd.mapOf, h _ _ (I.tok _) ?_⟩
  exact (rel.val k).getD rd
theorem kd_type (I : Inv X pins σ H s) (d : KD X.prog X.w X.K a kvs) : s.TypeIs (.ref a) "dict" ∧ ∀ b, Value.ref a = .ref b → ∃ ob, s.heap.get? b = some ob ∧ ob.dict = none := by
  obtain ⟨vs, rel, dd⟩ := d.2 s.heap I.kIn
  refine ⟨dd.typeIs, fun b q => ?_⟩
  cases q
  obtain ⟨ob, _, _, h1, h2, _⟩ := dd
  exact ⟨ob, h1, h2.2.1⟩
end
def tKGet (P : Program) (w : World) (K : PySem.W.Frag) (td ty : TE) : TE := fun σ H Q => td σ H fun x H1 => ty σ H1 fun y H2 => ∃ a kvs k v, x = .ref a ∧ KD P w K a kvs ∧ y = kV k ∧ valV kvs k = some v ∧ Q v H2
def tKIn (P : Program) (w : World) (K : PySem.W.Frag) (ty td : TE) : TE := fun σ H Q => ty σ H fun y H1 => td σ H1 fun x H2 => ∃ a kvs k, x = .ref a ∧ KD P w K a kvs ∧ y = kV k ∧ Q (.bl (valV kvs k).isSome) H2
def tKNotIn (P : Program) (w : World) (K : PySem.W.Frag) (ty td : TE) : TE := fun σ H Q => ty σ H fun y H1 => td σ H1 fun x H2 => ∃ a kvs k, x = .ref a ∧ KD P w K a kvs ∧ y = kV k ∧ Q (.bl (!(valV kvs k).isSome)) H2
def tKGet2 (P : Program) (w : World) (K : PySem.W.Frag) (td ty tx : TE) : TE := fun σ H Q => td σ H fun x H1 => ∃ a kvs, x = .ref a ∧ KD P w K a kvs ∧ ty σ H1 fun y H2 => tx σ H2 fun z H3 => ∃ k, y = kV k ∧ Q ((valV kvs k).getD z) H3
theorem KD.mk {P : Program} {w : World} {K : PySem.W.Frag} {a : Addr} {o : Obj} {es : List DictEntry} {ep : Nat} {kvs : List (Key × V)} (hk : K.lookup a = some o) (hx : o.ExactDict) (hd : o.data = .dict es.toArray ep) (hs : (a == sysModules) = false)
    (rows : Paired (fun (e : DictEntry) (kv : Key × V) => keyIs kv.1 e.key = true ∧ e.hash = keyH w kv.1 ∧ RelV kv.2 e.val) es kvs) (nd : (kvs.map (·.1)).Nodup) : KD P w K a kvs := by
  refine ⟨hs, fun h X => ⟨(es.zip kvs).map fun p => (p.2.1, p.1.val), ?_, o, es.toArray, ep, X a o hk, hx, hd, ?_, ?_, ?_⟩⟩
  · clear hd nd
    induction rows with
    | nil => exact .nil
    | cons h t ih => exact .cons ⟨rfl, h.2.2⟩ ih
  · intro e he
    clear hd nd
    replace he : e ∈ es := by simpa using he
    induction rows with
    | nil => cases he
    | cons h t ih =>
      rcases List.mem_cons.mp he with e1 | he
      · subst e1
        exact ⟨_, h.1, h.2.1⟩
      · exact ih he
  · clear hd nd
    show Pairs (mixKind P w) es ((es.zip kvs).map fun p => (p.2.1, p.1.val))
    induction rows with
    | nil => exact .nil
    | cons h t ih => exact .cons h.1 rfl ih
  · have e : ((es.zip kvs).map fun p => (p.2.1, p.1.val)).map (·.1) = kvs.map (·.1) := by
      clear hd nd
      induction rows with
      | nil => rfl
      | cons h t ih =>
        rw [List.zip_cons_cons, List.map_cons, List.map_cons, List.map_cons, ih]
    rw [e]
    exact nd
section
variable {X : Cx} {o i e f : Expr} {pos apos cpos : Pos} {td ty tx : TE}
theorem pe_kget (ho : PE X o td) (hi : PE X i ty) (hs : NoSl i) : PE X (.Subscript o i pos) (tKGet X.prog X.w X.K td ty) := by
  intro pins s σ H Q I h
  refine subD_of PySem.F.slot_dict_getitem.lookup hs (thn (ho pins s σ H _ I h) fun u s1 ⟨x, H1, I1, rx, q1⟩ => thn (hi pins s1 σ H1 _ I1 q1) fun iv s2 ⟨y, H2, I2, ry, a, kvs, k, v, ex, d, ey, l, q2⟩ => ?_)
  subst ex ey
  obtain rfl : u = Value.ref a := rx
  exact ⟨(kd_type I2 d).1, kd_getItem I2 d l ry fun w' s3 I3 rw' => ⟨v, H2, I3, rw', q2⟩⟩
theorem pc_kin (hi : PE X i ty) (ho : PE X o td) : PC X .In i o (tKIn X.prog X.w X.K ty td) := by
  intro pins s σ H Q I h
  refine thn (hi pins s σ H _ I h) fun iv s1 ⟨y, H1, I1, ry, q1⟩ => thn (ho pins s1 σ H1 _ I1 q1) fun u s2 ⟨x, H2, I2, rx, a, kvs, k, ex, d, ey, q2⟩ => ?_
  subst ex ey
  obtain rfl : u = Value.ref a := rx
  exact kd_in I2 d ry fun s3 I3 => ⟨.bl (valV kvs k).isSome, H2, I3, rfl, q2⟩
theorem pc_knotin (hi : PE X i ty) (ho : PE X o td) : PC X .NotIn i o (tKNotIn X.prog X.w X.K ty td) := by
  intro pins s σ H Q I h
  refine thn (hi pins s σ H _ I h) fun iv s1 ⟨y, H1, I1, ry, q1⟩ => thn (ho pins s1 σ H1 _ I1 q1) fun u s2 ⟨x, H2, I2, rx, a, kvs, k, ex, d, ey, q2⟩ => ?_
  subst ex ey
  obtain rfl : u = Value.ref a := rx
  exact kd_notIn I2 d ry fun s3 I3 => ⟨.bl (!(valV kvs k).isSome), H2, I3, rfl, q2⟩
theorem pe_kget2 (ho : PE X o td) (he : PE X e ty) (hf : PE X f tx) (m : M2 X o "get" apos e f cpos) : PE X (.Call (.Attribute o "get" apos) [e, f] [] cpos) (tKGet2 X.prog X.w X.K td ty tx) := by
  intro pins s σ H Q I h
  refine wpAny_Call_method m.base m.few m.line PySem.F.plainAttrs_dict PySem.F.slot_dict_get PySem.F.type_dict_get (thn (ho pins s σ H _ I h) fun u s1 ⟨x, H1, I1, rx, a, kvs, ex, d, q1⟩ => ?_)
  subst ex
  obtain rfl : u = Value.ref a := rx
  obtain ⟨t1, t2⟩ := kd_type I1 d
  refine ⟨t1, t2, ?_⟩
  rw [m.trees]
  refine Calls.callWith_builtin rfl (Calls.evalArgs_plain (Calls.spliced_cons (thn (he pins s1 σ H1 _ I1 q1) fun iv s2 ⟨y, H2, I2, ry, q2⟩ =>
    Calls.spliced_cons (thn (hf pins s2 σ H2 _ I2 q2) fun fv s3 ⟨z, H3, I3, rz, k, ey, q3⟩ => Calls.spliced_nil ?_))))
  subst ey
  exact kd_get2 I3 d ry rz fun w' s4 I4 rw' => ⟨_, H3, I4, rw', q3⟩
end
section
variable {X : Cx}
theorem cr_dictD : CallR X (.type "dict") (fun xs H Q => ∃ a kvs, xs = [V.ref a] ∧ Rd H a (.dK kvs) ∧ ∀ p, H p = none → Q (.ref p) (upd H p (.dK kvs))) := by
  intro pins s σ H xs us Q I r q
  obtain ⟨a, kvs, rfl, hr, q⟩ := q
  rw [Vals.ref1 r]
  exact d_copyOf I hr fun p s' hp I' => ⟨.ref p, _, I', rfl, q p hp⟩
theorem vals_by : ∀ {xs : List V} {us : List Value}, xs.length = us.length → (∀ (i : Nat) x u, xs[i]? = some x → us[i]? = some u → RelV x u) → Vals xs us
  | [], [], _, _ => .nil
  | [], _ :: _, h, _ => by simp at h
  | _ :: _, [], h, _ => by simp at h
  | x :: xs, u :: us, h, f => .cons (f 0 x u rfl rfl) (vals_by (by simpa using h) fun i a b ha hb => f (i + 1) a b (by simpa using ha) (by simpa using hb))
def tRng1 (ta : TA) : TE := fun σ H Q => ta σ H fun vs H1 => ∃ j : Int, vs = [.int j] ∧ ∀ p, H1 p = none → Q (.ref p) (upd H1 p (.rng 0 j))
theorem pe_range1 {a : Expr} {ta : TA} {p pos : Pos} (hg : Gl X "range") (hm : X.mg "range" = none) (ha : PA X [a] ta) (hs : starEach [a] X.env = [(false, eval a X.env)] := by rfl) : PE X (.Call (.Name "range" p) [a] [] pos) (tRng1 ta) := by
  intro pins s σ H R I h
  refine Call_ (ld_blt I hg hm boot_range (PyProof.Rows.callWith_type1 (thn (ha pos pins s σ H _ I h) fun us s1 ⟨vs, H1, I1, r1, q1⟩ => ?_) hs rfl))
  obtain ⟨j, e, q⟩ := q1
  subst e
  cases r1 with
  | cons r rr =>
    cases rr
    obtain ⟨t, rfl⟩ := r
    refine call_range_1 ?_
    exact ⟨.ref s1.heap.objs.size, _, I1.laid (o := .rng 0 j) (fun b u e => Heap.get?_push_of_some _ e) (Nat.le_refl _) (show ∃ t u v, _ from ⟨_, _, _, Heap.get?_push_size _ rfl⟩), rfl, q _ (I1.hok.fresh (Nat.le_refl _))⟩
theorem cr_list_rng (hc : X.calm = true) : CallR X (.type "list") (fun xs H Q => ∃ (r : Addr) (j : Int), xs = [V.ref r] ∧ H r = some (.rng 0 j) ∧ 0 ≤ j ∧ j ≤ 1048576 ∧ ∀ l, H l = none → Q (.ref l) (upd H l (.lst ((List.range j.toNat).map fun k => V.int (k : Nat))))) := by
  intro pins s σ H xs us Q I r q
  obtain ⟨a, j, rfl, ha, h0, h1, q⟩ := q
  rw [Vals.ref1 r]
  obtain ⟨t, u, v, e⟩ := I.hok a _ ha
  have hn : Builtin.Range.rangeSize 0 j 1 = (j.toNat : Nat) := by rw [rangeSize_one]; split <;> omega
  refine call_list_range (n := j.toNat) (I.ok.hd hc) (show IsRange s.heap a 0 j 1 t u v from e) (small_one (by omega) (by omega) (by omega) (by omega)) hn (by omega) fun h' tk acc' c' hk hS hit => ?_
  refine ⟨.ref s.heap.objs.size, _, I.laid (o := .lst ((List.range j.toNat).map fun k => V.int (k : Nat))) (t' := tk) hk (Nat.le_refl _) ?_, rfl, q _ (I.hok.fresh (Nat.le_refl _))⟩
  refine ⟨?_, acc'.toList, c', ?_, by simpa using hS⟩
  · rw [List.length_map, List.length_range, sizeLine_eq]
    omega
  · refine vals_by (by rw [List.length_map, List.length_range, Array.length_toList]; exact hit.1.symm) fun k x z hx hz => ?_
    rw [List.getElem?_map] at hx
    obtain ⟨m, hm, rfl⟩ := Option.map_eq_some_iff.mp hx
    obtain ⟨t2, e2⟩ := hit.2 k z (by simpa using hz)
    have hkm : k = m := by
      obtain ⟨h3, h4⟩ := List.getElem?_eq_some_iff.mp hm
      rw [List.getElem_range] at h4
      exact h4
    subst hkm
    exact ⟨t2, by rw [e2]; simp⟩
def Callable (X : Cx) (k : Nat) (f : Addr) (sp : Sp) : Prop := ∃ fd ps, FnOk X.prog X.w X.K X.mg X.base CX0 k f fd ps sp ∧ Binds X.K fd ps [] ∧ PySem.W.keepIn X.K (.ref f) = true
def tCallL (X : Cx) (k : Nat) (i : Nat) (t : TA) : TE := fun σ H Q => ∃ f sp, σ[i]? = some (some (.ref f)) ∧ Callable X k f sp ∧ t σ H fun vs H1 => sp vs H1 Q E0
theorem pe_callL {k i : Nat} {x : Str} {p pos : Pos} {e : Expr} {es : List Expr} {t : TA} (hr : Room k X.A) (ha : PA X (e :: es) t) (hN : X.N[i]? = some x := by rfl) (hv : Vis X.env.scope x := by first | exact Or.inl rfl | exact Or.inr (Or.inl rfl) | exact Or.inr (Or.inr rfl)) (hdb : (x == ("__debug__" : Str)) = false := by decide)
    (he : starEach (e :: es) X.env = (false, eval e X.env) :: starEach es X.env := by rfl) (hpl : (backTo pos (starEach es X.env)).any (·.1) = false := by rfl) (hcd : (x == ("__classdict__" : Str)) = false := by decide) :
    PE X (.Call (.Name x p) (e :: es) [] pos) (tCallL X k i t) := by
  intro pins s σ H Q I h
  obtain ⟨f, sp, hs, ⟨fd, ps, F, hb, hk⟩, h⟩ := h
  refine wpAny_Call_Name_kw (thn (pe_var (pos := p) hN hv hdb hcd pins s σ H (fun v H' => v = .ref f ∧ H' = H) I ⟨_, hs, rfl, rfl⟩) fun u s0 ⟨v, H', I0, rv, ev, eH⟩ => ?_)
  subst ev eH
  obtain rfl : u = Value.ref f := rv
  refine PySem.W.callWith_K (h₀ := X.base) I.ok.mod.kin hk (thn (ha pos pins s0 σ H' _ I0 h) fun us s1 ⟨vs, H1, I1, r, q⟩ => ⟨I1.kIn, ?_⟩) he hpl
  refine run_fn (dvs := []) F hr hb .nil pass0 I1 r ?_
  rw [List.append_nil]
  exact q
theorem pe_globI {x : Str} {i : Int} {pos : Pos} (hg : Gl X x) (hm : ∃ t, X.mg x = some (.int i t)) (hd : (x == ("__debug__" : Str)) = false := by decide) : PE X (.Name x pos) (tC (.int i)) := by
  obtain ⟨t, hm⟩ := hm
  exact pe_glob hg hm ⟨t, rfl⟩ hd
def rIxN (K : PySem.W.Frag) : V → V → Hp → VK → Prop := fun x y H Q => ∃ (p : Addr) (xs : List V) (j : Nat) (v : V), x = .ref p ∧ y = .int (j : Nat) ∧ SqL K H p xs ∧ xs[j]? = some v ∧ Q v H
theorem get_list : PGet X (rIxN X.K) := by
  intro pins s σ H o i ov iv Q I ro ri h
  obtain ⟨p, xs, j, z, rfl, rfl, hq, he, q⟩ := h
  cases ro
  obtain ⟨t, rfl⟩ := ri
  obtain ⟨its, r, pl, hz⟩ := I.list hq
  obtain ⟨w, ew, rw'⟩ := r.get he
  have hn := line63
  have hj : j < xs.length := (List.getElem?_eq_some_iff.mp he).1
  exact wpAny_getItem_list pl.isList (by omega) (by omega) (by simpa using ew) ⟨z, H, I, rw', q⟩
end
def blkB (N : List Str) (sc scope : Scope) (own : List (Str × Nat)) : Bool :=
  decide (scope.kind = .function) && (scope.names.all (fun y => decide (scope.names.lookup y.1 = some y.2)) && (own.all (fun p => decide (N[p.2]? = some p.1)) &&
    (scope.names.all (fun y => !decide (y.2 = .free) || (decide (sc.names.lookup y.1 = some .cell) || decide (sc.names.lookup y.1 = some .free))) &&
      scope.names.all (fun y => (!decide (y.2 = .local) && !decide (y.2 = .cell)) || (decide (y.1 ∈ own.map (·.1)) || !decide (y.1 ∈ N))))))
theorem blk_mk {N : List Str} {sc scope : Scope} {own : List (Str × Nat)} (h : blkB N sc scope own = true) : BlkOk N sc scope own := by
  unfold blkB at h
  simp only [Bool.and_eq_true, Bool.or_eq_true, Bool.not_eq_true', decide_eq_true_iff, decide_eq_false_iff_not, List.all_eq_true] at h
  obtain ⟨h1, h2, h3, h4, h5⟩ := h
  refine ⟨h1, h2, h3, fun y hy e => ?_, fun y hy e => ?_⟩
  · rcases h4 y hy with q | q
    · exact absurd e q
    · exact q
  · rcases h5 y hy with q | q
    · rcases e with e | e
      · exact absurd e q.1
      · exact absurd e q.2
    · exact q
end L2
end
section
set_option Elab.async false
set_option linter.all false
set_option maxRecDepth 100000
set_option maxHeartbeats 4000000
namespace L2
open PySem PySem.Spec PyProof.Rows
def RgO (p : Addr) (i j c : Int) : HO := .ext fun h => ∃ t u v, IsRange h p i j c t u v
theorem rgO_ok {P : Program} {w : World} {H : Hp} {h : Heap} {p : Addr} {i j c : Int} {t u v : Tok} (e : IsRange h p i j c t u v) : ObjOk P w H h p (RgO p i j c) :=
  ⟨⟨t, u, v, e⟩, ⟨_, e⟩, fun h1 h2 ⟨t, u, v, e⟩ k => ⟨t, u, v, k _ e⟩⟩
section
variable {X : Cx}
def tRng2 (ta : TA) : TE := fun σ H Q => ta σ H fun vs H1 => ∃ i j : Int, vs = [.int i, .int j] ∧ ∀ p, H1 p = none → Q (.ref p) (upd H1 p (RgO p i j 1))
def tRng3 (ta : TA) : TE := fun σ H Q => ta σ H fun vs H1 => ∃ i j c : Int, vs = [.int i, .int j, .int c] ∧ c ≠ 0 ∧ c.natAbs < 1073741824 ∧ ∀ p, H1 p = none → Q (.ref p) (upd H1 p (RgO p i j c))
theorem pe_range2 {a b : Expr} {ta : TA} {p pos : Pos} (hg : Gl X "range") (hm : X.mg "range" = none) (ha : PA X [a, b] ta)
    (hs : starEach [a, b] X.env = (false, eval a X.env) :: starEach [b] X.env := by rfl) (hpl : (backTo pos (starEach [b] X.env)).any (·.1) = false := by rfl) : PE X (.Call (.Name "range" p) [a, b] [] pos) (tRng2 ta) := by
  intro pins s σ H R I h
  refine Call_ (ld_blt I hg hm boot_range (PyProof.Rows.callWith_type1 (thn (ha pos pins s σ H _ I h) fun us s1 ⟨vs, H1, I1, r1, q1⟩ => ?_) hs hpl))
  obtain ⟨i, j, e, q⟩ := q1
  subst e
  cases r1 with
  | cons r rr =>
    cases rr with
    | cons r' rr =>
      cases rr
      obtain ⟨t, rfl⟩ := r
      obtain ⟨t', rfl⟩ := r'
      refine call_range_2 ?_
      exact ⟨.ref s1.heap.objs.size, _, I1.laid (o := RgO s1.heap.objs.size i j 1) (fun b u e => Heap.get?_push_of_some _ e) (Nat.le_refl _) (rgO_ok (IsRange.new ..)), rfl, q _ (I1.hok.fresh (Nat.le_refl _))⟩
theorem pe_range3 {a b c : Expr} {ta : TA} {p pos : Pos} (hg : Gl X "range") (hm : X.mg "range" = none) (ha : PA X [a, b, c] ta)
    (hs : starEach [a, b, c] X.env = (false, eval a X.env) :: starEach [b, c] X.env := by rfl) (hpl : (backTo pos (starEach [b, c] X.env)).any (·.1) = false := by rfl) : PE X (.Call (.Name "range" p) [a, b, c] [] pos) (tRng3 ta) := by
  intro pins s σ H R I h
  refine Call_ (ld_blt I hg hm boot_range (PyProof.Rows.callWith_type1 (thn (ha pos pins s σ H _ I h) fun us s1 ⟨vs, H1, I1, r1, q1⟩ => ?_) hs hpl))
  obtain ⟨i, j, k, e, c0, c1, q⟩ := q1
  subst e
  cases r1 with
  | cons r rr =>
    cases rr with
    | cons r' rr =>
      cases rr with
      | cons r'' rr =>
        cases rr
        obtain ⟨t, rfl⟩ := r
        obtain ⟨t', rfl⟩ := r'
        obtain ⟨t'', rfl⟩ := r''
        refine call_range_3 c0 ?_ (.inl (PyProof.noPylong_small c1))
        exact ⟨.ref s1.heap.objs.size, _, I1.laid (o := RgO s1.heap.objs.size i j k) (fun b u e => Heap.get?_push_of_some _ e) (Nat.le_refl _) (rgO_ok (IsRange.new ..)), rfl, q _ (I1.hok.fresh (Nat.le_refl _))⟩
def rLRng : List V → Hp → VK → Prop := fun xs H Q => ∃ (r : Addr) (i j c : Int) (n : Nat), xs = [V.ref r] ∧ H r = some (RgO r i j c) ∧ RgC i j c n ∧ n ≤ 1048576 ∧ ∀ l, H l = none → Q (.ref l) (upd H l (.lst ((List.range n).map fun k => V.int (i + (k : Nat) * c))))
theorem cr_list_rgO (hc : X.calm = true) : CallR X (.type "list") rLRng := by
  intro pins s σ H xs us Q I r q
  obtain ⟨a, i, j, c, n, rfl, ha, ⟨c0, c1, c2, c3⟩, h1, q⟩ := q
  rw [Vals.ref1 r]
  obtain ⟨⟨t, u, v, e⟩, _, _⟩ := I.hok a _ ha
  refine call_list_range (n := n) (I.ok.hd hc) e c2 c3 (by omega) fun h' tk acc' c' hk hS hit => ?_
  refine ⟨.ref s.heap.objs.size, _, I.laid (o := .lst ((List.range n).map fun k => V.int (i + (k : Nat) * c))) (t' := tk) hk (Nat.le_refl _) ?_, rfl, q _ (I.hok.fresh (Nat.le_refl _))⟩
  refine ⟨?_, acc'.toList, c', ?_, by simpa using hS⟩
  · rw [List.length_map, List.length_range, sizeLine_eq]
    omega
  · refine vals_by (by rw [List.length_map, List.length_range, Array.length_toList]; exact hit.1.symm) fun k x z hx hz => ?_
    rw [List.getElem?_map] at hx
    obtain ⟨m, hm, rfl⟩ := Option.map_eq_some_iff.mp hx
    obtain ⟨t2, e2⟩ := hit.2 k z (by simpa using hz)
    have hkm : k = m := by
      obtain ⟨h3, h4⟩ := List.getElem?_eq_some_iff.mp hm
      rw [List.getElem_range] at h4
      exact h4
    subst hkm
    exact ⟨t2, e2⟩
theorem RgC.pos {i j : Int} (ha : -(2 ^ 62) ≤ i) (ha' : i < 2 ^ 62) (hb : -(2 ^ 62) ≤ j) (hb' : j < 2 ^ 62) : RgC i j 1 (j - i).toNat :=
  ⟨by decide, by decide, small_one ha ha' hb hb', by rw [rangeSize_one]; split <;> omega⟩
end
end L2
namespace L2
open PySem PySem.Spec PyProof.Rows
def KTup (K : PySem.W.Frag) (a : Addr) (xs : List V) : Prop := ∃ (o : Obj) (its : Array Value) (n : Nat), K.lookup a = some o ∧ o.cls = .type "tuple" ∧ o.data = .seq its n ∧ its.size ≤ sizeLine ∧ Vals xs its.toList
theorem KTup.sq {K : PySem.W.Frag} {a : Addr} {xs : List V} (h : KTup K a xs) (H : Hp) : SqT K H a xs := .inr h
end L2
end
section
set_option Elab.async false
set_option linter.all false
set_option maxRecDepth 100000
set_option maxHeartbeats 4000000
namespace Pt
open PySem PySem.Spec PyProof.Rows L2
def top (i : Nat) : Stmt := PySem.Challenge.pw_plantsdown_s01_answers.main.body.getD i (.Pass ⟨0, 0, 0, 0⟩)
abbrev s_wishes_of : Stmt := top 1
abbrev s_cut_of : Stmt := top 2
abbrev s_worth_of : Stmt := top 3
abbrev s_plant_init : Stmt := inClass (top 5) 0
abbrev s_grid_init : Stmt := inClass (top 6) 0
abbrev s_begin : Stmt := inClass (top 6) 1
abbrev s_has_begun : Stmt := inClass (top 6) 2
abbrev s_has_feeder : Stmt := inClass (top 6) 3
abbrev s_add_feeder : Stmt := inClass (top 6) 4
abbrev s_set_capacity : Stmt := inClass (top 6) 5
abbrev s_feeder_numbers : Stmt := inClass (top 6) 6
abbrev s_feeders_below_first : Stmt := inClass (top 6) 7
abbrev s_path_to_first : Stmt := inClass (top 6) 8
abbrev s_add_plant : Stmt := inClass (top 6) 9
abbrev s_find_plant : Stmt := inClass (top 6) 10
abbrev s_plant_numbers : Stmt := inClass (top 6) 11
abbrev s_plants_but : Stmt := inClass (top 6) 12
abbrev s_drop_plant : Stmt := inClass (top 6) 13
abbrev s_with_plants : Stmt := inClass (top 6) 14
abbrev s_call_init : Stmt := inClass (top 12) 0
abbrev s_split_calls : Stmt := top 13
abbrev s_is_of_kind : Stmt := top 14
abbrev s_is_in_ranges : Stmt := top 15
abbrev s_shares_by_order : Stmt := top 18
abbrev s_shares_by_age : Stmt := top 19
abbrev s_total_of : Stmt := top 20
abbrev s_flows_of : Stmt := top 21
abbrev s_shares_fit : Stmt := top 22
abbrev s_raised_to : Stmt := top 23
abbrev s_greatest_level : Stmt := top 24
abbrev s_even_shares : Stmt := top 25
abbrev s_shares_by_rule : Stmt := top 26
abbrev s_answer_begin : Stmt := top 39
abbrev s_answer_feeder : Stmt := top 40
abbrev s_answer_cap : Stmt := top 41
abbrev s_answer_plant : Stmt := top 42
abbrev s_answer_want : Stmt := top 43
abbrev s_answer_leave : Stmt := top 44
abbrev s_answer_by_age : Stmt := top 45
abbrev s_answer_by : Stmt := top 46
abbrev s_answer_even : Stmt := top 47
abbrev s_answer_total : Stmt := top 48
abbrev s_answer_flows : Stmt := top 49
abbrev s_answer_room : Stmt := top 50
abbrev s_answer_cut : Stmt := top 51
abbrev s_answer_check : Stmt := top 52
abbrev s_answer_down : Stmt := top 53
abbrev s_answer_worth : Stmt := top 54
abbrev s_answer_without : Stmt := top 55
abbrev s_answer_book : Stmt := top 56
abbrev s_answer_call : Stmt := top 58
abbrev s_answers : Stmt := top 59
theorem sc_wishes_of : FnScope ["grid", "wishes", "feeder", "plant"] ["grid"] (defScope s_wishes_of) := ⟨rfl, rfl, rfl, by decide +kernel, rfl, by decide +kernel, by decide +kernel⟩
theorem sc_cut_of : FnScope ["grid", "wishes", "cut", "feeder", "stopping", "upper"] ["grid"] (defScope s_cut_of) := ⟨rfl, rfl, rfl, by decide +kernel, rfl, by decide +kernel, by decide +kernel⟩
theorem sc_worth_of : FnScope ["grid", "feeders", "worth", "plant", "path", "feeder"] ["grid", "feeders"] (defScope s_worth_of) := ⟨rfl, rfl, rfl, by decide +kernel, rfl, by decide +kernel, by decide +kernel⟩
theorem sc_plant_init : FnScope ["self", "number", "feeder", "want"] ["self", "number", "feeder", "want"] (defScope s_plant_init) := ⟨rfl, rfl, rfl, by decide +kernel, rfl, by decide +kernel, by decide +kernel⟩
theorem sc_grid_init : FnScope ["self"] ["self"] (defScope s_grid_init) := ⟨rfl, rfl, rfl, by decide +kernel, rfl, by decide +kernel, by decide +kernel⟩
theorem sc_begin : FnScope ["self", "capacity"] ["self", "capacity"] (defScope s_begin) := ⟨rfl, rfl, rfl, by decide +kernel, rfl, by decide +kernel, by decide +kernel⟩
theorem sc_has_begun : FnScope ["self"] ["self"] (defScope s_has_begun) := ⟨rfl, rfl, rfl, by decide +kernel, rfl, by decide +kernel, by decide +kernel⟩
theorem sc_has_feeder : FnScope ["self", "feeder"] ["self", "feeder"] (defScope s_has_feeder) := ⟨rfl, rfl, rfl, by decide +kernel, rfl, by decide +kernel, by decide +kernel⟩
theorem sc_add_feeder : FnScope ["self", "upper", "capacity", "feeder"] ["self", "upper", "capacity"] (defScope s_add_feeder) := ⟨rfl, rfl, rfl, by decide +kernel, rfl, by decide +kernel, by decide +kernel⟩
theorem sc_set_capacity : FnScope ["self", "feeder", "capacity"] ["self", "feeder", "capacity"] (defScope s_set_capacity) := ⟨rfl, rfl, rfl, by decide +kernel, rfl, by decide +kernel, by decide +kernel⟩
theorem sc_feeder_numbers : FnScope ["self"] ["self"] (defScope s_feeder_numbers) := ⟨rfl, rfl, rfl, by decide +kernel, rfl, by decide +kernel, by decide +kernel⟩
theorem sc_feeders_below_first : FnScope ["self"] ["self"] (defScope s_feeders_below_first) := ⟨rfl, rfl, rfl, by decide +kernel, rfl, by decide +kernel, by decide +kernel⟩
theorem sc_path_to_first : FnScope ["self", "feeder", "path"] ["self", "feeder"] (defScope s_path_to_first) := ⟨rfl, rfl, rfl, by decide +kernel, rfl, by decide +kernel, by decide +kernel⟩
theorem sc_add_plant : FnScope ["self", "feeder", "want"] ["self", "feeder", "want"] (defScope s_add_plant) := ⟨rfl, rfl, rfl, by decide +kernel, rfl, by decide +kernel, by decide +kernel⟩
theorem sc_find_plant : FnScope ["self", "number", "plant"] ["self", "number"] (defScope s_find_plant) := ⟨rfl, rfl, rfl, by decide +kernel, rfl, by decide +kernel, by decide +kernel⟩
theorem sc_plant_numbers : FnScope ["self", "plant"] ["self"] (defScope s_plant_numbers) := ⟨rfl, rfl, rfl, by decide +kernel, rfl, by decide +kernel, by decide +kernel⟩
theorem sc_plants_but : FnScope ["self", "number", "plant"] ["self", "number"] (defScope s_plants_but) := ⟨rfl, rfl, rfl, by decide +kernel, rfl, by decide +kernel, by decide +kernel⟩
theorem sc_drop_plant : FnScope ["self", "number"] ["self", "number"] (defScope s_drop_plant) := ⟨rfl, rfl, rfl, by decide +kernel, rfl, by decide +kernel, by decide +kernel⟩
theorem sc_with_plants : FnScope ["self", "plants", "other"] ["self", "plants"] (defScope s_with_plants) := ⟨rfl, rfl, rfl, by decide +kernel, rfl, by decide +kernel, by decide +kernel⟩
theorem sc_call_init : FnScope ["self", "number", "numbers", "row"] ["self", "number", "numbers", "row"] (defScope s_call_init) := ⟨rfl, rfl, rfl, by decide +kernel, rfl, by decide +kernel, by decide +kernel⟩
theorem sc_split_calls : FnScope ["calls", "found", "place", "number", "row_place", "numbers", "row"] ["calls"] (defScope s_split_calls) := ⟨rfl, rfl, rfl, by decide +kernel, rfl, by decide +kernel, by decide +kernel⟩
theorem sc_is_of_kind : FnScope ["number", "kind", "least_and_most"] ["number", "kind"] (defScope s_is_of_kind) := ⟨rfl, rfl, rfl, by decide +kernel, rfl, by decide +kernel, by decide +kernel⟩
theorem sc_is_in_ranges : FnScope ["call", "kind", "number"] ["call"] (defScope s_is_in_ranges) := ⟨rfl, rfl, rfl, by decide +kernel, rfl, by decide +kernel, by decide +kernel⟩
theorem sc_shares_by_order : FnScope ["grid", "order", "room", "shares", "number", "plant", "path", "share", "feeder"] ["grid", "order"] (defScope s_shares_by_order) := ⟨rfl, rfl, rfl, by decide +kernel, rfl, by decide +kernel, by decide +kernel⟩
theorem sc_shares_by_age : FnScope ["grid"] ["grid"] (defScope s_shares_by_age) := ⟨rfl, rfl, rfl, by decide +kernel, rfl, by decide +kernel, by decide +kernel⟩
theorem sc_total_of : FnScope ["grid"] ["grid"] (defScope s_total_of) := ⟨rfl, rfl, rfl, by decide +kernel, rfl, by decide +kernel, by decide +kernel⟩
theorem sc_flows_of : FnScope ["grid", "shares", "flows", "feeder", "plant", "share"] ["grid", "shares"] (defScope s_flows_of) := ⟨rfl, rfl, rfl, by decide +kernel, rfl, by decide +kernel, by decide +kernel⟩
theorem sc_shares_fit : FnScope ["grid", "shares", "plant", "share", "flows", "feeder"] ["grid", "shares"] (defScope s_shares_fit) := ⟨rfl, rfl, rfl, by decide +kernel, rfl, by decide +kernel, by decide +kernel⟩
theorem sc_raised_to : FnScope ["grid", "shares", "rising", "level", "raised", "place"] ["grid", "shares", "rising", "level"] (defScope s_raised_to) := ⟨rfl, rfl, rfl, by decide +kernel, rfl, by decide +kernel, by decide +kernel⟩
theorem sc_greatest_level : FnScope ["grid", "shares", "rising", "level", "above", "middle", "place"] ["grid", "shares", "rising", "level"] (defScope s_greatest_level) := ⟨rfl, rfl, rfl, by decide +kernel, rfl, by decide +kernel, by decide +kernel⟩
theorem sc_even_shares : FnScope ["grid", "shares", "rising", "level", "still_rising", "place", "plant"] ["grid"] (defScope s_even_shares) := ⟨rfl, rfl, rfl, by decide +kernel, rfl, by decide +kernel, by decide +kernel⟩
theorem sc_shares_by_rule : FnScope ["grid", "rule"] ["grid", "rule"] (defScope s_shares_by_rule) := ⟨rfl, rfl, rfl, by decide +kernel, rfl, by decide +kernel, by decide +kernel⟩
theorem sc_answer_begin : FnScope ["grid", "call"] ["grid", "call"] (defScope s_answer_begin) := ⟨rfl, rfl, rfl, by decide +kernel, rfl, by decide +kernel, by decide +kernel⟩
theorem sc_answer_feeder : FnScope ["grid", "call"] ["grid", "call"] (defScope s_answer_feeder) := ⟨rfl, rfl, rfl, by decide +kernel, rfl, by decide +kernel, by decide +kernel⟩
theorem sc_answer_cap : FnScope ["grid", "call"] ["grid", "call"] (defScope s_answer_cap) := ⟨rfl, rfl, rfl, by decide +kernel, rfl, by decide +kernel, by decide +kernel⟩
theorem sc_answer_plant : FnScope ["grid", "call"] ["grid", "call"] (defScope s_answer_plant) := ⟨rfl, rfl, rfl, by decide +kernel, rfl, by decide +kernel, by decide +kernel⟩
theorem sc_answer_want : FnScope ["grid", "call", "plant"] ["grid", "call"] (defScope s_answer_want) := ⟨rfl, rfl, rfl, by decide +kernel, rfl, by decide +kernel, by decide +kernel⟩
theorem sc_answer_leave : FnScope ["grid", "call"] ["grid", "call"] (defScope s_answer_leave) := ⟨rfl, rfl, rfl, by decide +kernel, rfl, by decide +kernel, by decide +kernel⟩
theorem sc_answer_by_age : FnScope ["grid", "call"] ["grid", "call"] (defScope s_answer_by_age) := ⟨rfl, rfl, rfl, by decide +kernel, rfl, by decide +kernel, by decide +kernel⟩
theorem sc_answer_by : FnScope ["grid", "call"] ["grid", "call"] (defScope s_answer_by) := ⟨rfl, rfl, rfl, by decide +kernel, rfl, by decide +kernel, by decide +kernel⟩
theorem sc_answer_even : FnScope ["grid", "call"] ["grid", "call"] (defScope s_answer_even) := ⟨rfl, rfl, rfl, by decide +kernel, rfl, by decide +kernel, by decide +kernel⟩
theorem sc_answer_total : FnScope ["grid", "call"] ["grid", "call"] (defScope s_answer_total) := ⟨rfl, rfl, rfl, by decide +kernel, rfl, by decide +kernel, by decide +kernel⟩
theorem sc_answer_flows : FnScope ["grid", "call", "flows", "feeder"] ["grid", "call"] (defScope s_answer_flows) := ⟨rfl, rfl, rfl, by decide +kernel, rfl, by decide +kernel, by decide +kernel⟩
theorem sc_answer_room : FnScope ["grid", "call", "feeder", "one_more"] ["grid", "call"] (defScope s_answer_room) := ⟨rfl, rfl, rfl, by decide +kernel, rfl, by decide +kernel, by decide +kernel⟩
theorem sc_answer_cut : FnScope ["grid", "call"] ["grid", "call"] (defScope s_answer_cut) := ⟨rfl, rfl, rfl, by decide +kernel, rfl, by decide +kernel, by decide +kernel⟩
theorem sc_answer_check : FnScope ["grid", "call"] ["grid", "call"] (defScope s_answer_check) := ⟨rfl, rfl, rfl, by decide +kernel, rfl, by decide +kernel, by decide +kernel⟩
theorem sc_answer_down : FnScope ["grid", "call", "shares", "plant", "share"] ["grid", "call"] (defScope s_answer_down) := ⟨rfl, rfl, rfl, by decide +kernel, rfl, by decide +kernel, by decide +kernel⟩
theorem sc_answer_worth : FnScope ["grid", "call", "feeder"] ["grid", "call"] (defScope s_answer_worth) := ⟨rfl, rfl, rfl, by decide +kernel, rfl, by decide +kernel, by decide +kernel⟩
theorem sc_answer_without : FnScope ["grid", "call", "number"] ["grid", "call"] (defScope s_answer_without) := ⟨rfl, rfl, rfl, by decide +kernel, rfl, by decide +kernel, by decide +kernel⟩
theorem sc_answer_book : FnScope ["grid", "call", "told", "feeder", "plant"] ["grid", "call"] (defScope s_answer_book) := ⟨rfl, rfl, rfl, by decide +kernel, rfl, by decide +kernel, by decide +kernel⟩
theorem sc_answer_call : FnScope ["grid", "call", "answer"] ["grid", "call"] (defScope s_answer_call) := ⟨rfl, rfl, rfl, by decide +kernel, rfl, by decide +kernel, by decide +kernel⟩
theorem sc_answers : FnScope ["calls", "grid", "told", "call", "answer"] ["calls"] (defScope s_answers) := ⟨rfl, rfl, rfl, by decide +kernel, rfl, by decide +kernel, by decide +kernel⟩
set_option genInjectivity false in
structure Ad where
  C_Plant : Addr
  C_Grid : Addr
  C_Call : Addr
  f_wishes_of : Addr
  d_wishes_of : FuncData
  f_cut_of : Addr
  d_cut_of : FuncData
  f_worth_of : Addr
  d_worth_of : FuncData
  f_plant_init : Addr
  d_plant_init : FuncData
  f_grid_init : Addr
  d_grid_init : FuncData
  f_begin : Addr
  d_begin : FuncData
  f_has_begun : Addr
  d_has_begun : FuncData
  f_has_feeder : Addr
  d_has_feeder : FuncData
  f_add_feeder : Addr
  d_add_feeder : FuncData
  f_set_capacity : Addr
  d_set_capacity : FuncData
  f_feeder_numbers : Addr
  d_feeder_numbers : FuncData
  f_feeders_below_first : Addr
  d_feeders_below_first : FuncData
  f_path_to_first : Addr
  d_path_to_first : FuncData
  f_add_plant : Addr
  d_add_plant : FuncData
  f_find_plant : Addr
  d_find_plant : FuncData
  f_plant_numbers : Addr
  d_plant_numbers : FuncData
  f_plants_but : Addr
  d_plants_but : FuncData
  f_drop_plant : Addr
  d_drop_plant : FuncData
  f_with_plants : Addr
  d_with_plants : FuncData
  f_call_init : Addr
  d_call_init : FuncData
  f_split_calls : Addr
  d_split_calls : FuncData
  f_is_of_kind : Addr
  d_is_of_kind : FuncData
  f_is_in_ranges : Addr
  d_is_in_ranges : FuncData
  f_shares_by_order : Addr
  d_shares_by_order : FuncData
  f_shares_by_age : Addr
  d_shares_by_age : FuncData
  f_total_of : Addr
  d_total_of : FuncData
  f_flows_of : Addr
  d_flows_of : FuncData
  f_shares_fit : Addr
  d_shares_fit : FuncData
  f_raised_to : Addr
  d_raised_to : FuncData
  f_greatest_level : Addr
  d_greatest_level : FuncData
  f_even_shares : Addr
  d_even_shares : FuncData
  f_shares_by_rule : Addr
  d_shares_by_rule : FuncData
  f_answer_begin : Addr
  d_answer_begin : FuncData
  f_answer_feeder : Addr
  d_answer_feeder : FuncData
  f_answer_cap : Addr
  d_answer_cap : FuncData
  f_answer_plant : Addr
  d_answer_plant : FuncData
  f_answer_want : Addr
  d_answer_want : FuncData
  f_answer_leave : Addr
  d_answer_leave : FuncData
  f_answer_by_age : Addr
  d_answer_by_age : FuncData
  f_answer_by : Addr
  d_answer_by : FuncData
  f_answer_even : Addr
  d_answer_even : FuncData
  f_answer_total : Addr
  d_answer_total : FuncData
  f_answer_flows : Addr
  d_answer_flows : FuncData
  f_answer_room : Addr
  d_answer_room : FuncData
  f_answer_cut : Addr
  d_answer_cut : FuncData
  f_answer_check : Addr
  d_answer_check : FuncData
  f_answer_down : Addr
  d_answer_down : FuncData
  f_answer_worth : Addr
  d_answer_worth : FuncData
  f_answer_without : Addr
  d_answer_without : FuncData
  f_answer_book : Addr
  d_answer_book : FuncData
  f_answer_call : Addr
  d_answer_call : FuncData
  f_answers : Addr
  d_answers : FuncData
  t_RANGES : Addr
  t_RANGES_0 : Addr
  t_RANGES_1 : Addr
  t_RANGES_2 : Addr
  t_RANGES_3 : Addr
  t_NUMBER_KINDS : Addr
  t_NUMBER_KINDS_0 : Addr
  t_NUMBER_KINDS_1 : Addr
  t_NUMBER_KINDS_2 : Addr
  t_NUMBER_KINDS_3 : Addr
  t_NUMBER_KINDS_4 : Addr
  t_NUMBER_KINDS_5 : Addr
  t_NUMBER_KINDS_6 : Addr
  t_NUMBER_KINDS_7 : Addr
  t_NUMBER_KINDS_8 : Addr
  t_NUMBER_KINDS_9 : Addr
  t_NUMBER_KINDS_10 : Addr
  t_NUMBER_KINDS_11 : Addr
  t_NUMBER_KINDS_12 : Addr
  t_NUMBER_KINDS_13 : Addr
  t_NUMBER_KINDS_14 : Addr
  t_NUMBER_KINDS_15 : Addr
  t_NUMBER_KINDS_16 : Addr
  t_NUMBER_KINDS_17 : Addr
  t_ROW_KINDS : Addr
  t_ANSWER_OF : Addr
structure Txt (P : Program) (w : World) (K : PySem.W.Frag) (mg : Str → Option Value) (A : Ad) : Prop where
  cl_Plant : Cls K A.C_Plant
  g_Plant : mg "Plant" = some (.ref A.C_Plant)
  mk_Plant : Mk K A.C_Plant A.f_plant_init
  n_Plant_number : NoAttr K A.C_Plant "number"
  n_Plant_feeder : NoAttr K A.C_Plant "feeder"
  n_Plant_want : NoAttr K A.C_Plant "want"
  cl_Grid : Cls K A.C_Grid
  g_Grid : mg "Grid" = some (.ref A.C_Grid)
  mk_Grid : Mk K A.C_Grid A.f_grid_init
  n_Grid_capacities : NoAttr K A.C_Grid "capacities"
  n_Grid_hangs_on : NoAttr K A.C_Grid "hangs_on"
  n_Grid_plants : NoAttr K A.C_Grid "plants"
  n_Grid_last_number : NoAttr K A.C_Grid "last_number"
  cl_Call : Cls K A.C_Call
  g_Call : mg "Call" = some (.ref A.C_Call)
  mk_Call : Mk K A.C_Call A.f_call_init
  n_Call_number : NoAttr K A.C_Call "number"
  n_Call_numbers : NoAttr K A.C_Call "numbers"
  n_Call_row : NoAttr K A.C_Call "row"
  F_wishes_of : Fun K "wishes_of" "wishes_of" s_wishes_of A.f_wishes_of A.d_wishes_of
  b_wishes_of : Binds K A.d_wishes_of ["grid"] []
  g_wishes_of : mg "wishes_of" = some (.ref A.f_wishes_of)
  F_cut_of : Fun K "cut_of" "cut_of" s_cut_of A.f_cut_of A.d_cut_of
  b_cut_of : Binds K A.d_cut_of ["grid"] []
  g_cut_of : mg "cut_of" = some (.ref A.f_cut_of)
  F_worth_of : Fun K "worth_of" "worth_of" s_worth_of A.f_worth_of A.d_worth_of
  b_worth_of : Binds K A.d_worth_of ["grid", "feeders"] []
  g_worth_of : mg "worth_of" = some (.ref A.f_worth_of)
  F_plant_init : Fun K "__init__" "Plant.__init__" s_plant_init A.f_plant_init A.d_plant_init
  b_plant_init : Binds K A.d_plant_init ["self", "number", "feeder", "want"] []
  F_grid_init : Fun K "__init__" "Grid.__init__" s_grid_init A.f_grid_init A.d_grid_init
  b_grid_init : Binds K A.d_grid_init ["self"] []
  F_begin : Fun K "begin" "Grid.begin" s_begin A.f_begin A.d_begin
  b_begin : Binds K A.d_begin ["self", "capacity"] []
  m_begin : Meth K A.C_Grid "begin" A.f_begin
  F_has_begun : Fun K "has_begun" "Grid.has_begun" s_has_begun A.f_has_begun A.d_has_begun
  b_has_begun : Binds K A.d_has_begun ["self"] []
  m_has_begun : Meth K A.C_Grid "has_begun" A.f_has_begun
  F_has_feeder : Fun K "has_feeder" "Grid.has_feeder" s_has_feeder A.f_has_feeder A.d_has_feeder
  b_has_feeder : Binds K A.d_has_feeder ["self", "feeder"] []
  m_has_feeder : Meth K A.C_Grid "has_feeder" A.f_has_feeder
  F_add_feeder : Fun K "add_feeder" "Grid.add_feeder" s_add_feeder A.f_add_feeder A.d_add_feeder
  b_add_feeder : Binds K A.d_add_feeder ["self", "upper", "capacity"] []
  m_add_feeder : Meth K A.C_Grid "add_feeder" A.f_add_feeder
  F_set_capacity : Fun K "set_capacity" "Grid.set_capacity" s_set_capacity A.f_set_capacity A.d_set_capacity
  b_set_capacity : Binds K A.d_set_capacity ["self", "feeder", "capacity"] []
  m_set_capacity : Meth K A.C_Grid "set_capacity" A.f_set_capacity
  F_feeder_numbers : Fun K "feeder_numbers" "Grid.feeder_numbers" s_feeder_numbers A.f_feeder_numbers A.d_feeder_numbers
  b_feeder_numbers : Binds K A.d_feeder_numbers ["self"] []
  m_feeder_numbers : Meth K A.C_Grid "feeder_numbers" A.f_feeder_numbers
  F_feeders_below_first : Fun K "feeders_below_first" "Grid.feeders_below_first" s_feeders_below_first A.f_feeders_below_first A.d_feeders_below_first
  b_feeders_below_first : Binds K A.d_feeders_below_first ["self"] []
  m_feeders_below_first : Meth K A.C_Grid "feeders_below_first" A.f_feeders_below_first
  F_path_to_first : Fun K "path_to_first" "Grid.path_to_first" s_path_to_first A.f_path_to_first A.d_path_to_first
  b_path_to_first : Binds K A.d_path_to_first ["self", "feeder"] []
  m_path_to_first : Meth K A.C_Grid "path_to_first" A.f_path_to_first
  F_add_plant : Fun K "add_plant" "Grid.add_plant" s_add_plant A.f_add_plant A.d_add_plant
  b_add_plant : Binds K A.d_add_plant ["self", "feeder", "want"] []
  m_add_plant : Meth K A.C_Grid "add_plant" A.f_add_plant
  F_find_plant : Fun K "find_plant" "Grid.find_plant" s_find_plant A.f_find_plant A.d_find_plant
  b_find_plant : Binds K A.d_find_plant ["self", "number"] []
  m_find_plant : Meth K A.C_Grid "find_plant" A.f_find_plant
  F_plant_numbers : Fun K "plant_numbers" "Grid.plant_numbers" s_plant_numbers A.f_plant_numbers A.d_plant_numbers
  b_plant_numbers : Binds K A.d_plant_numbers ["self"] []
  m_plant_numbers : Meth K A.C_Grid "plant_numbers" A.f_plant_numbers
  F_plants_but : Fun K "plants_but" "Grid.plants_but" s_plants_but A.f_plants_but A.d_plants_but
  b_plants_but : Binds K A.d_plants_but ["self", "number"] []
  m_plants_but : Meth K A.C_Grid "plants_but" A.f_plants_but
  F_drop_plant : Fun K "drop_plant" "Grid.drop_plant" s_drop_plant A.f_drop_plant A.d_drop_plant
  b_drop_plant : Binds K A.d_drop_plant ["self", "number"] []
  m_drop_plant : Meth K A.C_Grid "drop_plant" A.f_drop_plant
  F_with_plants : Fun K "with_plants" "Grid.with_plants" s_with_plants A.f_with_plants A.d_with_plants
  b_with_plants : Binds K A.d_with_plants ["self", "plants"] []
  m_with_plants : Meth K A.C_Grid "with_plants" A.f_with_plants
  F_call_init : Fun K "__init__" "Call.__init__" s_call_init A.f_call_init A.d_call_init
  b_call_init : Binds K A.d_call_init ["self", "number", "numbers", "row"] []
  F_split_calls : Fun K "split_calls" "split_calls" s_split_calls A.f_split_calls A.d_split_calls
  b_split_calls : Binds K A.d_split_calls ["calls"] []
  g_split_calls : mg "split_calls" = some (.ref A.f_split_calls)
  F_is_of_kind : Fun K "is_of_kind" "is_of_kind" s_is_of_kind A.f_is_of_kind A.d_is_of_kind
  b_is_of_kind : Binds K A.d_is_of_kind ["number", "kind"] []
  g_is_of_kind : mg "is_of_kind" = some (.ref A.f_is_of_kind)
  F_is_in_ranges : Fun K "is_in_ranges" "is_in_ranges" s_is_in_ranges A.f_is_in_ranges A.d_is_in_ranges
  b_is_in_ranges : Binds K A.d_is_in_ranges ["call"] []
  g_is_in_ranges : mg "is_in_ranges" = some (.ref A.f_is_in_ranges)
  F_shares_by_order : Fun K "shares_by_order" "shares_by_order" s_shares_by_order A.f_shares_by_order A.d_shares_by_order
  b_shares_by_order : Binds K A.d_shares_by_order ["grid", "order"] []
  g_shares_by_order : mg "shares_by_order" = some (.ref A.f_shares_by_order)
  F_shares_by_age : Fun K "shares_by_age" "shares_by_age" s_shares_by_age A.f_shares_by_age A.d_shares_by_age
  b_shares_by_age : Binds K A.d_shares_by_age ["grid"] []
  g_shares_by_age : mg "shares_by_age" = some (.ref A.f_shares_by_age)
  F_total_of : Fun K "total_of" "total_of" s_total_of A.f_total_of A.d_total_of
  b_total_of : Binds K A.d_total_of ["grid"] []
  g_total_of : mg "total_of" = some (.ref A.f_total_of)
  F_flows_of : Fun K "flows_of" "flows_of" s_flows_of A.f_flows_of A.d_flows_of
  b_flows_of : Binds K A.d_flows_of ["grid", "shares"] []
  g_flows_of : mg "flows_of" = some (.ref A.f_flows_of)
  F_shares_fit : Fun K "shares_fit" "shares_fit" s_shares_fit A.f_shares_fit A.d_shares_fit
  b_shares_fit : Binds K A.d_shares_fit ["grid", "shares"] []
  g_shares_fit : mg "shares_fit" = some (.ref A.f_shares_fit)
  F_raised_to : Fun K "raised_to" "raised_to" s_raised_to A.f_raised_to A.d_raised_to
  b_raised_to : Binds K A.d_raised_to ["grid", "shares", "rising", "level"] []
  g_raised_to : mg "raised_to" = some (.ref A.f_raised_to)
  F_greatest_level : Fun K "greatest_level" "greatest_level" s_greatest_level A.f_greatest_level A.d_greatest_level
  b_greatest_level : Binds K A.d_greatest_level ["grid", "shares", "rising", "level"] []
  g_greatest_level : mg "greatest_level" = some (.ref A.f_greatest_level)
  F_even_shares : Fun K "even_shares" "even_shares" s_even_shares A.f_even_shares A.d_even_shares
  b_even_shares : Binds K A.d_even_shares ["grid"] []
  g_even_shares : mg "even_shares" = some (.ref A.f_even_shares)
  F_shares_by_rule : Fun K "shares_by_rule" "shares_by_rule" s_shares_by_rule A.f_shares_by_rule A.d_shares_by_rule
  b_shares_by_rule : Binds K A.d_shares_by_rule ["grid", "rule"] []
  g_shares_by_rule : mg "shares_by_rule" = some (.ref A.f_shares_by_rule)
  F_answer_begin : Fun K "answer_begin" "answer_begin" s_answer_begin A.f_answer_begin A.d_answer_begin
  b_answer_begin : Binds K A.d_answer_begin ["grid", "call"] []
  g_answer_begin : mg "answer_begin" = some (.ref A.f_answer_begin)
  F_answer_feeder : Fun K "answer_feeder" "answer_feeder" s_answer_feeder A.f_answer_feeder A.d_answer_feeder
  b_answer_feeder : Binds K A.d_answer_feeder ["grid", "call"] []
  g_answer_feeder : mg "answer_feeder" = some (.ref A.f_answer_feeder)
  F_answer_cap : Fun K "answer_cap" "answer_cap" s_answer_cap A.f_answer_cap A.d_answer_cap
  b_answer_cap : Binds K A.d_answer_cap ["grid", "call"] []
  g_answer_cap : mg "answer_cap" = some (.ref A.f_answer_cap)
  F_answer_plant : Fun K "answer_plant" "answer_plant" s_answer_plant A.f_answer_plant A.d_answer_plant
  b_answer_plant : Binds K A.d_answer_plant ["grid", "call"] []
  g_answer_plant : mg "answer_plant" = some (.ref A.f_answer_plant)
  F_answer_want : Fun K "answer_want" "answer_want" s_answer_want A.f_answer_want A.d_answer_want
  b_answer_want : Binds K A.d_answer_want ["grid", "call"] []
  g_answer_want : mg "answer_want" = some (.ref A.f_answer_want)
  F_answer_leave : Fun K "answer_leave" "answer_leave" s_answer_leave A.f_answer_leave A.d_answer_leave
  b_answer_leave : Binds K A.d_answer_leave ["grid", "call"] []
  g_answer_leave : mg "answer_leave" = some (.ref A.f_answer_leave)
  F_answer_by_age : Fun K "answer_by_age" "answer_by_age" s_answer_by_age A.f_answer_by_age A.d_answer_by_age
  b_answer_by_age : Binds K A.d_answer_by_age ["grid", "call"] []
  g_answer_by_age : mg "answer_by_age" = some (.ref A.f_answer_by_age)
  F_answer_by : Fun K "answer_by" "answer_by" s_answer_by A.f_answer_by A.d_answer_by
  b_answer_by : Binds K A.d_answer_by ["grid", "call"] []
  g_answer_by : mg "answer_by" = some (.ref A.f_answer_by)
  F_answer_even : Fun K "answer_even" "answer_even" s_answer_even A.f_answer_even A.d_answer_even
  b_answer_even : Binds K A.d_answer_even ["grid", "call"] []
  g_answer_even : mg "answer_even" = some (.ref A.f_answer_even)
  F_answer_total : Fun K "answer_total" "answer_total" s_answer_total A.f_answer_total A.d_answer_total
  b_answer_total : Binds K A.d_answer_total ["grid", "call"] []
  g_answer_total : mg "answer_total" = some (.ref A.f_answer_total)
  F_answer_flows : Fun K "answer_flows" "answer_flows" s_answer_flows A.f_answer_flows A.d_answer_flows
  b_answer_flows : Binds K A.d_answer_flows ["grid", "call"] []
  g_answer_flows : mg "answer_flows" = some (.ref A.f_answer_flows)
  F_answer_room : Fun K "answer_room" "answer_room" s_answer_room A.f_answer_room A.d_answer_room
  b_answer_room : Binds K A.d_answer_room ["grid", "call"] []
  g_answer_room : mg "answer_room" = some (.ref A.f_answer_room)
  F_answer_cut : Fun K "answer_cut" "answer_cut" s_answer_cut A.f_answer_cut A.d_answer_cut
  b_answer_cut : Binds K A.d_answer_cut ["grid", "call"] []
  g_answer_cut : mg "answer_cut" = some (.ref A.f_answer_cut)
  F_answer_check : Fun K "answer_check" "answer_check" s_answer_check A.f_answer_check A.d_answer_check
  b_answer_check : Binds K A.d_answer_check ["grid", "call"] []
  g_answer_check : mg "answer_check" = some (.ref A.f_answer_check)
  F_answer_down : Fun K "answer_down" "answer_down" s_answer_down A.f_answer_down A.d_answer_down
  b_answer_down : Binds K A.d_answer_down ["grid", "call"] []
  g_answer_down : mg "answer_down" = some (.ref A.f_answer_down)
  F_answer_worth : Fun K "answer_worth" "answer_worth" s_answer_worth A.f_answer_worth A.d_answer_worth
  b_answer_worth : Binds K A.d_answer_worth ["grid", "call"] []
  g_answer_worth : mg "answer_worth" = some (.ref A.f_answer_worth)
  F_answer_without : Fun K "answer_without" "answer_without" s_answer_without A.f_answer_without A.d_answer_without
  b_answer_without : Binds K A.d_answer_without ["grid", "call"] []
  g_answer_without : mg "answer_without" = some (.ref A.f_answer_without)
  F_answer_book : Fun K "answer_book" "answer_book" s_answer_book A.f_answer_book A.d_answer_book
  b_answer_book : Binds K A.d_answer_book ["grid", "call"] []
  g_answer_book : mg "answer_book" = some (.ref A.f_answer_book)
  F_answer_call : Fun K "answer_call" "answer_call" s_answer_call A.f_answer_call A.d_answer_call
  b_answer_call : Binds K A.d_answer_call ["grid", "call"] []
  g_answer_call : mg "answer_call" = some (.ref A.f_answer_call)
  F_answers : Fun K "answers" "answers" s_answers A.f_answers A.d_answers
  b_answers : Binds K A.d_answers ["calls"] []
  g_answers : mg "answers" = some (.ref A.f_answers)
  g_RANGES : mg "RANGES" = some (.ref A.t_RANGES)
  kd_RANGES : KD P w K A.t_RANGES [(Sum.inr "any", .ref A.t_RANGES_0), (Sum.inr "amount", .ref A.t_RANGES_1), (Sum.inr "feeder", .ref A.t_RANGES_2), (Sum.inr "rule", .ref A.t_RANGES_3)]
  q_RANGES_0 : KTup K A.t_RANGES_0 [.int (-1000000000000000000), .int (1000000000000000000)]
  q_RANGES_1 : KTup K A.t_RANGES_1 [.int (0), .int (1000000000)]
  q_RANGES_2 : KTup K A.t_RANGES_2 [.int (1), .int (12)]
  q_RANGES_3 : KTup K A.t_RANGES_3 [.int (0), .int (1)]
  g_MOST_IN_ROW : ∃ t, mg "MOST_IN_ROW" = some (.int (12) t)
  g_NUMBER_KINDS : mg "NUMBER_KINDS" = some (.ref A.t_NUMBER_KINDS)
  kd_NUMBER_KINDS : KD P w K A.t_NUMBER_KINDS [(Sum.inl (0), .ref A.t_NUMBER_KINDS_0), (Sum.inl (1), .ref A.t_NUMBER_KINDS_1), (Sum.inl (2), .ref A.t_NUMBER_KINDS_2), (Sum.inl (3), .ref A.t_NUMBER_KINDS_3), (Sum.inl (4), .ref A.t_NUMBER_KINDS_4), (Sum.inl (5), .ref A.t_NUMBER_KINDS_5), (Sum.inl (6), .ref A.t_NUMBER_KINDS_6), (Sum.inl (7), .ref A.t_NUMBER_KINDS_7), (Sum.inl (8), .ref A.t_NUMBER_KINDS_8), (Sum.inl (9), .ref A.t_NUMBER_KINDS_9), (Sum.inl (10), .ref A.t_NUMBER_KINDS_10), (Sum.inl (11), .ref A.t_NUMBER_KINDS_11), (Sum.inl (12), .ref A.t_NUMBER_KINDS_12), (Sum.inl (13), .ref A.t_NUMBER_KINDS_13), (Sum.inl (14), .ref A.t_NUMBER_KINDS_14), (Sum.inl (15), .ref A.t_NUMBER_KINDS_15), (Sum.inl (16), .ref A.t_NUMBER_KINDS_16), (Sum.inl (17), .ref A.t_NUMBER_KINDS_17)]
  q_NUMBER_KINDS_0 : KTup K A.t_NUMBER_KINDS_0 [.str "amount"]
  q_NUMBER_KINDS_1 : KTup K A.t_NUMBER_KINDS_1 [.str "feeder", .str "amount"]
  q_NUMBER_KINDS_2 : KTup K A.t_NUMBER_KINDS_2 [.str "feeder", .str "amount"]
  q_NUMBER_KINDS_3 : KTup K A.t_NUMBER_KINDS_3 [.str "feeder", .str "amount"]
  q_NUMBER_KINDS_4 : KTup K A.t_NUMBER_KINDS_4 [.str "any", .str "amount"]
  q_NUMBER_KINDS_5 : KTup K A.t_NUMBER_KINDS_5 [.str "any"]
  q_NUMBER_KINDS_6 : KTup K A.t_NUMBER_KINDS_6 []
  q_NUMBER_KINDS_7 : KTup K A.t_NUMBER_KINDS_7 []
  q_NUMBER_KINDS_8 : KTup K A.t_NUMBER_KINDS_8 []
  q_NUMBER_KINDS_9 : KTup K A.t_NUMBER_KINDS_9 []
  q_NUMBER_KINDS_10 : KTup K A.t_NUMBER_KINDS_10 [.str "rule"]
  q_NUMBER_KINDS_11 : KTup K A.t_NUMBER_KINDS_11 [.str "feeder"]
  q_NUMBER_KINDS_12 : KTup K A.t_NUMBER_KINDS_12 []
  q_NUMBER_KINDS_13 : KTup K A.t_NUMBER_KINDS_13 []
  q_NUMBER_KINDS_14 : KTup K A.t_NUMBER_KINDS_14 [.str "rule"]
  q_NUMBER_KINDS_15 : KTup K A.t_NUMBER_KINDS_15 []
  q_NUMBER_KINDS_16 : KTup K A.t_NUMBER_KINDS_16 [.str "any"]
  q_NUMBER_KINDS_17 : KTup K A.t_NUMBER_KINDS_17 []
  g_ROW_KINDS : mg "ROW_KINDS" = some (.ref A.t_ROW_KINDS)
  kd_ROW_KINDS : KD P w K A.t_ROW_KINDS [(Sum.inl (7), .str "any"), (Sum.inl (13), .str "amount"), (Sum.inl (15), .str "feeder")]
  g_EVENLY : ∃ t, mg "EVENLY" = some (.int (1) t)
  g_ACCEPTED : ∃ t, mg "ACCEPTED" = some (.int (0) t)
  g_WRONG_CALL : ∃ t, mg "WRONG_CALL" = some (.int (-1) t)
  g_NOT_BEGUN : ∃ t, mg "NOT_BEGUN" = some (.int (-2) t)
  g_NO_FEEDER : ∃ t, mg "NO_FEEDER" = some (.int (-3) t)
  g_NO_PLACE : ∃ t, mg "NO_PLACE" = some (.int (-4) t)
  g_NO_PLANT : ∃ t, mg "NO_PLANT" = some (.int (-5) t)
  g_WRONG_ROW : ∃ t, mg "WRONG_ROW" = some (.int (-6) t)
  g_BEGIN : ∃ t, mg "BEGIN" = some (.int (0) t)
  g_MOST_FEEDERS : ∃ t, mg "MOST_FEEDERS" = some (.int (12) t)
  g_MOST_PLANTS : ∃ t, mg "MOST_PLANTS" = some (.int (12) t)
  g_WANT_FOR_ROOM : ∃ t, mg "WANT_FOR_ROOM" = some (.int (13000000000) t)
  g_ANSWER_OF : mg "ANSWER_OF" = some (.ref A.t_ANSWER_OF)
  kd_ANSWER_OF : KD P w K A.t_ANSWER_OF [(Sum.inl (0), .ref A.f_answer_begin), (Sum.inl (1), .ref A.f_answer_feeder), (Sum.inl (2), .ref A.f_answer_cap), (Sum.inl (3), .ref A.f_answer_plant), (Sum.inl (4), .ref A.f_answer_want), (Sum.inl (5), .ref A.f_answer_leave), (Sum.inl (6), .ref A.f_answer_by_age), (Sum.inl (7), .ref A.f_answer_by), (Sum.inl (8), .ref A.f_answer_even), (Sum.inl (9), .ref A.f_answer_total), (Sum.inl (10), .ref A.f_answer_flows), (Sum.inl (11), .ref A.f_answer_room), (Sum.inl (12), .ref A.f_answer_cut), (Sum.inl (13), .ref A.f_answer_check), (Sum.inl (14), .ref A.f_answer_down), (Sum.inl (15), .ref A.f_answer_worth), (Sum.inl (16), .ref A.f_answer_without), (Sum.inl (17), .ref A.f_answer_book)]
  n_all : mg "all" = none
  n_any : mg "any" = none
  n_dict : mg "dict" = none
  n_len : mg "len" = none
  n_list : mg "list" = none
  n_max : mg "max" = none
  n_min : mg "min" = none
  n_range : mg "range" = none
  n_sorted : mg "sorted" = none
  n_sum : mg "sum" = none
  n_zip : mg "zip" = none
theorem bt_all : bootBuiltins "all" = some (.builtin "all") := by decide +kernel
theorem bt_any : bootBuiltins "any" = some (.builtin "any") := by decide +kernel
theorem bt_dict : bootBuiltins "dict" = some (.type "dict") := by decide +kernel
theorem bt_len : bootBuiltins "len" = some (.builtin "len") := by decide +kernel
theorem bt_list : bootBuiltins "list" = some (.type "list") := by decide +kernel
theorem bt_max : bootBuiltins "max" = some (.builtin "max") := by decide +kernel
theorem bt_min : bootBuiltins "min" = some (.builtin "min") := by decide +kernel
theorem bt_range : bootBuiltins "range" = some (.type "range") := by decide +kernel
theorem bt_sorted : bootBuiltins "sorted" = some (.builtin "sorted") := by decide +kernel
theorem bt_sum : bootBuiltins "sum" = some (.builtin "sum") := by decide +kernel
theorem bt_zip : bootBuiltins "zip" = some (.type "zip") := by decide +kernel
end Pt
end
section
set_option Elab.async false
namespace Pd
open Vbemay
structure Tree (N : Net) : Prop where
  pos : 0 < N.feeders.length
  up0 : upOf N 0 = 0
  up : ∀ v, 0 < v → v < N.feeders.length → upOf N v < v
  at_ : ∀ p ∈ N.plants, p.at_ < N.feeders.length
theorem pathFrom_fuel {N : Net} (T : Tree N) : ∀ (v k : Nat), v ≤ k → v < N.feeders.length → pathFrom N k v = pathFrom N v v := by
  intro v
  induction v using Nat.strongRecOn with
  | _ v ih =>
    intro k hk hv
    match k, v, hk with
    | 0, 0, _ => rfl
    | k + 1, 0, _ => simp [pathFrom]
    | k + 1, w + 1, hk =>
      have hu := T.up (w + 1) (by omega) hv
      show (if w + 1 = 0 then [0] else (w + 1) :: pathFrom N k (upOf N (w + 1))) = (if w + 1 = 0 then [0] else (w + 1) :: pathFrom N w (upOf N (w + 1)))
      rw [if_neg (by omega), if_neg (by omega), ih _ hu k (by omega) (by omega), ih _ hu w (by omega) (by omega)]
theorem path_zero {N : Net} (T : Tree N) : path N 0 = [0] := by
  unfold path
  rw [pathFrom_fuel T 0 _ (Nat.zero_le _) T.pos]
  rfl
theorem path_pos {N : Net} (T : Tree N) {v : Nat} (h0 : 0 < v) (hv : v < N.feeders.length) : path N v = v :: path N (upOf N v) := by
  have hu := T.up v h0 hv
  unfold path
  rw [pathFrom_fuel T v _ (by omega) hv, pathFrom_fuel T (upOf N v) _ (by omega) (by omega)]
  match v, h0 with
  | w + 1, _ =>
    show (if w + 1 = 0 then [0] else (w + 1) :: pathFrom N w (upOf N (w + 1))) = _
    rw [if_neg (by omega), pathFrom_fuel T (upOf N (w + 1)) w (by omega) (by omega)]
theorem path_le {N : Net} (T : Tree N) : ∀ (v : Nat), v < N.feeders.length → ∀ w ∈ path N v, w ≤ v := by
  intro v
  induction v using Nat.strongRecOn with
  | _ v ih =>
    intro hv w hw
    by_cases h0 : v = 0
    · subst h0
      rw [path_zero T] at hw
      simp at hw
      omega
    · have hu := T.up v (by omega) hv
      rw [path_pos T (by omega) hv] at hw
      rcases List.mem_cons.mp hw with e | hw
      · omega
      · have := ih _ hu (by omega) w hw
        omega
theorem path_lt {N : Net} (T : Tree N) {v : Nat} (hv : v < N.feeders.length) : ∀ w ∈ path N v, w < N.feeders.length := fun w hw => by
  have := path_le T v hv w hw
  omega
theorem path_nodup {N : Net} (T : Tree N) : ∀ (v : Nat), v < N.feeders.length → (path N v).Nodup := by
  intro v
  induction v using Nat.strongRecOn with
  | _ v ih =>
    intro hv
    by_cases h0 : v = 0
    · subst h0
      rw [path_zero T]
      simp
    · have hu := T.up v (by omega) hv
      rw [path_pos T (by omega) hv]
      refine List.nodup_cons.mpr ⟨fun m => ?_, ih _ hu (by omega)⟩
      have := path_le T _ (by omega) v m
      omega
theorem path_len {N : Net} (T : Tree N) : ∀ (v : Nat), v < N.feeders.length → (path N v).length ≤ v + 1 := by
  intro v
  induction v using Nat.strongRecOn with
  | _ v ih =>
    intro hv
    by_cases h0 : v = 0
    · subst h0
      rw [path_zero T]
      simp
    · have hu := T.up v (by omega) hv
      rw [path_pos T (by omega) hv, List.length_cons]
      have := ih _ hu (by omega)
      omega
def sumBy (g : Plant → Bool) (ps : List Plant) (xs : List Int) : Int := ((ps.zip xs).map fun y => if g y.1 = true then y.2 else 0).sum
theorem flow_sumBy (N : Net) (xs : List Int) (v : Nat) : flow N xs v = sumBy (fun p => (path N p.at_).contains v) N.plants xs := rfl
theorem sumBy_nil_left (g : Plant → Bool) (xs : List Int) : sumBy g [] xs = 0 := by simp [sumBy]
theorem sumBy_cons (g : Plant → Bool) (p : Plant) (ps : List Plant) (x : Int) (xs : List Int) : sumBy g (p :: ps) (x :: xs) = (if g p = true then x else 0) + sumBy g ps xs := by
  unfold sumBy
  rw [List.zip_cons_cons, List.map_cons, List.sum_cons]
theorem sumBy_set (g : Plant → Bool) : ∀ {ps : List Plant} {xs : List Int} {i : Nat} {p : Plant} {x : Int} (y : Int), ps[i]? = some p → xs[i]? = some x →
    sumBy g ps (xs.set i y) = sumBy g ps xs + if g p = true then y - x else 0
  | [], xs, i, p, x, y, hp, hx => by simp at hp
  | q :: ps, [], i, p, x, y, hp, hx => by simp at hx
  | q :: ps, z :: xs, 0, p, x, y, hp, hx => by
    have e1 : q = p := Option.some.inj hp
    have e2 : z = x := Option.some.inj hx
    subst e1 e2
    rw [List.set_cons_zero, sumBy_cons, sumBy_cons]
    split <;> omega
  | q :: ps, z :: xs, i + 1, p, x, y, hp, hx => by
    have ih := sumBy_set g (ps := ps) (xs := xs) (i := i) (p := p) (x := x) y (by simpa using hp) (by simpa using hx)
    rw [List.set_cons_succ, sumBy_cons, sumBy_cons, ih]
    omega
theorem sumBy_mono (g : Plant → Bool) : ∀ {ps : List Plant} {xs ys : List Int}, xs.length = ys.length → (∀ (i : Nat) (x y : Int), xs[i]? = some x → ys[i]? = some y → x ≤ y) → sumBy g ps xs ≤ sumBy g ps ys
  | [], xs, ys, _, _ => by rw [sumBy_nil_left, sumBy_nil_left]; exact Int.le_refl _
  | p :: ps, [], [], _, _ => by exact Int.le_refl _
  | p :: ps, x :: xs, [], h, _ => by simp at h
  | p :: ps, [], y :: ys, h, _ => by simp at h
  | p :: ps, x :: xs, y :: ys, h, hm => by
    have ih := sumBy_mono g (ps := ps) (xs := xs) (ys := ys) (by simpa using h) (fun i a b ha hb => hm (i + 1) a b (by simpa using ha) (by simpa using hb))
    have h0 := hm 0 x y rfl rfl
    rw [sumBy_cons, sumBy_cons]
    split <;> omega
theorem flow_set {N : Net} {xs : List Int} {i : Nat} {p : Plant} {x : Int} (y : Int) (hp : N.plants[i]? = some p) (hx : xs[i]? = some x) (v : Nat) :
    flow N (xs.set i y) v = flow N xs v + if v ∈ path N p.at_ then y - x else 0 := by
  rw [flow_sumBy, flow_sumBy, sumBy_set _ y hp hx]
  simp only [List.contains_iff_mem]
theorem flow_nothing (N : Net) (v : Nat) : flow N (nothing N) v = 0 := by
  rw [flow_sumBy]
  unfold nothing
  generalize N.plants = ps
  generalize (fun p : Plant => (path N p.at_).contains v) = g
  induction ps with
  | nil => rfl
  | cons p ps ih => rw [List.map_cons, sumBy_cons, ih]; simp
theorem least_pos : ∀ (l : List Int) (m : Int), 0 < least m l ↔ 0 < m ∧ ∀ x ∈ l, 0 < x
  | [], m => by simp [least]
  | a :: r, m => by
    unfold least
    rw [least_pos r]
    constructor
    · rintro ⟨h1, h2⟩
      refine ⟨by omega, fun x hx => ?_⟩
      rcases List.mem_cons.mp hx with rfl | hx
      · omega
      · exact h2 x hx
    · rintro ⟨h1, h2⟩
      have := h2 a (by simp)
      exact ⟨by omega, fun x hx => h2 x (List.mem_cons_of_mem _ hx)⟩
end Pd
end
section
set_option Elab.async false
namespace Pd
open Vbemay
def gstep (N : Net) (xs : List Int) (i : Nat) : List Int := xs.set i (xs.getD i 0 + more N xs i)
def run (N : Net) (l : List Nat) : List Int := l.foldl (gstep N) (nothing N)
theorem greedy_run (N : Net) (l : List Nat) : greedy N l = run N l := rfl
theorem run_snoc (N : Net) (l : List Nat) (i : Nat) : run N (l ++ [i]) = gstep N (run N l) i := by
  unfold run
  rw [List.foldl_append]
  rfl
theorem gsteps_length (N : Net) : ∀ (l : List Nat) (xs : List Int), (l.foldl (gstep N) xs).length = xs.length
  | [], xs => rfl
  | i :: r, xs => by
    rw [List.foldl_cons, gsteps_length N r]
    unfold gstep
    rw [List.length_set]
theorem run_length (N : Net) (l : List Nat) : (run N l).length = N.plants.length := by
  unfold run
  rw [gsteps_length]
  unfold nothing
  rw [List.length_map]
theorem gsteps_other (N : Net) : ∀ (l : List Nat) (xs : List Int) (i : Nat), ¬ i ∈ l → (l.foldl (gstep N) xs)[i]? = xs[i]?
  | [], xs, i, _ => rfl
  | j :: r, xs, i, h => by
    have h1 : ¬ i = j := fun e => h (by simp [e])
    have h2 : ¬ i ∈ r := fun e => h (List.mem_cons_of_mem _ e)
    rw [List.foldl_cons, gsteps_other N r _ i h2]
    unfold gstep
    rw [List.getElem?_set_ne (fun e => h1 e.symm)]
theorem run_other (N : Net) {l : List Nat} {i : Nat} {p : Plant} (hi : ¬ i ∈ l) (hp : N.plants[i]? = some p) : (run N l)[i]? = some 0 := by
  unfold run
  rw [gsteps_other N l _ i hi]
  unfold nothing
  rw [List.getElem?_map, hp]
  rfl
def roomOf (N : Net) (xs : List Int) (v : Nat) : Int := capOf N v - flow N xs v
theorem roomOf_nothing (N : Net) (v : Nat) : roomOf N (nothing N) v = capOf N v := by
  unfold roomOf
  rw [flow_nothing]
  omega
theorem more_eq {N : Net} {ys : List Int} {i : Nat} {p : Plant} {y : Int} (hp : N.plants[i]? = some p) (hy : ys[i]? = some y) :
    more N ys i = least (p.want - y) ((path N p.at_).map fun v => capOf N v - flow N ys v) := by
  unfold more
  rw [hp]
  show least (p.want - ys.getD i 0) _ = _
  rw [List.getD_eq_getElem?_getD, hy]
  rfl
theorem run_step (N : Net) {l : List Nat} {i : Nat} {p : Plant} (hi : ¬ i ∈ l) (hp : N.plants[i]? = some p) :
    run N (l ++ [i]) = (run N l).set i (least p.want ((path N p.at_).map fun v => roomOf N (run N l) v)) := by
  rw [run_snoc]
  have h0 := run_other N hi hp
  have hd : (run N l).getD i 0 = 0 := by rw [List.getD_eq_getElem?_getD, h0]; rfl
  unfold gstep
  rw [more_eq hp h0, hd, Int.zero_add, Int.sub_zero]
  rfl
theorem roomOf_set {N : Net} {xs : List Int} {i : Nat} {p : Plant} (y : Int) (hp : N.plants[i]? = some p) (hx : xs[i]? = some 0) (v : Nat) :
    roomOf N (xs.set i y) v = roomOf N xs v - if v ∈ path N p.at_ then y else 0 := by
  unfold roomOf
  rw [flow_set y hp hx]
  split <;> omega
theorem zip_all (P : Plant → Int → Bool) : ∀ (ps : List Plant) (xs : List Int), xs.length = ps.length →
    ((ps.zip xs).all (fun y => P y.1 y.2) = true ↔ ∀ (i : Nat) p x, ps[i]? = some p → xs[i]? = some x → P p x = true)
  | [], [], _ => by simp
  | p :: ps, [], h => by simp at h
  | [], x :: xs, h => by simp at h
  | p :: ps, x :: xs, h => by
    have ih := zip_all P ps xs (by simpa using h)
    rw [List.zip_cons_cons, List.all_cons, Bool.and_eq_true, ih]
    constructor
    · rintro ⟨h1, h2⟩ i q z hq hz
      match i with
      | 0 =>
        have e1 : p = q := Option.some.inj hq
        have e2 : x = z := Option.some.inj hz
        subst e1 e2
        exact h1
      | i + 1 => exact h2 i q z (by simpa using hq) (by simpa using hz)
    · intro h3
      exact ⟨h3 0 p x rfl rfl, fun i q z hq hz => h3 (i + 1) q z (by simpa using hq) (by simpa using hz)⟩
structure Fit (N : Net) (xs : List Int) : Prop where
  len : xs.length = N.plants.length
  each : ∀ (i : Nat) p x, N.plants[i]? = some p → xs[i]? = some x → 0 ≤ x ∧ x ≤ p.want
  caps : ∀ v, v < N.feeders.length → flow N xs v ≤ capOf N v
theorem fits_iff {N : Net} {xs : List Int} : fits N xs = true ↔ Fit N xs := by
  unfold fits
  rw [Bool.and_eq_true, Bool.and_eq_true]
  constructor
  · rintro ⟨h1, h2, h3⟩
    have h1 : xs.length = N.plants.length := by simpa using h1
    refine ⟨h1, fun i p x hp hx => ?_, fun v hv => ?_⟩
    · have := (zip_all (fun p x => decide (0 ≤ x) && decide (x ≤ p.want)) N.plants xs h1).mp h2 i p x hp hx
      simpa using this
    · have := List.all_eq_true.mp h3 v (List.mem_range.mpr hv)
      simpa using this
  · intro F
    refine ⟨by simpa using F.len, ?_, ?_⟩
    · refine (zip_all (fun p x => decide (0 ≤ x) && decide (x ≤ p.want)) N.plants xs F.len).mpr fun i p x hp hx => ?_
      have := F.each i p x hp hx
      simpa using this
    · refine List.all_eq_true.mpr fun v hv => ?_
      have := F.caps v (List.mem_range.mp hv)
      simpa using this
theorem more_pos {N : Net} (T : Tree N) {ys : List Int} {i : Nat} {p : Plant} {y : Int} (F : Fit N ys) (hp : N.plants[i]? = some p) (hy : ys[i]? = some y) :
    0 < more N ys i ↔ Fit N (ys.set i (y + 1)) := by
  rw [more_eq hp hy, least_pos]
  have hat : p.at_ < N.feeders.length := T.at_ p (List.mem_of_getElem? hp)
  have hil : i < ys.length := (List.getElem?_eq_some_iff.mp hy).1
  constructor
  · rintro ⟨h1, h2⟩
    refine ⟨by rw [List.length_set]; exact F.len, fun j q x hq hx => ?_, fun v hv => ?_⟩
    · by_cases e : j = i
      · subst e
        rw [List.getElem?_set_self hil] at hx
        have e1 : y + 1 = x := Option.some.inj hx
        have e2 : p = q := Option.some.inj (hp.symm.trans hq)
        subst e2
        have := F.each j p y hp hy
        omega
      · rw [List.getElem?_set_ne (fun z => e z.symm)] at hx
        exact F.each j q x hq hx
    · rw [flow_set (y + 1) hp hy]
      have hc := F.caps v hv
      split
      · rename_i hm
        have := h2 _ (List.mem_map_of_mem hm)
        omega
      · omega
  · intro G
    have h1 := (G.each i p (y + 1) hp (List.getElem?_set_self hil)).2
    refine ⟨by omega, fun x hx => ?_⟩
    obtain ⟨v, hv, rfl⟩ := List.mem_map.mp hx
    have := G.caps v (path_lt T hat v hv)
    rw [flow_set (y + 1) hp hy, if_pos hv] at this
    omega
theorem Fit.nothing {N : Net} (hw : ∀ p ∈ N.plants, 0 ≤ p.want) (hc : ∀ v, v < N.feeders.length → 0 ≤ capOf N v) : Fit N (nothing N) := by
  refine ⟨by unfold Vbemay.nothing; rw [List.length_map], fun i p x hp hx => ?_, fun v hv => by rw [flow_nothing]; exact hc v hv⟩
  unfold Vbemay.nothing at hx
  rw [List.getElem?_map, hp] at hx
  have e : 0 = x := Option.some.inj hx
  have := hw p (List.mem_of_getElem? hp)
  omega
theorem Fit.less {N : Net} {xs ys : List Int} (F : Fit N ys) (hl : xs.length = ys.length) (h0 : ∀ (i : Nat) x, xs[i]? = some x → 0 ≤ x) (hle : ∀ (i : Nat) x y, xs[i]? = some x → ys[i]? = some y → x ≤ y) : Fit N xs := by
  refine ⟨hl.trans F.len, fun i p x hp hx => ?_, fun v hv => ?_⟩
  · have hi : i < ys.length := by rw [← hl]; exact (List.getElem?_eq_some_iff.mp hx).1
    have hy : ys[i]? = some ys[i] := List.getElem?_eq_getElem hi
    have := hle i x _ hx hy
    have := F.each i p _ hp hy
    have := h0 i x hx
    omega
  · rw [flow_sumBy]
    have := sumBy_mono (fun p => (path N p.at_).contains v) (ps := N.plants) hl hle
    have h2 := F.caps v hv
    rw [flow_sumBy] at h2
    omega
theorem raised_at : ∀ {ps : List Plant} {free : List Bool} {xs : List Int} {t : Int} {i : Nat} {p : Plant} {b : Bool} {x : Int}, ps[i]? = some p → free[i]? = some b → xs[i]? = some x →
    ((ps.zip (free.zip xs)).map fun y => if y.2.1 = true then max y.2.2 (min y.1.want t) else y.2.2)[i]? = some (if b = true then max x (min p.want t) else x)
  | ps, free, xs, t, i, p, b, x, hp, hb, hx => by
    have h2 : (free.zip xs)[i]? = some (b, x) := by rw [List.getElem?_zip_eq_some]; exact ⟨hb, hx⟩
    have h3 : (ps.zip (free.zip xs))[i]? = some (p, (b, x)) := by rw [List.getElem?_zip_eq_some]; exact ⟨hp, h2⟩
    rw [List.getElem?_map, h3]
    rfl
theorem raised_len {N : Net} {free : List Bool} {xs : List Int} {t : Int} (hf : free.length = N.plants.length) (hx : xs.length = N.plants.length) : (raisedTo N free xs t).length = N.plants.length := by
  unfold raisedTo
  rw [List.length_map, List.length_zip, List.length_zip, hf, hx]
  omega
structure Ev (N : Net) (free : List Bool) (xs : List Int) (t : Int) : Prop where
  fl : free.length = N.plants.length
  fit : Fit N xs
  lev : ∀ i : Nat, free[i]? = some true → xs[i]? = some t
  pos : 0 ≤ t
section
variable {N : Net} {free : List Bool} {xs : List Int} {t : Int}
theorem Ev.got (E : Ev N free xs t) {i : Nat} (hi : i < N.plants.length) : ∃ p b x, N.plants[i]? = some p ∧ free[i]? = some b ∧ xs[i]? = some x :=
  ⟨_, _, _, List.getElem?_eq_getElem hi, List.getElem?_eq_getElem (by rw [E.fl]; exact hi), List.getElem?_eq_getElem (by rw [E.fit.len]; exact hi)⟩
theorem Ev.rlen (E : Ev N free xs t) (m : Int) : (raisedTo N free xs m).length = N.plants.length := raised_len E.fl E.fit.len
theorem Ev.rat (E : Ev N free xs t) {m : Int} (hm : t ≤ m) {i : Nat} {p : Plant} {b : Bool} {x : Int} (hp : N.plants[i]? = some p) (hb : free[i]? = some b) (hx : xs[i]? = some x) :
    (raisedTo N free xs m)[i]? = some (if b = true then min p.want m else x) := by
  unfold raisedTo
  rw [raised_at hp hb hx]
  cases b with
  | false => rfl
  | true =>
    have e : x = t := Option.some.inj (hx.symm.trans (E.lev i hb))
    have := (E.fit.each i p x hp hx).2
    show some (max x (min p.want m)) = some (min p.want m)
    congr 1
    omega
theorem Ev.ext (E : Ev N free xs t) {m m' : Int} (hm : t ≤ m) (hm' : t ≤ m') (h : ∀ (i : Nat) p, N.plants[i]? = some p → free[i]? = some true → min p.want m = min p.want m') : raisedTo N free xs m = raisedTo N free xs m' := by
  refine List.ext_getElem? fun i => ?_
  by_cases hi : i < N.plants.length
  · obtain ⟨p, b, x, hp, hb, hx⟩ := E.got hi
    rw [E.rat hm hp hb hx, E.rat hm' hp hb hx]
    cases b with
    | false => rfl
    | true =>
      show some (min p.want m) = some (min p.want m')
      rw [h i p hp hb]
  · rw [List.getElem?_eq_none (by rw [E.rlen]; omega), List.getElem?_eq_none (by rw [E.rlen]; omega)]
theorem Ev.start (E : Ev N free xs t) : raisedTo N free xs t = xs := by
  refine List.ext_getElem? fun i => ?_
  by_cases hi : i < N.plants.length
  · obtain ⟨p, b, x, hp, hb, hx⟩ := E.got hi
    rw [E.rat (Int.le_refl t) hp hb hx, hx]
    cases b with
    | false => rfl
    | true =>
      have e : x = t := Option.some.inj (hx.symm.trans (E.lev i hb))
      have := (E.fit.each i p x hp hx).2
      show some (min p.want t) = some x
      congr 1
      omega
  · rw [List.getElem?_eq_none (by rw [E.rlen]; omega), List.getElem?_eq_none (by rw [E.fit.len]; omega)]
theorem Ev.mono (E : Ev N free xs t) {m m' : Int} (hm : t ≤ m) (h : m ≤ m') (F : Fit N (raisedTo N free xs m')) : Fit N (raisedTo N free xs m) := by
  refine F.less (by rw [E.rlen, E.rlen]) (fun i x hx => ?_) fun i x y hx hy => ?_
  · have hi : i < N.plants.length := by rw [← E.rlen m]; exact (List.getElem?_eq_some_iff.mp hx).1
    obtain ⟨p, b, z, hp, hb, hz⟩ := E.got hi
    rw [E.rat hm hp hb hz] at hx
    have e := Option.some.inj hx
    have := E.fit.each i p z hp hz
    have := E.pos
    split at e <;> omega
  · have hi : i < N.plants.length := by rw [← E.rlen m]; exact (List.getElem?_eq_some_iff.mp hx).1
    obtain ⟨p, b, z, hp, hb, hz⟩ := E.got hi
    rw [E.rat hm hp hb hz] at hx
    rw [E.rat (Int.le_trans hm h) hp hb hz] at hy
    have e := Option.some.inj hx
    have e' := Option.some.inj hy
    split at e
    · rw [if_pos (by assumption)] at e'
      omega
    · rw [if_neg (by assumption)] at e'
      omega
theorem level_best (E : Ev N free xs t) : ∀ (k : Nat) (a b : Int), t ≤ a → a ≤ b → b - a < 2 ^ k → Fit N (raisedTo N free xs a) →
    a ≤ level N free xs k a b ∧ level N free xs k a b ≤ b ∧ Fit N (raisedTo N free xs (level N free xs k a b)) ∧ ∀ m, level N free xs k a b < m → m ≤ b → ¬ Fit N (raisedTo N free xs m)
  | 0, a, b, ht, hab, hk, F => by
    have : b - a < 1 := hk
    exact ⟨Int.le_refl _, hab, F, fun m h1 h2 => by have : a < m := h1; omega⟩
  | k + 1, a, b, ht, hab, hk, F => by
    unfold level
    split
    · exact ⟨Int.le_refl _, hab, F, fun m h1 h2 => by omega⟩
    · rename_i hba
      have hp : (2 : Int) ^ (k + 1) = 2 * 2 ^ k := by rw [Int.pow_succ]; omega
      have hz1 : b - (a + b + 1) / 2 < 2 ^ k := by
        rw [hp] at hk
        generalize (2 : Int) ^ k = z at hk
        omega
      have hz2 : (a + b + 1) / 2 - 1 - a < 2 ^ k := by
        rw [hp] at hk
        generalize (2 : Int) ^ k = z at hk
        omega
      have hm1 : a < (a + b + 1) / 2 := by omega
      have hm2 : (a + b + 1) / 2 ≤ b := by omega
      dsimp only
      split
      · rename_i hf
        have ih := level_best E k ((a + b + 1) / 2) b (by omega) hm2 hz1 (fits_iff.mp hf)
        exact ⟨by omega, ih.2.1, ih.2.2.1, ih.2.2.2⟩
      · rename_i hf
        have hf' : ¬ Fit N (raisedTo N free xs ((a + b + 1) / 2)) := fun G => hf (fits_iff.mpr G)
        have ih := level_best E k a ((a + b + 1) / 2 - 1) ht (by omega) hz2 F
        refine ⟨ih.1, by omega, ih.2.2.1, fun m h1 h2 G => ?_⟩
        by_cases hm : m ≤ (a + b + 1) / 2 - 1
        · exact ih.2.2.2 m h1 hm G
        · exact hf' (E.mono (by omega) (by omega) G)
end
end Pd
end
section
set_option Elab.async false
namespace Pd
open Vbemay
def tryOne (N : Net) (st : List Int × List Nat) (i : Nat) : List Int × List Nat := if 0 < more N st.1 i then (st.1.set i (st.1.getD i 0 + 1), st.2 ++ [i]) else st
def rise (free : List Bool) : List Nat := (List.range free.length).filter fun i => free.getD i false
theorem rise_mem {free : List Bool} {i : Nat} : i ∈ rise free ↔ free[i]? = some true := by
  unfold rise
  rw [List.mem_filter, List.mem_range, List.getD_eq_getElem?_getD]
  constructor
  · rintro ⟨h1, h2⟩
    rw [List.getElem?_eq_getElem h1] at h2 ⊢
    exact congrArg some h2
  · intro h
    obtain ⟨h1, h2⟩ := List.getElem?_eq_some_iff.mp h
    refine ⟨h1, ?_⟩
    rw [h]
    rfl
theorem rise_nodup (free : List Bool) : (rise free).Nodup := List.Pairwise.filter _ List.nodup_range
theorem oneMore_tries (N : Net) (free : List Bool) : ∀ (l : List Nat) (ys : List Int) (acc : List Nat),
    l.foldl (fun ys i => if free.getD i false = true ∧ 0 < more N ys i then ys.set i (ys.getD i 0 + 1) else ys) ys = ((l.filter fun i => free.getD i false).foldl (tryOne N) (ys, acc)).1
  | [], ys, acc => rfl
  | i :: r, ys, acc => by
    rw [List.foldl_cons, List.filter_cons]
    by_cases hf : free.getD i false = true
    · rw [if_pos hf, List.foldl_cons]
      by_cases hm : 0 < more N ys i
      · rw [if_pos ⟨hf, hm⟩, oneMore_tries N free r _ (acc ++ [i])]
        unfold tryOne
        rw [if_pos (show 0 < more N (ys, acc).1 i from hm)]
      · rw [if_neg (fun h => hm h.2), oneMore_tries N free r _ acc]
        rw [show tryOne N (ys, acc) i = (ys, acc) from if_neg hm]
    · rw [if_neg (fun h => hf h.1), if_neg hf, oneMore_tries N free r _ acc]
structure Tried (N : Net) (l : List Nat) (ys : List Int) (acc : List Nat) (r : List Int × List Nat) : Prop where
  fit : Fit N r.1
  out : ∀ i : Nat, ¬ i ∈ l → r.1[i]? = ys[i]?
  ins : ∀ i : Nat, i ∈ l → ∃ y, ys[i]? = some y ∧ (r.1[i]? = some y ∨ r.1[i]? = some (y + 1))
  acc : r.2 = acc ++ l.filter fun i => decide (ys.getD i 0 < r.1.getD i 0)
theorem tries {N : Net} (T : Tree N) : ∀ (l : List Nat) (ys : List Int) (acc : List Nat), l.Nodup → (∀ i ∈ l, i < N.plants.length) → Fit N ys → Tried N l ys acc (l.foldl (tryOne N) (ys, acc))
  | [], ys, acc, _, _, F => ⟨F, fun _ _ => rfl, fun i h => by simp at h, by simp⟩
  | i :: l, ys, acc, hn, hl, F => by
    obtain ⟨hi, hn⟩ := List.nodup_cons.mp hn
    have hil := hl i (by simp)
    have hp : N.plants[i]? = some N.plants[i] := List.getElem?_eq_getElem hil
    have hiy : i < ys.length := by rw [F.len]; exact hil
    have hy : ys[i]? = some ys[i] := List.getElem?_eq_getElem hiy
    have hl' : ∀ j ∈ l, j < N.plants.length := fun j hj => hl j (List.mem_cons_of_mem _ hj)
    have ed : ys.getD i 0 = ys[i] := by rw [List.getD_eq_getElem?_getD, hy]; rfl
    rw [List.foldl_cons]
    by_cases hm : 0 < more N ys i
    · have et : tryOne N (ys, acc) i = (ys.set i (ys[i] + 1), acc ++ [i]) := by
        rw [← ed]
        exact if_pos hm
      rw [et]
      have R := tries T l (ys.set i (ys[i] + 1)) (acc ++ [i]) hn hl' ((more_pos T F hp hy).mp hm)
      have ri : (l.foldl (tryOne N) (ys.set i (ys[i] + 1), acc ++ [i])).1[i]? = some (ys[i] + 1) := (R.out i hi).trans (List.getElem?_set_self hiy)
      have ne : ∀ j ∈ l, ¬ i = j := fun j hj e => hi (by rw [e]; exact hj)
      refine ⟨R.fit, fun j hj => ?_, fun j hj => ?_, ?_⟩
      · rw [R.out j (fun h => hj (List.mem_cons_of_mem _ h)), List.getElem?_set_ne (fun e => hj (by rw [e]; simp))]
      · rcases List.mem_cons.mp hj with rfl | hj
        · exact ⟨_, hy, .inr ri⟩
        · obtain ⟨y, h1, h2⟩ := R.ins j hj
          rw [List.getElem?_set_ne (ne j hj)] at h1
          exact ⟨y, h1, h2⟩
      · rw [R.acc, List.filter_cons, if_pos]
        · rw [List.append_assoc]
          congr 1
          show i :: _ = i :: _
          congr 1
          refine List.filter_congr fun j hj => ?_
          congr 2
          rw [List.getD_eq_getElem?_getD, List.getD_eq_getElem?_getD, List.getElem?_set_ne (ne j hj)]
        · have e2 : (l.foldl (tryOne N) (ys.set i (ys[i] + 1), acc ++ [i])).1.getD i 0 = ys[i] + 1 := by rw [List.getD_eq_getElem?_getD, ri]; rfl
          rw [ed, e2]
          exact decide_eq_true (by omega)
    · have et : tryOne N (ys, acc) i = (ys, acc) := if_neg hm
      rw [et]
      have R := tries T l ys acc hn hl' F
      have ri : (l.foldl (tryOne N) (ys, acc)).1[i]? = some ys[i] := (R.out i hi).trans hy
      refine ⟨R.fit, fun j hj => R.out j (fun h => hj (List.mem_cons_of_mem _ h)), fun j hj => ?_, ?_⟩
      · rcases List.mem_cons.mp hj with rfl | hj
        · exact ⟨_, hy, .inl ri⟩
        · exact R.ins j hj
      · rw [R.acc, List.filter_cons, if_neg]
        · have e2 : (l.foldl (tryOne N) (ys, acc)).1.getD i 0 = ys[i] := by rw [List.getD_eq_getElem?_getD, ri]; rfl
          rw [ed, e2]
          intro h
          have := of_decide_eq_true h
          omega
def leftOf (free : List Bool) (ys zs : List Int) : List Bool := (free.zip (ys.zip zs)).map fun y => y.1 && decide (y.2.1 < y.2.2)
theorem left_at {free : List Bool} {ys zs : List Int} {i : Nat} {b : Bool} {y z : Int} (hb : free[i]? = some b) (hy : ys[i]? = some y) (hz : zs[i]? = some z) : (leftOf free ys zs)[i]? = some (b && decide (y < z)) := by
  have h2 : (ys.zip zs)[i]? = some (y, z) := by rw [List.getElem?_zip_eq_some]; exact ⟨hy, hz⟩
  have h3 : (free.zip (ys.zip zs))[i]? = some (b, (y, z)) := by rw [List.getElem?_zip_eq_some]; exact ⟨hb, h2⟩
  unfold leftOf
  rw [List.getElem?_map, h3]
  rfl
theorem left_len {free : List Bool} {ys zs : List Int} {n : Nat} (h1 : free.length = n) (h2 : ys.length = n) (h3 : zs.length = n) : (leftOf free ys zs).length = n := by
  unfold leftOf
  rw [List.length_map, List.length_zip, List.length_zip, h1, h2, h3]
  omega
theorem rise_left {free : List Bool} {ys zs : List Int} {n : Nat} (h1 : free.length = n) (h2 : ys.length = n) (h3 : zs.length = n) : rise (leftOf free ys zs) = (rise free).filter fun i => decide (ys.getD i 0 < zs.getD i 0) := by
  unfold rise
  rw [left_len h1 h2 h3, h1, List.filter_filter]
  refine List.filter_congr fun i hi => ?_
  have hi := List.mem_range.mp hi
  have e1 : free[i]? = some free[i] := List.getElem?_eq_getElem (by omega)
  have e2 : ys[i]? = some ys[i] := List.getElem?_eq_getElem (by omega)
  have e3 : zs[i]? = some zs[i] := List.getElem?_eq_getElem (by omega)
  have e4 := left_at e1 e2 e3
  simp only [List.getD_eq_getElem?_getD, e1, e2, e3, e4, Option.getD_some]
  exact Bool.and_comm _ _
theorem evenFrom_succ (N : Net) (k : Nat) (free : List Bool) (xs : List Int) (t : Int) : evenFrom N (k + 1) free xs t =
    evenFrom N k (leftOf free (raisedTo N free xs (level N free xs 31 t TOP)) (oneMore N free (raisedTo N free xs (level N free xs 31 t TOP)))) (oneMore N free (raisedTo N free xs (level N free xs 31 t TOP))) (level N free xs 31 t TOP + 1) := rfl
theorem oneMore_eq (N : Net) (free : List Bool) (ys : List Int) (hf : free.length = N.plants.length) : oneMore N free ys = ((rise free).foldl (tryOne N) (ys, [])).1 := by
  unfold oneMore rise
  rw [oneMore_tries N free _ ys [], hf]
theorem round {N : Net} (T : Tree N) (hw : ∀ p ∈ N.plants, p.want ≤ 1000000000) {free : List Bool} {xs : List Int} {t L : Int} (E : Ev N free xs t) (hne : rise free ≠ [])
    (hL : t ≤ L) (hL1 : L ≤ 1000000000) (hF : Fit N (raisedTo N free xs L))
    (hb : (∀ (i : Nat) p, N.plants[i]? = some p → free[i]? = some true → p.want ≤ L) ∨ ¬ Fit N (raisedTo N free xs (L + 1))) :
    ∃ (left : List Bool) (u : Int), (∀ k, evenFrom N (k + 1) free xs t = evenFrom N k left ((rise free).foldl (tryOne N) (raisedTo N free xs L, [])).1 u) ∧
      rise left = ((rise free).foldl (tryOne N) (raisedTo N free xs L, [])).2 ∧ Ev N left ((rise free).foldl (tryOne N) (raisedTo N free xs L, [])).1 u ∧
      ((rise free).foldl (tryOne N) (raisedTo N free xs L, [])).2.length < (rise free).length ∧
      (((rise free).foldl (tryOne N) (raisedTo N free xs L, [])).2 ≠ [] → u = L + 1) := by
  obtain ⟨i0, hi0⟩ : ∃ i, i ∈ rise free := by
    cases e : rise free with
    | nil => exact absurd e hne
    | cons a r => exact ⟨a, by simp⟩
  have hlt : ∀ i, i ∈ rise free → i < N.plants.length := fun i hi => by
    have := (List.getElem?_eq_some_iff.mp (rise_mem.mp hi)).1
    rw [E.fl] at this
    exact this
  have htT : t ≤ 1000000000 := by omega
  have hz := E.pos
  obtain ⟨u1, u2, u3, u4⟩ := level_best E 31 t TOP (Int.le_refl t) (by show t ≤ 1000000000; exact htT) (by show (1000000000 : Int) - t < 2147483648; omega) (by rw [E.start]; exact E.fit)
  generalize hu : level N free xs 31 t TOP = u at u1 u2 u3 u4
  have hTOP : TOP = 1000000000 := rfl
  rw [hTOP] at u2 u4
  have hLu : L ≤ u := by
    by_cases h : L ≤ u
    · exact h
    · exact absurd hF (u4 L (by omega) hL1)
  have er : raisedTo N free xs L = raisedTo N free xs u := by
    rcases hb with hb | hb
    · refine E.ext hL u1 fun i p hp hf => ?_
      have := hb i p hp hf
      omega
    · have : u ≤ L := by
        by_cases h : u ≤ L
        · exact h
        · exact absurd (E.mono (by omega) (by omega) u3) hb
      have : L = u := by omega
      rw [this]
  have eo := oneMore_eq N free (raisedTo N free xs u) E.fl
  have R := tries T (rise free) (raisedTo N free xs u) [] (rise_nodup free) hlt u3
  rw [er]
  generalize hr : (rise free).foldl (tryOne N) (raisedTo N free xs u, []) = r at R eo
  have hyl : (raisedTo N free xs u).length = N.plants.length := E.rlen u
  have hzl : r.1.length = N.plants.length := R.fit.len
  have eR : rise (leftOf free (raisedTo N free xs u) r.1) = r.2 := by
    rw [rise_left E.fl hyl hzl, R.acc]
    rfl
  have hlev : ∀ i : Nat, (leftOf free (raisedTo N free xs u) r.1)[i]? = some true → r.1[i]? = some (u + 1) ∧ ∃ p, N.plants[i]? = some p ∧ u + 1 ≤ p.want := by
    intro i hi
    have hil : i < N.plants.length := by
      have := (List.getElem?_eq_some_iff.mp hi).1
      rw [left_len E.fl hyl hzl] at this
      exact this
    obtain ⟨p, b, x, hp, hbb, hx⟩ := E.got hil
    have h1 := E.rat u1 hp hbb hx
    have h2 : r.1[i]? = some r.1[i] := List.getElem?_eq_getElem (by omega)
    have h3 := left_at hbb h1 h2
    rw [hi] at h3
    have h4 := Option.some.inj h3
    cases b with
    | false => simp at h4
    | true =>
      have h5 : min p.want u < r.1[i] := by simpa using h4.symm
      obtain ⟨y, q1, q2⟩ := R.ins i (rise_mem.mpr hbb)
      have e1 : min p.want u = y := Option.some.inj (h1.symm.trans q1)
      have h6 := (R.fit.each i p _ hp h2).2
      rcases q2 with q2 | q2
      · have e2 : r.1[i] = y := Option.some.inj (h2.symm.trans q2)
        omega
      · have e2 : r.1[i] = y + 1 := Option.some.inj (h2.symm.trans q2)
        refine ⟨h2.trans (congrArg some (by omega)), p, hp, by omega⟩
  refine ⟨leftOf free (raisedTo N free xs u) r.1, u + 1, fun k => ?_, eR, ⟨left_len E.fl hyl hzl, R.fit, fun i hi => (hlev i hi).1, by omega⟩, ?_, fun hne2 => ?_⟩
  · rw [evenFrom_succ, hu, eo]
  · have hle : r.2.length ≤ (rise free).length := by
      rw [R.acc]
      exact List.length_filter_le _ _
    by_cases he : r.2.length < (rise free).length
    · exact he
    · exfalso
      have hall : ∀ i ∈ rise free, (decide ((raisedTo N free xs u).getD i 0 < r.1.getD i 0)) = true := by
        have e1 : ((rise free).filter fun i => decide ((raisedTo N free xs u).getD i 0 < r.1.getD i 0)).length = (rise free).length := by
          have := R.acc
          rw [List.nil_append] at this
          rw [← this]
          omega
        exact fun i hi => List.length_filter_eq_length_iff.mp e1 i hi
      have hup : ∀ i ∈ rise free, r.1[i]? = some (u + 1) ∧ ∃ p, N.plants[i]? = some p ∧ u + 1 ≤ p.want := fun i hi => by
        refine hlev i (rise_mem.mp ?_)
        rw [eR, R.acc, List.nil_append]
        exact List.mem_filter.mpr ⟨hi, hall i hi⟩
      have huT : u < 1000000000 := by
        obtain ⟨_, p, hp, hpu⟩ := hup i0 hi0
        have := hw p (List.mem_of_getElem? hp)
        omega
      refine u4 (u + 1) (by omega) (by omega) ?_
      have e2 : raisedTo N free xs (u + 1) = r.1 := by
        refine List.ext_getElem? fun i => ?_
        by_cases hi : i < N.plants.length
        · obtain ⟨p, b, x, hp, hbb, hx⟩ := E.got hi
          rw [E.rat (by omega) hp hbb hx]
          cases b with
          | false =>
            have : ¬ i ∈ rise free := fun h => by
              have := rise_mem.mp h
              rw [hbb] at this
              simp at this
            rw [R.out i this, E.rat u1 hp hbb hx]
            rfl
          | true =>
            obtain ⟨h1, q, hq, h2⟩ := hup i (rise_mem.mpr hbb)
            have e3 : p = q := Option.some.inj (hp.symm.trans hq)
            subst e3
            rw [h1]
            show some (min p.want (u + 1)) = _
            congr 1
            omega
        · rw [List.getElem?_eq_none (by rw [E.rlen]; omega), List.getElem?_eq_none (by omega)]
      rw [e2]
      exact R.fit
  · rcases hb with hb | hb
    · exfalso
      obtain ⟨j, hj⟩ : ∃ j, j ∈ r.2 := by
        cases e : r.2 with
        | nil => exact absurd e hne2
        | cons a s => exact ⟨a, by simp⟩
      rw [← eR] at hj
      have hj := rise_mem.mp hj
      obtain ⟨_, p, hp, hpu⟩ := hlev j hj
      have hjl := (List.getElem?_eq_some_iff.mp hp).1
      obtain ⟨q, b, x, hq, hbb, hx⟩ := E.got hjl
      have e3 : p = q := Option.some.inj (hp.symm.trans hq)
      subst e3
      have h1 := E.rat u1 hp hbb hx
      have h2 : r.1[j]? = some r.1[j] := List.getElem?_eq_getElem (by omega)
      have h3 := left_at hbb h1 h2
      rw [hj] at h3
      cases b with
      | false => simp at h3
      | true =>
        have := hb j p hp hbb
        omega
    · have : u ≤ L := by
        by_cases h : u ≤ L
        · exact h
        · exact absurd (E.mono (by omega) (by omega) u3) hb
      omega
theorem evenFrom_done {N : Net} : ∀ (k : Nat) {free : List Bool} {xs : List Int} {t : Int}, free.length = N.plants.length → xs.length = N.plants.length → rise free = [] → evenFrom N k free xs t = xs
  | 0, _, _, _, _, _, _ => rfl
  | k + 1, free, xs, t, hf, hx, hr => by
    have no : ∀ i : Nat, free[i]? ≠ some true := fun i h => by
      have := rise_mem.mpr h
      rw [hr] at this
      simp at this
    have e1 : ∀ m, raisedTo N free xs m = xs := fun m => by
      refine List.ext_getElem? fun i => ?_
      by_cases hi : i < N.plants.length
      · have h1 : N.plants[i]? = some N.plants[i] := List.getElem?_eq_getElem hi
        have h2 : free[i]? = some free[i] := List.getElem?_eq_getElem (by omega)
        have h3 : xs[i]? = some xs[i] := List.getElem?_eq_getElem (by omega)
        unfold raisedTo
        rw [raised_at h1 h2 h3, h3]
        have h4 : free[i] = false := by
          cases e : free[i] with
          | false => rfl
          | true => rw [e] at h2; exact absurd h2 (no i)
        rw [h4]
        rfl
      · rw [List.getElem?_eq_none (by rw [raised_len hf hx]; omega), List.getElem?_eq_none (by omega)]
    rw [evenFrom_succ, e1, oneMore_eq N free xs hf, hr]
    refine evenFrom_done k (left_len hf hx hx) hx ?_
    show rise (leftOf free xs xs) = []
    rw [rise_left hf hx hx, hr]
    rfl
theorem Ev.first {N : Net} (hw : ∀ p ∈ N.plants, 0 ≤ p.want) (hc : ∀ v, v < N.feeders.length → 0 ≤ capOf N v) : Ev N (N.plants.map fun _ => true) (nothing N) 0 := by
  refine ⟨List.length_map _, Fit.nothing hw hc, fun i hi => ?_, Int.le_refl 0⟩
  have : i < N.plants.length := by
    have := (List.getElem?_eq_some_iff.mp hi).1
    rw [List.length_map] at this
    exact this
  unfold Vbemay.nothing
  rw [List.getElem?_map, List.getElem?_eq_getElem this]
  rfl
theorem rise_all (ps : List Plant) : rise (ps.map fun _ => true) = List.range ps.length := by
  unfold rise
  rw [List.length_map]
  refine List.filter_eq_self.mpr fun i hi => ?_
  have := List.mem_range.mp hi
  rw [List.getD_eq_getElem?_getD, List.getElem?_map, List.getElem?_eq_getElem this]
  rfl
structure Rounds (N : Net) (xs : List Int) (rising : List Nat) (lev : Int) : Prop where
  ex : ∃ (k : Nat) (free : List Bool) (t : Int), even N = evenFrom N k free xs t ∧ rising.length < k ∧ rising = rise free ∧ Ev N free xs t ∧ (rising ≠ [] → lev = t)
theorem Rounds.first {N : Net} (hw : ∀ p ∈ N.plants, 0 ≤ p.want) (hc : ∀ v, v < N.feeders.length → 0 ≤ capOf N v) : Rounds N (nothing N) (List.range N.plants.length) 0 :=
  ⟨N.plants.length + 1, N.plants.map fun _ => true, 0, rfl, by rw [List.length_range]; omega, (rise_all _).symm, Ev.first hw hc, fun _ => rfl⟩
theorem Rounds.last {N : Net} {xs : List Int} {lev : Int} (R : Rounds N xs [] lev) : even N = xs := by
  obtain ⟨k, free, t, h1, _, h3, E, _⟩ := R.ex
  rw [h1]
  exact evenFrom_done k E.fl E.fit.len h3.symm
end Pd
end
section
set_option Elab.async false
namespace Pd
open Vbemay
def pushAll (N : Net) : Nat → (Nat → Int) → Nat → Int
  | 0, f => f
  | k + 1, f => pushAll N k fun v => f v + if v = upOf N (k + 1) then f (k + 1) else 0
theorem pushAll_congr (N : Net) (k : Nat) {f g : Nat → Int} (h : ∀ v, f v = g v) (v : Nat) : pushAll N k f v = pushAll N k g v := by
  have : f = g := funext h
  rw [this]
theorem pushAll_add (N : Net) : ∀ (k : Nat) (f g : Nat → Int) (v : Nat), pushAll N k (fun v => f v + g v) v = pushAll N k f v + pushAll N k g v
  | 0, f, g, v => rfl
  | k + 1, f, g, v => by
    show pushAll N k _ v = pushAll N k _ v + pushAll N k _ v
    rw [← pushAll_add N k]
    refine pushAll_congr N k (fun w => ?_) v
    dsimp only
    split <;> omega
theorem pushAll_high (N : Net) : ∀ (k : Nat) (f : Nat → Int), (∀ w, 1 ≤ w → w ≤ k → f w = 0) → ∀ v, pushAll N k f v = f v
  | 0, f, _, v => rfl
  | k + 1, f, h, v => by
    have e : (fun v => f v + if v = upOf N (k + 1) then f (k + 1) else 0) = f := by
      funext w
      rw [h (k + 1) (by omega) (by omega)]
      split <;> omega
    show pushAll N k (fun v => f v + if v = upOf N (k + 1) then f (k + 1) else 0) v = f v
    rw [e]
    exact pushAll_high N k f (fun w h1 h2 => h w h1 (by omega)) v
theorem pushAll_one {N : Net} (T : Tree N) (c : Int) : ∀ (k a : Nat), a ≤ k → k < N.feeders.length → ∀ v, pushAll N k (fun v => if a = v then c else 0) v = if v ∈ path N a then c else 0
  | 0, a, ha, hk, v => by
    have : a = 0 := by omega
    subst this
    rw [path_zero T]
    show (if 0 = v then c else 0) = _
    simp only [List.mem_singleton]
    by_cases e : v = 0
    · rw [if_pos e.symm, if_pos e]
    · rw [if_neg (fun q => e q.symm), if_neg e]
  | k + 1, a, ha, hk, v => by
    show pushAll N k (fun v => (if a = v then c else 0) + if v = upOf N (k + 1) then (if a = k + 1 then c else 0) else 0) v = _
    by_cases hak : a = k + 1
    · subst hak
      have hu := T.up (k + 1) (by omega) hk
      have e : ∀ w, ((if k + 1 = w then c else 0) + if w = upOf N (k + 1) then (if k + 1 = k + 1 then c else 0) else 0) = (if k + 1 = w then c else 0) + (if upOf N (k + 1) = w then c else 0) := fun w => by
        rw [if_pos rfl]
        by_cases e : w = upOf N (k + 1)
        · rw [if_pos e, if_pos (show upOf N (k + 1) = w from e.symm)]
        · rw [if_neg e, if_neg (show ¬ upOf N (k + 1) = w from fun q => e q.symm)]
      rw [pushAll_congr N k e, pushAll_add N k (fun w => if k + 1 = w then c else 0) (fun w => if upOf N (k + 1) = w then c else 0) v,
        pushAll_high N k (fun w => if k + 1 = w then c else 0) (fun w h1 h2 => if_neg (by omega)) v, pushAll_one T c k (upOf N (k + 1)) (by omega) (by omega) v, path_pos T (by omega) hk]
      by_cases e1 : k + 1 = v
      · subst e1
        have : ¬ k + 1 ∈ path N (upOf N (k + 1)) := fun m => by
          have := path_le T _ (by omega) _ m
          omega
        rw [if_pos rfl, if_neg this, if_pos (by simp)]
        omega
      · rw [if_neg e1]
        by_cases e2 : v ∈ path N (upOf N (k + 1))
        · rw [if_pos e2, if_pos (List.mem_cons_of_mem _ e2)]
          omega
        · rw [if_neg e2, if_neg (fun m => (List.mem_cons.mp m).elim (fun q => e1 q.symm) e2)]
          omega
    · have e : ∀ w, ((if a = w then c else 0) + if w = upOf N (k + 1) then (if a = k + 1 then c else 0) else 0) = (if a = w then c else 0) := fun w => by
        rw [if_neg hak]
        split <;> split <;> omega
      rw [pushAll_congr N k e]
      exact pushAll_one T c k a (by omega) (by omega) v
def own (ps : List Plant) (xs : List Int) (v : Nat) : Int := sumBy (fun p => p.at_ == v) ps xs
theorem pushAll_own {N : Net} (T : Tree N) : ∀ (ps : List Plant) (xs : List Int), (∀ p ∈ ps, p.at_ < N.feeders.length) → xs.length = ps.length → ∀ v,
    pushAll N (N.feeders.length - 1) (own ps xs) v = sumBy (fun p => (path N p.at_).contains v) ps xs
  | [], [], _, _, v => by
    rw [sumBy_nil_left]
    exact pushAll_high N _ _ (fun w _ _ => by unfold own; rw [sumBy_nil_left]) v
  | p :: ps, [], _, h, v => by simp at h
  | [], x :: xs, _, h, v => by simp at h
  | p :: ps, x :: xs, ha, h, v => by
    have ih := pushAll_own T ps xs (fun q hq => ha q (List.mem_cons_of_mem _ hq)) (by simpa using h) v
    have hp := ha p (by simp)
    have e : ∀ w, own (p :: ps) (x :: xs) w = (if p.at_ = w then x else 0) + own ps xs w := fun w => by
      unfold own
      rw [sumBy_cons]
      by_cases q : p.at_ = w
      · rw [if_pos q, if_pos (by simpa using q)]
      · rw [if_neg q, if_neg (by simpa using q)]
    rw [pushAll_congr N _ e, pushAll_add N _ (fun w => if p.at_ = w then x else 0) (own ps xs) v, ih, sumBy_cons, pushAll_one T x _ p.at_ (by omega) (by omega) v]
    simp only [List.contains_iff_mem]
theorem pushAll_flow {N : Net} (T : Tree N) {xs : List Int} (h : xs.length = N.plants.length) (v : Nat) : pushAll N (N.feeders.length - 1) (own N.plants xs) v = flow N xs v :=
  pushAll_own T N.plants xs T.at_ h v
theorem sumBy_take_succ (g : Plant → Bool) : ∀ {ps : List Plant} {xs : List Int} {i : Nat} {p : Plant} {x : Int}, ps[i]? = some p → xs[i]? = some x →
    sumBy g (ps.take (i + 1)) (xs.take (i + 1)) = sumBy g (ps.take i) (xs.take i) + if g p = true then x else 0
  | [], xs, i, p, x, hp, hx => by simp at hp
  | q :: ps, [], i, p, x, hp, hx => by simp at hx
  | q :: ps, z :: xs, 0, p, x, hp, hx => by
    have e1 : q = p := Option.some.inj hp
    have e2 : z = x := Option.some.inj hx
    subst e1 e2
    show sumBy g [q] [z] = sumBy g [] [] + _
    rw [sumBy_cons, sumBy_nil_left]
    omega
  | q :: ps, z :: xs, i + 1, p, x, hp, hx => by
    have ih := sumBy_take_succ g (ps := ps) (xs := xs) (i := i) (p := p) (x := x) (by simpa using hp) (by simpa using hx)
    show sumBy g (q :: ps.take (i + 1)) (z :: xs.take (i + 1)) = sumBy g (q :: ps.take i) (z :: xs.take i) + _
    rw [sumBy_cons, sumBy_cons, ih]
    omega
structure Srch (N : Net) (free : List Bool) (xs : List Int) (t : Int) (M lev above : Int) : Prop where
  lo : t ≤ lev
  hi : lev < above
  top : above ≤ M + 1
  fit : Fit N (raisedTo N free xs lev)
  no : above = M + 1 ∨ ¬ Fit N (raisedTo N free xs above)
theorem Srch.first {N : Net} {free : List Bool} {xs : List Int} {t M : Int} (E : Ev N free xs t) (h : t ≤ M) : Srch N free xs t M t (M + 1) :=
  ⟨Int.le_refl t, by omega, Int.le_refl _, by rw [E.start]; exact E.fit, .inl rfl⟩
theorem Srch.up {N : Net} {free : List Bool} {xs : List Int} {t M lev above m : Int} (S : Srch N free xs t M lev above) (h1 : lev < m) (h2 : m < above) (F : Fit N (raisedTo N free xs m)) : Srch N free xs t M m above :=
  ⟨by have := S.lo; omega, h2, S.top, F, S.no⟩
theorem Srch.down {N : Net} {free : List Bool} {xs : List Int} {t M lev above m : Int} (S : Srch N free xs t M lev above) (h1 : lev < m) (h2 : m < above) (F : ¬ Fit N (raisedTo N free xs m)) : Srch N free xs t M lev m :=
  ⟨S.lo, h1, by have := S.top; omega, S.fit, .inr F⟩
structure Best (N : Net) (free : List Bool) (xs : List Int) (t L : Int) : Prop where
  lo : t ≤ L
  top : L ≤ 1000000000
  fit : Fit N (raisedTo N free xs L)
  best : (∀ (i : Nat) p, N.plants[i]? = some p → free[i]? = some true → p.want ≤ L) ∨ ¬ Fit N (raisedTo N free xs (L + 1))
theorem Srch.done {N : Net} {free : List Bool} {xs : List Int} {t M lev above : Int} (S : Srch N free xs t M lev above) (h : ¬ above - lev > 1) (hM : M ≤ 1000000000)
    (hw : ∀ (i : Nat) p, N.plants[i]? = some p → free[i]? = some true → p.want ≤ M) : Best N free xs t lev := by
  have h1 := S.hi
  have h2 := S.top
  have e : above = lev + 1 := by omega
  refine ⟨S.lo, by omega, S.fit, ?_⟩
  rcases S.no with q | q
  · exact .inl fun i p hp hf => by
      have := hw i p hp hf
      omega
  · exact .inr (by rw [← e]; exact q)
theorem Rounds.next {N : Net} (T : Tree N) (hw : ∀ p ∈ N.plants, p.want ≤ 1000000000) {k : Nat} {free : List Bool} {xs : List Int} {t L : Int} (h1 : even N = evenFrom N k free xs t) (h2 : (rise free).length < k)
    (E : Ev N free xs t) (hne : rise free ≠ []) (B : Best N free xs t L) :
    Rounds N ((rise free).foldl (tryOne N) (raisedTo N free xs L, [])).1 ((rise free).foldl (tryOne N) (raisedTo N free xs L, [])).2 (L + 1) ∧
      ((rise free).foldl (tryOne N) (raisedTo N free xs L, [])).2.length < (rise free).length := by
  obtain ⟨left, u, q1, q2, q3, q4, q5⟩ := round T hw E hne B.lo B.top B.fit B.best
  match k, h1, h2 with
  | k + 1, h1, h2 => exact ⟨⟨k, left, u, h1.trans (q1 k), by omega, q2.symm, q3, fun h => (q5 h).symm⟩, q4⟩
theorem tryOne_fits {N : Net} (T : Tree N) {st : List Int × List Nat} {i : Nat} {y : Int} (F : Fit N st.1) (hi : i < N.plants.length) (hy : st.1[i]? = some y) :
    tryOne N st i = if fits N (st.1.set i (y + 1)) = true then (st.1.set i (y + 1), st.2 ++ [i]) else st := by
  have hp : N.plants[i]? = some N.plants[i] := List.getElem?_eq_getElem hi
  have h := more_pos T F hp hy
  have ed : st.1.getD i 0 = y := by rw [List.getD_eq_getElem?_getD, hy]; rfl
  unfold tryOne
  by_cases q : fits N (st.1.set i (y + 1)) = true
  · rw [if_pos q, if_pos (h.mpr (fits_iff.mp q)), ed]
  · rw [if_neg q, if_neg (fun z => q (fits_iff.mpr (h.mp z)))]
end Pd
end
section
set_option Elab.async false
namespace Pd
open Vbemay
theorem least_le : ∀ (l : List Int) (m : Int), least m l ≤ m ∧ ∀ x ∈ l, least m l ≤ x
  | [], m => ⟨Int.le_refl m, fun x h => by simp at h⟩
  | a :: r, m => by
    unfold least
    have ih := least_le r (min m a)
    refine ⟨by omega, fun x hx => ?_⟩
    rcases List.mem_cons.mp hx with rfl | hx
    · omega
    · exact ih.2 x hx
theorem least_mem : ∀ (l : List Int) (m : Int), least m l ∈ m :: l
  | [], m => by simp [least]
  | a :: r, m => by
    unfold least
    have ih := least_mem r (min m a)
    rcases List.mem_cons.mp ih with e | h
    · rw [e]
      by_cases q : m ≤ a
      · rw [Int.min_eq_left q]; simp
      · rw [Int.min_eq_right (by omega)]; simp
    · simp [h]
theorem least_min {l : List Int} {w m : Int} (h1 : m ∈ w :: l) (h2 : ∀ y ∈ w :: l, m ≤ y) : m = least w l := by
  have a := h2 _ (least_mem l w)
  have b := least_le l w
  rcases List.mem_cons.mp h1 with e | h
  · have := b.1
    omega
  · have := b.2 m h
    omega
end Pd
end
section
set_option Elab.async false
namespace Pd
open Vbemay
structure WF (N : Net) : Prop where
  tree : Tree N
  most : N.feeders.length ≤ 12
  caps : ∀ v, v < N.feeders.length → 0 ≤ capOf N v ∧ capOf N v ≤ 1000000000
  pmost : N.plants.length ≤ 12
  want : ∀ p ∈ N.plants, 0 ≤ p.want ∧ p.want ≤ 1000000000
  nd : (N.plants.map (·.num)).Nodup
  num : ∀ p ∈ N.plants, 1 ≤ p.num ∧ p.num ≤ N.last
  last : 0 ≤ N.last
theorem isAmount_iff {x : Int} : isAmount x = true ↔ 0 ≤ x ∧ x ≤ 1000000000 := by
  unfold isAmount within TOP
  rw [Bool.and_eq_true, decide_eq_true_iff, decide_eq_true_iff]
theorem isFeeder_iff {x : Int} : isFeeder x = true ↔ 1 ≤ x ∧ x ≤ 12 := by
  unfold isFeeder within
  rw [Bool.and_eq_true, decide_eq_true_iff, decide_eq_true_iff]
theorem lacks_iff {N : Net} {v : Int} : lacks N v = true ↔ (N.feeders.length : Int) < v := by
  unfold lacks
  rw [decide_eq_true_iff]
theorem upOf_at {N : Net} {v : Nat} {f : Feeder} (h : N.feeders[v]? = some f) : upOf N v = f.up := by
  unfold upOf
  rw [h]
  rfl
theorem capOf_at {N : Net} {v : Nat} {f : Feeder} (h : N.feeders[v]? = some f) : capOf N v = f.cap := by
  unfold capOf
  rw [h]
  rfl
theorem WF.opened {c : Int} (h : 0 ≤ c ∧ c ≤ 1000000000) : WF { feeders := [{ up := 0, cap := c }] } := by
  refine ⟨⟨by simp, rfl, fun v h0 hv => ?_, fun p hp => by simp at hp⟩, by simp, fun v hv => ?_, by simp, fun p hp => by simp at hp, by simp, fun p hp => by simp at hp, Int.le_refl 0⟩
  · simp at hv
    omega
  · have : v = 0 := by simp at hv; omega
    subst this
    exact h
theorem WF.feeder {N : Net} (W : WF N) {u : Nat} {c : Int} (hu : u < N.feeders.length) (hc : 0 ≤ c ∧ c ≤ 1000000000) (hl : N.feeders.length < 12) : WF { N with feeders := N.feeders ++ [{ up := u, cap := c }] } := by
  have old : ∀ v, v < N.feeders.length → (N.feeders ++ [{ up := u, cap := c }])[v]? = N.feeders[v]? := fun v hv => List.getElem?_append_left hv
  have new : (N.feeders ++ [({ up := u, cap := c } : Feeder)])[N.feeders.length]? = some { up := u, cap := c } := by simp
  have eu : ∀ v, v < N.feeders.length → upOf { N with feeders := N.feeders ++ [{ up := u, cap := c }] } v = upOf N v := fun v hv => by
    unfold upOf
    rw [show ({ N with feeders := N.feeders ++ [{ up := u, cap := c }] } : Net).feeders[v]? = N.feeders[v]? from old v hv]
  have ec : ∀ v, v < N.feeders.length → capOf { N with feeders := N.feeders ++ [{ up := u, cap := c }] } v = capOf N v := fun v hv => by
    unfold capOf
    rw [show ({ N with feeders := N.feeders ++ [{ up := u, cap := c }] } : Net).feeders[v]? = N.feeders[v]? from old v hv]
  have len : ({ N with feeders := N.feeders ++ [{ up := u, cap := c }] } : Net).feeders.length = N.feeders.length + 1 := by simp
  refine ⟨⟨by rw [len]; omega, by rw [eu 0 W.tree.pos]; exact W.tree.up0, fun v h0 hv => ?_, fun p hp => by rw [len]; have := W.tree.at_ p hp; omega⟩, by rw [len]; omega, fun v hv => ?_, W.pmost, W.want, W.nd, W.num, W.last⟩
  · rw [len] at hv
    by_cases h : v < N.feeders.length
    · rw [eu v h]
      exact W.tree.up v h0 h
    · have : v = N.feeders.length := by omega
      subst this
      rw [upOf_at new]
      exact hu
  · rw [len] at hv
    by_cases h : v < N.feeders.length
    · rw [ec v h]
      exact W.caps v h
    · have : v = N.feeders.length := by omega
      subst this
      rw [capOf_at new]
      exact hc
theorem modify_len (N : Net) (k : Nat) (c : Int) : (N.feeders.modify k fun f => { f with cap := c }).length = N.feeders.length := List.length_modify ..
theorem modify_up (N : Net) (k : Nat) (c : Int) (v : Nat) : upOf { N with feeders := N.feeders.modify k fun f => { f with cap := c } } v = upOf N v := by
  unfold upOf
  show (((N.feeders.modify k fun f => { f with cap := c })[v]?).map fun f => f.up).getD 0 = _
  rw [List.getElem?_modify]
  cases N.feeders[v]? with
  | none => rfl
  | some f => by_cases h : k = v <;> simp [h]
theorem modify_cap (N : Net) (k : Nat) (c : Int) (v : Nat) (hv : v < N.feeders.length) : capOf { N with feeders := N.feeders.modify k fun f => { f with cap := c } } v = if k = v then c else capOf N v := by
  unfold capOf
  show (((N.feeders.modify k fun f => { f with cap := c })[v]?).map fun f => f.cap).getD 0 = _
  rw [List.getElem?_modify, List.getElem?_eq_getElem hv]
  by_cases h : k = v <;> simp [h]
theorem WF.cap {N : Net} (W : WF N) (k : Nat) {c : Int} (hc : 0 ≤ c ∧ c ≤ 1000000000) : WF { N with feeders := N.feeders.modify k fun f => { f with cap := c } } := by
  have len : ({ N with feeders := N.feeders.modify k fun f => { f with cap := c } } : Net).feeders.length = N.feeders.length := modify_len N k c
  refine ⟨⟨by rw [len]; exact W.tree.pos, by rw [modify_up]; exact W.tree.up0, fun v h0 hv => ?_, fun p hp => by rw [len]; exact W.tree.at_ p hp⟩, by rw [len]; exact W.most, fun v hv => ?_, W.pmost, W.want, W.nd, W.num, W.last⟩
  · rw [len] at hv
    rw [modify_up]
    exact W.tree.up v h0 hv
  · rw [len] at hv
    rw [modify_cap N k c v hv]
    split
    · exact hc
    · exact W.caps v hv
theorem WF.plant {N : Net} (W : WF N) {v : Nat} {a : Int} (hv : v < N.feeders.length) (ha : 0 ≤ a ∧ a ≤ 1000000000) (hl : N.plants.length < 12) :
    WF { N with last := N.last + 1, plants := N.plants ++ [{ num := N.last + 1, at_ := v, want := a }] } := by
  have mem : ∀ p, p ∈ N.plants ++ [({ num := N.last + 1, at_ := v, want := a } : Plant)] → p ∈ N.plants ∨ p = { num := N.last + 1, at_ := v, want := a } := fun p hp => by simpa using hp
  refine ⟨⟨W.tree.pos, W.tree.up0, W.tree.up, fun p hp => ?_⟩, W.most, W.caps, by show (N.plants ++ [_]).length ≤ 12; simp; omega, fun p hp => ?_, ?_, fun p hp => ?_, ?_⟩
  · rcases mem p hp with h | h
    · exact W.tree.at_ p h
    · rw [h]; exact hv
  · rcases mem p hp with h | h
    · exact W.want p h
    · rw [h]; exact ha
  · show ((N.plants ++ [({ num := N.last + 1, at_ := v, want := a } : Plant)]).map (fun p : Plant => p.num)).Nodup
    rw [List.map_append, List.nodup_append]
    refine ⟨W.nd, by simp, fun x hx y hy => ?_⟩
    obtain ⟨p, hp, rfl⟩ := List.mem_map.mp hx
    have e : y = N.last + 1 := by simpa using hy
    have := (W.num p hp).2
    omega
  · have := W.last
    rcases mem p hp with h | h
    · have := W.num p h
      show 1 ≤ p.num ∧ p.num ≤ N.last + 1
      omega
    · rw [h]
      show 1 ≤ N.last + 1 ∧ N.last + 1 ≤ N.last + 1
      omega
  · have := W.last
    show 0 ≤ N.last + 1
    omega
theorem WF.wanted {N : Net} (W : WF N) (n : Int) {a : Int} (ha : 0 ≤ a ∧ a ≤ 1000000000) : WF { N with plants := N.plants.map fun p => if p.num = n then { p with want := a } else p } := by
  have mem : ∀ p, p ∈ (N.plants.map fun p => if p.num = n then { p with want := a } else p) → ∃ q ∈ N.plants, p.num = q.num ∧ p.at_ = q.at_ ∧ (p.want = a ∨ p.want = q.want) := fun p hp => by
    obtain ⟨q, hq, rfl⟩ := List.mem_map.mp hp
    refine ⟨q, hq, ?_⟩
    split
    · exact ⟨rfl, rfl, .inl rfl⟩
    · exact ⟨rfl, rfl, .inr rfl⟩
  refine ⟨⟨W.tree.pos, W.tree.up0, W.tree.up, fun p hp => ?_⟩, W.most, W.caps, by show (N.plants.map _).length ≤ 12; rw [List.length_map]; exact W.pmost, fun p hp => ?_, ?_, fun p hp => ?_, W.last⟩
  · obtain ⟨q, hq, _, e, _⟩ := mem p hp
    rw [e]
    exact W.tree.at_ q hq
  · obtain ⟨q, hq, _, _, e | e⟩ := mem p hp
    · rw [e]; exact ha
    · rw [e]; exact W.want q hq
  · show ((N.plants.map fun p => if p.num = n then { p with want := a } else p).map (fun p : Plant => p.num)).Nodup
    rw [List.map_map]
    have e : ((fun p : Plant => p.num) ∘ fun p => if p.num = n then { p with want := a } else p) = fun p => p.num := by
      funext p
      show (if p.num = n then { p with want := a } else p).num = p.num
      split <;> rfl
    rw [e]
    exact W.nd
  · obtain ⟨q, hq, e, _⟩ := mem p hp
    rw [e]
    exact W.num q hq
theorem WF.without {N : Net} (W : WF N) (n : Int) : WF (withoutPlant N n) := by
  have mem : ∀ p, p ∈ (N.plants.filter fun p => p.num != n) → p ∈ N.plants := fun p hp => (List.mem_filter.mp hp).1
  refine ⟨⟨W.tree.pos, W.tree.up0, W.tree.up, fun p hp => W.tree.at_ p (mem p hp)⟩, W.most, W.caps, Nat.le_trans (List.length_filter_le _ _) W.pmost, fun p hp => W.want p (mem p hp), ?_, fun p hp => W.num p (mem p hp), W.last⟩
  exact List.Sublist.nodup (List.Sublist.map _ List.filter_sublist) W.nd
theorem idx_lt {N : Net} {v : Int} (h1 : 1 ≤ v) (h : ¬ lacks N v = true) : idx v < N.feeders.length := by
  rw [lacks_iff] at h
  unfold idx
  omega
theorem WF.onNet {N : Net} (W : WF N) {c : Call} (h : inRange c = true) : WF (Vbemay.onNet N c).1 := by
  cases c with
  | open_ c => exact W
  | feeder u c =>
    obtain ⟨h1, h2⟩ := Bool.and_eq_true_iff.mp (show (isFeeder u && isAmount c) = true from h)
    show WF (if lacks N u = true then (N, [-3]) else if FEEDERS ≤ N.feeders.length then (N, [-4]) else ({ N with feeders := N.feeders ++ [{ up := idx u, cap := c }] }, [0, (N.feeders.length : Int) + 1])).1
    split
    · exact W
    · split
      · exact W
      · rename_i q1 q2
        exact W.feeder (idx_lt (isFeeder_iff.mp h1).1 q1) (isAmount_iff.mp h2) (by have : ¬ 12 ≤ N.feeders.length := q2; omega)
  | cap v c =>
    obtain ⟨h1, h2⟩ := Bool.and_eq_true_iff.mp (show (isFeeder v && isAmount c) = true from h)
    show WF (if lacks N v = true then (N, [-3]) else ({ N with feeders := N.feeders.modify (idx v) fun f => { f with cap := c } }, [0])).1
    split
    · exact W
    · exact W.cap (idx v) (isAmount_iff.mp h2)
  | plant v w =>
    obtain ⟨h1, h2⟩ := Bool.and_eq_true_iff.mp (show (isFeeder v && isAmount w) = true from h)
    show WF (if lacks N v = true then (N, [-3]) else if PLANTS ≤ N.plants.length then (N, [-4]) else ({ N with last := N.last + 1, plants := N.plants ++ [{ num := N.last + 1, at_ := idx v, want := w }] }, [0, N.last + 1])).1
    split
    · exact W
    · split
      · exact W
      · rename_i q1 q2
        exact W.plant (idx_lt (isFeeder_iff.mp h1).1 q1) (isAmount_iff.mp h2) (by have : ¬ 12 ≤ N.plants.length := q2; omega)
  | want n w =>
    show WF (if (place N n).isNone = true then (N, [-5]) else ({ N with plants := N.plants.map fun p => if p.num = n then { p with want := w } else p }, [0])).1
    split
    · exact W
    · exact W.wanted n (isAmount_iff.mp h)
  | leave n =>
    show WF (if (place N n).isNone = true then (N, [-5]) else (withoutPlant N n, [0])).1
    split
    · exact W
    · exact W.without n
  | byAge => exact W
  | by_ l =>
    show WF (if isOrder N l = false then (N, [-6]) else (N, 0 :: greedy N (l.filterMap fun n => place N n))).1
    split <;> exact W
  | even => exact W
  | total => exact W
  | flows r => exact W
  | room v =>
    show WF (if lacks N v = true then (N, [-3]) else (N, [0, Vbemay.total (withPlant N (idx v)) - Vbemay.total N])).1
    split <;> exact W
  | cut => exact W
  | check l =>
    show WF (if l.length ≠ N.plants.length then (N, [-6]) else if fits N l = false then (N, [0, 0]) else (N, [0, 1, Vbemay.total N - l.sum])).1
    split
    · exact W
    · split <;> exact W
  | down r => exact W
  | worth l =>
    show WF (if l.any (fun v => lacks N v) = true then (N, [-3]) else (N, [0, cutWorth N (l.map idx)])).1
    split <;> exact W
  | without n =>
    show WF (if (place N n).isNone = true then (N, [-5]) else (N, [0, Vbemay.total N - Vbemay.total (withoutPlant N n)])).1
    split <;> exact W
  | book => exact W
end Pd
end
section
set_option Elab.async false
namespace Pd
open Vbemay PyFlat
def B18 (x : Int) : Prop := -1000000000000000000 ≤ x ∧ x ≤ 1000000000000000000
theorem whole60_iff {x : Int} : VbemayNeutral.whole60 x = true ↔ B18 x := by
  unfold VbemayNeutral.whole60 B18
  rw [Bool.and_eq_true, decide_eq_true_iff, decide_eq_true_iff]
  exact Iff.rfl
def R18 (u : List Int) : Prop := u.length ≤ 20 ∧ ∀ x ∈ u, B18 x
theorem row_iff {u : List Int} : VbemayNeutral.row u = true ↔ R18 u := by
  unfold VbemayNeutral.row R18
  rw [Bool.and_eq_true, decide_eq_true_iff, List.all_eq_true]
  exact ⟨fun h => ⟨h.1, fun x hx => whole60_iff.mp (h.2 x hx)⟩, fun h => ⟨h.1, fun x hx => whole60_iff.mpr (h.2 x hx)⟩⟩
def cnt (p : Int) : Nat := if p = 0 then 1 else if p = 1 then 2 else if p = 2 then 2 else if p = 3 then 2 else if p = 4 then 2 else if p = 5 then 1 else if p = 10 then 1 else if p = 11 then 1 else if p = 14 then 1 else if p = 16 then 1 else 0
def hasRow (p : Int) : Bool := decide (p = 7) || (decide (p = 13) || decide (p = 15))
inductive Kind : List (List Int) → Prop
  | open_ (x : Int) : B18 x → Kind [[0, x]]
  | feeder (x y : Int) : B18 x → B18 y → Kind [[1, x, y]]
  | cap (x y : Int) : B18 x → B18 y → Kind [[2, x, y]]
  | plant (x y : Int) : B18 x → B18 y → Kind [[3, x, y]]
  | want (x y : Int) : B18 x → B18 y → Kind [[4, x, y]]
  | leave (x : Int) : B18 x → Kind [[5, x]]
  | byAge : Kind [[6]]
  | by_ (u : List Int) : R18 u → Kind [[7], u]
  | even : Kind [[8]]
  | total : Kind [[9]]
  | flows (x : Int) : B18 x → Kind [[10, x]]
  | room (x : Int) : B18 x → Kind [[11, x]]
  | cut : Kind [[12]]
  | check (u : List Int) : R18 u → Kind [[13], u]
  | down (x : Int) : B18 x → Kind [[14, x]]
  | worth (u : List Int) : R18 u → Kind [[15], u]
  | without (x : Int) : B18 x → Kind [[16, x]]
  | book : Kind [[17]]
inductive Shp : Int → Nat → Nat → Prop
  | s0 : Shp 0 1 0
  | s1 : Shp 1 2 0
  | s2 : Shp 2 2 0
  | s3 : Shp 3 2 0
  | s4 : Shp 4 2 0
  | s5 : Shp 5 1 0
  | s6 : Shp 6 0 0
  | s7 : Shp 7 0 1
  | s8 : Shp 8 0 0
  | s9 : Shp 9 0 0
  | s10 : Shp 10 1 0
  | s11 : Shp 11 1 0
  | s12 : Shp 12 0 0
  | s13 : Shp 13 0 1
  | s14 : Shp 14 1 0
  | s15 : Shp 15 0 1
  | s16 : Shp 16 1 0
  | s17 : Shp 17 0 0
theorem shape_some {p : Int} {n k : Nat} (h : PyVbemay.shape p = some (n, k)) : Shp p n k := by
  unfold PyVbemay.shape at h
  by_cases h0 : p = 0
  · rw [if_pos h0] at h
    subst h0
    cases Option.some.inj h
    exact .s0
  rw [if_neg h0] at h
  by_cases h1 : p = 1
  · rw [if_pos h1] at h
    subst h1
    cases Option.some.inj h
    exact .s1
  rw [if_neg h1] at h
  by_cases h2 : p = 2
  · rw [if_pos h2] at h
    subst h2
    cases Option.some.inj h
    exact .s2
  rw [if_neg h2] at h
  by_cases h3 : p = 3
  · rw [if_pos h3] at h
    subst h3
    cases Option.some.inj h
    exact .s3
  rw [if_neg h3] at h
  by_cases h4 : p = 4
  · rw [if_pos h4] at h
    subst h4
    cases Option.some.inj h
    exact .s4
  rw [if_neg h4] at h
  by_cases h5 : p = 5
  · rw [if_pos h5] at h
    subst h5
    cases Option.some.inj h
    exact .s5
  rw [if_neg h5] at h
  by_cases h6 : p = 6
  · rw [if_pos h6] at h
    subst h6
    cases Option.some.inj h
    exact .s6
  rw [if_neg h6] at h
  by_cases h7 : p = 7
  · rw [if_pos h7] at h
    subst h7
    cases Option.some.inj h
    exact .s7
  rw [if_neg h7] at h
  by_cases h8 : p = 8
  · rw [if_pos h8] at h
    subst h8
    cases Option.some.inj h
    exact .s8
  rw [if_neg h8] at h
  by_cases h9 : p = 9
  · rw [if_pos h9] at h
    subst h9
    cases Option.some.inj h
    exact .s9
  rw [if_neg h9] at h
  by_cases h10 : p = 10
  · rw [if_pos h10] at h
    subst h10
    cases Option.some.inj h
    exact .s10
  rw [if_neg h10] at h
  by_cases h11 : p = 11
  · rw [if_pos h11] at h
    subst h11
    cases Option.some.inj h
    exact .s11
  rw [if_neg h11] at h
  by_cases h12 : p = 12
  · rw [if_pos h12] at h
    subst h12
    cases Option.some.inj h
    exact .s12
  rw [if_neg h12] at h
  by_cases h13 : p = 13
  · rw [if_pos h13] at h
    subst h13
    cases Option.some.inj h
    exact .s13
  rw [if_neg h13] at h
  by_cases h14 : p = 14
  · rw [if_pos h14] at h
    subst h14
    cases Option.some.inj h
    exact .s14
  rw [if_neg h14] at h
  by_cases h15 : p = 15
  · rw [if_pos h15] at h
    subst h15
    cases Option.some.inj h
    exact .s15
  rw [if_neg h15] at h
  by_cases h16 : p = 16
  · rw [if_pos h16] at h
    subst h16
    cases Option.some.inj h
    exact .s16
  rw [if_neg h16] at h
  by_cases h17 : p = 17
  · rw [if_pos h17] at h
    subst h17
    cases Option.some.inj h
    exact .s17
  rw [if_neg h17] at h
  cases h
theorem len0 {α : Type} {l : List α} (h : 0 = l.length) : l = [] := List.eq_nil_of_length_eq_zero h.symm
theorem len1 {α : Type} {l : List α} (h : 1 = l.length) : ∃ x, l = [x] := by
  match l, h with
  | [x], _ => exact ⟨x, rfl⟩
theorem len2 {α : Type} {l : List α} (h : 2 = l.length) : ∃ x y, l = [x, y] := by
  match l, h with
  | [x, y], _ => exact ⟨x, y, rfl⟩
theorem whole_ok {c : List (List Int)} (h : okCall PyVbemay.shape c) : PyVbemay.whole c = c := by
  obtain ⟨p, a, xs, rfl, hs⟩ := h
  generalize hn : a.length = n at hs
  generalize hk : xs.length = k at hs
  cases shape_some hs with
  | s0 => obtain ⟨x, rfl⟩ := len1 hn.symm; obtain rfl := len0 hk.symm; rfl
  | s1 => obtain ⟨x, y, rfl⟩ := len2 hn.symm; obtain rfl := len0 hk.symm; rfl
  | s2 => obtain ⟨x, y, rfl⟩ := len2 hn.symm; obtain rfl := len0 hk.symm; rfl
  | s3 => obtain ⟨x, y, rfl⟩ := len2 hn.symm; obtain rfl := len0 hk.symm; rfl
  | s4 => obtain ⟨x, y, rfl⟩ := len2 hn.symm; obtain rfl := len0 hk.symm; rfl
  | s5 => obtain ⟨x, rfl⟩ := len1 hn.symm; obtain rfl := len0 hk.symm; rfl
  | s6 => obtain rfl := len0 hn.symm; obtain rfl := len0 hk.symm; rfl
  | s7 => obtain rfl := len0 hn.symm; obtain ⟨u, rfl⟩ := len1 hk.symm; rfl
  | s8 => obtain rfl := len0 hn.symm; obtain rfl := len0 hk.symm; rfl
  | s9 => obtain rfl := len0 hn.symm; obtain rfl := len0 hk.symm; rfl
  | s10 => obtain ⟨x, rfl⟩ := len1 hn.symm; obtain rfl := len0 hk.symm; rfl
  | s11 => obtain ⟨x, rfl⟩ := len1 hn.symm; obtain rfl := len0 hk.symm; rfl
  | s12 => obtain rfl := len0 hn.symm; obtain rfl := len0 hk.symm; rfl
  | s13 => obtain rfl := len0 hn.symm; obtain ⟨u, rfl⟩ := len1 hk.symm; rfl
  | s14 => obtain ⟨x, rfl⟩ := len1 hn.symm; obtain rfl := len0 hk.symm; rfl
  | s15 => obtain rfl := len0 hn.symm; obtain ⟨u, rfl⟩ := len1 hk.symm; rfl
  | s16 => obtain ⟨x, rfl⟩ := len1 hn.symm; obtain rfl := len0 hk.symm; rfl
  | s17 => obtain rfl := len0 hn.symm; obtain rfl := len0 hk.symm; rfl
theorem calls_of {l : List Int} {cs : List (List (List Int))} (h : PyVbemay.calls l = some cs) : l = put cs ∧ ∀ c ∈ cs, okCall PyVbemay.shape c := by
  unfold PyVbemay.calls at h
  split at h
  · cases h
  · rename_i ds e
    have hd := put_calls _ _ _ e
    have e2 : ds.map PyVbemay.whole = ds := by
      conv => rhs; rw [← List.map_id ds]
      exact List.map_congr_left fun c hc => whole_ok (hd.2 c hc)
    rw [e2] at h
    have e3 : ds = cs := Option.some.inj h
    subst e3
    exact hd
theorem kind_of {c : List (List Int)} (h : okCall PyVbemay.shape c) (ha : VbemayNeutral.asked1 c = true) : Kind c := by
  obtain ⟨p, a, xs, rfl, hs⟩ := h
  have two : ∀ {x y : Int}, (VbemayNeutral.whole60 x && VbemayNeutral.whole60 y) = true → B18 x ∧ B18 y := fun {x y} q => ⟨whole60_iff.mp (Bool.and_eq_true_iff.mp q).1, whole60_iff.mp (Bool.and_eq_true_iff.mp q).2⟩
  generalize hn : a.length = n at hs
  generalize hk : xs.length = k at hs
  cases shape_some hs with
  | s0 => obtain ⟨x, rfl⟩ := len1 hn.symm; obtain rfl := len0 hk.symm; exact .open_ x (whole60_iff.mp ha)
  | s1 => obtain ⟨x, y, rfl⟩ := len2 hn.symm; obtain rfl := len0 hk.symm; exact .feeder x y (two ha).1 (two ha).2
  | s2 => obtain ⟨x, y, rfl⟩ := len2 hn.symm; obtain rfl := len0 hk.symm; exact .cap x y (two ha).1 (two ha).2
  | s3 => obtain ⟨x, y, rfl⟩ := len2 hn.symm; obtain rfl := len0 hk.symm; exact .plant x y (two ha).1 (two ha).2
  | s4 => obtain ⟨x, y, rfl⟩ := len2 hn.symm; obtain rfl := len0 hk.symm; exact .want x y (two ha).1 (two ha).2
  | s5 => obtain ⟨x, rfl⟩ := len1 hn.symm; obtain rfl := len0 hk.symm; exact .leave x (whole60_iff.mp ha)
  | s6 => obtain rfl := len0 hn.symm; obtain rfl := len0 hk.symm; exact .byAge
  | s7 => obtain rfl := len0 hn.symm; obtain ⟨u, rfl⟩ := len1 hk.symm; exact .by_ u (row_iff.mp ha)
  | s8 => obtain rfl := len0 hn.symm; obtain rfl := len0 hk.symm; exact .even
  | s9 => obtain rfl := len0 hn.symm; obtain rfl := len0 hk.symm; exact .total
  | s10 => obtain ⟨x, rfl⟩ := len1 hn.symm; obtain rfl := len0 hk.symm; exact .flows x (whole60_iff.mp ha)
  | s11 => obtain ⟨x, rfl⟩ := len1 hn.symm; obtain rfl := len0 hk.symm; exact .room x (whole60_iff.mp ha)
  | s12 => obtain rfl := len0 hn.symm; obtain rfl := len0 hk.symm; exact .cut
  | s13 => obtain rfl := len0 hn.symm; obtain ⟨u, rfl⟩ := len1 hk.symm; exact .check u (row_iff.mp ha)
  | s14 => obtain ⟨x, rfl⟩ := len1 hn.symm; obtain rfl := len0 hk.symm; exact .down x (whole60_iff.mp ha)
  | s15 => obtain rfl := len0 hn.symm; obtain ⟨u, rfl⟩ := len1 hk.symm; exact .worth u (row_iff.mp ha)
  | s16 => obtain ⟨x, rfl⟩ := len1 hn.symm; obtain rfl := len0 hk.symm; exact .without x (whole60_iff.mp ha)
  | s17 => obtain rfl := len0 hn.symm; obtain rfl := len0 hk.symm; exact .book
theorem due {l : List Int} (h : PyVbemay.answers_asked l = true) : ∃ cs : List (List (List Int)), l = put cs ∧ (∀ c ∈ cs, Kind c) ∧ 1 ≤ cs.length ∧ cs.length ≤ 200 ∧ PyVbemay.answers l = told (played stepNumbers start cs) := by
  unfold PyVbemay.answers_asked at h
  unfold PyVbemay.answers
  cases e : PyVbemay.calls l with
  | none => rw [e] at h; cases h
  | some cs =>
    rw [e] at h
    obtain ⟨h1, h2⟩ := calls_of e
    obtain ⟨_, h3⟩ := Bool.and_eq_true_iff.mp h
    unfold VbemayNeutral.asked at h3
    rw [Bool.and_eq_true, Bool.and_eq_true, decide_eq_true_iff, decide_eq_true_iff, List.all_eq_true] at h3
    exact ⟨cs, h1, fun c hc => kind_of (h2 c hc) (h3.1 c hc), h3.2.1, h3.2.2, rfl⟩
end Pd
end
section
set_option Elab.async false
namespace Pd
open Vbemay
def ownW (ps : List Plant) (v : Nat) : Int := ((ps.filter fun p => p.at_ == v).map fun p => p.want).sum
def below (N : Net) (k : Nat) (v : Nat) : Int := (((feeders N).filter fun w => w != 0 && upOf N w == v).map fun w => through N k w).sum
theorem through_succ (N : Net) (k v : Nat) : through N (k + 1) v = min (capOf N v) (ownW N.plants v + below N k v) := rfl
theorem wish_eq (N : Net) (v : Nat) : wish N v = ownW N.plants v + below N (N.feeders.length + 1) v := rfl
theorem child {N : Net} (T : Tree N) {v w : Nat} (h : w ∈ (feeders N).filter fun w => w != 0 && upOf N w == v) : v < w ∧ w < N.feeders.length := by
  obtain ⟨h1, h2⟩ := List.mem_filter.mp h
  have h1 : w < N.feeders.length := List.mem_range.mp h1
  have h3 : ¬ w = 0 ∧ upOf N w = v := by simpa using h2
  have := T.up w (by omega) h1
  omega
theorem through_fuel {N : Net} (T : Tree N) : ∀ (d v k k' : Nat), N.feeders.length - v ≤ d → v < N.feeders.length → N.feeders.length - v ≤ k → N.feeders.length - v ≤ k' → through N k v = through N k' v
  | 0, v, k, k', hd, hv, _, _ => by omega
  | d + 1, v, 0, k', hd, hv, hk, _ => by omega
  | d + 1, v, k + 1, 0, hd, hv, _, hk' => by omega
  | d + 1, v, k + 1, k' + 1, hd, hv, hk, hk' => by
    rw [through_succ, through_succ]
    have e : below N k v = below N k' v := by
      unfold below
      congr 1
      refine List.map_congr_left fun w hw => ?_
      obtain ⟨h1, h2⟩ := child T hw
      exact through_fuel T d w k k' (by omega) h2 (by omega) (by omega)
    rw [e]
theorem most_eq {N : Net} (T : Tree N) {v : Nat} (hv : v < N.feeders.length) : most N v = min (capOf N v) (wish N v) := by
  unfold most
  rw [through_succ, wish_eq]
  have e : below N N.feeders.length v = below N (N.feeders.length + 1) v := by
    unfold below
    congr 1
    refine List.map_congr_left fun w hw => ?_
    obtain ⟨h1, h2⟩ := child T hw
    exact through_fuel T N.feeders.length w _ _ (by omega) h2 (by omega) (by omega)
  rw [e]
def fromTo (N : Net) : Nat → Nat → Int
  | 0, _ => 0
  | k + 1, v => fromTo N k v + if v = upOf N (k + 1) then most N (k + 1) else 0
theorem fromTo_sum (N : Net) (v : Nat) : ∀ k : Nat, (((List.range (k + 1)).filter fun w => w != 0 && upOf N w == v).map fun w => most N w).sum = fromTo N k v
  | 0 => by simp [fromTo]
  | k + 1 => by
    rw [List.range_succ, List.filter_append, List.map_append, List.sum_append, fromTo_sum N v k]
    show _ + _ = fromTo N k v + _
    congr 1
    by_cases e : v = upOf N (k + 1)
    · rw [if_pos e, List.filter_cons, if_pos (by simp [e])]
      simp
    · rw [if_neg e, List.filter_cons, if_neg (by simp; exact fun q => e q.symm)]
      simp
theorem wish_from {N : Net} (T : Tree N) (v : Nat) : wish N v = ownW N.plants v + fromTo N (N.feeders.length - 1) v := by
  rw [← fromTo_sum]
  have := T.pos
  have e : N.feeders.length - 1 + 1 = N.feeders.length := by omega
  rw [e]
  rfl
theorem fromTo_self {N : Net} (T : Tree N) {v : Nat} : ∀ k : Nat, k < N.feeders.length → k ≤ v → fromTo N k v = 0
  | 0, _, _ => rfl
  | k + 1, hk, hv => by
    unfold fromTo
    have := T.up (k + 1) (by omega) hk
    rw [fromTo_self T k (by omega) (by omega), if_neg (by omega)]
    rfl
def Wishes (N : Net) (k : Nat) (f : Nat → Int) : Prop := ∀ v, f v + fromTo N k v = wish N v
theorem Wishes.first {N : Net} (T : Tree N) : Wishes N (N.feeders.length - 1) (ownW N.plants) := fun v => (wish_from T v).symm
theorem Wishes.at_ {N : Net} (T : Tree N) {k : Nat} {f : Nat → Int} (W : Wishes N (k + 1) f) (hk : k + 1 < N.feeders.length) : f (k + 1) = wish N (k + 1) := by
  have := W (k + 1)
  rw [fromTo_self T (k + 1) hk (Nat.le_refl _)] at this
  omega
theorem Wishes.step {N : Net} (T : Tree N) {k : Nat} {f : Nat → Int} (W : Wishes N (k + 1) f) (hk : k + 1 < N.feeders.length) :
    Wishes N k (fun v => f v + if v = upOf N (k + 1) then min (capOf N (k + 1)) (f (k + 1)) else 0) := fun v => by
  have h1 := W v
  have h2 : fromTo N (k + 1) v = fromTo N k v + if v = upOf N (k + 1) then most N (k + 1) else 0 := rfl
  rw [h2, most_eq T hk, ← W.at_ T hk] at h1
  rw [← h1]
  dsimp only
  omega
theorem Wishes.last {N : Net} {f : Nat → Int} (W : Wishes N 0 f) (v : Nat) : f v = wish N v := by
  have := W v
  have h : fromTo N 0 v = 0 := rfl
  rw [h] at this
  omega
theorem ownW_snoc (ps : List Plant) (q : Plant) (v : Nat) : ownW (ps ++ [q]) v = ownW ps v + if v = q.at_ then q.want else 0 := by
  unfold ownW
  rw [List.filter_append, List.map_append, List.sum_append]
  congr 1
  by_cases e : v = q.at_
  · rw [if_pos e, List.filter_cons, if_pos (by simp [e])]
    simp
  · rw [if_neg e, List.filter_cons, if_neg (by simp; exact fun z => e z.symm)]
    simp
theorem path_head {N : Net} (T : Tree N) {v : Nat} (hv : v < N.feeders.length) : path N v = v :: (path N v).drop 1 := by
  by_cases h0 : v = 0
  · subst h0
    rw [path_zero T]
    rfl
  · rw [path_pos T (by omega) hv]
    rfl
theorem cut_at {N : Net} (T : Tree N) {v : Nat} (hv : v < N.feeders.length) : decide ((path N v).filter (fun w => stops N w) = [v]) = (stops N v && !((path N v).drop 1).any fun w => stops N w) := by
  have hp := path_head T hv
  have hn := path_nodup T v hv
  generalize (path N v).drop 1 = rest at hp
  rw [hp] at hn ⊢
  obtain ⟨hn, _⟩ := List.nodup_cons.mp hn
  rw [Bool.eq_iff_iff, decide_eq_true_iff, Bool.and_eq_true, Bool.not_eq_true', List.any_eq_false, List.filter_cons]
  constructor
  · intro h
    by_cases hs : stops N v = true
    · rw [if_pos hs] at h
      have h2 : rest.filter (fun w => stops N w) = [] := (List.cons.inj h).2
      exact ⟨hs, fun w hw => List.filter_eq_nil_iff.mp h2 w hw⟩
    · rw [if_neg hs] at h
      have : v ∈ rest.filter fun w => stops N w := by rw [h]; simp
      exact absurd (List.mem_filter.mp this).1 hn
  · rintro ⟨h1, h2⟩
    rw [if_pos h1, List.filter_eq_nil_iff.mpr h2]
def unmet (N : Net) (cs : List Nat) (ps : List Plant) : Int := ((ps.filter fun p => !(path N p.at_).any fun v => cs.contains v).map fun p => p.want).sum
theorem unmet_snoc (N : Net) (cs : List Nat) (ps : List Plant) (q : Plant) : unmet N cs (ps ++ [q]) = unmet N cs ps + if (cs.any fun f => decide (f ∈ path N q.at_)) = true then 0 else q.want := by
  unfold unmet
  rw [List.filter_append, List.map_append, List.sum_append]
  congr 1
  have e : ((path N q.at_).any fun v => cs.contains v) = cs.any fun f => decide (f ∈ path N q.at_) := by
    rw [Bool.eq_iff_iff, List.any_eq_true, List.any_eq_true]
    constructor
    · rintro ⟨v, h1, h2⟩
      exact ⟨v, by simpa using h2, decide_eq_true h1⟩
    · rintro ⟨v, h1, h2⟩
      exact ⟨v, of_decide_eq_true h2, by simpa using h1⟩
  rw [List.filter_cons, e]
  cases cs.any fun f => decide (f ∈ path N q.at_) with
  | true => simp
  | false => simp
theorem worth_eq (N : Net) (cs : List Nat) : cutWorth N cs = (cs.map fun v => capOf N v).sum + unmet N cs N.plants := rfl
end Pd
end
section
set_option Elab.async false
set_option linter.all false
set_option maxRecDepth 100000
set_option maxHeartbeats 4000000
namespace Pt
open PySem PySem.Spec PyProof.Rows L2
open Vbemay (Net Plant upOf capOf)
def pf (n f w : Int) : List (Str × V) := [("number", .int n), ("feeder", .int f), ("want", .int w)]
def gf (c h p : Addr) (l : Int) : List (Str × V) := [("capacities", .ref c), ("hangs_on", .ref h), ("plants", .ref p), ("last_number", .int l)]
def cf (n : Int) (a r : Addr) : List (Str × V) := [("number", .int n), ("numbers", .ref a), ("row", .ref r)]
def tabK (n : Nat) (f : Nat → V) : List (Key × V) := (List.range n).map fun (v : Nat) => (Sum.inl ((v : Int) + 1), f v)
theorem tabK_succ (n : Nat) (f : Nat → V) : tabK (n + 1) f = tabK n f ++ [(Sum.inl ((n : Int) + 1), f n)] := by
  unfold tabK
  rw [List.range_succ, List.map_append]
  rfl
theorem tabK_len (n : Nat) (f : Nat → V) : (tabK n f).length = n := by
  unfold tabK
  rw [List.length_map, List.length_range]
theorem tabK_get (n : Nat) (f : Nat → V) {i : Nat} (h : i < n) : (tabK n f)[i]? = some (Sum.inl ((i : Int) + 1), f i) := by
  unfold tabK
  rw [List.getElem?_map, List.getElem?_range h]
  rfl
theorem valV_tabK (f : Nat → V) (z : Int) : ∀ n : Nat, valV (tabK n f) (Sum.inl z : Key) = if 1 ≤ z ∧ z ≤ n then some (f (z - 1).toNat) else none
  | 0 => by
    rw [if_neg (by omega)]
    rfl
  | n + 1 => by
    have hn : valV (tabK n f) (Sum.inl ((n : Int) + 1) : Key) = none := by
      rw [valV_tabK f _ n, if_neg (by omega)]
    rw [tabK_succ, valV_snoc _ _ _ _ hn, valV_tabK f z n]
    by_cases e : (Sum.inl z : Key) = Sum.inl ((n : Int) + 1)
    · have e2 : z = (n : Int) + 1 := Sum.inl.inj e
      rw [if_pos e, if_pos (by omega)]
      congr 2
      omega
    · have e2 : ¬ z = (n : Int) + 1 := fun q => e (by rw [q])
      rw [if_neg e]
      by_cases q : 1 ≤ z ∧ z ≤ n
      · rw [if_pos q, if_pos (by omega)]
      · rw [if_neg q, if_neg (by omega)]
theorem valV_at (f : Nat → V) {n v : Nat} (h : v < n) : valV (tabK n f) (Sum.inl ((v : Int) + 1) : Key) = some (f v) := by
  rw [valV_tabK, if_pos (by omega)]
  congr 2
  omega
theorem putK_at (f : Nat → V) {n v : Nat} (h : v < n) (x : V) : putK (tabK n f) (Sum.inl ((v : Int) + 1) : Key) x = tabK n (fun u => if u = v then x else f u) := by
  unfold putK
  rw [if_pos (by rw [valV_any, valV_at f h]; rfl)]
  unfold tabK
  rw [List.map_map]
  refine List.map_congr_left fun u hu => ?_
  show (if (Sum.inl ((u : Int) + 1) : Key) = Sum.inl ((v : Int) + 1) then ((Sum.inl ((u : Int) + 1) : Key), x) else (Sum.inl ((u : Int) + 1), f u)) = (Sum.inl ((u : Int) + 1), if u = v then x else f u)
  by_cases e : u = v
  · rw [if_pos (by rw [e]), if_pos e]
  · rw [if_neg (fun q => e (by have := Sum.inl.inj q; omega)), if_neg e]
theorem putK_next (f : Nat → V) (n : Nat) (x : V) : putK (tabK n f) (Sum.inl ((n : Int) + 1) : Key) x = tabK (n + 1) (fun u => if u = n then x else f u) := by
  rw [putK_new x (by rw [valV_tabK, if_neg (by omega)]), tabK_succ, if_pos rfl]
  congr 1
  unfold tabK
  refine List.map_congr_left fun u hu => ?_
  have := List.mem_range.mp hu
  dsimp only
  rw [if_neg (by omega)]
theorem tabK_congr {n : Nat} {f g : Nat → V} (h : ∀ v, v < n → f v = g v) : tabK n f = tabK n g := by
  unfold tabK
  exact List.map_congr_left fun v hv => by rw [h v (List.mem_range.mp hv)]
def capsK (N : Net) : List (Key × V) := tabK N.feeders.length fun v => V.int (capOf N v)
def hangK (N : Net) : List (Key × V) := tabK N.feeders.length fun v => V.int ((upOf N v : Int) + 1)
def PlantAt (A : Ad) (H : Hp) (a : Addr) (q : Plant) : Prop := ∃ dx, H a = some (.ins A.C_Plant dx (pf q.num ((q.at_ : Int) + 1) q.want))
structure GX (A : Ad) (H : Hp) (g : Addr) (N : Net) (dx c h p : Addr) (l : Int) (ps : List Addr) : Prop where
  ob : H g = some (.ins A.C_Grid dx (gf c h p l))
  caps : H c = some (.dK (capsK N))
  hang : H h = some (.dK (hangK N))
  lst : H p = some (.lst (ps.map V.ref))
  len : ps.length = N.plants.length
  at_ : ∀ (j : Nat) (a : Addr) (q : Plant), ps[j]? = some a → N.plants[j]? = some q → PlantAt A H a q
theorem GX.same {A : Ad} {H H' : Hp} {g : Addr} {N : Net} {dx c h p : Addr} {l : Int} {ps : List Addr} (G : GX A H g N dx c h p l ps) (s : Same H H') : GX A H' g N dx c h p l ps :=
  ⟨s _ _ G.ob, s _ _ G.caps, s _ _ G.hang, s _ _ G.lst, G.len, fun j a q ha hq => let ⟨d, e⟩ := G.at_ j a q ha hq; ⟨d, s _ _ e⟩⟩
def GV (A : Ad) (H : Hp) (g : Addr) (N : Net) : Prop := ∃ (dx c h p : Addr) (l : Int) (ps : List Addr), GX A H g N dx c h p l ps
theorem GV.same {A : Ad} {H H' : Hp} {g : Addr} {N : Net} (G : GV A H g N) (s : Same H H') : GV A H' g N := by
  obtain ⟨dx, c, h, p, l, ps, G⟩ := G
  exact ⟨dx, c, h, p, l, ps, G.same s⟩
theorem GX.nth {A : Ad} {H : Hp} {g : Addr} {N : Net} {dx c h p : Addr} {l : Int} {ps : List Addr} (G : GX A H g N dx c h p l ps) {j : Nat} (hj : j < N.plants.length) : ∃ a q, ps[j]? = some a ∧ N.plants[j]? = some q ∧ PlantAt A H a q := by
  have hj' : j < ps.length := by rw [G.len]; exact hj
  have h1 : ps[j]? = some ps[j] := List.getElem?_eq_getElem hj'
  have h2 : N.plants[j]? = some N.plants[j] := List.getElem?_eq_getElem hj
  exact ⟨_, _, h1, h2, G.at_ j _ _ h1 h2⟩
theorem map_some {α β : Type} {f : α → β} {l : List α} {i : Nat} {y : β} (h : (l.map f)[i]? = some y) : ∃ x, l[i]? = some x ∧ y = f x := by
  rw [List.getElem?_map] at h
  obtain ⟨x, h1, h2⟩ := Option.map_eq_some_iff.mp h
  exact ⟨x, h1, h2.symm⟩
theorem _root_.L2.Same.new {H : Hp} {p : Addr} {o : HO} (h : H p = none) : Same H (upd H p o) := fun b u e => by
  rw [upd_ne (ne_of_none e h)]
  exact e
theorem _root_.L2.Same.on {H H' : Hp} {p : Addr} {o : HO} (s : Same H H') (h : H p = none) : Same H (upd H' p o) := fun b u e => by
  rw [upd_ne (ne_of_none e h)]
  exact s b u e
def feedV (l : List Nat) : List V := l.map fun (u : Nat) => V.int ((u : Int) + 1)
def intsV (l : List Int) : List V := l.map V.int
def natsV (l : List Nat) : List V := l.map fun (i : Nat) => V.int (i : Int)
end Pt
end
section
set_option Elab.async false
set_option linter.all false
set_option maxRecDepth 100000
set_option maxHeartbeats 4000000
namespace L2
open PySem PySem.Spec PyProof.Rows
structure Goes (J : It) (H : Hp) (xs : List V) : Prop where
  go : ∀ (i : Nat) (H' : Hp), i < xs.length → Same H H' → J.go i H'
  stop : ∀ (H' : Hp), Same H H' → J.stop xs.length H'
  yld : ∀ (i : Nat) (H' : Hp) (x : V) (H2 : Hp), Same H H' → J.yld i H' x H2 → H2 = H' ∧ xs[i]? = some x
theorem goes_list {K : PySem.W.Frag} {H : Hp} {a : Addr} {xs : List V} (sq : SqL K H a xs) : Goes (Itl K a) H xs where
  go := fun i H' hi s => ⟨xs, xs[i], s.seq sq, List.getElem?_eq_getElem hi⟩
  stop := fun H' s => ⟨xs, s.seq sq, Nat.le_refl _⟩
  yld := fun i H' x H2 s y => ⟨y.1, y.2 xs (s.seq sq)⟩
theorem goes_keys {H : Hp} {d : Addr} {o : Obj} {kvs : List (Key × V)} (h : H d = some (.frz o (.dK kvs))) : Goes (Itk d o kvs) H (kvs.map fun kv => kV kv.1) where
  go := fun i H' hi s => ⟨s _ _ h, by rw [List.length_map] at hi; exact hi⟩
  stop := fun H' s => ⟨s _ _ h, by rw [List.length_map]; exact Nat.le_refl _⟩
  yld := fun i H' x H2 s y => by
    obtain ⟨e, k, v, h1, h2⟩ := y
    exact ⟨e, by rw [List.getElem?_map, h1, h2]; rfl⟩
theorem take_succ_filterMap {α : Type} {ys : List (Option α)} {i : Nat} {o : Option α} (h : ys[i]? = some o) : (ys.take (i + 1)).filterMap id = (ys.take i).filterMap id ++ o.toList := by
  have e : ys.take (i + 1) = ys.take i ++ [o] := by
    rw [List.take_add_one, h]
    rfl
  rw [e, List.filterMap_append]
  cases o <;> rfl
theorem lc_by {J : It} {xs : List V} {ys : List (Option V)} {g : TG} {tt : TT} {te : TE} {vs : List Nat} {σ : St} {H : Hp} {D : Addr} {Qd : Hp → Prop} (hD : H D = none) (G : Goes J H xs) (hl : xs.length = ys.length) (hz : xs.length ≤ sizeLine)
    (el : ∀ (i : Nat) (x : V) (o : Option V) (H' : Hp), xs[i]? = some x → ys[i]? = some o → Same H H' → ∀ (Nx : Hp → Prop) (Y : V → Hp → Prop), (o = none → ∀ H3, Same H' H3 → Nx H3) → (∀ y, o = some y → ∀ H4, Same H' H4 → Y y H4) →
      g x (wipe σ vs) H' fun σ2 H2 => wipe σ2 vs = wipe σ vs ∧ tt σ2 H2 fun b H3 => if b = true then te σ2 H3 Y else Nx H3)
    (fin : ∀ H', H' D = some (.lst (ys.filterMap id)) → Same H H' → Qd H') :
    ∃ W : Nat → Nat → Hp → Prop, (∃ m, W 0 m (upd H D (.lst []))) ∧ ∀ i m H', W i m H' →
      (J.stop i H' ∧ Qd H') ∨ (J.go i H' ∧ ∃ Nx : Hp → Prop, (∀ H2, Nx H2 → ∃ m', m' < m ∧ W (i + 1) m' H2) ∧ ∀ x H2, J.yld i H' x H2 → g x (wipe σ vs) H2 fun σ2 H2 => wipe σ2 vs = wipe σ vs ∧ tt σ2 H2 fun b H3 =>
        if b = true then te σ2 H3 fun y H4 => ∃ acc, H4 D = some (.lst acc) ∧ acc.length < sizeLine ∧ Nx (upd H4 D (.lst (acc ++ [y]))) else Nx H3) := by
  refine ⟨fun i m H' => m = xs.length - i ∧ i ≤ xs.length ∧ H' D = some (.lst ((ys.take i).filterMap id)) ∧ Same H H', ⟨xs.length, by simp, Nat.zero_le _, upd_same, Same.new hD⟩, ?_⟩
  rintro i m H' ⟨rfl, hi, hd, sm⟩
  by_cases hlt : i < xs.length
  · refine .inr ⟨G.go i H' hlt sm, fun H2 => H2 D = some (.lst ((ys.take (i + 1)).filterMap id)) ∧ Same H H2, fun H2 q => ⟨xs.length - (i + 1), by omega, rfl, hlt, q.1, q.2⟩, fun x H2 y => ?_⟩
    obtain ⟨e, hx⟩ := G.yld i H' x H2 sm y
    subst e
    have ho : ys[i]? = some ys[i] := List.getElem?_eq_getElem (by omega)
    refine el i x _ _ hx ho sm _ _ (fun en H3 s3 => ?_) fun y ey H4 s4 => ?_
    · refine ⟨?_, sm.trans s3⟩
      rw [s3 _ _ hd, take_succ_filterMap ho, en]
      simp
    · have hacc : ((ys.take i).filterMap id).length ≤ i := by
        refine Nat.le_trans (List.length_filterMap_le _ _) ?_
        rw [List.length_take]
        omega
      refine ⟨_, s4 _ _ hd, by omega, ?_, (sm.trans s4).on hD⟩
      rw [upd_same, take_succ_filterMap ho, ey]
      rfl
  · have e : i = xs.length := by omega
    subst e
    refine .inl ⟨G.stop H' sm, fin H' ?_ sm⟩
    rw [hl, List.take_length] at hd
    exact hd
theorem filterMap_some {α : Type} : ∀ l : List α, (l.map some).filterMap id = l
  | [] => rfl
  | a :: r => by
    show a :: (r.map some).filterMap id = a :: r
    rw [filterMap_some r]
theorem lc_map {J : It} {xs ys : List V} {g : TG} {te : TE} {vs : List Nat} {σ : St} {H : Hp} {D : Addr} {Qd : Hp → Prop} (hD : H D = none) (G : Goes J H xs) (hl : xs.length = ys.length) (hz : xs.length ≤ sizeLine)
    (el : ∀ (i : Nat) (x y : V) (H' : Hp), xs[i]? = some x → ys[i]? = some y → Same H H' → ∀ (Y : V → Hp → Prop), (∀ H4, Same H' H4 → Y y H4) → g x (wipe σ vs) H' fun σ2 H2 => wipe σ2 vs = wipe σ vs ∧ te σ2 H2 Y)
    (fin : ∀ H', H' D = some (.lst ys) → Same H H' → Qd H')
    (gm : ∀ x σ0 H0 (R R' : St → Hp → Prop), (∀ a b, R a b → R' a b) → g x σ0 H0 R → g x σ0 H0 R') :
    ∃ W : Nat → Nat → Hp → Prop, (∃ m, W 0 m (upd H D (.lst []))) ∧ ∀ i m H', W i m H' →
      (J.stop i H' ∧ Qd H') ∨ (J.go i H' ∧ ∃ Nx : Hp → Prop, (∀ H2, Nx H2 → ∃ m', m' < m ∧ W (i + 1) m' H2) ∧ ∀ x H2, J.yld i H' x H2 → g x (wipe σ vs) H2 fun σ2 H2 => wipe σ2 vs = wipe σ vs ∧ tYes σ2 H2 fun b H3 =>
        if b = true then te σ2 H3 fun y H4 => ∃ acc, H4 D = some (.lst acc) ∧ acc.length < sizeLine ∧ Nx (upd H4 D (.lst (acc ++ [y]))) else Nx H3) := by
  refine lc_by (ys := ys.map some) hD G (by rw [List.length_map]; exact hl) hz (fun i x o H' hx ho sm Nx Y h1 h2 => ?_) fun H' h s => fin H' (by rw [h, filterMap_some]) s
  rw [List.getElem?_map] at ho
  obtain ⟨y, hy, e⟩ := Option.map_eq_some_iff.mp ho
  subst e
  exact gm x _ _ _ _ (fun a b q => ⟨q.1, (iteT (B := Nx b) q.2 : if true = true then te a b Y else Nx b)⟩) (el i x y H' hx hy sm Y fun H4 s4 => h2 y rfl H4 s4)
theorem gName_mono {i : Nat} : ∀ (x : V) (σ0 : St) (H0 : Hp) (R R' : St → Hp → Prop), (∀ a b, R a b → R' a b) → gName i x σ0 H0 R → gName i x σ0 H0 R' := fun _ _ _ _ _ h q => h _ _ q
theorem for_by {J : It} {xs : List V} {g : TG} {tb : TS} {D : Ends} {σ : St} {H : Hp} (H0 : Hp) (Pv : Nat → St → Hp → Prop) (G : Goes J H0 xs) (h0 : Pv 0 σ H) (hs0 : ∀ i σ H, Pv i σ H → Same H0 H)
    (hs : ∀ i x σ H, xs[i]? = some x → Pv i σ H → g x σ H fun σ2 H2 => tb { D with nx := Pv (i + 1), ct := Pv (i + 1), bk := D.nx } σ2 H2) (hd : ∀ σ H, Pv xs.length σ H → D.nx σ H) :
    ∃ W : Nat → Nat → St → Hp → Prop, (∃ m, W 0 m σ H) ∧ ∀ i m σ H, W i m σ H →
      (J.stop i H ∧ D.nx σ H) ∨ (J.go i H ∧ ∃ N : St → Hp → Prop, (∀ σ' H', N σ' H' → ∃ m', m' < m ∧ W (i + 1) m' σ' H') ∧ ∀ x H', J.yld i H x H' → g x σ H' fun σ2 H2 => tb { D with nx := N, ct := N, bk := D.nx } σ2 H2) := by
  refine ⟨fun i m σ H => m = xs.length - i ∧ i ≤ xs.length ∧ Pv i σ H, ⟨xs.length, by simp, Nat.zero_le _, h0⟩, ?_⟩
  rintro i m σ H ⟨rfl, hi, p⟩
  have sm := hs0 i σ H p
  by_cases hlt : i < xs.length
  · refine .inr ⟨G.go i H hlt sm, Pv (i + 1), fun σ' H' p' => ⟨xs.length - (i + 1), by omega, rfl, hlt, p'⟩, fun x H' y => ?_⟩
    obtain ⟨e, hx⟩ := G.yld i H x H' sm y
    subst e
    exact hs i x σ _ hx p
  · have e : i = xs.length := by omega
    subst e
    exact .inl ⟨G.stop H sm, hd σ H p⟩
theorem for_zipS {K : PySem.W.Frag} {a b : Addr} {xs ys : List V} {g : TG} {tb : TS} {D : Ends} {σ : St} {H : Hp} (H0 : Hp) (Pv : Nat → St → Hp → Prop) (qa : SqL K H0 a xs) (qb : SqL K H0 b ys) (hl : xs.length = ys.length) (h0 : Pv 0 σ H) (hs0 : ∀ i σ H, Pv i σ H → Same H0 H)
    (hs : ∀ (i : Nat) (x y : V) (σ : St) (H : Hp) (t : Addr), xs[i]? = some x → ys[i]? = some y → Pv i σ H → H t = none → g (.ref t) σ (upd H t (.tup [x, y])) fun σ2 H2 => tb { D with nx := Pv (i + 1), ct := Pv (i + 1), bk := D.nx } σ2 H2)
    (hd : ∀ σ H, Pv xs.length σ H → D.nx σ H) :
    ∃ W : Nat → Nat → St → Hp → Prop, (∃ m, W 0 m σ H) ∧ ∀ i m σ H, W i m σ H →
      ((Itzs K a b).stop i H ∧ D.nx σ H) ∨ ((Itzs K a b).go i H ∧ ∃ N : St → Hp → Prop, (∀ σ' H', N σ' H' → ∃ m', m' < m ∧ W (i + 1) m' σ' H') ∧ ∀ x H', (Itzs K a b).yld i H x H' → g x σ H' fun σ2 H2 => tb { D with nx := N, ct := N, bk := D.nx } σ2 H2) := by
  refine ⟨fun i m σ H => m = xs.length - i ∧ i ≤ xs.length ∧ Pv i σ H, ⟨xs.length, by simp, Nat.zero_le _, h0⟩, ?_⟩
  rintro i m σ H ⟨rfl, hi, p⟩
  have sm := hs0 i σ H p
  by_cases hlt : i < xs.length
  · refine .inr ⟨⟨xs, ys, xs[i], ys[i], sm.seq qa, sm.seq qb, List.getElem?_eq_getElem hlt, List.getElem?_eq_getElem (by omega)⟩, Pv (i + 1), fun σ' H' p' => ⟨xs.length - (i + 1), by omega, rfl, hlt, p'⟩, fun x H' y => ?_⟩
    obtain ⟨t, x1, y1, e1, ht, e2, e3, e4⟩ := y
    subst e1 e2
    exact hs i x1 y1 σ H t (e3 xs (sm.seq qa)) (e4 ys (sm.seq qb)) p ht
  · have e : i = xs.length := by omega
    subst e
    exact .inl ⟨⟨xs, ys, sm.seq qa, sm.seq qb, Nat.le_refl _, by omega⟩, hd σ H p⟩
end L2
end
section
set_option Elab.async false
set_option linter.all false
set_option maxRecDepth 100000
set_option maxHeartbeats 4000000
namespace Pt
open PySem PySem.Spec PyProof.Rows L2
open Vbemay (Net Plant upOf capOf)
open Pd (Tree path_zero path_pos path_le path_lt path_nodup path_len)
section
variable {P : Program} {w : World} {K : PySem.W.Frag} {mg : Str → Option Value} {base : Heap} {A : Ad}
def sp_path (A : Ad) : Sp := fun vs H Q _ => ∃ (g : Addr) (v : Nat) (N : Net), vs = [.ref g, .int ((v : Int) + 1)] ∧ GV A H g N ∧ Tree N ∧ N.feeders.length ≤ 12 ∧ v < N.feeders.length ∧
  ∀ (H' : Hp) (p : Addr), H' p = some (.lst (feedV (Vbemay.path N v))) → H p = none → Same H H' → Q (.ref p) H'
theorem ok_path_to_first (T : Txt P w K mg A) : FnOk P w K mg base CX0 1 A.f_path_to_first A.d_path_to_first ["self", "feeder"] (sp_path A) := by
  refine T.F_path_to_first.ok sc_path_to_first (fun vs H Q E h => ?_) (fun cdv Ar outer s H vs Q E hr h => ?_)
  · obtain ⟨g, v, N, rfl, _⟩ := h
    rfl
  · obtain ⟨g, v, N, rfl, G, Tr, h12, hv, k⟩ := h
    have hu := hu_of hr
    refine ⟨_, (pss_cons (ps_set (i := 2) sc_path_to_first.nd rfl (Or.inl rfl) (pe_lst (pa_cons (pv 1) pa_nil)))
      (pss_cons (ps_while PassesOwn.never (pt_cmpR op_ne (pe_ix ix_list (pv 2) (pe_un un_neg pe_int) (fun _ _ => rfl)) pe_int (nomark _)) (pss_one (ps_expr (pe_bm PySem.F.plainAttrs_list PySem.F.slot_list_append PySem.F.type_list_append mt_append (pv 2) (pa_cons (pe_dget hu (pe_fld (pv 0) rfl) (pe_ix ix_list (pv 2) (pe_un un_neg pe_int) (fun _ _ => rfl)) (fun _ _ => rfl)) pa_nil)))))
      (pss_one (ps_ret (pv 2))))), ?_⟩
    refine ⟨_, rfl, (by show 1 ≤ sizeLine; decide), fun p hp => ?_⟩
    refine ⟨fun m σ' H' => ∃ (pre : List Nat) (u : Nat), m = u ∧ σ' = [some (.ref g), some (.int ((v : Int) + 1)), some (.ref p)] ∧ H' p = some (.lst (feedV (pre ++ [u]))) ∧ Vbemay.path N v = pre ++ Vbemay.path N u ∧ u < N.feeders.length ∧ Same H H',
      ⟨v, [], v, rfl, rfl, upd_same, rfl, hv, Same.new hp⟩, ?_⟩
    rintro m σ' H' ⟨pre, u, rfl, rfl, hl, hpath, hul, sm⟩
    have hlast : atI (feedV (pre ++ [m])) (-1) = some (V.int ((m : Int) + 1)) := by
      unfold feedV
      rw [List.map_append]
      exact atI_last _ _
    refine ⟨_, rfl, _, rfl, p, _, _, _, rfl, rfl, SqL.of hl, hlast, rfl, _, rfl, ?_⟩
    by_cases hm : m = 0
    · subst hm
      rw [path_zero Tr] at hpath
      refine iteF ⟨_, rfl, ?_⟩
      exact k H' p (by rw [hpath]; exact hl) hp sm
    · have e1 : (!decide (V.int ((m : Int) + 1) = V.int 1)) = true := by
        rw [decide_eq_false (fun q => hm (by have := V.int.inj q; omega))]
        rfl
      rw [e1]
      have hup := Tr.up m (by omega) hul
      refine iteT ⟨fun σ' H'' => ∃ (pre : List Nat) (u : Nat), u < m ∧ σ' = [some (.ref g), some (.int ((v : Int) + 1)), some (.ref p)] ∧ H'' p = some (.lst (feedV (pre ++ [u]))) ∧ Vbemay.path N v = pre ++ Vbemay.path N u ∧ u < N.feeders.length ∧ Same H H'', ?_, ?_⟩
      · rintro σ' H'' ⟨pre', u, h1, h2⟩
        exact ⟨u, h1, pre', u, rfl, h2⟩
      · obtain ⟨dx, c, hh, pp, l, ps, GG⟩ := G.same sm
        have g1 := GG.ob
        have g3 := GG.hang
        have hg : DGet H' hh (V.int ((m : Int) + 1)) (some (V.int ((upOf N m : Int) + 1))) := by
          have := DGet.k (k := (Sum.inl ((m : Int) + 1) : Key)) g3
          unfold hangK at this
          rw [valV_at _ hul] at this
          exact this
        have hlen : (feedV (pre ++ [m])).length < sizeLine := by
          unfold feedV
          rw [List.length_map, List.length_append, sizeLine_eq]
          have h1 := path_len Tr v hv
          rw [hpath, List.length_append] at h1
          show pre.length + 1 < _
          omega
        refine ⟨_, rfl, .inl ⟨rfl, _, SqL.of hl⟩, _, rfl, g, A.C_Grid, dx, _, _, rfl, g1, T.cl_Grid, T.n_Grid_hangs_on, rfl, _, rfl, _, rfl, p, _, _, _, rfl, rfl, SqL.of hl, hlast, hh, _, rfl, hg, p, _, _, rfl, rfl, hl, hlen, ?_⟩
        refine ⟨pre ++ [m], upOf N m, hup, rfl, ?_, ?_, by omega, sm.on hp⟩
        · rw [upd_same]
          unfold feedV
          rw [List.map_append (l₁ := pre ++ [m])]
          rfl
        · rw [hpath, path_pos Tr (by omega) hul, List.append_assoc]
          rfl
def sp_find (A : Ad) : Sp := fun vs H Q _ => ∃ (g : Addr) (n : Int) (N : Net) (dx c h p : Addr) (l : Int) (ps : List Addr), vs = [.ref g, .int n] ∧ GX A H g N dx c h p l ps ∧
  (∀ (j : Nat) (a : Addr) (q : Plant), ps[j]? = some a → N.plants[j]? = some q → q.num = n → (∀ (i : Nat) (q' : Plant), i < j → N.plants[i]? = some q' → q'.num ≠ n) → Q (.ref a) H) ∧ ((∀ q ∈ N.plants, q.num ≠ n) → Q .non H)
theorem ok_find_plant (T : Txt P w K mg A) : FnOk P w K mg base CX0 1 A.f_find_plant A.d_find_plant ["self", "number"] (sp_find A) := by
  refine T.F_find_plant.ok sc_find_plant (fun vs H Q E h => ?_) (fun cdv Ar outer s H vs Q E hr h => ?_)
  · obtain ⟨g, n, N, dx, c, h, p, l, ps, rfl, _⟩ := h
    rfl
  · obtain ⟨g, n, N, dx, c, h, p, l, ps, rfl, G, k1, k2⟩ := h
    refine ⟨_, (pss_cons (ps_for PassesOwn.never rfl (pi_list (pe_fld (pv 0) rfl)) (pg_name (i := 2) sc_find_plant.nd rfl (Or.inl rfl)) (pss_one (ps_if (pt_cmpR op_eq (pe_fld (pv 2) rfl) (pv 1) (nomark _)) (pss_one (ps_ret (pv 2))) pss_nil)))
      (pss_one (ps_ret pe_non))), ?_⟩
    refine ⟨_, rfl, g, A.C_Grid, dx, _, _, rfl, G.ob, T.cl_Grid, T.n_Grid_plants, rfl, p, rfl, ⟨_, SqL.of G.lst⟩,
      for_by H (fun i σ' H' => ∃ v2 : Option V, σ' = [some (.ref g), some (.int n), v2] ∧ H' = H ∧ ∀ (i' : Nat) (q' : Plant), i' < i → N.plants[i']? = some q' → q'.num ≠ n) (goes_list (SqL.of G.lst)) ⟨none, rfl, rfl, fun i' q' h => absurd h (Nat.not_lt_zero _)⟩
      (fun i σ' H' ⟨_, _, e, _⟩ => by rw [e]; exact Same.refl H) ?_ ?_⟩
    · rintro i x σ' H' hx ⟨v2, rfl, rfl, hno⟩
      obtain ⟨a, ha, rfl⟩ := map_some hx
      have hi : i < N.plants.length := by rw [← G.len]; exact (List.getElem?_eq_some_iff.mp ha).1
      have hq : N.plants[i]? = some N.plants[i] := List.getElem?_eq_getElem hi
      obtain ⟨da, hp⟩ := G.at_ i a _ ha hq
      refine ⟨_, rfl, a, A.C_Plant, da, _, _, rfl, hp, T.cl_Plant, T.n_Plant_number, rfl, _, rfl, rfl, _, rfl, ?_⟩
      by_cases e : N.plants[i].num = n
      · rw [decide_eq_true (show V.int N.plants[i].num = V.int n by rw [e])]
        exact iteT ⟨_, rfl, k1 i a _ ha hq e hno⟩
      · rw [decide_eq_false (fun z => e (V.int.inj z))]
        refine iteF ⟨_, rfl, rfl, fun i' q' h' hq' => ?_⟩
        by_cases e2 : i' = i
        · subst e2
          rw [hq] at hq'
          rw [← Option.some.inj hq']
          exact e
        · exact hno i' q' (by omega) hq'
    · rintro σ' H' ⟨v2, rfl, rfl, hno⟩
      rw [List.length_map, G.len] at hno
      exact k2 fun q hq => by
        obtain ⟨i, hi, rfl⟩ := List.getElem_of_mem hq
        exact hno i _ hi (List.getElem?_eq_getElem hi)
def sp_numbers (A : Ad) : Sp := fun vs H Q _ => ∃ (g : Addr) (N : Net), vs = [.ref g] ∧ GV A H g N ∧ N.plants.length ≤ 13 ∧ ∀ (H' : Hp) (p : Addr), H' p = some (.lst (intsV (N.plants.map (·.num)))) → H p = none → Same H H' → Q (.ref p) H'
theorem ok_plant_numbers (T : Txt P w K mg A) : FnOk P w K mg base CX0 1 A.f_plant_numbers A.d_plant_numbers ["self"] (sp_numbers A) := by
  refine T.F_plant_numbers.ok sc_plant_numbers (fun vs H Q E h => ?_) (fun cdv Ar outer s H vs Q E hr h => ?_)
  · obtain ⟨g, N, rfl, _⟩ := h
    rfl
  · obtain ⟨g, N, rfl, ⟨dx, c, h, p, l, ps, G⟩, h13, k⟩ := h
    refine ⟨_, (pss_one (ps_ret (pe_lc (own := [("plant", 1)]) (te := tFld K (tVar 1) "number") rfl sc_plant_numbers.nd (pi_list (pe_fld (pv 0) rfl)) (blk_mk rfl) (fun _ _ _ _ _ => (pg_name (i := 1) sc_plant_numbers.nd rfl (Or.inl rfl))) (fun _ _ _ _ _ => pts_nil) (fun _ _ _ _ _ => (pe_fld (pv 1) rfl))))), ?_⟩
    refine ⟨_, rfl, g, A.C_Grid, dx, _, _, rfl, G.ob, T.cl_Grid, T.n_Grid_plants, rfl, p, rfl, ⟨_, SqL.of G.lst⟩, fun D hD =>
      lc_map (ys := intsV (N.plants.map (·.num))) hD (goes_list (SqL.of G.lst)) ?_ ?_ ?_ (fun H' hd s => k H' D hd hD s) gName_mono⟩
    · unfold intsV
      rw [List.length_map, List.length_map, List.length_map, G.len]
    · rw [List.length_map, G.len, sizeLine_eq]
      omega
    · intro i x y H' hx hy sm Y hY
      obtain ⟨a, ha, rfl⟩ := map_some hx
      obtain ⟨n, hn, rfl⟩ := map_some hy
      obtain ⟨q, hq, rfl⟩ := map_some hn
      obtain ⟨da, hp⟩ := G.at_ i a q ha hq
      exact ⟨rfl, _, rfl, a, A.C_Plant, da, _, _, rfl, sm _ _ hp, T.cl_Plant, T.n_Plant_number, rfl, hY H' (Same.refl _)⟩
end
end Pt
end
section
set_option Elab.async false
set_option linter.all false
set_option maxRecDepth 100000
set_option maxHeartbeats 4000000
namespace Pt
open PySem PySem.Spec PyProof.Rows L2
open Vbemay (Net Plant upOf capOf)
open Pd (Tree path_zero path_pos path_le path_lt path_nodup path_len run run_step run_other run_length roomOf roomOf_set roomOf_nothing least_min)
section
variable {P : Program} {w : World} {K : PySem.W.Frag} {mg : Str → Option Value} {base : Heap} {A : Ad}
structure Ord (N : Net) (ns : List Int) (os : List Nat) : Prop where
  len : ns.length = os.length
  at_ : ∀ (i j : Nat), os[i]? = some j → ∃ q, N.plants[j]? = some q ∧ ns[i]? = some q.num
  nd : os.Nodup
  all : ∀ j, j < N.plants.length → j ∈ os
  num : (N.plants.map (·.num)).Nodup
def sp_order (K : PySem.W.Frag) (A : Ad) : Sp := fun vs H Q _ => ∃ (g a : Addr) (N : Net) (ns : List Int) (os : List Nat), vs = [.ref g, .ref a] ∧ GV A H g N ∧ Tree N ∧ N.feeders.length ≤ 12 ∧ N.plants.length ≤ 13 ∧ Ord N ns os ∧ ns.length ≤ 13 ∧ SqL K H a (intsV ns) ∧
  ∀ (H' : Hp) (p : Addr), H' p = some (.lst (intsV (Vbemay.greedy N os))) → H p = none → Same H H' → Q (.ref p) H'
def roomK (N : Net) (xs : List Int) : List (Key × V) := tabK N.feeders.length fun v => V.int (roomOf N xs v)
def Told (N : Net) (l : List Nat) (kvs : List (Key × V)) : Prop := kvs.length ≤ l.length ∧ ∀ (j : Nat) (q : Plant), j ∈ l → N.plants[j]? = some q → ∃ x, (run N l)[j]? = some x ∧ valV kvs (Sum.inl q.num : Key) = some (.int x)
theorem take_succ {α : Type} {l : List α} {i : Nat} {x : α} (h : l[i]? = some x) : l.take (i + 1) = l.take i ++ [x] := by
  rw [List.take_add_one, h]
  rfl
theorem not_mem_take {l : List Nat} (hn : l.Nodup) {i : Nat} {j : Nat} (h : l[i]? = some j) : ¬ j ∈ l.take i := fun m => by
  obtain ⟨i', hi', e⟩ := List.getElem_of_mem m
  rw [List.length_take] at hi'
  rw [List.getElem_take] at e
  have e2 : l[i']? = some j := by rw [← e]; exact List.getElem?_eq_getElem (by omega)
  have := nd_ix hn e2 h
  omega
theorem num_inj {N : Net} (hn : (N.plants.map (·.num)).Nodup) {i j : Nat} {p q : Plant} (hp : N.plants[i]? = some p) (hq : N.plants[j]? = some q) (e : p.num = q.num) : i = j := by
  refine nd_ix (l := N.plants.map (·.num)) hn (x := p.num) (by rw [List.getElem?_map, hp]; rfl) ?_
  rw [List.getElem?_map, hq, e]
  rfl
theorem Told.put {N : Net} {l : List Nat} {kvs : List (Key × V)} {j : Nat} {q : Plant} {m : Int} (t : Told N l kvs) (hn : (N.plants.map (·.num)).Nodup) (hj : ¬ j ∈ l) (hq : N.plants[j]? = some q) (hrun : run N (l ++ [j]) = (run N l).set j m) :
    Told N (l ++ [j]) (putK kvs (Sum.inl q.num : Key) (.int m)) := by
  refine ⟨Nat.le_trans (length_putK _ _ _) (by rw [List.length_append]; have := t.1; simp; exact this), fun j' q' hj' hq' => ?_⟩
  rw [hrun, valV_put]
  have hjl : j < (run N l).length := by rw [run_length]; exact (List.getElem?_eq_some_iff.mp hq).1
  by_cases e : j' = j
  · subst e
    have e2 : q = q' := Option.some.inj (hq.symm.trans hq')
    subst e2
    exact ⟨m, List.getElem?_set_self hjl, if_pos rfl⟩
  · have hm : j' ∈ l := by
      rcases List.mem_append.mp hj' with h | h
      · exact h
      · exact absurd (by simpa using h) e
    obtain ⟨x, h1, h2⟩ := t.2 j' q' hm hq'
    refine ⟨x, by rw [List.getElem?_set_ne (fun z => e z.symm)]; exact h1, ?_⟩
    rw [if_neg (fun z => e (num_inj hn hq' hq (Sum.inl.inj z)))]
    exact h2
theorem ok_shares_by_order (T : Txt P w K mg A) : FnOk P w K mg base CX0 2 A.f_shares_by_order A.d_shares_by_order ["grid", "order"] (sp_order K A) := by
  have G_find_plant := ok_find_plant (base := base) T
  have G_path_to_first := ok_path_to_first (base := base) T
  have G_plant_numbers := ok_plant_numbers (base := base) T
  refine T.F_shares_by_order.ok sc_shares_by_order (fun vs H Q E h => ?_) (fun cdv Ar outer s H vs Q E hr h => ?_)
  · obtain ⟨g, a, N, ns, os, rfl, _⟩ := h
    rfl
  · obtain ⟨g, a, N, ns, os, rfl, ⟨dx, c, h, p, l, ps, G⟩, Tr, h12, h13, O, hns, sq, k⟩ := h
    have hu := hu_of hr
    refine ⟨_, (pss_cons (ps_set (i := 2) sc_shares_by_order.nd rfl (Or.inr rfl) (pe_callTy cr_dictD (by rfl) T.n_dict bt_dict (pa_cons (pe_fld (pv 0) rfl) pa_nil)))
      (pss_cons (ps_set (i := 3) sc_shares_by_order.nd rfl (Or.inr rfl) pe_dnewK)
      (pss_cons (ps_for PassesOwn.never rfl (pi_list (pv 1)) (pg_name (i := 4) sc_shares_by_order.nd rfl (Or.inl rfl)) (pss_cons (ps_set (i := 5) sc_shares_by_order.nd rfl (Or.inl rfl) (pe_meth (pv 0) T.cl_Grid T.m_find_plant G_find_plant (hr.mono (by decide)) T.b_find_plant .nil pass0 (pa_cons (pv 4) pa_nil)))
      (pss_cons (ps_set (i := 6) sc_shares_by_order.nd rfl (Or.inl rfl) (pe_meth (pv 0) T.cl_Grid T.m_path_to_first G_path_to_first (hr.mono (by decide)) T.b_path_to_first .nil pass0 (pa_cons (pe_fld (pv 5) rfl) pa_nil)))
      (pss_cons (ps_set (i := 7) sc_shares_by_order.nd rfl (Or.inl rfl) (pe_callB (cr_min rfl) (by rfl) T.n_min bt_min (pa_cons (pe_op op_cat (pe_lst (pa_cons (pe_fld (pv 5) rfl) pa_nil)) (pe_lc (own := [("feeder", 8)]) (te := tDGet (tVar 2) (tVar 8)) rfl sc_shares_by_order.nd (pi_list (pv 6)) (blk_mk rfl) (fun _ _ _ _ _ => (pg_name (i := 8) sc_shares_by_order.nd rfl (Or.inl rfl))) (fun _ _ _ _ _ => pts_nil) (fun _ _ _ _ _ => (pe_dget hu (pv 2) (pv 8) (fun _ _ => rfl))))) pa_nil)))
      (pss_cons (ps_for PassesOwn.never rfl (pi_list (pv 6)) (pg_name (i := 8) sc_shares_by_order.nd rfl (Or.inl rfl)) (pss_one (ps_daug hu (pv 2) (pv 8) (pv 7) in_sub (fun _ _ _ => rfl))))
      (pss_one (ps_dput hu (pv 3) (pv 4) (pv 7) rfl)))))))
      (pss_one (ps_ret (pe_lc (own := [("number", 4)]) (te := tDGet (tVar 3) (tVar 4)) rfl sc_shares_by_order.nd (pi_list (pe_meth0 (pv 0) T.cl_Grid T.m_plant_numbers G_plant_numbers (hr.mono (by decide)) T.b_plant_numbers .nil pass0)) (blk_mk rfl) (fun _ _ _ _ _ => (pg_name (i := 4) sc_shares_by_order.nd rfl (Or.inl rfl))) (fun _ _ _ _ _ => pts_nil) (fun _ _ _ _ _ => (pe_dget hu (pv 3) (pv 4) (fun _ _ => rfl))))))))), ?_⟩
    refine ⟨_, rfl, g, A.C_Grid, dx, _, _, rfl, G.ob, T.cl_Grid, T.n_Grid_capacities, rfl, c, _, rfl, Rd.of G.caps, fun r hr0 => ?_⟩
    refine fun d hd0 => ?_
    have hrH : H r = none := hr0
    have hdr : d ≠ r := fun e => by rw [e, upd_same] at hd0; cases hd0
    have hdH : H d = none := by rw [upd_ne hdr] at hd0; exact hd0
    have s2 : Same H (upd (upd H r (.dK (capsK N))) d (.dK [])) := (Same.new hrH).on hdH
    have e0 : capsK N = roomK N (run N (os.take 0)) := by
      unfold capsK roomK
      refine tabK_congr fun v hv => ?_
      rw [List.take_zero]
      show _ = V.int (roomOf N (Vbemay.nothing N) v)
      rw [roomOf_nothing]
    refine ⟨_, rfl, a, rfl, ⟨_, s2.seq sq⟩, for_by H (fun i σ' H' => ∃ (v4 v5 v6 v7 v8 : Option V) (kvs : List (Key × V)), σ' = [some (.ref g), some (.ref a), some (.ref r), some (.ref d), v4, v5, v6, v7, v8] ∧ H' r = some (.dK (roomK N (run N (os.take i)))) ∧
        H' d = some (.dK kvs) ∧ Told N (os.take i) kvs ∧ Same H H') (goes_list sq)
      ⟨none, none, none, none, none, [], rfl, by rw [upd_ne (fun e => hdr e.symm), upd_same, ← e0], upd_same, ⟨Nat.zero_le _, fun j q hj => by simp at hj⟩, s2⟩ (fun i σ' H' ⟨_, _, _, _, _, _, _, _, _, _, sm⟩ => sm) ?_ ?_⟩
    · rintro i x σ' H' hx ⟨v4, v5, v6, v7, v8, kvs, rfl, hR, hD, tl, sm⟩
      obtain ⟨n, hn, rfl⟩ := map_some hx
      have hio : i < os.length := by rw [← O.len]; exact (List.getElem?_eq_some_iff.mp hn).1
      have hj : os[i]? = some os[i] := List.getElem?_eq_getElem hio
      generalize os[i] = j at hj
      obtain ⟨q, hq, hn2⟩ := O.at_ i j hj
      have en : n = q.num := Option.some.inj (hn.symm.trans hn2)
      subst en
      have hnj : ¬ j ∈ os.take i := not_mem_take O.nd hj
      have hat : q.at_ < N.feeders.length := Tr.at_ q (List.mem_of_getElem? hq)
      refine ⟨_, rfl, g, dx, _, rfl, sm _ _ G.ob, rfl, _, rfl, g, _, N, dx, c, h, p, l, ps, rfl, G.same sm, fun j' a' q' ha' hq' hn' _ => ?_, fun hno => absurd rfl (hno q (List.mem_of_getElem? hq))⟩
      have ej : j' = j := num_inj O.num hq' hq hn'
      subst ej
      have eq : q = q' := Option.some.inj (hq.symm.trans hq')
      subst eq
      obtain ⟨da, hpl⟩ := (G.same sm).at_ j' a' q ha' hq
      refine ⟨_, rfl, g, dx, _, rfl, sm _ _ G.ob, rfl, _, rfl, a', A.C_Plant, da, _, _, rfl, hpl, T.cl_Plant, T.n_Plant_feeder, rfl, g, q.at_, N, rfl, ⟨dx, c, h, p, l, ps, G.same sm⟩, Tr, h12, hat, fun H1 pp hpp hppn s1 => ?_⟩
      refine ⟨_, rfl, a', A.C_Plant, da, _, _, rfl, s1 _ _ hpl, T.cl_Plant, T.n_Plant_want, rfl, (by show 1 ≤ sizeLine; decide), fun l1 hl1 => ?_⟩
      have s3 : Same H1 (upd H1 l1 (.lst [V.int q.want])) := Same.new hl1
      refine ⟨_, rfl, pp, rfl, ⟨_, SqL.of (s3 _ _ hpp)⟩, fun D hDn => lc_map (ys := intsV ((Vbemay.path N q.at_).map fun v => roomOf N (run N (os.take i)) v)) hDn (goes_list (SqL.of (s3 _ _ hpp))) ?_ ?_ ?_ ?_ gName_mono⟩
      · unfold feedV intsV
        rw [List.length_map, List.length_map, List.length_map]
      · unfold feedV
        rw [List.length_map, sizeLine_eq]
        have := path_len Tr q.at_ hat
        omega
      · intro t x y H2 hx2 hy sm2 Y hY
        obtain ⟨v, hv, rfl⟩ := map_some hx2
        obtain ⟨z, hz, rfl⟩ := map_some hy
        obtain ⟨v', hv', rfl⟩ := map_some hz
        have ev : v = v' := Option.some.inj (hv.symm.trans hv')
        subst ev
        have hvl : v < N.feeders.length := path_lt Tr hat v (List.mem_of_getElem? hv)
        have hg : DGet H2 r (V.int ((v : Int) + 1)) (some (V.int (roomOf N (run N (os.take i)) v))) := by
          have := DGet.k (k := (Sum.inl ((v : Int) + 1) : Key)) (sm2 _ _ (s3 _ _ (s1 _ _ hR)))
          unfold roomK at this
          rw [valV_at _ hvl] at this
          exact this
        exact ⟨rfl, _, rfl, _, rfl, r, _, rfl, hg, hY H2 (Same.refl _)⟩
      · intro H2 hD2 sm2
        refine ⟨l1, D, _, _, rfl, rfl, sm2 _ _ upd_same, hD2, ?_, fun l3 hl3 => ?_⟩
        · unfold intsV
          rw [List.length_map, List.length_map, sizeLine_eq]
          have := path_len Tr q.at_ hat
          show 1 + _ ≤ _
          omega
        refine ⟨l3, q.want :: (Vbemay.path N q.at_).map (fun v => roomOf N (run N (os.take i)) v), rfl, SqL.of upd_same, Nat.succ_pos _, fun m hm1 hm2 => ?_⟩
        have em : m = Vbemay.least q.want ((Vbemay.path N q.at_).map fun v => roomOf N (run N (os.take i)) v) := least_min hm1 hm2
        have hrun : run N (os.take i ++ [j']) = (run N (os.take i)).set j' m := by rw [run_step N hnj hq, em]
        have h0 : (run N (os.take i))[j']? = some 0 := run_other N hnj hq
        have s4 : Same H' (upd H2 l3 (.lst ([V.int q.want] ++ intsV ((Vbemay.path N q.at_).map fun v => roomOf N (run N (os.take i)) v)))) := (s1.trans (s3.trans sm2)).on (s1.free (s3.free (sm2.free hl3)))
        have hpp4 : (upd H2 l3 (.lst ([V.int q.want] ++ intsV ((Vbemay.path N q.at_).map fun v => roomOf N (run N (os.take i)) v)))) pp = some (.lst (feedV (Vbemay.path N q.at_))) := (((s3.trans sm2).on (s3.free (sm2.free hl3)) : Same H1 _)) _ _ hpp
        have npr : pp ≠ r := ne_of hpp (s1 _ _ hR) (by intro z; cases z)
        have ndr : d ≠ r := hdr
        generalize hH4 : upd H2 l3 (.lst ([V.int q.want] ++ intsV ((Vbemay.path N q.at_).map fun v => roomOf N (run N (os.take i)) v))) = H4 at s4 hpp4
        refine ⟨_, rfl, pp, rfl, ⟨_, SqL.of hpp4⟩, for_list (K := K) (a := pp) (xs := feedV (Vbemay.path N q.at_)) (fun t σ2 H5 => ∃ v8 : Option V, σ2 = [some (.ref g), some (.ref a), some (.ref r), some (.ref d), some (.int q.num), some (.ref a'), some (.ref pp), some (.int m), v8] ∧
          H5 r = some (.dK (tabK N.feeders.length fun v => V.int (roomOf N (run N (os.take i)) v - if v ∈ (Vbemay.path N q.at_).take t then m else 0))) ∧ ∀ b o, b ≠ r → H4 b = some o → H5 b = some o)
          ⟨v8, rfl, ?_, fun b o _ e => e⟩ (fun t σ2 H5 _ ⟨_, _, _, kp⟩ => SqL.of (kp _ _ npr hpp4)) ?_ ?_⟩
        · rw [s4 _ _ hR]
          unfold roomK
          congr 2
          refine tabK_congr fun v _ => ?_
          rw [List.take_zero, if_neg (by simp), Int.sub_zero]
        · rintro t x σ2 H5 hx2 ⟨v8', rfl, hr5, kp⟩
          obtain ⟨v, hv, rfl⟩ := map_some hx2
          have hvl : v < N.feeders.length := path_lt Tr hat v (List.mem_of_getElem? hv)
          have hg : DGet H5 r (V.int ((v : Int) + 1)) (some (V.int (roomOf N (run N (os.take i)) v - if v ∈ (Vbemay.path N q.at_).take t then m else 0))) := by
            have := DGet.k (k := (Sum.inl ((v : Int) + 1) : Key)) hr5
            rw [valV_at _ hvl] at this
            exact this
          refine ⟨_, rfl, _, rfl, r, _, rfl, hg, _, rfl, _, _, rfl, rfl, _, DPut.k (k := (Sum.inl ((v : Int) + 1) : Key)) hr5 (by rw [tabK_len, sizeLine_eq]; omega), _, rfl, ?_, fun b o hb e => by rw [upd_ne hb]; exact kp b o hb e⟩
          rw [upd_same, putK_at _ hvl]
          congr 2
          refine tabK_congr fun v2 _ => ?_
          have hnt : ¬ v ∈ (Vbemay.path N q.at_).take t := not_mem_take (path_nodup Tr q.at_ hat) hv
          rw [take_succ hv]
          by_cases e : v2 = v
          · subst e
            rw [if_pos rfl, if_neg hnt, if_pos (by simp)]
            congr 1
            omega
          · rw [if_neg e]
            by_cases e2 : v2 ∈ (Vbemay.path N q.at_).take t
            · rw [if_pos e2, if_pos (by simp [e2])]
            · rw [if_neg e2, if_neg (by simp [e2, e])]
        · rintro σ2 H5 ⟨v8', rfl, hr5, kp⟩
          have hD5 : H5 d = some (.dK kvs) := kp _ _ hdr (s4 _ _ hD)
          have hkl : kvs.length < sizeLine := by
            have := tl.1
            rw [List.length_take] at this
            rw [sizeLine_eq]
            have := O.len
            omega
          refine ⟨_, rfl, _, rfl, _, rfl, d, _, rfl, DPut.k (k := (Sum.inl q.num : Key)) hD5 hkl, ?_⟩
          refine ⟨_, _, _, _, _, _, rfl, ?_, upd_same, ?_, fun b o e => ?_⟩
          · rw [upd_ne (fun e => hdr e.symm), hr5, take_succ hj, hrun]
            unfold roomK
            congr 2
            refine tabK_congr fun v _ => ?_
            have el : (feedV (Vbemay.path N q.at_)).length = (Vbemay.path N q.at_).length := List.length_map _
            rw [el, List.take_length, roomOf_set m hq h0]
          · rw [take_succ hj]
            exact tl.put O.num hnj hq hrun
          · rw [upd_ne (ne_of_none e hdH)]
            exact kp b o (ne_of_none e hrH) (s4 _ _ (sm _ _ e))
    · rintro σ' H' ⟨v4, v5, v6, v7, v8, kvs, rfl, hR, hD, tl, sm⟩
      have el : (intsV ns).length = os.length := (List.length_map _).trans O.len
      rw [el, List.take_length] at tl
      refine ⟨_, rfl, g, dx, _, rfl, sm _ _ G.ob, rfl, g, N, rfl, ⟨dx, c, h, p, l, ps, G.same sm⟩, h13, fun H3 pn hpn hpnn s3 => ⟨pn, rfl, ⟨_, SqL.of hpn⟩, fun D hDn => lc_map (ys := intsV (Vbemay.greedy N os)) hDn (goes_list (SqL.of hpn)) ?_ ?_ ?_ (fun H4 hD4 s4 => k H4 D hD4 (sm.free (s3.free hDn)) ((sm.trans s3).trans s4)) gName_mono⟩⟩
      · unfold intsV
        rw [List.length_map, List.length_map, List.length_map, Pd.greedy_run, run_length]
      · unfold intsV
        rw [List.length_map, List.length_map, sizeLine_eq]
        omega
      · intro t x y H2 hx2 hy sm2 Y hY
        obtain ⟨z, hz, rfl⟩ := map_some hx2
        obtain ⟨q, hq, rfl⟩ := map_some hz
        obtain ⟨x', hx', rfl⟩ := map_some hy
        obtain ⟨x2, h1, h2⟩ := tl.2 t q (O.all t (List.getElem?_eq_some_iff.mp hq).1) hq
        have e2 : x' = x2 := Option.some.inj (hx'.symm.trans h1)
        subst e2
        have hg : DGet H2 d (V.int q.num) (some (V.int x')) := by
          have := DGet.k (k := (Sum.inl q.num : Key)) (sm2 _ _ (s3 _ _ hD))
          rw [h2] at this
          exact this
        exact ⟨rfl, _, rfl, _, rfl, d, _, rfl, hg, hY H2 (Same.refl _)⟩
end
end Pt
end
section
set_option Elab.async false
set_option linter.all false
set_option maxRecDepth 100000
set_option maxHeartbeats 1000000
namespace Pt
open PySem PySem.Spec PyProof.Rows L2
open Vbemay (Net Plant Feeder upOf capOf)
section
variable {P : Program} {w : World} {K : PySem.W.Frag} {mg : Str → Option Value} {base : Heap} {A : Ad}
def But (p : Addr) (H H' : Hp) : Prop := ∀ b o, b ≠ p → H b = some o → H' b = some o
structure GM (A : Ad) (H : Hp) (g : Addr) (N : Net) (dx c h p : Addr) (ps : List Addr) : Prop where
  gx : GX A H g N dx c h p N.last ps
  ne : c ≠ h
  nd : ps.Nodup
theorem GM.same {H H' : Hp} {g : Addr} {N : Net} {dx c h p : Addr} {ps : List Addr} (G : GM A H g N dx c h p ps) (s : Same H H') : GM A H' g N dx c h p ps := ⟨G.gx.same s, G.ne, G.nd⟩
theorem GM.gv {H : Hp} {g : Addr} {N : Net} {dx c h p : Addr} {ps : List Addr} (G : GM A H g N dx c h p ps) : GV A H g N := ⟨_, _, _, _, _, _, G.gx⟩
theorem pf_put (n f w : Int) : putF "want" (.int w) (putF "feeder" (.int f) (putF "number" (.int n) [])) = pf n f w := by rfl
theorem pf_want (n f w w' : Int) : putF "want" (.int w') (pf n f w) = pf n f w' := by rfl
theorem gf_put (c h p : Addr) (l : Int) : putF "last_number" (.int l) (putF "plants" (.ref p) (putF "hangs_on" (.ref h) (putF "capacities" (.ref c) []))) = gf c h p l := by rfl
theorem gf_c (c h p : Addr) (l : Int) (c' : Addr) : putF "capacities" (.ref c') (gf c h p l) = gf c' h p l := by rfl
theorem gf_h (c h p : Addr) (l : Int) (h' : Addr) : putF "hangs_on" (.ref h') (gf c h p l) = gf c h' p l := by rfl
theorem gf_p (c h p : Addr) (l : Int) (p' : Addr) : putF "plants" (.ref p') (gf c h p l) = gf c h p' l := by rfl
theorem gf_l (c h p : Addr) (l : Int) (l' : Int) : putF "last_number" (.int l') (gf c h p l) = gf c h p l' := by rfl
theorem cf_put (n : Int) (a r : Addr) : putF "row" (.ref r) (putF "numbers" (.ref a) (putF "number" (.int n) [])) = cf n a r := by rfl
def sp_plant (A : Ad) : Sp := fun vs H Q _ => ∃ (p dx : Addr) (n f w : Int), vs = [.ref p, .int n, .int f, .int w] ∧ H p = some (.ins A.C_Plant dx []) ∧ ∀ H' : Hp, H' p = some (.ins A.C_Plant dx (pf n f w)) → But p H H' → Q .non H'
theorem ok_plant_init (T : Txt P w K mg A) : FnOk P w K mg base CX0 1 A.f_plant_init A.d_plant_init ["self", "number", "feeder", "want"] (sp_plant A) := by
  refine T.F_plant_init.ok sc_plant_init (fun vs H Q E h => ?_) (fun cdv Ar outer s H vs Q E hr h => ?_)
  · obtain ⟨p, dx, n, f, w, rfl, _⟩ := h
    rfl
  · obtain ⟨p, dx, n, f, w, rfl, hp, k⟩ := h
    refine ⟨_, (pss_cons (ps_fld (pv 0) (pv 1) rfl)
      (pss_cons (ps_fld (pv 0) (pv 2) rfl)
      (pss_one (ps_fld (pv 0) (pv 3) rfl)))), ?_⟩
    refine ⟨_, rfl, _, rfl, p, A.C_Plant, dx, _, rfl, hp, T.cl_Plant, T.n_Plant_number, (by show 0 < 1000; decide), ?_⟩
    refine ⟨_, rfl, _, rfl, p, A.C_Plant, dx, _, rfl, upd_same, T.cl_Plant, T.n_Plant_feeder, (by show 1 < 1000; decide), ?_⟩
    refine ⟨_, rfl, _, rfl, p, A.C_Plant, dx, _, rfl, upd_same, T.cl_Plant, T.n_Plant_want, (by show 2 < 1000; decide), ?_⟩
    exact k _ (by rw [upd_same, pf_put]) fun b o hb e => by rw [upd_ne hb, upd_ne hb, upd_ne hb]; exact e
def sp_call_init (A : Ad) : Sp := fun vs H Q _ => ∃ (p dx : Addr) (n : Int) (a r : Addr), vs = [.ref p, .int n, .ref a, .ref r] ∧ H p = some (.ins A.C_Call dx []) ∧ ∀ H' : Hp, H' p = some (.ins A.C_Call dx (cf n a r)) → But p H H' → Q .non H'
theorem ok_call_init (T : Txt P w K mg A) : FnOk P w K mg base CX0 1 A.f_call_init A.d_call_init ["self", "number", "numbers", "row"] (sp_call_init A) := by
  refine T.F_call_init.ok sc_call_init (fun vs H Q E h => ?_) (fun cdv Ar outer s H vs Q E hr h => ?_)
  · obtain ⟨p, dx, n, a, r, rfl, _⟩ := h
    rfl
  · obtain ⟨p, dx, n, a, r, rfl, hp, k⟩ := h
    refine ⟨_, (pss_cons (ps_fld (pv 0) (pv 1) rfl)
      (pss_cons (ps_fld (pv 0) (pv 2) rfl)
      (pss_one (ps_fld (pv 0) (pv 3) rfl)))), ?_⟩
    refine ⟨_, rfl, _, rfl, p, A.C_Call, dx, _, rfl, hp, T.cl_Call, T.n_Call_number, (by show 0 < 1000; decide), ?_⟩
    refine ⟨_, rfl, _, rfl, p, A.C_Call, dx, _, rfl, upd_same, T.cl_Call, T.n_Call_numbers, (by show 1 < 1000; decide), ?_⟩
    refine ⟨_, rfl, _, rfl, p, A.C_Call, dx, _, rfl, upd_same, T.cl_Call, T.n_Call_row, (by show 2 < 1000; decide), ?_⟩
    exact k _ (by rw [upd_same, cf_put]) fun b o hb e => by rw [upd_ne hb, upd_ne hb, upd_ne hb]; exact e
def N0 : Net := { feeders := [] }
def sp_grid_init (A : Ad) : Sp := fun vs H Q _ => ∃ (g dx : Addr), vs = [.ref g] ∧ H g = some (.ins A.C_Grid dx []) ∧ ∀ (H' : Hp) (c h p : Addr), GM A H' g N0 dx c h p [] → H c = none → H h = none → H p = none → But g H H' → Q .non H'
theorem ok_grid_init (T : Txt P w K mg A) : FnOk P w K mg base CX0 1 A.f_grid_init A.d_grid_init ["self"] (sp_grid_init A) := by
  refine T.F_grid_init.ok sc_grid_init (fun vs H Q E h => ?_) (fun cdv Ar outer s H vs Q E hr h => ?_)
  · obtain ⟨g, dx, rfl, _⟩ := h
    rfl
  · obtain ⟨g, dx, rfl, hg, k⟩ := h
    refine ⟨_, (pss_cons (ps_fld (pv 0) pe_dnewK rfl)
      (pss_cons (ps_fld (pv 0) pe_dnewK rfl)
      (pss_cons (ps_fld (pv 0) (pe_lst pa_nil) rfl)
      (pss_one (ps_fld (pv 0) pe_int rfl))))), ?_⟩
    intro c hc
    have gc : g ≠ c := ne_of_none hg hc
    refine ⟨_, rfl, g, A.C_Grid, dx, _, rfl, (by rw [upd_ne gc]; exact hg), T.cl_Grid, T.n_Grid_capacities, (by show 0 < 1000; decide), ?_⟩
    intro h hh
    have gh : h ≠ g := fun e => by rw [e, upd_same] at hh; cases hh
    have hcn : h ≠ c := fun e => by rw [e, upd_ne (fun q => gc q.symm), upd_same] at hh; cases hh
    have hh0 : H h = none := by rw [upd_ne gh, upd_ne hcn] at hh; exact hh
    refine ⟨_, rfl, g, A.C_Grid, dx, _, rfl, (by rw [upd_ne (fun q => gh q.symm), upd_same]), T.cl_Grid, T.n_Grid_hangs_on, (by show 1 < 1000; decide), ?_⟩
    refine ⟨Nat.zero_le _, fun p hp => ?_⟩
    have gp : p ≠ g := fun e => by rw [e, upd_same] at hp; cases hp
    have hph : p ≠ h := fun e => by rw [e, upd_ne gh, upd_same] at hp; cases hp
    have hpc : p ≠ c := fun e => by rw [e, upd_ne (fun q => gc q.symm), upd_ne (fun q => hcn q.symm), upd_ne (fun q => gc q.symm), upd_same] at hp; cases hp
    have hp0 : H p = none := by rw [upd_ne gp, upd_ne hph, upd_ne gp, upd_ne hpc] at hp; exact hp
    refine ⟨_, rfl, g, A.C_Grid, dx, _, rfl, (by rw [upd_ne (fun q => gp q.symm), upd_same]), T.cl_Grid, T.n_Grid_plants, (by show 2 < 1000; decide), ?_⟩
    refine ⟨_, rfl, g, A.C_Grid, dx, _, rfl, upd_same, T.cl_Grid, T.n_Grid_last_number, (by show 3 < 1000; decide), ?_⟩
    refine k _ c h p ⟨⟨?_, ?_, ?_, ?_, rfl, fun j a q hj => by simp at hj⟩, fun q => hcn q.symm, by simp⟩ hc hh0 hp0 fun b o hb e => ?_
    · rw [upd_same, gf_put]
      rfl
    · rw [upd_ne (fun q => gc q.symm), upd_ne (fun q => gc q.symm), upd_ne (fun q => hpc q.symm), upd_ne (fun q => gc q.symm), upd_ne (fun q => hcn q.symm), upd_ne (fun q => gc q.symm), upd_same]
      rfl
    · rw [upd_ne gh, upd_ne gh, upd_ne (fun q => hph q.symm), upd_ne gh, upd_same]
      rfl
    · rw [upd_ne gp, upd_ne gp, upd_same]
      rfl
    · rw [upd_ne hb, upd_ne hb, upd_ne (ne_of_none e hp0), upd_ne hb, upd_ne (ne_of_none e hh0), upd_ne hb, upd_ne (ne_of_none e hc)]
      exact e
def N1 (c : Int) : Net := { feeders := [{ up := 0, cap := c }] }
def sp_begin (A : Ad) : Sp := fun vs H Q _ => ∃ (g dx : Addr) (c0 h0 p0 : Addr) (l0 : Int) (cap : Int), vs = [.ref g, .int cap] ∧ H g = some (.ins A.C_Grid dx (gf c0 h0 p0 l0)) ∧
  ∀ (H' : Hp) (c h p : Addr), GM A H' g (N1 cap) dx c h p [] → H c = none → H h = none → H p = none → But g H H' → Q .non H'
theorem ok_begin (T : Txt P w K mg A) : FnOk P w K mg base CX0 1 A.f_begin A.d_begin ["self", "capacity"] (sp_begin A) := by
  refine T.F_begin.ok sc_begin (fun vs H Q E h => ?_) (fun cdv Ar outer s H vs Q E hr h => ?_)
  · obtain ⟨g, dx, c0, h0, p0, l0, cap, rfl, _⟩ := h
    rfl
  · obtain ⟨g, dx, c0, h0, p0, l0, cap, rfl, hg, k⟩ := h
    refine ⟨_, (pss_cons (ps_fld (pv 0) (pe_disp (pps_cons pe_int (pv 1) pps_nil) rfl rfl (by simp) (by decide)) rfl)
      (pss_cons (ps_fld (pv 0) (pe_disp (pps_cons pe_int pe_int pps_nil) rfl rfl (by simp) (by decide)) rfl)
      (pss_cons (ps_fld (pv 0) (pe_lst pa_nil) rfl)
      (pss_one (ps_fld (pv 0) pe_int rfl))))), ?_⟩
    intro c hc
    have gc : g ≠ c := ne_of_none hg hc
    refine ⟨_, rfl, upd_same, [(Sum.inl 1, V.int cap)], rfl, (by show 1 ≤ 15; decide), ?_⟩
    refine ⟨_, rfl, g, A.C_Grid, dx, _, rfl, (by rw [upd_ne gc, upd_ne gc]; exact hg), T.cl_Grid, T.n_Grid_capacities, (by show 4 < 1000; decide), ?_⟩
    intro h hh
    have gh : h ≠ g := fun e => by rw [e, upd_same] at hh; cases hh
    have hcn : h ≠ c := fun e => by rw [e, upd_ne (fun q => gc q.symm), upd_same] at hh; cases hh
    have hh0 : H h = none := by rw [upd_ne gh, upd_ne hcn, upd_ne hcn] at hh; exact hh
    refine ⟨upd_same, [(Sum.inl 1, V.int 1)], rfl, (by show 1 ≤ 15; decide), ?_⟩
    refine ⟨_, rfl, g, A.C_Grid, dx, _, rfl, (by rw [upd_ne (fun q => gh q.symm), upd_ne (fun q => gh q.symm), upd_same, gf_c]), T.cl_Grid, T.n_Grid_hangs_on, (by show 4 < 1000; decide), ?_⟩
    refine ⟨Nat.zero_le _, fun p hp => ?_⟩
    have gp : p ≠ g := fun e => by rw [e, upd_same] at hp; cases hp
    have hph : p ≠ h := fun e => by rw [e, upd_ne gh, upd_same] at hp; cases hp
    have hpc : p ≠ c := fun e => by rw [e, upd_ne (fun q => gc q.symm), upd_ne (fun q => hcn q.symm), upd_ne (fun q => hcn q.symm), upd_ne (fun q => gc q.symm), upd_same] at hp; cases hp
    have hp0 : H p = none := by rw [upd_ne gp, upd_ne hph, upd_ne hph, upd_ne gp, upd_ne hpc, upd_ne hpc] at hp; exact hp
    refine ⟨_, rfl, g, A.C_Grid, dx, _, rfl, (by rw [upd_ne (fun q => gp q.symm), upd_same, gf_h]), T.cl_Grid, T.n_Grid_plants, (by show 4 < 1000; decide), ?_⟩
    refine ⟨_, rfl, g, A.C_Grid, dx, _, rfl, (by rw [upd_same, gf_p]), T.cl_Grid, T.n_Grid_last_number, (by show 4 < 1000; decide), ?_⟩
    refine k _ c h p ⟨⟨?_, ?_, ?_, ?_, rfl, fun j a q hj => by simp at hj⟩, fun q => hcn q.symm, by simp⟩ hc hh0 hp0 fun b o hb e => ?_
    · rw [upd_same, gf_l]
      rfl
    · rw [upd_ne (fun q => gc q.symm), upd_ne (fun q => gc q.symm), upd_ne (fun q => hpc q.symm), upd_ne (fun q => gc q.symm), upd_ne (fun q => hcn q.symm), upd_ne (fun q => hcn q.symm), upd_ne (fun q => gc q.symm), upd_same]
      rfl
    · rw [upd_ne gh, upd_ne gh, upd_ne (fun q => hph q.symm), upd_ne gh, upd_same]
      rfl
    · rw [upd_ne gp, upd_ne gp, upd_same]
      rfl
    · rw [upd_ne hb, upd_ne hb, upd_ne (ne_of_none e hp0), upd_ne hb, upd_ne (ne_of_none e hh0), upd_ne (ne_of_none e hh0), upd_ne hb, upd_ne (ne_of_none e hc), upd_ne (ne_of_none e hc)]
      exact e
def sp_begun (A : Ad) : Sp := fun vs H Q _ => ∃ (g : Addr) (N : Net), vs = [.ref g] ∧ GV A H g N ∧ Q (.bl (decide (0 < N.feeders.length))) H
theorem ok_has_begun (T : Txt P w K mg A) : FnOk P w K mg base CX0 1 A.f_has_begun A.d_has_begun ["self"] (sp_begun A) := by
  refine T.F_has_begun.ok sc_has_begun (fun vs H Q E h => ?_) (fun cdv Ar outer s H vs Q E hr h => ?_)
  · obtain ⟨g, N, rfl, _⟩ := h
    rfl
  · obtain ⟨g, N, rfl, ⟨dx, c, h, p, l, ps, G⟩, k⟩ := h
    refine ⟨_, (pss_one (ps_ret (pe_cmpR op_gt (pe_callB call_lenD (by rfl) T.n_len bt_len (pa_cons (pe_fld (pv 0) rfl) pa_nil)) pe_int (nomark _)))), ?_⟩
    refine ⟨_, rfl, g, A.C_Grid, dx, _, _, rfl, G.ob, T.cl_Grid, T.n_Grid_capacities, rfl, c, _, rfl, G.caps, _, _, rfl, rfl, ?_⟩
    have e : decide ((0 : Int) < ((capsK N).length : Int)) = decide (0 < N.feeders.length) := by
      unfold capsK
      rw [tabK_len]
      simp
    show Q (.bl (decide ((0 : Int) < ((capsK N).length : Int)))) H
    rw [e]
    exact k
def sp_has (A : Ad) : Sp := fun vs H Q _ => ∃ (g : Addr) (N : Net) (n : Int), vs = [.ref g, .int n] ∧ GV A H g N ∧ Q (.bl (decide (1 ≤ n ∧ n ≤ N.feeders.length))) H
theorem ok_has_feeder (T : Txt P w K mg A) : FnOk P w K mg base CX0 1 A.f_has_feeder A.d_has_feeder ["self", "feeder"] (sp_has A) := by
  refine T.F_has_feeder.ok sc_has_feeder (fun vs H Q E h => ?_) (fun cdv Ar outer s H vs Q E hr h => ?_)
  · obtain ⟨g, N, n, rfl, _⟩ := h
    rfl
  · obtain ⟨g, N, n, rfl, ⟨dx, c, h, p, l, ps, G⟩, k⟩ := h
    have hu := hu_of hr
    refine ⟨_, (pss_one (ps_ret (pe_cmp (pc_din hu (pv 1) (pe_fld (pv 0) rfl)) (by rfl)))), ?_⟩
    refine ⟨_, rfl, _, rfl, g, A.C_Grid, dx, _, _, rfl, G.ob, T.cl_Grid, T.n_Grid_capacities, rfl, c, _, rfl, DGet.k (k := (Sum.inl n : Key)) G.caps, ?_⟩
    have e : (valV (capsK N) (Sum.inl n : Key)).isSome = decide (1 ≤ n ∧ n ≤ N.feeders.length) := by
      unfold capsK
      rw [valV_tabK]
      by_cases q : 1 ≤ n ∧ n ≤ (N.feeders.length : Int)
      · rw [if_pos q, decide_eq_true q]
        rfl
      · rw [if_neg q, decide_eq_false q]
        rfl
    rw [e]
    exact k
def withFeeder (N : Net) (u : Nat) (c : Int) : Net := { N with feeders := N.feeders ++ [{ up := u, cap := c }] }
theorem caps_new (N : Net) (u : Nat) (cp : Int) : capsK (withFeeder N u cp) = putK (capsK N) (Sum.inl ((N.feeders.length : Int) + 1) : Key) (.int cp) := by
  unfold capsK
  rw [putK_next]
  have e : (withFeeder N u cp).feeders.length = N.feeders.length + 1 := by simp [withFeeder]
  rw [e]
  refine tabK_congr fun v hv => ?_
  by_cases q : v = N.feeders.length
  · rw [if_pos q, q, Pd.capOf_at (f := { up := u, cap := cp }) (by simp [withFeeder])]
  · rw [if_neg q]
    unfold capOf withFeeder
    rw [List.getElem?_append_left (by omega)]
theorem hang_new (N : Net) (u : Nat) (cp : Int) : hangK (withFeeder N u cp) = putK (hangK N) (Sum.inl ((N.feeders.length : Int) + 1) : Key) (.int ((u : Int) + 1)) := by
  unfold hangK
  rw [putK_next]
  have e : (withFeeder N u cp).feeders.length = N.feeders.length + 1 := by simp [withFeeder]
  rw [e]
  refine tabK_congr fun v hv => ?_
  by_cases q : v = N.feeders.length
  · rw [if_pos q, q, Pd.upOf_at (f := { up := u, cap := cp }) (by simp [withFeeder])]
  · rw [if_neg q]
    unfold upOf withFeeder
    rw [List.getElem?_append_left (by omega)]
def sp_add_feeder (A : Ad) : Sp := fun vs H Q _ => ∃ (g dx c h p : Addr) (N : Net) (ps : List Addr) (u : Nat) (cp : Int), vs = [.ref g, .int ((u : Int) + 1), .int cp] ∧ GM A H g N dx c h p ps ∧ N.feeders.length < 12 ∧
  ∀ H' : Hp, GM A H' g (withFeeder N u cp) dx c h p ps → (∀ b o, b ≠ c → b ≠ h → H b = some o → H' b = some o) → Q (.int ((N.feeders.length : Int) + 1)) H'
theorem ok_add_feeder (T : Txt P w K mg A) : FnOk P w K mg base CX0 1 A.f_add_feeder A.d_add_feeder ["self", "upper", "capacity"] (sp_add_feeder A) := by
  refine T.F_add_feeder.ok sc_add_feeder (fun vs H Q E h => ?_) (fun cdv Ar outer s H vs Q E hr h => ?_)
  · obtain ⟨g, dx, c, h, p, N, ps, u, cp, rfl, _⟩ := h
    rfl
  · obtain ⟨g, dx, c, h, p, N, ps, u, cp, rfl, ⟨G, hch, hnd⟩, h12, k⟩ := h
    have hu := hu_of hr
    refine ⟨_, (pss_cons (ps_set (i := 3) sc_add_feeder.nd rfl (Or.inl rfl) (pe_op op_add (pe_callB call_lenD (by rfl) T.n_len bt_len (pa_cons (pe_fld (pv 0) rfl) pa_nil)) pe_int))
      (pss_cons (ps_dput hu (pe_fld (pv 0) rfl) (pv 3) (pv 2) rfl)
      (pss_cons (ps_dput hu (pe_fld (pv 0) rfl) (pv 3) (pv 1) rfl)
      (pss_one (ps_ret (pv 3)))))), ?_⟩
    have el : (capsK N).length = N.feeders.length := tabK_len _ _
    have el2 : (hangK N).length = N.feeders.length := tabK_len _ _
    have gc : g ≠ c := ne_of G.ob G.caps (by intro z; cases z)
    have gh : g ≠ h := ne_of G.ob G.hang (by intro z; cases z)
    refine ⟨_, rfl, g, A.C_Grid, dx, _, _, rfl, G.ob, T.cl_Grid, T.n_Grid_capacities, rfl, c, _, rfl, G.caps, _, _, rfl, rfl, ?_⟩
    rw [el]
    refine ⟨_, rfl, _, rfl, g, A.C_Grid, dx, _, _, rfl, G.ob, T.cl_Grid, T.n_Grid_capacities, rfl, _, rfl, c, _, rfl, DPut.k (k := (Sum.inl ((N.feeders.length : Int) + 1) : Key)) G.caps (by rw [el, sizeLine_eq]; omega), ?_⟩
    refine ⟨_, rfl, _, rfl, g, A.C_Grid, dx, _, _, rfl, (by rw [upd_ne gc]; exact G.ob), T.cl_Grid, T.n_Grid_hangs_on, rfl, _, rfl, h, _, rfl, DPut.k (k := (Sum.inl ((N.feeders.length : Int) + 1) : Key)) (by rw [upd_ne (fun q => hch q.symm)]; exact G.hang) (by rw [el2, sizeLine_eq]; omega), ?_⟩
    rw [← caps_new N u cp, ← hang_new N u cp]
    refine ⟨_, rfl, ?_⟩
    have kp : ∀ b o, b ≠ c → b ≠ h → H b = some o → (upd (upd H c (.dK (capsK (withFeeder N u cp)))) h (.dK (hangK (withFeeder N u cp)))) b = some o := fun b o h1 h2 e => by
      rw [upd_ne h2, upd_ne h1]
      exact e
    refine k _ ⟨⟨kp _ _ gc gh G.ob, by rw [upd_ne hch, upd_same], upd_same, kp _ _ (ne_of G.lst G.caps (by intro z; cases z)) (ne_of G.lst G.hang (by intro z; cases z)) G.lst, G.len, fun j a q ha hq => ?_⟩, hch, hnd⟩ kp
    obtain ⟨d, e⟩ := G.at_ j a q ha hq
    exact ⟨d, kp _ _ (ne_of e G.caps (by intro z; cases z)) (ne_of e G.hang (by intro z; cases z)) e⟩
def withCap (N : Net) (v : Nat) (c : Int) : Net := { N with feeders := N.feeders.modify v fun f => { f with cap := c } }
theorem caps_put (N : Net) {v : Nat} (hv : v < N.feeders.length) (cp : Int) : putK (capsK N) (Sum.inl ((v : Int) + 1) : Key) (.int cp) = capsK (withCap N v cp) := by
  unfold capsK
  rw [putK_at _ hv]
  have e : (withCap N v cp).feeders.length = N.feeders.length := Pd.modify_len N v cp
  rw [e]
  refine tabK_congr fun u hu => ?_
  have := Pd.modify_cap N v cp u hu
  unfold withCap
  rw [this]
  by_cases q : u = v
  · rw [if_pos q, if_pos q.symm]
  · rw [if_neg q, if_neg (fun z => q z.symm)]
theorem hang_put (N : Net) (v : Nat) (cp : Int) : hangK (withCap N v cp) = hangK N := by
  unfold hangK
  have e : (withCap N v cp).feeders.length = N.feeders.length := Pd.modify_len N v cp
  rw [e]
  refine tabK_congr fun u hu => ?_
  unfold withCap
  rw [Pd.modify_up]
def sp_set_capacity (A : Ad) : Sp := fun vs H Q _ => ∃ (g dx c h p : Addr) (N : Net) (ps : List Addr) (v : Nat) (cp : Int), vs = [.ref g, .int ((v : Int) + 1), .int cp] ∧ GM A H g N dx c h p ps ∧ v < N.feeders.length ∧ N.feeders.length ≤ 12 ∧
  ∀ H' : Hp, GM A H' g (withCap N v cp) dx c h p ps → But c H H' → Q .non H'
theorem ok_set_capacity (T : Txt P w K mg A) : FnOk P w K mg base CX0 1 A.f_set_capacity A.d_set_capacity ["self", "feeder", "capacity"] (sp_set_capacity A) := by
  refine T.F_set_capacity.ok sc_set_capacity (fun vs H Q E h => ?_) (fun cdv Ar outer s H vs Q E hr h => ?_)
  · obtain ⟨g, dx, c, h, p, N, ps, v, cp, rfl, _⟩ := h
    rfl
  · obtain ⟨g, dx, c, h, p, N, ps, v, cp, rfl, ⟨G, hch, hnd⟩, hv, h12, k⟩ := h
    have hu := hu_of hr
    refine ⟨_, (pss_one (ps_dput hu (pe_fld (pv 0) rfl) (pv 1) (pv 2) rfl)), ?_⟩
    have el : (capsK N).length = N.feeders.length := tabK_len _ _
    have gc : g ≠ c := ne_of G.ob G.caps (by intro z; cases z)
    refine ⟨_, rfl, _, rfl, g, A.C_Grid, dx, _, _, rfl, G.ob, T.cl_Grid, T.n_Grid_capacities, rfl, _, rfl, c, _, rfl, DPut.k (k := (Sum.inl ((v : Int) + 1) : Key)) G.caps (by rw [el, sizeLine_eq]; omega), ?_⟩
    rw [caps_put N hv cp]
    have kp : ∀ b o, b ≠ c → H b = some o → (upd H c (.dK (capsK (withCap N v cp)))) b = some o := fun b o h1 e => by
      rw [upd_ne h1]
      exact e
    refine k _ ⟨⟨kp _ _ gc G.ob, upd_same, ?_, kp _ _ (ne_of G.lst G.caps (by intro z; cases z)) G.lst, G.len, fun j a q ha hq => ?_⟩, hch, hnd⟩ kp
    · rw [hang_put]
      exact kp _ _ (fun q => hch q.symm) G.hang
    · obtain ⟨d, e⟩ := G.at_ j a q ha hq
      exact ⟨d, kp _ _ (ne_of e G.caps (by intro z; cases z)) e⟩
def sp_feeders (A : Ad) : Sp := fun vs H Q _ => ∃ (g : Addr) (N : Net), vs = [.ref g] ∧ GV A H g N ∧ N.feeders.length ≤ 12 ∧ ∀ (H' : Hp) (p : Addr), H' p = some (.lst (feedV (List.range N.feeders.length))) → H p = none → Same H H' → Q (.ref p) H'
theorem ok_feeder_numbers (T : Txt P w K mg A) : FnOk P w K mg base CX0 1 A.f_feeder_numbers A.d_feeder_numbers ["self"] (sp_feeders A) := by
  refine T.F_feeder_numbers.ok sc_feeder_numbers (fun vs H Q E h => ?_) (fun cdv Ar outer s H vs Q E hr h => ?_)
  · obtain ⟨g, N, rfl, _⟩ := h
    rfl
  · obtain ⟨g, N, rfl, ⟨dx, c, h, p, l, ps, G⟩, h12, k⟩ := h
    refine ⟨_, (pss_one (ps_ret (pe_callTy (cr_list_rgO rfl) (by rfl) T.n_list bt_list (pa_cons (pe_range2 rfl T.n_range (pa_cons pe_int (pa_cons (pe_op op_add (pe_callB call_lenD (by rfl) T.n_len bt_len (pa_cons (pe_fld (pv 0) rfl) pa_nil)) pe_int) pa_nil))) pa_nil)))), ?_⟩
    have el : (capsK N).length = N.feeders.length := tabK_len _ _
    refine ⟨_, rfl, g, A.C_Grid, dx, _, _, rfl, G.ob, T.cl_Grid, T.n_Grid_capacities, rfl, c, _, rfl, G.caps, _, _, rfl, rfl, 1, _, rfl, fun r hr0 => ?_⟩
    rw [el]
    refine ⟨r, 1, _, 1, _, rfl, upd_same, RgC.pos (by decide) (by decide) (by omega) (by omega), by omega, fun q hq => ?_⟩
    have hqH : H q = none := (Same.new hr0).free hq
    refine k _ q ?_ hqH ((Same.new hr0).on hqH)
    rw [upd_same]
    have e1 : ((N.feeders.length : Int) + 1 - 1).toNat = N.feeders.length := by omega
    rw [e1]
    unfold feedV
    congr 2
    refine List.map_congr_left fun v _ => ?_
    congr 1
    omega
def downs (n : Nat) : List Nat := (List.range (n - 1)).map fun k => n - 1 - k
def sp_below (A : Ad) : Sp := fun vs H Q _ => ∃ (g : Addr) (N : Net), vs = [.ref g] ∧ GV A H g N ∧ N.feeders.length ≤ 12 ∧ ∀ (H' : Hp) (p : Addr), H' p = some (.lst (feedV (downs N.feeders.length))) → H p = none → Same H H' → Q (.ref p) H'
theorem ok_feeders_below_first (T : Txt P w K mg A) : FnOk P w K mg base CX0 1 A.f_feeders_below_first A.d_feeders_below_first ["self"] (sp_below A) := by
  refine T.F_feeders_below_first.ok sc_feeders_below_first (fun vs H Q E h => ?_) (fun cdv Ar outer s H vs Q E hr h => ?_)
  · obtain ⟨g, N, rfl, _⟩ := h
    rfl
  · obtain ⟨g, N, rfl, ⟨dx, c, h, p, l, ps, G⟩, h12, k⟩ := h
    refine ⟨_, (pss_one (ps_ret (pe_callTy (cr_list_rgO rfl) (by rfl) T.n_list bt_list (pa_cons (pe_range3 rfl T.n_range (pa_cons (pe_callB call_lenD (by rfl) T.n_len bt_len (pa_cons (pe_fld (pv 0) rfl) pa_nil)) (pa_cons pe_int (pa_cons (pe_un un_neg pe_int) pa_nil)))) pa_nil)))), ?_⟩
    have el : (capsK N).length = N.feeders.length := tabK_len _ _
    refine ⟨_, rfl, g, A.C_Grid, dx, _, _, rfl, G.ob, T.cl_Grid, T.n_Grid_capacities, rfl, c, _, rfl, G.caps, _, rfl, _, _, _, rfl, (by decide), (by decide), fun r hr0 => ?_⟩
    rw [el]
    refine ⟨r, _, 1, -1, _, rfl, upd_same, RgC.neg (by omega) (by omega) (by decide) (by decide), by omega, fun q hq => ?_⟩
    have hqH : H q = none := (Same.new hr0).free hq
    refine k _ q ?_ hqH ((Same.new hr0).on hqH)
    rw [upd_same]
    have e1 : ((N.feeders.length : Int) - 1).toNat = N.feeders.length - 1 := by omega
    rw [e1]
    unfold feedV downs
    rw [List.map_map]
    congr 2
    refine List.map_congr_left fun v hv => ?_
    have := List.mem_range.mp hv
    show V.int ((N.feeders.length : Int) + (v : Int) * -1) = V.int (((N.feeders.length - 1 - v : Nat) : Int) + 1)
    congr 1
    omega
end
end Pt
end
section
set_option Elab.async false
set_option linter.all false
set_option maxRecDepth 100000
set_option maxHeartbeats 1000000
namespace Pt
open PySem PySem.Spec PyProof.Rows L2
open Vbemay (Net Plant Feeder upOf capOf)
section
variable {P : Program} {w : World} {K : PySem.W.Frag} {mg : Str → Option Value} {base : Heap} {A : Ad}
def withNew (N : Net) (v : Nat) (a : Int) : Net := { N with last := N.last + 1, plants := N.plants ++ [{ num := N.last + 1, at_ := v, want := a }] }
theorem made_same {H H1 : Hp} {x dx C : Addr} (nx : H x = none) (nd : H dx = none) (k : But x (upd (upd H dx (.own x)) x (.ins C dx [])) H1) : Same H H1 := Same.made (C := C) nx nd fun b o e hb => k b o hb e
def sp_add_plant (A : Ad) : Sp := fun vs H Q _ => ∃ (g dx c h p : Addr) (N : Net) (ps : List Addr) (v : Nat) (a : Int), vs = [.ref g, .int ((v : Int) + 1), .int a] ∧ GM A H g N dx c h p ps ∧ N.plants.length < 12 ∧
  ∀ (H' : Hp) (b : Addr), GM A H' g (withNew N v a) dx c h p (ps ++ [b]) → H b = none → (∀ b o, b ≠ g → b ≠ p → H b = some o → H' b = some o) → Q (.int (N.last + 1)) H'
theorem ok_add_plant (T : Txt P w K mg A) : FnOk P w K mg base CX0 3 A.f_add_plant A.d_add_plant ["self", "feeder", "want"] (sp_add_plant A) := by
  have G_plant_init := ok_plant_init (base := base) T
  refine T.F_add_plant.ok sc_add_plant (fun vs H Q E h => ?_) (fun cdv Ar outer s H vs Q E hr h => ?_)
  · obtain ⟨g, dx, c, h, p, N, ps, v, a, rfl, _⟩ := h
    rfl
  · obtain ⟨g, dx, c, h, p, N, ps, v, a, rfl, ⟨G, hch, hnd⟩, h12, k⟩ := h
    refine ⟨_, (pss_cons (ps_fldaug (pv 0) pe_int in_add)
      (pss_cons (ps_expr (pe_bm PySem.F.plainAttrs_list PySem.F.slot_list_append PySem.F.type_list_append mt_append (pe_fld (pv 0) rfl) (pa_cons (pe_make T.mk_Plant G_plant_init (hr.mono (by decide)) rfl T.g_Plant T.b_plant_init .nil pass0 (pa_cons (pe_fld (pv 0) rfl) (pa_cons (pv 1) (pa_cons (pv 2) pa_nil)))) pa_nil)))
      (pss_one (ps_ret (pe_fld (pv 0) rfl))))), ?_⟩
    refine ⟨_, rfl, g, A.C_Grid, dx, _, _, rfl, G.ob, T.cl_Grid, T.n_Grid_last_number, rfl, _, _, rfl, rfl, dx, _, G.ob, (by show 4 < 1000; decide), ?_⟩
    rw [gf_l]
    have gp : p ≠ g := ne_of G.lst G.ob (by intro z; cases z)
    have gc : c ≠ g := ne_of G.caps G.ob (by intro z; cases z)
    have gh : h ≠ g := ne_of G.hang G.ob (by intro z; cases z)
    have hp1 : (upd H g (.ins A.C_Grid dx (gf c h p (N.last + 1)))) p = some (.lst (ps.map V.ref)) := by rw [upd_ne gp]; exact G.lst
    refine ⟨_, rfl, g, A.C_Grid, dx, _, _, rfl, upd_same, T.cl_Grid, T.n_Grid_plants, rfl, .inl ⟨rfl, _, SqL.of hp1⟩, _, rfl, g, A.C_Grid, dx, _, _, rfl, upd_same, T.cl_Grid, T.n_Grid_last_number, rfl, _, rfl, _, rfl, fun x d hx hd hdx => ?_⟩
    refine ⟨x, d, _, _, _, rfl, upd_same, fun H2 h2 kp => ⟨rfl, ?_⟩⟩
    have s2 := made_same hx hd kp
    have hp2 := s2 _ _ hp1
    have hg2 := s2 _ _ upd_same
    have ng : x ≠ g := fun e => by rw [e, upd_same] at hx; cases hx
    have hx0 : H x = none := by rw [upd_ne ng] at hx; exact hx
    have np : x ≠ p := fun e => by rw [e] at hx0; rw [G.lst] at hx0; cases hx0
    refine ⟨p, _, _, rfl, rfl, hp2, ?_, ?_⟩
    · rw [List.length_map, G.len, sizeLine_eq]
      omega
    have hg3 : (upd H2 p (.lst (ps.map V.ref ++ [V.ref x]))) g = some (.ins A.C_Grid dx (gf c h p (N.last + 1))) := by rw [upd_ne (fun q => gp q.symm)]; exact hg2
    refine ⟨_, rfl, g, A.C_Grid, dx, _, _, rfl, hg3, T.cl_Grid, T.n_Grid_last_number, rfl, ?_⟩
    have kp3 : ∀ b o, b ≠ g → b ≠ p → H b = some o → (upd H2 p (.lst (ps.map V.ref ++ [V.ref x]))) b = some o := fun b o h1 h3 e => by
      rw [upd_ne h3]
      exact s2 _ _ (by rw [upd_ne h1]; exact e)
    refine k _ x ⟨⟨hg3, kp3 _ _ gc (ne_of G.caps G.lst (by intro z; cases z)) G.caps, kp3 _ _ gh (ne_of G.hang G.lst (by intro z; cases z)) G.hang, by rw [upd_same, List.map_append]; rfl, by simp [withNew, G.len], fun j a' q ha hq => ?_⟩, hch, ?_⟩ hx0 kp3
    · by_cases hj : j < ps.length
      · rw [List.getElem?_append_left hj] at ha
        have hq' : N.plants[j]? = some q := by
          have : (N.plants ++ [({ num := N.last + 1, at_ := v, want := a } : Plant)])[j]? = some q := hq
          rw [List.getElem?_append_left (by rw [← G.len]; exact hj)] at this
          exact this
        obtain ⟨d', e⟩ := G.at_ j a' q ha hq'
        exact ⟨d', kp3 _ _ (ne_of e G.ob (by
          intro z
          have z1 := congrArg (fun o => match o with | HO.ins _ _ fs => fs.length | _ => 0) z
          simp [pf, gf] at z1)) (ne_of e G.lst (by intro z; cases z)) e⟩
      · have hj2 : j = ps.length := by
          have := (List.getElem?_eq_some_iff.mp ha).1
          simp at this
          omega
        subst hj2
        have e1 : x = a' := by simpa using ha
        have e2 : ({ num := N.last + 1, at_ := v, want := a } : Plant) = q := by
          have : (N.plants ++ [({ num := N.last + 1, at_ := v, want := a } : Plant)])[ps.length]? = some q := hq
          rw [G.len] at this
          simpa using this
        subst e1 e2
        exact ⟨d, by rw [upd_ne np]; exact h2⟩
    · refine List.nodup_append.mpr ⟨hnd, by simp, fun y hy z hz e => ?_⟩
      have e1 : z = x := by simpa using hz
      subst e1 e
      obtain ⟨j, hj, e2⟩ := List.getElem_of_mem hy
      have hj' : ps[j]? = some y := by rw [← e2]; exact List.getElem?_eq_getElem hj
      have hjl : j < N.plants.length := by rw [← G.len]; exact hj
      have hq : N.plants[j]? = some N.plants[j] := List.getElem?_eq_getElem hjl
      obtain ⟨d', e3⟩ := G.at_ j y _ hj' hq
      rw [hx0] at e3
      cases e3
def PlantsAt (A : Ad) (H : Hp) (ps : List Addr) (qs : List Plant) : Prop := ps.length = qs.length ∧ ∀ (j : Nat) (a : Addr) (q : Plant), ps[j]? = some a → qs[j]? = some q → PlantAt A H a q
theorem PlantsAt.same {H H' : Hp} {ps : List Addr} {qs : List Plant} (h : PlantsAt A H ps qs) (s : Same H H') : PlantsAt A H' ps qs := ⟨h.1, fun j a q ha hq => let ⟨d, e⟩ := h.2 j a q ha hq; ⟨d, s _ _ e⟩⟩
theorem PlantsAt.cons {H : Hp} {a : Addr} {q : Plant} {ps : List Addr} {qs : List Plant} (h1 : PlantAt A H a q) (h : PlantsAt A H ps qs) : PlantsAt A H (a :: ps) (q :: qs) := by
  refine ⟨by simp [h.1], fun j a' q' ha hq => ?_⟩
  match j with
  | 0 =>
    have e1 : a = a' := Option.some.inj ha
    have e2 : q = q' := Option.some.inj hq
    subst e1 e2
    exact h1
  | j + 1 => exact h.2 j a' q' (by simpa using ha) (by simpa using hq)
theorem PlantsAt.tail {H : Hp} {a : Addr} {q : Plant} {ps : List Addr} {qs : List Plant} (h : PlantsAt A H (a :: ps) (q :: qs)) : PlantAt A H a q ∧ PlantsAt A H ps qs :=
  ⟨h.2 0 a q rfl rfl, by have := h.1; simpa using this, fun j a' q' ha hq => h.2 (j + 1) a' q' (by simpa using ha) (by simpa using hq)⟩
def butOf (n : Int) : List Addr → List Plant → List Addr
  | a :: ps, q :: qs => if q.num != n then a :: butOf n ps qs else butOf n ps qs
  | _, _ => []
theorem butOf_sub (n : Int) : ∀ (ps : List Addr) (qs : List Plant), (butOf n ps qs).Sublist ps
  | [], qs => by cases qs <;> exact List.Sublist.refl _
  | a :: ps, [] => List.nil_sublist _
  | a :: ps, q :: qs => by
    unfold butOf
    split
    · exact (butOf_sub n ps qs).cons₂ a
    · exact (butOf_sub n ps qs).cons a
theorem butOf_at (n : Int) {H : Hp} : ∀ {ps : List Addr} {qs : List Plant}, PlantsAt A H ps qs → PlantsAt A H (butOf n ps qs) (qs.filter fun p => p.num != n)
  | [], [], h => h
  | [], _ :: _, h => by have := h.1; simp at this
  | _ :: _, [], h => by have := h.1; simp at this
  | a :: ps, q :: qs, h => by
    obtain ⟨h1, h2⟩ := h.tail
    have ih := butOf_at n h2
    unfold butOf
    rw [List.filter_cons]
    split
    · exact .cons h1 ih
    · exact ih
def butV (n : Int) (ps : List Addr) (qs : List Plant) : List (Option V) := (ps.zip qs).map fun y => if (y.2.num != n) = true then some (V.ref y.1) else none
theorem butV_all (n : Int) : ∀ (ps : List Addr) (qs : List Plant), (butV n ps qs).filterMap id = (butOf n ps qs).map V.ref
  | [], qs => by cases qs <;> rfl
  | a :: ps, [] => rfl
  | a :: ps, q :: qs => by
    unfold butV butOf
    rw [List.zip_cons_cons, List.map_cons]
    have ih := butV_all n ps qs
    unfold butV at ih
    dsimp only
    split
    · show V.ref a :: List.filterMap id _ = _
      rw [ih]
      rfl
    · exact ih
def sp_but (A : Ad) : Sp := fun vs H Q _ => ∃ (g dx c h p : Addr) (N : Net) (l : Int) (ps : List Addr) (n : Int), vs = [.ref g, .int n] ∧ GX A H g N dx c h p l ps ∧ N.plants.length ≤ 12 ∧
  ∀ (H' : Hp) (q : Addr), H' q = some (.lst ((butOf n ps N.plants).map V.ref)) → H q = none → Same H H' → Q (.ref q) H'
theorem ok_plants_but (T : Txt P w K mg A) : FnOk P w K mg base CX0 1 A.f_plants_but A.d_plants_but ["self", "number"] (sp_but A) := by
  refine T.F_plants_but.ok sc_plants_but (fun vs H Q E h => ?_) (fun cdv Ar outer s H vs Q E hr h => ?_)
  · obtain ⟨g, dx, c, h, p, N, l, ps, n, rfl, _⟩ := h
    rfl
  · obtain ⟨g, dx, c, h, p, N, l, ps, n, rfl, G, h12, k⟩ := h
    refine ⟨_, (pss_one (ps_ret (pe_lc (own := [("plant", 2)]) (tt := tTest (tOp rNe (tFld K (tVar 2) "number") (tVar 1))) (te := tVar 2) rfl sc_plants_but.nd (pi_list (pe_fld (pv 0) rfl)) (blk_mk rfl) (fun _ _ _ _ _ => (pg_name (i := 2) sc_plants_but.nd rfl (Or.inl rfl))) (fun _ _ _ _ _ => (pts_one (pt_cmpR op_ne (pe_fld (pv 2) rfl) (pv 1) (nomark _)))) (fun _ _ _ _ _ => (pv 2))))), ?_⟩
    refine ⟨_, rfl, g, A.C_Grid, dx, _, _, rfl, G.ob, T.cl_Grid, T.n_Grid_plants, rfl, p, rfl, ⟨_, SqL.of G.lst⟩, fun D hD =>
      lc_by (ys := butV n ps N.plants) hD (goes_list (SqL.of G.lst)) ?_ ?_ ?_ (fun H' hd s => k H' D (by rw [hd, butV_all]) hD s)⟩
    · unfold butV
      rw [List.length_map, List.length_map, List.length_zip, G.len]
      omega
    · rw [List.length_map, G.len, sizeLine_eq]
      omega
    · intro i x o H' hx ho sm Nx Y h1 h2
      obtain ⟨a, ha, rfl⟩ := map_some hx
      obtain ⟨y, hy, rfl⟩ := map_some ho
      have hy2 := List.getElem?_zip_eq_some.mp hy
      have ea : a = y.1 := Option.some.inj (ha.symm.trans hy2.1)
      obtain ⟨da, hp⟩ := G.at_ i y.1 y.2 hy2.1 hy2.2
      subst ea
      refine ⟨rfl, _, rfl, y.1, A.C_Plant, da, _, _, rfl, sm _ _ hp, T.cl_Plant, T.n_Plant_number, rfl, _, rfl, rfl, _, rfl, ?_⟩
      by_cases e : y.2.num = n
      · rw [decide_eq_true (show V.int y.2.num = V.int n by rw [e])]
        refine iteF (h1 (by simp [e]) H' (Same.refl _))
      · rw [decide_eq_false (fun z => e (V.int.inj z))]
        refine iteT ⟨_, rfl, h2 _ (by simp [e]) H' (Same.refl _)⟩
def sp_drop (A : Ad) : Sp := fun vs H Q _ => ∃ (g dx c h p : Addr) (N : Net) (ps : List Addr) (n : Int), vs = [.ref g, .int n] ∧ GM A H g N dx c h p ps ∧ N.plants.length ≤ 12 ∧
  ∀ (H' : Hp) (q : Addr), GM A H' g (Vbemay.withoutPlant N n) dx c h q (butOf n ps N.plants) → H q = none → But g H H' → Q .non H'
theorem GX.plants {H : Hp} {g : Addr} {N : Net} {dx c h p : Addr} {l : Int} {ps : List Addr} (G : GX A H g N dx c h p l ps) : PlantsAt A H ps N.plants := ⟨G.len, G.at_⟩
theorem plant_ne_grid {H : Hp} {a g dx : Addr} {q : Plant} {fs : Addr × Addr × Addr × Int} (h : PlantAt A H a q) (hg : H g = some (.ins A.C_Grid dx (gf fs.1 fs.2.1 fs.2.2.1 fs.2.2.2))) : a ≠ g := by
  obtain ⟨d, e⟩ := h
  refine ne_of e hg fun z => ?_
  have z1 := congrArg (fun o => match o with | HO.ins _ _ fs => fs.length | _ => 0) z
  simp [pf, gf] at z1
theorem ok_drop_plant (T : Txt P w K mg A) : FnOk P w K mg base CX0 2 A.f_drop_plant A.d_drop_plant ["self", "number"] (sp_drop A) := by
  have G_plants_but := ok_plants_but (base := base) T
  refine T.F_drop_plant.ok sc_drop_plant (fun vs H Q E h => ?_) (fun cdv Ar outer s H vs Q E hr h => ?_)
  · obtain ⟨g, dx, c, h, p, N, ps, n, rfl, _⟩ := h
    rfl
  · obtain ⟨g, dx, c, h, p, N, ps, n, rfl, ⟨G, hch, hnd⟩, h12, k⟩ := h
    refine ⟨_, (pss_one (ps_fld (pv 0) (pe_meth (pv 0) T.cl_Grid T.m_plants_but G_plants_but (hr.mono (by decide)) T.b_plants_but .nil pass0 (pa_cons (pv 1) pa_nil)) rfl)), ?_⟩
    refine ⟨_, rfl, g, dx, _, rfl, G.ob, rfl, _, rfl, g, dx, c, h, p, N, _, ps, n, rfl, G, h12, fun H1 q hq hq0 s1 => ?_⟩
    refine ⟨_, rfl, g, A.C_Grid, dx, _, rfl, s1 _ _ G.ob, T.cl_Grid, T.n_Grid_plants, (by show 4 < 1000; decide), ?_⟩
    rw [gf_p]
    have kp : ∀ b o, b ≠ g → H b = some o → (upd H1 g (.ins A.C_Grid dx (gf c h q N.last))) b = some o := fun b o h1 e => by
      rw [upd_ne h1]
      exact s1 _ _ e
    have qg : q ≠ g := fun e => by rw [e, G.ob] at hq0; cases hq0
    have PA := (butOf_at n G.plants : PlantsAt A H (butOf n ps N.plants) _)
    refine k _ q ⟨⟨upd_same, kp _ _ (ne_of G.caps G.ob (by intro z; cases z)) G.caps, kp _ _ (ne_of G.hang G.ob (by intro z; cases z)) G.hang, by rw [upd_ne qg]; exact hq, PA.1, fun j a q' ha hq' => ?_⟩, hch, List.Sublist.nodup (butOf_sub n _ _) hnd⟩ hq0 kp
    have pa := PA.2 j a q' ha hq'
    obtain ⟨d, e⟩ := pa
    exact ⟨d, kp _ _ (plant_ne_grid (fs := (c, h, p, N.last)) ⟨d, e⟩ G.ob) e⟩
def withList (N : Net) (qs : List Plant) : Net := { N with plants := qs }
def sp_with (K : PySem.W.Frag) (A : Ad) : Sp := fun vs H Q _ => ∃ (g p2 : Addr) (N : Net) (ps2 : List Addr) (qs : List Plant), vs = [.ref g, .ref p2] ∧ GV A H g N ∧ SqL K H p2 (ps2.map V.ref) ∧ PlantsAt A H ps2 qs ∧ qs.length ≤ 13 ∧
  ∀ (H' : Hp) (g' : Addr), GV A H' g' (withList N qs) → Same H H' → Q (.ref g') H'
theorem ok_with_plants (T : Txt P w K mg A) : FnOk P w K mg base CX0 3 A.f_with_plants A.d_with_plants ["self", "plants"] (sp_with K A) := by
  have G_grid_init := ok_grid_init (base := base) T
  refine T.F_with_plants.ok sc_with_plants (fun vs H Q E h => ?_) (fun cdv Ar outer s H vs Q E hr h => ?_)
  · obtain ⟨g, p2, N, ps2, qs, rfl, _⟩ := h
    rfl
  · obtain ⟨g, p2, N, ps2, qs, rfl, ⟨dx, c, h, p, l, ps, G⟩, sq, PA, h13, k⟩ := h
    refine ⟨_, (pss_cons (ps_set (i := 2) sc_with_plants.nd rfl (Or.inl rfl) (pe_make0 T.mk_Grid G_grid_init (hr.mono (by decide)) rfl T.g_Grid T.b_grid_init .nil pass0))
      (pss_cons (ps_fld (pv 2) (pe_callTy cr_dictD (by rfl) T.n_dict bt_dict (pa_cons (pe_fld (pv 0) rfl) pa_nil)) rfl)
      (pss_cons (ps_fld (pv 2) (pe_callTy cr_dictD (by rfl) T.n_dict bt_dict (pa_cons (pe_fld (pv 0) rfl) pa_nil)) rfl)
      (pss_cons (ps_fld (pv 2) (pe_callTy call_list_of (by rfl) T.n_list bt_list (pa_cons (pv 1) pa_nil)) rfl)
      (pss_cons (ps_fld (pv 2) (pe_fld (pv 0) rfl) rfl)
      (pss_one (ps_ret (pv 2)))))))), ?_⟩
    intro x d hx hd hdx
    refine ⟨x, d, rfl, upd_same, fun H1 c1 h1 p1 G1 hc1 hh1 hp1 kp => ⟨rfl, ?_⟩⟩
    have s1 : Same H H1 := made_same hx hd kp
    have gx : g ≠ x := ne_of_none G.ob hx
    refine ⟨_, rfl, g, A.C_Grid, dx, _, _, rfl, s1 _ _ G.ob, T.cl_Grid, T.n_Grid_capacities, rfl, c, _, rfl, Rd.of (s1 _ _ G.caps), fun c2 hc2 => ?_⟩
    have xc2 : x ≠ c2 := fun e => by rw [← e, G1.gx.ob] at hc2; cases hc2
    have s2 : Same H (upd H1 c2 (.dK (capsK N))) := s1.on (s1.free hc2)
    refine ⟨_, rfl, x, A.C_Grid, d, _, rfl, (by rw [upd_ne xc2]; exact G1.gx.ob), T.cl_Grid, T.n_Grid_capacities, (by show 4 < 1000; decide), ?_⟩
    rw [gf_c]
    have s3 : Same H (upd (upd H1 c2 (.dK (capsK N))) x (.ins A.C_Grid d (gf c2 h1 p1 N0.last))) := s2.on hx
    have hcc : (upd (upd H1 c2 (.dK (capsK N))) x (.ins A.C_Grid d (gf c2 h1 p1 N0.last))) c2 = some (.dK (capsK N)) := by rw [upd_ne (fun q => xc2 q.symm), upd_same]
    generalize hH3 : upd (upd H1 c2 (.dK (capsK N))) x (.ins A.C_Grid d (gf c2 h1 p1 N0.last)) = H3 at s3 hcc
    have ob3 : H3 x = some (.ins A.C_Grid d (gf c2 h1 p1 N0.last)) := by rw [← hH3]; exact upd_same
    refine ⟨_, rfl, g, A.C_Grid, dx, _, _, rfl, s3 _ _ G.ob, T.cl_Grid, T.n_Grid_hangs_on, rfl, h, _, rfl, Rd.of (s3 _ _ G.hang), fun h2 hh2 => ?_⟩
    have xh2 : x ≠ h2 := fun e => by rw [← e, ob3] at hh2; cases hh2
    have ch2 : c2 ≠ h2 := ne_of_none hcc hh2
    have s4 : Same H (upd H3 h2 (.dK (hangK N))) := s3.on (s3.free hh2)
    refine ⟨_, rfl, x, A.C_Grid, d, _, rfl, (by rw [upd_ne xh2]; exact ob3), T.cl_Grid, T.n_Grid_hangs_on, (by show 4 < 1000; decide), ?_⟩
    rw [gf_h]
    have s5 : Same H (upd (upd H3 h2 (.dK (hangK N))) x (.ins A.C_Grid d (gf c2 h2 p1 N0.last))) := s4.on hx
    have hcc5 : (upd (upd H3 h2 (.dK (hangK N))) x (.ins A.C_Grid d (gf c2 h2 p1 N0.last))) c2 = some (.dK (capsK N)) := by rw [upd_ne (fun q => xc2 q.symm), upd_ne ch2]; exact hcc
    have hhh5 : (upd (upd H3 h2 (.dK (hangK N))) x (.ins A.C_Grid d (gf c2 h2 p1 N0.last))) h2 = some (.dK (hangK N)) := by rw [upd_ne (fun q => xh2 q.symm), upd_same]
    generalize hH5 : upd (upd H3 h2 (.dK (hangK N))) x (.ins A.C_Grid d (gf c2 h2 p1 N0.last)) = H5 at s5 hcc5 hhh5
    have ob5 : H5 x = some (.ins A.C_Grid d (gf c2 h2 p1 N0.last)) := by rw [← hH5]; exact upd_same
    refine ⟨_, rfl, p2, _, rfl, .inl (s5.seq sq), fun p3 hp3 => ?_⟩
    have xp3 : x ≠ p3 := fun e => by rw [← e, ob5] at hp3; cases hp3
    have s6 : Same H (upd H5 p3 (.lst (ps2.map V.ref))) := s5.on (s5.free hp3)
    refine ⟨_, rfl, x, A.C_Grid, d, _, rfl, (by rw [upd_ne xp3]; exact ob5), T.cl_Grid, T.n_Grid_plants, (by show 4 < 1000; decide), ?_⟩
    rw [gf_p]
    have s7 : Same H (upd (upd H5 p3 (.lst (ps2.map V.ref))) x (.ins A.C_Grid d (gf c2 h2 p3 N0.last))) := s6.on hx
    refine ⟨_, rfl, g, A.C_Grid, dx, _, _, rfl, s7 _ _ G.ob, T.cl_Grid, T.n_Grid_last_number, rfl, _, rfl, x, A.C_Grid, d, _, rfl, upd_same, T.cl_Grid, T.n_Grid_last_number, (by show 4 < 1000; decide), ?_⟩
    rw [gf_l, upd_upd]
    have s8 : Same H (upd (upd H5 p3 (.lst (ps2.map V.ref))) x (.ins A.C_Grid d (gf c2 h2 p3 l))) := s6.on hx
    refine ⟨_, rfl, k _ x ⟨d, c2, h2, p3, l, ps2, upd_same, ?_, ?_, ?_, PA.1, (PA.same s8).2⟩ s8⟩
    · rw [upd_ne (fun q => xc2 q.symm), upd_ne (ne_of_none hcc5 hp3)]
      exact hcc5
    · rw [upd_ne (fun q => xh2 q.symm), upd_ne (ne_of_none hhh5 hp3)]
      exact hhh5
    · rw [upd_ne (fun q => xp3 q.symm), upd_same]
end
end Pt
end
section
set_option Elab.async false
set_option linter.all false
set_option maxRecDepth 100000
set_option maxHeartbeats 1000000
namespace Pt
open PySem PySem.Spec PyProof.Rows L2
open Vbemay (Net Plant Feeder upOf capOf flow fits)
open Pd (Tree pushAll own pushAll_flow sumBy_take_succ path_lt)
section
variable {P : Program} {w : World} {K : PySem.W.Frag} {mg : Str → Option Value} {base : Heap} {A : Ad}
structure Good (N : Net) : Prop where
  tree : Tree N
  f12 : N.feeders.length ≤ 12
  p13 : N.plants.length ≤ 13
  nd : (N.plants.map (·.num)).Nodup
theorem Good.ord {N : Net} (W : Good N) : Ord N (N.plants.map (·.num)) (List.range N.plants.length) := by
  refine ⟨by simp, fun i j h => ?_, List.nodup_range, fun j hj => List.mem_range.mpr hj, W.nd⟩
  obtain ⟨h1, h2⟩ := List.getElem?_eq_some_iff.mp h
  rw [List.getElem_range] at h2
  subst h2
  rw [List.length_range] at h1
  exact ⟨N.plants[i], List.getElem?_eq_getElem h1, by rw [List.getElem?_map, List.getElem?_eq_getElem h1]; rfl⟩
def sp_age (A : Ad) : Sp := fun vs H Q _ => ∃ (g : Addr) (N : Net), vs = [.ref g] ∧ GV A H g N ∧ Good N ∧ ∀ (H' : Hp) (p : Addr), H' p = some (.lst (intsV (Vbemay.byAge N))) → H p = none → Same H H' → Q (.ref p) H'
theorem ok_shares_by_age (T : Txt P w K mg A) : FnOk P w K mg base CX0 3 A.f_shares_by_age A.d_shares_by_age ["grid"] (sp_age A) := by
  have G_shares_by_order := ok_shares_by_order (base := base) T
  have G_plant_numbers := ok_plant_numbers (base := base) T
  refine T.F_shares_by_age.ok sc_shares_by_age (fun vs H Q E h => ?_) (fun cdv Ar outer s H vs Q E hr h => ?_)
  · obtain ⟨g, N, rfl, _⟩ := h
    rfl
  · obtain ⟨g, N, rfl, GG, W, k⟩ := h
    obtain ⟨dx, c, h, p, l, ps, G⟩ := id GG
    refine ⟨_, (pss_one (ps_ret (pe_call G_shares_by_order (hr.mono (by decide)) rfl T.g_shares_by_order T.F_shares_by_order.kp T.b_shares_by_order .nil pass0 (pa_cons (pv 0) (pa_cons (pe_meth0 (pv 0) T.cl_Grid T.m_plant_numbers G_plant_numbers (hr.mono (by decide)) T.b_plant_numbers .nil pass0) pa_nil))))), ?_⟩
    refine ⟨_, rfl, _, rfl, g, dx, _, rfl, G.ob, rfl, g, N, rfl, GG, W.p13, fun H1 pn hpn hpnn s1 => ?_⟩
    exact ⟨g, pn, N, _, _, rfl, GG.same s1, W.tree, W.f12, W.p13, W.ord, by rw [List.length_map]; exact W.p13, SqL.of hpn, fun H2 q hq hq0 s2 => k H2 q hq (s1.free hq0) (s1.trans s2)⟩
def sp_total (A : Ad) : Sp := fun vs H Q _ => ∃ (g : Addr) (N : Net), vs = [.ref g] ∧ GV A H g N ∧ Good N ∧ ∀ (H' : Hp), Same H H' → Q (.int (Vbemay.total N)) H'
theorem ok_total_of (T : Txt P w K mg A) : FnOk P w K mg base CX0 4 A.f_total_of A.d_total_of ["grid"] (sp_total A) := by
  have G_shares_by_age := ok_shares_by_age (base := base) T
  refine T.F_total_of.ok sc_total_of (fun vs H Q E h => ?_) (fun cdv Ar outer s H vs Q E hr h => ?_)
  · obtain ⟨g, N, rfl, _⟩ := h
    rfl
  · obtain ⟨g, N, rfl, GG, W, k⟩ := h
    refine ⟨_, (pss_one (ps_ret (pe_callB (cr_sum rfl) (by rfl) T.n_sum bt_sum (pa_cons (pe_call G_shares_by_age (hr.mono (by decide)) rfl T.g_shares_by_age T.F_shares_by_age.kp T.b_shares_by_age .nil pass0 (pa_cons (pv 0) pa_nil)) pa_nil)))), ?_⟩
    refine ⟨_, rfl, g, N, rfl, GG, W, fun H1 p hp hp0 s1 => ?_⟩
    exact ⟨p, Vbemay.byAge N, rfl, SqL.of hp, k H1 s1⟩
def intK (n : Nat) (f : Nat → Int) : List (Key × V) := tabK n fun v => V.int (f v)
theorem intK_get {H : Hp} {d : Addr} {n : Nat} {f : Nat → Int} (h : H d = some (.dK (intK n f))) {v : Nat} (hv : v < n) : DGet H d (V.int ((v : Int) + 1)) (some (V.int (f v))) := by
  have := DGet.k (k := (Sum.inl ((v : Int) + 1) : Key)) h
  unfold intK at this
  rw [valV_at _ hv] at this
  exact this
theorem intK_put {n : Nat} {f : Nat → Int} {v : Nat} (hv : v < n) (x : Int) : putK (intK n f) (Sum.inl ((v : Int) + 1) : Key) (.int x) = intK n (fun u => if u = v then x else f u) := by
  unfold intK
  rw [putK_at _ hv]
  refine tabK_congr fun u _ => ?_
  dsimp only
  split <;> rfl
theorem intK_congr {n : Nat} {f f' : Nat → Int} (h : ∀ v, v < n → f v = f' v) : intK n f = intK n f' := tabK_congr fun v hv => by rw [h v hv]
theorem intK_next {n : Nat} {f : Nat → Int} (x : Int) : putK (intK n f) (Sum.inl ((n : Int) + 1) : Key) (.int x) = intK (n + 1) (fun u => if u = n then x else f u) := by
  unfold intK
  rw [putK_next]
  refine tabK_congr fun u _ => ?_
  dsimp only
  split <;> rfl
theorem intK_len (n : Nat) (f : Nat → Int) : (intK n f).length = n := tabK_len _ _
theorem range_at {n i : Nat} {x : Nat} (h : (List.range n)[i]? = some x) : x = i ∧ i < n := by
  obtain ⟨h1, h2⟩ := List.getElem?_eq_some_iff.mp h
  rw [List.getElem_range] at h2
  rw [List.length_range] at h1
  exact ⟨h2.symm, h1⟩
theorem hang_get {H : Hp} {h : Addr} {N : Net} (e : H h = some (.dK (hangK N))) {v : Nat} (hv : v < N.feeders.length) : DGet H h (V.int ((v : Int) + 1)) (some (V.int ((upOf N v : Int) + 1))) := by
  have := DGet.k (k := (Sum.inl ((v : Int) + 1) : Key)) e
  unfold hangK at this
  rw [valV_at _ hv] at this
  exact this
theorem caps_get {H : Hp} {c : Addr} {N : Net} (e : Rd H c (.dK (capsK N))) {v : Nat} (hv : v < N.feeders.length) : DGet H c (V.int ((v : Int) + 1)) (some (V.int (capOf N v))) :=
  .inl ⟨capsK N, Sum.inl ((v : Int) + 1), e, rfl, by unfold capsK; rw [valV_at _ hv]⟩
def sp_flows (K : PySem.W.Frag) (A : Ad) : Sp := fun vs H Q _ => ∃ (g a : Addr) (N : Net) (xs : List Int), vs = [.ref g, .ref a] ∧ GV A H g N ∧ Tree N ∧ N.feeders.length ≤ 12 ∧ N.plants.length ≤ 13 ∧ SqL K H a (intsV xs) ∧ xs.length = N.plants.length ∧
  ∀ (H' : Hp) (d : Addr), H' d = some (.dK (intK N.feeders.length (flow N xs))) → H d = none → Same H H' → Q (.ref d) H'
theorem But.same {H0 H H' : Hp} {d : Addr} (s : Same H0 H) (b : But d H H') (hd : H0 d = none) : Same H0 H' := fun x o e => b x o (ne_of_none e hd) (s x o e)
theorem ok_flows_of (T : Txt P w K mg A) : FnOk P w K mg base CX0 2 A.f_flows_of A.d_flows_of ["grid", "shares"] (sp_flows K A) := by
  have G_feeder_numbers := ok_feeder_numbers (base := base) T
  have G_feeders_below_first := ok_feeders_below_first (base := base) T
  refine T.F_flows_of.ok sc_flows_of (fun vs H Q E h => ?_) (fun cdv Ar outer s H vs Q E hr h => ?_)
  · obtain ⟨g, a, N, xs, rfl, _⟩ := h
    rfl
  · obtain ⟨g, a, N, xs, rfl, GG, Tr, h12, h13, sq, hxl, k⟩ := h
    obtain ⟨dx, c, h, p, l, ps, G⟩ := id GG
    have hu := hu_of hr
    refine ⟨_, (pss_cons (ps_set (i := 2) sc_flows_of.nd rfl (Or.inl rfl) pe_dnewK)
      (pss_cons (ps_for PassesOwn.never rfl (pi_list (pe_meth0 (pv 0) T.cl_Grid T.m_feeder_numbers G_feeder_numbers (hr.mono (by decide)) T.b_feeder_numbers .nil pass0)) (pg_name (i := 3) sc_flows_of.nd rfl (Or.inl rfl)) (pss_one (ps_dput hu (pv 2) (pv 3) pe_int rfl)))
      (pss_cons (ps_for PassesOwn.never rfl (pi_zipS rfl T.n_zip (pa_cons (pe_fld (pv 0) rfl) (pa_cons (pv 1) pa_nil))) (pg_tup rfl (pgs_cons (pg_name (i := 4) sc_flows_of.nd rfl (Or.inl rfl)) (pgs_cons (pg_name (i := 5) sc_flows_of.nd rfl (Or.inl rfl)) pgs_nil))) (pss_one (ps_daug hu (pv 2) (pe_fld (pv 4) rfl) (pv 5) in_add (fun _ _ _ => rfl))))
      (pss_cons (ps_for PassesOwn.never rfl (pi_list (pe_meth0 (pv 0) T.cl_Grid T.m_feeders_below_first G_feeders_below_first (hr.mono (by decide)) T.b_feeders_below_first .nil pass0)) (pg_name (i := 3) sc_flows_of.nd rfl (Or.inl rfl)) (pss_one (ps_daug hu (pv 2) (pe_dget hu (pe_fld (pv 0) rfl) (pv 3) (fun _ _ => rfl)) (pe_dget hu (pv 2) (pv 3) (fun _ _ => rfl)) in_add (fun _ _ _ => rfl))))
      (pss_one (ps_ret (pv 2))))))), ?_⟩
    intro d hd
    have s0 : Same H (upd H d (.dK [])) := Same.new hd
    refine ⟨_, rfl, g, dx, _, rfl, s0 _ _ G.ob, rfl, g, N, rfl, GG.same s0, h12, fun H1 pn hpn hpn0 s1 => ?_⟩
    have hd1 : H1 d = some (.dK []) := s1 _ _ upd_same
    have npd : pn ≠ d := fun e => by rw [e, hd1] at hpn; cases hpn
    have sH1 : Same H H1 := s0.trans s1
    refine ⟨pn, rfl, ⟨_, SqL.of hpn⟩, for_list (K := K) (a := pn) (xs := feedV (List.range N.feeders.length)) (fun i σ' H' => ∃ v3 : Option V, σ' = [some (.ref g), some (.ref a), some (.ref d), v3, none, none] ∧ H' d = some (.dK (intK i fun _ => 0)) ∧ But d H1 H')
      ⟨none, rfl, hd1, fun b o _ e => e⟩ (fun i σ' H' _ ⟨_, _, _, kp⟩ => SqL.of (kp _ _ npd hpn)) ?_ ?_⟩
    · rintro i x σ' H' hx ⟨v3, rfl, hd2, kp⟩
      obtain ⟨v, hv, rfl⟩ := map_some hx
      obtain ⟨rfl, hvl⟩ := range_at hv
      refine ⟨_, rfl, _, rfl, d, _, rfl, DPut.k (k := (Sum.inl ((v : Int) + 1) : Key)) hd2 (by rw [intK_len, sizeLine_eq]; omega), _, rfl, ?_, fun b o hb e => by rw [upd_ne hb]; exact kp b o hb e⟩
      rw [upd_same, intK_next]
      congr 2
      refine intK_congr fun u _ => ?_
      split <;> rfl
    rintro σ' H2 ⟨v3, rfl, hd2, kp2⟩
    have el : (feedV (List.range N.feeders.length)).length = N.feeders.length := by unfold feedV; rw [List.length_map, List.length_range]
    rw [el] at hd2
    have sH2 : Same H H2 := But.same sH1 kp2 hd
    refine ⟨_, rfl, g, A.C_Grid, dx, _, _, rfl, sH2 _ _ G.ob, T.cl_Grid, T.n_Grid_plants, rfl, _, rfl, p, a, _, _, rfl, SqL.of (sH2 _ _ G.lst), sH2.seq sq,
      for_zipS H (fun i σ' H' => ∃ (v4 v5 : Option V), σ' = [some (.ref g), some (.ref a), some (.ref d), v3, v4, v5] ∧ H' d = some (.dK (intK N.feeders.length (own (N.plants.take i) (xs.take i)))) ∧ Same H H') (SqL.of G.lst) sq
      (by unfold intsV; rw [List.length_map, List.length_map, G.len, hxl]) ⟨none, none, rfl, ?_, sH2⟩ (fun i σ' H' ⟨_, _, _, _, sm⟩ => sm) ?_ ?_⟩
    · rw [hd2]
      congr 2
    · rintro i x y σ' H' t hx hy ⟨v4, v5, rfl, hd3, sm⟩ ht
      obtain ⟨a', ha', rfl⟩ := map_some hx
      obtain ⟨z, hz, rfl⟩ := map_some hy
      have hil : i < N.plants.length := by rw [← G.len]; exact (List.getElem?_eq_some_iff.mp ha').1
      have hq : N.plants[i]? = some N.plants[i] := List.getElem?_eq_getElem hil
      generalize N.plants[i] = q at hq
      obtain ⟨da, hpl⟩ := G.at_ i a' q ha' hq
      have hat : q.at_ < N.feeders.length := Tr.at_ q (List.mem_of_getElem? hq)
      have st : Same H' (upd H' t (.tup [V.ref a', V.int z])) := Same.new ht
      refine ⟨t, _, rfl, .inl (Rd.of upd_same), rfl, _, _, rfl, _, _, rfl, rfl, ?_⟩
      refine ⟨_, rfl, _, rfl, a', A.C_Plant, da, _, _, rfl, st _ _ (sm _ _ hpl), T.cl_Plant, T.n_Plant_feeder, rfl, d, _, rfl, intK_get (st _ _ hd3) hat, _, rfl, _, _, rfl, rfl, _, DPut.k (k := (Sum.inl ((q.at_ : Int) + 1) : Key)) (st _ _ hd3) (by rw [intK_len, sizeLine_eq]; omega), ?_⟩
      refine ⟨_, _, rfl, ?_, fun b o e => ?_⟩
      · rw [upd_same, intK_put hat]
        congr 2
        refine intK_congr fun v _ => ?_
        unfold own
        rw [sumBy_take_succ _ hq hz]
        by_cases e : v = q.at_
        · rw [if_pos e, if_pos (by simp [e]), e]
        · rw [if_neg e, if_neg (by simp; exact fun z => e z.symm), Int.add_zero]
      · rw [upd_ne (ne_of_none e hd)]
        exact st _ _ (sm _ _ e)
    rintro σ' H3 ⟨v4, v5, rfl, hd3, sH3⟩
    have elp : (ps.map V.ref).length = N.plants.length := by rw [List.length_map, G.len]
    rw [elp, List.take_length, ← hxl, List.take_length] at hd3
    refine ⟨_, rfl, g, dx, _, rfl, sH3 _ _ G.ob, rfl, g, N, rfl, GG.same sH3, h12, fun H4 pb hpb hpb0 s4 => ?_⟩
    have hd4 := s4 _ _ hd3
    have npb : pb ≠ d := fun e => by rw [e, hd4] at hpb; cases hpb
    have sH4 : Same H H4 := sH3.trans s4
    refine ⟨pb, rfl, ⟨_, SqL.of hpb⟩, for_list (K := K) (a := pb) (xs := feedV (downs N.feeders.length)) (fun i σ' H' => ∃ (v3 : Option V) (f : Nat → Int), σ' = [some (.ref g), some (.ref a), some (.ref d), v3, v4, v5] ∧ H' d = some (.dK (intK N.feeders.length f)) ∧ (∀ v, pushAll N (N.feeders.length - 1 - i) f v = flow N xs v) ∧ But d H4 H')
      ⟨_, _, rfl, hd4, fun v => pushAll_flow Tr hxl v, fun b o _ e => e⟩ (fun i σ' H' _ ⟨_, _, _, _, _, kp⟩ => SqL.of (kp _ _ npb hpb)) ?_ ?_⟩
    · rintro i x σ' H' hx ⟨v3', f, rfl, hd5, hf, kp⟩
      obtain ⟨v, hv, rfl⟩ := map_some hx
      obtain ⟨i', hi', rfl⟩ := map_some hv
      obtain ⟨rfl, hil⟩ := range_at hi'
      have hvl : N.feeders.length - 1 - i' < N.feeders.length := by have := Tr.pos; omega
      have hul := Tr.up (N.feeders.length - 1 - i') (by omega) hvl
      have sm : Same H H' := But.same sH4 kp hd
      refine ⟨_, rfl, _, rfl, g, A.C_Grid, dx, _, _, rfl, sm _ _ G.ob, T.cl_Grid, T.n_Grid_hangs_on, rfl, _, rfl, h, _, rfl, hang_get (sm _ _ G.hang) hvl, d, _, rfl, intK_get hd5 (by omega), _, rfl, _, rfl, d, _, rfl, intK_get hd5 hvl, _, _, rfl, rfl, _,
        DPut.k (k := (Sum.inl ((upOf N (N.feeders.length - 1 - i') : Int) + 1) : Key)) hd5 (by rw [intK_len, sizeLine_eq]; omega), ?_⟩
      refine ⟨_, fun v => f v + if v = upOf N (N.feeders.length - 1 - i') then f (N.feeders.length - 1 - i') else 0, rfl, ?_, fun v => ?_, fun b o hb e => by rw [upd_ne hb]; exact kp b o hb e⟩
      · rw [upd_same, intK_put (by omega)]
        congr 2
        refine intK_congr fun u _ => ?_
        by_cases e : u = upOf N (N.feeders.length - 1 - i')
        · rw [if_pos e, if_pos e, e]
        · rw [if_neg e, if_neg e, Int.add_zero]
      · have := hf v
        obtain ⟨m, hm⟩ : ∃ m, N.feeders.length - 1 - i' = m + 1 := ⟨N.feeders.length - 1 - i' - 1, by omega⟩
        rw [hm] at this
        have e2 : N.feeders.length - 1 - (i' + 1) = m := by omega
        rw [e2, ← this, hm]
        rfl
    · rintro σ' H5 ⟨v3', f, rfl, hd5, hf, kp⟩
      refine ⟨_, rfl, ?_⟩
      have el2 : (feedV (downs N.feeders.length)).length = N.feeders.length - 1 := by unfold feedV downs; rw [List.length_map, List.length_map, List.length_range]
      rw [el2, Nat.sub_self] at hf
      refine k H5 d ?_ hd (But.same sH4 kp hd)
      rw [hd5]
      congr 2
      exact intK_congr fun v _ => hf v
def sp_fit (K : PySem.W.Frag) (A : Ad) : Sp := fun vs H Q _ => ∃ (g a : Addr) (N : Net) (xs : List Int), vs = [.ref g, .ref a] ∧ GV A H g N ∧ Tree N ∧ N.feeders.length ≤ 12 ∧ N.plants.length ≤ 13 ∧ SqL K H a (intsV xs) ∧ xs.length = N.plants.length ∧
  ∀ (H' : Hp), Same H H' → Q (.bl (fits N xs)) H'
theorem ok_shares_fit (T : Txt P w K mg A) : FnOk P w K mg base CX0 3 A.f_shares_fit A.d_shares_fit ["grid", "shares"] (sp_fit K A) := by
  have G_flows_of := ok_flows_of (base := base) T
  refine T.F_shares_fit.ok sc_shares_fit (fun vs H Q E h => ?_) (fun cdv Ar outer s H vs Q E hr h => ?_)
  · obtain ⟨g, a, N, xs, rfl, _⟩ := h
    rfl
  · obtain ⟨g, a, N, xs, rfl, GG, Tr, h12, h13, sq, hxl, k⟩ := h
    obtain ⟨dx, c, h, p, l, ps, G⟩ := id GG
    have hu := hu_of hr
    refine ⟨_, (pss_cons (ps_for PassesOwn.never rfl (pi_zipS rfl T.n_zip (pa_cons (pe_fld (pv 0) rfl) (pa_cons (pv 1) pa_nil))) (pg_tup rfl (pgs_cons (pg_name (i := 2) sc_shares_fit.nd rfl (Or.inl rfl)) (pgs_cons (pg_name (i := 3) sc_shares_fit.nd rfl (Or.inl rfl)) pgs_nil))) (pss_one (ps_if (pw_or (pt_cmpR op_lt (pv 3) pe_int (nomark _)) (pw_or1 (pt_cmpR op_gt (pv 3) (pe_fld (pv 2) rfl) (nomark _)))).pt (pss_one (ps_ret pe_bl)) pss_nil)))
      (pss_cons (ps_set (i := 4) sc_shares_fit.nd rfl (Or.inr rfl) (pe_call G_flows_of (hr.mono (by decide)) rfl T.g_flows_of T.F_flows_of.kp T.b_flows_of .nil pass0 (pa_cons (pv 0) (pa_cons (pv 1) pa_nil))))
      (pss_one (ps_ret (pe_callB (cr_all rfl) (by rfl) T.n_all bt_all (pa_cons (pe_lock (pe_lc (own := [("feeder", 5)]) (te := tOp (rI0 fun i j => .bl (decide (i ≤ j))) (tDGet (tVar 4) (tVar 5)) (tDGet (tFld K (tVar 0) "capacities") (tVar 5))) rfl sc_shares_fit.nd (pi_keys (pe_fld (pv 0) rfl)) (blk_mk rfl) (fun _ _ _ _ _ => (pg_name (i := 5) sc_shares_fit.nd rfl (Or.inl rfl))) (fun _ _ _ _ _ => pts_nil) (fun _ _ _ _ _ => (pe_cmpR op_le (pe_dget hu (pv 4) (pv 5) (fun _ _ => rfl)) (pe_dget hu (pe_fld (pv 0) rfl) (pv 5) (fun _ _ => rfl)) (nomark _))))) pa_nil)))))), ?_⟩
    refine ⟨_, rfl, g, A.C_Grid, dx, _, _, rfl, G.ob, T.cl_Grid, T.n_Grid_plants, rfl, _, rfl, p, a, _, _, rfl, SqL.of G.lst, sq,
      for_zipS H (fun i σ' H' => ∃ (v2 v3 : Option V), σ' = [some (.ref g), some (.ref a), v2, v3, none, none] ∧ (∀ (j : Nat) q x, j < i → N.plants[j]? = some q → xs[j]? = some x → 0 ≤ x ∧ x ≤ q.want) ∧ Same H H') (SqL.of G.lst) sq
      (by unfold intsV; rw [List.length_map, List.length_map, G.len, hxl]) ⟨none, none, rfl, fun j q x hj => absurd hj (Nat.not_lt_zero _), Same.refl H⟩ (fun i σ' H' ⟨_, _, _, _, sm⟩ => sm) ?_ ?_⟩
    · rintro i x y σ' H' t hx hy ⟨v2, v3, rfl, hok, sm⟩ ht
      obtain ⟨a', ha', rfl⟩ := map_some hx
      obtain ⟨z, hz, rfl⟩ := map_some hy
      have hil : i < N.plants.length := by rw [← G.len]; exact (List.getElem?_eq_some_iff.mp ha').1
      have hq : N.plants[i]? = some N.plants[i] := List.getElem?_eq_getElem hil
      generalize N.plants[i] = q at hq
      obtain ⟨da, hpl⟩ := G.at_ i a' q ha' hq
      have st : Same H' (upd H' t (.tup [V.ref a', V.int z])) := Same.new ht
      refine ⟨t, _, rfl, .inl (Rd.of upd_same), rfl, _, _, rfl, _, _, rfl, rfl, ?_⟩
      have bad : ¬ (0 ≤ z ∧ z ≤ q.want) → fits N xs = false := fun hb => by
        cases e : fits N xs with
        | false => rfl
        | true => exact absurd ((Pd.fits_iff.mp e).each i q z hq hz) hb
      refine ⟨_, rfl, _, _, rfl, rfl, _, rfl, ?_⟩
      by_cases h1 : z < 0
      · rw [decide_eq_true h1]
        refine iteT (iteT ?_)
        have := k _ (sm.trans st)
        rw [bad (by omega)] at this
        exact this
      · rw [decide_eq_false h1]
        refine iteF ⟨_, rfl, _, rfl, a', A.C_Plant, da, _, _, rfl, st _ _ (sm _ _ hpl), T.cl_Plant, T.n_Plant_want, rfl, _, _, rfl, rfl, _, rfl, ?_⟩
        by_cases h2 : q.want < z
        · rw [decide_eq_true h2]
          refine iteT ?_
          have := k _ (sm.trans st)
          rw [bad (by omega)] at this
          exact this
        · rw [decide_eq_false h2]
          refine iteF ⟨_, _, rfl, fun j q' x' hj hq' hx' => ?_, sm.trans st⟩
          by_cases e : j = i
          · subst e
            have e1 : q = q' := Option.some.inj (hq.symm.trans hq')
            have e2 : z = x' := Option.some.inj (hz.symm.trans hx')
            subst e1 e2
            omega
          · exact hok j q' x' (by omega) hq' hx'
    rintro σ' H1 ⟨v2, v3, rfl, hok, s1⟩
    have elp : (ps.map V.ref).length = N.plants.length := by rw [List.length_map, G.len]
    rw [elp] at hok
    refine ⟨_, rfl, _, rfl, g, a, N, xs, rfl, GG.same s1, Tr, h12, h13, s1.seq sq, hxl, fun H2 d hd hd0 s2 => ?_⟩
    have s12 : Same H H2 := s1.trans s2
    have hcaps2 : H2 c = some (.dK (capsK N)) := s12 _ _ G.caps
    have gc : g ≠ c := ne_of G.ob G.caps (by intro z; cases z)
    have dc : d ≠ c := fun e => by
      have q1 := s1 _ _ G.caps
      rw [← e] at q1
      rw [hd0] at q1
      cases q1
    refine ⟨c, _, hcaps2, trivial, fun od => ?_⟩
    have obf : (upd H2 c (.frz od (.dK (capsK N)))) g = some (.ins A.C_Grid dx (gf c h p l)) := by rw [upd_ne gc]; exact s12 _ _ G.ob
    have hdf : (upd H2 c (.frz od (.dK (capsK N)))) d = some (.dK (intK N.feeders.length (flow N xs))) := by rw [upd_ne dc]; exact hd
    refine ⟨_, rfl, g, A.C_Grid, dx, _, _, rfl, obf, T.cl_Grid, T.n_Grid_capacities, rfl, c, od, rfl, .inl ⟨_, upd_same, fun D hD =>
      lc_map (ys := ((List.range N.feeders.length).map fun v => decide (flow N xs v ≤ capOf N v)).map V.bl) hD (goes_keys upd_same) ?_ ?_ ?_ (fun H' hDD sD => ?_) gName_mono⟩⟩
    · unfold capsK
      rw [List.length_map, List.length_map, List.length_map, tabK_len, List.length_range]
    · unfold capsK
      rw [List.length_map, tabK_len, sizeLine_eq]
      omega
    · intro i x y H' hx hy sm Y hY
      obtain ⟨kv, hkv, rfl⟩ := map_some hx
      obtain ⟨b, hb, rfl⟩ := map_some hy
      obtain ⟨v, hv, rfl⟩ := map_some hb
      obtain ⟨rfl, hvl⟩ := range_at hv
      unfold capsK at hkv
      rw [tabK_get _ _ hvl] at hkv
      have ekv := Option.some.inj hkv
      subst ekv
      refine ⟨rfl, _, rfl, _, rfl, d, _, rfl, intK_get (sm _ _ hdf) hvl, _, rfl, g, A.C_Grid, dx, _, _, rfl, sm _ _ obf, T.cl_Grid, T.n_Grid_capacities, rfl, _, rfl, c, _, rfl, caps_get (.inr ⟨od, sm _ _ upd_same⟩) hvl, _, _, rfl, rfl, hY H' (Same.refl _)⟩
    · refine ⟨sD _ _ upd_same, D, _, rfl, SqL.of (by
        have : D ≠ c := fun e => by rw [e, upd_same] at hD; cases hD
        rw [upd_ne this]
        exact hDD), ?_⟩
      have e1 : (((List.range N.feeders.length).map fun v => decide (flow N xs v ≤ capOf N v)).all id) = fits N xs := by
        rw [List.all_map]
        unfold fits
        have e2 : (xs.length == N.plants.length) = true := by simp [hxl]
        have e3 : ((N.plants.zip xs).all fun y => decide (0 ≤ y.2) && decide (y.2 ≤ y.1.want)) = true := by
          refine (Pd.zip_all (fun p x => decide (0 ≤ x) && decide (x ≤ p.want)) N.plants xs hxl).mpr fun i q x hq hx => ?_
          have := hok i q x (List.getElem?_eq_some_iff.mp hq).1 hq hx
          simpa using this
        rw [e2, e3]
        rfl
      rw [e1]
      refine k _ fun b o e => ?_
      by_cases hb : b = c
      · subst hb
        rw [upd_same, ← e, G.caps]
      · rw [upd_ne hb]
        exact sD _ _ (by rw [upd_ne hb]; exact s12 _ _ e)
end
end Pt
end
section
set_option Elab.async false
set_option linter.all false
set_option maxRecDepth 100000
set_option maxHeartbeats 1000000
namespace Pd
open Vbemay
def wantAt (N : Net) (i : Nat) : Int := ((N.plants[i]?).map fun p => p.want).getD 0
def raiseBy (N : Net) (m : Int) (rs : List Nat) (xs : List Int) : List Int := rs.foldl (fun ys i => ys.set i (min m (wantAt N i))) xs
theorem wantAt_eq {N : Net} {i : Nat} {p : Plant} (h : N.plants[i]? = some p) : wantAt N i = p.want := by
  unfold wantAt
  rw [h]
  rfl
theorem sets_at (f : Nat → Int) : ∀ (rs : List Nat) (xs : List Int) (i : Nat), (rs.foldl (fun ys i => ys.set i (f i)) xs)[i]? = if i ∈ rs then (xs[i]?).map (fun _ => f i) else xs[i]?
  | [], xs, i => by rw [if_neg (by simp)]; rfl
  | j :: r, xs, i => by
    rw [List.foldl_cons, sets_at f r]
    by_cases e : j = i
    · subst e
      rw [if_pos (by simp : j ∈ j :: r)]
      have e1 : (xs.set j (f j))[j]? = (xs[j]?).map fun _ => f j := by
        by_cases hj : j < xs.length
        · rw [List.getElem?_set_self hj, List.getElem?_eq_getElem hj]
          rfl
        · rw [List.getElem?_eq_none (by rw [List.length_set]; omega), List.getElem?_eq_none (by omega)]
          rfl
      split
      · rw [e1]
        cases xs[j]? <;> rfl
      · exact e1
    · rw [List.getElem?_set_ne e]
      have : (i ∈ j :: r) ↔ i ∈ r := ⟨fun h => (List.mem_cons.mp h).elim (fun q => absurd q.symm e) id, List.mem_cons_of_mem _⟩
      simp only [this]
theorem sets_len (f : Nat → Int) : ∀ (rs : List Nat) (xs : List Int), (rs.foldl (fun ys i => ys.set i (f i)) xs).length = xs.length
  | [], xs => rfl
  | j :: r, xs => by rw [List.foldl_cons, sets_len f r, List.length_set]
theorem raise_eq {N : Net} {free : List Bool} {xs : List Int} {t m : Int} (E : Ev N free xs t) (hm : t ≤ m) : raiseBy N m (rise free) xs = raisedTo N free xs m := by
  refine List.ext_getElem? fun i => ?_
  unfold raiseBy
  by_cases hi : i < N.plants.length
  · obtain ⟨p, b, x, hp, hb, hx⟩ := E.got hi
    rw [E.rat hm hp hb hx, sets_at, hx, wantAt_eq hp]
    cases b with
    | true =>
      rw [if_pos (rise_mem.mpr hb), if_pos rfl]
      show some (min m p.want) = some (min p.want m)
      rw [Int.min_comm]
    | false => rw [if_neg (fun q => by have := rise_mem.mp q; rw [hb] at this; cases this), if_neg Bool.false_ne_true]
  · rw [List.getElem?_eq_none (by rw [sets_len, E.fit.len]; omega), List.getElem?_eq_none (by rw [E.rlen]; omega)]
end Pd
namespace Pt
open PySem PySem.Spec PyProof.Rows L2
open Vbemay (Net Plant Feeder upOf capOf flow fits raisedTo)
open Pd (Tree WF Ev Rounds Srch Best rise rise_mem rise_nodup tryOne tries tryOne_fits raiseBy raise_eq wantAt wantAt_eq)
section
variable {P : Program} {w : World} {K : PySem.W.Frag} {mg : Str → Option Value} {base : Heap} {A : Ad}
theorem _root_.Pd.WF.good {N : Net} (W : WF N) : Good N := ⟨W.tree, W.most, by have := W.pmost; omega, W.nd⟩
theorem ixN_nat {n j : Nat} (h : j < n) : ixN n (j : Int) = some j := by
  unfold ixN
  rw [if_pos (by omega), if_pos (by omega)]
  rfl
theorem lst_at {α : Type} {f : α → V} {l : List α} {j : Nat} {x : α} (h : l[j]? = some x) : atI (l.map f) (j : Int) = some (f x) := atI_nat (by rw [List.getElem?_map, h]; rfl)
theorem ints_set (xs : List Int) (j : Nat) (y : Int) : (intsV xs).set j (.int y) = intsV (xs.set j y) := by
  unfold intsV
  rw [List.map_set]
def sp_raised (K : PySem.W.Frag) (A : Ad) : Sp := fun vs H Q _ => ∃ (g a r : Addr) (N : Net) (xs : List Int) (rs : List Nat) (m : Int), vs = [.ref g, .ref a, .ref r, .int m] ∧ GV A H g N ∧ SqL K H a (intsV xs) ∧ SqL K H r (natsV rs) ∧ xs.length = N.plants.length ∧ N.plants.length ≤ 13 ∧ (∀ i ∈ rs, i < N.plants.length) ∧
  ∀ (H' : Hp) (p : Addr), H' p = some (.lst (intsV (raiseBy N m rs xs))) → H p = none → Same H H' → Q (.ref p) H'
theorem ok_raised_to (T : Txt P w K mg A) : FnOk P w K mg base CX0 1 A.f_raised_to A.d_raised_to ["grid", "shares", "rising", "level"] (sp_raised K A) := by
  refine T.F_raised_to.ok sc_raised_to (fun vs H Q E h => ?_) (fun cdv Ar outer s H vs Q E hr h => ?_)
  · obtain ⟨g, a, r, N, xs, rs, m, rfl, _⟩ := h
    rfl
  · obtain ⟨g, a, r, N, xs, rs, m, rfl, ⟨dx, c, h, p, l, ps, G⟩, sqa, sqr, hxl, h13, hrs, k⟩ := h
    refine ⟨_, (pss_cons (ps_set (i := 4) sc_raised_to.nd rfl (Or.inl rfl) (pe_callTy call_list_of (by rfl) T.n_list bt_list (pa_cons (pv 1) pa_nil)))
      (pss_cons (ps_for PassesOwn.never rfl (pi_list (pv 2)) (pg_name (i := 5) sc_raised_to.nd rfl (Or.inl rfl)) (pss_one (ps_asg (pe_callB (call_min2 rfl) (by rfl) T.n_min bt_min (pa_cons (pv 3) (pa_cons (pe_fld (pe_ix ix_list (pe_fld (pv 0) rfl) (pv 5) (fun _ _ => rfl)) rfl) pa_nil))) (pg_sub (pv 4) (pv 5) set_list))))
      (pss_one (ps_ret (pv 4))))), ?_⟩
    refine ⟨_, rfl, a, _, rfl, .inl sqa, fun q hq0 => ?_⟩
    have s0 : Same H (upd H q (.lst (intsV xs))) := Same.new hq0
    refine ⟨_, rfl, r, rfl, ⟨_, s0.seq sqr⟩, for_by H (fun i σ' H' => ∃ v5 : Option V, σ' = [some (.ref g), some (.ref a), some (.ref r), some (.int m), some (.ref q), v5] ∧ H' q = some (.lst (intsV (raiseBy N m (rs.take i) xs))) ∧ Same H H') (goes_list sqr)
      ⟨none, rfl, upd_same, s0⟩ (fun i σ' H' ⟨_, _, _, sm⟩ => sm) ?_ ?_⟩
    · rintro i x σ' H' hx ⟨v5, rfl, hq, sm⟩
      obtain ⟨j, hj, rfl⟩ := map_some hx
      have hjl := hrs j (List.mem_of_getElem? hj)
      obtain ⟨a', q', ha', hq', da, hpl⟩ := G.nth hjl
      refine ⟨_, rfl, _, rfl, g, A.C_Grid, dx, _, _, rfl, sm _ _ G.ob, T.cl_Grid, T.n_Grid_plants, rfl, _, rfl, p, _, _, _, rfl, rfl, SqL.of (sm _ _ G.lst), lst_at ha', a', A.C_Plant, da, _, _, rfl, sm _ _ hpl, T.cl_Plant, T.n_Plant_want, rfl, _, _, rfl,
        _, rfl, _, rfl, q, _, _, j, rfl, rfl, hq, ixN_nat (by unfold intsV raiseBy; rw [List.length_map, Pd.sets_len, hxl]; exact hjl), ?_⟩
      refine ⟨_, rfl, ?_, sm.on hq0⟩
      rw [upd_same, take_succ hj, ints_set]
      unfold raiseBy
      rw [List.foldl_append]
      congr 4
      show _ = min m (wantAt N j)
      rw [wantAt_eq hq', Int.min_def]
      split <;> split <;> omega
    · rintro σ' H' ⟨v5, rfl, hq, sm⟩
      have el : (natsV rs).length = rs.length := List.length_map _
      rw [el, List.take_length] at hq
      exact ⟨_, rfl, k H' q hq hq0 sm⟩
def sp_level (K : PySem.W.Frag) (A : Ad) : Sp := fun vs H Q _ => ∃ (g a r : Addr) (N : Net) (free : List Bool) (xs : List Int) (t : Int), vs = [.ref g, .ref a, .ref r, .int t] ∧ GV A H g N ∧ WF N ∧ Ev N free xs t ∧ rise free ≠ [] ∧ SqL K H a (intsV xs) ∧ SqL K H r (natsV (rise free)) ∧
  ∀ (H' : Hp) (L : Int), Best N free xs t L → Same H H' → Q (.int L) H'
theorem ok_greatest_level (T : Txt P w K mg A) : FnOk P w K mg base CX0 4 A.f_greatest_level A.d_greatest_level ["grid", "shares", "rising", "level"] (sp_level K A) := by
  have G_raised_to := ok_raised_to (base := base) T
  have G_shares_fit := ok_shares_fit (base := base) T
  refine T.F_greatest_level.ok sc_greatest_level (fun vs H Q E h => ?_) (fun cdv Ar outer s H vs Q E hr h => ?_)
  · obtain ⟨g, a, r, N, free, xs, t, rfl, _⟩ := h
    rfl
  · obtain ⟨g, a, r, N, free, xs, t, rfl, GG, W, EV, hne, sqa, sqr, k⟩ := h
    obtain ⟨dx, c, h, p, l, ps, G⟩ := id GG
    refine ⟨_, (pss_cons (ps_set (i := 4) sc_greatest_level.nd rfl (Or.inl rfl) (pe_op op_add (pe_callB (cr_max rfl) (by rfl) T.n_max bt_max (pa_cons (pe_lc (own := [("place", 6)]) (te := tFld K (tOp (rIxL K) (tFld K (tVar 0) "plants") (tVar 6)) "want") rfl sc_greatest_level.nd (pi_list (pv 2)) (blk_mk rfl) (fun _ _ _ _ _ => (pg_name (i := 6) sc_greatest_level.nd rfl (Or.inl rfl))) (fun _ _ _ _ _ => pts_nil) (fun _ _ _ _ _ => (pe_fld (pe_ix ix_list (pe_fld (pv 0) rfl) (pv 6) (fun _ _ => rfl)) rfl))) pa_nil)) pe_int))
      (pss_cons (ps_while PassesOwn.never (pt_cmpR op_gt (pe_op op_sub (pv 4) (pv 3)) pe_int (nomark _)) (pss_cons (ps_set (i := 5) sc_greatest_level.nd rfl (Or.inl rfl) (pe_op op_fdiv (pe_op op_add (pv 3) (pv 4)) pe_int))
      (pss_one (ps_if (pt_val (pe_call G_shares_fit (hr.mono (by decide)) rfl T.g_shares_fit T.F_shares_fit.kp T.b_shares_fit .nil pass0 (pa_cons (pv 0) (pa_cons (pe_call G_raised_to (hr.mono (by decide)) rfl T.g_raised_to T.F_raised_to.kp T.b_raised_to .nil pass0 (pa_cons (pv 0) (pa_cons (pv 1) (pa_cons (pv 2) (pa_cons (pv 5) pa_nil))))) pa_nil)))) (pss_one (ps_set (i := 3) sc_greatest_level.nd rfl (Or.inl rfl) (pv 5))) (pss_one (ps_set (i := 4) sc_greatest_level.nd rfl (Or.inl rfl) (pv 5)))))))
      (pss_one (ps_ret (pv 3))))), ?_⟩
    have hrl : ∀ i ∈ rise free, i < N.plants.length := fun i hi => by
      have := (List.getElem?_eq_some_iff.mp (rise_mem.mp hi)).1
      rw [EV.fl] at this
      exact this
    have hrlen : (rise free).length ≤ 12 := by
      have h1 : (rise free).length ≤ free.length := by
        unfold rise
        refine Nat.le_trans (List.length_filter_le _ _) ?_
        rw [List.length_range]
        exact Nat.le_refl _
      have := EV.fl
      have := W.pmost
      omega
    refine ⟨_, rfl, r, rfl, ⟨_, sqr⟩, fun D hD => lc_map (ys := intsV ((rise free).map (wantAt N))) hD (goes_list sqr) ?_ ?_ ?_ (fun H1 hD1 s1 => ?_) gName_mono⟩
    · unfold natsV intsV
      rw [List.length_map, List.length_map, List.length_map]
    · unfold natsV
      rw [List.length_map, sizeLine_eq]
      omega
    · intro i x y H' hx hy sm Y hY
      obtain ⟨j, hj, rfl⟩ := map_some hx
      obtain ⟨z, hz, rfl⟩ := map_some hy
      obtain ⟨j', hj', rfl⟩ := map_some hz
      have ej : j = j' := Option.some.inj (hj.symm.trans hj')
      subst ej
      obtain ⟨a', q', ha', hq', da, hpl⟩ := G.nth (hrl j (List.mem_of_getElem? hj))
      refine ⟨rfl, _, rfl, g, A.C_Grid, dx, _, _, rfl, sm _ _ G.ob, T.cl_Grid, T.n_Grid_plants, rfl, _, rfl, p, _, _, _, rfl, rfl, SqL.of (sm _ _ G.lst), lst_at ha', a', A.C_Plant, da, _, _, rfl, sm _ _ hpl, T.cl_Plant, T.n_Plant_want, rfl, ?_⟩
      rw [wantAt_eq hq'] at hY
      exact hY H' (Same.refl _)
    refine ⟨D, (rise free).map (wantAt N), rfl, SqL.of hD1, by rw [List.length_map]; exact List.length_pos_iff.mpr hne, fun M hM1 hM2 => ?_⟩
    obtain ⟨i0, hi0, hMi⟩ := List.mem_map.mp hM1
    have hi0l := hrl i0 hi0
    have hp0 : N.plants[i0]? = some N.plants[i0] := List.getElem?_eq_getElem hi0l
    have hM9 : M ≤ 1000000000 := by
      rw [← hMi, wantAt_eq hp0]
      exact (W.want _ (List.mem_of_getElem? hp0)).2
    have hwM : ∀ (i : Nat) q, N.plants[i]? = some q → free[i]? = some true → q.want ≤ M := fun i q hq hf => by
      have := hM2 _ (List.mem_map_of_mem (f := wantAt N) (rise_mem.mpr hf))
      rw [wantAt_eq hq] at this
      exact this
    have htM : t ≤ M := by
      have h1 := EV.lev i0 (rise_mem.mp hi0)
      have h2 := (EV.fit.each i0 _ _ hp0 h1).2
      have h3 := hwM i0 _ hp0 (rise_mem.mp hi0)
      omega
    refine ⟨_, _, rfl, rfl, ?_⟩
    refine ⟨fun n σ' H' => ∃ (lev above : Int) (v5 v6 : Option V), n = (above - lev).toNat ∧ σ' = [some (.ref g), some (.ref a), some (.ref r), some (.int lev), some (.int above), v5, v6] ∧ Srch N free xs t M lev above ∧ Same H H',
      ⟨_, t, M + 1, none, none, rfl, rfl, Srch.first EV htM, s1⟩, ?_⟩
    rintro n σ' H' ⟨lev, above, v5, v6, rfl, rfl, S, sm⟩
    refine ⟨_, rfl, _, rfl, _, _, rfl, rfl, _, _, rfl, rfl, _, rfl, ?_⟩
    by_cases hgt : 1 < above - lev
    · rw [decide_eq_true hgt]
      refine iteT ⟨fun σ' H'' => ∃ n', n' < (above - lev).toNat ∧ ∃ (lev above : Int) (v5 v6 : Option V), n' = (above - lev).toNat ∧ σ' = [some (.ref g), some (.ref a), some (.ref r), some (.int lev), some (.int above), v5, v6] ∧ Srch N free xs t M lev above ∧ Same H H'', fun σ' H'' q => q, ?_⟩
      refine ⟨_, rfl, _, rfl, _, _, rfl, rfl, _, _, rfl, rfl, ⟨by decide, by decide⟩, ?_⟩
      have h1 : lev < (lev + above) / 2 := by omega
      have h2 : (lev + above) / 2 < above := by omega
      have hlo := S.lo
      refine ⟨_, rfl, _, rfl, _, rfl, _, rfl, _, rfl, g, a, r, N, xs, rise free, ((lev + above) / 2), rfl, GG.same sm, sm.seq sqa, sm.seq sqr, EV.fit.len, W.good.p13, hrl, fun H2 q hq hq0 s2 => ?_⟩
      rw [raise_eq EV (by omega)] at hq
      refine ⟨g, q, N, _, rfl, (GG.same sm).same s2, W.tree, W.most, W.good.p13, SqL.of hq, EV.rlen ((lev + above) / 2), fun H3 s3 => ⟨_, rfl, ?_⟩⟩
      by_cases hf : fits N (raisedTo N free xs ((lev + above) / 2)) = true
      · rw [hf]
        exact iteT ⟨_, rfl, _, by omega, ((lev + above) / 2), above, _, _, rfl, rfl, S.up h1 h2 (Pd.fits_iff.mp hf), (sm.trans s2).trans s3⟩
      · have hf2 : fits N (raisedTo N free xs ((lev + above) / 2)) = false := by simpa using hf
        rw [hf2]
        exact iteF ⟨_, rfl, _, by omega, lev, ((lev + above) / 2), _, _, rfl, rfl, S.down h1 h2 (fun F => hf (Pd.fits_iff.mpr F)), (sm.trans s2).trans s3⟩
    · rw [decide_eq_false hgt]
      exact iteF ⟨_, rfl, k H' lev (S.done (by omega) hM9 hwM) sm⟩
def sp_even (A : Ad) : Sp := fun vs H Q _ => ∃ (g : Addr) (N : Net), vs = [.ref g] ∧ GV A H g N ∧ WF N ∧ ∀ (H' : Hp) (p : Addr), H' p = some (.lst (intsV (Vbemay.even N))) → H p = none → Same H H' → Q (.ref p) H'
theorem ok_even_shares (T : Txt P w K mg A) : FnOk P w K mg base CX0 5 A.f_even_shares A.d_even_shares ["grid"] (sp_even A) := by
  have G_raised_to := ok_raised_to (base := base) T
  have G_shares_fit := ok_shares_fit (base := base) T
  have G_greatest_level := ok_greatest_level (base := base) T
  refine T.F_even_shares.ok sc_even_shares (fun vs H Q E h => ?_) (fun cdv Ar outer s H vs Q E hr h => ?_)
  · obtain ⟨g, N, rfl, _⟩ := h
    rfl
  · obtain ⟨g, N, rfl, GG, W, k⟩ := h
    obtain ⟨dx, c, h, p, l, ps, G⟩ := id GG
    have hpm := W.pmost
    refine ⟨_, (pss_cons (ps_setLc (i := 1) (own := [("plant", 6)]) (te := tC (.int 0)) rfl sc_even_shares.nd rfl rfl (sw_true rfl rfl rfl rfl) (pi_list (pe_fld (pv 0) rfl)) (blk_mk rfl) (fun _ _ _ _ _ => (pg_name (i := 6) sc_even_shares.nd rfl (Or.inl rfl))) (fun _ _ _ _ _ => pts_nil) (fun _ _ _ _ _ => pe_int))
      (pss_cons (ps_set (i := 2) sc_even_shares.nd rfl (Or.inl rfl) (pe_callTy (cr_list_rng rfl) (by rfl) T.n_list bt_list (pa_cons (pe_range1 rfl T.n_range (pa_cons (pe_callB call_len_seq (by rfl) T.n_len bt_len (pa_cons (pv 1) pa_nil)) pa_nil)) pa_nil)))
      (pss_cons (ps_set (i := 3) sc_even_shares.nd rfl (Or.inl rfl) pe_int)
      (pss_cons (ps_while PassesOwn.never (pt_cmpR op_gt (pe_callB call_len_seq (by rfl) T.n_len bt_len (pa_cons (pv 2) pa_nil)) pe_int (nomark _)) (pss_cons (ps_set (i := 3) sc_even_shares.nd rfl (Or.inl rfl) (pe_call G_greatest_level (hr.mono (by decide)) rfl T.g_greatest_level T.F_greatest_level.kp T.b_greatest_level .nil pass0 (pa_cons (pv 0) (pa_cons (pv 1) (pa_cons (pv 2) (pa_cons (pv 3) pa_nil))))))
      (pss_cons (ps_set (i := 1) sc_even_shares.nd rfl (Or.inl rfl) (pe_call G_raised_to (hr.mono (by decide)) rfl T.g_raised_to T.F_raised_to.kp T.b_raised_to .nil pass0 (pa_cons (pv 0) (pa_cons (pv 1) (pa_cons (pv 2) (pa_cons (pv 3) pa_nil))))))
      (pss_cons (ps_set (i := 4) sc_even_shares.nd rfl (Or.inl rfl) (pe_lst pa_nil))
      (pss_cons (ps_for PassesOwn.never rfl (pi_list (pv 2)) (pg_name (i := 5) sc_even_shares.nd rfl (Or.inl rfl)) (pss_cons (ps_augS (pv 1) (pv 5) get_list pe_int ip_add set_list)
      (pss_one (ps_if (pt_val (pe_call G_shares_fit (hr.mono (by decide)) rfl T.g_shares_fit T.F_shares_fit.kp T.b_shares_fit .nil pass0 (pa_cons (pv 0) (pa_cons (pv 1) pa_nil)))) (pss_one (ps_expr (pe_bm PySem.F.plainAttrs_list PySem.F.slot_list_append PySem.F.type_list_append mt_append (pv 4) (pa_cons (pv 5) pa_nil)))) (pss_one (ps_augS (pv 1) (pv 5) get_list pe_int ip_sub set_list))))))
      (pss_cons (ps_set (i := 2) sc_even_shares.nd rfl (Or.inl rfl) (pv 4))
      (pss_one (ps_aug (i := 3) sc_even_shares.nd rfl (Or.inl rfl) pe_int ip_add))))))))
      (pss_one (ps_ret (pv 1))))))), ?_⟩
    refine ⟨_, rfl, g, A.C_Grid, dx, _, _, rfl, G.ob, T.cl_Grid, T.n_Grid_plants, rfl, p, rfl, ⟨_, SqL.of G.lst⟩, fun D hD => lc_map (ys := intsV (Vbemay.nothing N)) hD (goes_list (SqL.of G.lst)) ?_ ?_ ?_ (fun H1 hD1 s1 => ?_) gName_mono⟩
    · unfold intsV Vbemay.nothing
      rw [List.length_map, List.length_map, List.length_map, G.len]
    · rw [List.length_map, G.len, sizeLine_eq]
      omega
    · intro i x y H' hx hy sm Y hY
      obtain ⟨z, hz, rfl⟩ := map_some hy
      obtain ⟨q, hq, rfl⟩ := map_some hz
      exact ⟨rfl, hY H' (Same.refl _)⟩
    refine ⟨_, rfl, D, _, rfl, .inl (SqL.of hD1), _, rfl, fun rr hrr => ?_⟩
    have elD : (intsV (Vbemay.nothing N)).length = N.plants.length := by unfold intsV Vbemay.nothing; rw [List.length_map, List.length_map]
    rw [elD]
    refine ⟨rr, _, rfl, upd_same, by omega, by omega, fun rl hrl0 => ?_⟩
    have s2 : Same H1 (upd H1 rr (.rng 0 (N.plants.length : Int))) := Same.new hrr
    have hrlH1 : H1 rl = none := s2.free hrl0
    have s3 : Same H1 (upd (upd H1 rr (.rng 0 (N.plants.length : Int))) rl (.lst ((List.range ((N.plants.length : Nat) : Int).toNat).map fun k => V.int (k : Nat)))) := s2.on hrlH1
    have hrl3 : (upd (upd H1 rr (.rng 0 (N.plants.length : Int))) rl (.lst ((List.range ((N.plants.length : Nat) : Int).toNat).map fun k => V.int (k : Nat)))) rl = some (.lst (natsV (List.range N.plants.length))) := by
      rw [upd_same]
      rfl
    generalize (upd (upd H1 rr (.rng 0 (N.plants.length : Int))) rl (.lst ((List.range ((N.plants.length : Nat) : Int).toNat).map fun k => V.int (k : Nat)))) = H3 at s3 hrl3
    have hD3 := s3 _ _ hD1
    have sH3 : Same H H3 := s1.trans s3
    refine ⟨fun n σ' H' => ∃ (xs : List Int) (rs : List Nat) (lev : Int) (a r : Addr) (v4 v5 v6 : Option V), n = rs.length ∧ σ' = [some (.ref g), some (.ref a), some (.ref r), some (.int lev), v4, v5, v6] ∧ Rounds N xs rs lev ∧ H' a = some (.lst (intsV xs)) ∧ H' r = some (.lst (natsV rs)) ∧ H a = none ∧ Same H H',
      ⟨_, _, _, 0, D, rl, none, none, none, rfl, rfl, Rounds.first (fun q hq => (W.want q hq).1) (fun v hv => (W.caps v hv).1), hD3, hrl3, hD, sH3⟩, ?_⟩
    rintro n σ' H' ⟨xs, rs, lev, a, r, v4, v5, v6, rfl, rfl, R, ha, hrr', ha0, sm⟩
    have eln : (natsV rs).length = rs.length := List.length_map _
    refine ⟨_, rfl, r, _, rfl, .inl (SqL.of hrr'), _, _, rfl, rfl, _, rfl, ?_⟩
    rw [eln]
    by_cases hpos : (0 : Int) < (rs.length : Int)
    · rw [decide_eq_true hpos]
      obtain ⟨kk, free, t, q1, q2, q3, EV, q5⟩ := R.ex
      have hne : rs ≠ [] := fun e => by rw [e] at hpos; simp at hpos
      have elev := q5 hne
      subst elev q3
      have hrl : ∀ i ∈ rise free, i < N.plants.length := fun i hi => by
        have := (List.getElem?_eq_some_iff.mp (rise_mem.mp hi)).1
        rw [EV.fl] at this
        exact this
      have hr12 : (rise free).length ≤ 12 := by
        have h1 : (rise free).length ≤ free.length := by
          unfold rise
          refine Nat.le_trans (List.length_filter_le _ _) ?_
          rw [List.length_range]
          exact Nat.le_refl _
        have := EV.fl
        omega
      refine iteT ⟨fun σ' H'' => ∃ n', n' < (rise free).length ∧ ∃ (xs : List Int) (rs : List Nat) (lev : Int) (a r : Addr) (v4 v5 v6 : Option V), n' = rs.length ∧ σ' = [some (.ref g), some (.ref a), some (.ref r), some (.int lev), v4, v5, v6] ∧ Rounds N xs rs lev ∧ H'' a = some (.lst (intsV xs)) ∧ H'' r = some (.lst (natsV rs)) ∧ H a = none ∧ Same H H'', fun σ' H'' q => q, ?_⟩
      refine ⟨_, rfl, _, rfl, _, rfl, _, rfl, g, a, r, N, free, xs, lev, rfl, GG.same sm, W, EV, hne, SqL.of ha, SqL.of hrr', fun H4 L B s4 => ?_⟩
      refine ⟨_, rfl, _, rfl, _, rfl, _, rfl, g, a, r, N, xs, rise free, L, rfl, (GG.same sm).same s4, SqL.of (s4 _ _ ha), SqL.of (s4 _ _ hrr'), EV.fit.len, W.good.p13, hrl, fun H5 b hb hb0 s5 => ?_⟩
      rw [raise_eq EV B.lo] at hb
      refine ⟨Nat.zero_le _, fun q hq0 => ?_⟩
      have hbq : b ≠ q := ne_of_none hb hq0
      have s46 : Same H' (upd H5 q (.lst [])) := (s4.trans s5).on (s4.free (s5.free hq0))
      have hb0H : H b = none := sm.free (s4.free hb0)
      have hq0H : H q = none := sm.free (s4.free (s5.free hq0))
      have hr6 : (upd H5 q (.lst [])) r = some (.lst (natsV (rise free))) := s46 _ _ hrr'
      have hrb : r ≠ b := ne_of_none (s4 _ _ hrr') hb0
      have hrq : r ≠ q := ne_of_none (s5 _ _ (s4 _ _ hrr')) hq0
      have hb6 : (upd H5 q (.lst [])) b = some (.lst (intsV (raisedTo N free xs L))) := by rw [upd_ne hbq]; exact hb
      have hq6 : (upd H5 q (.lst [])) q = some (.lst []) := upd_same
      generalize (upd H5 q (.lst [])) = H6 at s46 hr6 hb6 hq6
      have sH6 : Same H H6 := sm.trans s46
      refine ⟨_, rfl, r, rfl, ⟨_, SqL.of hr6⟩, for_list (K := K) (a := r) (xs := natsV (rise free)) (fun i σ' H' => ∃ (v5 : Option V), σ' = [some (.ref g), some (.ref b), some (.ref r), some (.int L), some (.ref q), v5, v6] ∧
          H' b = some (.lst (intsV (((rise free).take i).foldl (tryOne N) (raisedTo N free xs L, [])).1)) ∧ H' q = some (.lst (natsV (((rise free).take i).foldl (tryOne N) (raisedTo N free xs L, [])).2)) ∧ ∀ x o, x ≠ b → x ≠ q → H6 x = some o → H' x = some o)
        ⟨_, rfl, hb6, hq6, fun x o _ _ e => e⟩ (fun i σ' H' _ ⟨_, _, _, _, kp⟩ => SqL.of (kp _ _ hrb hrq hr6)) ?_ ?_⟩
      · rintro i x σ' H7 hx ⟨v5', rfl, hb7, hq7, kp⟩
        obtain ⟨j, hj, rfl⟩ := map_some hx
        have hjl := hrl j (List.mem_of_getElem? hj)
        have R7 := tries W.tree ((rise free).take i) (raisedTo N free xs L) [] (List.Sublist.nodup (List.take_sublist _ _) (rise_nodup free)) (fun x hx => hrl x (List.mem_of_mem_take hx)) B.fit
        have hstep : ((rise free).take (i + 1)).foldl (tryOne N) (raisedTo N free xs L, []) = tryOne N (((rise free).take i).foldl (tryOne N) (raisedTo N free xs L, [])) j := by
          rw [take_succ hj, List.foldl_append]
          rfl
        have hacc : (((rise free).take i).foldl (tryOne N) (raisedTo N free xs L, [])).2.length ≤ 12 := by
          have := R7.acc
          rw [List.nil_append] at this
          rw [this]
          refine Nat.le_trans (List.length_filter_le _ _) ?_
          rw [List.length_take]
          omega
        rw [hstep]
        generalize ((rise free).take i).foldl (tryOne N) (raisedTo N free xs L, []) = st at hb7 hq7 R7 hacc
        have F7 := R7.fit
        have hjs : j < st.1.length := by rw [F7.len]; exact hjl
        have hy : st.1[j]? = some st.1[j] := List.getElem?_eq_getElem hjs
        generalize st.1[j] = y at hy
        have hbq' : b ≠ q := hbq
        refine ⟨_, rfl, _, rfl, b, _, j, _, rfl, rfl, SqL.of hb7, (by unfold intsV; rw [List.getElem?_map, hy]; rfl : (intsV st.1)[j]? = some (V.int y)), _, _, rfl, rfl, b, _, _, j, rfl, rfl, hb7, ixN_nat (by unfold intsV; rw [List.length_map]; exact hjs), ?_⟩
        rw [ints_set]
        have hb8 : (upd H7 b (.lst (intsV (st.1.set j (y + 1))))) b = some (.lst (intsV (st.1.set j (y + 1)))) := upd_same
        have hq8 : (upd H7 b (.lst (intsV (st.1.set j (y + 1))))) q = some (.lst (natsV st.2)) := by rw [upd_ne (fun e => hbq e.symm)]; exact hq7
        have kp8 : ∀ x o, x ≠ b → x ≠ q → H6 x = some o → (upd H7 b (.lst (intsV (st.1.set j (y + 1))))) x = some o := fun x o h1 h2 e => by rw [upd_ne h1]; exact kp x o h1 h2 e
        generalize (upd H7 b (.lst (intsV (st.1.set j (y + 1))))) = H8 at hb8 hq8 kp8
        have sH8 : Same H H8 := fun x o e => kp8 x o (ne_of_none e hb0H) (ne_of_none e hq0H) (sH6 x o e)
        refine ⟨_, rfl, _, rfl, g, b, N, st.1.set j (y + 1), rfl, GG.same sH8, W.tree, W.most, W.good.p13, SqL.of hb8, by rw [List.length_set]; exact F7.len, fun H9 s9 => ⟨_, rfl, ?_⟩⟩
        rw [tryOne_fits W.tree F7 hjl hy]
        by_cases hf : fits N (st.1.set j (y + 1)) = true
        · rw [hf, if_pos rfl]
          refine iteT ⟨_, rfl, .inl ⟨rfl, _, SqL.of (s9 _ _ hq8)⟩, _, rfl, q, _, _, rfl, rfl, s9 _ _ hq8, (by unfold natsV; rw [List.length_map, sizeLine_eq]; omega), _, rfl, ?_, ?_, fun x o h1 h2 e => ?_⟩
          · rw [upd_ne hbq]
            exact s9 _ _ hb8
          · rw [upd_same]
            unfold natsV
            rw [List.map_append]
            rfl
          · rw [upd_ne h2]
            exact s9 _ _ (kp8 x o h1 h2 e)
        · have hf2 : fits N (st.1.set j (y + 1)) = false := by simpa using hf
          rw [hf2, if_neg Bool.false_ne_true]
          have hy8 : (st.1.set j (y + 1))[j]? = some (y + 1) := List.getElem?_set_self hjs
          refine iteF ⟨_, rfl, _, rfl, b, _, j, _, rfl, rfl, SqL.of (s9 _ _ hb8), (by unfold intsV; rw [List.getElem?_map, hy8]; rfl : (intsV (st.1.set j (y + 1)))[j]? = some (V.int (y + 1))), _, _, rfl, rfl, b, _, _, j, rfl, rfl, s9 _ _ hb8, ixN_nat (by unfold intsV; rw [List.length_map, List.length_set]; exact hjs), ?_⟩
          rw [ints_set, List.set_set]
          have eback : st.1.set j (y + 1 - 1) = st.1 := by
            have : y + 1 - 1 = y := by omega
            rw [this]
            refine List.ext_getElem? fun i => ?_
            by_cases e : j = i
            · subst e
              rw [List.getElem?_set_self hjs, hy]
            · rw [List.getElem?_set_ne e]
          rw [eback]
          refine ⟨_, rfl, upd_same, ?_, fun x o h1 h2 e => ?_⟩
          · rw [upd_ne (fun e => hbq e.symm)]
            exact s9 _ _ hq8
          · rw [upd_ne h1]
            exact s9 _ _ (kp8 x o h1 h2 e)
      · rintro σ' H7 ⟨v5', rfl, hb7, hq7, kp⟩
        have elr : (natsV (rise free)).length = (rise free).length := List.length_map _
        rw [elr, List.take_length] at hb7 hq7
        obtain ⟨RN, RL⟩ := Rounds.next W.tree (fun q hq => (W.want q hq).2) q1 q2 EV hne B
        refine ⟨_, rfl, _, rfl, _, _, rfl, rfl, _, RL, _, _, L + 1, b, q, _, _, _, rfl, rfl, RN, hb7, hq7, hb0H, fun x o e => kp x o (ne_of_none e hb0H) (ne_of_none e hq0H) (sH6 x o e)⟩
    · rw [decide_eq_false hpos]
      have e0 : rs = [] := by
        cases rs with
        | nil => rfl
        | cons a b => simp at hpos
      subst e0
      refine iteF ⟨_, rfl, k H' a ?_ ha0 sm⟩
      rw [R.last]
      exact ha
def sp_rule (A : Ad) : Sp := fun vs H Q _ => ∃ (g : Addr) (N : Net) (r : Int), vs = [.ref g, .int r] ∧ GV A H g N ∧ WF N ∧ (r = 0 ∨ r = 1) ∧ ∀ (H' : Hp) (p : Addr), H' p = some (.lst (intsV (Vbemay.byRule N r))) → H p = none → Same H H' → Q (.ref p) H'
theorem ok_shares_by_rule (T : Txt P w K mg A) : FnOk P w K mg base CX0 6 A.f_shares_by_rule A.d_shares_by_rule ["grid", "rule"] (sp_rule A) := by
  have G_even_shares := ok_even_shares (base := base) T
  have G_shares_by_age := ok_shares_by_age (base := base) T
  refine T.F_shares_by_rule.ok sc_shares_by_rule (fun vs H Q E h => ?_) (fun cdv Ar outer s H vs Q E hr h => ?_)
  · obtain ⟨g, N, r, rfl, _⟩ := h
    rfl
  · obtain ⟨g, N, r, rfl, GG, W, hr01, k⟩ := h
    refine ⟨_, (pss_one (ps_ret (pe_ifExp (pt_cmpR op_eq (pv 1) (pe_globI rfl T.g_EVENLY) (nomark _)) (pe_call G_even_shares (hr.mono (by decide)) rfl T.g_even_shares T.F_even_shares.kp T.b_even_shares .nil pass0 (pa_cons (pv 0) pa_nil)) (pe_call G_shares_by_age (hr.mono (by decide)) rfl T.g_shares_by_age T.F_shares_by_age.kp T.b_shares_by_age .nil pass0 (pa_cons (pv 0) pa_nil))))), ?_⟩
    refine ⟨_, rfl, rfl, _, rfl, ?_⟩
    rcases hr01 with rfl | rfl
    · rw [decide_eq_false (by decide)]
      exact iteF ⟨_, rfl, g, N, rfl, GG, W.good, fun H1 p hp hp0 s1 => k H1 p hp hp0 s1⟩
    · rw [decide_eq_true rfl]
      exact iteT ⟨_, rfl, g, N, rfl, GG, W, fun H1 p hp hp0 s1 => k H1 p hp hp0 s1⟩
end
end Pt
end
section
set_option Elab.async false
set_option linter.all false
set_option maxRecDepth 100000
set_option maxHeartbeats 1000000
namespace Pt
open PySem PySem.Spec PyProof.Rows L2
open Vbemay (Net Plant Feeder upOf capOf wish stops cut cutWorth path)
open Pd (Tree ownW Wishes path_lt path_len unmet)
section
variable {P : Program} {w : World} {K : PySem.W.Frag} {mg : Str → Option Value} {base : Heap} {A : Ad}
theorem dpInts {H : Hp} : ∀ ns : List Int, DpAll K H (intsV ns) (ns.map PyData.int)
  | [] => .nil
  | n :: ns => .cons (.int n) (dpInts ns)
theorem dpList {H : Hp} {a : Addr} {ns : List Int} (sq : SqL K H a (intsV ns)) : Dp K H (.ref a) (.list (ns.map PyData.int)) := .lst sq (dpInts ns)
theorem shapedInts (ns : List Int) : SeqAt.shaped (.list (ns.map PyData.int)) = true := by
  unfold SeqAt.shaped
  have h1 : ∀ l : List Int, PyData.canLayAll0 (l.map PyData.int) = true := fun l => by
    induction l with
    | nil => rfl
    | cons a l ih => rw [List.map_cons, PyData.canLayAll0, ih]; rfl
  have h2 : ∀ l : List Int, PyData.depthAll (l.map PyData.int) = 0 := fun l => by
    induction l with
    | nil => rfl
    | cons a l ih => rw [List.map_cons, PyData.depthAll, ih]; rfl
  rw [Bool.and_eq_true, decide_eq_true_iff, PyData.canLay0, PyData.depth, h1, h2]
  exact ⟨rfl, by decide⟩
theorem eqvInts : ∀ ns ms : List Int, PyData.eqvAll (ns.map PyData.int) (ms.map PyData.int) = decide (ns = ms)
  | [], [] => by simp [PyData.eqvAll]
  | [], m :: ms => by simp [PyData.eqvAll]
  | n :: ns, [] => by simp [PyData.eqvAll]
  | n :: ns, m :: ms => by
    rw [List.map_cons, List.map_cons, PyData.eqvAll, eqvInts ns ms, PyData.eqv]
    simp only [List.cons.injEq]
    by_cases h : n = m <;> by_cases h2 : ns = ms <;> simp [h, h2]
theorem eqvList (ns ms : List Int) : PyData.eqv (.list (ns.map PyData.int)) (.list (ms.map PyData.int)) = decide (ns = ms) := by
  rw [PyData.eqv, eqvInts]
theorem feed_ints (l : List Nat) : feedV l = intsV (l.map fun (u : Nat) => (u : Int) + 1) := by
  unfold feedV intsV
  rw [List.map_map]
  rfl
def sp_wishes (A : Ad) : Sp := fun vs H Q _ => ∃ (g : Addr) (N : Net), vs = [.ref g] ∧ GV A H g N ∧ Good N ∧ ∀ (H' : Hp) (d : Addr), H' d = some (.dK (intK N.feeders.length (wish N))) → H d = none → Same H H' → Q (.ref d) H'
theorem ok_wishes_of (T : Txt P w K mg A) : FnOk P w K mg base CX0 2 A.f_wishes_of A.d_wishes_of ["grid"] (sp_wishes A) := by
  have G_feeder_numbers := ok_feeder_numbers (base := base) T
  have G_feeders_below_first := ok_feeders_below_first (base := base) T
  refine T.F_wishes_of.ok sc_wishes_of (fun vs H Q E h => ?_) (fun cdv Ar outer s H vs Q E hr h => ?_)
  · obtain ⟨g, N, rfl, _⟩ := h
    rfl
  · obtain ⟨g, N, rfl, GG, W, k⟩ := h
    have Tr := W.tree
    have h12 := W.f12
    have h13 := W.p13
    obtain ⟨dx, c, h, p, l, ps, G⟩ := id GG
    have hu := hu_of hr
    refine ⟨_, (pss_cons (ps_set (i := 1) sc_wishes_of.nd rfl (Or.inl rfl) pe_dnewK)
      (pss_cons (ps_for PassesOwn.never rfl (pi_list (pe_meth0 (pv 0) T.cl_Grid T.m_feeder_numbers G_feeder_numbers (hr.mono (by decide)) T.b_feeder_numbers .nil pass0)) (pg_name (i := 2) sc_wishes_of.nd rfl (Or.inl rfl)) (pss_one (ps_dput hu (pv 1) (pv 2) pe_int rfl)))
      (pss_cons (ps_for PassesOwn.never rfl (pi_list (pe_fld (pv 0) rfl)) (pg_name (i := 3) sc_wishes_of.nd rfl (Or.inl rfl)) (pss_one (ps_daug hu (pv 1) (pe_fld (pv 3) rfl) (pe_fld (pv 3) rfl) in_add (fun _ _ _ => rfl))))
      (pss_cons (ps_for PassesOwn.never rfl (pi_list (pe_meth0 (pv 0) T.cl_Grid T.m_feeders_below_first G_feeders_below_first (hr.mono (by decide)) T.b_feeders_below_first .nil pass0)) (pg_name (i := 2) sc_wishes_of.nd rfl (Or.inl rfl)) (pss_one (ps_daug hu (pv 1) (pe_dget hu (pe_fld (pv 0) rfl) (pv 2) (fun _ _ => rfl)) (pe_callB (call_min2 rfl) (by rfl) T.n_min bt_min (pa_cons (pe_dget hu (pe_fld (pv 0) rfl) (pv 2) (fun _ _ => rfl)) (pa_cons (pe_dget hu (pv 1) (pv 2) (fun _ _ => rfl)) pa_nil))) in_add (fun _ _ _ => rfl))))
      (pss_one (ps_ret (pv 1))))))), ?_⟩
    intro d hd
    have s0 : Same H (upd H d (.dK [])) := Same.new hd
    refine ⟨_, rfl, g, dx, _, rfl, s0 _ _ G.ob, rfl, g, N, rfl, GG.same s0, h12, fun H1 pn hpn hpn0 s1 => ?_⟩
    have hd1 : H1 d = some (.dK []) := s1 _ _ upd_same
    have npd : pn ≠ d := fun e => by rw [e, hd1] at hpn; cases hpn
    have sH1 : Same H H1 := s0.trans s1
    refine ⟨pn, rfl, ⟨_, SqL.of hpn⟩, for_list (K := K) (a := pn) (xs := feedV (List.range N.feeders.length)) (fun i σ' H' => ∃ v2 : Option V, σ' = [some (.ref g), some (.ref d), v2, none] ∧ H' d = some (.dK (intK i fun _ => 0)) ∧ But d H1 H')
      ⟨none, rfl, hd1, fun b o _ e => e⟩ (fun i σ' H' _ ⟨_, _, _, kp⟩ => SqL.of (kp _ _ npd hpn)) ?_ ?_⟩
    · rintro i x σ' H' hx ⟨v3, rfl, hd2, kp⟩
      obtain ⟨v, hv, rfl⟩ := map_some hx
      obtain ⟨rfl, hvl⟩ := range_at hv
      refine ⟨_, rfl, _, rfl, d, _, rfl, DPut.k (k := (Sum.inl ((v : Int) + 1) : Key)) hd2 (by rw [intK_len, sizeLine_eq]; omega), _, rfl, ?_, fun b o hb e => by rw [upd_ne hb]; exact kp b o hb e⟩
      rw [upd_same, intK_next]
      congr 2
      refine intK_congr fun u _ => ?_
      split <;> rfl
    rintro σ' H2 ⟨v2, rfl, hd2, kp2⟩
    have el : (feedV (List.range N.feeders.length)).length = N.feeders.length := by unfold feedV; rw [List.length_map, List.length_range]
    rw [el] at hd2
    have sH2 : Same H H2 := But.same sH1 kp2 hd
    refine ⟨_, rfl, g, A.C_Grid, dx, _, _, rfl, sH2 _ _ G.ob, T.cl_Grid, T.n_Grid_plants, rfl, p, rfl, ⟨_, SqL.of (sH2 _ _ G.lst)⟩,
      for_by H (fun i σ' H' => ∃ (v3 : Option V), σ' = [some (.ref g), some (.ref d), v2, v3] ∧ H' d = some (.dK (intK N.feeders.length (ownW (N.plants.take i)))) ∧ Same H H') (goes_list (SqL.of G.lst))
      ⟨none, rfl, ?_, sH2⟩ (fun i σ' H' ⟨_, _, _, sm⟩ => sm) ?_ ?_⟩
    · rw [hd2]
      congr 2
    · rintro i x σ' H' hx ⟨v3, rfl, hd3, sm⟩
      obtain ⟨a', ha', rfl⟩ := map_some hx
      have hil : i < N.plants.length := by rw [← G.len]; exact (List.getElem?_eq_some_iff.mp ha').1
      have hq : N.plants[i]? = some N.plants[i] := List.getElem?_eq_getElem hil
      generalize N.plants[i] = q at hq
      obtain ⟨da, hpl⟩ := G.at_ i a' q ha' hq
      have hat : q.at_ < N.feeders.length := Tr.at_ q (List.mem_of_getElem? hq)
      refine ⟨_, rfl, _, rfl, a', A.C_Plant, da, _, _, rfl, sm _ _ hpl, T.cl_Plant, T.n_Plant_feeder, rfl, d, _, rfl, intK_get hd3 hat, _, rfl, a', A.C_Plant, da, _, _, rfl, sm _ _ hpl, T.cl_Plant, T.n_Plant_want, rfl, _, _, rfl, rfl, _, DPut.k (k := (Sum.inl ((q.at_ : Int) + 1) : Key)) hd3 (by rw [intK_len, sizeLine_eq]; omega), ?_⟩
      refine ⟨_, rfl, ?_, sm.on hd⟩
      rw [upd_same, intK_put hat]
      congr 2
      refine intK_congr fun v _ => ?_
      rw [take_succ hq, Pd.ownW_snoc]
      by_cases e : v = q.at_
      · rw [if_pos e, if_pos e, e]
      · rw [if_neg e, if_neg e, Int.add_zero]
    rintro σ' H3 ⟨v3, rfl, hd3, sH3⟩
    have elp : (ps.map V.ref).length = N.plants.length := by rw [List.length_map, G.len]
    rw [elp, List.take_length] at hd3
    refine ⟨_, rfl, g, dx, _, rfl, sH3 _ _ G.ob, rfl, g, N, rfl, GG.same sH3, h12, fun H4 pb hpb hpb0 s4 => ?_⟩
    have hd4 := s4 _ _ hd3
    have npb : pb ≠ d := fun e => by rw [e, hd4] at hpb; cases hpb
    have sH4 : Same H H4 := sH3.trans s4
    refine ⟨pb, rfl, ⟨_, SqL.of hpb⟩, for_list (K := K) (a := pb) (xs := feedV (downs N.feeders.length)) (fun i σ' H' => ∃ (v2 : Option V) (f : Nat → Int), σ' = [some (.ref g), some (.ref d), v2, v3] ∧ H' d = some (.dK (intK N.feeders.length f)) ∧ Wishes N (N.feeders.length - 1 - i) f ∧ But d H4 H')
      ⟨_, _, rfl, hd4, Wishes.first Tr, fun b o _ e => e⟩ (fun i σ' H' _ ⟨_, _, _, _, _, kp⟩ => SqL.of (kp _ _ npb hpb)) ?_ ?_⟩
    · rintro i x σ' H' hx ⟨v3', f, rfl, hd5, hf, kp⟩
      obtain ⟨v, hv, rfl⟩ := map_some hx
      obtain ⟨i', hi', rfl⟩ := map_some hv
      obtain ⟨rfl, hil⟩ := range_at hi'
      have hvl : N.feeders.length - 1 - i' < N.feeders.length := by have := Tr.pos; omega
      have hul := Tr.up (N.feeders.length - 1 - i') (by omega) hvl
      have sm : Same H H' := But.same sH4 kp hd
      refine ⟨_, rfl, _, rfl, g, A.C_Grid, dx, _, _, rfl, sm _ _ G.ob, T.cl_Grid, T.n_Grid_hangs_on, rfl, _, rfl, h, _, rfl, hang_get (sm _ _ G.hang) hvl, d, _, rfl, intK_get hd5 (by omega), _, rfl, g, A.C_Grid, dx, _, _, rfl, sm _ _ G.ob, T.cl_Grid, T.n_Grid_capacities, rfl, _, rfl, c, _, rfl, caps_get (.inl (sm _ _ G.caps)) hvl, _, rfl, _, rfl, d, _, rfl, intK_get hd5 hvl, _, _, rfl, _, _, rfl, rfl, _,
        DPut.k (k := (Sum.inl ((upOf N (N.feeders.length - 1 - i') : Int) + 1) : Key)) hd5 (by rw [intK_len, sizeLine_eq]; omega), ?_⟩
      obtain ⟨m, hm⟩ : ∃ m, N.feeders.length - 1 - i' = m + 1 := ⟨N.feeders.length - 1 - i' - 1, by omega⟩
      have e2 : N.feeders.length - 1 - (i' + 1) = m := by omega
      rw [e2]
      rw [hm] at hf hul hvl ⊢
      refine ⟨_, _, rfl, ?_, hf.step Tr (by omega), fun b o hb e => by rw [upd_ne hb]; exact kp b o hb e⟩
      rw [upd_same, intK_put (by omega)]
      congr 2
      refine intK_congr fun u _ => ?_
      by_cases e : u = upOf N (m + 1)
      · rw [if_pos e, if_pos e, e, Int.min_def]
        congr 1
        split <;> split <;> omega
      · rw [if_neg e, if_neg e, Int.add_zero]
    · rintro σ' H5 ⟨v3', f, rfl, hd5, hf, kp⟩
      refine ⟨_, rfl, ?_⟩
      have el2 : (feedV (downs N.feeders.length)).length = N.feeders.length - 1 := by unfold feedV downs; rw [List.length_map, List.length_map, List.length_range]
      rw [el2, Nat.sub_self] at hf
      refine k H5 d ?_ hd (But.same sH4 kp hd)
      rw [hd5]
      congr 2
      exact intK_congr fun v _ => hf.last v
theorem filt_some {α : Type} (t : α → Bool) (f : α → V) : ∀ l : List α, ((l.map fun x => if t x = true then some (f x) else none).filterMap id) = (l.filter t).map f
  | [] => rfl
  | a :: l => by
    have ih := filt_some t f l
    rw [List.map_cons, List.filter_cons]
    by_cases h : t a = true
    · rw [if_pos h, if_pos h]
      show f a :: List.filterMap id _ = f a :: _
      rw [ih]
    · rw [if_neg h, if_neg h]
      exact ih
def sp_cut (A : Ad) : Sp := fun vs H Q _ => ∃ (g : Addr) (N : Net), vs = [.ref g] ∧ GV A H g N ∧ Good N ∧ ∀ (H' : Hp) (p : Addr), H' p = some (.lst (feedV (cut N))) → H p = none → Same H H' → Q (.ref p) H'
theorem cut_take {N : Net} (Tr : Tree N) {i : Nat} (h : i < N.feeders.length) : ((List.range N.feeders.length).take (i + 1)).filter (fun v => stops N v && !((path N v).drop 1).any fun w => stops N w) =
    ((List.range N.feeders.length).take i).filter (fun v => stops N v && !((path N v).drop 1).any fun w => stops N w) ++ if (stops N i && !((path N i).drop 1).any fun w => stops N w) = true then [i] else [] := by
  have e : (List.range N.feeders.length)[i]? = some i := by rw [List.getElem?_range h]
  rw [take_succ e, List.filter_append, List.filter_cons]
  rfl
theorem ok_cut_of (T : Txt P w K mg A) : FnOk P w K mg base CX0 3 A.f_cut_of A.d_cut_of ["grid"] (sp_cut A) := by
  have G_feeder_numbers := ok_feeder_numbers (base := base) T
  have G_path_to_first := ok_path_to_first (base := base) T
  have G_wishes_of := ok_wishes_of (base := base) T
  refine T.F_cut_of.ok sc_cut_of (fun vs H Q E h => ?_) (fun cdv Ar outer s H vs Q E hr h => ?_)
  · obtain ⟨g, N, rfl, _⟩ := h
    rfl
  · obtain ⟨g, N, rfl, GG, W, k⟩ := h
    have Tr := W.tree
    have h12 := W.f12
    obtain ⟨dx, c, h, p, l, ps, G⟩ := id GG
    have hu := hu_of hr
    refine ⟨_, (pss_cons (ps_set (i := 1) sc_cut_of.nd rfl (Or.inr rfl) (pe_call G_wishes_of (hr.mono (by decide)) rfl T.g_wishes_of T.F_wishes_of.kp T.b_wishes_of .nil pass0 (pa_cons (pv 0) pa_nil)))
      (pss_cons (ps_set (i := 2) sc_cut_of.nd rfl (Or.inl rfl) (pe_lst pa_nil))
      (pss_cons (ps_for PassesOwn.never rfl (pi_list (pe_meth0 (pv 0) T.cl_Grid T.m_feeder_numbers G_feeder_numbers (hr.mono (by decide)) T.b_feeder_numbers .nil pass0)) (pg_name (i := 3) sc_cut_of.nd rfl (Or.inl rfl)) (pss_cons (ps_setLc (i := 4) (own := [("upper", 5)]) (tt := tTest (tOp (rI0 fun i j => .bl (decide (i < j))) (tDGet (tFld K (tVar 0) "capacities") (tVar 5)) (tDGet (tVar 1) (tVar 5)))) (te := tVar 5) rfl sc_cut_of.nd rfl rfl (sw_true rfl rfl rfl rfl) (pi_list (pe_meth (pv 0) T.cl_Grid T.m_path_to_first G_path_to_first (hr.mono (by decide)) T.b_path_to_first .nil pass0 (pa_cons (pv 3) pa_nil))) (blk_mk rfl) (fun _ _ _ _ _ => (pg_name (i := 5) sc_cut_of.nd rfl (Or.inl rfl))) (fun _ _ _ _ _ => (pts_one (pt_cmpR op_lt (pe_dget hu (pe_fld (pv 0) rfl) (pv 5) (fun _ _ => rfl)) (pe_dget hu (pv 1) (pv 5) (fun _ _ => rfl)) (nomark _)))) (fun _ _ _ _ _ => (pv 5)))
      (pss_one (ps_if (pt_cmpR (op_eqD hr.units) (pv 4) (pe_lst (pa_cons (pv 3) pa_nil)) (nomark _)) (pss_one (ps_expr (pe_bm PySem.F.plainAttrs_list PySem.F.slot_list_append PySem.F.type_list_append mt_append (pv 2) (pa_cons (pv 3) pa_nil)))) pss_nil))))
      (pss_one (ps_ret (pv 2)))))), ?_⟩
    refine ⟨_, rfl, g, N, rfl, GG, W, fun H1 d hd hd0 s1 => ?_⟩
    refine ⟨Nat.zero_le _, fun q hq0 => ?_⟩
    have hq0H : H q = none := s1.free hq0
    have s2 : Same H1 (upd H1 q (.lst [])) := Same.new hq0
    have sH2 : Same H (upd H1 q (.lst [])) := s1.trans s2
    refine ⟨_, rfl, g, dx, _, rfl, sH2 _ _ G.ob, rfl, g, N, rfl, GG.same sH2, h12, fun H3 pn hpn hpn0 s3 => ?_⟩
    have hq3 : H3 q = some (.lst []) := s3 _ _ upd_same
    have hd3 : H3 d = some (.dK (intK N.feeders.length (wish N))) := s3 _ _ (s2 _ _ hd)
    have npq : pn ≠ q := fun e => by rw [e] at hpn0; rw [upd_same] at hpn0; cases hpn0
    have dq : d ≠ q := ne_of_none hd hq0
    have sH3 : Same H H3 := sH2.trans s3
    refine ⟨pn, rfl, ⟨_, SqL.of hpn⟩, for_list (K := K) (a := pn) (xs := feedV (List.range N.feeders.length)) (fun i σ' H' => ∃ v3 v4 v5 : Option V, σ' = [some (.ref g), some (.ref d), some (.ref q), v3, v4, v5] ∧
        H' q = some (.lst (feedV (((List.range N.feeders.length).take i).filter fun v => stops N v && !((path N v).drop 1).any fun w => stops N w))) ∧ But q H3 H')
      ⟨none, none, none, rfl, hq3, fun b o _ e => e⟩ (fun i σ' H' _ ⟨_, _, _, _, _, kp⟩ => SqL.of (kp _ _ npq hpn)) ?_ ?_⟩
    · rintro i x σ' H' hx ⟨v3, v4, v5, rfl, hq4, kp⟩
      obtain ⟨v, hv, rfl⟩ := map_some hx
      obtain ⟨rfl, hvl⟩ := range_at hv
      have sm : Same H H' := But.same sH3 kp hq0H
      have hd4 := kp _ _ dq hd3
      refine ⟨_, rfl, g, dx, _, rfl, sm _ _ G.ob, rfl, _, rfl, g, v, N, rfl, GG.same sm, Tr, h12, hvl, fun H5 pp hpp hpp0 s5 => ⟨pp, rfl, ⟨_, SqL.of hpp⟩, fun D hD =>
        lc_by (ys := (path N v).map fun u => if stops N u = true then some (V.int ((u : Int) + 1)) else none) hD (goes_list (SqL.of hpp)) ?_ ?_ ?_ (fun H6 hD6 s6 => ?_)⟩⟩
      · unfold feedV
        rw [List.length_map, List.length_map]
      · unfold feedV
        rw [List.length_map, sizeLine_eq]
        have := path_len Tr v hvl
        omega
      · intro t x o H6 hx2 ho sm6 Nx Y h1 h2
        obtain ⟨u, hu1, rfl⟩ := map_some hx2
        obtain ⟨u', hu2, rfl⟩ := map_some ho
        have eu : u = u' := Option.some.inj (hu1.symm.trans hu2)
        subst eu
        have hul : u < N.feeders.length := path_lt Tr hvl u (List.mem_of_getElem? hu1)
        have s56 : Same H' H6 := s5.trans sm6
        refine ⟨rfl, _, rfl, g, A.C_Grid, dx, _, _, rfl, s56 _ _ (sm _ _ G.ob), T.cl_Grid, T.n_Grid_capacities, rfl, _, rfl, c, _, rfl, caps_get (.inl (s56 _ _ (sm _ _ G.caps))) hul, _, rfl, _, rfl, d, _, rfl, intK_get (s56 _ _ hd4) hul, _, _, rfl, rfl, _, rfl, ?_⟩
        have es : stops N u = decide (capOf N u < wish N u) := rfl
        by_cases e : capOf N u < wish N u
        · rw [decide_eq_true e]
          exact iteT ⟨_, rfl, h2 _ (by rw [es, decide_eq_true e]; rfl) H6 (Same.refl _)⟩
        · rw [decide_eq_false e]
          exact iteF (h1 (by rw [es, decide_eq_false e]; rfl) H6 (Same.refl _))
      rw [filt_some] at hD6
      have hD7 : H6 D = some (.lst (intsV (((path N v).filter fun w => stops N w).map fun (u : Nat) => (u : Int) + 1))) := by
        rw [hD6, ← feed_ints]
        rfl
      have sH6 : Same H' H6 := s5.trans s6
      refine ⟨_, rfl, _, rfl, (by show 1 ≤ sizeLine; decide), fun l1 hl1 => ?_⟩
      have s7 : Same H6 (upd H6 l1 (.lst [V.int ((v : Int) + 1)])) := Same.new hl1
      have hl2 : (upd H6 l1 (.lst [V.int ((v : Int) + 1)])) l1 = some (.lst (intsV ([v].map fun (u : Nat) => (u : Int) + 1))) := upd_same
      have hq6 : (upd H6 l1 (.lst [V.int ((v : Int) + 1)])) q = _ := s7 _ _ (sH6 _ _ hq4)
      have hD8 := s7 _ _ hD7
      have kp7 : But q H3 (upd H6 l1 (.lst [V.int ((v : Int) + 1)])) := fun b o hb e => s7 _ _ (sH6 _ _ (kp b o hb e))
      generalize upd H6 l1 (.lst [V.int ((v : Int) + 1)]) = H7 at s7 hl2 hq6 hD8 kp7
      refine ⟨_, _, dpList (SqL.of hD8), dpList (SqL.of hl2), shapedInts _, shapedInts _, _, rfl, ?_⟩
      rw [eqvList]
      have e1 : decide (((path N v).filter fun w => stops N w).map (fun (u : Nat) => (u : Int) + 1) = [v].map fun (u : Nat) => (u : Int) + 1) = (stops N v && !((path N v).drop 1).any fun w => stops N w) := by
        rw [← Pd.cut_at Tr hvl]
        refine decide_eq_decide.mpr ⟨fun z => ?_, fun z => by rw [z]⟩
        exact (List.map_inj_right (f := fun (u : Nat) => (u : Int) + 1) fun x y q => by omega).mp z
      rw [e1]
      by_cases hc : (stops N v && !((path N v).drop 1).any fun w => stops N w) = true
      · rw [hc]
        refine iteT ⟨_, rfl, .inl ⟨rfl, _, SqL.of hq6⟩, _, rfl, q, _, _, rfl, rfl, hq6, ?_, ?_⟩
        · unfold feedV
          rw [List.length_map, sizeLine_eq]
          refine Nat.lt_of_le_of_lt (List.length_filter_le _ _) ?_
          rw [List.length_take, List.length_range]
          omega
        refine ⟨_, _, _, rfl, ?_, fun b o hb e => by rw [upd_ne hb]; exact kp7 b o hb e⟩
        rw [upd_same, cut_take Tr hvl, if_pos hc]
        unfold feedV
        rw [List.map_append]
        rfl
      · have hc2 : (stops N v && !((path N v).drop 1).any fun w => stops N w) = false := by simpa using hc
        rw [hc2]
        refine iteF ⟨_, _, _, rfl, ?_, kp7⟩
        rw [cut_take Tr hvl, if_neg hc, List.append_nil]
        exact hq6
    · rintro σ' H4 ⟨v3, v4, v5, rfl, hq4, kp⟩
      have el : (feedV (List.range N.feeders.length)).length = N.feeders.length := by unfold feedV; rw [List.length_map, List.length_range]
      rw [el] at hq4
      have et : (List.range N.feeders.length).take N.feeders.length = List.range N.feeders.length := List.take_of_length_le (by rw [List.length_range]; exact Nat.le_refl _)
      rw [et] at hq4
      exact ⟨_, rfl, k H4 q hq4 hq0H (But.same sH3 kp hq0H)⟩
theorem inV_feed (f : Nat) : ∀ l : List Nat, inV (V.int ((f : Int) + 1)) (feedV l) = decide (f ∈ l)
  | [] => by simp [inV, feedV]
  | a :: l => by
    have ih := inV_feed f l
    unfold inV feedV at ih ⊢
    rw [List.map_cons, List.any_cons, ih]
    have e : eqV (V.int ((a : Int) + 1)) (V.int ((f : Int) + 1)) = decide (f = a) := by
      show (((a : Int) + 1) == ((f : Int) + 1)) = _
      by_cases h : f = a
      · subst h; simp
      · rw [decide_eq_false h]
        simp
        omega
    rw [e]
    by_cases h : f = a <;> simp [h]
def sp_worth (K : PySem.W.Frag) (A : Ad) : Sp := fun vs H Q _ => ∃ (g a : Addr) (N : Net) (cs : List Nat), vs = [.ref g, .ref a] ∧ GV A H g N ∧ Good N ∧ SqL K H a (feedV cs) ∧ cs.length ≤ 12 ∧ (∀ v ∈ cs, v < N.feeders.length) ∧ ∀ (H' : Hp), Same H H' → Q (.int (cutWorth N cs)) H'
theorem ok_worth_of (T : Txt P w K mg A) : FnOk P w K mg base CX0 2 A.f_worth_of A.d_worth_of ["grid", "feeders"] (sp_worth K A) := by
  have G_path_to_first := ok_path_to_first (base := base) T
  refine T.F_worth_of.ok sc_worth_of (fun vs H Q E h => ?_) (fun cdv Ar outer s H vs Q E hr h => ?_)
  · obtain ⟨g, a, N, cs, rfl, _⟩ := h
    rfl
  · obtain ⟨g, a, N, cs, rfl, GG, W, sq, hcl, hcs, k⟩ := h
    have Tr := W.tree
    have h12 := W.f12
    obtain ⟨dx, c, h, p, l, ps, G⟩ := id GG
    have hu := hu_of hr
    refine ⟨_, (pss_cons (ps_set (i := 2) sc_worth_of.nd rfl (Or.inl rfl) (pe_callB (cr_sum rfl) (by rfl) T.n_sum bt_sum (pa_cons (pe_lc (own := [("feeder", 5)]) (te := tDGet (tFld K (tVar 0) "capacities") (tVar 5)) rfl sc_worth_of.nd (pi_list (pv 1)) (blk_mk rfl) (fun _ _ _ _ _ => (pg_name (i := 5) sc_worth_of.nd rfl (Or.inl rfl))) (fun _ _ _ _ _ => pts_nil) (fun _ _ _ _ _ => (pe_dget hu (pe_fld (pv 0) rfl) (pv 5) (fun _ _ => rfl)))) pa_nil)))
      (pss_cons (ps_for PassesOwn.never rfl (pi_list (pe_fld (pv 0) rfl)) (pg_name (i := 3) sc_worth_of.nd rfl (Or.inl rfl)) (pss_cons (ps_set (i := 4) sc_worth_of.nd rfl (Or.inr rfl) (pe_meth (pv 0) T.cl_Grid T.m_path_to_first G_path_to_first (hr.mono (by decide)) T.b_path_to_first .nil pass0 (pa_cons (pe_fld (pv 3) rfl) pa_nil)))
      (pss_one (ps_if (pt_not (pt_val (pe_callB (cr_any rfl) (by rfl) T.n_any bt_any (pa_cons (pe_lc (own := [("feeder", 5)]) (te := tOp (rIn K false) (tVar 5) (tVar 4)) rfl sc_worth_of.nd (pi_list (pv 1)) (blk_mk rfl) (fun _ _ _ _ _ => (pg_name (i := 5) sc_worth_of.nd rfl (Or.inl rfl))) (fun _ _ _ _ _ => pts_nil) (fun _ _ _ _ _ => (pe_cmpR op_in_seq (pv 5) (pv 4) (by rfl)))) pa_nil)))) (pss_one (ps_aug (i := 2) sc_worth_of.nd rfl (Or.inl rfl) (pe_fld (pv 3) rfl) ip_add)) pss_nil))))
      (pss_one (ps_ret (pv 2))))), ?_⟩
    have hfl : (feedV cs).length = cs.length := List.length_map _
    refine ⟨_, rfl, a, rfl, ⟨_, sq⟩, fun D hD => lc_map (ys := intsV (cs.map fun v => capOf N v)) hD (goes_list sq) ?_ ?_ ?_ (fun H1 hD1 s1 => ?_) gName_mono⟩
    · unfold feedV intsV
      rw [List.length_map, List.length_map, List.length_map]
    · rw [hfl, sizeLine_eq]
      omega
    · intro i x y H' hx hy sm Y hY
      obtain ⟨v, hv, rfl⟩ := map_some hx
      obtain ⟨z, hz, rfl⟩ := map_some hy
      obtain ⟨v', hv', rfl⟩ := map_some hz
      have ev : v = v' := Option.some.inj (hv.symm.trans hv')
      subst ev
      have hvl := hcs v (List.mem_of_getElem? hv)
      exact ⟨rfl, _, rfl, g, A.C_Grid, dx, _, _, rfl, sm _ _ G.ob, T.cl_Grid, T.n_Grid_capacities, rfl, _, rfl, c, _, rfl, caps_get (.inl (sm _ _ G.caps)) hvl, hY H' (Same.refl _)⟩
    refine ⟨D, _, rfl, SqL.of hD1, ?_⟩
    refine ⟨_, rfl, g, A.C_Grid, dx, _, _, rfl, s1 _ _ G.ob, T.cl_Grid, T.n_Grid_plants, rfl, p, rfl, ⟨_, SqL.of (s1 _ _ G.lst)⟩,
      for_by H (fun i σ' H' => ∃ (v3 v4 v5 : Option V), σ' = [some (.ref g), some (.ref a), some (.int ((cs.map fun v => capOf N v).sum + unmet N cs (N.plants.take i))), v3, v4, v5] ∧ Same H H') (goes_list (SqL.of G.lst))
      ⟨none, none, none, ?_, s1⟩ (fun i σ' H' ⟨_, _, _, _, sm⟩ => sm) ?_ ?_⟩
    · have e0 : unmet N cs (N.plants.take 0) = 0 := by simp [unmet]
      rw [e0, Int.add_zero]
      rfl
    · rintro i x σ' H' hx ⟨v3, v4, v5, rfl, sm⟩
      obtain ⟨a', ha', rfl⟩ := map_some hx
      have hil : i < N.plants.length := by rw [← G.len]; exact (List.getElem?_eq_some_iff.mp ha').1
      have hq : N.plants[i]? = some N.plants[i] := List.getElem?_eq_getElem hil
      generalize N.plants[i] = q at hq
      obtain ⟨da, hpl⟩ := G.at_ i a' q ha' hq
      have hat : q.at_ < N.feeders.length := Tr.at_ q (List.mem_of_getElem? hq)
      refine ⟨_, rfl, g, dx, _, rfl, sm _ _ G.ob, rfl, _, rfl, a', A.C_Plant, da, _, _, rfl, sm _ _ hpl, T.cl_Plant, T.n_Plant_feeder, rfl, g, q.at_, N, rfl, GG.same sm, Tr, h12, hat, fun H2 pp hpp hpp0 s2 => ?_⟩
      have sq2 := s2.seq (sm.seq sq)
      refine ⟨_, rfl, a, rfl, ⟨_, sq2⟩, fun D2 hD2 => lc_map (ys := (cs.map fun f => decide (f ∈ path N q.at_)).map V.bl) hD2 (goes_list sq2) ?_ ?_ ?_ (fun H3 hD3 s3 => ?_) gName_mono⟩
      · rw [hfl, List.length_map, List.length_map]
      · rw [hfl, sizeLine_eq]
        omega
      · intro t x y H4 hx2 hy sm4 Y hY
        obtain ⟨v, hv, rfl⟩ := map_some hx2
        obtain ⟨z, hz, rfl⟩ := map_some hy
        obtain ⟨v', hv', rfl⟩ := map_some hz
        have ev : v = v' := Option.some.inj (hv.symm.trans hv')
        subst ev
        refine ⟨rfl, _, rfl, _, rfl, pp, _, rfl, .inl (SqL.of (sm4 _ _ hpp)), rfl, ?_, ?_⟩
        · unfold feedV
          rw [List.all_map]
          exact List.all_eq_true.mpr fun _ _ => rfl
        · have := hY H4 (Same.refl _)
          rw [← inV_feed] at this
          exact this
      refine ⟨D2, _, rfl, SqL.of hD3, _, rfl, ?_⟩
      have e1 : ((cs.map fun f => decide (f ∈ path N q.at_)).any id) = cs.any fun f => decide (f ∈ path N q.at_) := by
        rw [List.any_map]
        rfl
      rw [e1, take_succ hq]
      have s123 : Same H H3 := (sm.trans s2).trans s3
      have es := Pd.unmet_snoc N cs (N.plants.take i) q
      cases e2 : cs.any fun f => decide (f ∈ path N q.at_) with
      | true =>
        rw [e2, if_pos rfl, Int.add_zero] at es
        refine iteF ⟨some (V.ref a'), some (V.ref pp), v5, ?_, s123⟩
        rw [es]
        rfl
      | false =>
        rw [e2, if_neg Bool.false_ne_true] at es
        refine iteT ⟨_, rfl, _, rfl, a', A.C_Plant, da, _, _, rfl, s123 _ _ hpl, T.cl_Plant, T.n_Plant_want, rfl, _, _, rfl, rfl, some (V.ref a'), some (V.ref pp), v5, ?_, s123⟩
        rw [es, ← Int.add_assoc]
        rfl
    · rintro σ' H' ⟨v3, v4, v5, rfl, sm⟩
      have elp : (ps.map V.ref).length = N.plants.length := by rw [List.length_map, G.len]
      rw [elp, List.take_length]
      refine ⟨_, rfl, ?_⟩
      rw [← Pd.worth_eq]
      exact k H' sm
end
end Pt
end
section
set_option Elab.async false
set_option linter.all false
set_option maxRecDepth 100000
set_option maxHeartbeats 1000000
namespace L2
open PySem PySem.Spec PyProof.Rows
theorem for_zipT {K : PySem.W.Frag} {a b : Addr} {xs ys : List V} {g : TG} {tb : TS} {D : Ends} {σ : St} {H : Hp} (H0 : Hp) (Pv : Nat → St → Hp → Prop) (qa : ∀ H, SqT K H a xs) (qb : SqL K H0 b ys) (hl : xs.length = ys.length) (h0 : Pv 0 σ H) (hs0 : ∀ i σ H, Pv i σ H → Same H0 H)
    (hs : ∀ (i : Nat) (x y : V) (σ : St) (H : Hp) (t : Addr), xs[i]? = some x → ys[i]? = some y → Pv i σ H → H t = none → g (.ref t) σ (upd H t (.tup [x, y])) fun σ2 H2 => tb { D with nx := Pv (i + 1), ct := Pv (i + 1), bk := D.nx } σ2 H2)
    (hd : ∀ σ H, Pv xs.length σ H → D.nx σ H) :
    ∃ W : Nat → Nat → St → Hp → Prop, (∃ m, W 0 m σ H) ∧ ∀ i m σ H, W i m σ H →
      ((Itzt K a b).stop i H ∧ D.nx σ H) ∨ ((Itzt K a b).go i H ∧ ∃ N : St → Hp → Prop, (∀ σ' H', N σ' H' → ∃ m', m' < m ∧ W (i + 1) m' σ' H') ∧ ∀ x H', (Itzt K a b).yld i H x H' → g x σ H' fun σ2 H2 => tb { D with nx := N, ct := N, bk := D.nx } σ2 H2) := by
  refine ⟨fun i m σ H => m = xs.length - i ∧ i ≤ xs.length ∧ Pv i σ H, ⟨xs.length, by simp, Nat.zero_le _, h0⟩, ?_⟩
  rintro i m σ H ⟨rfl, hi, p⟩
  have sm := hs0 i σ H p
  by_cases hlt : i < xs.length
  · refine .inr ⟨⟨xs, ys, xs[i], ys[i], qa H, sm.seq qb, List.getElem?_eq_getElem hlt, List.getElem?_eq_getElem (by omega)⟩, Pv (i + 1), fun σ' H' p' => ⟨xs.length - (i + 1), by omega, rfl, hlt, p'⟩, fun x H' y => ?_⟩
    obtain ⟨t, x1, y1, e1, ht, e2, e3, e4⟩ := y
    subst e1 e2
    exact hs i x1 y1 σ H t (e3 xs (qa H)) (e4 ys (sm.seq qb)) p ht
  · have e : i = xs.length := by omega
    subst e
    exact .inl ⟨⟨xs, ys, qa H, sm.seq qb, Nat.le_refl _, by omega⟩, hd σ H p⟩
theorem pe_globR {X : Cx} {x : Str} {a : Addr} {pos : Pos} (hg : Gl X x) (hm : X.mg x = some (.ref a)) (hd : (x == ("__debug__" : Str)) = false := by decide) : PE X (.Name x pos) (tC (.ref a)) := pe_glob hg hm (show RelV (.ref a) (.ref a) from rfl) hd
end L2
namespace Pt
open PySem PySem.Spec PyProof.Rows L2
open Pd (Kind B18 R18)
section
variable {P : Program} {w : World} {K : PySem.W.Frag} {mg : Str → Option Value} {base : Heap} {A : Ad}
inductive Kd | any | amount | feeder | rule
def Kd.str : Kd → Str
  | .any => "any"
  | .amount => "amount"
  | .feeder => "feeder"
  | .rule => "rule"
def Kd.lo : Kd → Int
  | .any => -1000000000000000000
  | .amount => 0
  | .feeder => 1
  | .rule => 0
def Kd.hi : Kd → Int
  | .any => 1000000000000000000
  | .amount => 1000000000
  | .feeder => 12
  | .rule => 1
def Kd.ok (k : Kd) (n : Int) : Bool := decide (k.lo ≤ n) && decide (n ≤ k.hi)
def Kd.v (k : Kd) : V := .str k.str
def sp_kind : Sp := fun vs H Q _ => ∃ (n : Int) (k : Kd), vs = [.int n, k.v] ∧ Q (.bl (k.ok n)) H
theorem range_at_ (T : Txt P w K mg A) (k : Kd) : ∃ kvs t, KD P w K A.t_RANGES kvs ∧ valV kvs (Sum.inr k.str : Key) = some (.ref t) ∧ KTup K t [.int k.lo, .int k.hi] := by
  cases k with
  | any => exact ⟨_, A.t_RANGES_0, T.kd_RANGES, rfl, T.q_RANGES_0⟩
  | amount => exact ⟨_, A.t_RANGES_1, T.kd_RANGES, rfl, T.q_RANGES_1⟩
  | feeder => exact ⟨_, A.t_RANGES_2, T.kd_RANGES, rfl, T.q_RANGES_2⟩
  | rule => exact ⟨_, A.t_RANGES_3, T.kd_RANGES, rfl, T.q_RANGES_3⟩
theorem ok_is_of_kind (T : Txt P w K mg A) : FnOk P w K mg base CX0 1 A.f_is_of_kind A.d_is_of_kind ["number", "kind"] sp_kind := by
  refine T.F_is_of_kind.ok sc_is_of_kind (fun vs H Q E h => ?_) (fun cdv Ar outer s H vs Q E hr h => ?_)
  · obtain ⟨n, k, rfl, _⟩ := h
    rfl
  · obtain ⟨n, kd, rfl, k⟩ := h
    obtain ⟨kvs, t, hkd, hval, hq⟩ := range_at_ T kd
    refine ⟨_, (pss_cons (ps_set (i := 2) sc_is_of_kind.nd rfl (Or.inl rfl) (pe_kget (pe_globR rfl T.g_RANGES) (pv 1) (fun _ _ => rfl)))
      (pss_one (ps_ret (pe_chain op_le op_le (pe_ix ix_tup (pv 2) pe_int (fun _ _ => rfl)) (pv 0) (pe_ix ix_tup (pv 2) pe_int (fun _ _ => rfl)))))), ?_⟩
    refine ⟨_, rfl, A.t_RANGES, kvs, Sum.inr kd.str, _, rfl, hkd, rfl, hval, ?_⟩
    refine ⟨_, rfl, t, _, 0, _, rfl, rfl, hq.sq H, rfl, _, rfl, _, _, rfl, rfl, _, rfl, ?_⟩
    unfold Kd.ok at k
    by_cases h1 : kd.lo ≤ n
    · rw [decide_eq_true h1] at k ⊢
      refine iteT ⟨_, rfl, t, _, 1, _, rfl, rfl, hq.sq H, rfl, _, _, rfl, rfl, k⟩
    · rw [decide_eq_false h1] at k ⊢
      exact iteF k
def sp_ranges (P : Program) (w : World) (K : PySem.W.Frag) (A : Ad) : Sp := fun vs H Q _ => ∃ (ca dca a r t : Addr) (k : Int) (xs row : List Int) (ks : List Kd) (rk : Kd), vs = [.ref ca] ∧ H ca = some (.ins A.C_Call dca (cf k a r)) ∧ SqL K H a (intsV xs) ∧ SqL K H r (intsV row) ∧ row.length ≤ 20 ∧
  (∃ kvs, KD P w K A.t_NUMBER_KINDS kvs ∧ valV kvs (Sum.inl k : Key) = some (.ref t)) ∧ KTup K t (ks.map Kd.v) ∧ ks.length = xs.length ∧ (row ≠ [] → ∃ kvs, KD P w K A.t_ROW_KINDS kvs ∧ valV kvs (Sum.inl k : Key) = some rk.v) ∧
  ∀ H' : Hp, Same H H' → Q (.bl (decide (row.length ≤ 12) && (((ks.zip xs).all fun y => y.1.ok y.2) && row.all rk.ok))) H'
theorem zip_take_all {α β : Type} (f : α → β → Bool) : ∀ {ks : List α} {xs : List β}, ks.length = xs.length → (∀ (i : Nat) k x, ks[i]? = some k → xs[i]? = some x → f k x = true) → ((ks.zip xs).all fun y => f y.1 y.2) = true
  | [], _, _, _ => rfl
  | k :: ks, [], h, _ => by simp at h
  | k :: ks, x :: xs, h, g => by
    rw [List.zip_cons_cons, List.all_cons, g 0 k x rfl rfl, zip_take_all f (by simpa using h) fun i a b ha hb => g (i + 1) a b (by simpa using ha) (by simpa using hb)]
    rfl
theorem zip_not_all {α β : Type} (f : α → β → Bool) : ∀ {ks : List α} {xs : List β} {i : Nat} {k : α} {x : β}, ks[i]? = some k → xs[i]? = some x → f k x = false → ((ks.zip xs).all fun y => f y.1 y.2) = false := by
  intro ks xs i k x hk hx hf
  have hz : (ks.zip xs)[i]? = some (k, x) := by rw [List.getElem?_zip_eq_some]; exact ⟨hk, hx⟩
  exact List.all_eq_false.mpr ⟨(k, x), List.mem_of_getElem? hz, by simp [hf]⟩
theorem ok_is_in_ranges (T : Txt P w K mg A) : FnOk P w K mg base CX0 2 A.f_is_in_ranges A.d_is_in_ranges ["call"] (sp_ranges P w K A) := by
  have G_is_of_kind := ok_is_of_kind (base := base) T
  refine T.F_is_in_ranges.ok sc_is_in_ranges (fun vs H Q E h => ?_) (fun cdv Ar outer s H vs Q E hr h => ?_)
  · obtain ⟨ca, dca, a, r, t, k, xs, row, ks, rk, rfl, _⟩ := h
    rfl
  · obtain ⟨ca, dca, a, r, t, kk, xs, row, ks, rk, rfl, hca, sqa, sqr, h20, ⟨kvs, hkd, hval⟩, hkt, hkl, hrk, k⟩ := h
    refine ⟨_, (pss_cons (ps_if (pt_cmpR op_gt (pe_callB call_len_seq (by rfl) T.n_len bt_len (pa_cons (pe_fld (pv 0) rfl) pa_nil)) (pe_globI rfl T.g_MOST_IN_ROW) (nomark _)) (pss_one (ps_ret pe_bl)) pss_nil)
      (pss_cons (ps_for PassesOwn.never rfl (pi_zipT rfl T.n_zip (pa_cons (pe_kget (pe_globR rfl T.g_NUMBER_KINDS) (pe_fld (pv 0) rfl) (fun _ _ => rfl)) (pa_cons (pe_fld (pv 0) rfl) pa_nil))) (pg_tup rfl (pgs_cons (pg_name (i := 1) sc_is_in_ranges.nd rfl (Or.inl rfl)) (pgs_cons (pg_name (i := 2) sc_is_in_ranges.nd rfl (Or.inl rfl)) pgs_nil))) (pss_one (ps_if (pt_not (pt_val (pe_call G_is_of_kind (hr.mono (by decide)) rfl T.g_is_of_kind T.F_is_of_kind.kp T.b_is_of_kind .nil pass0 (pa_cons (pv 2) (pa_cons (pv 1) pa_nil))))) (pss_one (ps_ret pe_bl)) pss_nil)))
      (pss_one (ps_ret (pe_callB (cr_all rfl) (by rfl) T.n_all bt_all (pa_cons (pe_lc (own := [("number", 2)]) (te := tCall sp_kind [] E0 (tCons (tVar 2) (tCons (tKGet P w K (tC (.ref A.t_ROW_KINDS)) (tFld K (tVar 0) "number")) tNil))) rfl sc_is_in_ranges.nd (pi_list (pe_fld (pv 0) rfl)) (blk_mk rfl) (fun _ _ _ _ _ => (pg_name (i := 2) sc_is_in_ranges.nd rfl (Or.inl rfl))) (fun _ _ _ _ _ => pts_nil) (fun _ _ _ _ _ => (pe_call G_is_of_kind (hr.mono (by decide)) rfl T.g_is_of_kind T.F_is_of_kind.kp T.b_is_of_kind .nil pass0 (pa_cons (pv 2) (pa_cons (pe_kget (pe_globR rfl T.g_ROW_KINDS) (pe_fld (pv 0) rfl) (fun _ _ => rfl)) pa_nil))))) pa_nil)))))), ?_⟩
    have elr : (intsV row).length = row.length := List.length_map _
    refine ⟨_, rfl, ca, A.C_Call, dca, _, _, rfl, hca, T.cl_Call, T.n_Call_row, rfl, r, _, rfl, .inl sqr, _, _, rfl, rfl, _, rfl, ?_⟩
    rw [elr]
    by_cases h12 : (12 : Int) < (row.length : Int)
    · rw [decide_eq_true h12]
      have := k H (Same.refl _)
      rw [decide_eq_false (by omega : ¬ row.length ≤ 12), Bool.false_and] at this
      exact iteT this
    rw [decide_eq_false h12]
    refine iteF ?_
    rw [decide_eq_true (by omega : row.length ≤ 12)] at k
    refine ⟨_, rfl, ca, A.C_Call, dca, _, _, rfl, hca, T.cl_Call, T.n_Call_number, rfl, A.t_NUMBER_KINDS, kvs, Sum.inl kk, _, rfl, hkd, rfl, hval, _, rfl, ca, A.C_Call, dca, _, _, rfl, hca, T.cl_Call, T.n_Call_numbers, rfl, t, a, _, _, rfl, hkt.sq H, sqa,
      for_zipT H (fun i σ' H' => ∃ (v1 v2 : Option V), σ' = [some (.ref ca), v1, v2] ∧ (∀ (j : Nat) kd x, j < i → ks[j]? = some kd → xs[j]? = some x → kd.ok x = true) ∧ Same H H') hkt.sq sqa
      (by unfold intsV; rw [List.length_map, List.length_map, hkl]) ⟨none, none, rfl, fun j q x hj => absurd hj (Nat.not_lt_zero _), Same.refl H⟩ (fun i σ' H' ⟨_, _, _, _, sm⟩ => sm) ?_ ?_⟩
    · rintro i x y σ' H' tt hx hy ⟨v1, v2, rfl, hok, sm⟩ ht
      obtain ⟨kd, hkd', rfl⟩ := map_some hx
      obtain ⟨z, hz, rfl⟩ := map_some hy
      have st : Same H' (upd H' tt (.tup [kd.v, V.int z])) := Same.new ht
      refine ⟨tt, _, rfl, .inl (Rd.of upd_same), rfl, _, _, rfl, _, _, rfl, rfl, ?_⟩
      refine ⟨_, rfl, _, rfl, z, kd, rfl, _, rfl, ?_⟩
      cases e : kd.ok z with
      | true =>
        refine iteF ⟨_, _, rfl, fun j kd' x' hj hk' hx' => ?_, sm.trans st⟩
        by_cases ej : j = i
        · subst ej
          rw [← Option.some.inj (hkd'.symm.trans hk'), ← Option.some.inj (hz.symm.trans hx')]
          exact e
        · exact hok j kd' x' (by omega) hk' hx'
      | false =>
        have := k _ (sm.trans st)
        rw [zip_not_all Kd.ok hkd' hz e] at this
        exact iteT this
    rintro σ' H1 ⟨v1, v2, rfl, hok, s1⟩
    have elk : (ks.map Kd.v).length = ks.length := List.length_map _
    rw [elk] at hok
    rw [zip_take_all Kd.ok hkl fun i kd x hk hx => hok i kd x (List.getElem?_eq_some_iff.mp hk).1 hk hx] at k
    refine ⟨_, rfl, ca, A.C_Call, dca, _, _, rfl, s1 _ _ hca, T.cl_Call, T.n_Call_row, rfl, r, rfl, ⟨_, s1.seq sqr⟩, fun D hD => lc_map (ys := (row.map rk.ok).map V.bl) hD (goes_list (s1.seq sqr)) ?_ ?_ ?_ (fun H2 hD2 s2 => ?_) gName_mono⟩
    · unfold intsV
      rw [List.length_map, List.length_map, List.length_map]
    · rw [elr, sizeLine_eq]
      omega
    · intro i x y H' hx hy sm Y hY
      obtain ⟨z, hz, rfl⟩ := map_some hx
      obtain ⟨b, hb, rfl⟩ := map_some hy
      obtain ⟨z', hz', rfl⟩ := map_some hb
      have ez : z = z' := Option.some.inj (hz.symm.trans hz')
      subst ez
      obtain ⟨kvs2, hkd2, hval2⟩ := hrk (fun e => by rw [e] at hz; simp at hz)
      exact ⟨rfl, _, rfl, _, rfl, ca, A.C_Call, dca, _, _, rfl, sm _ _ (s1 _ _ hca), T.cl_Call, T.n_Call_number, rfl, A.t_ROW_KINDS, kvs2, Sum.inl kk, _, rfl, hkd2, rfl, hval2, z, rk, rfl, hY H' (Same.refl _)⟩
    refine ⟨D, _, rfl, SqL.of hD2, ?_⟩
    have := k H2 (s1.trans s2)
    rw [Bool.true_and, Bool.true_and] at this
    have e2 : ((row.map rk.ok).all id) = row.all rk.ok := by
      rw [List.all_map]
      rfl
    rw [e2]
    exact this
def numOf (c : List (List Int)) : Int := (c.headD []).headD 0
def numsOf (c : List (List Int)) : List Int := (c.headD []).drop 1
def rowOf (c : List (List Int)) : List Int := c.getD 1 []
def numKd (p : Int) : List Kd := if p = 0 then [.amount] else if p = 1 then [.feeder, .amount] else if p = 2 then [.feeder, .amount] else if p = 3 then [.feeder, .amount] else if p = 4 then [.any, .amount] else if p = 5 then [.any] else if p = 10 then [.rule] else if p = 11 then [.feeder] else if p = 14 then [.rule] else if p = 16 then [.any] else []
def rowKd (p : Int) : Kd := if p = 7 then .any else if p = 13 then .amount else .feeder
def isRow (p : Int) : Bool := decide (p = 7) || (decide (p = 13) || decide (p = 15))
structure Told1 (P : Program) (w : World) (K : PySem.W.Frag) (A : Ad) (c : List (List Int)) : Prop where
  kinds : ∃ t, (∃ kvs, KD P w K A.t_NUMBER_KINDS kvs ∧ valV kvs (Sum.inl (numOf c) : Key) = some (.ref t)) ∧ KTup K t ((numKd (numOf c)).map Kd.v)
  len : (numKd (numOf c)).length = (numsOf c).length
  rowk : rowOf c ≠ [] → ∃ kvs, KD P w K A.t_ROW_KINDS kvs ∧ valV kvs (Sum.inl (numOf c) : Key) = some (rowKd (numOf c)).v
  isr : ∃ kvs, KD P w K A.t_ROW_KINDS kvs ∧ (valV kvs (Sum.inl (numOf c) : Key)).isSome = isRow (numOf c)
  flat : PyFlat.put1 c = numOf c :: (numsOf c ++ if isRow (numOf c) = true then ((rowOf c).length : Int) :: rowOf c else [])
  norow : isRow (numOf c) = false → rowOf c = []
  r20 : (rowOf c).length ≤ 20
  ans : ∃ (kvs : List (Key × V)), KD P w K A.t_ANSWER_OF kvs ∧ (valV kvs (Sum.inl (numOf c) : Key)).isSome = true
theorem told1 (T : Txt P w K mg A) {c : List (List Int)} (h : Kind c) : Told1 P w K A c := by
  cases h with
  | open_ x _ => exact ⟨⟨A.t_NUMBER_KINDS_0, ⟨_, T.kd_NUMBER_KINDS, rfl⟩, T.q_NUMBER_KINDS_0⟩, rfl, fun h => absurd rfl h, ⟨_, T.kd_ROW_KINDS, rfl⟩, rfl, fun _ => rfl, Nat.zero_le _, ⟨_, T.kd_ANSWER_OF, rfl⟩⟩
  | feeder x y _ _ => exact ⟨⟨A.t_NUMBER_KINDS_1, ⟨_, T.kd_NUMBER_KINDS, rfl⟩, T.q_NUMBER_KINDS_1⟩, rfl, fun h => absurd rfl h, ⟨_, T.kd_ROW_KINDS, rfl⟩, rfl, fun _ => rfl, Nat.zero_le _, ⟨_, T.kd_ANSWER_OF, rfl⟩⟩
  | cap x y _ _ => exact ⟨⟨A.t_NUMBER_KINDS_2, ⟨_, T.kd_NUMBER_KINDS, rfl⟩, T.q_NUMBER_KINDS_2⟩, rfl, fun h => absurd rfl h, ⟨_, T.kd_ROW_KINDS, rfl⟩, rfl, fun _ => rfl, Nat.zero_le _, ⟨_, T.kd_ANSWER_OF, rfl⟩⟩
  | plant x y _ _ => exact ⟨⟨A.t_NUMBER_KINDS_3, ⟨_, T.kd_NUMBER_KINDS, rfl⟩, T.q_NUMBER_KINDS_3⟩, rfl, fun h => absurd rfl h, ⟨_, T.kd_ROW_KINDS, rfl⟩, rfl, fun _ => rfl, Nat.zero_le _, ⟨_, T.kd_ANSWER_OF, rfl⟩⟩
  | want x y _ _ => exact ⟨⟨A.t_NUMBER_KINDS_4, ⟨_, T.kd_NUMBER_KINDS, rfl⟩, T.q_NUMBER_KINDS_4⟩, rfl, fun h => absurd rfl h, ⟨_, T.kd_ROW_KINDS, rfl⟩, rfl, fun _ => rfl, Nat.zero_le _, ⟨_, T.kd_ANSWER_OF, rfl⟩⟩
  | leave x _ => exact ⟨⟨A.t_NUMBER_KINDS_5, ⟨_, T.kd_NUMBER_KINDS, rfl⟩, T.q_NUMBER_KINDS_5⟩, rfl, fun h => absurd rfl h, ⟨_, T.kd_ROW_KINDS, rfl⟩, rfl, fun _ => rfl, Nat.zero_le _, ⟨_, T.kd_ANSWER_OF, rfl⟩⟩
  | byAge => exact ⟨⟨A.t_NUMBER_KINDS_6, ⟨_, T.kd_NUMBER_KINDS, rfl⟩, T.q_NUMBER_KINDS_6⟩, rfl, fun h => absurd rfl h, ⟨_, T.kd_ROW_KINDS, rfl⟩, rfl, fun _ => rfl, Nat.zero_le _, ⟨_, T.kd_ANSWER_OF, rfl⟩⟩
  | by_ u hu => exact ⟨⟨A.t_NUMBER_KINDS_7, ⟨_, T.kd_NUMBER_KINDS, rfl⟩, T.q_NUMBER_KINDS_7⟩, rfl, fun _ => ⟨_, T.kd_ROW_KINDS, rfl⟩, ⟨_, T.kd_ROW_KINDS, rfl⟩, by simp [PyFlat.put1, PyFlat.putRows, PyFlat.putRow, numOf, numsOf, rowOf, isRow], (fun h => by cases h), hu.1, ⟨_, T.kd_ANSWER_OF, rfl⟩⟩
  | even => exact ⟨⟨A.t_NUMBER_KINDS_8, ⟨_, T.kd_NUMBER_KINDS, rfl⟩, T.q_NUMBER_KINDS_8⟩, rfl, fun h => absurd rfl h, ⟨_, T.kd_ROW_KINDS, rfl⟩, rfl, fun _ => rfl, Nat.zero_le _, ⟨_, T.kd_ANSWER_OF, rfl⟩⟩
  | total => exact ⟨⟨A.t_NUMBER_KINDS_9, ⟨_, T.kd_NUMBER_KINDS, rfl⟩, T.q_NUMBER_KINDS_9⟩, rfl, fun h => absurd rfl h, ⟨_, T.kd_ROW_KINDS, rfl⟩, rfl, fun _ => rfl, Nat.zero_le _, ⟨_, T.kd_ANSWER_OF, rfl⟩⟩
  | flows x _ => exact ⟨⟨A.t_NUMBER_KINDS_10, ⟨_, T.kd_NUMBER_KINDS, rfl⟩, T.q_NUMBER_KINDS_10⟩, rfl, fun h => absurd rfl h, ⟨_, T.kd_ROW_KINDS, rfl⟩, rfl, fun _ => rfl, Nat.zero_le _, ⟨_, T.kd_ANSWER_OF, rfl⟩⟩
  | room x _ => exact ⟨⟨A.t_NUMBER_KINDS_11, ⟨_, T.kd_NUMBER_KINDS, rfl⟩, T.q_NUMBER_KINDS_11⟩, rfl, fun h => absurd rfl h, ⟨_, T.kd_ROW_KINDS, rfl⟩, rfl, fun _ => rfl, Nat.zero_le _, ⟨_, T.kd_ANSWER_OF, rfl⟩⟩
  | cut => exact ⟨⟨A.t_NUMBER_KINDS_12, ⟨_, T.kd_NUMBER_KINDS, rfl⟩, T.q_NUMBER_KINDS_12⟩, rfl, fun h => absurd rfl h, ⟨_, T.kd_ROW_KINDS, rfl⟩, rfl, fun _ => rfl, Nat.zero_le _, ⟨_, T.kd_ANSWER_OF, rfl⟩⟩
  | check u hu => exact ⟨⟨A.t_NUMBER_KINDS_13, ⟨_, T.kd_NUMBER_KINDS, rfl⟩, T.q_NUMBER_KINDS_13⟩, rfl, fun _ => ⟨_, T.kd_ROW_KINDS, rfl⟩, ⟨_, T.kd_ROW_KINDS, rfl⟩, by simp [PyFlat.put1, PyFlat.putRows, PyFlat.putRow, numOf, numsOf, rowOf, isRow], (fun h => by cases h), hu.1, ⟨_, T.kd_ANSWER_OF, rfl⟩⟩
  | down x _ => exact ⟨⟨A.t_NUMBER_KINDS_14, ⟨_, T.kd_NUMBER_KINDS, rfl⟩, T.q_NUMBER_KINDS_14⟩, rfl, fun h => absurd rfl h, ⟨_, T.kd_ROW_KINDS, rfl⟩, rfl, fun _ => rfl, Nat.zero_le _, ⟨_, T.kd_ANSWER_OF, rfl⟩⟩
  | worth u hu => exact ⟨⟨A.t_NUMBER_KINDS_15, ⟨_, T.kd_NUMBER_KINDS, rfl⟩, T.q_NUMBER_KINDS_15⟩, rfl, fun _ => ⟨_, T.kd_ROW_KINDS, rfl⟩, ⟨_, T.kd_ROW_KINDS, rfl⟩, by simp [PyFlat.put1, PyFlat.putRows, PyFlat.putRow, numOf, numsOf, rowOf, isRow], (fun h => by cases h), hu.1, ⟨_, T.kd_ANSWER_OF, rfl⟩⟩
  | without x _ => exact ⟨⟨A.t_NUMBER_KINDS_16, ⟨_, T.kd_NUMBER_KINDS, rfl⟩, T.q_NUMBER_KINDS_16⟩, rfl, fun h => absurd rfl h, ⟨_, T.kd_ROW_KINDS, rfl⟩, rfl, fun _ => rfl, Nat.zero_le _, ⟨_, T.kd_ANSWER_OF, rfl⟩⟩
  | book => exact ⟨⟨A.t_NUMBER_KINDS_17, ⟨_, T.kd_NUMBER_KINDS, rfl⟩, T.q_NUMBER_KINDS_17⟩, rfl, fun h => absurd rfl h, ⟨_, T.kd_ROW_KINDS, rfl⟩, rfl, fun _ => rfl, Nat.zero_le _, ⟨_, T.kd_ANSWER_OF, rfl⟩⟩
end
end Pt
end
section
set_option Elab.async false
set_option linter.all false
set_option maxRecDepth 100000
set_option maxHeartbeats 1000000
namespace Pt
open PySem PySem.Spec PyProof.Rows L2
open Pd (Kind B18 R18)
open PyFlat (put put1)
section
variable {P : Program} {w : World} {K : PySem.W.Frag} {mg : Str → Option Value} {base : Heap} {A : Ad}
def CallAt (A : Ad) (Ho H : Hp) (a : Addr) (c : List (List Int)) : Prop := ∃ dca na ra : Addr, Ho a = none ∧ Ho na = none ∧ Ho ra = none ∧
  H a = some (.ins A.C_Call dca (cf (numOf c) na ra)) ∧ H na = some (.lst (intsV (numsOf c))) ∧ H ra = some (.lst (intsV (rowOf c)))
def CallsAt (A : Ad) (Ho H : Hp) (cas : List Addr) (cs : List (List (List Int))) : Prop := cas.length = cs.length ∧ ∀ (j : Nat) (a : Addr) (c : List (List Int)), cas[j]? = some a → cs[j]? = some c → CallAt A Ho H a c
theorem CallAt.keep {Ho H H' : Hp} {a : Addr} {c : List (List Int)} (h : CallAt A Ho H a c) (k : ∀ b o, Ho b = none → H b = some o → H' b = some o) : CallAt A Ho H' a c := by
  obtain ⟨d, n, r, h1, h2, h3, h4, h5, h6⟩ := h
  exact ⟨d, n, r, h1, h2, h3, k _ _ h1 h4, k _ _ h2 h5, k _ _ h3 h6⟩
theorem CallsAt.keep {Ho H H' : Hp} {cas : List Addr} {cs : List (List (List Int))} (h : CallsAt A Ho H cas cs) (k : ∀ b o, Ho b = none → H b = some o → H' b = some o) : CallsAt A Ho H' cas cs :=
  ⟨h.1, fun j a c ha hc => (h.2 j a c ha hc).keep k⟩
theorem CallsAt.old {Ho Ho' H : Hp} {cas : List Addr} {cs : List (List (List Int))} (h : CallsAt A Ho H cas cs) (k : ∀ b, Ho b = none → Ho' b = none) : CallsAt A Ho' H cas cs :=
  ⟨h.1, fun j a c ha hc => let ⟨d, n, r, h1, h2, h3, h4⟩ := h.2 j a c ha hc; ⟨d, n, r, k _ h1, k _ h2, k _ h3, h4⟩⟩
theorem CallsAt.snoc {Ho H : Hp} {cas : List Addr} {cs : List (List (List Int))} {a : Addr} {c : List (List Int)} (h : CallsAt A Ho H cas cs) (h1 : CallAt A Ho H a c) : CallsAt A Ho H (cas ++ [a]) (cs ++ [c]) := by
  refine ⟨by simp [h.1], fun j a' c' ha hc => ?_⟩
  by_cases hj : j < cas.length
  · rw [List.getElem?_append_left hj] at ha
    rw [List.getElem?_append_left (by rw [← h.1]; exact hj)] at hc
    exact h.2 j a' c' ha hc
  · have hj2 : j = cas.length := by
      have := (List.getElem?_eq_some_iff.mp ha).1
      simp at this
      omega
    subst hj2
    have e1 : a = a' := by simpa using ha
    have e2 : c = c' := by
      rw [h.1] at hc
      simpa using hc
    subst e1 e2
    exact h1
theorem put_append : ∀ a b : List (List (List Int)), put (a ++ b) = put a ++ put b
  | [], b => rfl
  | c :: a, b => by
    show put1 c ++ put (a ++ b) = put1 c ++ put a ++ put b
    rw [put_append a b, List.append_assoc]
theorem put_at {cs : List (List (List Int))} {i : Nat} {c : List (List Int)} (h : cs[i]? = some c) : put cs = put (cs.take i) ++ (put1 c ++ put (cs.drop (i + 1))) ∧ put (cs.take (i + 1)) = put (cs.take i) ++ put1 c := by
  obtain ⟨hi, e⟩ := List.getElem?_eq_some_iff.mp h
  have e1 : cs = cs.take i ++ c :: cs.drop (i + 1) := by
    rw [← e, List.getElem_cons_drop, List.take_append_drop]
  refine ⟨?_, ?_⟩
  · conv => lhs; rw [e1]
    rw [put_append]
    rfl
  · rw [take_succ h, put_append]
    show _ ++ (put1 c ++ []) = _
    rw [List.append_nil]
theorem cut_mid {l pre mid post : List Int} (e : l = pre ++ (mid ++ post)) {lo hi : Int} (hlo : lo = (pre.length : Nat)) (hhi : hi = ((pre.length + mid.length : Nat) : Int)) : cutV (intsV l) (some lo) (some hi) = intsV mid := by
  subst e hlo hhi
  have hl : (intsV (pre ++ (mid ++ post))).length = pre.length + (mid.length + post.length) := by unfold intsV; rw [List.length_map, List.length_append, List.length_append]
  unfold cutV
  rw [HT.sIx_nat, HT.sIx_nat, hl]
  have e1 : min pre.length (pre.length + (mid.length + post.length)) = pre.length := by omega
  have e2 : min (pre.length + mid.length) (pre.length + (mid.length + post.length)) - pre.length = mid.length := by omega
  rw [e1, e2]
  unfold intsV
  have l1 : (pre.map V.int).length = pre.length := List.length_map _
  have l2 : (mid.map V.int).length = mid.length := List.length_map _
  rw [List.map_append, List.map_append, ← l1, List.drop_left, ← l2, List.take_left]
theorem at_mid {l pre post : List Int} {x z : Int} (e : l = pre ++ x :: post) (hz : z = (pre.length : Nat)) : atI (intsV l) z = some (V.int x) := by
  subst e hz
  exact lst_at (by simp)
def sp_split (K : PySem.W.Frag) (A : Ad) : Sp := fun vs H Q _ => ∃ (ca : Addr) (cs : List (List (List Int))), vs = [.ref ca] ∧ SqL K H ca (intsV (put cs)) ∧ (∀ c ∈ cs, Kind c) ∧ cs.length ≤ 200 ∧
  ∀ (H' : Hp) (p : Addr) (cas : List Addr), H' p = some (.lst (cas.map V.ref)) → CallsAt A H H' cas cs → H p = none → Same H H' → Q (.ref p) H'
theorem ok_split_calls (T : Txt P w K mg A) : FnOk P w K mg base CX0 3 A.f_split_calls A.d_split_calls ["calls"] (sp_split K A) := by
  have G_call_init := ok_call_init (base := base) T
  refine T.F_split_calls.ok sc_split_calls (fun vs H Q E h => ?_) (fun cdv Ar outer s H vs Q E hr h => ?_)
  · obtain ⟨ca, cs, rfl, _⟩ := h
    rfl
  · obtain ⟨ca, cs, rfl, sq, hk, h200, k⟩ := h
    refine ⟨_, (pss_cons (ps_set (i := 1) sc_split_calls.nd rfl (Or.inl rfl) (pe_lst pa_nil))
      (pss_cons (ps_set (i := 2) sc_split_calls.nd rfl (Or.inl rfl) pe_int)
      (pss_cons (ps_while PassesOwn.never (pt_cmpR op_lt (pv 2) (pe_callB call_len_seq (by rfl) T.n_len bt_len (pa_cons (pv 0) pa_nil)) (nomark _)) (pss_cons (ps_set (i := 3) sc_split_calls.nd rfl (Or.inl rfl) (pe_ix ix_list (pv 0) (pv 2) (fun _ _ => rfl)))
      (pss_cons (ps_set (i := 4) sc_split_calls.nd rfl (Or.inl rfl) (pe_op op_add (pe_op op_add (pv 2) pe_int) (pe_callB call_len_seq (by rfl) T.n_len bt_len (pa_cons (pe_kget2 (pe_globR rfl T.g_NUMBER_KINDS) (pv 3) (pe_tup pa_nil) ⟨rfl, rfl, rfl, rfl⟩) pa_nil))))
      (pss_cons (ps_set (i := 5) sc_split_calls.nd rfl (Or.inl rfl) (pe_slice sl_list (pv 0) (po_some (pe_op op_add (pv 2) pe_int)) (po_some (pv 4))))
      (pss_cons (ps_set (i := 2) sc_split_calls.nd rfl (Or.inl rfl) (pv 4))
      (pss_cons (ps_set (i := 6) sc_split_calls.nd rfl (Or.inl rfl) (pe_lst pa_nil))
      (pss_cons (ps_if (pt_cmp (pc_kin (pv 3) (pe_globR rfl T.g_ROW_KINDS)) (by rfl)) (pss_cons (ps_set (i := 2) sc_split_calls.nd rfl (Or.inl rfl) (pe_op op_add (pe_op op_add (pv 4) pe_int) (pe_ix ix_list (pv 0) (pv 4) (fun _ _ => rfl))))
      (pss_one (ps_set (i := 6) sc_split_calls.nd rfl (Or.inl rfl) (pe_slice sl_list (pv 0) (po_some (pe_op op_add (pv 4) pe_int)) (po_some (pv 2)))))) pss_nil)
      (pss_one (ps_expr (pe_bm PySem.F.plainAttrs_list PySem.F.slot_list_append PySem.F.type_list_append mt_append (pv 1) (pa_cons (pe_make T.mk_Call G_call_init (hr.mono (by decide)) rfl T.g_Call T.b_call_init .nil pass0 (pa_cons (pv 3) (pa_cons (pv 5) (pa_cons (pv 6) pa_nil)))) pa_nil)))))))))))
      (pss_one (ps_ret (pv 1)))))), ?_⟩
    refine ⟨Nat.zero_le _, fun f hf0 => ?_⟩
    have s0 : Same H (upd H f (.lst [])) := Same.new hf0
    have hff : (upd H f (.lst [])) f = some (.lst ([].map V.ref)) := upd_same
    have hnew : ∀ b, (upd H f (.lst [])) b = none → H b = none := fun b hb => s0.free hb
    generalize upd H f (.lst []) = H1 at s0 hff hnew
    have el : (intsV (put cs)).length = (put cs).length := List.length_map _
    refine ⟨fun m σ' H' => ∃ (i : Nat) (cas : List Addr) (v3 v4 v5 v6 : Option V), m = cs.length - i ∧ i ≤ cs.length ∧ σ' = [some (.ref ca), some (.ref f), some (.int ((put (cs.take i)).length : Nat)), v3, v4, v5, v6] ∧ H' f = some (.lst (cas.map V.ref)) ∧ CallsAt A H1 H' cas (cs.take i) ∧ But f H1 H',
      ⟨_, 0, [], none, none, none, none, rfl, Nat.zero_le _, rfl, hff, ⟨rfl, fun j a c ha => by simp at ha⟩, fun b o _ e => e⟩, ?_⟩
    rintro m σ' H' ⟨i, cas, v3, v4, v5, v6, rfl, hi, rfl, hf, hC, kp⟩
    have sm : Same H H' := fun b o e => kp b o (ne_of_none e hf0) (s0 b o e)
    refine ⟨_, rfl, _, rfl, ca, _, rfl, .inl (sm.seq sq), _, _, rfl, rfl, _, rfl, ?_⟩
    rw [el]
    by_cases hlt : i < cs.length
    · have hc : cs[i]? = some cs[i] := List.getElem?_eq_getElem hlt
      generalize cs[i] = c at hc
      have T1 := told1 T (hk c (List.mem_of_getElem? hc))
      obtain ⟨e1, e2⟩ := put_at hc
      have efl := T1.flat
      have hlen1 : (put (cs.take i)).length < (put cs).length := by
        rw [e1, List.length_append, List.length_append, efl, List.length_cons]
        omega
      rw [decide_eq_true (by omega : ((put (cs.take i)).length : Int) < ((put cs).length : Int))]
      refine iteT ⟨fun σ' H'' => ∃ m', m' < cs.length - i ∧ ∃ (i : Nat) (cas : List Addr) (v3 v4 v5 v6 : Option V), m' = cs.length - i ∧ i ≤ cs.length ∧ σ' = [some (.ref ca), some (.ref f), some (.int ((put (cs.take i)).length : Nat)), v3, v4, v5, v6] ∧ H'' f = some (.lst (cas.map V.ref)) ∧ CallsAt A H1 H'' cas (cs.take i) ∧ But f H1 H'', fun σ' H'' q => q, ?_⟩
      have hcl : cas.length = i := by
        rw [hC.1, List.length_take]
        omega
      generalize hp : put (cs.take i) = pre at *
      obtain ⟨t, ⟨kvs, hkd, hval⟩, hkt⟩ := T1.kinds
      have hkl : ((numKd (numOf c)).map Kd.v).length = (numsOf c).length := by rw [List.length_map]; exact T1.len
      refine ⟨_, rfl, _, rfl, ca, _, _, _, rfl, rfl, sm.seq sq, at_mid (x := numOf c) (post := (numsOf c ++ if isRow (numOf c) = true then ((rowOf c).length : Int) :: rowOf c else []) ++ put (cs.drop (i + 1))) (by rw [e1, efl]; rfl) rfl, ?_⟩
      refine ⟨_, rfl, _, _, rfl, rfl, A.t_NUMBER_KINDS, kvs, rfl, hkd, _, rfl, Nat.zero_le _, fun e0 he0 => ⟨Sum.inl (numOf c), rfl, t, _, (by rw [hval]; rfl), .inr (hkt.sq _), _, _, rfl, rfl, ?_⟩⟩
      rw [hkl]
      have s2 : Same H' (upd H' e0 (.tup [])) := Same.new he0
      generalize upd H' e0 (.tup []) = H2 at s2
      have enum : cutV (intsV (put cs)) (some ((pre.length : Int) + 1)) (some ((pre.length : Int) + 1 + ((numsOf c).length : Int))) = intsV (numsOf c) :=
        cut_mid (pre := pre ++ [numOf c]) (post := (if isRow (numOf c) = true then ((rowOf c).length : Int) :: rowOf c else []) ++ put (cs.drop (i + 1))) (by rw [e1, efl]; simp) (by simp) (by simp)
      refine ⟨_, rfl, _, rfl, _, _, rfl, rfl, _, rfl, _, rfl, _, rfl, ca, _, rfl, s2.seq (sm.seq sq), fun n hn0 => ?_⟩
      have enum' : cutV (intsV (put cs)) (some ((fun i j => i + j) (pre.length : Int) 1)) (some ((fun i j => i + j) ((fun i j => i + j) (pre.length : Int) 1) ((numsOf c).length : Int))) = intsV (numsOf c) := enum
      have hn2 : (upd H2 n (.lst (cutV (intsV (put cs)) (some ((pre.length : Int) + 1)) (some ((pre.length : Int) + 1 + ((numsOf c).length : Int)))))) n = some (.lst (intsV (numsOf c))) := by rw [upd_same, enum]
      have s3 : Same H2 (upd H2 n (.lst (cutV (intsV (put cs)) (some ((pre.length : Int) + 1)) (some ((pre.length : Int) + 1 + ((numsOf c).length : Int)))))) := Same.new hn0
      refine ⟨_, rfl, Nat.zero_le _, fun r0 hr0 => ?_⟩
      have s4 : Same H2 (upd (upd H2 n (.lst (cutV (intsV (put cs)) (some ((pre.length : Int) + 1)) (some ((pre.length : Int) + 1 + ((numsOf c).length : Int)))))) r0 (.lst [])) := s3.on (s3.free hr0)
      have hn4 : (upd (upd H2 n (.lst (cutV (intsV (put cs)) (some ((pre.length : Int) + 1)) (some ((pre.length : Int) + 1 + ((numsOf c).length : Int)))))) r0 (.lst [])) n = some (.lst (intsV (numsOf c))) := by
        rw [upd_ne (ne_of_none hn2 hr0)]
        exact hn2
      have hr4 : (upd (upd H2 n (.lst (cutV (intsV (put cs)) (some ((pre.length : Int) + 1)) (some ((pre.length : Int) + 1 + ((numsOf c).length : Int)))))) r0 (.lst [])) r0 = some (.lst []) := upd_same
      have sH4 := s2.trans s4
      have hr0' : H' r0 = none := s2.free (s3.free hr0)
      have hn0' : H' n = none := s2.free hn0
      revert sH4 hn4 hr4
      generalize upd (upd H2 n (.lst (cutV (intsV (put cs)) (some ((pre.length : Int) + 1)) (some ((pre.length : Int) + 1 + ((numsOf c).length : Int)))))) r0 (.lst []) = H4
      intro hn4 hr4 sH4
      obtain ⟨kvs2, hkd2, hval2⟩ := T1.isr
      refine ⟨_, rfl, A.t_ROW_KINDS, kvs2, Sum.inl (numOf c), rfl, hkd2, rfl, _, rfl, ?_⟩
      rw [hval2]
      have fresh : ∀ b, H' b = none → H1 b = none := fun b hb => by
        cases e : H1 b with
        | none => rfl
        | some o =>
          by_cases hbf : b = f
          · rw [hbf, hf] at hb; cases hb
          · rw [kp b o hbf e] at hb; cases hb
      have kp4 : But f H1 H4 := fun b o hb e => sH4 _ _ (kp b o hb e)
      have hf4 := sH4 _ _ hf
      have hC4 : CallsAt A H1 H4 cas (cs.take i) := hC.keep fun b o _ e => sH4 _ _ e
      have take1 : cs.take (i + 1) = cs.take i ++ [c] := take_succ hc
      have flen : (cas.map V.ref).length < sizeLine := by
        rw [List.length_map, hcl, sizeLine_eq]
        omega
      cases hrow : isRow (numOf c) with
      | false =>
        refine iteF ?_
        have hro := T1.norow hrow
        rw [hrow] at efl
        refine ⟨_, rfl, .inl ⟨rfl, _, SqL.of hf4⟩, _, rfl, _, rfl, _, rfl, fun x d hx hd hdx => ⟨x, d, _, n, r0, rfl, upd_same, fun H5 h5 kp5 => ⟨rfl, f, _, _, rfl, rfl, ?_, flen, ?_⟩⟩⟩
        · exact made_same hx hd kp5 _ _ hf4
        have s5 := made_same hx hd kp5
        have xf : x ≠ f := fun e => by rw [e, hf4] at hx; cases hx
        have el2 : ((pre ++ put1 c).length : Int) = (pre.length : Int) + 1 + ((numsOf c).length : Int) := by
          rw [efl]
          simp
          omega
        refine ⟨cs.length - (i + 1), by omega, i + 1, cas ++ [x], some (V.int (numOf c)), some (V.int ((pre.length : Int) + 1 + ((numsOf c).length : Int))), some (V.ref n), some (V.ref r0), rfl, hlt, ?_, ?_, ?_, ?_⟩
        · rw [e2, el2]
          rfl
        · rw [upd_same, List.map_append]
          rfl
        · rw [take1]
          refine (hC4.keep fun b o hb e => ?_).snoc ⟨d, n, r0, fresh x (sH4.free hx), fresh n hn0', fresh r0 hr0', ?_, ?_, ?_⟩
          · rw [upd_ne (fun e2 => by rw [e2] at hb; rw [hff] at hb; cases hb)]
            exact s5 _ _ e
          · rw [upd_ne xf]
            exact h5
          · rw [upd_ne (fun e2 => by rw [e2, hf] at hn0'; cases hn0')]
            exact s5 _ _ hn4
          · rw [upd_ne (fun e2 => by rw [e2, hf] at hr0'; cases hr0'), hro]
            exact s5 _ _ hr4
        · intro b o hb e
          rw [upd_ne hb]
          exact s5 _ _ (kp4 b o hb e)
      | true =>
        rw [hrow, if_pos rfl] at efl
        have sq4 := sH4.seq (sm.seq sq)
        refine iteT ⟨_, rfl, _, _, rfl, rfl, _, rfl, _, rfl, ca, _, _, _, rfl, rfl, sq4, at_mid (pre := pre ++ numOf c :: numsOf c) (x := ((rowOf c).length : Int)) (post := rowOf c ++ put (cs.drop (i + 1))) (by rw [e1, efl]; simp) (by simp; omega), _, _, rfl, rfl, ?_⟩
        refine ⟨_, rfl, _, rfl, _, _, rfl, rfl, _, rfl, _, rfl, _, rfl, ca, _, rfl, sq4, fun r1 hr1 => ?_⟩
        have erow : cutV (intsV (put cs)) (some ((pre.length : Int) + 1 + ((numsOf c).length : Int) + 1)) (some ((pre.length : Int) + 1 + ((numsOf c).length : Int) + 1 + ((rowOf c).length : Int))) = intsV (rowOf c) :=
          cut_mid (pre := pre ++ numOf c :: numsOf c ++ [((rowOf c).length : Int)]) (post := put (cs.drop (i + 1))) (by rw [e1, efl]; simp) (by simp; omega) (by simp; omega)
        have s5 : Same H4 (upd H4 r1 (.lst (cutV (intsV (put cs)) (some ((pre.length : Int) + 1 + ((numsOf c).length : Int) + 1)) (some ((pre.length : Int) + 1 + ((numsOf c).length : Int) + 1 + ((rowOf c).length : Int)))))) := Same.new hr1
        have hr5 : (upd H4 r1 (.lst (cutV (intsV (put cs)) (some ((pre.length : Int) + 1 + ((numsOf c).length : Int) + 1)) (some ((pre.length : Int) + 1 + ((numsOf c).length : Int) + 1 + ((rowOf c).length : Int)))))) r1 = some (.lst (intsV (rowOf c))) := by rw [upd_same, erow]
        have hr1' : H' r1 = none := sH4.free hr1
        revert s5 hr5
        show _ → _ → _
        generalize upd H4 r1 (.lst (cutV (intsV (put cs)) (some ((pre.length : Int) + 1 + ((numsOf c).length : Int) + 1)) (some ((pre.length : Int) + 1 + ((numsOf c).length : Int) + 1 + ((rowOf c).length : Int))))) = H5
        intro s5 hr5
        have hf5 := s5 _ _ hf4
        refine ⟨_, rfl, .inl ⟨rfl, _, SqL.of hf5⟩, _, rfl, _, rfl, _, rfl, fun x d hx hd hdx => ⟨x, d, _, n, r1, rfl, upd_same, fun H6 h6 kp6 => ⟨rfl, f, _, _, rfl, rfl, ?_, flen, ?_⟩⟩⟩
        · exact made_same hx hd kp6 _ _ hf5
        have s6 := made_same hx hd kp6
        have xf : x ≠ f := fun e => by rw [e, hf5] at hx; cases hx
        have el2 : ((pre ++ put1 c).length : Int) = (pre.length : Int) + 1 + ((numsOf c).length : Int) + 1 + ((rowOf c).length : Int) := by
          rw [efl]
          simp
          omega
        refine ⟨cs.length - (i + 1), by omega, i + 1, cas ++ [x], some (V.int (numOf c)), some (V.int ((pre.length : Int) + 1 + ((numsOf c).length : Int))), some (V.ref n), some (V.ref r1), rfl, hlt, ?_, ?_, ?_, ?_⟩
        · rw [e2, el2]
          rfl
        · rw [upd_same, List.map_append]
          rfl
        · rw [take1]
          refine (hC4.keep fun b o hb e => ?_).snoc ⟨d, n, r1, fresh x (sH4.free (s5.free hx)), fresh n hn0', fresh r1 hr1', ?_, ?_, ?_⟩
          · rw [upd_ne (fun e2 => by rw [e2] at hb; rw [hff] at hb; cases hb)]
            exact s6 _ _ (s5 _ _ e)
          · rw [upd_ne xf]
            exact h6
          · rw [upd_ne (fun e2 => by rw [e2, hf] at hn0'; cases hn0')]
            exact s6 _ _ (s5 _ _ hn4)
          · rw [upd_ne (fun e2 => by rw [e2, hf] at hr1'; cases hr1')]
            exact s6 _ _ hr5
        · intro b o hb e
          rw [upd_ne hb]
          exact s6 _ _ (s5 _ _ (kp4 b o hb e))
    · have e : i = cs.length := by omega
      subst e
      rw [List.take_length] at hC ⊢
      rw [decide_eq_false (by omega)]
      exact iteF ⟨_, rfl, k H' f cas hf (hC.old hnew) hf0 sm⟩
end
end Pt
end
section
set_option Elab.async false
set_option linter.all false
set_option maxRecDepth 100000
set_option maxHeartbeats 1000000
namespace Pd
open Vbemay
theorem place_none {N : Net} {n : Int} : (place N n).isNone = true ↔ ∀ q ∈ N.plants, q.num ≠ n := by
  unfold place
  rw [Option.isNone_iff_eq_none, List.find?_eq_none]
  constructor
  · intro h q hq e
    obtain ⟨i, hi, rfl⟩ := List.getElem_of_mem hq
    have := h i (List.mem_range.mpr hi)
    rw [List.getElem?_eq_getElem hi] at this
    simp [e] at this
  · intro h i hi
    have hi := List.mem_range.mp hi
    rw [List.getElem?_eq_getElem hi]
    simp
    exact h _ (List.getElem_mem hi)
theorem place_some {N : Net} {n : Int} {j : Nat} (h : place N n = some j) : ∃ q, N.plants[j]? = some q ∧ q.num = n := by
  unfold place at h
  have h1 := List.find?_some h
  have h2 := List.mem_of_find?_eq_some h
  have hj := List.mem_range.mp h2
  rw [List.getElem?_eq_getElem hj] at h1
  exact ⟨N.plants[j], List.getElem?_eq_getElem hj, by simpa using h1⟩
end Pd
namespace Pt
open PySem PySem.Spec PyProof.Rows L2
open Vbemay (Net Plant Feeder upOf capOf onNet inRange)
open Pd (WF)
section
variable {P : Program} {w : World} {K : PySem.W.Frag} {mg : Str → Option Value} {base : Heap} {A : Ad}
def GZ (A : Ad) (Z : Addr → Prop) (H : Hp) (g : Addr) (N : Net) : Prop := ∃ (dx c h p : Addr) (ps : List Addr), GM A H g N dx c h p ps ∧ ¬ Z g ∧ ¬ Z c ∧ ¬ Z h ∧ ¬ Z p ∧ ∀ a ∈ ps, ¬ Z a
def KeepZ (Z : Addr → Prop) (H H' : Hp) : Prop := ∀ b o, Z b → H b = some o → H' b = some o
def HasZ (Z : Addr → Prop) (H : Hp) : Prop := ∀ b, Z b → H b ≠ none
theorem GZ.same {Z : Addr → Prop} {H H' : Hp} {g : Addr} {N : Net} (G : GZ A Z H g N) (s : Same H H') : GZ A Z H' g N := by
  obtain ⟨dx, c, h, p, ps, G, r⟩ := G
  exact ⟨dx, c, h, p, ps, G.same s, r⟩
theorem GZ.gv {Z : Addr → Prop} {H : Hp} {g : Addr} {N : Net} (G : GZ A Z H g N) : GV A H g N := by
  obtain ⟨dx, c, h, p, ps, G, r⟩ := G
  exact G.gv
theorem HasZ.off {Z : Addr → Prop} {H : Hp} {b : Addr} (h : HasZ Z H) (hb : H b = none) : ¬ Z b := fun z => h b z hb
theorem HasZ.keep {Z : Addr → Prop} {H H' : Hp} (h : HasZ Z H) (k : KeepZ Z H H') : HasZ Z H' := fun b z e => by
  cases q : H b with
  | none => exact h b z q
  | some o => rw [k b o z q] at e; cases e
theorem KeepZ.of_same {Z : Addr → Prop} {H H' : Hp} (s : Same H H') : KeepZ Z H H' := fun b o _ e => s b o e
theorem KeepZ.trans {Z : Addr → Prop} {H H1 H2 : Hp} (a : KeepZ Z H H1) (b : KeepZ Z H1 H2) : KeepZ Z H H2 := fun x o z e => b x o z (a x o z e)
def CallZ (A : Ad) (Z : Addr → Prop) (H : Hp) (ca : Addr) (c : List (List Int)) : Prop := ∃ dca na ra : Addr, Z ca ∧ Z na ∧ Z ra ∧
  H ca = some (.ins A.C_Call dca (cf (numOf c) na ra)) ∧ H na = some (.lst (intsV (numsOf c))) ∧ H ra = some (.lst (intsV (rowOf c)))
theorem CallZ.keep {Z : Addr → Prop} {H H' : Hp} {ca : Addr} {c : List (List Int)} (h : CallZ A Z H ca c) (k : KeepZ Z H H') : CallZ A Z H' ca c := by
  obtain ⟨d, n, r, h1, h2, h3, h4, h5, h6⟩ := h
  exact ⟨d, n, r, h1, h2, h3, k _ _ h1 h4, k _ _ h2 h5, k _ _ h3 h6⟩
def Ans (A : Ad) (Z : Addr → Prop) (H : Hp) (g : Addr) (r : Net × List Int) (Q : VK) : Prop := ∀ (H' : Hp) (p : Addr), H' p = some (.lst (intsV r.2)) → GZ A Z H' g r.1 → KeepZ Z H H' → ¬ Z p → Q (.ref p) H'
theorem Ans.same {Z : Addr → Prop} {H H1 : Hp} {g : Addr} {N : Net} {l : List Int} {Q : VK} {p : Addr} {xs : List V} (k : Ans A Z H g (N, l) Q) (hZ : HasZ Z H) (G : GZ A Z H g N) (s : Same H H1) (hp : H1 p = none) (e : xs = intsV l) : Q (.ref p) (upd H1 p (.lst xs)) := by
  have s2 : Same H (upd H1 p (.lst xs)) := s.on (s.free hp)
  exact k _ p (by rw [upd_same, e]) (G.same s2) (KeepZ.of_same s2) (hZ.off (s.free hp))
theorem Ans.done {Z : Addr → Prop} {H H1 : Hp} {g : Addr} {N : Net} {l : List Int} {Q : VK} {p : Addr} {xs : List V} (k : Ans A Z H g (N, l) Q) (hZ : HasZ Z H) (G : GZ A Z H1 g N) (s : KeepZ Z H H1) (hp : H1 p = none) (e : xs = intsV l) : Q (.ref p) (upd H1 p (.lst xs)) := by
  have s2 : Same H1 (upd H1 p (.lst xs)) := Same.new hp
  exact k _ p (by rw [upd_same, e]) (G.same s2) (s.trans (KeepZ.of_same s2)) ((hZ.keep s).off hp)
def sp_on (A : Ad) (rel : List (List Int) → Vbemay.Call → Prop) : Sp := fun vs H Q _ => ∃ (g ca : Addr) (c : List (List Int)) (d : Vbemay.Call) (N : Net) (Z : Addr → Prop), vs = [.ref g, .ref ca] ∧ HasZ Z H ∧ CallZ A Z H ca c ∧ GZ A Z H g N ∧ WF N ∧ rel c d ∧ inRange d = true ∧ Ans A Z H g (onNet N d) Q
theorem feeder_of {N : Net} {u : Int} (h : Vbemay.isFeeder u = true) (hl : ¬ (N.feeders.length : Int) < u) : ∃ v : Nat, u = (v : Int) + 1 ∧ v < N.feeders.length ∧ Vbemay.idx u = v := by
  have := (Pd.isFeeder_iff.mp h).1
  exact ⟨(u - 1).toNat, by omega, by omega, rfl⟩
theorem has_no {N : Net} {u : Int} (hl : (N.feeders.length : Int) < u) : decide (1 ≤ u ∧ u ≤ (N.feeders.length : Int)) = false := decide_eq_false fun h => by omega
theorem has_yes {N : Net} {u : Int} (h : Vbemay.isFeeder u = true) (hl : ¬ (N.feeders.length : Int) < u) : decide (1 ≤ u ∧ u ≤ (N.feeders.length : Int)) = true := decide_eq_true ⟨(Pd.isFeeder_iff.mp h).1, by omega⟩
theorem lacks_yes {N : Net} {u : Int} (hl : (N.feeders.length : Int) < u) : Vbemay.lacks N u = true := Pd.lacks_iff.mpr hl
theorem lacks_no {N : Net} {u : Int} (hl : ¬ (N.feeders.length : Int) < u) : ¬ Vbemay.lacks N u = true := fun h => hl (Pd.lacks_iff.mp h)
def sp_open (A : Ad) : Sp := fun vs H Q _ => ∃ (g ca : Addr) (x : Int) (N : Net) (Z : Addr → Prop), vs = [.ref g, .ref ca] ∧ HasZ Z H ∧ CallZ A Z H ca [[0, x]] ∧ GZ A Z H g N ∧ Ans A Z H g (N1 x, [0]) Q
theorem ok_answer_begin (T : Txt P w K mg A) : FnOk P w K mg base CX0 2 A.f_answer_begin A.d_answer_begin ["grid", "call"] (sp_open A) := by
  have G_begin := ok_begin (base := base) T
  refine T.F_answer_begin.ok sc_answer_begin (fun vs H Q E h => ?_) (fun cdv Ar outer s H vs Q E hr h => ?_)
  · obtain ⟨g, ca, x, N, Z, rfl, _⟩ := h
    rfl
  · obtain ⟨g, ca, x, N, Z, rfl, hZ, ⟨dca, na, ra, _, _, _, hca, hna, hra⟩, ⟨dx, c, h, p, ps, G, zg, zc, zh, zp, zps⟩, k⟩ := h
    refine ⟨_, (pss_cons (ps_expr (pe_meth (pv 0) T.cl_Grid T.m_begin G_begin (hr.mono (by decide)) T.b_begin .nil pass0 (pa_cons (pe_ix ix_list (pe_fld (pv 1) rfl) pe_int (fun _ _ => rfl)) pa_nil)))
      (pss_one (ps_ret (pe_lst (pa_cons (pe_globI rfl T.g_ACCEPTED) pa_nil))))), ?_⟩
    refine ⟨_, rfl, g, dx, _, rfl, G.gx.ob, rfl, _, rfl, ca, A.C_Call, dca, _, _, rfl, hca, T.cl_Call, T.n_Call_numbers, rfl, na, _, 0, _, rfl, rfl, SqL.of hna, rfl, g, dx, c, h, p, _, x, rfl, G.gx.ob, fun H1 c1 h1 p1 G1 hc1 hh1 hp1 kp => ?_⟩
    refine ⟨(by show 1 ≤ sizeLine; decide), fun q hq => k.done hZ ⟨dx, c1, h1, p1, [], G1, zg, hZ.off hc1, hZ.off hh1, hZ.off hp1, fun a ha => by simp at ha⟩ (fun b o z e => kp b o (fun q => zg (by rw [← q]; exact z)) e) hq rfl⟩
theorem ok_answer_feeder (T : Txt P w K mg A) : FnOk P w K mg base CX0 2 A.f_answer_feeder A.d_answer_feeder ["grid", "call"] (sp_on A fun c d => ∃ u cp, c = [[1, u, cp]] ∧ d = .feeder u cp) := by
  have G_has_feeder := ok_has_feeder (base := base) T
  have G_add_feeder := ok_add_feeder (base := base) T
  refine T.F_answer_feeder.ok sc_answer_feeder (fun vs H Q E h => ?_) (fun cdv Ar outer s H vs Q E hr h => ?_)
  · obtain ⟨g, ca, c, d, N, Z, rfl, _⟩ := h
    rfl
  · obtain ⟨g, ca, c, d, N, Z, rfl, hZ, ⟨dca, na, ra, _, _, _, hca, hna, hra⟩, GG, W, ⟨u, cp, rfl, rfl⟩, hin, k⟩ := h
    obtain ⟨dx, c, h, p, ps, G, zg, zc, zh, zp, zps⟩ := id GG
    obtain ⟨hin1, hin2⟩ := Bool.and_eq_true_iff.mp (show (Vbemay.isFeeder u && Vbemay.isAmount cp) = true from hin)
    refine ⟨_, (pss_cons (ps_if (pt_not (pt_val (pe_meth (pv 0) T.cl_Grid T.m_has_feeder G_has_feeder (hr.mono (by decide)) T.b_has_feeder .nil pass0 (pa_cons (pe_ix ix_list (pe_fld (pv 1) rfl) pe_int (fun _ _ => rfl)) pa_nil)))) (pss_one (ps_ret (pe_lst (pa_cons (pe_globI rfl T.g_NO_FEEDER) pa_nil)))) pss_nil)
      (pss_cons (ps_if (pt_cmpR op_ge (pe_callB call_lenD (by rfl) T.n_len bt_len (pa_cons (pe_fld (pv 0) rfl) pa_nil)) (pe_globI rfl T.g_MOST_FEEDERS) (nomark _)) (pss_one (ps_ret (pe_lst (pa_cons (pe_globI rfl T.g_NO_PLACE) pa_nil)))) pss_nil)
      (pss_one (ps_ret (pe_lst (pa_cons (pe_globI rfl T.g_ACCEPTED) (pa_cons (pe_meth (pv 0) T.cl_Grid T.m_add_feeder G_add_feeder (hr.mono (by decide)) T.b_add_feeder .nil pass0 (pa_cons (pe_ix ix_list (pe_fld (pv 1) rfl) pe_int (fun _ _ => rfl)) (pa_cons (pe_ix ix_list (pe_fld (pv 1) rfl) pe_int (fun _ _ => rfl)) pa_nil))) pa_nil))))))), ?_⟩
    refine ⟨_, rfl, g, dx, _, rfl, G.gx.ob, rfl, _, rfl, ca, A.C_Call, dca, _, _, rfl, hca, T.cl_Call, T.n_Call_numbers, rfl, na, _, 0, _, rfl, rfl, SqL.of hna, rfl, g, N, u, rfl, G.gv, _, rfl, ?_⟩
    by_cases hl : (N.feeders.length : Int) < u
    · rw [has_no hl]
      have e : onNet N (.feeder u cp) = (N, [-3]) := by
        show (if Vbemay.lacks N u = true then (N, [-3]) else _) = _
        rw [if_pos (lacks_yes hl)]
      rw [e] at k
      exact iteT ⟨(by show 1 ≤ sizeLine; decide), fun q hq => k.same hZ GG (Same.refl H) hq rfl⟩
    rw [has_yes hin1 hl]
    refine iteF ⟨_, rfl, g, A.C_Grid, dx, _, _, rfl, G.gx.ob, T.cl_Grid, T.n_Grid_capacities, rfl, c, _, rfl, G.gx.caps, _, _, rfl, rfl, _, rfl, ?_⟩
    have el : (capsK N).length = N.feeders.length := tabK_len _ _
    rw [el]
    by_cases h12 : (12 : Int) ≤ (N.feeders.length : Int)
    · rw [decide_eq_true h12]
      have e : onNet N (.feeder u cp) = (N, [-4]) := by
        show (if Vbemay.lacks N u = true then (N, [-3]) else if Vbemay.FEEDERS ≤ N.feeders.length then (N, [-4]) else _) = _
        rw [if_neg (lacks_no hl), if_pos (by show 12 ≤ _; omega)]
      rw [e] at k
      exact iteT ⟨(by show 1 ≤ sizeLine; decide), fun q hq => k.same hZ GG (Same.refl H) hq rfl⟩
    rw [decide_eq_false h12]
    obtain ⟨v, hv, hvl, hiv⟩ := feeder_of hin1 hl
    have e : onNet N (.feeder u cp) = (withFeeder N v cp, [0, (N.feeders.length : Int) + 1]) := by
      show (if Vbemay.lacks N u = true then (N, [-3]) else if Vbemay.FEEDERS ≤ N.feeders.length then (N, [-4]) else _) = _
      rw [if_neg (lacks_no hl), if_neg (by show ¬ 12 ≤ _; omega), hiv]
      rfl
    rw [e] at k
    refine iteF ⟨_, rfl, g, dx, _, rfl, G.gx.ob, rfl, _, rfl, ca, A.C_Call, dca, _, _, rfl, hca, T.cl_Call, T.n_Call_numbers, rfl, na, _, 0, _, rfl, rfl, SqL.of hna, rfl, _, rfl, ca, A.C_Call, dca, _, _, rfl, hca, T.cl_Call, T.n_Call_numbers, rfl, na, _, 1, _, rfl, rfl, SqL.of hna, rfl,
      g, dx, c, h, p, N, ps, v, cp, by rw [← hv]; rfl, G, by omega, fun H1 G1 kp => ⟨(by show 2 ≤ sizeLine; decide), fun q hq => k.done hZ ⟨dx, c, h, p, ps, G1, zg, zc, zh, zp, zps⟩ (fun b o z e => kp b o (fun q => zc (by rw [← q]; exact z)) (fun q => zh (by rw [← q]; exact z)) e) hq rfl⟩⟩
theorem ok_answer_cap (T : Txt P w K mg A) : FnOk P w K mg base CX0 2 A.f_answer_cap A.d_answer_cap ["grid", "call"] (sp_on A fun c d => ∃ u cp, c = [[2, u, cp]] ∧ d = .cap u cp) := by
  have G_has_feeder := ok_has_feeder (base := base) T
  have G_set_capacity := ok_set_capacity (base := base) T
  refine T.F_answer_cap.ok sc_answer_cap (fun vs H Q E h => ?_) (fun cdv Ar outer s H vs Q E hr h => ?_)
  · obtain ⟨g, ca, c, d, N, Z, rfl, _⟩ := h
    rfl
  · obtain ⟨g, ca, c, d, N, Z, rfl, hZ, ⟨dca, na, ra, _, _, _, hca, hna, hra⟩, GG, W, ⟨u, cp, rfl, rfl⟩, hin, k⟩ := h
    obtain ⟨dx, c, h, p, ps, G, zg, zc, zh, zp, zps⟩ := id GG
    obtain ⟨hin1, hin2⟩ := Bool.and_eq_true_iff.mp (show (Vbemay.isFeeder u && Vbemay.isAmount cp) = true from hin)
    refine ⟨_, (pss_cons (ps_if (pt_not (pt_val (pe_meth (pv 0) T.cl_Grid T.m_has_feeder G_has_feeder (hr.mono (by decide)) T.b_has_feeder .nil pass0 (pa_cons (pe_ix ix_list (pe_fld (pv 1) rfl) pe_int (fun _ _ => rfl)) pa_nil)))) (pss_one (ps_ret (pe_lst (pa_cons (pe_globI rfl T.g_NO_FEEDER) pa_nil)))) pss_nil)
      (pss_cons (ps_expr (pe_meth (pv 0) T.cl_Grid T.m_set_capacity G_set_capacity (hr.mono (by decide)) T.b_set_capacity .nil pass0 (pa_cons (pe_ix ix_list (pe_fld (pv 1) rfl) pe_int (fun _ _ => rfl)) (pa_cons (pe_ix ix_list (pe_fld (pv 1) rfl) pe_int (fun _ _ => rfl)) pa_nil))))
      (pss_one (ps_ret (pe_lst (pa_cons (pe_globI rfl T.g_ACCEPTED) pa_nil)))))), ?_⟩
    refine ⟨_, rfl, g, dx, _, rfl, G.gx.ob, rfl, _, rfl, ca, A.C_Call, dca, _, _, rfl, hca, T.cl_Call, T.n_Call_numbers, rfl, na, _, 0, _, rfl, rfl, SqL.of hna, rfl, g, N, u, rfl, G.gv, _, rfl, ?_⟩
    by_cases hl : (N.feeders.length : Int) < u
    · rw [has_no hl]
      have e : onNet N (.cap u cp) = (N, [-3]) := by
        show (if Vbemay.lacks N u = true then (N, [-3]) else _) = _
        rw [if_pos (lacks_yes hl)]
      rw [e] at k
      exact iteT ⟨(by show 1 ≤ sizeLine; decide), fun q hq => k.same hZ GG (Same.refl H) hq rfl⟩
    rw [has_yes hin1 hl]
    obtain ⟨v, hv, hvl, hiv⟩ := feeder_of hin1 hl
    have e : onNet N (.cap u cp) = (withCap N v cp, [0]) := by
      show (if Vbemay.lacks N u = true then (N, [-3]) else _) = _
      rw [if_neg (lacks_no hl), hiv]
      rfl
    rw [e] at k
    refine iteF ⟨_, rfl, g, dx, _, rfl, G.gx.ob, rfl, _, rfl, ca, A.C_Call, dca, _, _, rfl, hca, T.cl_Call, T.n_Call_numbers, rfl, na, _, 0, _, rfl, rfl, SqL.of hna, rfl, _, rfl, ca, A.C_Call, dca, _, _, rfl, hca, T.cl_Call, T.n_Call_numbers, rfl, na, _, 1, _, rfl, rfl, SqL.of hna, rfl,
      g, dx, c, h, p, N, ps, v, cp, by rw [← hv]; rfl, G, hvl, W.most, fun H1 G1 kp => ?_⟩
    exact ⟨(by show 1 ≤ sizeLine; decide), fun q hq => k.done hZ ⟨dx, c, h, p, ps, G1, zg, zc, zh, zp, zps⟩ (fun b o z e => kp b o (fun q => zc (by rw [← q]; exact z)) e) hq rfl⟩
theorem ok_answer_plant (T : Txt P w K mg A) : FnOk P w K mg base CX0 4 A.f_answer_plant A.d_answer_plant ["grid", "call"] (sp_on A fun c d => ∃ u a, c = [[3, u, a]] ∧ d = .plant u a) := by
  have G_has_feeder := ok_has_feeder (base := base) T
  have G_add_plant := ok_add_plant (base := base) T
  refine T.F_answer_plant.ok sc_answer_plant (fun vs H Q E h => ?_) (fun cdv Ar outer s H vs Q E hr h => ?_)
  · obtain ⟨g, ca, c, d, N, Z, rfl, _⟩ := h
    rfl
  · obtain ⟨g, ca, c, d, N, Z, rfl, hZ, ⟨dca, na, ra, _, _, _, hca, hna, hra⟩, GG, W, ⟨u, a, rfl, rfl⟩, hin, k⟩ := h
    obtain ⟨dx, c, h, p, ps, G, zg, zc, zh, zp, zps⟩ := id GG
    obtain ⟨hin1, hin2⟩ := Bool.and_eq_true_iff.mp (show (Vbemay.isFeeder u && Vbemay.isAmount a) = true from hin)
    refine ⟨_, (pss_cons (ps_if (pt_not (pt_val (pe_meth (pv 0) T.cl_Grid T.m_has_feeder G_has_feeder (hr.mono (by decide)) T.b_has_feeder .nil pass0 (pa_cons (pe_ix ix_list (pe_fld (pv 1) rfl) pe_int (fun _ _ => rfl)) pa_nil)))) (pss_one (ps_ret (pe_lst (pa_cons (pe_globI rfl T.g_NO_FEEDER) pa_nil)))) pss_nil)
      (pss_cons (ps_if (pt_cmpR op_ge (pe_callB call_len_seq (by rfl) T.n_len bt_len (pa_cons (pe_fld (pv 0) rfl) pa_nil)) (pe_globI rfl T.g_MOST_PLANTS) (nomark _)) (pss_one (ps_ret (pe_lst (pa_cons (pe_globI rfl T.g_NO_PLACE) pa_nil)))) pss_nil)
      (pss_one (ps_ret (pe_lst (pa_cons (pe_globI rfl T.g_ACCEPTED) (pa_cons (pe_meth (pv 0) T.cl_Grid T.m_add_plant G_add_plant (hr.mono (by decide)) T.b_add_plant .nil pass0 (pa_cons (pe_ix ix_list (pe_fld (pv 1) rfl) pe_int (fun _ _ => rfl)) (pa_cons (pe_ix ix_list (pe_fld (pv 1) rfl) pe_int (fun _ _ => rfl)) pa_nil))) pa_nil))))))), ?_⟩
    refine ⟨_, rfl, g, dx, _, rfl, G.gx.ob, rfl, _, rfl, ca, A.C_Call, dca, _, _, rfl, hca, T.cl_Call, T.n_Call_numbers, rfl, na, _, 0, _, rfl, rfl, SqL.of hna, rfl, g, N, u, rfl, G.gv, _, rfl, ?_⟩
    by_cases hl : (N.feeders.length : Int) < u
    · rw [has_no hl]
      have e : onNet N (.plant u a) = (N, [-3]) := by
        show (if Vbemay.lacks N u = true then (N, [-3]) else _) = _
        rw [if_pos (lacks_yes hl)]
      rw [e] at k
      exact iteT ⟨(by show 1 ≤ sizeLine; decide), fun q hq => k.same hZ GG (Same.refl H) hq rfl⟩
    rw [has_yes hin1 hl]
    refine iteF ⟨_, rfl, g, A.C_Grid, dx, _, _, rfl, G.gx.ob, T.cl_Grid, T.n_Grid_plants, rfl, p, _, rfl, .inl (SqL.of G.gx.lst), _, _, rfl, rfl, _, rfl, ?_⟩
    have el : (ps.map V.ref).length = N.plants.length := by rw [List.length_map, G.gx.len]
    rw [el]
    by_cases h12 : (12 : Int) ≤ (N.plants.length : Int)
    · rw [decide_eq_true h12]
      have e : onNet N (.plant u a) = (N, [-4]) := by
        show (if Vbemay.lacks N u = true then (N, [-3]) else if Vbemay.PLANTS ≤ N.plants.length then (N, [-4]) else _) = _
        rw [if_neg (lacks_no hl), if_pos (by show 12 ≤ _; omega)]
      rw [e] at k
      exact iteT ⟨(by show 1 ≤ sizeLine; decide), fun q hq => k.same hZ GG (Same.refl H) hq rfl⟩
    rw [decide_eq_false h12]
    obtain ⟨v, hv, hvl, hiv⟩ := feeder_of hin1 hl
    have e : onNet N (.plant u a) = (withNew N v a, [0, N.last + 1]) := by
      show (if Vbemay.lacks N u = true then (N, [-3]) else if Vbemay.PLANTS ≤ N.plants.length then (N, [-4]) else _) = _
      rw [if_neg (lacks_no hl), if_neg (by show ¬ 12 ≤ _; omega), hiv]
      rfl
    rw [e] at k
    refine iteF ⟨_, rfl, g, dx, _, rfl, G.gx.ob, rfl, _, rfl, ca, A.C_Call, dca, _, _, rfl, hca, T.cl_Call, T.n_Call_numbers, rfl, na, _, 0, _, rfl, rfl, SqL.of hna, rfl, _, rfl, ca, A.C_Call, dca, _, _, rfl, hca, T.cl_Call, T.n_Call_numbers, rfl, na, _, 1, _, rfl, rfl, SqL.of hna, rfl,
      g, dx, c, h, p, N, ps, v, a, by rw [← hv]; rfl, G, by omega, fun H1 b G1 hb0 kp => ⟨(by show 2 ≤ sizeLine; decide), fun q hq => k.done hZ ⟨dx, c, h, p, ps ++ [b], G1, zg, zc, zh, zp, fun y hy => ?_⟩ (fun b o z e => kp b o (fun q => zg (by rw [← q]; exact z)) (fun q => zp (by rw [← q]; exact z)) e) hq rfl⟩⟩
    rcases List.mem_append.mp hy with hy | hy
    · exact zps y hy
    · have : y = b := by simpa using hy
      rw [this]
      exact hZ.off hb0
def wanted (N : Net) (n a : Int) : Net := { N with plants := N.plants.map fun p => if p.num = n then { p with want := a } else p }
theorem ok_answer_want (T : Txt P w K mg A) : FnOk P w K mg base CX0 2 A.f_answer_want A.d_answer_want ["grid", "call"] (sp_on A fun c d => ∃ n a, c = [[4, n, a]] ∧ d = .want n a) := by
  have G_find_plant := ok_find_plant (base := base) T
  refine T.F_answer_want.ok sc_answer_want (fun vs H Q E h => ?_) (fun cdv Ar outer s H vs Q E hr h => ?_)
  · obtain ⟨g, ca, c, d, N, Z, rfl, _⟩ := h
    rfl
  · obtain ⟨g, ca, c, d, N, Z, rfl, hZ, ⟨dca, na, ra, _, _, _, hca, hna, hra⟩, GG, W, ⟨n, a, rfl, rfl⟩, hin, k⟩ := h
    obtain ⟨dx, c, h, p, ps, G, zg, zc, zh, zp, zps⟩ := id GG
    refine ⟨_, (pss_cons (ps_set (i := 2) sc_answer_want.nd rfl (Or.inl rfl) (pe_meth (pv 0) T.cl_Grid T.m_find_plant G_find_plant (hr.mono (by decide)) T.b_find_plant .nil pass0 (pa_cons (pe_ix ix_list (pe_fld (pv 1) rfl) pe_int (fun _ _ => rfl)) pa_nil)))
      (pss_cons (ps_if (pt_cmp (pc_isN (pv 2))) (pss_one (ps_ret (pe_lst (pa_cons (pe_globI rfl T.g_NO_PLANT) pa_nil)))) pss_nil)
      (pss_cons (ps_fld (pv 2) (pe_ix ix_list (pe_fld (pv 1) rfl) pe_int (fun _ _ => rfl)) rfl)
      (pss_one (ps_ret (pe_lst (pa_cons (pe_globI rfl T.g_ACCEPTED) pa_nil))))))), ?_⟩
    refine ⟨_, rfl, g, dx, _, rfl, G.gx.ob, rfl, _, rfl, ca, A.C_Call, dca, _, _, rfl, hca, T.cl_Call, T.n_Call_numbers, rfl, na, _, 0, _, rfl, rfl, SqL.of hna, rfl, g, n, N, dx, c, h, p, _, ps, rfl, G.gx, fun j b q hb hq hn _ => ?_, fun hno => ?_⟩
    · have e : onNet N (.want n a) = (wanted N n a, [0]) := by
        show (if (Vbemay.place N n).isNone = true then (N, [-5]) else _) = _
        rw [if_neg (fun z => Pd.place_none.mp z q (List.mem_of_getElem? hq) hn)]
        rfl
      rw [e] at k
      obtain ⟨db, hpl⟩ := G.gx.at_ j b q hb hq
      refine ⟨_, rfl, _, rfl, iteF ⟨_, rfl, ca, A.C_Call, dca, _, _, rfl, hca, T.cl_Call, T.n_Call_numbers, rfl, na, _, 1, _, rfl, rfl, SqL.of hna, rfl, _, rfl, b, A.C_Plant, db, _, rfl, hpl, T.cl_Plant, T.n_Plant_want, (by show 3 < 1000; decide), ?_⟩⟩
      have zb : ¬ Z b := zps b (List.mem_of_getElem? hb)
      have kp : ∀ x o, x ≠ b → H x = some o → (upd H b (.ins A.C_Plant db (putF "want" (.int a) (pf q.num ((q.at_ : Int) + 1) q.want)))) x = some o := fun x o hx e => by rw [upd_ne hx]; exact e
      have gb : b ≠ g := plant_ne_grid (fs := (c, h, p, N.last)) ⟨db, hpl⟩ G.gx.ob
      refine ⟨(by show 1 ≤ sizeLine; decide), fun q' hq' => k.done hZ ⟨dx, c, h, p, ps, ⟨⟨kp _ _ (fun z => gb z.symm) G.gx.ob, kp _ _ (ne_of G.gx.caps hpl (by intro z; cases z)) G.gx.caps, kp _ _ (ne_of G.gx.hang hpl (by intro z; cases z)) G.gx.hang, kp _ _ (ne_of G.gx.lst hpl (by intro z; cases z)) G.gx.lst, by unfold wanted; rw [List.length_map]; exact G.gx.len, fun j' b' q2 hb' hq2 => ?_⟩, G.ne, G.nd⟩, zg, zc, zh, zp, zps⟩ (fun x o z e => kp x o (fun y => zb (by rw [← y]; exact z)) e) hq' rfl⟩
      obtain ⟨q1, hq1, rfl⟩ := map_some (show (N.plants.map fun p => if p.num = n then { p with want := a } else p)[j']? = some q2 from hq2)
      by_cases ej : j' = j
      · subst ej
        have eb : b = b' := Option.some.inj (hb.symm.trans hb')
        have eq : q = q1 := Option.some.inj (hq.symm.trans hq1)
        subst eb eq
        rw [if_pos hn]
        exact ⟨db, by rw [upd_same, pf_want]⟩
      · have en : ¬ q1.num = n := fun z => ej (num_inj W.nd hq1 hq (z.trans hn.symm))
        rw [if_neg en]
        obtain ⟨d2, h2⟩ := G.gx.at_ j' b' q1 hb' hq1
        exact ⟨d2, kp _ _ (fun z => ej (nd_ix G.nd hb' (by rw [z]; exact hb))) h2⟩
    · have e : onNet N (.want n a) = (N, [-5]) := by
        show (if (Vbemay.place N n).isNone = true then (N, [-5]) else _) = _
        rw [if_pos (Pd.place_none.mpr hno)]
      rw [e] at k
      exact ⟨_, rfl, _, rfl, iteT ⟨(by show 1 ≤ sizeLine; decide), fun q hq => k.same hZ GG (Same.refl H) hq rfl⟩⟩
theorem ok_answer_leave (T : Txt P w K mg A) : FnOk P w K mg base CX0 3 A.f_answer_leave A.d_answer_leave ["grid", "call"] (sp_on A fun c d => ∃ n, c = [[5, n]] ∧ d = .leave n) := by
  have G_find_plant := ok_find_plant (base := base) T
  have G_drop_plant := ok_drop_plant (base := base) T
  refine T.F_answer_leave.ok sc_answer_leave (fun vs H Q E h => ?_) (fun cdv Ar outer s H vs Q E hr h => ?_)
  · obtain ⟨g, ca, c, d, N, Z, rfl, _⟩ := h
    rfl
  · obtain ⟨g, ca, c, d, N, Z, rfl, hZ, ⟨dca, na, ra, _, _, _, hca, hna, hra⟩, GG, W, ⟨n, rfl, rfl⟩, hin, k⟩ := h
    obtain ⟨dx, c, h, p, ps, G, zg, zc, zh, zp, zps⟩ := id GG
    refine ⟨_, (pss_cons (ps_if (pt_cmp (pc_isN (pe_meth (pv 0) T.cl_Grid T.m_find_plant G_find_plant (hr.mono (by decide)) T.b_find_plant .nil pass0 (pa_cons (pe_ix ix_list (pe_fld (pv 1) rfl) pe_int (fun _ _ => rfl)) pa_nil)))) (pss_one (ps_ret (pe_lst (pa_cons (pe_globI rfl T.g_NO_PLANT) pa_nil)))) pss_nil)
      (pss_cons (ps_expr (pe_meth (pv 0) T.cl_Grid T.m_drop_plant G_drop_plant (hr.mono (by decide)) T.b_drop_plant .nil pass0 (pa_cons (pe_ix ix_list (pe_fld (pv 1) rfl) pe_int (fun _ _ => rfl)) pa_nil)))
      (pss_one (ps_ret (pe_lst (pa_cons (pe_globI rfl T.g_ACCEPTED) pa_nil)))))), ?_⟩
    refine ⟨_, rfl, g, dx, _, rfl, G.gx.ob, rfl, _, rfl, ca, A.C_Call, dca, _, _, rfl, hca, T.cl_Call, T.n_Call_numbers, rfl, na, _, 0, _, rfl, rfl, SqL.of hna, rfl, g, n, N, dx, c, h, p, _, ps, rfl, G.gx, fun j b q hb hq hn _ => ?_, fun hno => ?_⟩
    · have e : onNet N (.leave n) = (Vbemay.withoutPlant N n, [0]) := by
        show (if (Vbemay.place N n).isNone = true then (N, [-5]) else _) = _
        rw [if_neg (fun z => Pd.place_none.mp z q (List.mem_of_getElem? hq) hn)]
      rw [e] at k
      refine ⟨_, rfl, iteF ⟨_, rfl, g, dx, _, rfl, G.gx.ob, rfl, _, rfl, ca, A.C_Call, dca, _, _, rfl, hca, T.cl_Call, T.n_Call_numbers, rfl, na, _, 0, _, rfl, rfl, SqL.of hna, rfl, g, dx, c, h, p, N, ps, n, rfl, G, W.pmost, fun H1 q1 G1 hq10 kp => ?_⟩⟩
      exact ⟨(by show 1 ≤ sizeLine; decide), fun q' hq' => k.done hZ ⟨dx, c, h, q1, _, G1, zg, zc, zh, hZ.off hq10, fun y hy => zps y ((butOf_sub n ps N.plants).subset hy)⟩ (fun x o z e => kp x o (fun y => zg (by rw [← y]; exact z)) e) hq' rfl⟩
    · have e : onNet N (.leave n) = (N, [-5]) := by
        show (if (Vbemay.place N n).isNone = true then (N, [-5]) else _) = _
        rw [if_pos (Pd.place_none.mpr hno)]
      rw [e] at k
      exact ⟨_, rfl, iteT ⟨(by show 1 ≤ sizeLine; decide), fun q hq => k.same hZ GG (Same.refl H) hq rfl⟩⟩
end
end Pt
end
section
set_option Elab.async false
set_option linter.all false
set_option maxRecDepth 100000
set_option maxHeartbeats 1000000
namespace Pd
open Vbemay
theorem tries_len (N : Net) : ∀ (l : List Nat) (st : List Int × List Nat), (l.foldl (tryOne N) st).1.length = st.1.length
  | [], st => rfl
  | i :: l, st => by
    rw [List.foldl_cons, tries_len N l]
    unfold tryOne
    split
    · exact List.length_set
    · rfl
theorem evenFrom_len {N : Net} : ∀ (k : Nat) {free : List Bool} {xs : List Int} {t : Int}, free.length = N.plants.length → xs.length = N.plants.length → (evenFrom N k free xs t).length = N.plants.length
  | 0, _, _, _, _, hx => hx
  | k + 1, free, xs, t, hf, hx => by
    rw [evenFrom_succ]
    have h1 : (raisedTo N free xs (level N free xs 31 t TOP)).length = N.plants.length := raised_len hf hx
    have h2 : (oneMore N free (raisedTo N free xs (level N free xs 31 t TOP))).length = N.plants.length := by
      rw [oneMore_eq N free _ hf, tries_len]
      exact h1
    exact evenFrom_len k (left_len hf h1 h2) h2
theorem even_len (N : Net) : (even N).length = N.plants.length := evenFrom_len _ (List.length_map _) (by unfold nothing; rw [List.length_map])
theorem byAge_len (N : Net) : (byAge N).length = N.plants.length := by
  unfold byAge
  rw [greedy_run, run_length]
theorem byRule_len (N : Net) (r : Int) : (byRule N r).length = N.plants.length := by
  unfold byRule
  split
  · exact byAge_len N
  · exact even_len N
theorem perm_of : ∀ {ns l : List Int}, ns.Nodup → (∀ x ∈ ns, x ∈ l) → l.length = ns.length → l.Perm ns
  | [], l, _, _, h => by
    have : l = [] := List.eq_nil_of_length_eq_zero h
    rw [this]
  | x :: ns, l, hn, hs, h => by
    obtain ⟨hx, hn⟩ := List.nodup_cons.mp hn
    have hxl := hs x (by simp)
    have p1 := List.perm_cons_erase hxl
    have h2 : (l.erase x).length = ns.length := by
      rw [List.length_erase_of_mem hxl, h, List.length_cons]
      omega
    refine p1.trans ((perm_of hn (fun y hy => ?_) h2).cons x)
    have hne : y ≠ x := fun e => hx (by rw [← e]; exact hy)
    exact (List.mem_erase_of_ne hne).mpr (hs y (List.mem_cons_of_mem _ hy))
theorem order_iff {N : Net} (hn : (N.plants.map (·.num)).Nodup) {l : List Int} : isOrder N l = true ↔ l.Perm (N.plants.map (·.num)) := by
  unfold isOrder
  rw [Bool.and_eq_true, List.all_eq_true]
  constructor
  · rintro ⟨h1, h2⟩
    have h1 : l.length = N.plants.length := by simpa using h1
    refine perm_of hn (fun x hx => ?_) (by rw [List.length_map]; exact h1)
    obtain ⟨q, hq, rfl⟩ := List.mem_map.mp hx
    have := h2 q hq
    simpa using this
  · intro p
    refine ⟨?_, fun q hq => ?_⟩
    · have := p.length_eq
      rw [List.length_map] at this
      simp [this]
    · have : q.num ∈ l := p.mem_iff.mpr (List.mem_map_of_mem (f := fun q : Plant => q.num) hq)
      simpa using this
theorem sorted_iff {a b s t : List Int} (ha : s.Perm a) (hb : t.Perm b) (hs : s.Pairwise (· ≤ ·)) (ht : t.Pairwise (· ≤ ·)) : s = t ↔ a.Perm b := by
  constructor
  · intro e
    exact ha.symm.trans ((by rw [e] : s.Perm t).trans hb)
  · intro p
    exact (ha.trans (p.trans hb.symm)).eq_of_pairwise (le := (· ≤ ·)) (fun a b _ _ h1 h2 => Int.le_antisymm h1 h2) hs ht
theorem filterMap_all {α β : Type} {f : α → Option β} {g : α → β} : ∀ {l : List α}, (∀ x ∈ l, f x = some (g x)) → l.filterMap f = l.map g
  | [], _ => rfl
  | x :: l, h => by
    rw [List.filterMap_cons, h x (by simp), List.map_cons, filterMap_all fun y hy => h y (List.mem_cons_of_mem _ hy)]
theorem isRule_iff {r : Int} (h : isRule r = true) : r = 0 ∨ r = 1 := by
  unfold isRule within at h
  rw [Bool.and_eq_true, decide_eq_true_iff, decide_eq_true_iff] at h
  omega
end Pd
namespace L2
open PySem PySem.Spec PyProof.Rows
theorem lc_zipS {K : PySem.W.Frag} {a b : Addr} {xs ys : List V} {zs : List (Option V)} {g : TG} {tt : TT} {te : TE} {vs : List Nat} {σ : St} {H : Hp} {D : Addr} {Qd : Hp → Prop} (hD : H D = none) (qa : SqL K H a xs) (qb : SqL K H b ys) (hl : xs.length = ys.length) (hl2 : xs.length = zs.length) (hz : xs.length ≤ sizeLine)
    (el : ∀ (i : Nat) (x y : V) (o : Option V) (H' : Hp) (t : Addr), xs[i]? = some x → ys[i]? = some y → zs[i]? = some o → Same H H' → H' t = none → ∀ (Nx : Hp → Prop) (Y : V → Hp → Prop), (o = none → ∀ H3, Same H' H3 → Nx H3) → (∀ v, o = some v → ∀ H4, Same H' H4 → Y v H4) →
      g (.ref t) (wipe σ vs) (upd H' t (.tup [x, y])) fun σ2 H2 => wipe σ2 vs = wipe σ vs ∧ tt σ2 H2 fun b H3 => if b = true then te σ2 H3 Y else Nx H3)
    (fin : ∀ H', H' D = some (.lst (zs.filterMap id)) → Same H H' → Qd H') :
    ∃ W : Nat → Nat → Hp → Prop, (∃ m, W 0 m (upd H D (.lst []))) ∧ ∀ i m H', W i m H' →
      ((Itzs K a b).stop i H' ∧ Qd H') ∨ ((Itzs K a b).go i H' ∧ ∃ Nx : Hp → Prop, (∀ H2, Nx H2 → ∃ m', m' < m ∧ W (i + 1) m' H2) ∧ ∀ x H2, (Itzs K a b).yld i H' x H2 → g x (wipe σ vs) H2 fun σ2 H2 => wipe σ2 vs = wipe σ vs ∧ tt σ2 H2 fun b H3 =>
        if b = true then te σ2 H3 fun y H4 => ∃ acc, H4 D = some (.lst acc) ∧ acc.length < sizeLine ∧ Nx (upd H4 D (.lst (acc ++ [y]))) else Nx H3) := by
  refine ⟨fun i m H' => m = xs.length - i ∧ i ≤ xs.length ∧ H' D = some (.lst ((zs.take i).filterMap id)) ∧ Same H H', ⟨xs.length, by simp, Nat.zero_le _, upd_same, Same.new hD⟩, ?_⟩
  rintro i m H' ⟨rfl, hi, hd, sm⟩
  by_cases hlt : i < xs.length
  · refine .inr ⟨⟨xs, ys, xs[i], ys[i], sm.seq qa, sm.seq qb, List.getElem?_eq_getElem hlt, List.getElem?_eq_getElem (by omega)⟩, fun H2 => H2 D = some (.lst ((zs.take (i + 1)).filterMap id)) ∧ Same H H2, fun H2 q => ⟨xs.length - (i + 1), by omega, rfl, hlt, q.1, q.2⟩, fun x H2 y => ?_⟩
    obtain ⟨t, x1, y1, e1, ht, e2, e3, e4⟩ := y
    subst e1 e2
    have ho : zs[i]? = some zs[i] := List.getElem?_eq_getElem (by omega)
    refine el i x1 y1 _ H' t (e3 xs (sm.seq qa)) (e4 ys (sm.seq qb)) ho sm ht _ _ (fun en H3 s3 => ?_) fun y ey H4 s4 => ?_
    · refine ⟨?_, sm.trans s3⟩
      rw [s3 _ _ hd, take_succ_filterMap ho, en]
      simp
    · have hacc : ((zs.take i).filterMap id).length ≤ i := by
        refine Nat.le_trans (List.length_filterMap_le _ _) ?_
        rw [List.length_take]
        omega
      refine ⟨_, s4 _ _ hd, by omega, ?_, (sm.trans s4).on hD⟩
      rw [upd_same, take_succ_filterMap ho, ey]
      rfl
  · have e : i = xs.length := by omega
    subst e
    refine .inl ⟨⟨xs, ys, sm.seq qa, sm.seq qb, Nat.le_refl _, by omega⟩, fin H' ?_ sm⟩
    rw [hl2, List.take_length] at hd
    exact hd
end L2
namespace Pt
open PySem PySem.Spec PyProof.Rows L2
open Vbemay (Net Plant Feeder upOf capOf onNet inRange)
open Pd (WF)
section
variable {P : Program} {w : World} {K : PySem.W.Frag} {mg : Str → Option Value} {base : Heap} {A : Ad}
theorem ints_len (l : List Int) : (intsV l).length = l.length := List.length_map _
theorem ints_app (l m : List Int) : intsV (l ++ m) = intsV l ++ intsV m := by
  unfold intsV
  rw [List.map_append]
theorem ok_answer_by_age (T : Txt P w K mg A) : FnOk P w K mg base CX0 4 A.f_answer_by_age A.d_answer_by_age ["grid", "call"] (sp_on A fun c d => c = [[6]] ∧ d = .byAge) := by
  have G_shares_by_age := ok_shares_by_age (base := base) T
  refine T.F_answer_by_age.ok sc_answer_by_age (fun vs H Q E h => ?_) (fun cdv Ar outer s H vs Q E hr h => ?_)
  · obtain ⟨g, ca, c, d, N, Z, rfl, _⟩ := h
    rfl
  · obtain ⟨g, ca, c, d, N, Z, rfl, hZ, _, GG, W, ⟨rfl, rfl⟩, hin, k⟩ := h
    refine ⟨_, (pss_one (ps_ret (pe_op op_cat (pe_lst (pa_cons (pe_globI rfl T.g_ACCEPTED) pa_nil)) (pe_call G_shares_by_age (hr.mono (by decide)) rfl T.g_shares_by_age T.F_shares_by_age.kp T.b_shares_by_age .nil pass0 (pa_cons (pv 0) pa_nil))))), ?_⟩
    refine ⟨(by show 1 ≤ sizeLine; decide), fun l1 hl1 => ?_⟩
    have s0 : Same H (upd H l1 (.lst [V.int 0])) := Same.new hl1
    refine ⟨_, rfl, g, N, rfl, GG.gv.same s0, W.good, fun H1 p hp hp0 s1 => ⟨l1, p, _, _, rfl, rfl, s1 _ _ upd_same, hp, ?_, fun q hq => k.same hZ GG (s0.trans s1) hq rfl⟩⟩
    rw [ints_len, Pd.byAge_len, sizeLine_eq]
    have := W.pmost
    show 1 + _ ≤ _
    omega
theorem ok_answer_even (T : Txt P w K mg A) : FnOk P w K mg base CX0 6 A.f_answer_even A.d_answer_even ["grid", "call"] (sp_on A fun c d => c = [[8]] ∧ d = .even) := by
  have G_even_shares := ok_even_shares (base := base) T
  refine T.F_answer_even.ok sc_answer_even (fun vs H Q E h => ?_) (fun cdv Ar outer s H vs Q E hr h => ?_)
  · obtain ⟨g, ca, c, d, N, Z, rfl, _⟩ := h
    rfl
  · obtain ⟨g, ca, c, d, N, Z, rfl, hZ, _, GG, W, ⟨rfl, rfl⟩, hin, k⟩ := h
    refine ⟨_, (pss_one (ps_ret (pe_op op_cat (pe_lst (pa_cons (pe_globI rfl T.g_ACCEPTED) pa_nil)) (pe_call G_even_shares (hr.mono (by decide)) rfl T.g_even_shares T.F_even_shares.kp T.b_even_shares .nil pass0 (pa_cons (pv 0) pa_nil))))), ?_⟩
    refine ⟨(by show 1 ≤ sizeLine; decide), fun l1 hl1 => ?_⟩
    have s0 : Same H (upd H l1 (.lst [V.int 0])) := Same.new hl1
    refine ⟨_, rfl, g, N, rfl, GG.gv.same s0, W, fun H1 p hp hp0 s1 => ⟨l1, p, _, _, rfl, rfl, s1 _ _ upd_same, hp, ?_, fun q hq => k.same hZ GG (s0.trans s1) hq rfl⟩⟩
    rw [ints_len, Pd.even_len, sizeLine_eq]
    have := W.pmost
    show 1 + _ ≤ _
    omega
theorem ord_of {N : Net} (W : WF N) {l : List Int} (hp : l.Perm (N.plants.map (·.num))) : Ord N l (l.filterMap fun n => Vbemay.place N n) := by
  have hpl : ∀ n ∈ l, ∃ j q, Vbemay.place N n = some j ∧ N.plants[j]? = some q ∧ q.num = n := fun n hn => by
    have hm := hp.mem_iff.mp hn
    obtain ⟨q, hq, e⟩ := List.mem_map.mp hm
    cases h : Vbemay.place N n with
    | none =>
      have := Pd.place_none.mp (by rw [h]; rfl : (Vbemay.place N n).isNone = true) q hq
      exact absurd e this
    | some j =>
      obtain ⟨q', h1, h2⟩ := Pd.place_some h
      exact ⟨j, q', rfl, h1, h2⟩
  have hmap : (l.filterMap fun n => Vbemay.place N n) = l.map fun n => (Vbemay.place N n).getD 0 := by
    refine Pd.filterMap_all fun n hn => ?_
    obtain ⟨j, q, h, _⟩ := hpl n hn
    rw [h]
    rfl
  rw [hmap]
  refine ⟨by rw [List.length_map], fun i j h => ?_, ?_, fun j hj => ?_, W.nd⟩
  · obtain ⟨n, hn, rfl⟩ := map_some h
    obtain ⟨j, q, h1, h2, h3⟩ := hpl n (List.mem_of_getElem? hn)
    rw [h1]
    exact ⟨q, h2, by rw [h3]; exact hn⟩
  · have hnd : l.Nodup := hp.nodup_iff.mpr W.nd
    refine List.Pairwise.map _ (fun a b h => ?_) (List.Pairwise.and_mem.mp hnd)
    obtain ⟨ha, hb, hab⟩ := h
    obtain ⟨j, q, h1, h2, h3⟩ := hpl a ha
    obtain ⟨j', q', h1', h2', h3'⟩ := hpl b hb
    rw [h1, h1']
    intro e
    have e : j = j' := e
    subst e
    have eq : q = q' := Option.some.inj (h2.symm.trans h2')
    subst eq
    exact hab (h3.symm.trans h3')
  · have hq : N.plants[j]? = some N.plants[j] := List.getElem?_eq_getElem hj
    have hm : N.plants[j].num ∈ l := hp.mem_iff.mpr (List.mem_map_of_mem (f := fun q : Plant => q.num) (List.getElem_mem hj))
    obtain ⟨j', q', h1, h2, h3⟩ := hpl _ hm
    have : j' = j := num_inj W.nd h2 hq h3
    refine List.mem_map.mpr ⟨_, hm, ?_⟩
    rw [h1]
    exact this
theorem ok_answer_by (T : Txt P w K mg A) : FnOk P w K mg base CX0 3 A.f_answer_by A.d_answer_by ["grid", "call"] (sp_on A fun c d => ∃ l, c = [[7], l] ∧ d = .by_ l) := by
  have G_plant_numbers := ok_plant_numbers (base := base) T
  have G_shares_by_order := ok_shares_by_order (base := base) T
  refine T.F_answer_by.ok sc_answer_by (fun vs H Q E h => ?_) (fun cdv Ar outer s H vs Q E hr h => ?_)
  · obtain ⟨g, ca, c, d, N, Z, rfl, _⟩ := h
    rfl
  · obtain ⟨g, ca, c, d, N, Z, rfl, hZ, ⟨dca, na, ra, _, _, _, hca, hna, hra⟩, GG, W, ⟨row, rfl, rfl⟩, hin, k⟩ := h
    obtain ⟨dx, c, h, p, ps, G, zg, zc, zh, zp, zps⟩ := id GG
    have hrow : H ra = some (.lst (intsV row)) := hra
    have hrl : row.length ≤ 12 := of_decide_eq_true (show decide (row.length ≤ 12) = true from hin)
    have hpm := W.pmost
    refine ⟨_, (pss_cons (ps_if (pt_cmpR (op_neD hr.units) (pe_callB cr_sorted (by rfl) T.n_sorted bt_sorted (pa_cons (pe_fld (pv 1) rfl) pa_nil)) (pe_callB cr_sorted (by rfl) T.n_sorted bt_sorted (pa_cons (pe_meth0 (pv 0) T.cl_Grid T.m_plant_numbers G_plant_numbers (hr.mono (by decide)) T.b_plant_numbers .nil pass0) pa_nil)) (nomark _)) (pss_one (ps_ret (pe_lst (pa_cons (pe_globI rfl T.g_WRONG_ROW) pa_nil)))) pss_nil)
      (pss_one (ps_ret (pe_op op_cat (pe_lst (pa_cons (pe_globI rfl T.g_ACCEPTED) pa_nil)) (pe_call G_shares_by_order (hr.mono (by decide)) rfl T.g_shares_by_order T.F_shares_by_order.kp T.b_shares_by_order .nil pass0 (pa_cons (pv 0) (pa_cons (pe_fld (pv 1) rfl) pa_nil))))))), ?_⟩
    refine ⟨_, rfl, ca, A.C_Call, dca, _, _, rfl, hca, T.cl_Call, T.n_Call_row, rfl, ra, row, rfl, SqL.of hrow, by omega, fun s1 q1 p1 w1 hq1 => ?_⟩
    have sa : Same H (upd H q1 (.lst (intsV s1))) := Same.new hq1
    have hq1a : (upd H q1 (.lst (intsV s1))) q1 = some (.lst (intsV s1)) := upd_same
    show (_ : Prop)
    refine ⟨_, rfl, g, dx, _, rfl, sa _ _ G.gx.ob, rfl, g, N, rfl, GG.gv.same sa, W.good.p13, fun H2 pn hpn hpn0 sb => ⟨pn, N.plants.map (fun q : Plant => q.num), rfl, SqL.of hpn, by rw [List.length_map]; omega, fun s2 q2 p2 w2 hq2 => ?_⟩⟩
    have sc : Same H2 (upd H2 q2 (.lst (intsV s2))) := Same.new hq2
    have hq1c := sc _ _ (sb _ _ hq1a)
    have hq2c : (upd H2 q2 (.lst (intsV s2))) q2 = some (.lst (intsV s2)) := upd_same
    have sH : Same H (upd H2 q2 (.lst (intsV s2))) := (sa.trans sb).trans sc
    refine ⟨_, _, dpList (SqL.of hq1c), dpList (SqL.of hq2c), shapedInts _, shapedInts _, _, rfl, ?_⟩
    rw [eqvList]
    by_cases hp : row.Perm (N.plants.map (·.num))
    · rw [decide_eq_true ((Pd.sorted_iff p1 p2 w1 w2).mpr hp)]
      have e : onNet N (.by_ row) = (N, 0 :: Vbemay.greedy N (row.filterMap fun n => Vbemay.place N n)) := by
        show (if Vbemay.isOrder N row = false then (N, [-6]) else _) = _
        rw [if_neg (by rw [(Pd.order_iff W.nd).mpr hp]; exact fun z => nomatch z)]
      rw [e] at k
      refine iteF ⟨(by show 1 ≤ sizeLine; decide), fun l1 hl1 => ?_⟩
      have sd : Same H (upd (upd H2 q2 (.lst (intsV s2))) l1 (.lst [V.int 0])) := sH.on (sH.free hl1)
      refine ⟨_, rfl, _, rfl, ca, A.C_Call, dca, _, _, rfl, sd _ _ hca, T.cl_Call, T.n_Call_row, rfl, g, ra, N, row, _, rfl, GG.gv.same sd, W.tree, W.most, W.good.p13, ord_of W hp, by omega, SqL.of (sd _ _ hrow), fun H3 p3 hp3 hp30 se => ⟨l1, p3, _, _, rfl, rfl, se _ _ upd_same, hp3, ?_, fun q hq => k.same hZ GG (sd.trans se) hq rfl⟩⟩
      rw [ints_len, Pd.greedy_run, Pd.run_length, sizeLine_eq]
      show 1 + _ ≤ _
      omega
    · rw [decide_eq_false fun z => hp ((Pd.sorted_iff p1 p2 w1 w2).mp z)]
      have e : onNet N (.by_ row) = (N, [-6]) := by
        show (if Vbemay.isOrder N row = false then (N, [-6]) else _) = _
        rw [if_pos]
        cases z : Vbemay.isOrder N row with
        | false => rfl
        | true => exact absurd ((Pd.order_iff W.nd).mp z) hp
      rw [e] at k
      exact iteT ⟨(by show 1 ≤ sizeLine; decide), fun q hq => k.same hZ GG sH hq rfl⟩
theorem ok_answer_total (T : Txt P w K mg A) : FnOk P w K mg base CX0 5 A.f_answer_total A.d_answer_total ["grid", "call"] (sp_on A fun c d => c = [[9]] ∧ d = .total) := by
  have G_total_of := ok_total_of (base := base) T
  refine T.F_answer_total.ok sc_answer_total (fun vs H Q E h => ?_) (fun cdv Ar outer s H vs Q E hr h => ?_)
  · obtain ⟨g, ca, c, d, N, Z, rfl, _⟩ := h
    rfl
  · obtain ⟨g, ca, c, d, N, Z, rfl, hZ, _, GG, W, ⟨rfl, rfl⟩, hin, k⟩ := h
    refine ⟨_, (pss_one (ps_ret (pe_lst (pa_cons (pe_globI rfl T.g_ACCEPTED) (pa_cons (pe_call G_total_of (hr.mono (by decide)) rfl T.g_total_of T.F_total_of.kp T.b_total_of .nil pass0 (pa_cons (pv 0) pa_nil)) pa_nil))))), ?_⟩
    exact ⟨_, rfl, g, N, rfl, GG.gv, W.good, fun H1 s1 => ⟨(by show 2 ≤ sizeLine; decide), fun q hq => k.same hZ GG s1 hq rfl⟩⟩
theorem ok_answer_flows (T : Txt P w K mg A) : FnOk P w K mg base CX0 7 A.f_answer_flows A.d_answer_flows ["grid", "call"] (sp_on A fun c d => ∃ r, c = [[10, r]] ∧ d = .flows r) := by
  have G_flows_of := ok_flows_of (base := base) T
  have G_shares_by_rule := ok_shares_by_rule (base := base) T
  have G_feeder_numbers := ok_feeder_numbers (base := base) T
  refine T.F_answer_flows.ok sc_answer_flows (fun vs H Q E h => ?_) (fun cdv Ar outer s H vs Q E hr h => ?_)
  · obtain ⟨g, ca, c, d, N, Z, rfl, _⟩ := h
    rfl
  · obtain ⟨g, ca, c, d, N, Z, rfl, hZ, ⟨dca, na, ra, _, _, _, hca, hna, hra⟩, GG, W, ⟨r, rfl, rfl⟩, hin, k⟩ := h
    obtain ⟨dx, c, h, p, ps, G, zg, zc, zh, zp, zps⟩ := id GG
    have hu := hu_of hr
    have hfm := W.most
    refine ⟨_, (pss_cons (ps_set (i := 2) sc_answer_flows.nd rfl (Or.inr rfl) (pe_call G_flows_of (hr.mono (by decide)) rfl T.g_flows_of T.F_flows_of.kp T.b_flows_of .nil pass0 (pa_cons (pv 0) (pa_cons (pe_call G_shares_by_rule (hr.mono (by decide)) rfl T.g_shares_by_rule T.F_shares_by_rule.kp T.b_shares_by_rule .nil pass0 (pa_cons (pv 0) (pa_cons (pe_ix ix_list (pe_fld (pv 1) rfl) pe_int (fun _ _ => rfl)) pa_nil))) pa_nil))))
      (pss_one (ps_ret (pe_op op_cat (pe_lst (pa_cons (pe_globI rfl T.g_ACCEPTED) pa_nil)) (pe_lc (own := [("feeder", 3)]) (te := tDGet (tVar 2) (tVar 3)) rfl sc_answer_flows.nd (pi_list (pe_meth0 (pv 0) T.cl_Grid T.m_feeder_numbers G_feeder_numbers (hr.mono (by decide)) T.b_feeder_numbers .nil pass0)) (blk_mk rfl) (fun _ _ _ _ _ => (pg_name (i := 3) sc_answer_flows.nd rfl (Or.inl rfl))) (fun _ _ _ _ _ => pts_nil) (fun _ _ _ _ _ => (pe_dget hu (pv 2) (pv 3) (fun _ _ => rfl)))))))), ?_⟩
    refine ⟨_, rfl, _, rfl, _, rfl, ca, A.C_Call, dca, _, _, rfl, hca, T.cl_Call, T.n_Call_numbers, rfl, na, _, 0, _, rfl, rfl, SqL.of hna, rfl, g, N, r, rfl, GG.gv, W, Pd.isRule_iff hin, fun H1 sh hsh hsh0 s1 => ?_⟩
    refine ⟨g, sh, N, _, rfl, GG.gv.same s1, W.tree, W.most, W.good.p13, SqL.of hsh, Pd.byRule_len N r, fun H2 d hd hd0 s2 => ?_⟩
    refine ⟨(by show 1 ≤ sizeLine; decide), fun l1 hl1 => ?_⟩
    have s12 := s1.trans s2
    have s3 : Same H2 (upd H2 l1 (.lst [V.int 0])) := Same.new hl1
    have sH3 := s12.trans s3
    refine ⟨_, rfl, g, dx, _, rfl, sH3 _ _ G.gx.ob, rfl, g, N, rfl, GG.gv.same sH3, W.most, fun H4 pn hpn hpn0 s4 => ⟨pn, rfl, ⟨_, SqL.of hpn⟩, fun D hD => lc_map (ys := intsV ((Vbemay.feeders N).map fun v => Vbemay.flow N (Vbemay.byRule N r) v)) hD (goes_list (SqL.of hpn)) ?_ ?_ ?_ (fun H5 hD5 s5 => ?_) gName_mono⟩⟩
    · rw [ints_len, List.length_map]
      unfold feedV Vbemay.feeders
      rw [List.length_map]
    · unfold feedV
      rw [List.length_map, List.length_range, sizeLine_eq]
      omega
    · intro i x y H6 hx hy sm6 Y hY
      obtain ⟨v, hv, rfl⟩ := map_some hx
      obtain ⟨z, hz, rfl⟩ := map_some hy
      obtain ⟨v', hv', rfl⟩ := map_some hz
      have ev : v = v' := Option.some.inj (hv.symm.trans hv')
      subst ev
      have hvl := List.mem_range.mp (List.mem_of_getElem? hv)
      exact ⟨rfl, _, rfl, _, rfl, d, _, rfl, intK_get (sm6 _ _ (s4 _ _ (s3 _ _ hd))) hvl, hY H6 (Same.refl _)⟩
    · refine ⟨l1, D, _, _, rfl, rfl, s5 _ _ (s4 _ _ upd_same), hD5, ?_, fun q hq => k.same hZ GG ((sH3.trans s4).trans s5) hq rfl⟩
      rw [ints_len, List.length_map]
      unfold Vbemay.feeders
      rw [List.length_range, sizeLine_eq]
      show 1 + _ ≤ _
      omega
theorem ok_answer_cut (T : Txt P w K mg A) : FnOk P w K mg base CX0 4 A.f_answer_cut A.d_answer_cut ["grid", "call"] (sp_on A fun c d => c = [[12]] ∧ d = .cut) := by
  have G_cut_of := ok_cut_of (base := base) T
  refine T.F_answer_cut.ok sc_answer_cut (fun vs H Q E h => ?_) (fun cdv Ar outer s H vs Q E hr h => ?_)
  · obtain ⟨g, ca, c, d, N, Z, rfl, _⟩ := h
    rfl
  · obtain ⟨g, ca, c, d, N, Z, rfl, hZ, _, GG, W, ⟨rfl, rfl⟩, hin, k⟩ := h
    refine ⟨_, (pss_one (ps_ret (pe_op op_cat (pe_lst (pa_cons (pe_globI rfl T.g_ACCEPTED) pa_nil)) (pe_call G_cut_of (hr.mono (by decide)) rfl T.g_cut_of T.F_cut_of.kp T.b_cut_of .nil pass0 (pa_cons (pv 0) pa_nil))))), ?_⟩
    refine ⟨(by show 1 ≤ sizeLine; decide), fun l1 hl1 => ?_⟩
    have s0 : Same H (upd H l1 (.lst [V.int 0])) := Same.new hl1
    refine ⟨_, rfl, g, N, rfl, GG.gv.same s0, W.good, fun H1 p hp hp0 s1 => ⟨l1, p, _, _, rfl, rfl, s1 _ _ upd_same, hp, ?_, fun q hq => k.same hZ GG (s0.trans s1) hq ?_⟩⟩
    · unfold feedV
      rw [List.length_map, sizeLine_eq]
      have h1 : (Vbemay.cut N).length ≤ 12 := by
        unfold Vbemay.cut
        refine Nat.le_trans (List.length_filter_le _ _) ?_
        unfold Vbemay.feeders
        rw [List.length_range]
        exact W.most
      show 1 + _ ≤ _
      omega
    · rw [feed_ints]
      rfl
theorem ok_answer_check (T : Txt P w K mg A) : FnOk P w K mg base CX0 5 A.f_answer_check A.d_answer_check ["grid", "call"] (sp_on A fun c d => ∃ l, c = [[13], l] ∧ d = .check l) := by
  have G_shares_fit := ok_shares_fit (base := base) T
  have G_total_of := ok_total_of (base := base) T
  refine T.F_answer_check.ok sc_answer_check (fun vs H Q E h => ?_) (fun cdv Ar outer s H vs Q E hr h => ?_)
  · obtain ⟨g, ca, c, d, N, Z, rfl, _⟩ := h
    rfl
  · obtain ⟨g, ca, c, d, N, Z, rfl, hZ, ⟨dca, na, ra, _, _, _, hca, hna, hra⟩, GG, W, ⟨row, rfl, rfl⟩, hin, k⟩ := h
    obtain ⟨dx, c, h, p, ps, G, zg, zc, zh, zp, zps⟩ := id GG
    have hrow : H ra = some (.lst (intsV row)) := hra
    refine ⟨_, (pss_cons (ps_if (pt_cmpR op_ne (pe_callB call_len_seq (by rfl) T.n_len bt_len (pa_cons (pe_fld (pv 1) rfl) pa_nil)) (pe_callB call_len_seq (by rfl) T.n_len bt_len (pa_cons (pe_fld (pv 0) rfl) pa_nil)) (nomark _)) (pss_one (ps_ret (pe_lst (pa_cons (pe_globI rfl T.g_WRONG_ROW) pa_nil)))) pss_nil)
      (pss_cons (ps_if (pt_not (pt_val (pe_call G_shares_fit (hr.mono (by decide)) rfl T.g_shares_fit T.F_shares_fit.kp T.b_shares_fit .nil pass0 (pa_cons (pv 0) (pa_cons (pe_fld (pv 1) rfl) pa_nil))))) (pss_one (ps_ret (pe_lst (pa_cons (pe_globI rfl T.g_ACCEPTED) (pa_cons pe_int pa_nil))))) pss_nil)
      (pss_one (ps_ret (pe_lst (pa_cons (pe_globI rfl T.g_ACCEPTED) (pa_cons pe_int (pa_cons (pe_op op_sub (pe_call G_total_of (hr.mono (by decide)) rfl T.g_total_of T.F_total_of.kp T.b_total_of .nil pass0 (pa_cons (pv 0) pa_nil)) (pe_callB (cr_sum rfl) (by rfl) T.n_sum bt_sum (pa_cons (pe_fld (pv 1) rfl) pa_nil))) pa_nil)))))))), ?_⟩
    have el : (ps.map V.ref).length = N.plants.length := by rw [List.length_map, G.gx.len]
    refine ⟨_, rfl, ca, A.C_Call, dca, _, _, rfl, hca, T.cl_Call, T.n_Call_row, rfl, ra, _, rfl, .inl (SqL.of hrow), _, rfl, g, A.C_Grid, dx, _, _, rfl, G.gx.ob, T.cl_Grid, T.n_Grid_plants, rfl, p, _, rfl, .inl (SqL.of G.gx.lst), rfl, _, rfl, ?_⟩
    rw [el, ints_len]
    by_cases hl : row.length = N.plants.length
    · rw [decide_eq_true (by rw [hl])]
      refine iteF ⟨_, rfl, _, rfl, ca, A.C_Call, dca, _, _, rfl, hca, T.cl_Call, T.n_Call_row, rfl, g, ra, N, row, rfl, GG.gv, W.tree, W.most, W.good.p13, SqL.of hrow, hl, fun H1 s1 => ⟨_, rfl, ?_⟩⟩
      cases hf : Vbemay.fits N row with
      | false =>
        have e : onNet N (.check row) = (N, [0, 0]) := by
          show (if row.length ≠ N.plants.length then (N, [-6]) else if Vbemay.fits N row = false then (N, [0, 0]) else _) = _
          rw [if_neg (fun z => z hl), if_pos hf]
        rw [e] at k
        exact iteT ⟨(by show 2 ≤ sizeLine; decide), fun q hq => k.same hZ GG s1 hq rfl⟩
      | true =>
        have e : onNet N (.check row) = (N, [0, 1, Vbemay.total N - row.sum]) := by
          show (if row.length ≠ N.plants.length then (N, [-6]) else if Vbemay.fits N row = false then (N, [0, 0]) else _) = _
          rw [if_neg (fun z => z hl), if_neg (by rw [hf]; exact fun z => nomatch z)]
        rw [e] at k
        exact iteF ⟨_, rfl, g, N, rfl, GG.gv.same s1, W.good, fun H2 s2 => ⟨_, rfl, ca, A.C_Call, dca, _, _, rfl, s2 _ _ (s1 _ _ hca), T.cl_Call, T.n_Call_row, rfl, ra, row, rfl, SqL.of (s2 _ _ (s1 _ _ hrow)), _, _, rfl, rfl, (by show 3 ≤ sizeLine; decide), fun q hq => k.same hZ GG (s1.trans s2) hq rfl⟩⟩
    · rw [decide_eq_false (fun z => hl (by have := V.int.inj z; omega))]
      have e : onNet N (.check row) = (N, [-6]) := by
        show (if row.length ≠ N.plants.length then (N, [-6]) else _) = _
        rw [if_pos hl]
      rw [e] at k
      exact iteT ⟨(by show 1 ≤ sizeLine; decide), fun q hq => k.same hZ GG (Same.refl H) hq rfl⟩
theorem down_filt (ps : List Plant) (xs : List Int) : (((ps.zip xs).map fun y => if decide (y.2 < y.1.want) = true then some (V.int y.1.num) else none).filterMap id) = intsV (((ps.zip xs).filter fun y => decide (y.2 < y.1.want)).map fun y => y.1.num) := by
  rw [filt_some (fun y : Plant × Int => decide (y.2 < y.1.want)) (fun y => V.int y.1.num)]
  unfold intsV
  rw [List.map_map]
  rfl
theorem ok_answer_down (T : Txt P w K mg A) : FnOk P w K mg base CX0 7 A.f_answer_down A.d_answer_down ["grid", "call"] (sp_on A fun c d => ∃ r, c = [[14, r]] ∧ d = .down r) := by
  have G_shares_by_rule := ok_shares_by_rule (base := base) T
  refine T.F_answer_down.ok sc_answer_down (fun vs H Q E h => ?_) (fun cdv Ar outer s H vs Q E hr h => ?_)
  · obtain ⟨g, ca, c, d, N, Z, rfl, _⟩ := h
    rfl
  · obtain ⟨g, ca, c, d, N, Z, rfl, hZ, ⟨dca, na, ra, _, _, _, hca, hna, hra⟩, GG, W, ⟨r, rfl, rfl⟩, hin, k⟩ := h
    obtain ⟨dx, c, h, p, ps, G, zg, zc, zh, zp, zps⟩ := id GG
    have hpm := W.pmost
    refine ⟨_, (pss_cons (ps_set (i := 2) sc_answer_down.nd rfl (Or.inl rfl) (pe_call G_shares_by_rule (hr.mono (by decide)) rfl T.g_shares_by_rule T.F_shares_by_rule.kp T.b_shares_by_rule .nil pass0 (pa_cons (pv 0) (pa_cons (pe_ix ix_list (pe_fld (pv 1) rfl) pe_int (fun _ _ => rfl)) pa_nil))))
      (pss_one (ps_ret (pe_op op_cat (pe_lst (pa_cons (pe_globI rfl T.g_ACCEPTED) pa_nil)) (pe_lc (own := [("plant", 3), ("share", 4)]) (g := gTup K 2 (gCons (gName 3) (gCons (gName 4) gNil))) (tt := tTest (tOp (rI0 fun i j => .bl (decide (i < j))) (tVar 4) (tFld K (tVar 3) "want"))) (te := tFld K (tVar 3) "number") rfl sc_answer_down.nd (pi_zipS rfl T.n_zip (pa_cons (pe_fld (pv 0) rfl) (pa_cons (pv 2) pa_nil))) (blk_mk rfl) (fun _ _ _ _ _ => (pg_tup rfl (pgs_cons (pg_name (i := 3) sc_answer_down.nd rfl (Or.inl rfl)) (pgs_cons (pg_name (i := 4) sc_answer_down.nd rfl (Or.inl rfl)) pgs_nil)))) (fun _ _ _ _ _ => (pts_one (pt_cmpR op_lt (pv 4) (pe_fld (pv 3) rfl) (nomark _)))) (fun _ _ _ _ _ => (pe_fld (pv 3) rfl))))))), ?_⟩
    refine ⟨_, rfl, _, rfl, ca, A.C_Call, dca, _, _, rfl, hca, T.cl_Call, T.n_Call_numbers, rfl, na, _, 0, _, rfl, rfl, SqL.of hna, rfl, g, N, r, rfl, GG.gv, W, Pd.isRule_iff hin, fun H1 sh hsh hsh0 s1 => ?_⟩
    refine ⟨(by show 1 ≤ sizeLine; decide), fun l1 hl1 => ?_⟩
    have s2 : Same H1 (upd H1 l1 (.lst [V.int 0])) := Same.new hl1
    have s12 := s1.trans s2
    have el : (ps.map V.ref).length = N.plants.length := by rw [List.length_map, G.gx.len]
    refine ⟨_, rfl, g, A.C_Grid, dx, _, _, rfl, s12 _ _ G.gx.ob, T.cl_Grid, T.n_Grid_plants, rfl, _, rfl, p, sh, _, _, rfl, SqL.of (s12 _ _ G.gx.lst), SqL.of (s2 _ _ hsh), fun D hD =>
      lc_zipS (zs := (N.plants.zip (Vbemay.byRule N r)).map fun y => if decide (y.2 < y.1.want) = true then some (V.int y.1.num) else none) hD (SqL.of (s12 _ _ G.gx.lst)) (SqL.of (s2 _ _ hsh)) ?_ ?_ ?_ ?_ (fun H3 hD3 s3 => ?_)⟩
    · rw [el, ints_len, Pd.byRule_len]
    · rw [el, List.length_map, List.length_zip, Pd.byRule_len, Nat.min_self]
    · rw [el, sizeLine_eq]
      omega
    · intro i x y o H' t hx hy ho sm ht Nx Y h1 h2
      obtain ⟨a', ha', rfl⟩ := map_some hx
      obtain ⟨z, hz, rfl⟩ := map_some hy
      obtain ⟨yy, hyy, rfl⟩ := map_some ho
      have hy2 := List.getElem?_zip_eq_some.mp hyy
      have ez : z = yy.2 := Option.some.inj (hz.symm.trans hy2.2)
      obtain ⟨da, hpl⟩ := G.gx.at_ i a' yy.1 ha' hy2.1
      have st : Same H' (upd H' t (.tup [V.ref a', V.int z])) := Same.new ht
      have hpl' := st _ _ (sm _ _ (s12 _ _ hpl))
      subst ez
      refine ⟨t, _, rfl, .inl (Rd.of upd_same), rfl, _, _, rfl, _, _, rfl, rfl, rfl, _, rfl, _, rfl, a', A.C_Plant, da, _, _, rfl, hpl', T.cl_Plant, T.n_Plant_want, rfl, _, _, rfl, rfl, _, rfl, ?_⟩
      by_cases e : yy.2 < yy.1.want
      · rw [decide_eq_true e] at h1 h2 ⊢
        exact iteT ⟨_, rfl, a', A.C_Plant, da, _, _, rfl, hpl', T.cl_Plant, T.n_Plant_number, rfl, h2 _ (by rw [if_pos rfl]) _ st⟩
      · rw [decide_eq_false e] at h1 h2 ⊢
        exact iteF (h1 (by rw [if_neg Bool.false_ne_true]) _ st)
    · rw [down_filt] at hD3
      refine ⟨l1, D, _, _, rfl, rfl, s3 _ _ upd_same, hD3, ?_, fun q hq => k.same hZ GG (s12.trans s3) hq rfl⟩
      rw [ints_len, List.length_map, sizeLine_eq]
      have h3 : ((N.plants.zip (Vbemay.byRule N r)).filter fun y => decide (y.2 < y.1.want)).length ≤ 12 := by
        refine Nat.le_trans (List.length_filter_le _ _) ?_
        rw [List.length_zip]
        omega
      show 1 + _ ≤ _
      omega
end
end Pt
end
section
set_option Elab.async false
set_option linter.all false
set_option maxRecDepth 100000
set_option maxHeartbeats 1000000
namespace Pt
open PySem PySem.Spec PyProof.Rows L2
open Vbemay (Net Plant Feeder upOf capOf onNet inRange)
open Pd (WF)
section
variable {P : Program} {w : World} {K : PySem.W.Frag} {mg : Str → Option Value} {base : Heap} {A : Ad}
theorem good_with {N : Net} (W : WF N) {v : Nat} (hv : v < N.feeders.length) : Good (Vbemay.withPlant N v) := by
  have mem : ∀ q, q ∈ (Vbemay.withPlant N v).plants → q ∈ N.plants ∨ q = { num := N.last + 1, at_ := v, want := 13 * Vbemay.TOP } := fun q hq => by
    have : q ∈ N.plants ++ [({ num := N.last + 1, at_ := v, want := 13 * Vbemay.TOP } : Plant)] := hq
    simpa using this
  refine ⟨⟨W.tree.pos, W.tree.up0, W.tree.up, fun q hq => ?_⟩, W.most, ?_, ?_⟩
  · rcases mem q hq with h | h
    · exact W.tree.at_ q h
    · rw [h]
      exact hv
  · show (N.plants ++ [_]).length ≤ 13
    have := W.pmost
    simp
    omega
  · show ((N.plants ++ [_]).map (fun q : Plant => q.num)).Nodup
    rw [List.map_append]
    refine List.nodup_append.mpr ⟨W.nd, by simp, fun x hx y hy e => ?_⟩
    obtain ⟨q, hq, rfl⟩ := List.mem_map.mp hx
    have h1 := (W.num q hq).2
    have h2 : y = N.last + 1 := by simpa using hy
    omega
theorem ok_answer_room (T : Txt P w K mg A) : FnOk P w K mg base CX0 5 A.f_answer_room A.d_answer_room ["grid", "call"] (sp_on A fun c d => ∃ v, c = [[11, v]] ∧ d = .room v) := by
  have G_has_feeder := ok_has_feeder (base := base) T
  have G_plant_init := ok_plant_init (base := base) T
  have G_total_of := ok_total_of (base := base) T
  have G_with_plants := ok_with_plants (base := base) T
  refine T.F_answer_room.ok sc_answer_room (fun vs H Q E h => ?_) (fun cdv Ar outer s H vs Q E hr h => ?_)
  · obtain ⟨g, ca, c, d, N, Z, rfl, _⟩ := h
    rfl
  · obtain ⟨g, ca, c, d, N, Z, rfl, hZ, ⟨dca, na, ra, _, _, _, hca, hna, hra⟩, GG, W, ⟨u, rfl, rfl⟩, hin, k⟩ := h
    obtain ⟨dx, c, h, p, ps, G, zg, zc, zh, zp, zps⟩ := id GG
    have hin1 : Vbemay.isFeeder u = true := hin
    have hpm := W.pmost
    refine ⟨_, (pss_cons (ps_set (i := 2) sc_answer_room.nd rfl (Or.inl rfl) (pe_ix ix_list (pe_fld (pv 1) rfl) pe_int (fun _ _ => rfl)))
      (pss_cons (ps_if (pt_not (pt_val (pe_meth (pv 0) T.cl_Grid T.m_has_feeder G_has_feeder (hr.mono (by decide)) T.b_has_feeder .nil pass0 (pa_cons (pv 2) pa_nil)))) (pss_one (ps_ret (pe_lst (pa_cons (pe_globI rfl T.g_NO_FEEDER) pa_nil)))) pss_nil)
      (pss_cons (ps_set (i := 3) sc_answer_room.nd rfl (Or.inl rfl) (pe_make T.mk_Plant G_plant_init (hr.mono (by decide)) rfl T.g_Plant T.b_plant_init .nil pass0 (pa_cons (pe_op op_add (pe_fld (pv 0) rfl) pe_int) (pa_cons (pv 2) (pa_cons (pe_globI rfl T.g_WANT_FOR_ROOM) pa_nil)))))
      (pss_one (ps_ret (pe_lst (pa_cons (pe_globI rfl T.g_ACCEPTED) (pa_cons (pe_op op_sub (pe_call G_total_of (hr.mono (by decide)) rfl T.g_total_of T.F_total_of.kp T.b_total_of .nil pass0 (pa_cons (pe_meth (pv 0) T.cl_Grid T.m_with_plants G_with_plants (hr.mono (by decide)) T.b_with_plants .nil pass0 (pa_cons (pe_op op_cat (pe_fld (pv 0) rfl) (pe_lst (pa_cons (pv 3) pa_nil))) pa_nil)) pa_nil)) (pe_call G_total_of (hr.mono (by decide)) rfl T.g_total_of T.F_total_of.kp T.b_total_of .nil pass0 (pa_cons (pv 0) pa_nil))) pa_nil)))))))), ?_⟩
    refine ⟨_, rfl, ca, A.C_Call, dca, _, _, rfl, hca, T.cl_Call, T.n_Call_numbers, rfl, na, _, 0, _, rfl, rfl, SqL.of hna, rfl, ?_⟩
    refine ⟨_, rfl, g, dx, _, rfl, G.gx.ob, rfl, _, rfl, g, N, u, rfl, G.gv, _, rfl, ?_⟩
    by_cases hl : (N.feeders.length : Int) < u
    · rw [has_no hl]
      have e : onNet N (.room u) = (N, [-3]) := by
        show (if Vbemay.lacks N u = true then (N, [-3]) else _) = _
        rw [if_pos (lacks_yes hl)]
      rw [e] at k
      exact iteT ⟨(by show 1 ≤ sizeLine; decide), fun q hq => k.same hZ GG (Same.refl H) hq rfl⟩
    rw [has_yes hin1 hl]
    obtain ⟨v, hv, hvl, hiv⟩ := feeder_of hin1 hl
    have e : onNet N (.room u) = (N, [0, Vbemay.total (Vbemay.withPlant N v) - Vbemay.total N]) := by
      show (if Vbemay.lacks N u = true then (N, [-3]) else _) = _
      rw [if_neg (lacks_no hl), hiv]
    rw [e] at k
    refine iteF ⟨_, rfl, g, A.C_Grid, dx, _, _, rfl, G.gx.ob, T.cl_Grid, T.n_Grid_last_number, rfl, _, _, rfl, rfl, _, rfl, fun x d hx hd hdx => ⟨x, d, _, _, _, rfl, upd_same, fun H1 h1 kp => ⟨rfl, ?_⟩⟩⟩
    have s1 : Same H H1 := made_same hx hd kp
    have elp : (ps.map V.ref).length = N.plants.length := by rw [List.length_map, G.gx.len]
    refine ⟨_, rfl, g, dx, _, rfl, s1 _ _ G.gx.ob, rfl, _, rfl, g, A.C_Grid, dx, _, _, rfl, s1 _ _ G.gx.ob, T.cl_Grid, T.n_Grid_plants, rfl, _, rfl, (by show 1 ≤ sizeLine; decide), fun l1 hl1 => ?_⟩
    have s2 : Same H1 (upd H1 l1 (.lst [V.ref x])) := Same.new hl1
    refine ⟨p, l1, _, _, rfl, rfl, s2 _ _ (s1 _ _ G.gx.lst), upd_same, ?_, fun l2 hl2 => ?_⟩
    · rw [elp, sizeLine_eq]
      show _ + 1 ≤ _
      omega
    have s3 : Same H1 (upd (upd H1 l1 (.lst [V.ref x])) l2 (.lst (ps.map V.ref ++ [V.ref x]))) := s2.on (s2.free hl2)
    have hl2' : (upd (upd H1 l1 (.lst [V.ref x])) l2 (.lst (ps.map V.ref ++ [V.ref x]))) l2 = some (.lst ((ps ++ [x]).map V.ref)) := by
      rw [upd_same, List.map_append]
      rfl
    have sH3 := s1.trans s3
    have hxp : PlantAt A (upd (upd H1 l1 (.lst [V.ref x])) l2 (.lst (ps.map V.ref ++ [V.ref x]))) x { num := N.last + 1, at_ := v, want := 13 * Vbemay.TOP } := by
      refine ⟨d, ?_⟩
      have := s3 _ _ h1
      rw [hv] at this
      exact this
    refine ⟨g, l2, N, ps ++ [x], N.plants ++ [{ num := N.last + 1, at_ := v, want := 13 * Vbemay.TOP }], rfl, GG.gv.same sH3, SqL.of hl2', ?_, by simp; omega, fun H4 g' G4 s4 => ?_⟩
    · have PA := (G.gx.plants.same sH3)
      refine ⟨by simp [PA.1], fun j a q ha hq => ?_⟩
      by_cases hj : j < ps.length
      · rw [List.getElem?_append_left hj] at ha
        rw [List.getElem?_append_left (by rw [← PA.1]; exact hj)] at hq
        exact PA.2 j a q ha hq
      · have hj2 : j = ps.length := by
          have := (List.getElem?_eq_some_iff.mp ha).1
          simp at this
          omega
        subst hj2
        have e1 : x = a := by simpa using ha
        have e2 : ({ num := N.last + 1, at_ := v, want := 13 * Vbemay.TOP } : Plant) = q := by
          rw [PA.1] at hq
          simpa using hq
        subst e1 e2
        exact hxp
    have s34 := sH3.trans s4
    exact ⟨g', _, rfl, G4, good_with W hvl, fun H5 s5 => ⟨_, rfl, g, N, rfl, GG.gv.same (s34.trans s5), W.good, fun H6 s6 => ⟨_, _, rfl, rfl, (by show 2 ≤ sizeLine; decide), fun q hq => k.same hZ GG ((s34.trans s5).trans s6) hq rfl⟩⟩⟩
theorem ok_answer_worth (T : Txt P w K mg A) : FnOk P w K mg base CX0 3 A.f_answer_worth A.d_answer_worth ["grid", "call"] (sp_on A fun c d => ∃ l, c = [[15], l] ∧ d = .worth l) := by
  have G_has_feeder := ok_has_feeder (base := base) T
  have G_worth_of := ok_worth_of (base := base) T
  refine T.F_answer_worth.ok sc_answer_worth (fun vs H Q E h => ?_) (fun cdv Ar outer s H vs Q E hr h => ?_)
  · obtain ⟨g, ca, c, d, N, Z, rfl, _⟩ := h
    rfl
  · obtain ⟨g, ca, c, d, N, Z, rfl, hZ, ⟨dca, na, ra, _, _, _, hca, hna, hra⟩, GG, W, ⟨row, rfl, rfl⟩, hin, k⟩ := h
    obtain ⟨dx, c, h, p, ps, G, zg, zc, zh, zp, zps⟩ := id GG
    have hrow : H ra = some (.lst (intsV row)) := hra
    obtain ⟨hin1, hin2⟩ := Bool.and_eq_true_iff.mp (show (decide (row.length ≤ 12) && row.all Vbemay.isFeeder) = true from hin)
    have hrl : row.length ≤ 12 := of_decide_eq_true hin1
    have hfe : ∀ u ∈ row, Vbemay.isFeeder u = true := List.all_eq_true.mp hin2
    refine ⟨_, (pss_cons (ps_if (pt_not (pt_val (pe_callB (cr_all rfl) (by rfl) T.n_all bt_all (pa_cons (pe_lc (own := [("feeder", 2)]) (te := tMeth A.C_Grid "has_feeder" (sp_has A) [] E0 (tVar 0) (tCons (tVar 2) tNil)) rfl sc_answer_worth.nd (pi_list (pe_fld (pv 1) rfl)) (blk_mk rfl) (fun _ _ _ _ _ => (pg_name (i := 2) sc_answer_worth.nd rfl (Or.inl rfl))) (fun _ _ _ _ _ => pts_nil) (fun _ _ _ _ _ => (pe_meth (pv 0) T.cl_Grid T.m_has_feeder G_has_feeder (hr.mono (by decide)) T.b_has_feeder .nil pass0 (pa_cons (pv 2) pa_nil)))) pa_nil)))) (pss_one (ps_ret (pe_lst (pa_cons (pe_globI rfl T.g_NO_FEEDER) pa_nil)))) pss_nil)
      (pss_one (ps_ret (pe_lst (pa_cons (pe_globI rfl T.g_ACCEPTED) (pa_cons (pe_call G_worth_of (hr.mono (by decide)) rfl T.g_worth_of T.F_worth_of.kp T.b_worth_of .nil pass0 (pa_cons (pv 0) (pa_cons (pe_fld (pv 1) rfl) pa_nil))) pa_nil)))))), ?_⟩
    refine ⟨_, rfl, ca, A.C_Call, dca, _, _, rfl, hca, T.cl_Call, T.n_Call_row, rfl, ra, rfl, ⟨_, SqL.of hrow⟩, fun D hD => lc_map (ys := (row.map fun u => decide (1 ≤ u ∧ u ≤ (N.feeders.length : Int))).map V.bl) hD (goes_list (SqL.of hrow)) ?_ ?_ ?_ (fun H1 hD1 s1 => ?_) gName_mono⟩
    · rw [ints_len, List.length_map, List.length_map]
    · rw [ints_len, sizeLine_eq]
      omega
    · intro i x y H' hx hy sm Y hY
      obtain ⟨z, hz, rfl⟩ := map_some hx
      obtain ⟨b, hb, rfl⟩ := map_some hy
      obtain ⟨z', hz', rfl⟩ := map_some hb
      have ez : z = z' := Option.some.inj (hz.symm.trans hz')
      subst ez
      exact ⟨rfl, _, rfl, g, dx, _, rfl, sm _ _ G.gx.ob, rfl, _, rfl, g, N, z, rfl, GG.gv.same sm, hY H' (Same.refl _)⟩
    refine ⟨D, _, rfl, SqL.of hD1, _, rfl, ?_⟩
    by_cases hany : (row.any fun v => Vbemay.lacks N v) = true
    · have e : onNet N (.worth row) = (N, [-3]) := by
        show (if (row.any fun v => Vbemay.lacks N v) = true then (N, [-3]) else _) = _
        rw [if_pos hany]
      rw [e] at k
      have ef : ((row.map fun u => decide (1 ≤ u ∧ u ≤ (N.feeders.length : Int))).all id) = false := by
        obtain ⟨u, hu, hl⟩ := List.any_eq_true.mp hany
        refine List.all_eq_false.mpr ⟨false, List.mem_map.mpr ⟨u, hu, has_no (Pd.lacks_iff.mp hl)⟩, by simp⟩
      rw [ef]
      exact iteT ⟨(by show 1 ≤ sizeLine; decide), fun q hq => k.same hZ GG s1 hq rfl⟩
    · have e : onNet N (.worth row) = (N, [0, Vbemay.cutWorth N (row.map Vbemay.idx)]) := by
        show (if (row.any fun v => Vbemay.lacks N v) = true then (N, [-3]) else _) = _
        rw [if_neg hany]
      rw [e] at k
      have hno : ∀ u ∈ row, ¬ (N.feeders.length : Int) < u := fun u hu hl => hany (List.any_eq_true.mpr ⟨u, hu, lacks_yes hl⟩)
      have ef : ((row.map fun u => decide (1 ≤ u ∧ u ≤ (N.feeders.length : Int))).all id) = true := by
        rw [List.all_map]
        exact List.all_eq_true.mpr fun u hu => has_yes (hfe u hu) (hno u hu)
      rw [ef]
      have efd : feedV (row.map Vbemay.idx) = intsV row := by
        unfold feedV intsV
        rw [List.map_map]
        refine List.map_congr_left fun u hu => ?_
        have := (Pd.isFeeder_iff.mp (hfe u hu)).1
        show V.int ((((u - 1).toNat : Nat) : Int) + 1) = V.int u
        congr 1
        omega
      refine iteF ⟨_, rfl, _, rfl, ca, A.C_Call, dca, _, _, rfl, s1 _ _ hca, T.cl_Call, T.n_Call_row, rfl, g, ra, N, row.map Vbemay.idx, rfl, GG.gv.same s1, W.good, by rw [efd]; exact SqL.of (s1 _ _ hrow), by rw [List.length_map]; exact hrl, fun v hv => ?_, fun H2 s2 => ⟨(by show 2 ≤ sizeLine; decide), fun q hq => k.same hZ GG (s1.trans s2) hq rfl⟩⟩
      obtain ⟨u, hu, rfl⟩ := List.mem_map.mp hv
      obtain ⟨v, _, hvl, hiv⟩ := feeder_of (hfe u hu) (hno u hu)
      rw [hiv]
      exact hvl
theorem ok_answer_without (T : Txt P w K mg A) : FnOk P w K mg base CX0 5 A.f_answer_without A.d_answer_without ["grid", "call"] (sp_on A fun c d => ∃ n, c = [[16, n]] ∧ d = .without n) := by
  have G_find_plant := ok_find_plant (base := base) T
  have G_plants_but := ok_plants_but (base := base) T
  have G_total_of := ok_total_of (base := base) T
  have G_with_plants := ok_with_plants (base := base) T
  refine T.F_answer_without.ok sc_answer_without (fun vs H Q E h => ?_) (fun cdv Ar outer s H vs Q E hr h => ?_)
  · obtain ⟨g, ca, c, d, N, Z, rfl, _⟩ := h
    rfl
  · obtain ⟨g, ca, c, d, N, Z, rfl, hZ, ⟨dca, na, ra, _, _, _, hca, hna, hra⟩, GG, W, ⟨n, rfl, rfl⟩, hin, k⟩ := h
    obtain ⟨dx, c, h, p, ps, G, zg, zc, zh, zp, zps⟩ := id GG
    have hpm := W.pmost
    refine ⟨_, (pss_cons (ps_set (i := 2) sc_answer_without.nd rfl (Or.inl rfl) (pe_ix ix_list (pe_fld (pv 1) rfl) pe_int (fun _ _ => rfl)))
      (pss_cons (ps_if (pt_cmp (pc_isN (pe_meth (pv 0) T.cl_Grid T.m_find_plant G_find_plant (hr.mono (by decide)) T.b_find_plant .nil pass0 (pa_cons (pv 2) pa_nil)))) (pss_one (ps_ret (pe_lst (pa_cons (pe_globI rfl T.g_NO_PLANT) pa_nil)))) pss_nil)
      (pss_one (ps_ret (pe_lst (pa_cons (pe_globI rfl T.g_ACCEPTED) (pa_cons (pe_op op_sub (pe_call G_total_of (hr.mono (by decide)) rfl T.g_total_of T.F_total_of.kp T.b_total_of .nil pass0 (pa_cons (pv 0) pa_nil)) (pe_call G_total_of (hr.mono (by decide)) rfl T.g_total_of T.F_total_of.kp T.b_total_of .nil pass0 (pa_cons (pe_meth (pv 0) T.cl_Grid T.m_with_plants G_with_plants (hr.mono (by decide)) T.b_with_plants .nil pass0 (pa_cons (pe_meth (pv 0) T.cl_Grid T.m_plants_but G_plants_but (hr.mono (by decide)) T.b_plants_but .nil pass0 (pa_cons (pv 2) pa_nil)) pa_nil)) pa_nil))) pa_nil))))))), ?_⟩
    refine ⟨_, rfl, ca, A.C_Call, dca, _, _, rfl, hca, T.cl_Call, T.n_Call_numbers, rfl, na, _, 0, _, rfl, rfl, SqL.of hna, rfl, ?_⟩
    refine ⟨_, rfl, g, dx, _, rfl, G.gx.ob, rfl, _, rfl, g, n, N, dx, c, h, p, _, ps, rfl, G.gx, fun j b q hb hq hn _ => ?_, fun hno => ?_⟩
    · have e : onNet N (.without n) = (N, [0, Vbemay.total N - Vbemay.total (Vbemay.withoutPlant N n)]) := by
        show (if (Vbemay.place N n).isNone = true then (N, [-5]) else _) = _
        rw [if_neg (fun z => Pd.place_none.mp z q (List.mem_of_getElem? hq) hn)]
      rw [e] at k
      refine ⟨_, rfl, iteF ⟨_, rfl, g, N, rfl, GG.gv, W.good, fun H1 s1 => ?_⟩⟩
      refine ⟨_, rfl, g, dx, _, rfl, s1 _ _ G.gx.ob, rfl, _, rfl, g, dx, _, rfl, s1 _ _ G.gx.ob, rfl, _, rfl, g, dx, c, h, p, N, _, ps, n, rfl, G.gx.same s1, W.pmost, fun H2 l2 hl2 hl20 s2 => ?_⟩
      have s12 := s1.trans s2
      refine ⟨g, l2, N, _, _, rfl, GG.gv.same s12, SqL.of hl2, butOf_at n (G.gx.plants.same s12), ?_, fun H3 g' G3 s3 => ?_⟩
      · have := List.length_filter_le (fun q : Plant => q.num != n) N.plants
        omega
      · exact ⟨g', _, rfl, G3, (W.without n).good, fun H4 s4 => ⟨_, _, rfl, rfl, (by show 2 ≤ sizeLine; decide), fun q hq => k.same hZ GG ((s12.trans s3).trans s4) hq rfl⟩⟩
    · have e : onNet N (.without n) = (N, [-5]) := by
        show (if (Vbemay.place N n).isNone = true then (N, [-5]) else _) = _
        rw [if_pos (Pd.place_none.mpr hno)]
      rw [e] at k
      exact ⟨_, rfl, iteT ⟨(by show 1 ≤ sizeLine; decide), fun q hq => k.same hZ GG (Same.refl H) hq rfl⟩⟩
def fb (f : Feeder) : List Int := [(f.up : Int) + 1, f.cap]
def pb (q : Plant) : List Int := [q.num, (q.at_ : Int) + 1, q.want]
theorem flat_len {α : Type} (f : α → List Int) (k : Nat) (h : ∀ a, (f a).length = k) : ∀ l : List α, (l.flatMap f).length = l.length * k
  | [] => by simp
  | a :: l => by rw [List.flatMap_cons, List.length_append, h, flat_len f k h l, List.length_cons, Nat.succ_mul]; omega
theorem flat_snoc {α : Type} (f : α → List Int) (l : List α) (a : α) : (l ++ [a]).flatMap f = l.flatMap f ++ f a := by
  rw [List.flatMap_append]
  simp
theorem book_app (a b : Int) (x y z : List Int) : intsV (a :: b :: (x ++ (y ++ z))) = intsV (a :: b :: (x ++ y)) ++ intsV z := by
  rw [← ints_app]
  simp
theorem ok_answer_book (T : Txt P w K mg A) : FnOk P w K mg base CX0 2 A.f_answer_book A.d_answer_book ["grid", "call"] (sp_on A fun c d => c = [[17]] ∧ d = .book) := by
  have G_feeder_numbers := ok_feeder_numbers (base := base) T
  refine T.F_answer_book.ok sc_answer_book (fun vs H Q E h => ?_) (fun cdv Ar outer s H vs Q E hr h => ?_)
  · obtain ⟨g, ca, c, d, N, Z, rfl, _⟩ := h
    rfl
  · obtain ⟨g, ca, c, d, N, Z, rfl, hZ, _, GG, W, ⟨rfl, rfl⟩, hin, k⟩ := h
    obtain ⟨dx, c, h, p, ps, G, zg, zc, zh, zp, zps⟩ := id GG
    have hu := hu_of hr
    have hpm := W.pmost
    have hfm := W.most
    refine ⟨_, (pss_cons (ps_set (i := 2) sc_answer_book.nd rfl (Or.inl rfl) (pe_lst (pa_cons (pe_globI rfl T.g_ACCEPTED) (pa_cons (pe_callB call_lenD (by rfl) T.n_len bt_len (pa_cons (pe_fld (pv 0) rfl) pa_nil)) pa_nil))))
      (pss_cons (ps_for PassesOwn.never rfl (pi_list (pe_meth0 (pv 0) T.cl_Grid T.m_feeder_numbers G_feeder_numbers (hr.mono (by decide)) T.b_feeder_numbers .nil pass0)) (pg_name (i := 3) sc_answer_book.nd rfl (Or.inl rfl)) (pss_one (ps_expr (pe_bm PySem.F.plainAttrs_list PySem.F.slot_list_extend PySem.F.type_list_extend mt_extend (pv 2) (pa_cons (pe_lst (pa_cons (pe_dget hu (pe_fld (pv 0) rfl) (pv 3) (fun _ _ => rfl)) (pa_cons (pe_dget hu (pe_fld (pv 0) rfl) (pv 3) (fun _ _ => rfl)) pa_nil))) pa_nil)))))
      (pss_cons (ps_for PassesOwn.never rfl (pi_list (pe_fld (pv 0) rfl)) (pg_name (i := 4) sc_answer_book.nd rfl (Or.inl rfl)) (pss_one (ps_expr (pe_bm PySem.F.plainAttrs_list PySem.F.slot_list_extend PySem.F.type_list_extend mt_extend (pv 2) (pa_cons (pe_lst (pa_cons (pe_fld (pv 4) rfl) (pa_cons (pe_fld (pv 4) rfl) (pa_cons (pe_fld (pv 4) rfl) pa_nil)))) pa_nil)))))
      (pss_one (ps_ret (pv 2)))))), ?_⟩
    have el : (capsK N).length = N.feeders.length := tabK_len _ _
    refine ⟨_, rfl, g, A.C_Grid, dx, _, _, rfl, G.gx.ob, T.cl_Grid, T.n_Grid_capacities, rfl, c, _, rfl, G.gx.caps, (by show 2 ≤ sizeLine; decide), fun q hq0 => ?_⟩
    rw [el]
    have s0 : Same H (upd H q (.lst [V.int 0, V.int (N.feeders.length : Int)])) := Same.new hq0
    have hq1 : (upd H q (.lst [V.int 0, V.int (N.feeders.length : Int)])) q = some (.lst (intsV (0 :: (N.feeders.length : Int) :: (N.feeders.take 0).flatMap fb))) := by
      rw [upd_same]
      rfl
    revert s0 hq1
    show _ → _ → _
    generalize upd H q (.lst [V.int 0, V.int (N.feeders.length : Int)]) = H1
    intro s0 hq1
    refine ⟨_, rfl, g, dx, _, rfl, s0 _ _ G.gx.ob, rfl, g, N, rfl, GG.gv.same s0, W.most, fun H2 pn hpn hpn0 s2 => ?_⟩
    have npq : pn ≠ q := fun e => by rw [e, hq1] at hpn0; cases hpn0
    have sH2 := s0.trans s2
    refine ⟨pn, rfl, ⟨_, SqL.of hpn⟩, for_list (K := K) (a := pn) (xs := feedV (List.range N.feeders.length)) (fun i σ' H' => ∃ v3 : Option V, σ' = [some (.ref g), some (.ref ca), some (.ref q), v3, none] ∧ H' q = some (.lst (intsV (0 :: (N.feeders.length : Int) :: (N.feeders.take i).flatMap fb))) ∧ But q H2 H')
      ⟨none, rfl, s2 _ _ hq1, fun b o _ e => e⟩ (fun i σ' H' _ ⟨_, _, _, kp⟩ => SqL.of (kp _ _ npq hpn)) ?_ ?_⟩
    · rintro i x σ' H' hx ⟨v3, rfl, hq3, kp⟩
      obtain ⟨v, hv, rfl⟩ := map_some hx
      obtain ⟨rfl, hvl⟩ := range_at hv
      have sm : Same H H' := But.same sH2 kp hq0
      have hf : N.feeders[v]? = some N.feeders[v] := List.getElem?_eq_getElem hvl
      have hup := Pd.upOf_at hf
      have hcp := Pd.capOf_at hf
      generalize N.feeders[v] = f at hf hup hcp
      refine ⟨_, rfl, .inl ⟨rfl, _, SqL.of hq3⟩, _, rfl, g, A.C_Grid, dx, _, _, rfl, sm _ _ G.gx.ob, T.cl_Grid, T.n_Grid_hangs_on, rfl, _, rfl, h, _, rfl, hang_get (sm _ _ G.gx.hang) hvl, _, rfl, g, A.C_Grid, dx, _, _, rfl, sm _ _ G.gx.ob, T.cl_Grid, T.n_Grid_capacities, rfl, _, rfl, c, _, rfl, caps_get (.inl (sm _ _ G.gx.caps)) hvl, (by show 2 ≤ sizeLine; decide), fun l1 hl1 => ?_⟩
      have ql : q ≠ l1 := ne_of_none hq3 hl1
      refine ⟨q, l1, _, _, rfl, rfl, (by rw [upd_ne ql]; exact hq3), upd_same, ?_, ?_⟩
      · rw [ints_len, List.length_cons, List.length_cons, flat_len fb 2 (fun _ => rfl), List.length_take, sizeLine_eq]
        show _ + 2 ≤ _
        omega
      · refine ⟨_, rfl, ?_, fun b o hb e => ?_⟩
        · rw [upd_same, take_succ hf, flat_snoc, ← List.cons_append, ← List.cons_append, ints_app]
          rw [hup, hcp]
          rfl
        · rw [upd_ne hb, upd_ne (ne_of_none (kp b o hb e) hl1)]
          exact kp b o hb e
    rintro σ' H3 ⟨v3, rfl, hq3, kp3⟩
    have elf : (feedV (List.range N.feeders.length)).length = N.feeders.length := by unfold feedV; rw [List.length_map, List.length_range]
    rw [elf, List.take_length] at hq3
    have sH3 : Same H H3 := But.same sH2 kp3 hq0
    refine ⟨_, rfl, g, A.C_Grid, dx, _, _, rfl, sH3 _ _ G.gx.ob, T.cl_Grid, T.n_Grid_plants, rfl, p, rfl, ⟨_, SqL.of (sH3 _ _ G.gx.lst)⟩,
      for_by H (fun i σ' H' => ∃ v4 : Option V, σ' = [some (.ref g), some (.ref ca), some (.ref q), v3, v4] ∧ H' q = some (.lst (intsV (0 :: (N.feeders.length : Int) :: (N.feeders.flatMap fb ++ (N.plants.take i).flatMap pb)))) ∧ Same H H') (goes_list (SqL.of G.gx.lst))
      ⟨none, rfl, ?_, sH3⟩ (fun i σ' H' ⟨_, _, _, sm⟩ => sm) ?_ ?_⟩
    · rw [hq3, List.take_zero, List.flatMap_nil, List.append_nil]
    · rintro i x σ' H' hx ⟨v4, rfl, hq4, sm⟩
      obtain ⟨a', ha', rfl⟩ := map_some hx
      have hil : i < N.plants.length := by rw [← G.gx.len]; exact (List.getElem?_eq_some_iff.mp ha').1
      have hpq : N.plants[i]? = some N.plants[i] := List.getElem?_eq_getElem hil
      generalize N.plants[i] = qq at hpq
      obtain ⟨da, hpl⟩ := G.gx.at_ i a' qq ha' hpq
      refine ⟨_, rfl, .inl ⟨rfl, _, SqL.of hq4⟩, _, rfl, a', A.C_Plant, da, _, _, rfl, sm _ _ hpl, T.cl_Plant, T.n_Plant_number, rfl, _, rfl, a', A.C_Plant, da, _, _, rfl, sm _ _ hpl, T.cl_Plant, T.n_Plant_feeder, rfl, _, rfl, a', A.C_Plant, da, _, _, rfl, sm _ _ hpl, T.cl_Plant, T.n_Plant_want, rfl, (by show 3 ≤ sizeLine; decide), fun l1 hl1 => ?_⟩
      have ql : q ≠ l1 := ne_of_none hq4 hl1
      refine ⟨q, l1, _, _, rfl, rfl, (by rw [upd_ne ql]; exact hq4), upd_same, ?_, ?_⟩
      · rw [ints_len, List.length_cons, List.length_cons, List.length_append, flat_len fb 2 (fun _ => rfl), flat_len pb 3 (fun _ => rfl), List.length_take, sizeLine_eq]
        show _ + 3 ≤ _
        omega
      · refine ⟨_, rfl, ?_, fun b o e => ?_⟩
        · rw [upd_same, take_succ hpq, flat_snoc, book_app]
          rfl
        · rw [upd_ne (ne_of_none e hq0), upd_ne (ne_of_none (sm b o e) hl1)]
          exact sm b o e
    · rintro σ' H4 ⟨v4, rfl, hq4, sm⟩
      have elp : (ps.map V.ref).length = N.plants.length := by rw [List.length_map, G.gx.len]
      rw [elp, List.take_length] at hq4
      refine ⟨_, rfl, k H4 q hq4 (GG.same sm) (KeepZ.of_same sm) (hZ.off hq0)⟩
end
end Pt
end
section
set_option Elab.async false
set_option linter.all false
set_option maxRecDepth 100000
set_option maxHeartbeats 1000000
namespace Pt
open PySem PySem.Spec PyProof.Rows L2
open Vbemay (Net Plant Feeder State onNet inRange step stepNumbers decode)
open Pd (WF Kind B18 R18)
open PyFlat (put put1 told played)
section
variable {P : Program} {w : World} {K : PySem.W.Frag} {mg : Str → Option Value} {base : Heap} {A : Ad}
theorem any_ok {x : Int} (h : B18 x) : Kd.any.ok x = true := by
  show (decide ((-1000000000000000000 : Int) ≤ x) && decide (x ≤ 1000000000000000000)) = true
  rw [decide_eq_true h.1, decide_eq_true h.2]
  rfl
theorem any_all {l : List Int} (h : R18 l) : l.all Kd.any.ok = true := List.all_eq_true.mpr fun x hx => any_ok (h.2 x hx)
theorem amount_ok (x : Int) : Kd.amount.ok x = Vbemay.isAmount x := rfl
theorem feeder_ok (x : Int) : Kd.feeder.ok x = Vbemay.isFeeder x := rfl
theorem rule_ok (x : Int) : Kd.rule.ok x = Vbemay.isRule x := rfl
def inR (c : List (List Int)) : Bool := decide ((rowOf c).length ≤ 12) && ((((numKd (numOf c)).zip (numsOf c)).all fun y => y.1.ok y.2) && (rowOf c).all (rowKd (numOf c)).ok)
structure Disp (P : Program) (w : World) (K : PySem.W.Frag) (mg : Str → Option Value) (base : Heap) (A : Ad) (c : List (List Int)) (d : Vbemay.Call) : Prop where
  dec : decode c = some d
  inr : inR c = inRange d
  ex : ∃ (rel : List (List Int) → Vbemay.Call → Prop) (kvs : List (Key × V)) (f : Addr) (fd : FuncData), KD P w K A.t_ANSWER_OF kvs ∧ valV kvs (Sum.inl (numOf c) : Key) = some (.ref f) ∧ FnOk P w K mg base CX0 7 f fd ["grid", "call"] (sp_on A rel) ∧ Binds K fd ["grid", "call"] [] ∧ PySem.W.keepIn K (.ref f) = true ∧ rel c d
  num : numOf c ≠ 0
  nopen : ∀ x, d ≠ .open_ x
theorem disp (T : Txt P w K mg A) {c : List (List Int)} (h : Kind c) : (∃ x, c = [[0, x]]) ∨ ∃ d, Disp P w K mg base A c d := by
  cases h with
  | open_ x hx => exact .inl ⟨x, rfl⟩
  | feeder x y hx hy => exact .inr ⟨.feeder x y, rfl, by show (true && ((Kd.feeder.ok x && (Kd.amount.ok y && true)) && true)) = (Vbemay.isFeeder x && Vbemay.isAmount y); rw [feeder_ok, amount_ok]; simp, ⟨_, _, A.f_answer_feeder, A.d_answer_feeder, T.kd_ANSWER_OF, rfl, (ok_answer_feeder T).mono (by decide), T.b_answer_feeder, T.F_answer_feeder.kp, x, y, rfl, rfl⟩, by show (1 : Int) ≠ 0; decide, fun _ => by simp⟩
  | cap x y hx hy => exact .inr ⟨.cap x y, rfl, by show (true && ((Kd.feeder.ok x && (Kd.amount.ok y && true)) && true)) = (Vbemay.isFeeder x && Vbemay.isAmount y); rw [feeder_ok, amount_ok]; simp, ⟨_, _, A.f_answer_cap, A.d_answer_cap, T.kd_ANSWER_OF, rfl, (ok_answer_cap T).mono (by decide), T.b_answer_cap, T.F_answer_cap.kp, x, y, rfl, rfl⟩, by show (2 : Int) ≠ 0; decide, fun _ => by simp⟩
  | plant x y hx hy => exact .inr ⟨.plant x y, rfl, by show (true && ((Kd.feeder.ok x && (Kd.amount.ok y && true)) && true)) = (Vbemay.isFeeder x && Vbemay.isAmount y); rw [feeder_ok, amount_ok]; simp, ⟨_, _, A.f_answer_plant, A.d_answer_plant, T.kd_ANSWER_OF, rfl, (ok_answer_plant T).mono (by decide), T.b_answer_plant, T.F_answer_plant.kp, x, y, rfl, rfl⟩, by show (3 : Int) ≠ 0; decide, fun _ => by simp⟩
  | want x y hx hy => exact .inr ⟨.want x y, rfl, by show (true && ((Kd.any.ok x && (Kd.amount.ok y && true)) && true)) = Vbemay.isAmount y; rw [any_ok hx, amount_ok]; simp, ⟨_, _, A.f_answer_want, A.d_answer_want, T.kd_ANSWER_OF, rfl, (ok_answer_want T).mono (by decide), T.b_answer_want, T.F_answer_want.kp, x, y, rfl, rfl⟩, by show (4 : Int) ≠ 0; decide, fun _ => by simp⟩
  | leave x hx => exact .inr ⟨.leave x, rfl, by show (true && ((Kd.any.ok x && true) && true)) = true; rw [any_ok hx]; rfl, ⟨_, _, A.f_answer_leave, A.d_answer_leave, T.kd_ANSWER_OF, rfl, (ok_answer_leave T).mono (by decide), T.b_answer_leave, T.F_answer_leave.kp, x, rfl, rfl⟩, by show (5 : Int) ≠ 0; decide, fun _ => by simp⟩
  | byAge => exact .inr ⟨.byAge, rfl, rfl, ⟨_, _, A.f_answer_by_age, A.d_answer_by_age, T.kd_ANSWER_OF, rfl, (ok_answer_by_age T).mono (by decide), T.b_answer_by_age, T.F_answer_by_age.kp, rfl, rfl⟩, by show (6 : Int) ≠ 0; decide, fun _ => by simp⟩
  | by_ u hu => exact .inr ⟨.by_ u, rfl, by show (decide (u.length ≤ 12) && (true && u.all Kd.any.ok)) = decide (u.length ≤ 12); rw [any_all hu]; simp, ⟨_, _, A.f_answer_by, A.d_answer_by, T.kd_ANSWER_OF, rfl, (ok_answer_by T).mono (by decide), T.b_answer_by, T.F_answer_by.kp, u, rfl, rfl⟩, by show (7 : Int) ≠ 0; decide, fun _ => by simp⟩
  | even => exact .inr ⟨.even, rfl, rfl, ⟨_, _, A.f_answer_even, A.d_answer_even, T.kd_ANSWER_OF, rfl, (ok_answer_even T).mono (by decide), T.b_answer_even, T.F_answer_even.kp, rfl, rfl⟩, by show (8 : Int) ≠ 0; decide, fun _ => by simp⟩
  | total => exact .inr ⟨.total, rfl, rfl, ⟨_, _, A.f_answer_total, A.d_answer_total, T.kd_ANSWER_OF, rfl, (ok_answer_total T).mono (by decide), T.b_answer_total, T.F_answer_total.kp, rfl, rfl⟩, by show (9 : Int) ≠ 0; decide, fun _ => by simp⟩
  | flows x hx => exact .inr ⟨.flows x, rfl, by show (true && ((Kd.rule.ok x && true) && true)) = Vbemay.isRule x; rw [rule_ok]; simp, ⟨_, _, A.f_answer_flows, A.d_answer_flows, T.kd_ANSWER_OF, rfl, (ok_answer_flows T).mono (by decide), T.b_answer_flows, T.F_answer_flows.kp, x, rfl, rfl⟩, by show (10 : Int) ≠ 0; decide, fun _ => by simp⟩
  | room x hx => exact .inr ⟨.room x, rfl, by show (true && ((Kd.feeder.ok x && true) && true)) = Vbemay.isFeeder x; rw [feeder_ok]; simp, ⟨_, _, A.f_answer_room, A.d_answer_room, T.kd_ANSWER_OF, rfl, (ok_answer_room T).mono (by decide), T.b_answer_room, T.F_answer_room.kp, x, rfl, rfl⟩, by show (11 : Int) ≠ 0; decide, fun _ => by simp⟩
  | cut => exact .inr ⟨.cut, rfl, rfl, ⟨_, _, A.f_answer_cut, A.d_answer_cut, T.kd_ANSWER_OF, rfl, (ok_answer_cut T).mono (by decide), T.b_answer_cut, T.F_answer_cut.kp, rfl, rfl⟩, by show (12 : Int) ≠ 0; decide, fun _ => by simp⟩
  | check u hu => exact .inr ⟨.check u, rfl, by show (decide (u.length ≤ 12) && (true && u.all Kd.amount.ok)) = (decide (u.length ≤ 12) && u.all Vbemay.isAmount); rw [Bool.true_and]; rfl, ⟨_, _, A.f_answer_check, A.d_answer_check, T.kd_ANSWER_OF, rfl, (ok_answer_check T).mono (by decide), T.b_answer_check, T.F_answer_check.kp, u, rfl, rfl⟩, by show (13 : Int) ≠ 0; decide, fun _ => by simp⟩
  | down x hx => exact .inr ⟨.down x, rfl, by show (true && ((Kd.rule.ok x && true) && true)) = Vbemay.isRule x; rw [rule_ok]; simp, ⟨_, _, A.f_answer_down, A.d_answer_down, T.kd_ANSWER_OF, rfl, (ok_answer_down T).mono (by decide), T.b_answer_down, T.F_answer_down.kp, x, rfl, rfl⟩, by show (14 : Int) ≠ 0; decide, fun _ => by simp⟩
  | worth u hu => exact .inr ⟨.worth u, rfl, by show (decide (u.length ≤ 12) && (true && u.all Kd.feeder.ok)) = (decide (u.length ≤ 12) && u.all Vbemay.isFeeder); rw [Bool.true_and]; rfl, ⟨_, _, A.f_answer_worth, A.d_answer_worth, T.kd_ANSWER_OF, rfl, (ok_answer_worth T).mono (by decide), T.b_answer_worth, T.F_answer_worth.kp, u, rfl, rfl⟩, by show (15 : Int) ≠ 0; decide, fun _ => by simp⟩
  | without x hx => exact .inr ⟨.without x, rfl, by show (true && ((Kd.any.ok x && true) && true)) = true; rw [any_ok hx]; rfl, ⟨_, _, A.f_answer_without, A.d_answer_without, T.kd_ANSWER_OF, rfl, (ok_answer_without T).mono (by decide), T.b_answer_without, T.F_answer_without.kp, x, rfl, rfl⟩, by show (16 : Int) ≠ 0; decide, fun _ => by simp⟩
  | book => exact .inr ⟨.book, rfl, rfl, ⟨_, _, A.f_answer_book, A.d_answer_book, T.kd_ANSWER_OF, rfl, (ok_answer_book T).mono (by decide), T.b_answer_book, T.F_answer_book.kp, rfl, rfl⟩, by show (17 : Int) ≠ 0; decide, fun _ => by simp⟩
def GS (A : Ad) (Z : Addr → Prop) (H : Hp) (g : Addr) (st : State) : Prop := match st.net with
  | none => GZ A Z H g N0
  | some N => GZ A Z H g N ∧ WF N
theorem GS.any {Z : Addr → Prop} {H : Hp} {g : Addr} {st : State} (G : GS A Z H g st) : ∃ N, GZ A Z H g N := by
  unfold GS at G
  split at G
  · exact ⟨_, G⟩
  · exact ⟨_, G.1⟩
theorem GS.mapZ {Z : Addr → Prop} {H H' : Hp} {g : Addr} {st : State} (G : GS A Z H g st) (k : ∀ N, GZ A Z H g N → GZ A Z H' g N) : GS A Z H' g st := by
  unfold GS at G ⊢
  split at G
  · exact k _ G
  · exact ⟨k _ G.1, G.2⟩
theorem step_bad {st : State} {d : Vbemay.Call} (h : inRange d = false) : step st d = (st, [-1]) := by
  unfold Vbemay.step
  rw [if_pos h]
theorem step_none {st : State} {d : Vbemay.Call} (h : inRange d = true) (hn : ∀ x, d ≠ .open_ x) (hs : st.net = none) : step st d = (st, [-2]) := by
  unfold Vbemay.step
  rw [if_neg (by rw [h]; exact fun z => nomatch z), hs]
  cases d with
  | open_ x => exact absurd rfl (hn x)
  | _ => rfl
theorem step_some {st : State} {d : Vbemay.Call} {N : Net} (h : inRange d = true) (hn : ∀ x, d ≠ .open_ x) (hs : st.net = some N) : step st d = ({ net := some (onNet N d).1 }, (onNet N d).2) := by
  unfold Vbemay.step
  rw [if_neg (by rw [h]; exact fun z => nomatch z), hs]
  cases d with
  | open_ x => exact absurd rfl (hn x)
  | _ => rfl
theorem stepN {st : State} {c : List (List Int)} {d : Vbemay.Call} (h : decode c = some d) : stepNumbers st c = step st d := by
  unfold stepNumbers
  rw [h]
def sp_call (A : Ad) : Sp := fun vs H Q _ => ∃ (g ca : Addr) (c : List (List Int)) (st : State) (Z : Addr → Prop), vs = [.ref g, .ref ca] ∧ HasZ Z H ∧ CallZ A Z H ca c ∧ Kind c ∧ GS A Z H g st ∧
  ∀ (H' : Hp) (p : Addr), H' p = some (.lst (intsV (stepNumbers st c).2)) → GS A Z H' g (stepNumbers st c).1 → KeepZ Z H H' → ¬ Z p → Q (.ref p) H'
theorem ok_answer_call (T : Txt P w K mg A) : FnOk P w K mg base CX0 8 A.f_answer_call A.d_answer_call ["grid", "call"] (sp_call A) := by
  have G_is_in_ranges := ok_is_in_ranges (base := base) T
  have G_has_begun := ok_has_begun (base := base) T
  have G_begin := (ok_answer_begin (base := base) T).mono (by decide : 2 ≤ 7)
  refine T.F_answer_call.ok sc_answer_call (fun vs H Q E h => ?_) (fun cdv Ar outer s H vs Q E hr h => ?_)
  · obtain ⟨g, ca, c, st, Z, rfl, _⟩ := h
    rfl
  · obtain ⟨g, ca, c, st, Z, rfl, hZ, hC, hk, GG, k⟩ := h
    obtain ⟨dca, na, ra, zca, zna, zra, hca, hna, hra⟩ := id hC
    have T1 := told1 T hk
    obtain ⟨t, hnk, hkt⟩ := T1.kinds
    obtain ⟨kva, hkda, hvala⟩ := T1.ans
    refine ⟨_, (pss_cons (ps_if (PW.pt (pw_or (pt_cmp (pc_knotin (pe_fld (pv 1) rfl) (pe_globR rfl T.g_ANSWER_OF)) (by rfl)) (pw_or1 (pt_not (pt_val (pe_call G_is_in_ranges (hr.mono (by decide)) rfl T.g_is_in_ranges T.F_is_in_ranges.kp T.b_is_in_ranges .nil pass0 (pa_cons (pv 1) pa_nil))))))) (pss_one (ps_ret (pe_lst (pa_cons (pe_globI rfl T.g_WRONG_CALL) pa_nil)))) pss_nil)
      (pss_cons (ps_if (PW.pt (pw_and (pt_cmpR op_ne (pe_fld (pv 1) rfl) (pe_globI rfl T.g_BEGIN) (nomark _)) (pw_and1 (pt_not (pt_val (pe_meth0 (pv 0) T.cl_Grid T.m_has_begun G_has_begun (hr.mono (by decide)) T.b_has_begun .nil pass0)))))) (pss_one (ps_ret (pe_lst (pa_cons (pe_globI rfl T.g_NOT_BEGUN) pa_nil)))) pss_nil)
      (pss_cons (ps_set (i := 2) sc_answer_call.nd rfl (Or.inl rfl) (pe_kget (pe_globR rfl T.g_ANSWER_OF) (pe_fld (pv 1) rfl) (fun _ _ => rfl)))
      (pss_one (ps_ret (pe_callL (i := 2) (hr.mono (by decide : 7 ≤ _)) (pa_cons (pv 0) (pa_cons (pv 1) pa_nil)))))))), ?_⟩
    refine ⟨_, rfl, ca, A.C_Call, dca, _, _, rfl, hca, T.cl_Call, T.n_Call_number, rfl, A.t_ANSWER_OF, kva, Sum.inl (numOf c), rfl, hkda, rfl, _, rfl, ?_⟩
    rw [hvala]
    refine iteF ⟨_, rfl, ca, dca, na, ra, t, numOf c, numsOf c, rowOf c, numKd (numOf c), rowKd (numOf c), rfl, hca, SqL.of hna, SqL.of hra, T1.r20, hnk, hkt, T1.len, T1.rowk, fun H1 s1 => ⟨_, rfl, ?_⟩⟩
    show if (!inR c) = true then _ else _
    have GG1 : GS A Z H1 g st := GG.mapZ fun N G => G.same s1
    obtain ⟨M, GM1⟩ := GG1.any
    obtain ⟨dx, c0, h0, p0, ps0, G0, z0⟩ := id GM1
    have hca1 := s1 _ _ hca
    have hZ1 : HasZ Z H1 := hZ.keep (KeepZ.of_same s1)
    have hC1 : CallZ A Z H1 ca c := hC.keep (KeepZ.of_same s1)
    rcases disp (base := base) T hk with ⟨x, rfl⟩ | ⟨d, D⟩
    · -- open
      have einr : inR [[0, x]] = Vbemay.isAmount x := by
        show (true && ((Kd.amount.ok x && true) && true)) = Vbemay.isAmount x
        rw [amount_ok]
        simp
      rw [einr]
      cases hin : Vbemay.isAmount x with
      | false =>
        have es : stepNumbers st [[0, x]] = (st, [-1]) := step_bad hin
        rw [es] at k
        refine iteT ⟨(by show 1 ≤ sizeLine; decide), fun q hq => ?_⟩
        have s2 : Same H (upd H1 q (.lst [V.int (-1)])) := s1.on (s1.free hq)
        exact k _ q upd_same (GG.mapZ fun N G => G.same s2) (KeepZ.of_same s2) (hZ.off (s1.free hq))
      | true =>
        have es : stepNumbers st [[0, x]] = ({ net := some (N1 x) }, [0]) := by
          show step st (.open_ x) = _
          unfold Vbemay.step
          rw [if_neg (by show ¬ Vbemay.isAmount x = false; rw [hin]; exact fun z => nomatch z)]
          rfl
        rw [es] at k
        refine iteF ⟨_, rfl, ca, A.C_Call, dca, _, _, rfl, hca1, T.cl_Call, T.n_Call_number, rfl, rfl, _, rfl, iteF (iteF ?_)⟩
        refine ⟨_, rfl, ca, A.C_Call, dca, _, _, rfl, hca1, T.cl_Call, T.n_Call_number, rfl, A.t_ANSWER_OF, _, Sum.inl 0, _, rfl, T.kd_ANSWER_OF, rfl, rfl, ?_⟩
        refine ⟨A.f_answer_begin, sp_open A, rfl, ⟨A.d_answer_begin, _, G_begin, T.b_answer_begin, T.F_answer_begin.kp⟩, _, rfl, _, rfl, g, ca, x, M, Z, rfl, hZ1, hC1, GM1, fun H2 q hq G2 kz zq => ?_⟩
        exact k H2 q hq ⟨G2, WF.opened (Pd.isAmount_iff.mp hin)⟩ ((KeepZ.of_same s1).trans kz) zq
    · rw [D.inr]
      rw [stepN D.dec] at k
      cases hin : inRange d with
      | false =>
        rw [step_bad hin] at k
        refine iteT ⟨(by show 1 ≤ sizeLine; decide), fun q hq => ?_⟩
        have s2 : Same H (upd H1 q (.lst [V.int (-1)])) := s1.on (s1.free hq)
        exact k _ q upd_same (GG.mapZ fun N G => G.same s2) (KeepZ.of_same s2) (hZ.off (s1.free hq))
      | true =>
        refine iteF ⟨_, rfl, ca, A.C_Call, dca, _, _, rfl, hca1, T.cl_Call, T.n_Call_number, rfl, rfl, _, rfl, ?_⟩
        rw [decide_eq_false (fun z => D.num (V.int.inj z))]
        refine iteT ⟨_, rfl, g, dx, _, rfl, G0.gx.ob, rfl, g, M, rfl, GM1.gv, _, rfl, ?_⟩
        cases hs : st.net with
        | none =>
          have GN : GZ A Z H1 g N0 := by
            unfold GS at GG1
            rw [hs] at GG1
            exact GG1
          have hM : M.feeders.length = 0 := by
            obtain ⟨dx', c', h', p', ps', G', _⟩ := GN
            have e1 := G0.gx.ob
            rw [G'.gx.ob] at e1
            have e2 : c' = c0 := by
              have := (HO.ins.inj (Option.some.inj e1)).2.2
              unfold gf at this
              have h1 := (List.cons.inj this).1
              have h2 := (Prod.mk.inj h1).2
              exact V.ref.inj h2
            have e3 := G'.gx.caps
            rw [e2, G0.gx.caps] at e3
            have e4 := HO.dK.inj (Option.some.inj e3)
            have e5 := congrArg List.length e4
            unfold capsK at e5
            rw [tabK_len, tabK_len] at e5
            exact e5
          rw [step_none hin D.nopen hs] at k
          rw [decide_eq_false (by omega)]
          refine iteT ⟨(by show 1 ≤ sizeLine; decide), fun q hq => ?_⟩
          have s2 : Same H (upd H1 q (.lst [V.int (-2)])) := s1.on (s1.free hq)
          exact k _ q upd_same (GG.mapZ fun N G => G.same s2) (KeepZ.of_same s2) (hZ.off (s1.free hq))
        | some N =>
          have GN : GZ A Z H1 g N ∧ WF N := by
            unfold GS at GG1
            rw [hs] at GG1
            exact GG1
          have hM : M.feeders.length = N.feeders.length := by
            obtain ⟨⟨dx', c', h', p', ps', G', _⟩, _⟩ := GN
            have e1 := G0.gx.ob
            rw [G'.gx.ob] at e1
            have e2 : c' = c0 := by
              have := (HO.ins.inj (Option.some.inj e1)).2.2
              unfold gf at this
              have h1 := (List.cons.inj this).1
              have h2 := (Prod.mk.inj h1).2
              exact V.ref.inj h2
            have e3 := G'.gx.caps
            rw [e2, G0.gx.caps] at e3
            have e4 := HO.dK.inj (Option.some.inj e3)
            have e5 := congrArg List.length e4
            unfold capsK at e5
            rw [tabK_len, tabK_len] at e5
            exact e5
          have hpos := GN.2.tree.pos
          rw [step_some hin D.nopen hs] at k
          rw [decide_eq_true (by omega)]
          obtain ⟨rel, kvs, f, fd, hkd, hval, F, hb, hkp, hrel⟩ := D.ex
          refine iteF ⟨_, rfl, ca, A.C_Call, dca, _, _, rfl, hca1, T.cl_Call, T.n_Call_number, rfl, A.t_ANSWER_OF, kvs, Sum.inl (numOf c), _, rfl, hkd, rfl, hval, ?_⟩
          refine ⟨f, sp_on A rel, rfl, ⟨fd, _, F, hb, hkp⟩, _, rfl, _, rfl, g, ca, c, d, N, Z, rfl, hZ1, hC1, GN.1, GN.2, hrel, hin, fun H2 q hq G2 kz zq => ?_⟩
          exact k H2 q hq ⟨G2, GN.2.onNet hin⟩ ((KeepZ.of_same s1).trans kz) zq
end
end Pt
end
section
set_option Elab.async false
set_option linter.all false
set_option maxRecDepth 100000
set_option maxHeartbeats 1000000
namespace Pt
open PySem PySem.Spec PyProof.Rows L2
open Vbemay (Net Plant Feeder State onNet inRange stepNumbers decode)
open Pd (WF Kind)
open PyFlat (put put1 told played)
section
variable {P : Program} {w : World} {K : PySem.W.Frag} {mg : Str → Option Value} {base : Heap} {A : Ad}
def after (s : State) : List (List (List Int)) → State
  | [] => s
  | c :: cs => after (stepNumbers s c).1 cs
theorem after_snoc : ∀ (cs : List (List (List Int))) (s : State) (c : List (List Int)), after s (cs ++ [c]) = (stepNumbers (after s cs) c).1
  | [], s, c => rfl
  | b :: cs, s, c => after_snoc cs (stepNumbers s b).1 c
theorem played_snoc : ∀ (cs : List (List (List Int))) (s : State) (c : List (List Int)), played stepNumbers s (cs ++ [c]) = played stepNumbers s cs ++ [(stepNumbers (after s cs) c).2]
  | [], s, c => rfl
  | b :: cs, s, c => by
    show (stepNumbers s b).2 :: played stepNumbers (stepNumbers s b).1 (cs ++ [c]) = (stepNumbers s b).2 :: played stepNumbers (stepNumbers s b).1 cs ++ _
    rw [played_snoc cs]
    rfl
theorem told_snoc (l : List (List Int)) (a : List Int) : told (l ++ [a]) = told l ++ ((a.length : Int) :: a) := by
  unfold told
  rw [List.flatMap_append]
  simp
theorem onNet_len {N : Net} (W : WF N) (d : Vbemay.Call) : (onNet N d).2.length ≤ 100 := by
  have h1 := W.most
  have h2 := W.pmost
  cases d with
  | open_ c => show ([-1] : List Int).length ≤ 100; decide
  | feeder u c =>
    show (if Vbemay.lacks N u = true then (N, [-3]) else if Vbemay.FEEDERS ≤ N.feeders.length then (N, [-4]) else _).2.length ≤ 100
    split
    · show 1 ≤ 100; decide
    · split
      · show 1 ≤ 100; decide
      · show 2 ≤ 100; decide
  | cap v c =>
    show (if Vbemay.lacks N v = true then (N, [-3]) else _).2.length ≤ 100
    split
    · show 1 ≤ 100; decide
    · show 1 ≤ 100; decide
  | plant v w =>
    show (if Vbemay.lacks N v = true then (N, [-3]) else if Vbemay.PLANTS ≤ N.plants.length then (N, [-4]) else _).2.length ≤ 100
    split
    · show 1 ≤ 100; decide
    · split
      · show 1 ≤ 100; decide
      · show 2 ≤ 100; decide
  | want n w =>
    show (if (Vbemay.place N n).isNone = true then (N, [-5]) else _).2.length ≤ 100
    split
    · show 1 ≤ 100; decide
    · show 1 ≤ 100; decide
  | leave n =>
    show (if (Vbemay.place N n).isNone = true then (N, [-5]) else _).2.length ≤ 100
    split
    · show 1 ≤ 100; decide
    · show 1 ≤ 100; decide
  | byAge =>
    show (0 :: Vbemay.byAge N).length ≤ 100
    rw [List.length_cons, Pd.byAge_len]
    omega
  | by_ l =>
    show (if Vbemay.isOrder N l = false then (N, [-6]) else (N, 0 :: Vbemay.greedy N (l.filterMap fun n => Vbemay.place N n))).2.length ≤ 100
    split
    · show 1 ≤ 100; decide
    · show (0 :: Vbemay.greedy N (l.filterMap fun n => Vbemay.place N n)).length ≤ 100
      rw [List.length_cons, Pd.greedy_run, Pd.run_length]
      omega
  | even =>
    show (0 :: Vbemay.even N).length ≤ 100
    rw [List.length_cons, Pd.even_len]
    omega
  | total => show 2 ≤ 100; decide
  | flows r =>
    show (0 :: (Vbemay.feeders N).map fun v => Vbemay.flow N (Vbemay.byRule N r) v).length ≤ 100
    unfold Vbemay.feeders
    rw [List.length_cons, List.length_map, List.length_range]
    omega
  | room v =>
    show (if Vbemay.lacks N v = true then (N, [-3]) else _).2.length ≤ 100
    split
    · show 1 ≤ 100; decide
    · show 2 ≤ 100; decide
  | cut =>
    show (0 :: (Vbemay.cut N).map fun (v : Nat) => (v : Int) + 1).length ≤ 100
    have h3 : (Vbemay.cut N).length ≤ 12 := by
      unfold Vbemay.cut
      refine Nat.le_trans (List.length_filter_le _ _) ?_
      unfold Vbemay.feeders
      rw [List.length_range]
      exact h1
    rw [List.length_cons, List.length_map]
    omega
  | check l =>
    show (if l.length ≠ N.plants.length then (N, [-6]) else if Vbemay.fits N l = false then (N, [0, 0]) else _).2.length ≤ 100
    split
    · show 1 ≤ 100; decide
    · split
      · show 2 ≤ 100; decide
      · show 3 ≤ 100; decide
  | down r =>
    show (0 :: ((N.plants.zip (Vbemay.byRule N r)).filter fun y => decide (y.2 < y.1.want)).map fun y => y.1.num).length ≤ 100
    have h3 : ((N.plants.zip (Vbemay.byRule N r)).filter fun y => decide (y.2 < y.1.want)).length ≤ 12 := by
      refine Nat.le_trans (List.length_filter_le _ _) ?_
      rw [List.length_zip]
      omega
    rw [List.length_cons, List.length_map]
    omega
  | worth l =>
    show (if (l.any fun v => Vbemay.lacks N v) = true then (N, [-3]) else _).2.length ≤ 100
    split
    · show 1 ≤ 100; decide
    · show 2 ≤ 100; decide
  | without n =>
    show (if (Vbemay.place N n).isNone = true then (N, [-5]) else _).2.length ≤ 100
    split
    · show 1 ≤ 100; decide
    · show 2 ≤ 100; decide
  | book =>
    show (0 :: (N.feeders.length : Int) :: (N.feeders.flatMap fb ++ N.plants.flatMap pb)).length ≤ 100
    rw [List.length_cons, List.length_cons, List.length_append, flat_len fb 2 (fun _ => rfl), flat_len pb 3 (fun _ => rfl)]
    omega
theorem step_len {st : State} {c : List (List Int)} (hk : Kind c) (hW : ∀ N, st.net = some N → WF N) : (stepNumbers st c).2.length ≤ 100 := by
  have main : ∀ d, (Vbemay.step st d).2.length ≤ 100 := fun d => by
    cases hin : inRange d with
    | false => rw [step_bad hin]; show 1 ≤ 100; decide
    | true =>
      by_cases ho : ∃ x, d = .open_ x
      · obtain ⟨x, rfl⟩ := ho
        unfold Vbemay.step
        rw [if_neg (by rw [hin]; exact fun z => nomatch z)]
        show 1 ≤ 100
        decide
      · have hn : ∀ x, d ≠ .open_ x := fun x e => ho ⟨x, e⟩
        cases hs : st.net with
        | none => rw [step_none hin hn hs]; show 1 ≤ 100; decide
        | some N => rw [step_some hin hn hs]; exact onNet_len (hW N hs) d
  unfold stepNumbers
  split
  · exact main _
  · show 1 ≤ 100
    decide
theorem GZ.upd_off {Z : Addr → Prop} {H : Hp} {g : Addr} {N : Net} {t : Addr} {o : HO} (G : GZ A Z H g N) (hz : Z t) : GZ A Z (upd H t o) g N := by
  obtain ⟨dx, c, h, p, ps, ⟨G, ne, nd⟩, zg, zc, zh, zp, zps⟩ := G
  have kp : ∀ b u, ¬ Z b → H b = some u → (upd H t o) b = some u := fun b u hb e => by
    rw [upd_ne (fun z => hb (by rw [z]; exact hz))]
    exact e
  exact ⟨dx, c, h, p, ps, ⟨⟨kp _ _ zg G.ob, kp _ _ zc G.caps, kp _ _ zh G.hang, kp _ _ zp G.lst, G.len, fun j a q ha hq => let ⟨d, e⟩ := G.at_ j a q ha hq; ⟨d, kp _ _ (zps a (List.mem_of_getElem? ha)) e⟩⟩, ne, nd⟩, zg, zc, zh, zp, zps⟩
def sp_answers (K : PySem.W.Frag) (A : Ad) : Sp := fun vs H Q _ => ∃ (a : Addr) (l : List Int), vs = [.ref a] ∧ SqL K H a (intsV l) ∧ PyVbemay.answers_asked l = true ∧
  ∀ (H' : Hp) (p : Addr), H' p = some (.lst (intsV (PyVbemay.answers l))) → Q (.ref p) H'
theorem ok_answers (T : Txt P w K mg A) : FnOk P w K mg base CX0 9 A.f_answers A.d_answers ["calls"] (sp_answers K A) := by
  have G_grid_init := ok_grid_init (base := base) T
  have G_split_calls := ok_split_calls (base := base) T
  have G_answer_call := ok_answer_call (base := base) T
  refine T.F_answers.ok sc_answers (fun vs H Q E h => ?_) (fun cdv Ar outer s H vs Q E hr h => ?_)
  · obtain ⟨a, l, rfl, _⟩ := h
    rfl
  · obtain ⟨a, l, rfl, sq, hask, k⟩ := h
    obtain ⟨cs, rfl, hk, h1, h200, eans⟩ := Pd.due hask
    rw [eans] at k
    refine ⟨_, (pss_cons (ps_set (i := 1) sc_answers.nd rfl (Or.inl rfl) (pe_make0 T.mk_Grid G_grid_init (hr.mono (by decide)) rfl T.g_Grid T.b_grid_init .nil pass0))
      (pss_cons (ps_set (i := 2) sc_answers.nd rfl (Or.inl rfl) (pe_lst pa_nil))
      (pss_cons (ps_for PassesOwn.never rfl (pi_list (pe_call G_split_calls (hr.mono (by decide)) rfl T.g_split_calls T.F_split_calls.kp T.b_split_calls .nil pass0 (pa_cons (pv 0) pa_nil))) (pg_name (i := 3) sc_answers.nd rfl (Or.inl rfl)) (pss_cons (ps_set (i := 4) sc_answers.nd rfl (Or.inl rfl) (pe_call G_answer_call (hr.mono (by decide)) rfl T.g_answer_call T.F_answer_call.kp T.b_answer_call .nil pass0 (pa_cons (pv 1) (pa_cons (pv 3) pa_nil))))
      (pss_cons (ps_expr (pe_bm PySem.F.plainAttrs_list PySem.F.slot_list_append PySem.F.type_list_append mt_append (pv 2) (pa_cons (pe_callB call_len_seq (by rfl) T.n_len bt_len (pa_cons (pv 4) pa_nil)) pa_nil)))
      (pss_one (ps_expr (pe_bm PySem.F.plainAttrs_list PySem.F.slot_list_extend PySem.F.type_list_extend mt_extend (pv 2) (pa_cons (pv 4) pa_nil)))))))
      (pss_one (ps_ret (pv 2)))))), ?_⟩
    intro g d hg hd hdg
    refine ⟨g, d, rfl, upd_same, fun H1 c0 h0 p0 G1 hc0 hh0 hp0 kp => ⟨rfl, ?_⟩⟩
    have s1 : Same H H1 := made_same hg hd kp
    refine ⟨Nat.zero_le _, fun tl htl => ?_⟩
    have s2 : Same H1 (upd H1 tl (.lst [])) := Same.new htl
    have htl2 : (upd H1 tl (.lst [])) tl = some (.lst []) := upd_same
    have sH2 := s1.trans s2
    have G2 := G1.same s2
    have tg : tl ≠ g := fun e => by rw [e, G1.gx.ob] at htl; cases htl
    have tc : tl ≠ c0 := fun e => by rw [e, G1.gx.caps] at htl; cases htl
    have th : tl ≠ h0 := fun e => by rw [e, G1.gx.hang] at htl; cases htl
    have tp : tl ≠ p0 := fun e => by rw [e, G1.gx.lst] at htl; cases htl
    generalize upd H1 tl (.lst []) = H2 at s2 htl2 sH2 G2
    refine ⟨_, rfl, a, cs, rfl, sH2.seq sq, hk, h200, fun H3 fl cas hfl hC hfl0 s3 => ?_⟩
    have G3 := G2.same s3
    have htl3 := s3 _ _ htl2
    have hZdef : ∃ Z : Addr → Prop, (∀ b, Z b ↔ (∃ o, H3 b = some o) ∧ b ≠ g ∧ b ≠ c0 ∧ b ≠ h0 ∧ b ≠ p0) := ⟨_, fun _ => Iff.rfl⟩
    obtain ⟨Z, hZ⟩ := hZdef
    have zt : Z tl := (hZ tl).mpr ⟨⟨_, htl3⟩, tg, tc, th, tp⟩
    have znew : ∀ b o, H2 b = none → H3 b = some o → Z b ∧ b ≠ tl := fun b o hb e => by
      have ng : b ≠ g := fun z => by rw [z, G2.gx.ob] at hb; cases hb
      have nc : b ≠ c0 := fun z => by rw [z, G2.gx.caps] at hb; cases hb
      have nh : b ≠ h0 := fun z => by rw [z, G2.gx.hang] at hb; cases hb
      have np : b ≠ p0 := fun z => by rw [z, G2.gx.lst] at hb; cases hb
      have nt : b ≠ tl := fun z => by rw [z, htl2] at hb; cases hb
      exact ⟨(hZ b).mpr ⟨⟨o, e⟩, ng, nc, nh, np⟩, nt⟩
    have zfl := znew fl _ hfl0 hfl
    have GZ3 : GZ A Z H3 g N0 := ⟨d, c0, h0, p0, [], G3, fun z => ((hZ g).mp z).2.1 rfl, fun z => ((hZ c0).mp z).2.2.1 rfl, fun z => ((hZ h0).mp z).2.2.2.1 rfl, fun z => ((hZ p0).mp z).2.2.2.2 rfl, fun x hx => by simp at hx⟩
    have HZ3 : HasZ Z H3 := fun b z e => by
      obtain ⟨⟨o, ho⟩, _⟩ := (hZ b).mp z
      rw [ho] at e
      cases e
    refine ⟨fl, rfl, ⟨_, SqL.of hfl⟩, for_list (K := K) (a := fl) (xs := cas.map V.ref) (fun i σ' H' => ∃ v3 v4 : Option V, σ' = [some (.ref a), some (.ref g), some (.ref tl), v3, v4] ∧ H' tl = some (.lst (intsV (told (played stepNumbers Vbemay.start (cs.take i))))) ∧
        (told (played stepNumbers Vbemay.start (cs.take i))).length ≤ 101 * i ∧ HasZ Z H' ∧ GS A Z H' g (after Vbemay.start (cs.take i)) ∧ ∀ b o, Z b → b ≠ tl → H3 b = some o → H' b = some o)
      ⟨none, none, rfl, htl3, Nat.zero_le _, HZ3, GZ3, fun b o _ _ e => e⟩ (fun i σ' H' _ ⟨_, _, _, _, _, _, _, kz⟩ => SqL.of (kz _ _ zfl.1 zfl.2 hfl)) ?_ ?_⟩
    · rintro i x σ' H' hx ⟨v3, v4, rfl, ht, hlen, HZ', GS', kz⟩
      obtain ⟨ca, hca, rfl⟩ := map_some hx
      have hil : i < cs.length := by rw [← hC.1]; exact (List.getElem?_eq_some_iff.mp hca).1
      have hc : cs[i]? = some cs[i] := List.getElem?_eq_getElem hil
      generalize cs[i] = c at hc
      have hkc := hk c (List.mem_of_getElem? hc)
      obtain ⟨dca, na, ra, o1, o2, o3, e1, e2, e3⟩ := hC.2 i ca c hca hc
      obtain ⟨z1, n1⟩ := znew ca _ o1 e1
      obtain ⟨z2, n2⟩ := znew na _ o2 e2
      obtain ⟨z3, n3⟩ := znew ra _ o3 e3
      have hCZ : CallZ A Z H' ca c := ⟨dca, na, ra, z1, z2, z3, kz _ _ z1 n1 e1, kz _ _ z2 n2 e2, kz _ _ z3 n3 e3⟩
      have hW : ∀ N, (after Vbemay.start (cs.take i)).net = some N → WF N := fun N hn => by
        unfold GS at GS'
        rw [hn] at GS'
        exact GS'.2
      have hsl := step_len hkc hW
      have et1 : played stepNumbers Vbemay.start (cs.take (i + 1)) = played stepNumbers Vbemay.start (cs.take i) ++ [(stepNumbers (after Vbemay.start (cs.take i)) c).2] := by rw [take_succ hc, played_snoc]
      have et2 : after Vbemay.start (cs.take (i + 1)) = (stepNumbers (after Vbemay.start (cs.take i)) c).1 := by rw [take_succ hc, after_snoc]
      rw [et1, told_snoc, et2]
      generalize told (played stepNumbers Vbemay.start (cs.take i)) = tt at ht hlen
      generalize after Vbemay.start (cs.take i) = st at GS' hsl
      refine ⟨_, rfl, _, rfl, g, ca, c, st, Z, rfl, HZ', hCZ, hkc, GS', fun H5 p5 hp5 GS5 kz5 zp5 => ?_⟩
      have ht5 : H5 tl = some (.lst (intsV tt)) := kz5 _ _ zt ht
      have HZ5 := HZ'.keep kz5
      refine ⟨_, rfl, .inl ⟨rfl, _, SqL.of ht5⟩, _, rfl, p5, _, rfl, .inl (SqL.of hp5), tl, _, _, rfl, rfl, ht5, ?_, ?_⟩
      · rw [ints_len, sizeLine_eq]
        omega
      rw [ints_len]
      have ht6 : (upd H5 tl (.lst (intsV tt ++ [V.int ((stepNumbers st c).2.length : Int)]))) tl = some (.lst (intsV (tt ++ [((stepNumbers st c).2.length : Int)]))) := by
        rw [upd_same, ints_app]
        rfl
      have kz6 : ∀ b o, Z b → b ≠ tl → H5 b = some o → (upd H5 tl (.lst (intsV tt ++ [V.int ((stepNumbers st c).2.length : Int)]))) b = some o := fun b o _ hb e => by rw [upd_ne hb]; exact e
      have GS6 : GS A Z (upd H5 tl (.lst (intsV tt ++ [V.int ((stepNumbers st c).2.length : Int)]))) g (stepNumbers st c).1 := GS5.mapZ fun N G => G.upd_off zt
      have HZ6 : HasZ Z (upd H5 tl (.lst (intsV tt ++ [V.int ((stepNumbers st c).2.length : Int)]))) := fun b z e => by
        by_cases hb : b = tl
        · rw [hb, upd_same] at e; cases e
        · rw [upd_ne hb] at e; exact HZ5 b z e
      have p5t : p5 ≠ tl := fun e => zp5 (by rw [e]; exact zt)
      have hp6 : (upd H5 tl (.lst (intsV tt ++ [V.int ((stepNumbers st c).2.length : Int)]))) p5 = some (.lst (intsV (stepNumbers st c).2)) := by rw [upd_ne p5t]; exact hp5
      generalize upd H5 tl (.lst (intsV tt ++ [V.int ((stepNumbers st c).2.length : Int)])) = H6 at ht6 kz6 GS6 HZ6 hp6
      refine ⟨_, rfl, .inl ⟨rfl, _, SqL.of ht6⟩, _, rfl, tl, p5, _, _, rfl, rfl, ht6, hp6, ?_, ?_⟩
      · rw [ints_len, ints_len, List.length_append, sizeLine_eq]
        show tt.length + 1 + _ ≤ _
        omega
      refine ⟨_, _, rfl, ?_, ?_, fun b z e => ?_, GS6.mapZ fun N G => G.upd_off zt, fun b o z hb e => ?_⟩
      · rw [upd_same, ← ints_app, List.append_assoc]
        rfl
      · rw [List.length_append, List.length_cons]
        omega
      · by_cases hb : b = tl
        · rw [hb, upd_same] at e; cases e
        · rw [upd_ne hb] at e; exact HZ6 b z e
      · rw [upd_ne hb]
        exact kz6 b o z hb (kz5 _ _ z (kz b o z hb e))
    · rintro σ' H' ⟨v3, v4, rfl, ht, _⟩
      have el : (cas.map V.ref).length = cs.length := by rw [List.length_map, hC.1]
      rw [el, List.take_length] at ht
      exact ⟨_, rfl, k H' tl ht⟩
end
end Pt
end
section
set_option Elab.async false
set_option linter.all false
set_option maxRecDepth 100000
set_option maxHeartbeats 4000000
namespace Pt
open PySem PySem.Spec PyProof.Rows L2
def sp_top (K : PySem.W.Frag) : L2.Sp := fun vs H Q _ => ∃ (a : Addr) (l : List Int), vs = [.ref a] ∧ L2.SqL K H a (intsV l) ∧ PyVbemay.answers_asked l = true ∧
  ∀ (H' : L2.Hp) (p : Addr), H' p = some (.lst (intsV (PyVbemay.answers l))) → Q (.ref p) H'
theorem ktup_mk {K : PySem.W.Frag} {a : Addr} {o : Obj} {its : Array Value} {n : Nat} {xs : List V} (l : K.lookup a = some o) (x : o.cls = .type "tuple") (d : o.data = .seq its n) (z : its.size ≤ sizeLine) (v : Vals xs its.toList) : KTup K a xs := ⟨o, its, n, l, x, d, z, v⟩
section
open PySem.W (nsIn findIn isFn fnOf codeIn keepIn plainGet hasDictIn plainOver makesIn mg_of mg_none_of)
theorem all_mk {P : Program} {w : World} {K : PySem.W.Frag} {h : Heap} {mg : Str → Option Value} {fa : Addr} {C_Plant C_Grid C_Call f0 f1 f2 f3 f4 f5 f6 f7 f8 f9 f10 f11 f12 f13 f14 f15 f16 f17 f18 f19 f20 f21 f22 f23 f24 f25 f26 f27 f28 f29 f30 f31 f32 f33 f34 f35 f36 f37 f38 f39 f40 f41 f42 f43 f44 f45 f46 f47 f48 f49 f50 f51 t_RANGES t_RANGES_0 t_RANGES_1 t_RANGES_2 t_RANGES_3 t_NUMBER_KINDS t_NUMBER_KINDS_0 t_NUMBER_KINDS_1 t_NUMBER_KINDS_2 t_NUMBER_KINDS_3 t_NUMBER_KINDS_4 t_NUMBER_KINDS_5 t_NUMBER_KINDS_6 t_NUMBER_KINDS_7 t_NUMBER_KINDS_8 t_NUMBER_KINDS_9 t_NUMBER_KINDS_10 t_NUMBER_KINDS_11 t_NUMBER_KINDS_12 t_NUMBER_KINDS_13 t_NUMBER_KINDS_14 t_NUMBER_KINDS_15 t_NUMBER_KINDS_16 t_NUMBER_KINDS_17 t_ROW_KINDS t_ANSWER_OF : Addr}
 {od0 an0 : Option Addr} {sl0 : Array (Option Value)} {oc0 kV0 dc0 pm0 cd0 ct0 : Value}
 {od1 an1 : Option Addr} {sl1 : Array (Option Value)} {oc1 kV1 dc1 pm1 cd1 ct1 : Value}
 {od2 an2 : Option Addr} {sl2 : Array (Option Value)} {oc2 kV2 dc2 pm2 cd2 ct2 : Value}
 {od3 an3 : Option Addr} {sl3 : Array (Option Value)} {oc3 kV3 dc3 pm3 cd3 ct3 : Value}
 {od4 an4 : Option Addr} {sl4 : Array (Option Value)} {oc4 kV4 dc4 pm4 cd4 ct4 : Value}
 {od5 an5 : Option Addr} {sl5 : Array (Option Value)} {oc5 kV5 dc5 pm5 cd5 ct5 : Value}
 {od6 an6 : Option Addr} {sl6 : Array (Option Value)} {oc6 kV6 dc6 pm6 cd6 ct6 : Value}
 {od7 an7 : Option Addr} {sl7 : Array (Option Value)} {oc7 kV7 dc7 pm7 cd7 ct7 : Value}
 {od8 an8 : Option Addr} {sl8 : Array (Option Value)} {oc8 kV8 dc8 pm8 cd8 ct8 : Value}
 {od9 an9 : Option Addr} {sl9 : Array (Option Value)} {oc9 kV9 dc9 pm9 cd9 ct9 : Value}
 {od10 an10 : Option Addr} {sl10 : Array (Option Value)} {oc10 kV10 dc10 pm10 cd10 ct10 : Value}
 {od11 an11 : Option Addr} {sl11 : Array (Option Value)} {oc11 kV11 dc11 pm11 cd11 ct11 : Value}
 {od12 an12 : Option Addr} {sl12 : Array (Option Value)} {oc12 kV12 dc12 pm12 cd12 ct12 : Value}
 {od13 an13 : Option Addr} {sl13 : Array (Option Value)} {oc13 kV13 dc13 pm13 cd13 ct13 : Value}
 {od14 an14 : Option Addr} {sl14 : Array (Option Value)} {oc14 kV14 dc14 pm14 cd14 ct14 : Value}
 {od15 an15 : Option Addr} {sl15 : Array (Option Value)} {oc15 kV15 dc15 pm15 cd15 ct15 : Value}
 {od16 an16 : Option Addr} {sl16 : Array (Option Value)} {oc16 kV16 dc16 pm16 cd16 ct16 : Value}
 {od17 an17 : Option Addr} {sl17 : Array (Option Value)} {oc17 kV17 dc17 pm17 cd17 ct17 : Value}
 {od18 an18 : Option Addr} {sl18 : Array (Option Value)} {oc18 kV18 dc18 pm18 cd18 ct18 : Value}
 {od19 an19 : Option Addr} {sl19 : Array (Option Value)} {oc19 kV19 dc19 pm19 cd19 ct19 : Value}
 {od20 an20 : Option Addr} {sl20 : Array (Option Value)} {oc20 kV20 dc20 pm20 cd20 ct20 : Value}
 {od21 an21 : Option Addr} {sl21 : Array (Option Value)} {oc21 kV21 dc21 pm21 cd21 ct21 : Value}
 {od22 an22 : Option Addr} {sl22 : Array (Option Value)} {oc22 kV22 dc22 pm22 cd22 ct22 : Value}
 {od23 an23 : Option Addr} {sl23 : Array (Option Value)} {oc23 kV23 dc23 pm23 cd23 ct23 : Value}
 {od24 an24 : Option Addr} {sl24 : Array (Option Value)} {oc24 kV24 dc24 pm24 cd24 ct24 : Value}
 {od25 an25 : Option Addr} {sl25 : Array (Option Value)} {oc25 kV25 dc25 pm25 cd25 ct25 : Value}
 {od26 an26 : Option Addr} {sl26 : Array (Option Value)} {oc26 kV26 dc26 pm26 cd26 ct26 : Value}
 {od27 an27 : Option Addr} {sl27 : Array (Option Value)} {oc27 kV27 dc27 pm27 cd27 ct27 : Value}
 {od28 an28 : Option Addr} {sl28 : Array (Option Value)} {oc28 kV28 dc28 pm28 cd28 ct28 : Value}
 {od29 an29 : Option Addr} {sl29 : Array (Option Value)} {oc29 kV29 dc29 pm29 cd29 ct29 : Value}
 {od30 an30 : Option Addr} {sl30 : Array (Option Value)} {oc30 kV30 dc30 pm30 cd30 ct30 : Value}
 {od31 an31 : Option Addr} {sl31 : Array (Option Value)} {oc31 kV31 dc31 pm31 cd31 ct31 : Value}
 {od32 an32 : Option Addr} {sl32 : Array (Option Value)} {oc32 kV32 dc32 pm32 cd32 ct32 : Value}
 {od33 an33 : Option Addr} {sl33 : Array (Option Value)} {oc33 kV33 dc33 pm33 cd33 ct33 : Value}
 {od34 an34 : Option Addr} {sl34 : Array (Option Value)} {oc34 kV34 dc34 pm34 cd34 ct34 : Value}
 {od35 an35 : Option Addr} {sl35 : Array (Option Value)} {oc35 kV35 dc35 pm35 cd35 ct35 : Value}
 {od36 an36 : Option Addr} {sl36 : Array (Option Value)} {oc36 kV36 dc36 pm36 cd36 ct36 : Value}
 {od37 an37 : Option Addr} {sl37 : Array (Option Value)} {oc37 kV37 dc37 pm37 cd37 ct37 : Value}
 {od38 an38 : Option Addr} {sl38 : Array (Option Value)} {oc38 kV38 dc38 pm38 cd38 ct38 : Value}
 {od39 an39 : Option Addr} {sl39 : Array (Option Value)} {oc39 kV39 dc39 pm39 cd39 ct39 : Value}
 {od40 an40 : Option Addr} {sl40 : Array (Option Value)} {oc40 kV40 dc40 pm40 cd40 ct40 : Value}
 {od41 an41 : Option Addr} {sl41 : Array (Option Value)} {oc41 kV41 dc41 pm41 cd41 ct41 : Value}
 {od42 an42 : Option Addr} {sl42 : Array (Option Value)} {oc42 kV42 dc42 pm42 cd42 ct42 : Value}
 {od43 an43 : Option Addr} {sl43 : Array (Option Value)} {oc43 kV43 dc43 pm43 cd43 ct43 : Value}
 {od44 an44 : Option Addr} {sl44 : Array (Option Value)} {oc44 kV44 dc44 pm44 cd44 ct44 : Value}
 {od45 an45 : Option Addr} {sl45 : Array (Option Value)} {oc45 kV45 dc45 pm45 cd45 ct45 : Value}
 {od46 an46 : Option Addr} {sl46 : Array (Option Value)} {oc46 kV46 dc46 pm46 cd46 ct46 : Value}
 {od47 an47 : Option Addr} {sl47 : Array (Option Value)} {oc47 kV47 dc47 pm47 cd47 ct47 : Value}
 {od48 an48 : Option Addr} {sl48 : Array (Option Value)} {oc48 kV48 dc48 pm48 cd48 ct48 : Value}
 {od49 an49 : Option Addr} {sl49 : Array (Option Value)} {oc49 kV49 dc49 pm49 cd49 ct49 : Value}
 {od50 an50 : Option Addr} {sl50 : Array (Option Value)} {oc50 kV50 dc50 pm50 cd50 ct50 : Value}
 {od51 an51 : Option Addr} {sl51 : Array (Option Value)} {oc51 kV51 dc51 pm51 cd51 ct51 : Value}
 {t_MOST_IN_ROW : Tok}
 {t_EVENLY : Tok}
 {t_ACCEPTED : Tok}
 {t_WRONG_CALL : Tok}
 {t_NOT_BEGUN : Tok}
 {t_NO_FEEDER : Tok}
 {t_NO_PLACE : Tok}
 {t_NO_PLANT : Tok}
 {t_WRONG_ROW : Tok}
 {t_BEGIN : Tok}
 {t_MOST_FEEDERS : Tok}
 {t_MOST_PLANTS : Tok}
 {t_WANT_FOR_ROOM : Tok}
 (X : K.In h) (G : h.Ns mainGlobals mg) (hfa : mg "answers" = some (.ref fa))
 (aC_Plant : nsIn K mainGlobals "Plant" = some (some (.ref C_Plant)))
 (a3 : findIn K (.ref C_Plant) "__init__" = some (some (.ref f3)))
 (aC_Grid : nsIn K mainGlobals "Grid" = some (some (.ref C_Grid)))
 (a4 : findIn K (.ref C_Grid) "__init__" = some (some (.ref f4)))
 (aC_Call : nsIn K mainGlobals "Call" = some (some (.ref C_Call)))
 (a19 : findIn K (.ref C_Call) "__init__" = some (some (.ref f19)))
 (a0 : nsIn K mainGlobals "wishes_of" = some (some (.ref f0)))
 (l0 : K.lookup f0 = some ⟨oc0, od0, .func (fnOf "wishes_of" "wishes_of" (defArgs s_wishes_of) (defBody s_wishes_of) (defScope s_wishes_of) .none kV0 dc0 pm0 an0 cd0 ct0), sl0⟩)
 (c0 : codeIn K cd0 "wishes_of" = true)
 (k0 : keepIn K (.ref f0) = true)
 (a1 : nsIn K mainGlobals "cut_of" = some (some (.ref f1)))
 (l1 : K.lookup f1 = some ⟨oc1, od1, .func (fnOf "cut_of" "cut_of" (defArgs s_cut_of) (defBody s_cut_of) (defScope s_cut_of) .none kV1 dc1 pm1 an1 cd1 ct1), sl1⟩)
 (c1 : codeIn K cd1 "cut_of" = true)
 (k1 : keepIn K (.ref f1) = true)
 (a2 : nsIn K mainGlobals "worth_of" = some (some (.ref f2)))
 (l2 : K.lookup f2 = some ⟨oc2, od2, .func (fnOf "worth_of" "worth_of" (defArgs s_worth_of) (defBody s_worth_of) (defScope s_worth_of) .none kV2 dc2 pm2 an2 cd2 ct2), sl2⟩)
 (c2 : codeIn K cd2 "worth_of" = true)
 (k2 : keepIn K (.ref f2) = true)
 (i3 : isFn K (.ref f3) = true)
 (l3 : K.lookup f3 = some ⟨oc3, od3, .func (fnOf "__init__" "Plant.__init__" (defArgs s_plant_init) (defBody s_plant_init) (defScope s_plant_init) .none kV3 dc3 pm3 an3 cd3 ct3), sl3⟩)
 (c3 : codeIn K cd3 "Plant.__init__" = true)
 (k3 : keepIn K (.ref f3) = true)
 (i4 : isFn K (.ref f4) = true)
 (l4 : K.lookup f4 = some ⟨oc4, od4, .func (fnOf "__init__" "Grid.__init__" (defArgs s_grid_init) (defBody s_grid_init) (defScope s_grid_init) .none kV4 dc4 pm4 an4 cd4 ct4), sl4⟩)
 (c4 : codeIn K cd4 "Grid.__init__" = true)
 (k4 : keepIn K (.ref f4) = true)
 (a5 : findIn K (.ref C_Grid) "begin" = some (some (.ref f5)))
 (i5 : isFn K (.ref f5) = true)
 (l5 : K.lookup f5 = some ⟨oc5, od5, .func (fnOf "begin" "Grid.begin" (defArgs s_begin) (defBody s_begin) (defScope s_begin) .none kV5 dc5 pm5 an5 cd5 ct5), sl5⟩)
 (c5 : codeIn K cd5 "Grid.begin" = true)
 (k5 : keepIn K (.ref f5) = true)
 (a6 : findIn K (.ref C_Grid) "has_begun" = some (some (.ref f6)))
 (i6 : isFn K (.ref f6) = true)
 (l6 : K.lookup f6 = some ⟨oc6, od6, .func (fnOf "has_begun" "Grid.has_begun" (defArgs s_has_begun) (defBody s_has_begun) (defScope s_has_begun) .none kV6 dc6 pm6 an6 cd6 ct6), sl6⟩)
 (c6 : codeIn K cd6 "Grid.has_begun" = true)
 (k6 : keepIn K (.ref f6) = true)
 (a7 : findIn K (.ref C_Grid) "has_feeder" = some (some (.ref f7)))
 (i7 : isFn K (.ref f7) = true)
 (l7 : K.lookup f7 = some ⟨oc7, od7, .func (fnOf "has_feeder" "Grid.has_feeder" (defArgs s_has_feeder) (defBody s_has_feeder) (defScope s_has_feeder) .none kV7 dc7 pm7 an7 cd7 ct7), sl7⟩)
 (c7 : codeIn K cd7 "Grid.has_feeder" = true)
 (k7 : keepIn K (.ref f7) = true)
 (a8 : findIn K (.ref C_Grid) "add_feeder" = some (some (.ref f8)))
 (i8 : isFn K (.ref f8) = true)
 (l8 : K.lookup f8 = some ⟨oc8, od8, .func (fnOf "add_feeder" "Grid.add_feeder" (defArgs s_add_feeder) (defBody s_add_feeder) (defScope s_add_feeder) .none kV8 dc8 pm8 an8 cd8 ct8), sl8⟩)
 (c8 : codeIn K cd8 "Grid.add_feeder" = true)
 (k8 : keepIn K (.ref f8) = true)
 (a9 : findIn K (.ref C_Grid) "set_capacity" = some (some (.ref f9)))
 (i9 : isFn K (.ref f9) = true)
 (l9 : K.lookup f9 = some ⟨oc9, od9, .func (fnOf "set_capacity" "Grid.set_capacity" (defArgs s_set_capacity) (defBody s_set_capacity) (defScope s_set_capacity) .none kV9 dc9 pm9 an9 cd9 ct9), sl9⟩)
 (c9 : codeIn K cd9 "Grid.set_capacity" = true)
 (k9 : keepIn K (.ref f9) = true)
 (a10 : findIn K (.ref C_Grid) "feeder_numbers" = some (some (.ref f10)))
 (i10 : isFn K (.ref f10) = true)
 (l10 : K.lookup f10 = some ⟨oc10, od10, .func (fnOf "feeder_numbers" "Grid.feeder_numbers" (defArgs s_feeder_numbers) (defBody s_feeder_numbers) (defScope s_feeder_numbers) .none kV10 dc10 pm10 an10 cd10 ct10), sl10⟩)
 (c10 : codeIn K cd10 "Grid.feeder_numbers" = true)
 (k10 : keepIn K (.ref f10) = true)
 (a11 : findIn K (.ref C_Grid) "feeders_below_first" = some (some (.ref f11)))
 (i11 : isFn K (.ref f11) = true)
 (l11 : K.lookup f11 = some ⟨oc11, od11, .func (fnOf "feeders_below_first" "Grid.feeders_below_first" (defArgs s_feeders_below_first) (defBody s_feeders_below_first) (defScope s_feeders_below_first) .none kV11 dc11 pm11 an11 cd11 ct11), sl11⟩)
 (c11 : codeIn K cd11 "Grid.feeders_below_first" = true)
 (k11 : keepIn K (.ref f11) = true)
 (a12 : findIn K (.ref C_Grid) "path_to_first" = some (some (.ref f12)))
 (i12 : isFn K (.ref f12) = true)
 (l12 : K.lookup f12 = some ⟨oc12, od12, .func (fnOf "path_to_first" "Grid.path_to_first" (defArgs s_path_to_first) (defBody s_path_to_first) (defScope s_path_to_first) .none kV12 dc12 pm12 an12 cd12 ct12), sl12⟩)
 (c12 : codeIn K cd12 "Grid.path_to_first" = true)
 (k12 : keepIn K (.ref f12) = true)
 (a13 : findIn K (.ref C_Grid) "add_plant" = some (some (.ref f13)))
 (i13 : isFn K (.ref f13) = true)
 (l13 : K.lookup f13 = some ⟨oc13, od13, .func (fnOf "add_plant" "Grid.add_plant" (defArgs s_add_plant) (defBody s_add_plant) (defScope s_add_plant) .none kV13 dc13 pm13 an13 cd13 ct13), sl13⟩)
 (c13 : codeIn K cd13 "Grid.add_plant" = true)
 (k13 : keepIn K (.ref f13) = true)
 (a14 : findIn K (.ref C_Grid) "find_plant" = some (some (.ref f14)))
 (i14 : isFn K (.ref f14) = true)
 (l14 : K.lookup f14 = some ⟨oc14, od14, .func (fnOf "find_plant" "Grid.find_plant" (defArgs s_find_plant) (defBody s_find_plant) (defScope s_find_plant) .none kV14 dc14 pm14 an14 cd14 ct14), sl14⟩)
 (c14 : codeIn K cd14 "Grid.find_plant" = true)
 (k14 : keepIn K (.ref f14) = true)
 (a15 : findIn K (.ref C_Grid) "plant_numbers" = some (some (.ref f15)))
 (i15 : isFn K (.ref f15) = true)
 (l15 : K.lookup f15 = some ⟨oc15, od15, .func (fnOf "plant_numbers" "Grid.plant_numbers" (defArgs s_plant_numbers) (defBody s_plant_numbers) (defScope s_plant_numbers) .none kV15 dc15 pm15 an15 cd15 ct15), sl15⟩)
 (c15 : codeIn K cd15 "Grid.plant_numbers" = true)
 (k15 : keepIn K (.ref f15) = true)
 (a16 : findIn K (.ref C_Grid) "plants_but" = some (some (.ref f16)))
 (i16 : isFn K (.ref f16) = true)
 (l16 : K.lookup f16 = some ⟨oc16, od16, .func (fnOf "plants_but" "Grid.plants_but" (defArgs s_plants_but) (defBody s_plants_but) (defScope s_plants_but) .none kV16 dc16 pm16 an16 cd16 ct16), sl16⟩)
 (c16 : codeIn K cd16 "Grid.plants_but" = true)
 (k16 : keepIn K (.ref f16) = true)
 (a17 : findIn K (.ref C_Grid) "drop_plant" = some (some (.ref f17)))
 (i17 : isFn K (.ref f17) = true)
 (l17 : K.lookup f17 = some ⟨oc17, od17, .func (fnOf "drop_plant" "Grid.drop_plant" (defArgs s_drop_plant) (defBody s_drop_plant) (defScope s_drop_plant) .none kV17 dc17 pm17 an17 cd17 ct17), sl17⟩)
 (c17 : codeIn K cd17 "Grid.drop_plant" = true)
 (k17 : keepIn K (.ref f17) = true)
 (a18 : findIn K (.ref C_Grid) "with_plants" = some (some (.ref f18)))
 (i18 : isFn K (.ref f18) = true)
 (l18 : K.lookup f18 = some ⟨oc18, od18, .func (fnOf "with_plants" "Grid.with_plants" (defArgs s_with_plants) (defBody s_with_plants) (defScope s_with_plants) .none kV18 dc18 pm18 an18 cd18 ct18), sl18⟩)
 (c18 : codeIn K cd18 "Grid.with_plants" = true)
 (k18 : keepIn K (.ref f18) = true)
 (i19 : isFn K (.ref f19) = true)
 (l19 : K.lookup f19 = some ⟨oc19, od19, .func (fnOf "__init__" "Call.__init__" (defArgs s_call_init) (defBody s_call_init) (defScope s_call_init) .none kV19 dc19 pm19 an19 cd19 ct19), sl19⟩)
 (c19 : codeIn K cd19 "Call.__init__" = true)
 (k19 : keepIn K (.ref f19) = true)
 (a20 : nsIn K mainGlobals "split_calls" = some (some (.ref f20)))
 (l20 : K.lookup f20 = some ⟨oc20, od20, .func (fnOf "split_calls" "split_calls" (defArgs s_split_calls) (defBody s_split_calls) (defScope s_split_calls) .none kV20 dc20 pm20 an20 cd20 ct20), sl20⟩)
 (c20 : codeIn K cd20 "split_calls" = true)
 (k20 : keepIn K (.ref f20) = true)
 (a21 : nsIn K mainGlobals "is_of_kind" = some (some (.ref f21)))
 (l21 : K.lookup f21 = some ⟨oc21, od21, .func (fnOf "is_of_kind" "is_of_kind" (defArgs s_is_of_kind) (defBody s_is_of_kind) (defScope s_is_of_kind) .none kV21 dc21 pm21 an21 cd21 ct21), sl21⟩)
 (c21 : codeIn K cd21 "is_of_kind" = true)
 (k21 : keepIn K (.ref f21) = true)
 (a22 : nsIn K mainGlobals "is_in_ranges" = some (some (.ref f22)))
 (l22 : K.lookup f22 = some ⟨oc22, od22, .func (fnOf "is_in_ranges" "is_in_ranges" (defArgs s_is_in_ranges) (defBody s_is_in_ranges) (defScope s_is_in_ranges) .none kV22 dc22 pm22 an22 cd22 ct22), sl22⟩)
 (c22 : codeIn K cd22 "is_in_ranges" = true)
 (k22 : keepIn K (.ref f22) = true)
 (a23 : nsIn K mainGlobals "shares_by_order" = some (some (.ref f23)))
 (l23 : K.lookup f23 = some ⟨oc23, od23, .func (fnOf "shares_by_order" "shares_by_order" (defArgs s_shares_by_order) (defBody s_shares_by_order) (defScope s_shares_by_order) .none kV23 dc23 pm23 an23 cd23 ct23), sl23⟩)
 (c23 : codeIn K cd23 "shares_by_order" = true)
 (k23 : keepIn K (.ref f23) = true)
 (a24 : nsIn K mainGlobals "shares_by_age" = some (some (.ref f24)))
 (l24 : K.lookup f24 = some ⟨oc24, od24, .func (fnOf "shares_by_age" "shares_by_age" (defArgs s_shares_by_age) (defBody s_shares_by_age) (defScope s_shares_by_age) .none kV24 dc24 pm24 an24 cd24 ct24), sl24⟩)
 (c24 : codeIn K cd24 "shares_by_age" = true)
 (k24 : keepIn K (.ref f24) = true)
 (a25 : nsIn K mainGlobals "total_of" = some (some (.ref f25)))
 (l25 : K.lookup f25 = some ⟨oc25, od25, .func (fnOf "total_of" "total_of" (defArgs s_total_of) (defBody s_total_of) (defScope s_total_of) .none kV25 dc25 pm25 an25 cd25 ct25), sl25⟩)
 (c25 : codeIn K cd25 "total_of" = true)
 (k25 : keepIn K (.ref f25) = true)
 (a26 : nsIn K mainGlobals "flows_of" = some (some (.ref f26)))
 (l26 : K.lookup f26 = some ⟨oc26, od26, .func (fnOf "flows_of" "flows_of" (defArgs s_flows_of) (defBody s_flows_of) (defScope s_flows_of) .none kV26 dc26 pm26 an26 cd26 ct26), sl26⟩)
 (c26 : codeIn K cd26 "flows_of" = true)
 (k26 : keepIn K (.ref f26) = true)
 (a27 : nsIn K mainGlobals "shares_fit" = some (some (.ref f27)))
 (l27 : K.lookup f27 = some ⟨oc27, od27, .func (fnOf "shares_fit" "shares_fit" (defArgs s_shares_fit) (defBody s_shares_fit) (defScope s_shares_fit) .none kV27 dc27 pm27 an27 cd27 ct27), sl27⟩)
 (c27 : codeIn K cd27 "shares_fit" = true)
 (k27 : keepIn K (.ref f27) = true)
 (a28 : nsIn K mainGlobals "raised_to" = some (some (.ref f28)))
 (l28 : K.lookup f28 = some ⟨oc28, od28, .func (fnOf "raised_to" "raised_to" (defArgs s_raised_to) (defBody s_raised_to) (defScope s_raised_to) .none kV28 dc28 pm28 an28 cd28 ct28), sl28⟩)
 (c28 : codeIn K cd28 "raised_to" = true)
 (k28 : keepIn K (.ref f28) = true)
 (a29 : nsIn K mainGlobals "greatest_level" = some (some (.ref f29)))
 (l29 : K.lookup f29 = some ⟨oc29, od29, .func (fnOf "greatest_level" "greatest_level" (defArgs s_greatest_level) (defBody s_greatest_level) (defScope s_greatest_level) .none kV29 dc29 pm29 an29 cd29 ct29), sl29⟩)
 (c29 : codeIn K cd29 "greatest_level" = true)
 (k29 : keepIn K (.ref f29) = true)
 (a30 : nsIn K mainGlobals "even_shares" = some (some (.ref f30)))
 (l30 : K.lookup f30 = some ⟨oc30, od30, .func (fnOf "even_shares" "even_shares" (defArgs s_even_shares) (defBody s_even_shares) (defScope s_even_shares) .none kV30 dc30 pm30 an30 cd30 ct30), sl30⟩)
 (c30 : codeIn K cd30 "even_shares" = true)
 (k30 : keepIn K (.ref f30) = true)
 (a31 : nsIn K mainGlobals "shares_by_rule" = some (some (.ref f31)))
 (l31 : K.lookup f31 = some ⟨oc31, od31, .func (fnOf "shares_by_rule" "shares_by_rule" (defArgs s_shares_by_rule) (defBody s_shares_by_rule) (defScope s_shares_by_rule) .none kV31 dc31 pm31 an31 cd31 ct31), sl31⟩)
 (c31 : codeIn K cd31 "shares_by_rule" = true)
 (k31 : keepIn K (.ref f31) = true)
 (a32 : nsIn K mainGlobals "answer_begin" = some (some (.ref f32)))
 (l32 : K.lookup f32 = some ⟨oc32, od32, .func (fnOf "answer_begin" "answer_begin" (defArgs s_answer_begin) (defBody s_answer_begin) (defScope s_answer_begin) .none kV32 dc32 pm32 an32 cd32 ct32), sl32⟩)
 (c32 : codeIn K cd32 "answer_begin" = true)
 (k32 : keepIn K (.ref f32) = true)
 (a33 : nsIn K mainGlobals "answer_feeder" = some (some (.ref f33)))
 (l33 : K.lookup f33 = some ⟨oc33, od33, .func (fnOf "answer_feeder" "answer_feeder" (defArgs s_answer_feeder) (defBody s_answer_feeder) (defScope s_answer_feeder) .none kV33 dc33 pm33 an33 cd33 ct33), sl33⟩)
 (c33 : codeIn K cd33 "answer_feeder" = true)
 (k33 : keepIn K (.ref f33) = true)
 (a34 : nsIn K mainGlobals "answer_cap" = some (some (.ref f34)))
 (l34 : K.lookup f34 = some ⟨oc34, od34, .func (fnOf "answer_cap" "answer_cap" (defArgs s_answer_cap) (defBody s_answer_cap) (defScope s_answer_cap) .none kV34 dc34 pm34 an34 cd34 ct34), sl34⟩)
 (c34 : codeIn K cd34 "answer_cap" = true)
 (k34 : keepIn K (.ref f34) = true)
 (a35 : nsIn K mainGlobals "answer_plant" = some (some (.ref f35)))
 (l35 : K.lookup f35 = some ⟨oc35, od35, .func (fnOf "answer_plant" "answer_plant" (defArgs s_answer_plant) (defBody s_answer_plant) (defScope s_answer_plant) .none kV35 dc35 pm35 an35 cd35 ct35), sl35⟩)
 (c35 : codeIn K cd35 "answer_plant" = true)
 (k35 : keepIn K (.ref f35) = true)
 (a36 : nsIn K mainGlobals "answer_want" = some (some (.ref f36)))
 (l36 : K.lookup f36 = some ⟨oc36, od36, .func (fnOf "answer_want" "answer_want" (defArgs s_answer_want) (defBody s_answer_want) (defScope s_answer_want) .none kV36 dc36 pm36 an36 cd36 ct36), sl36⟩)
 (c36 : codeIn K cd36 "answer_want" = true)
 (k36 : keepIn K (.ref f36) = true)
 (a37 : nsIn K mainGlobals "answer_leave" = some (some (.ref f37)))
 (l37 : K.lookup f37 = some ⟨oc37, od37, .func (fnOf "answer_leave" "answer_leave" (defArgs s_answer_leave) (defBody s_answer_leave) (defScope s_answer_leave) .none kV37 dc37 pm37 an37 cd37 ct37), sl37⟩)
 (c37 : codeIn K cd37 "answer_leave" = true)
 (k37 : keepIn K (.ref f37) = true)
 (a38 : nsIn K mainGlobals "answer_by_age" = some (some (.ref f38)))
 (l38 : K.lookup f38 = some ⟨oc38, od38, .func (fnOf "answer_by_age" "answer_by_age" (defArgs s_answer_by_age) (defBody s_answer_by_age) (defScope s_answer_by_age) .none kV38 dc38 pm38 an38 cd38 ct38), sl38⟩)
 (c38 : codeIn K cd38 "answer_by_age" = true)
 (k38 : keepIn K (.ref f38) = true)
 (a39 : nsIn K mainGlobals "answer_by" = some (some (.ref f39)))
 (l39 : K.lookup f39 = some ⟨oc39, od39, .func (fnOf "answer_by" "answer_by" (defArgs s_answer_by) (defBody s_answer_by) (defScope s_answer_by) .none kV39 dc39 pm39 an39 cd39 ct39), sl39⟩)
 (c39 : codeIn K cd39 "answer_by" = true)
 (k39 : keepIn K (.ref f39) = true)
 (a40 : nsIn K mainGlobals "answer_even" = some (some (.ref f40)))
 (l40 : K.lookup f40 = some ⟨oc40, od40, .func (fnOf "answer_even" "answer_even" (defArgs s_answer_even) (defBody s_answer_even) (defScope s_answer_even) .none kV40 dc40 pm40 an40 cd40 ct40), sl40⟩)
 (c40 : codeIn K cd40 "answer_even" = true)
 (k40 : keepIn K (.ref f40) = true)
 (a41 : nsIn K mainGlobals "answer_total" = some (some (.ref f41)))
 (l41 : K.lookup f41 = some ⟨oc41, od41, .func (fnOf "answer_total" "answer_total" (defArgs s_answer_total) (defBody s_answer_total) (defScope s_answer_total) .none kV41 dc41 pm41 an41 cd41 ct41), sl41⟩)
 (c41 : codeIn K cd41 "answer_total" = true)
 (k41 : keepIn K (.ref f41) = true)
 (a42 : nsIn K mainGlobals "answer_flows" = some (some (.ref f42)))
 (l42 : K.lookup f42 = some ⟨oc42, od42, .func (fnOf "answer_flows" "answer_flows" (defArgs s_answer_flows) (defBody s_answer_flows) (defScope s_answer_flows) .none kV42 dc42 pm42 an42 cd42 ct42), sl42⟩)
 (c42 : codeIn K cd42 "answer_flows" = true)
 (k42 : keepIn K (.ref f42) = true)
 (a43 : nsIn K mainGlobals "answer_room" = some (some (.ref f43)))
 (l43 : K.lookup f43 = some ⟨oc43, od43, .func (fnOf "answer_room" "answer_room" (defArgs s_answer_room) (defBody s_answer_room) (defScope s_answer_room) .none kV43 dc43 pm43 an43 cd43 ct43), sl43⟩)
 (c43 : codeIn K cd43 "answer_room" = true)
 (k43 : keepIn K (.ref f43) = true)
 (a44 : nsIn K mainGlobals "answer_cut" = some (some (.ref f44)))
 (l44 : K.lookup f44 = some ⟨oc44, od44, .func (fnOf "answer_cut" "answer_cut" (defArgs s_answer_cut) (defBody s_answer_cut) (defScope s_answer_cut) .none kV44 dc44 pm44 an44 cd44 ct44), sl44⟩)
 (c44 : codeIn K cd44 "answer_cut" = true)
 (k44 : keepIn K (.ref f44) = true)
 (a45 : nsIn K mainGlobals "answer_check" = some (some (.ref f45)))
 (l45 : K.lookup f45 = some ⟨oc45, od45, .func (fnOf "answer_check" "answer_check" (defArgs s_answer_check) (defBody s_answer_check) (defScope s_answer_check) .none kV45 dc45 pm45 an45 cd45 ct45), sl45⟩)
 (c45 : codeIn K cd45 "answer_check" = true)
 (k45 : keepIn K (.ref f45) = true)
 (a46 : nsIn K mainGlobals "answer_down" = some (some (.ref f46)))
 (l46 : K.lookup f46 = some ⟨oc46, od46, .func (fnOf "answer_down" "answer_down" (defArgs s_answer_down) (defBody s_answer_down) (defScope s_answer_down) .none kV46 dc46 pm46 an46 cd46 ct46), sl46⟩)
 (c46 : codeIn K cd46 "answer_down" = true)
 (k46 : keepIn K (.ref f46) = true)
 (a47 : nsIn K mainGlobals "answer_worth" = some (some (.ref f47)))
 (l47 : K.lookup f47 = some ⟨oc47, od47, .func (fnOf "answer_worth" "answer_worth" (defArgs s_answer_worth) (defBody s_answer_worth) (defScope s_answer_worth) .none kV47 dc47 pm47 an47 cd47 ct47), sl47⟩)
 (c47 : codeIn K cd47 "answer_worth" = true)
 (k47 : keepIn K (.ref f47) = true)
 (a48 : nsIn K mainGlobals "answer_without" = some (some (.ref f48)))
 (l48 : K.lookup f48 = some ⟨oc48, od48, .func (fnOf "answer_without" "answer_without" (defArgs s_answer_without) (defBody s_answer_without) (defScope s_answer_without) .none kV48 dc48 pm48 an48 cd48 ct48), sl48⟩)
 (c48 : codeIn K cd48 "answer_without" = true)
 (k48 : keepIn K (.ref f48) = true)
 (a49 : nsIn K mainGlobals "answer_book" = some (some (.ref f49)))
 (l49 : K.lookup f49 = some ⟨oc49, od49, .func (fnOf "answer_book" "answer_book" (defArgs s_answer_book) (defBody s_answer_book) (defScope s_answer_book) .none kV49 dc49 pm49 an49 cd49 ct49), sl49⟩)
 (c49 : codeIn K cd49 "answer_book" = true)
 (k49 : keepIn K (.ref f49) = true)
 (a50 : nsIn K mainGlobals "answer_call" = some (some (.ref f50)))
 (l50 : K.lookup f50 = some ⟨oc50, od50, .func (fnOf "answer_call" "answer_call" (defArgs s_answer_call) (defBody s_answer_call) (defScope s_answer_call) .none kV50 dc50 pm50 an50 cd50 ct50), sl50⟩)
 (c50 : codeIn K cd50 "answer_call" = true)
 (k50 : keepIn K (.ref f50) = true)
 (a51 : nsIn K mainGlobals "answers" = some (some (.ref f51)))
 (l51 : K.lookup f51 = some ⟨oc51, od51, .func (fnOf "answers" "answers" (defArgs s_answers) (defBody s_answers) (defScope s_answers) .none kV51 dc51 pm51 an51 cd51 ct51), sl51⟩)
 (c51 : codeIn K cd51 "answers" = true)
 (k51 : keepIn K (.ref f51) = true)
 (pg_Plant : plainGet K C_Plant Str.empty = true)
 (hd_Plant : hasDictIn K C_Plant = true)
 (po_Plant : plainOver K C_Plant = true)
 (sa_Plant : findIn K (.ref C_Plant) "__setattr__" = some (some (.builtin "object.__setattr__")))
 (mk_Plant : makesIn K C_Plant = true)
 (kc_Plant : keepIn K (.ref C_Plant) = true)
 (n_Plant_number : findIn K (.ref C_Plant) "number" = some none)
 (n_Plant_feeder : findIn K (.ref C_Plant) "feeder" = some none)
 (n_Plant_want : findIn K (.ref C_Plant) "want" = some none)
 (pg_Grid : plainGet K C_Grid Str.empty = true)
 (hd_Grid : hasDictIn K C_Grid = true)
 (po_Grid : plainOver K C_Grid = true)
 (sa_Grid : findIn K (.ref C_Grid) "__setattr__" = some (some (.builtin "object.__setattr__")))
 (mk_Grid : makesIn K C_Grid = true)
 (kc_Grid : keepIn K (.ref C_Grid) = true)
 (n_Grid_capacities : findIn K (.ref C_Grid) "capacities" = some none)
 (n_Grid_hangs_on : findIn K (.ref C_Grid) "hangs_on" = some none)
 (n_Grid_plants : findIn K (.ref C_Grid) "plants" = some none)
 (n_Grid_last_number : findIn K (.ref C_Grid) "last_number" = some none)
 (pg_Call : plainGet K C_Call Str.empty = true)
 (hd_Call : hasDictIn K C_Call = true)
 (po_Call : plainOver K C_Call = true)
 (sa_Call : findIn K (.ref C_Call) "__setattr__" = some (some (.builtin "object.__setattr__")))
 (mk_Call : makesIn K C_Call = true)
 (kc_Call : keepIn K (.ref C_Call) = true)
 (n_Call_number : findIn K (.ref C_Call) "number" = some none)
 (n_Call_numbers : findIn K (.ref C_Call) "numbers" = some none)
 (n_Call_row : findIn K (.ref C_Call) "row" = some none)
 (g_RANGES : nsIn K mainGlobals "RANGES" = some (some (.ref t_RANGES)))
 (kd_RANGES : KD P w K t_RANGES [(Sum.inr "any", .ref t_RANGES_0), (Sum.inr "amount", .ref t_RANGES_1), (Sum.inr "feeder", .ref t_RANGES_2), (Sum.inr "rule", .ref t_RANGES_3)])
 (q_RANGES_0 : KTup K t_RANGES_0 [.int (-1000000000000000000), .int (1000000000000000000)])
 (q_RANGES_1 : KTup K t_RANGES_1 [.int (0), .int (1000000000)])
 (q_RANGES_2 : KTup K t_RANGES_2 [.int (1), .int (12)])
 (q_RANGES_3 : KTup K t_RANGES_3 [.int (0), .int (1)])
 (g_MOST_IN_ROW : nsIn K mainGlobals "MOST_IN_ROW" = some (some (.int (12) t_MOST_IN_ROW)))
 (g_NUMBER_KINDS : nsIn K mainGlobals "NUMBER_KINDS" = some (some (.ref t_NUMBER_KINDS)))
 (kd_NUMBER_KINDS : KD P w K t_NUMBER_KINDS [(Sum.inl (0), .ref t_NUMBER_KINDS_0), (Sum.inl (1), .ref t_NUMBER_KINDS_1), (Sum.inl (2), .ref t_NUMBER_KINDS_2), (Sum.inl (3), .ref t_NUMBER_KINDS_3), (Sum.inl (4), .ref t_NUMBER_KINDS_4), (Sum.inl (5), .ref t_NUMBER_KINDS_5), (Sum.inl (6), .ref t_NUMBER_KINDS_6), (Sum.inl (7), .ref t_NUMBER_KINDS_7), (Sum.inl (8), .ref t_NUMBER_KINDS_8), (Sum.inl (9), .ref t_NUMBER_KINDS_9), (Sum.inl (10), .ref t_NUMBER_KINDS_10), (Sum.inl (11), .ref t_NUMBER_KINDS_11), (Sum.inl (12), .ref t_NUMBER_KINDS_12), (Sum.inl (13), .ref t_NUMBER_KINDS_13), (Sum.inl (14), .ref t_NUMBER_KINDS_14), (Sum.inl (15), .ref t_NUMBER_KINDS_15), (Sum.inl (16), .ref t_NUMBER_KINDS_16), (Sum.inl (17), .ref t_NUMBER_KINDS_17)])
 (q_NUMBER_KINDS_0 : KTup K t_NUMBER_KINDS_0 [.str "amount"])
 (q_NUMBER_KINDS_1 : KTup K t_NUMBER_KINDS_1 [.str "feeder", .str "amount"])
 (q_NUMBER_KINDS_2 : KTup K t_NUMBER_KINDS_2 [.str "feeder", .str "amount"])
 (q_NUMBER_KINDS_3 : KTup K t_NUMBER_KINDS_3 [.str "feeder", .str "amount"])
 (q_NUMBER_KINDS_4 : KTup K t_NUMBER_KINDS_4 [.str "any", .str "amount"])
 (q_NUMBER_KINDS_5 : KTup K t_NUMBER_KINDS_5 [.str "any"])
 (q_NUMBER_KINDS_6 : KTup K t_NUMBER_KINDS_6 [])
 (q_NUMBER_KINDS_7 : KTup K t_NUMBER_KINDS_7 [])
 (q_NUMBER_KINDS_8 : KTup K t_NUMBER_KINDS_8 [])
 (q_NUMBER_KINDS_9 : KTup K t_NUMBER_KINDS_9 [])
 (q_NUMBER_KINDS_10 : KTup K t_NUMBER_KINDS_10 [.str "rule"])
 (q_NUMBER_KINDS_11 : KTup K t_NUMBER_KINDS_11 [.str "feeder"])
 (q_NUMBER_KINDS_12 : KTup K t_NUMBER_KINDS_12 [])
 (q_NUMBER_KINDS_13 : KTup K t_NUMBER_KINDS_13 [])
 (q_NUMBER_KINDS_14 : KTup K t_NUMBER_KINDS_14 [.str "rule"])
 (q_NUMBER_KINDS_15 : KTup K t_NUMBER_KINDS_15 [])
 (q_NUMBER_KINDS_16 : KTup K t_NUMBER_KINDS_16 [.str "any"])
 (q_NUMBER_KINDS_17 : KTup K t_NUMBER_KINDS_17 [])
 (g_ROW_KINDS : nsIn K mainGlobals "ROW_KINDS" = some (some (.ref t_ROW_KINDS)))
 (kd_ROW_KINDS : KD P w K t_ROW_KINDS [(Sum.inl (7), .str "any"), (Sum.inl (13), .str "amount"), (Sum.inl (15), .str "feeder")])
 (g_EVENLY : nsIn K mainGlobals "EVENLY" = some (some (.int (1) t_EVENLY)))
 (g_ACCEPTED : nsIn K mainGlobals "ACCEPTED" = some (some (.int (0) t_ACCEPTED)))
 (g_WRONG_CALL : nsIn K mainGlobals "WRONG_CALL" = some (some (.int (-1) t_WRONG_CALL)))
 (g_NOT_BEGUN : nsIn K mainGlobals "NOT_BEGUN" = some (some (.int (-2) t_NOT_BEGUN)))
 (g_NO_FEEDER : nsIn K mainGlobals "NO_FEEDER" = some (some (.int (-3) t_NO_FEEDER)))
 (g_NO_PLACE : nsIn K mainGlobals "NO_PLACE" = some (some (.int (-4) t_NO_PLACE)))
 (g_NO_PLANT : nsIn K mainGlobals "NO_PLANT" = some (some (.int (-5) t_NO_PLANT)))
 (g_WRONG_ROW : nsIn K mainGlobals "WRONG_ROW" = some (some (.int (-6) t_WRONG_ROW)))
 (g_BEGIN : nsIn K mainGlobals "BEGIN" = some (some (.int (0) t_BEGIN)))
 (g_MOST_FEEDERS : nsIn K mainGlobals "MOST_FEEDERS" = some (some (.int (12) t_MOST_FEEDERS)))
 (g_MOST_PLANTS : nsIn K mainGlobals "MOST_PLANTS" = some (some (.int (12) t_MOST_PLANTS)))
 (g_WANT_FOR_ROOM : nsIn K mainGlobals "WANT_FOR_ROOM" = some (some (.int (13000000000) t_WANT_FOR_ROOM)))
 (g_ANSWER_OF : nsIn K mainGlobals "ANSWER_OF" = some (some (.ref t_ANSWER_OF)))
 (kd_ANSWER_OF : KD P w K t_ANSWER_OF [(Sum.inl (0), .ref f32), (Sum.inl (1), .ref f33), (Sum.inl (2), .ref f34), (Sum.inl (3), .ref f35), (Sum.inl (4), .ref f36), (Sum.inl (5), .ref f37), (Sum.inl (6), .ref f38), (Sum.inl (7), .ref f39), (Sum.inl (8), .ref f40), (Sum.inl (9), .ref f41), (Sum.inl (10), .ref f42), (Sum.inl (11), .ref f43), (Sum.inl (12), .ref f44), (Sum.inl (13), .ref f45), (Sum.inl (14), .ref f46), (Sum.inl (15), .ref f47), (Sum.inl (16), .ref f48), (Sum.inl (17), .ref f49)])
 (n_all : nsIn K mainGlobals "all" = some none)
 (n_any : nsIn K mainGlobals "any" = some none)
 (n_dict : nsIn K mainGlobals "dict" = some none)
 (n_len : nsIn K mainGlobals "len" = some none)
 (n_list : nsIn K mainGlobals "list" = some none)
 (n_max : nsIn K mainGlobals "max" = some none)
 (n_min : nsIn K mainGlobals "min" = some none)
 (n_range : nsIn K mainGlobals "range" = some none)
 (n_sorted : nsIn K mainGlobals "sorted" = some none)
 (n_sum : nsIn K mainGlobals "sum" = some none)
 (n_zip : nsIn K mainGlobals "zip" = some none)
    : ∃ fd : FuncData, (∀ (s : Shared) (us : List Value), us.length = (["calls"] : List Str).length → BindsTo s fd ⟨us, []⟩ ((["calls"] : List Str).zip us)) ∧ ∀ base : Heap, K.In base → base.Ns mainGlobals mg → FnOk P w K mg base CX0 9 fa fd ["calls"] (sp_top K) := by
  have e := hfa.symm.trans (mg_of X G a51)
  cases e
  have F0 := fun_mk (st := s_wishes_of) l0 c0 k0
  have b0 := F0.binds (ps := ["grid"]) fun _ _ _ _ _ _ us hl => match us, hl with | [_], _ => rfl
  have F1 := fun_mk (st := s_cut_of) l1 c1 k1
  have b1 := F1.binds (ps := ["grid"]) fun _ _ _ _ _ _ us hl => match us, hl with | [_], _ => rfl
  have F2 := fun_mk (st := s_worth_of) l2 c2 k2
  have b2 := F2.binds (ps := ["grid", "feeders"]) fun _ _ _ _ _ _ us hl => match us, hl with | [_, _], _ => rfl
  have F3 := fun_mk (st := s_plant_init) l3 c3 k3
  have b3 := F3.binds (ps := ["self", "number", "feeder", "want"]) fun _ _ _ _ _ _ us hl => match us, hl with | [_, _, _, _], _ => rfl
  have F4 := fun_mk (st := s_grid_init) l4 c4 k4
  have b4 := F4.binds (ps := ["self"]) fun _ _ _ _ _ _ us hl => match us, hl with | [_], _ => rfl
  have F5 := fun_mk (st := s_begin) l5 c5 k5
  have b5 := F5.binds (ps := ["self", "capacity"]) fun _ _ _ _ _ _ us hl => match us, hl with | [_, _], _ => rfl
  have F6 := fun_mk (st := s_has_begun) l6 c6 k6
  have b6 := F6.binds (ps := ["self"]) fun _ _ _ _ _ _ us hl => match us, hl with | [_], _ => rfl
  have F7 := fun_mk (st := s_has_feeder) l7 c7 k7
  have b7 := F7.binds (ps := ["self", "feeder"]) fun _ _ _ _ _ _ us hl => match us, hl with | [_, _], _ => rfl
  have F8 := fun_mk (st := s_add_feeder) l8 c8 k8
  have b8 := F8.binds (ps := ["self", "upper", "capacity"]) fun _ _ _ _ _ _ us hl => match us, hl with | [_, _, _], _ => rfl
  have F9 := fun_mk (st := s_set_capacity) l9 c9 k9
  have b9 := F9.binds (ps := ["self", "feeder", "capacity"]) fun _ _ _ _ _ _ us hl => match us, hl with | [_, _, _], _ => rfl
  have F10 := fun_mk (st := s_feeder_numbers) l10 c10 k10
  have b10 := F10.binds (ps := ["self"]) fun _ _ _ _ _ _ us hl => match us, hl with | [_], _ => rfl
  have F11 := fun_mk (st := s_feeders_below_first) l11 c11 k11
  have b11 := F11.binds (ps := ["self"]) fun _ _ _ _ _ _ us hl => match us, hl with | [_], _ => rfl
  have F12 := fun_mk (st := s_path_to_first) l12 c12 k12
  have b12 := F12.binds (ps := ["self", "feeder"]) fun _ _ _ _ _ _ us hl => match us, hl with | [_, _], _ => rfl
  have F13 := fun_mk (st := s_add_plant) l13 c13 k13
  have b13 := F13.binds (ps := ["self", "feeder", "want"]) fun _ _ _ _ _ _ us hl => match us, hl with | [_, _, _], _ => rfl
  have F14 := fun_mk (st := s_find_plant) l14 c14 k14
  have b14 := F14.binds (ps := ["self", "number"]) fun _ _ _ _ _ _ us hl => match us, hl with | [_, _], _ => rfl
  have F15 := fun_mk (st := s_plant_numbers) l15 c15 k15
  have b15 := F15.binds (ps := ["self"]) fun _ _ _ _ _ _ us hl => match us, hl with | [_], _ => rfl
  have F16 := fun_mk (st := s_plants_but) l16 c16 k16
  have b16 := F16.binds (ps := ["self", "number"]) fun _ _ _ _ _ _ us hl => match us, hl with | [_, _], _ => rfl
  have F17 := fun_mk (st := s_drop_plant) l17 c17 k17
  have b17 := F17.binds (ps := ["self", "number"]) fun _ _ _ _ _ _ us hl => match us, hl with | [_, _], _ => rfl
  have F18 := fun_mk (st := s_with_plants) l18 c18 k18
  have b18 := F18.binds (ps := ["self", "plants"]) fun _ _ _ _ _ _ us hl => match us, hl with | [_, _], _ => rfl
  have F19 := fun_mk (st := s_call_init) l19 c19 k19
  have b19 := F19.binds (ps := ["self", "number", "numbers", "row"]) fun _ _ _ _ _ _ us hl => match us, hl with | [_, _, _, _], _ => rfl
  have F20 := fun_mk (st := s_split_calls) l20 c20 k20
  have b20 := F20.binds (ps := ["calls"]) fun _ _ _ _ _ _ us hl => match us, hl with | [_], _ => rfl
  have F21 := fun_mk (st := s_is_of_kind) l21 c21 k21
  have b21 := F21.binds (ps := ["number", "kind"]) fun _ _ _ _ _ _ us hl => match us, hl with | [_, _], _ => rfl
  have F22 := fun_mk (st := s_is_in_ranges) l22 c22 k22
  have b22 := F22.binds (ps := ["call"]) fun _ _ _ _ _ _ us hl => match us, hl with | [_], _ => rfl
  have F23 := fun_mk (st := s_shares_by_order) l23 c23 k23
  have b23 := F23.binds (ps := ["grid", "order"]) fun _ _ _ _ _ _ us hl => match us, hl with | [_, _], _ => rfl
  have F24 := fun_mk (st := s_shares_by_age) l24 c24 k24
  have b24 := F24.binds (ps := ["grid"]) fun _ _ _ _ _ _ us hl => match us, hl with | [_], _ => rfl
  have F25 := fun_mk (st := s_total_of) l25 c25 k25
  have b25 := F25.binds (ps := ["grid"]) fun _ _ _ _ _ _ us hl => match us, hl with | [_], _ => rfl
  have F26 := fun_mk (st := s_flows_of) l26 c26 k26
  have b26 := F26.binds (ps := ["grid", "shares"]) fun _ _ _ _ _ _ us hl => match us, hl with | [_, _], _ => rfl
  have F27 := fun_mk (st := s_shares_fit) l27 c27 k27
  have b27 := F27.binds (ps := ["grid", "shares"]) fun _ _ _ _ _ _ us hl => match us, hl with | [_, _], _ => rfl
  have F28 := fun_mk (st := s_raised_to) l28 c28 k28
  have b28 := F28.binds (ps := ["grid", "shares", "rising", "level"]) fun _ _ _ _ _ _ us hl => match us, hl with | [_, _, _, _], _ => rfl
  have F29 := fun_mk (st := s_greatest_level) l29 c29 k29
  have b29 := F29.binds (ps := ["grid", "shares", "rising", "level"]) fun _ _ _ _ _ _ us hl => match us, hl with | [_, _, _, _], _ => rfl
  have F30 := fun_mk (st := s_even_shares) l30 c30 k30
  have b30 := F30.binds (ps := ["grid"]) fun _ _ _ _ _ _ us hl => match us, hl with | [_], _ => rfl
  have F31 := fun_mk (st := s_shares_by_rule) l31 c31 k31
  have b31 := F31.binds (ps := ["grid", "rule"]) fun _ _ _ _ _ _ us hl => match us, hl with | [_, _], _ => rfl
  have F32 := fun_mk (st := s_answer_begin) l32 c32 k32
  have b32 := F32.binds (ps := ["grid", "call"]) fun _ _ _ _ _ _ us hl => match us, hl with | [_, _], _ => rfl
  have F33 := fun_mk (st := s_answer_feeder) l33 c33 k33
  have b33 := F33.binds (ps := ["grid", "call"]) fun _ _ _ _ _ _ us hl => match us, hl with | [_, _], _ => rfl
  have F34 := fun_mk (st := s_answer_cap) l34 c34 k34
  have b34 := F34.binds (ps := ["grid", "call"]) fun _ _ _ _ _ _ us hl => match us, hl with | [_, _], _ => rfl
  have F35 := fun_mk (st := s_answer_plant) l35 c35 k35
  have b35 := F35.binds (ps := ["grid", "call"]) fun _ _ _ _ _ _ us hl => match us, hl with | [_, _], _ => rfl
  have F36 := fun_mk (st := s_answer_want) l36 c36 k36
  have b36 := F36.binds (ps := ["grid", "call"]) fun _ _ _ _ _ _ us hl => match us, hl with | [_, _], _ => rfl
  have F37 := fun_mk (st := s_answer_leave) l37 c37 k37
  have b37 := F37.binds (ps := ["grid", "call"]) fun _ _ _ _ _ _ us hl => match us, hl with | [_, _], _ => rfl
  have F38 := fun_mk (st := s_answer_by_age) l38 c38 k38
  have b38 := F38.binds (ps := ["grid", "call"]) fun _ _ _ _ _ _ us hl => match us, hl with | [_, _], _ => rfl
  have F39 := fun_mk (st := s_answer_by) l39 c39 k39
  have b39 := F39.binds (ps := ["grid", "call"]) fun _ _ _ _ _ _ us hl => match us, hl with | [_, _], _ => rfl
  have F40 := fun_mk (st := s_answer_even) l40 c40 k40
  have b40 := F40.binds (ps := ["grid", "call"]) fun _ _ _ _ _ _ us hl => match us, hl with | [_, _], _ => rfl
  have F41 := fun_mk (st := s_answer_total) l41 c41 k41
  have b41 := F41.binds (ps := ["grid", "call"]) fun _ _ _ _ _ _ us hl => match us, hl with | [_, _], _ => rfl
  have F42 := fun_mk (st := s_answer_flows) l42 c42 k42
  have b42 := F42.binds (ps := ["grid", "call"]) fun _ _ _ _ _ _ us hl => match us, hl with | [_, _], _ => rfl
  have F43 := fun_mk (st := s_answer_room) l43 c43 k43
  have b43 := F43.binds (ps := ["grid", "call"]) fun _ _ _ _ _ _ us hl => match us, hl with | [_, _], _ => rfl
  have F44 := fun_mk (st := s_answer_cut) l44 c44 k44
  have b44 := F44.binds (ps := ["grid", "call"]) fun _ _ _ _ _ _ us hl => match us, hl with | [_, _], _ => rfl
  have F45 := fun_mk (st := s_answer_check) l45 c45 k45
  have b45 := F45.binds (ps := ["grid", "call"]) fun _ _ _ _ _ _ us hl => match us, hl with | [_, _], _ => rfl
  have F46 := fun_mk (st := s_answer_down) l46 c46 k46
  have b46 := F46.binds (ps := ["grid", "call"]) fun _ _ _ _ _ _ us hl => match us, hl with | [_, _], _ => rfl
  have F47 := fun_mk (st := s_answer_worth) l47 c47 k47
  have b47 := F47.binds (ps := ["grid", "call"]) fun _ _ _ _ _ _ us hl => match us, hl with | [_, _], _ => rfl
  have F48 := fun_mk (st := s_answer_without) l48 c48 k48
  have b48 := F48.binds (ps := ["grid", "call"]) fun _ _ _ _ _ _ us hl => match us, hl with | [_, _], _ => rfl
  have F49 := fun_mk (st := s_answer_book) l49 c49 k49
  have b49 := F49.binds (ps := ["grid", "call"]) fun _ _ _ _ _ _ us hl => match us, hl with | [_, _], _ => rfl
  have F50 := fun_mk (st := s_answer_call) l50 c50 k50
  have b50 := F50.binds (ps := ["grid", "call"]) fun _ _ _ _ _ _ us hl => match us, hl with | [_, _], _ => rfl
  have F51 := fun_mk (st := s_answers) l51 c51 k51
  have b51 := F51.binds (ps := ["calls"]) fun _ _ _ _ _ _ us hl => match us, hl with | [_], _ => rfl
  refine ⟨_, fun s us hu => match us, hu with | [_], _ => .of_eq rfl, fun base _ _ => ok_answers (A := {
    C_Plant := C_Plant,
    C_Grid := C_Grid,
    C_Call := C_Call,
    f_wishes_of := f0, d_wishes_of := _,
    f_cut_of := f1, d_cut_of := _,
    f_worth_of := f2, d_worth_of := _,
    f_plant_init := f3, d_plant_init := _,
    f_grid_init := f4, d_grid_init := _,
    f_begin := f5, d_begin := _,
    f_has_begun := f6, d_has_begun := _,
    f_has_feeder := f7, d_has_feeder := _,
    f_add_feeder := f8, d_add_feeder := _,
    f_set_capacity := f9, d_set_capacity := _,
    f_feeder_numbers := f10, d_feeder_numbers := _,
    f_feeders_below_first := f11, d_feeders_below_first := _,
    f_path_to_first := f12, d_path_to_first := _,
    f_add_plant := f13, d_add_plant := _,
    f_find_plant := f14, d_find_plant := _,
    f_plant_numbers := f15, d_plant_numbers := _,
    f_plants_but := f16, d_plants_but := _,
    f_drop_plant := f17, d_drop_plant := _,
    f_with_plants := f18, d_with_plants := _,
    f_call_init := f19, d_call_init := _,
    f_split_calls := f20, d_split_calls := _,
    f_is_of_kind := f21, d_is_of_kind := _,
    f_is_in_ranges := f22, d_is_in_ranges := _,
    f_shares_by_order := f23, d_shares_by_order := _,
    f_shares_by_age := f24, d_shares_by_age := _,
    f_total_of := f25, d_total_of := _,
    f_flows_of := f26, d_flows_of := _,
    f_shares_fit := f27, d_shares_fit := _,
    f_raised_to := f28, d_raised_to := _,
    f_greatest_level := f29, d_greatest_level := _,
    f_even_shares := f30, d_even_shares := _,
    f_shares_by_rule := f31, d_shares_by_rule := _,
    f_answer_begin := f32, d_answer_begin := _,
    f_answer_feeder := f33, d_answer_feeder := _,
    f_answer_cap := f34, d_answer_cap := _,
    f_answer_plant := f35, d_answer_plant := _,
    f_answer_want := f36, d_answer_want := _,
    f_answer_leave := f37, d_answer_leave := _,
    f_answer_by_age := f38, d_answer_by_age := _,
    f_answer_by := f39, d_answer_by := _,
    f_answer_even := f40, d_answer_even := _,
    f_answer_total := f41, d_answer_total := _,
    f_answer_flows := f42, d_answer_flows := _,
    f_answer_room := f43, d_answer_room := _,
    f_answer_cut := f44, d_answer_cut := _,
    f_answer_check := f45, d_answer_check := _,
    f_answer_down := f46, d_answer_down := _,
    f_answer_worth := f47, d_answer_worth := _,
    f_answer_without := f48, d_answer_without := _,
    f_answer_book := f49, d_answer_book := _,
    f_answer_call := f50, d_answer_call := _,
    f_answers := fa, d_answers := _,
    t_RANGES := t_RANGES,
    t_RANGES_0 := t_RANGES_0,
    t_RANGES_1 := t_RANGES_1,
    t_RANGES_2 := t_RANGES_2,
    t_RANGES_3 := t_RANGES_3,
    t_NUMBER_KINDS := t_NUMBER_KINDS,
    t_NUMBER_KINDS_0 := t_NUMBER_KINDS_0,
    t_NUMBER_KINDS_1 := t_NUMBER_KINDS_1,
    t_NUMBER_KINDS_2 := t_NUMBER_KINDS_2,
    t_NUMBER_KINDS_3 := t_NUMBER_KINDS_3,
    t_NUMBER_KINDS_4 := t_NUMBER_KINDS_4,
    t_NUMBER_KINDS_5 := t_NUMBER_KINDS_5,
    t_NUMBER_KINDS_6 := t_NUMBER_KINDS_6,
    t_NUMBER_KINDS_7 := t_NUMBER_KINDS_7,
    t_NUMBER_KINDS_8 := t_NUMBER_KINDS_8,
    t_NUMBER_KINDS_9 := t_NUMBER_KINDS_9,
    t_NUMBER_KINDS_10 := t_NUMBER_KINDS_10,
    t_NUMBER_KINDS_11 := t_NUMBER_KINDS_11,
    t_NUMBER_KINDS_12 := t_NUMBER_KINDS_12,
    t_NUMBER_KINDS_13 := t_NUMBER_KINDS_13,
    t_NUMBER_KINDS_14 := t_NUMBER_KINDS_14,
    t_NUMBER_KINDS_15 := t_NUMBER_KINDS_15,
    t_NUMBER_KINDS_16 := t_NUMBER_KINDS_16,
    t_NUMBER_KINDS_17 := t_NUMBER_KINDS_17,
    t_ROW_KINDS := t_ROW_KINDS,
    t_ANSWER_OF := t_ANSWER_OF })
 { 
   cl_Plant := ⟨pg_Plant, hd_Plant, po_Plant, sa_Plant⟩, g_Plant := mg_of X G aC_Plant, mk_Plant := ⟨mk_Plant, a3, i3, kc_Plant⟩,
   n_Plant_number := n_Plant_number,
   n_Plant_feeder := n_Plant_feeder,
   n_Plant_want := n_Plant_want,
   cl_Grid := ⟨pg_Grid, hd_Grid, po_Grid, sa_Grid⟩, g_Grid := mg_of X G aC_Grid, mk_Grid := ⟨mk_Grid, a4, i4, kc_Grid⟩,
   n_Grid_capacities := n_Grid_capacities,
   n_Grid_hangs_on := n_Grid_hangs_on,
   n_Grid_plants := n_Grid_plants,
   n_Grid_last_number := n_Grid_last_number,
   cl_Call := ⟨pg_Call, hd_Call, po_Call, sa_Call⟩, g_Call := mg_of X G aC_Call, mk_Call := ⟨mk_Call, a19, i19, kc_Call⟩,
   n_Call_number := n_Call_number,
   n_Call_numbers := n_Call_numbers,
   n_Call_row := n_Call_row,
   F_wishes_of := F0, b_wishes_of := b0,
   g_wishes_of := mg_of X G a0,
   F_cut_of := F1, b_cut_of := b1,
   g_cut_of := mg_of X G a1,
   F_worth_of := F2, b_worth_of := b2,
   g_worth_of := mg_of X G a2,
   F_plant_init := F3, b_plant_init := b3,
   F_grid_init := F4, b_grid_init := b4,
   F_begin := F5, b_begin := b5,
   m_begin := ⟨a5, i5, k5⟩,
   F_has_begun := F6, b_has_begun := b6,
   m_has_begun := ⟨a6, i6, k6⟩,
   F_has_feeder := F7, b_has_feeder := b7,
   m_has_feeder := ⟨a7, i7, k7⟩,
   F_add_feeder := F8, b_add_feeder := b8,
   m_add_feeder := ⟨a8, i8, k8⟩,
   F_set_capacity := F9, b_set_capacity := b9,
   m_set_capacity := ⟨a9, i9, k9⟩,
   F_feeder_numbers := F10, b_feeder_numbers := b10,
   m_feeder_numbers := ⟨a10, i10, k10⟩,
   F_feeders_below_first := F11, b_feeders_below_first := b11,
   m_feeders_below_first := ⟨a11, i11, k11⟩,
   F_path_to_first := F12, b_path_to_first := b12,
   m_path_to_first := ⟨a12, i12, k12⟩,
   F_add_plant := F13, b_add_plant := b13,
   m_add_plant := ⟨a13, i13, k13⟩,
   F_find_plant := F14, b_find_plant := b14,
   m_find_plant := ⟨a14, i14, k14⟩,
   F_plant_numbers := F15, b_plant_numbers := b15,
   m_plant_numbers := ⟨a15, i15, k15⟩,
   F_plants_but := F16, b_plants_but := b16,
   m_plants_but := ⟨a16, i16, k16⟩,
   F_drop_plant := F17, b_drop_plant := b17,
   m_drop_plant := ⟨a17, i17, k17⟩,
   F_with_plants := F18, b_with_plants := b18,
   m_with_plants := ⟨a18, i18, k18⟩,
   F_call_init := F19, b_call_init := b19,
   F_split_calls := F20, b_split_calls := b20,
   g_split_calls := mg_of X G a20,
   F_is_of_kind := F21, b_is_of_kind := b21,
   g_is_of_kind := mg_of X G a21,
   F_is_in_ranges := F22, b_is_in_ranges := b22,
   g_is_in_ranges := mg_of X G a22,
   F_shares_by_order := F23, b_shares_by_order := b23,
   g_shares_by_order := mg_of X G a23,
   F_shares_by_age := F24, b_shares_by_age := b24,
   g_shares_by_age := mg_of X G a24,
   F_total_of := F25, b_total_of := b25,
   g_total_of := mg_of X G a25,
   F_flows_of := F26, b_flows_of := b26,
   g_flows_of := mg_of X G a26,
   F_shares_fit := F27, b_shares_fit := b27,
   g_shares_fit := mg_of X G a27,
   F_raised_to := F28, b_raised_to := b28,
   g_raised_to := mg_of X G a28,
   F_greatest_level := F29, b_greatest_level := b29,
   g_greatest_level := mg_of X G a29,
   F_even_shares := F30, b_even_shares := b30,
   g_even_shares := mg_of X G a30,
   F_shares_by_rule := F31, b_shares_by_rule := b31,
   g_shares_by_rule := mg_of X G a31,
   F_answer_begin := F32, b_answer_begin := b32,
   g_answer_begin := mg_of X G a32,
   F_answer_feeder := F33, b_answer_feeder := b33,
   g_answer_feeder := mg_of X G a33,
   F_answer_cap := F34, b_answer_cap := b34,
   g_answer_cap := mg_of X G a34,
   F_answer_plant := F35, b_answer_plant := b35,
   g_answer_plant := mg_of X G a35,
   F_answer_want := F36, b_answer_want := b36,
   g_answer_want := mg_of X G a36,
   F_answer_leave := F37, b_answer_leave := b37,
   g_answer_leave := mg_of X G a37,
   F_answer_by_age := F38, b_answer_by_age := b38,
   g_answer_by_age := mg_of X G a38,
   F_answer_by := F39, b_answer_by := b39,
   g_answer_by := mg_of X G a39,
   F_answer_even := F40, b_answer_even := b40,
   g_answer_even := mg_of X G a40,
   F_answer_total := F41, b_answer_total := b41,
   g_answer_total := mg_of X G a41,
   F_answer_flows := F42, b_answer_flows := b42,
   g_answer_flows := mg_of X G a42,
   F_answer_room := F43, b_answer_room := b43,
   g_answer_room := mg_of X G a43,
   F_answer_cut := F44, b_answer_cut := b44,
   g_answer_cut := mg_of X G a44,
   F_answer_check := F45, b_answer_check := b45,
   g_answer_check := mg_of X G a45,
   F_answer_down := F46, b_answer_down := b46,
   g_answer_down := mg_of X G a46,
   F_answer_worth := F47, b_answer_worth := b47,
   g_answer_worth := mg_of X G a47,
   F_answer_without := F48, b_answer_without := b48,
   g_answer_without := mg_of X G a48,
   F_answer_book := F49, b_answer_book := b49,
   g_answer_book := mg_of X G a49,
   F_answer_call := F50, b_answer_call := b50,
   g_answer_call := mg_of X G a50,
   F_answers := F51, b_answers := b51,
   g_answers := mg_of X G a51,
   g_RANGES := mg_of X G g_RANGES, kd_RANGES := kd_RANGES,
   q_RANGES_0 := q_RANGES_0,
   q_RANGES_1 := q_RANGES_1,
   q_RANGES_2 := q_RANGES_2,
   q_RANGES_3 := q_RANGES_3,
   g_MOST_IN_ROW := ⟨_, mg_of X G g_MOST_IN_ROW⟩,
   g_NUMBER_KINDS := mg_of X G g_NUMBER_KINDS, kd_NUMBER_KINDS := kd_NUMBER_KINDS,
   q_NUMBER_KINDS_0 := q_NUMBER_KINDS_0,
   q_NUMBER_KINDS_1 := q_NUMBER_KINDS_1,
   q_NUMBER_KINDS_2 := q_NUMBER_KINDS_2,
   q_NUMBER_KINDS_3 := q_NUMBER_KINDS_3,
   q_NUMBER_KINDS_4 := q_NUMBER_KINDS_4,
   q_NUMBER_KINDS_5 := q_NUMBER_KINDS_5,
   q_NUMBER_KINDS_6 := q_NUMBER_KINDS_6,
   q_NUMBER_KINDS_7 := q_NUMBER_KINDS_7,
   q_NUMBER_KINDS_8 := q_NUMBER_KINDS_8,
   q_NUMBER_KINDS_9 := q_NUMBER_KINDS_9,
   q_NUMBER_KINDS_10 := q_NUMBER_KINDS_10,
   q_NUMBER_KINDS_11 := q_NUMBER_KINDS_11,
   q_NUMBER_KINDS_12 := q_NUMBER_KINDS_12,
   q_NUMBER_KINDS_13 := q_NUMBER_KINDS_13,
   q_NUMBER_KINDS_14 := q_NUMBER_KINDS_14,
   q_NUMBER_KINDS_15 := q_NUMBER_KINDS_15,
   q_NUMBER_KINDS_16 := q_NUMBER_KINDS_16,
   q_NUMBER_KINDS_17 := q_NUMBER_KINDS_17,
   g_ROW_KINDS := mg_of X G g_ROW_KINDS, kd_ROW_KINDS := kd_ROW_KINDS,
   g_EVENLY := ⟨_, mg_of X G g_EVENLY⟩,
   g_ACCEPTED := ⟨_, mg_of X G g_ACCEPTED⟩,
   g_WRONG_CALL := ⟨_, mg_of X G g_WRONG_CALL⟩,
   g_NOT_BEGUN := ⟨_, mg_of X G g_NOT_BEGUN⟩,
   g_NO_FEEDER := ⟨_, mg_of X G g_NO_FEEDER⟩,
   g_NO_PLACE := ⟨_, mg_of X G g_NO_PLACE⟩,
   g_NO_PLANT := ⟨_, mg_of X G g_NO_PLANT⟩,
   g_WRONG_ROW := ⟨_, mg_of X G g_WRONG_ROW⟩,
   g_BEGIN := ⟨_, mg_of X G g_BEGIN⟩,
   g_MOST_FEEDERS := ⟨_, mg_of X G g_MOST_FEEDERS⟩,
   g_MOST_PLANTS := ⟨_, mg_of X G g_MOST_PLANTS⟩,
   g_WANT_FOR_ROOM := ⟨_, mg_of X G g_WANT_FOR_ROOM⟩,
   g_ANSWER_OF := mg_of X G g_ANSWER_OF, kd_ANSWER_OF := kd_ANSWER_OF,
   n_all := mg_none_of X G n_all, n_any := mg_none_of X G n_any, n_dict := mg_none_of X G n_dict, n_len := mg_none_of X G n_len, n_list := mg_none_of X G n_list, n_max := mg_none_of X G n_max, n_min := mg_none_of X G n_min, n_range := mg_none_of X G n_range, n_sorted := mg_none_of X G n_sorted, n_sum := mg_none_of X G n_sum, n_zip := mg_none_of X G n_zip }⟩
end
end Pt
end
set_option Elab.async false
namespace PySem.W.Fast
theorem tw6121212429419890814 : True := trivial
theorem tw6627969024734650446 : True := trivial
theorem tw3461675272776751225 : True := trivial
theorem tw18035141501467611697 : True := trivial
theorem tw14025131999153898878 : True := trivial
theorem tw9689746114045235052 : True := trivial
theorem tw13100358114224117308 : True := trivial
theorem tw17928867387606021312 : True := trivial
theorem tw1069127127756233907 : True := trivial
theorem tw16115277502631723845 : True := trivial
theorem tw17423391269105826997 : True := trivial
theorem tw17211895891150264098 : True := trivial
theorem tw13271133756964677551 : True := trivial
theorem tw18128256214278148364 : True := trivial
theorem tw2465560487375167588 : True := trivial
theorem tw295401121396589944 : True := trivial
theorem tw6407174883059133810 : True := trivial
theorem tw10599779531764594331 : True := trivial
theorem tw16774148065544816228 : True := trivial
theorem tw5048296800955213838 : True := trivial
theorem tw2735625352380953334 : True := trivial
theorem tw1272930513762447429 : True := trivial
theorem tw18201118501133201511 : True := trivial
theorem tw9904658831802399803 : True := trivial
theorem tw12047213863412155654 : True := trivial
end PySem.W.Fast
open PySem PySem.W PyProof.Rows
set_option maxRecDepth 100000 in
set_option maxHeartbeats 0 in
theorem PySem.Challenge.cw_plantsdown_s01_answers_holds : PySem.Challenge.rw_plantsdown_s01_answers.Holds := by
  w_on; k_headS; (case hw => exact ⟨[.list [.int 0, .int 0]], by decide +kernel, by decide +kernel⟩)
  k_fillS
  refine L2.walk_specK (r := PySem.Challenge.rw_plantsdown_s01_answers) (k := 9) (CX := L2.CX0) (ps := ["calls"]) (sp := Pt.sp_top) (by decide +kernel) rfl rfl ⟨rfl, by decide, by decide⟩ (fun w h Y => PySem.W.kIn_of Y) ?F ?S (fun _ _ _ _ z => z)
  case F =>
    intro w mg fa h Y KX G hmg
    refine' Pt.all_mk KX G hmg ?aC_Plant ?a3 ?aC_Grid ?a4 ?aC_Call ?a19 ?a0 ?l0 ?c0 ?k0 ?a1 ?l1 ?c1 ?k1 ?a2 ?l2 ?c2 ?k2 ?i3 ?l3 ?c3 ?k3 ?i4 ?l4 ?c4 ?k4 ?a5 ?i5 ?l5 ?c5 ?k5 ?a6 ?i6 ?l6 ?c6 ?k6 ?a7 ?i7 ?l7 ?c7 ?k7 ?a8 ?i8 ?l8 ?c8 ?k8 ?a9 ?i9 ?l9 ?c9 ?k9 ?a10 ?i10 ?l10 ?c10 ?k10 ?a11 ?i11 ?l11 ?c11 ?k11 ?a12 ?i12 ?l12 ?c12 ?k12 ?a13 ?i13 ?l13 ?c13 ?k13 ?a14 ?i14 ?l14 ?c14 ?k14 ?a15 ?i15 ?l15 ?c15 ?k15 ?a16 ?i16 ?l16 ?c16 ?k16 ?a17 ?i17 ?l17 ?c17 ?k17 ?a18 ?i18 ?l18 ?c18 ?k18 ?i19 ?l19 ?c19 ?k19 ?a20 ?l20 ?c20 ?k20 ?a21 ?l21 ?c21 ?k21 ?a22 ?l22 ?c22 ?k22 ?a23 ?l23 ?c23 ?k23 ?a24 ?l24 ?c24 ?k24 ?a25 ?l25 ?c25 ?k25 ?a26 ?l26 ?c26 ?k26 ?a27 ?l27 ?c27 ?k27 ?a28 ?l28 ?c28 ?k28 ?a29 ?l29 ?c29 ?k29 ?a30 ?l30 ?c30 ?k30 ?a31 ?l31 ?c31 ?k31 ?a32 ?l32 ?c32 ?k32 ?a33 ?l33 ?c33 ?k33 ?a34 ?l34 ?c34 ?k34 ?a35 ?l35 ?c35 ?k35 ?a36 ?l36 ?c36 ?k36 ?a37 ?l37 ?c37 ?k37 ?a38 ?l38 ?c38 ?k38 ?a39 ?l39 ?c39 ?k39 ?a40 ?l40 ?c40 ?k40 ?a41 ?l41 ?c41 ?k41 ?a42 ?l42 ?c42 ?k42 ?a43 ?l43 ?c43 ?k43 ?a44 ?l44 ?c44 ?k44 ?a45 ?l45 ?c45 ?k45 ?a46 ?l46 ?c46 ?k46 ?a47 ?l47 ?c47 ?k47 ?a48 ?l48 ?c48 ?k48 ?a49 ?l49 ?c49 ?k49 ?a50 ?l50 ?c50 ?k50 ?a51 ?l51 ?c51 ?k51 ?pg_Plant ?hd_Plant ?po_Plant ?sa_Plant ?mk_Plant ?kc_Plant ?n_Plant_number ?n_Plant_feeder ?n_Plant_want ?pg_Grid ?hd_Grid ?po_Grid ?sa_Grid ?mk_Grid ?kc_Grid ?n_Grid_capacities ?n_Grid_hangs_on ?n_Grid_plants ?n_Grid_last_number ?pg_Call ?hd_Call ?po_Call ?sa_Call ?mk_Call ?kc_Call ?n_Call_number ?n_Call_numbers ?n_Call_row ?g_RANGES ?kd_RANGES ?q_RANGES_0 ?q_RANGES_1 ?q_RANGES_2 ?q_RANGES_3 ?g_MOST_IN_ROW ?g_NUMBER_KINDS ?kd_NUMBER_KINDS ?q_NUMBER_KINDS_0 ?q_NUMBER_KINDS_1 ?q_NUMBER_KINDS_2 ?q_NUMBER_KINDS_3 ?q_NUMBER_KINDS_4 ?q_NUMBER_KINDS_5 ?q_NUMBER_KINDS_6 ?q_NUMBER_KINDS_7 ?q_NUMBER_KINDS_8 ?q_NUMBER_KINDS_9 ?q_NUMBER_KINDS_10 ?q_NUMBER_KINDS_11 ?q_NUMBER_KINDS_12 ?q_NUMBER_KINDS_13 ?q_NUMBER_KINDS_14 ?q_NUMBER_KINDS_15 ?q_NUMBER_KINDS_16 ?q_NUMBER_KINDS_17 ?g_ROW_KINDS ?kd_ROW_KINDS ?g_EVENLY ?g_ACCEPTED ?g_WRONG_CALL ?g_NOT_BEGUN ?g_NO_FEEDER ?g_NO_PLACE ?g_NO_PLANT ?g_WRONG_ROW ?g_BEGIN ?g_MOST_FEEDERS ?g_MOST_PLANTS ?g_WANT_FOR_ROOM ?g_ANSWER_OF ?kd_ANSWER_OF ?n_all ?n_any ?n_dict ?n_len ?n_list ?n_max ?n_min ?n_range ?n_sorted ?n_sum ?n_zip
    (case aC_Plant => k_is); (case a3 => k_is); (case aC_Grid => k_is); (case a4 => k_is); (case aC_Call => k_is); (case a19 => k_is); (case a0 => k_is)
    (case l0 => k_is); (case c0 => k_is); (case k0 => k_is); (case a1 => k_is); (case l1 => k_is); (case c1 => k_is); (case k1 => k_is)
    (case a2 => k_is); (case l2 => k_is); (case c2 => k_is); (case k2 => k_is); (case i3 => k_is); (case l3 => k_is); (case c3 => k_is)
    (case k3 => k_is); (case i4 => k_is); (case l4 => k_is); (case c4 => k_is); (case k4 => k_is); (case a5 => k_is); (case i5 => k_is)
    (case l5 => k_is); (case c5 => k_is); (case k5 => k_is); (case a6 => k_is); (case i6 => k_is); (case l6 => k_is); (case c6 => k_is)
    (case k6 => k_is); (case a7 => k_is); (case i7 => k_is); (case l7 => k_is); (case c7 => k_is); (case k7 => k_is)
    (case a8 => k_is); (case i8 => k_is); (case l8 => k_is); (case c8 => k_is); (case k8 => k_is); (case a9 => k_is)
    (case i9 => k_is); (case l9 => k_is); (case c9 => k_is); (case k9 => k_is); (case a10 => k_is); (case i10 => k_is)
    (case l10 => k_is); (case c10 => k_is); (case k10 => k_is); (case a11 => k_is); (case i11 => k_is)
    (case l11 => k_is); (case c11 => k_is); (case k11 => k_is); (case a12 => k_is); (case i12 => k_is)
    (case l12 => k_is); (case c12 => k_is); (case k12 => k_is); (case a13 => k_is); (case i13 => k_is); (case l13 => k_is)
    (case c13 => k_is); (case k13 => k_is); (case a14 => k_is); (case i14 => k_is); (case l14 => k_is); (case c14 => k_is)
    (case k14 => k_is); (case a15 => k_is); (case i15 => k_is); (case l15 => k_is); (case c15 => k_is); (case k15 => k_is)
    (case a16 => k_is); (case i16 => k_is); (case l16 => k_is); (case c16 => k_is); (case k16 => k_is); (case a17 => k_is)
    (case i17 => k_is); (case l17 => k_is); (case c17 => k_is); (case k17 => k_is); (case a18 => k_is); (case i18 => k_is)
    (case l18 => k_is); (case c18 => k_is); (case k18 => k_is); (case i19 => k_is); (case l19 => k_is); (case c19 => k_is)
    (case k19 => k_is); (case a20 => k_is); (case l20 => k_is); (case c20 => k_is); (case k20 => k_is); (case a21 => k_is)
    (case l21 => k_is); (case c21 => k_is); (case k21 => k_is); (case a22 => k_is); (case l22 => k_is); (case c22 => k_is)
    (case k22 => k_is); (case a23 => k_is); (case l23 => k_is); (case c23 => k_is); (case k23 => k_is)
    (case a24 => k_is); (case l24 => k_is); (case c24 => k_is); (case k24 => k_is); (case a25 => k_is); (case l25 => k_is)
    (case c25 => k_is); (case k25 => k_is); (case a26 => k_is); (case l26 => k_is); (case c26 => k_is); (case k26 => k_is); (case a27 => k_is)
    (case l27 => k_is); (case c27 => k_is); (case k27 => k_is); (case a28 => k_is); (case l28 => k_is); (case c28 => k_is)
    (case k28 => k_is); (case a29 => k_is); (case l29 => k_is); (case c29 => k_is); (case k29 => k_is); (case a30 => k_is)
    (case l30 => k_is); (case c30 => k_is); (case k30 => k_is); (case a31 => k_is); (case l31 => k_is); (case c31 => k_is)
    (case k31 => k_is); (case a32 => k_is); (case l32 => k_is); (case c32 => k_is); (case k32 => k_is); (case a33 => k_is)
    (case l33 => k_is); (case c33 => k_is); (case k33 => k_is); (case a34 => k_is); (case l34 => k_is); (case c34 => k_is)
    (case k34 => k_is); (case a35 => k_is); (case l35 => k_is); (case c35 => k_is); (case k35 => k_is); (case a36 => k_is)
    (case l36 => k_is); (case c36 => k_is); (case k36 => k_is); (case a37 => k_is); (case l37 => k_is); (case c37 => k_is)
    (case k37 => k_is); (case a38 => k_is); (case l38 => k_is); (case c38 => k_is); (case k38 => k_is); (case a39 => k_is)
    (case l39 => k_is); (case c39 => k_is); (case k39 => k_is); (case a40 => k_is); (case l40 => k_is); (case c40 => k_is)
    (case k40 => k_is); (case a41 => k_is); (case l41 => k_is); (case c41 => k_is); (case k41 => k_is); (case a42 => k_is)
    (case l42 => k_is); (case c42 => k_is); (case k42 => k_is); (case a43 => k_is); (case l43 => k_is); (case c43 => k_is)
    (case k43 => k_is); (case a44 => k_is); (case l44 => k_is); (case c44 => k_is); (case k44 => k_is); (case a45 => k_is)
    (case l45 => k_is); (case c45 => k_is); (case k45 => k_is); (case a46 => k_is); (case l46 => k_is); (case c46 => k_is)
    (case k46 => k_is); (case a47 => k_is); (case l47 => k_is); (case c47 => k_is); (case k47 => k_is); (case a48 => k_is)
    (case l48 => k_is); (case c48 => k_is); (case k48 => k_is); (case a49 => k_is); (case l49 => k_is); (case c49 => k_is)
    (case k49 => k_is); (case a50 => k_is); (case l50 => k_is); (case c50 => k_is); (case k50 => k_is); (case a51 => k_is)
    (case l51 => k_is); (case c51 => k_is); (case k51 => k_is); (case pg_Plant => k_is); (case hd_Plant => k_is); (case po_Plant => k_is); (case sa_Plant => k_is)
    (case mk_Plant => k_is); (case kc_Plant => k_is); (case n_Plant_number => k_is); (case n_Plant_feeder => k_is); (case n_Plant_want => k_is); (case pg_Grid => k_is); (case hd_Grid => k_is)
    (case po_Grid => k_is); (case sa_Grid => k_is); (case mk_Grid => k_is); (case kc_Grid => k_is); (case n_Grid_capacities => k_is); (case n_Grid_hangs_on => k_is); (case n_Grid_plants => k_is)
    (case n_Grid_last_number => k_is); (case pg_Call => k_is); (case hd_Call => k_is); (case po_Call => k_is); (case sa_Call => k_is); (case mk_Call => k_is); (case kc_Call => k_is)
    (case n_Call_number => k_is); (case n_Call_numbers => k_is); (case n_Call_row => k_is); (case g_RANGES => k_is)
    (case kd_RANGES => (refine' L2.KD.mk ?l ?x ?d ?s ?r ?n; (case l => k_is); (case x => exact ⟨rfl, rfl, rfl⟩); (case d => exact rfl); (case s => exact rfl); (case r => exact (.cons ⟨rfl, rfl, rfl⟩ (.cons ⟨rfl, rfl, rfl⟩ (.cons ⟨rfl, rfl, rfl⟩ (.cons ⟨rfl, rfl, rfl⟩ .nil))))); (case n => decide +kernel)))
    (case q_RANGES_0 => (refine' Pt.ktup_mk ?l ?x ?d ?z ?v; (case l => k_is); (case x => exact rfl); (case d => exact rfl); (case z => decide); (case v => exact (.cons ⟨_, rfl⟩ (.cons ⟨_, rfl⟩ .nil)))))
    (case q_RANGES_1 => (refine' Pt.ktup_mk ?l ?x ?d ?z ?v; (case l => k_is); (case x => exact rfl); (case d => exact rfl); (case z => decide); (case v => exact (.cons ⟨_, rfl⟩ (.cons ⟨_, rfl⟩ .nil)))))
    (case q_RANGES_2 => (refine' Pt.ktup_mk ?l ?x ?d ?z ?v; (case l => k_is); (case x => exact rfl); (case d => exact rfl); (case z => decide); (case v => exact (.cons ⟨_, rfl⟩ (.cons ⟨_, rfl⟩ .nil)))))
    (case q_RANGES_3 => (refine' Pt.ktup_mk ?l ?x ?d ?z ?v; (case l => k_is); (case x => exact rfl); (case d => exact rfl); (case z => decide); (case v => exact (.cons ⟨_, rfl⟩ (.cons ⟨_, rfl⟩ .nil)))))
    (case g_MOST_IN_ROW => k_is); (case g_NUMBER_KINDS => k_is)
    (case kd_NUMBER_KINDS => (refine' L2.KD.mk ?l ?x ?d ?s ?r ?n; (case l => k_is); (case x => exact ⟨rfl, rfl, rfl⟩); (case d => exact rfl); (case s => exact rfl); (case r => exact (.cons ⟨rfl, rfl, rfl⟩ (.cons ⟨rfl, rfl, rfl⟩ (.cons ⟨rfl, rfl, rfl⟩ (.cons ⟨rfl, rfl, rfl⟩ (.cons ⟨rfl, rfl, rfl⟩ (.cons ⟨rfl, rfl, rfl⟩ (.cons ⟨rfl, rfl, rfl⟩ (.cons ⟨rfl, rfl, rfl⟩ (.cons ⟨rfl, rfl, rfl⟩ (.cons ⟨rfl, rfl, rfl⟩ (.cons ⟨rfl, rfl, rfl⟩ (.cons ⟨rfl, rfl, rfl⟩ (.cons ⟨rfl, rfl, rfl⟩ (.cons ⟨rfl, rfl, rfl⟩ (.cons ⟨rfl, rfl, rfl⟩ (.cons ⟨rfl, rfl, rfl⟩ (.cons ⟨rfl, rfl, rfl⟩ (.cons ⟨rfl, rfl, rfl⟩ .nil))))))))))))))))))); (case n => decide +kernel)))
    (case q_NUMBER_KINDS_0 => (refine' Pt.ktup_mk ?l ?x ?d ?z ?v; (case l => k_is); (case x => exact rfl); (case d => exact rfl); (case z => decide); (case v => exact (.cons ⟨_, rfl⟩ .nil))))
    (case q_NUMBER_KINDS_1 => (refine' Pt.ktup_mk ?l ?x ?d ?z ?v; (case l => k_is); (case x => exact rfl); (case d => exact rfl); (case z => decide); (case v => exact (.cons ⟨_, rfl⟩ (.cons ⟨_, rfl⟩ .nil)))))
    (case q_NUMBER_KINDS_2 => (refine' Pt.ktup_mk ?l ?x ?d ?z ?v; (case l => k_is); (case x => exact rfl); (case d => exact rfl); (case z => decide); (case v => exact (.cons ⟨_, rfl⟩ (.cons ⟨_, rfl⟩ .nil)))))
    (case q_NUMBER_KINDS_3 => (refine' Pt.ktup_mk ?l ?x ?d ?z ?v; (case l => k_is); (case x => exact rfl); (case d => exact rfl); (case z => decide); (case v => exact (.cons ⟨_, rfl⟩ (.cons ⟨_, rfl⟩ .nil)))))
    (case q_NUMBER_KINDS_4 => (refine' Pt.ktup_mk ?l ?x ?d ?z ?v; (case l => k_is); (case x => exact rfl); (case d => exact rfl); (case z => decide); (case v => exact (.cons ⟨_, rfl⟩ (.cons ⟨_, rfl⟩ .nil)))))
    (case q_NUMBER_KINDS_5 => (refine' Pt.ktup_mk ?l ?x ?d ?z ?v; (case l => k_is); (case x => exact rfl); (case d => exact rfl); (case z => decide); (case v => exact (.cons ⟨_, rfl⟩ .nil))))
    (case q_NUMBER_KINDS_6 => (refine' Pt.ktup_mk ?l ?x ?d ?z ?v; (case l => k_is); (case x => exact rfl); (case d => exact rfl); (case z => decide); (case v => exact .nil)))
    (case q_NUMBER_KINDS_7 => (refine' Pt.ktup_mk ?l ?x ?d ?z ?v; (case l => k_is); (case x => exact rfl); (case d => exact rfl); (case z => decide); (case v => exact .nil)))
    (case q_NUMBER_KINDS_8 => (refine' Pt.ktup_mk ?l ?x ?d ?z ?v; (case l => k_is); (case x => exact rfl); (case d => exact rfl); (case z => decide); (case v => exact .nil)))
    (case q_NUMBER_KINDS_9 => (refine' Pt.ktup_mk ?l ?x ?d ?z ?v; (case l => k_is); (case x => exact rfl); (case d => exact rfl); (case z => decide); (case v => exact .nil)))
    (case q_NUMBER_KINDS_10 => (refine' Pt.ktup_mk ?l ?x ?d ?z ?v; (case l => k_is); (case x => exact rfl); (case d => exact rfl); (case z => decide); (case v => exact (.cons ⟨_, rfl⟩ .nil))))
    (case q_NUMBER_KINDS_11 => (refine' Pt.ktup_mk ?l ?x ?d ?z ?v; (case l => k_is); (case x => exact rfl); (case d => exact rfl); (case z => decide); (case v => exact (.cons ⟨_, rfl⟩ .nil))))
    (case q_NUMBER_KINDS_12 => (refine' Pt.ktup_mk ?l ?x ?d ?z ?v; (case l => k_is); (case x => exact rfl); (case d => exact rfl); (case z => decide); (case v => exact .nil)))
    (case q_NUMBER_KINDS_13 => (refine' Pt.ktup_mk ?l ?x ?d ?z ?v; (case l => k_is); (case x => exact rfl); (case d => exact rfl); (case z => decide); (case v => exact .nil)))
    (case q_NUMBER_KINDS_14 => (refine' Pt.ktup_mk ?l ?x ?d ?z ?v; (case l => k_is); (case x => exact rfl); (case d => exact rfl); (case z => decide); (case v => exact (.cons ⟨_, rfl⟩ .nil))))
    (case q_NUMBER_KINDS_15 => (refine' Pt.ktup_mk ?l ?x ?d ?z ?v; (case l => k_is); (case x => exact rfl); (case d => exact rfl); (case z => decide); (case v => exact .nil)))
    (case q_NUMBER_KINDS_16 => (refine' Pt.ktup_mk ?l ?x ?d ?z ?v; (case l => k_is); (case x => exact rfl); (case d => exact rfl); (case z => decide); (case v => exact (.cons ⟨_, rfl⟩ .nil))))
    (case q_NUMBER_KINDS_17 => (refine' Pt.ktup_mk ?l ?x ?d ?z ?v; (case l => k_is); (case x => exact rfl); (case d => exact rfl); (case z => decide); (case v => exact .nil)))
    (case g_ROW_KINDS => k_is)
    (case kd_ROW_KINDS => (refine' L2.KD.mk ?l ?x ?d ?s ?r ?n; (case l => k_is); (case x => exact ⟨rfl, rfl, rfl⟩); (case d => exact rfl); (case s => exact rfl); (case r => exact (.cons ⟨rfl, rfl, ⟨_, rfl⟩⟩ (.cons ⟨rfl, rfl, ⟨_, rfl⟩⟩ (.cons ⟨rfl, rfl, ⟨_, rfl⟩⟩ .nil)))); (case n => decide +kernel)))
    (case g_EVENLY => k_is); (case g_ACCEPTED => k_is); (case g_WRONG_CALL => k_is); (case g_NOT_BEGUN => k_is); (case g_NO_FEEDER => k_is); (case g_NO_PLACE => k_is); (case g_NO_PLANT => k_is)
    (case g_WRONG_ROW => k_is); (case g_BEGIN => k_is); (case g_MOST_FEEDERS => k_is); (case g_MOST_PLANTS => k_is); (case g_WANT_FOR_ROOM => k_is); (case g_ANSWER_OF => k_is)
    (case kd_ANSWER_OF => (refine' L2.KD.mk ?l ?x ?d ?s ?r ?n; (case l => k_is); (case x => exact ⟨rfl, rfl, rfl⟩); (case d => exact rfl); (case s => exact rfl); (case r => exact (.cons ⟨rfl, rfl, rfl⟩ (.cons ⟨rfl, rfl, rfl⟩ (.cons ⟨rfl, rfl, rfl⟩ (.cons ⟨rfl, rfl, rfl⟩ (.cons ⟨rfl, rfl, rfl⟩ (.cons ⟨rfl, rfl, rfl⟩ (.cons ⟨rfl, rfl, rfl⟩ (.cons ⟨rfl, rfl, rfl⟩ (.cons ⟨rfl, rfl, rfl⟩ (.cons ⟨rfl, rfl, rfl⟩ (.cons ⟨rfl, rfl, rfl⟩ (.cons ⟨rfl, rfl, rfl⟩ (.cons ⟨rfl, rfl, rfl⟩ (.cons ⟨rfl, rfl, rfl⟩ (.cons ⟨rfl, rfl, rfl⟩ (.cons ⟨rfl, rfl, rfl⟩ (.cons ⟨rfl, rfl, rfl⟩ (.cons ⟨rfl, rfl, rfl⟩ .nil))))))))))))))))))); (case n => decide +kernel)))
    (case n_all => k_is); (case n_any => k_is); (case n_dict => k_is); (case n_len => k_is); (case n_list => k_is); (case n_max => k_is); (case n_min => k_is); (case n_range => k_is)
    (case n_sorted => k_is); (case n_sum => k_is); (case n_zip => k_is)
  case S =>
    intro K H xs a hO hwi hask hx
    cases hx with
    | cons h1 h2 =>
      cases h2
      cases h1 with
      | lst hs ha =>
        have e := L2.ints_dw a.1 _ ha
        subst e
        exact ⟨_, a.1, rfl, hs, hask, fun H' p hp => .lst (L2.SqL.of hp) (L2.dw_ints _)⟩
#print axioms PySem.Challenge.cw_plantsdown_s01_answers_holds
