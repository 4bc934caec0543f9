import PyProof.Rows.All
import Wide.All
import OpenK.AllK
import Wide.FinOn
import Lean
import PyProof.EqAt
import PyProof.EqKinds
import PyProof.TupleCall
import PySem.Challenge.RW_redquill_k14_out_of_place
set_option Elab.async false
set_option linter.all false
set_option maxRecDepth 100000
set_option maxHeartbeats 4000000
noncomputable section
local macro_rules | `(tactic| walk_at "o") => `(tactic| first | assumption | exact Nat.le_trans (by decide) $(Lean.mkIdent `hs) | exact Nat.le_of_lt (by assumption) | exact Nat.le_trans (by assumption) (by assumption) | exact Nat.lt_of_lt_of_le (by assumption) (by assumption) | exact Nat.lt_of_le_of_lt (by assumption) (by assumption) | exact Nat.le_trans (by assumption) (Nat.le_trans (by decide) $(Lean.mkIdent `hs)) | omega)
namespace L2
open PySem PySem.Spec PyProof.Rows

abbrev Key := Sum Int Str
noncomputable def keyIs : Key → Value → Bool
  | .inl k, v => Value.isInt k v
  | .inr x, v => Value.isStrOf x v
noncomputable def keyH (w : World) : Key → Int
  | .inl k => hashInt k
  | .inr x => hashStr w x
theorem keyIs_shape : ∀ {k : Key} {v : Value}, keyIs k v = true → (∃ i t, k = Sum.inl i ∧ v = Value.int i t) ∨ (∃ x t, k = Sum.inr x ∧ v = Value.str x t)
  | .inl i, v, h => by
    obtain ⟨t, e⟩ := Value.isInt_shape (k := i) (v := v) h
    exact .inl ⟨i, t, rfl, e⟩
  | .inr x, v, h => by
    obtain ⟨t, e⟩ := Value.isStrOf_shape (x := x) (v := v) h
    exact .inr ⟨x, t, rfl, e⟩
theorem key_ll (a b : Int) : decide ((Sum.inl a : Key) = Sum.inl b) = (a == b) := by
  by_cases e : a = b
  · subst e; simp
  · have h : ¬ (Sum.inl a : Key) = Sum.inl b := fun q => e (Sum.inl.inj q)
    rw [decide_eq_false h]
    exact (beq_eq_false_iff_ne.mpr e).symm
theorem key_rr (a b : Str) : decide ((Sum.inr a : Key) = Sum.inr b) = decide (a = b) := by
  by_cases e : a = b
  · subst e; simp
  · have h : ¬ (Sum.inr a : Key) = Sum.inr b := fun q => e (Sum.inr.inj q)
    rw [decide_eq_false h, decide_eq_false e]
theorem key_lr (a : Int) (b : Str) : decide ((Sum.inl a : Key) = Sum.inr b) = false := decide_eq_false (fun q => nomatch q)
theorem key_rl (a : Str) (b : Int) : decide ((Sum.inr a : Key) = Sum.inl b) = false := decide_eq_false (fun q => nomatch q)

noncomputable def mixKind (prog : Program) (w : World) : PySem.KeyKind prog w Key where
  is := keyIs
  hash := keyH w
  inj := fun v a b ha hb => by
    rcases keyIs_shape ha with ⟨i, t, rfl, rfl⟩ | ⟨x, t, rfl, rfl⟩
    · rcases keyIs_shape hb with ⟨j, u, rfl, e⟩ | ⟨y, u, rfl, e⟩
      · injection e with e1 _; rw [e1]
      · exact nomatch e
    · rcases keyIs_shape hb with ⟨j, u, rfl, e⟩ | ⟨y, u, rfl, e⟩
      · exact nomatch e
      · injection e with e1 _; rw [e1]
  byValue := fun k v h => by
    rcases keyIs_shape h with ⟨i, t, rfl, rfl⟩ | ⟨x, t, rfl, rfl⟩ <;> rfl
  pyHash := fun hv h => by
    rcases keyIs_shape hv with ⟨i, t, rfl, rfl⟩ | ⟨x, t, rfl, rfl⟩
    · exact wpAny_pyHash_int h
    · exact wpAny_pyHash_str h
  eqBool := fun hu hv h => by
    rcases keyIs_shape hu with ⟨i, t, rfl, rfl⟩ | ⟨x, t, rfl, rfl⟩
    · rcases keyIs_shape hv with ⟨j, u, rfl, rfl⟩ | ⟨y, u, rfl, rfl⟩
      · rw [key_ll] at h; exact wpAny_eqBool_int h
      · rw [key_lr] at h; exact SeqAt.EqAt.int_str i t y u _ _ _ _ h
    · rcases keyIs_shape hv with ⟨j, u, rfl, rfl⟩ | ⟨y, u, rfl, rfl⟩
      · rw [key_rl] at h; exact SeqAt.EqAt.str_int x t j u _ _ _ _ h
      · rw [key_rr] at h; exact wpAny_eqBool_str h
  «strs» := fun k x t v h => by
    rcases keyIs_shape h with ⟨i, u, rfl, e⟩ | ⟨y, u, rfl, e⟩
    · exact nomatch e
    · injection e with e1 _
      subst e1
      cases v <;> rfl

end L2

namespace L2
open PySem PySem.Spec PyProof.Rows

set_option genInjectivity false in
inductive V where
  | non | bl (b : Bool) | int (i : Int) | str (x : Str) | byt (b : Array UInt8) | flt (b : UInt64) | ref (a : Addr) | ty (n : String)
  deriving DecidableEq

noncomputable def RelV : V → Value → Prop
  | .non, u => u = Value.none
  | .bl b, u => u = Value.bool b
  | .int i, u => ∃ t, u = Value.int i t
  | .str x, u => ∃ t, u = Value.str x t
  | .byt b, u => ∃ t, u = Value.bytes b t
  | .flt b, u => ∃ t, u = Value.float b t
  | .ref a, u => u = Value.ref a
  | .ty n, u => u = Value.type n

abbrev Vals : List V → List Value → Prop := Paired RelV
theorem Vals.length {xs : List V} {us : List Value} (r : Vals xs us) : xs.length = us.length := Paired.length r
theorem Vals.get : ∀ {xs : List V} {us : List Value} {i : Nat} {x : V}, Vals xs us → xs[i]? = some x → ∃ u, us[i]? = some u ∧ RelV x u
  | _, _, _, _, .nil, e => by simp at e
  | _, _, 0, _, .cons r _, e => by simp at e; subst e; exact ⟨_, rfl, r⟩
  | _, _, i + 1, x, .cons _ t, e => by
    obtain ⟨u, h1, h2⟩ := Vals.get (i := i) (x := x) t (by simpa using e)
    exact ⟨u, by simpa using h1, h2⟩
theorem Vals.append : ∀ {xs ys : List V} {us ws : List Value}, Vals xs us → Vals ys ws → Vals (xs ++ ys) (us ++ ws)
  | _, _, _, _, .nil, s => s
  | _, _, _, _, .cons r t, s => .cons r (Vals.append t s)
theorem Vals.take : ∀ {xs : List V} {us : List Value} (n : Nat), Vals xs us → Vals (xs.take n) (us.take n)
  | _, _, 0, _ => .nil
  | _, _, _ + 1, .nil => .nil
  | _, _, n + 1, .cons r t => .cons r (Vals.take n t)
theorem Vals.drop : ∀ {xs : List V} {us : List Value} (n : Nat), Vals xs us → Vals (xs.drop n) (us.drop n)
  | _, _, 0, r => r
  | _, _, _ + 1, .nil => .nil
  | _, _, n + 1, .cons _ t => Vals.drop n t
noncomputable def RelO : Option V → Option Value → Prop
  | some v, some u => RelV v u
  | none, none => True
  | _, _ => False
noncomputable def KV {κ : Type} : List (κ × V) → List (κ × Value) → Prop := Paired fun (p : κ × V) (q : κ × Value) => p.1 = q.1 ∧ RelV p.2 q.2

noncomputable def kV : Key → V
  | .inl i => .int i
  | .inr x => .str x

set_option genInjectivity false in
inductive HO where
  | lst (xs : List V)
  | tup (xs : List V)
  | dK (kvs : List (Key × V)) | dT (kvs : List (List Key × V))
  | set (S : Int → Bool) (n : Nat)
  | ins (C dx : Addr) (fs : List (Str × V))
  | own (x : Addr)
  | xd (fs : List (Str × V))
  | met (f x : Addr)
  | rng (lo hi : Int)
  | frz (o : Obj) (u : HO)
  | tbl (ps : Array Value)
  | ext (φ : Heap → Prop)

abbrev Hp := Addr → Option HO
noncomputable def upd (H : Hp) (a : Addr) (o : HO) : Hp := fun b => if b = a then some o else H b
theorem upd_same {H : Hp} {a : Addr} {o : HO} : upd H a o a = some o := by unfold upd; rw [if_pos rfl]
theorem upd_ne {H : Hp} {a b : Addr} {o : HO} (h : b ≠ a) : upd H a o b = H b := by unfold upd; rw [if_neg h]
theorem ne_of_none {H : Hp} {a b : Addr} {o : HO} (h : H a = some o) (h' : H b = none) : a ≠ b := by
  intro e; subst e; rw [h] at h'; cases h'

section
variable (P : Program) (w : World)
noncomputable def ObjOk (H : Hp) (h : Heap) (a : Addr) : HO → Prop
  | .lst xs => xs.length ≤ sizeLine ∧ ∃ (its : List Value) (n : Nat), Vals xs its ∧ h.get? a = some { cls := .type "list", data := .seq its.toArray n }
  | .tup xs => xs.length ≤ sizeLine ∧ ∃ its : List Value, Vals xs its ∧ IsTup h a its.toArray
  | .dK kvs => kvs.length ≤ sizeLine ∧ (a == sysModules) = false ∧ ∃ vs, KV kvs vs ∧ h.DictOf (mixKind P w) a vs
  | .dT kvs => kvs.length ≤ sizeLine ∧ (a == sysModules) = false ∧ ∃ xs : List (List Key × Addr × Value),
      Paired (fun (p : List Key × V) (q : List Key × Addr × Value) => p.1 = q.1 ∧ H q.2.1 = some (.tup (p.1.map kV)) ∧ RelV p.2 q.2.2) kvs xs ∧
      ∃ o es ep, h.get? a = some o ∧ o.ExactDict ∧ o.data = .dict es ep ∧ es.toList = xs.map (entryOfKey (tupleKind (mixKind P w))) ∧ (xs.map (·.1)).Nodup
  | .set S n => h.SetOf (intKind P w) a S n
  | .ins C dx fs => H dx = some (.own a) ∧ fs.length ≤ 1000 ∧ dx ≠ a ∧ h.get? a = some (PySem.W.instObj C dx) ∧
      ∃ mA, h.Ns1 dx mA ∧ (∀ f, RelO (fs.lookup f) (mA f)) ∧ PySem.Within mA (fs.map (·.1))
  | .own _ => ∃ o, h.get? a = some o
  | .xd fs => ∃ mA, h.Ns1 a mA ∧ ∀ f, RelO (fs.lookup f) (mA f)
  | .rng lo hi => ∃ t u v, h.get? a = some { cls := .type "range", data := .fields #[.int lo t, .int hi u, .int 1 v] }
  | .frz o u => h.get? a = some o ∧ ObjOk H h a u
  | .tbl ps => h.get? a = some { cls := .none, data := .fields ps }
  | .met f x => h.get? a = some (PySem.W.methodObj (.ref f) (.ref x))
  | .ext φ => φ h ∧ (∃ o, h.get? a = some o) ∧ ∀ h1 h2 : Heap, φ h1 → (∀ o, h1.get? a = some o → h2.get? a = some o) → φ h2
noncomputable def HOk (H : Hp) (h : Heap) : Prop := ∀ a o, H a = some o → ObjOk P w H h a o
end

section
variable {P : Program} {w : World} {H H' : Hp} {h h' : Heap} {a : Addr} {o : HO}
theorem ObjOk.lt (x : ObjOk P w H h a o) : a < h.objs.size := by
  cases o with
  | lst xs => obtain ⟨_, _, _, _, e⟩ := x; exact Heap.lt_size e
  | tup xs => obtain ⟨_, _, _, p⟩ := x; exact p.lt
  | dK kvs => obtain ⟨_, _, _, _, o, _, _, e, _⟩ := x; exact Heap.lt_size e
  | dT kvs => obtain ⟨_, _, _, _, o, _, _, e, _⟩ := x; exact Heap.lt_size e
  | set S n => obtain ⟨o, _, _, _, e, _⟩ := x; exact Heap.lt_size e
  | ins C dx fs => obtain ⟨_, _, _, e, _⟩ := x; exact Heap.lt_size e
  | own y => obtain ⟨_, e⟩ := x; exact Heap.lt_size e
  | xd fs => obtain ⟨_, ⟨_, _, _, e, _⟩, _⟩ := x; exact Heap.lt_size e
  | rng lo hi => obtain ⟨_, _, _, e⟩ := x; exact Heap.lt_size e
  | frz ob u => obtain ⟨e, _⟩ := x; exact Heap.lt_size e
  | tbl ps => exact Heap.lt_size (show h.get? a = some _ from x)
  | met f y => exact Heap.lt_size (show h.get? a = some _ from x)
  | ext φ => obtain ⟨_, ⟨_, e⟩, _⟩ := x; exact Heap.lt_size e
theorem Paired.mapP {α β : Type} {F G : α → β → Prop} : ∀ {l₁ : List α} {l₂ : List β}, Paired F l₁ l₂ → (∀ a b, F a b → G a b) → Paired G l₁ l₂
  | _, _, .nil, _ => .nil
  | _, _, .cons r t, f => .cons (f _ _ r) (Paired.mapP t f)
theorem ObjOk.stay (x : ObjOk P w H h a o) (k : ∀ b u, (b = a ∨ H b = some (.own a)) → h.get? b = some u → h'.get? b = some u)
    (ho : ∀ b, H b = some (.own a) → H' b = some (.own a)) (ht : ∀ b xs, H b = some (.tup xs) → H' b = some (.tup xs)) : ObjOk P w H' h' a o := by
  induction o with
  | lst xs => obtain ⟨z, its, n, r, e⟩ := x; exact ⟨z, its, n, r, k _ _ (.inl rfl) e⟩
  | tup xs => obtain ⟨z, its, r, ob, e, c⟩ := x; exact ⟨z, its, r, ob, k _ _ (.inl rfl) e, c⟩
  | dK kvs => obtain ⟨z, y, vs, r, ob, es, ep, e, c⟩ := x; exact ⟨z, y, vs, r, ob, es, ep, k _ _ (.inl rfl) e, c⟩
  | dT kvs =>
    obtain ⟨z, y, xs, r, ob, es, ep, e, c⟩ := x
    exact ⟨z, y, xs, Paired.mapP r fun p q z => ⟨z.1, ht _ _ z.2.1, z.2.2⟩, ob, es, ep, k _ _ (.inl rfl) e, c⟩
  | set S n => obtain ⟨ob, es, ep, t, e, c⟩ := x; exact ⟨ob, es, ep, t, k _ _ (.inl rfl) e, c⟩
  | ins C dx fs =>
    obtain ⟨d, z, ne, e, mA, ⟨od, es, ep, e2, c⟩, r⟩ := x
    exact ⟨ho _ d, z, ne, k _ _ (.inl rfl) e, mA, ⟨od, es, ep, k _ _ (.inr d) e2, c⟩, r⟩
  | own y => obtain ⟨ob, e⟩ := x; exact ⟨ob, k _ _ (.inl rfl) e⟩
  | xd fs => obtain ⟨mA, ⟨od, es, ep, e, c⟩, r⟩ := x; exact ⟨mA, ⟨od, es, ep, k _ _ (.inl rfl) e, c⟩, r⟩
  | rng lo hi => obtain ⟨t, u, v, e⟩ := x; exact ⟨t, u, v, k _ _ (.inl rfl) e⟩
  | frz ob u ih => obtain ⟨e, q⟩ := x; exact ⟨k _ _ (.inl rfl) e, ih q⟩
  | tbl ps =>
    have e : h.get? a = some { cls := .none, data := .fields ps } := x
    show h'.get? a = some { cls := .none, data := .fields ps }
    exact k a _ (.inl rfl) e
  | met f y =>
    have e : h.get? a = some (PySem.W.methodObj (.ref f) (.ref y)) := x
    show h'.get? a = some (PySem.W.methodObj (.ref f) (.ref y))
    exact k a _ (.inl rfl) e
  | ext φ => obtain ⟨p, ⟨o, e⟩, st⟩ := x; exact ⟨st _ _ p fun o q => k _ _ (.inl rfl) q, ⟨o, k _ _ (.inl rfl) e⟩, st⟩
theorem HOk.lt (x : HOk P w H h) (e : H a = some o) : a < h.objs.size := (x a o e).lt
theorem HOk.fresh (x : HOk P w H h) (e : h.objs.size ≤ a) : H a = none := by
  cases q : H a with
  | none => rfl
  | some u => exact absurd (Nat.lt_of_lt_of_le (x.lt q) e) (Nat.lt_irrefl _)
theorem HOk.kept (x : HOk P w H h) (k : ∀ b u, h.get? b = some u → h'.get? b = some u) : HOk P w H h' := fun a o e =>
  (x a o e).stay (fun b u _ q => k b u q) (fun _ q => q) fun _ _ q => q
theorem HOk.laid (x : HOk P w H h) (k : ∀ b u, h.get? b = some u → h'.get? b = some u) (hp : h.objs.size ≤ a) (new : ObjOk P w (upd H a o) h' a o) : HOk P w (upd H a o) h' := fun b u e => by
  have hn := x.fresh hp
  by_cases hb : b = a
  · subst hb; rw [upd_same] at e; cases e; exact new
  · rw [upd_ne hb] at e
    exact (x b u e).stay (fun c v _ q => k c v q) (fun c q => by rw [upd_ne (ne_of_none q hn)]; exact q) fun c xs q => by rw [upd_ne (ne_of_none q hn)]; exact q
end

noncomputable def Rd (H : Hp) (a : Addr) (u : HO) : Prop := H a = some u ∨ ∃ o, H a = some (.frz o u)
theorem Rd.ok {P : Program} {w : World} {H : Hp} {h : Heap} {a : Addr} {u : HO} (r : Rd H a u) (x : HOk P w H h) : ObjOk P w H h a u := by
  rcases r with r | ⟨o, r⟩
  · exact x a u r
  · obtain ⟨_, q⟩ := x a _ r
    exact q
noncomputable def Mut : Option HO → Prop
  | some (.lst _) => True
  | some (.dK _) => True
  | some (.dT _) => True
  | some (.set _ _) => True
  | some (.ins _ _ _) => True
  | some (.ext _) => True
  | _ => False
section
variable {P : Program} {w : World} {H : Hp} {h h' : Heap} {x e : Addr} {o' : HO}
theorem HOk.write (ok : HOk P w H h) (mu : Mut (H x)) (he : e = x ∨ H e = some (.own x)) (k : ∀ b u, b ≠ e → h.get? b = some u → h'.get? b = some u) (heo : ∃ u, h'.get? e = some u)
    (new : ObjOk P w (upd H x o') h' x o') : HOk P w (upd H x o') h' := fun b u q => by
  have nown : ∀ c y, H c = some (.own y) → c ≠ x := fun c y r z => by subst z; rw [r] at mu; exact mu
  have ntup : ∀ c xs, H c = some (.tup xs) → c ≠ x := fun c xs r z => by subst z; rw [r] at mu; exact mu
  by_cases hb : b = x
  · subst hb; rw [upd_same] at q; cases q; exact new
  · rw [upd_ne hb] at q
    by_cases hbe : b = e
    · have q' : H b = some (.own x) := by
        rcases he with z | z
        · exact absurd (hbe.trans z) hb
        · rw [hbe]; exact z
      rw [q] at q'; cases q'
      obtain ⟨v, hv⟩ := heo
      exact ⟨v, by rw [hbe]; exact hv⟩
    · refine (ok b u q).stay (fun c v hc r => k c v ?_ r) (fun c r => by rw [upd_ne (nown c b r)]; exact r) fun c xs r => by rw [upd_ne (ntup c xs r)]; exact r
      rcases hc with rfl | hc
      · exact hbe
      · rintro rfl
        rcases he with z | z
        · exact nown c b hc z
        · rw [hc] at z; cases z; exact hb rfl
end

structure Un (fs ex : List Addr) (H H' : Hp) (h h' : Heap) : Prop where
  keep : ∀ b o, h.get? b = some o → H b = none → b ∉ fs → b ∉ ex → h'.get? b = some o
  slot : ∀ b o, h.get? b = some o → H b = none → b ∈ fs → b ∉ ex → ∃ sl, h'.get? b = some { o with slots := sl }
  free : ∀ b o, h.get? b = some o → H b = none → b ∉ ex → H' b = none
  there : ∀ b o, h.get? b = some o → b ∉ ex → ∃ o', h'.get? b = some o'
  tups : ∀ b xs, H b = some (.tup xs) → H' b = some (.tup xs)
  frzs : ∀ b o u, H b = some (.frz o u) → H' b = some (.frz o u)
  tbls : ∀ b ps, H b = some (.tbl ps) → ∃ more, H' b = some (.tbl (ps ++ more))
section
variable {fs fs' ex ex' : List Addr} {H H1 H2 : Hp} {h h1 h2 h' : Heap} {a x e : Addr} {o : HO}
theorem Un.any (u : Un fs ex H H1 h h1) {b : Addr} {ob : Obj} (q : h.get? b = some ob) (n : H b = none) (hx : b ∉ ex) : ∃ sl, h1.get? b = some { ob with slots := sl } := by
  by_cases hb : b ∈ fs
  · exact u.slot b ob q n hb hx
  · exact ⟨ob.slots, u.keep b ob q n hb hx⟩
theorem Un.kept (k : ∀ b u, h.get? b = some u → h'.get? b = some u) : Un fs ex H H h h' :=
  ⟨fun b ob q _ _ _ => k b ob q, fun b ob q _ _ _ => ⟨ob.slots, k b ob q⟩, fun _ _ _ n _ => n, fun b ob q _ => ⟨ob, k b ob q⟩, fun _ _ q => q, fun _ _ _ q => q, fun _ ps q => ⟨#[], by rw [q]; simp⟩⟩
theorem Un.refl : Un fs ex H H h h := Un.kept fun _ _ q => q
theorem Un.laid (k : ∀ b u, h.get? b = some u → h'.get? b = some u) (hp : h.objs.size ≤ a) (hn : H a = none) : Un fs ex H (upd H a o) h h' where
  keep := fun b u q _ _ _ => k b u q
  slot := fun b u q _ _ _ => ⟨u.slots, k b u q⟩
  free := fun b u q n _ => by rw [upd_ne (Nat.ne_of_lt (Nat.lt_of_lt_of_le (Heap.lt_size q) hp))]; exact n
  there := fun b u q _ => ⟨u, k b u q⟩
  tups := fun b xs q => by rw [upd_ne (ne_of_none q hn)]; exact q
  frzs := fun b u xs q => by rw [upd_ne (ne_of_none q hn)]; exact q
  tbls := fun b ps q => ⟨#[], by rw [upd_ne (ne_of_none q hn), q]; simp⟩
theorem Un.write (mu : Mut (H x)) (he : e = x ∨ H e = some (.own x)) (k : ∀ b u, b ≠ e → h.get? b = some u → h'.get? b = some u) (heo : ∃ u, h'.get? e = some u) : Un fs ex H (upd H x o) h h' := by
  have hx : ∀ b, H b = none → b ≠ x := fun b n z => by subst z; rw [n] at mu; exact mu
  have hb : ∀ b, H b = none → b ≠ e := fun b n z => by
    subst z
    rcases he with r | r
    · exact hx b n r
    · rw [n] at r; cases r
  have hm : ∀ b u, H b = some u → ¬ Mut (some u) → b ≠ x := fun b u q nm z => by subst z; rw [q] at mu; exact nm mu
  refine ⟨fun b u q n _ _ => k b u (hb b n) q, fun b u q n _ _ => ⟨u.slots, k b u (hb b n) q⟩, fun b u q n _ => by rw [upd_ne (hx b n)]; exact n, fun b u q _ => ?_,
    fun b xs q => by rw [upd_ne (hm b _ q fun z => z)]; exact q, fun b u xs q => by rw [upd_ne (hm b _ q fun z => z)]; exact q, fun b ps q => ⟨#[], by rw [upd_ne (hm b _ q fun z => z), q]; simp⟩⟩
  by_cases hbe : b = e
  · subst hbe; exact heo
  · exact ⟨u, k b u hbe q⟩
end

noncomputable def trk (h : Heap) (H : Hp) : List Addr := (List.range h.objs.size).filter fun a => (H a).isSome
noncomputable def hidT (h : Heap) (H : Hp) : Heap := PySem.W.hideAll h (trk h H)
theorem hidT_size (h : Heap) (H : Hp) : (hidT h H).objs.size = h.objs.size := PySem.W.hideAll_size _ _
theorem hidT_get {h : Heap} {H : Hp} {b : Addr} {o : Obj} (e : h.get? b = some o) (n : H b = none) : (hidT h H).get? b = some o :=
  PySem.W.hideAll_get _ e fun hm => by
    have q : (H b).isSome = true := (List.mem_filter.mp hm).2
    rw [n] at q; simp at q
theorem of_hidT {h : Heap} {H : Hp} {b : Addr} {o : Obj} (e : (hidT h H).get? b = some o) : h.get? b = some o ∧ H b = none := by
  have e' : h.get? b = some o := PySem.W.of_hideAll (trk h H) e
  refine ⟨e', ?_⟩
  cases q : H b with
  | none => rfl
  | some x =>
    have hm : b ∈ trk h H := List.mem_filter.mpr ⟨List.mem_range.mpr (Heap.lt_size e'), by simp [q]⟩
    have z : (hidT h H).get? b = none := PySem.W.hideAll_none (trk h H) hm
    rw [z] at e; cases e

noncomputable def allNews (g h : Heap) (L : Addr) : List (Addr × Obj) := (List.range h.objs.size).filterMap fun a => if a = L ∨ (g.get? a).isSome = true then none else (h.get? a).map fun o => (a, o)
noncomputable def rest (g h : Heap) (L d : Addr) : List (Addr × Obj) := (allNews g h L).filter fun p => decide (p.1 ≠ d)
end L2

namespace L2
open PySem PySem.Spec PyProof.Rows

structure Mod (K : PySem.W.Frag) (mg : Str → Option Value) (base : Heap) : Prop where
  kin : K.In base
  glob : base.Ns mainGlobals mg
  blt : ∃ mb, base.Ns builtinsNs mb ∧ ∀ x : Str, x ≠ "__name__" → mb x = bootBuiltins x
  nolimit : base.NoLimit

set_option genInjectivity false in
structure Cx where
  prog : Program
  w : World
  K : PySem.W.Frag
  mg : Str → Option Value
  base : Heap
  A : Around
  N : List Str
  s₀ : Shared
  H₀ : Hp
  env : Env
  outer : List Env
  stack : List Env
  ex : List Addr
  fn : Str → Bool
  calm : Bool
  pn : List (Addr × Obj)
  xe : Value → Shared → Prop
noncomputable def frs (l : List Env) : List Addr := l.filterMap (·.frame)
abbrev Cx.fs (X : Cx) : List Addr := frs X.outer

noncomputable def Vis (sc : Scope) (x : Str) : Prop := sc.names.lookup x = some .local ∨ sc.names.lookup x = some .cell ∨ sc.names.lookup x = some .free
noncomputable def Loc (sc : Scope) (x : Str) : Prop := sc.names.lookup x = some .local ∨ sc.names.lookup x = some .cell
noncomputable def Look (env : Env) (h : Heap) (m : Str → Option Value) (x : Str) (u : Value) : Prop :=
  (env.kindOf x = some .local ∧ m x = some u) ∨ ((env.kindOf x = some .cell ∨ env.kindOf x = some .free) ∧ ∃ c, env.cells.lookup x = some c ∧ h.IsCell c (some u))

structure Cx.Ok (X : Cx) : Prop where
  mod : Mod X.K X.mg X.base
  kind : X.env.scope.kind = .function
  glob : X.env.globals = mainGlobals
  blt : X.env.builtins = builtinsNs
  above : X.s₀.heap.objs.size ≤ X.env.locals
  inj : ∀ x y c, X.env.cells.lookup x = some c → X.env.cells.lookup y = some c → x = y
  has : ∀ x, (X.env.kindOf x = some .cell ∨ X.env.kindOf x = some .free) → ∃ c, X.env.cells.lookup x = some c
  cab : ∀ x c, X.fn x = true → X.env.cells.lookup x = some c → X.s₀.heap.objs.size ≤ c
  hd : X.calm = true → X.A.handled = none
  frames : X.A.frames = some X.stack
  stk : X.stack = X.outer ∨ (X.stack = X.env :: X.outer ∧ X.env.frame = some X.env.locals)
  exf : ∀ b ∈ X.ex, b ≠ X.env.locals ∧ ∀ x c, X.env.cells.lookup x = some c → c ≠ b
  bs : ∀ b o, X.base.get? b = some o → X.s₀.heap.get? b = some o ∧ X.H₀ b = none
  bsz : X.base.objs.size ≤ X.s₀.heap.objs.size
  noex : ∀ b o, X.base.get? b = some o → b ∉ X.ex
  exfs : ∀ b ∈ X.ex, b ∉ X.fs
  funs : X.s₀.heap.FunFrames X.base X.outer
  frf : ∀ b ∈ X.fs, X.H₀ b = none

structure Inv (X : Cx) (pins : List (Addr × Obj)) (σ : List (Option V)) (H : Hp) (s : Shared) : Prop where
  ok : X.Ok
  os : s.os = X.s₀.os
  bare : AllBare s.gens
  base : Un X.fs X.ex X.H₀ H X.s₀.heap s.heap
  loc : ∃ m, s.heap.Ns X.env.locals m ∧ ∀ (i : Nat) (x : Str) (v : V), X.N[i]? = some x → σ[i]? = some (some v) → Vis X.env.scope x → ∃ u, RelV v u ∧ Look X.env s.heap m x u
  cell : ∀ x c, X.env.cells.lookup x = some c → ∃ v, s.heap.IsCell c v
  free : H X.env.locals = none
  freeC : ∀ x c, X.env.cells.lookup x = some c → H c = none
  pin : ∀ p ∈ X.pn ++ pins, s.heap.get? p.1 = some p.2 ∧ H p.1 = none ∧ p.1 ≠ X.env.locals ∧ p.1 ∉ X.fs ∧ ∀ v, p.2.data ≠ .cell v
  hok : HOk X.prog X.w H s.heap
  len : σ.length = X.N.length

section
variable {X : Cx} {pins : List (Addr × Obj)} {σ : List (Option V)} {H H' : Hp} {s : Shared} {h' : Heap}

theorem Cx.Ok.nofr (ok : X.Ok) {b : Addr} {o : Obj} (e : X.base.get? b = some o) : b ∉ X.fs := fun hb => by
  have := (ok.funs.mem hb).1
  rw [e] at this; cases this
theorem Inv.bs (I : Inv X pins σ H s) : ∀ b o, X.base.get? b = some o → s.heap.get? b = some o ∧ H b = none := fun b o e =>
  ⟨I.base.keep b o (I.ok.bs b o e).1 (I.ok.bs b o e).2 (I.ok.nofr e) (I.ok.noex b o e), I.base.free b o (I.ok.bs b o e).1 (I.ok.bs b o e).2 (I.ok.noex b o e)⟩
theorem Inv.bk (I : Inv X pins σ H s) : ∀ b o, X.base.get? b = some o → s.heap.get? b = some o := fun b o e => (I.bs b o e).1
theorem Inv.mod (I : Inv X pins σ H s) : Mod X.K X.mg X.base := I.ok.mod
theorem Inv.kIn (I : Inv X pins σ H s) : X.K.In s.heap := I.ok.mod.kin.keeps I.bk
theorem Inv.lt (I : Inv X pins σ H s) : X.env.locals < s.heap.objs.size := let ⟨_, hn, _⟩ := I.loc; hn.lt
theorem Inv.sz (I : Inv X pins σ H s) : X.s₀.heap.objs.size ≤ s.heap.objs.size := Nat.le_trans I.ok.above (Nat.le_of_lt I.lt)
theorem Inv.nofs (I : Inv X pins σ H s) {a : Addr} (h : s.heap.objs.size ≤ a) : a ∉ X.fs := fun hb => by
  obtain ⟨_, o, ho, _⟩ := I.ok.funs.mem hb
  exact absurd (Nat.lt_of_lt_of_le (Heap.lt_size ho) (Nat.le_trans I.sz h)) (Nat.lt_irrefl _)
theorem Inv.cne (I : Inv X pins σ H s) : ∀ x c, X.env.cells.lookup x = some c → c ≠ X.env.locals := fun x c e z => by
  obtain ⟨v, o, ho, hd⟩ := I.cell x c e
  obtain ⟨m, ⟨o', es, ep, ho', hd', _⟩, _⟩ := I.loc
  rw [z, ho'] at ho; cases ho; rw [hd'] at hd; cases hd
theorem Inv.funs (I : Inv X pins σ H s) : s.heap.FunFrames X.base X.outer := by
  have all : ∀ (l : List Env), (∀ b ∈ frs l, b ∈ X.fs) → X.s₀.heap.FunFrames X.base l → s.heap.FunFrames X.base l := by
    intro l
    induction l with
    | nil => intro _ _; trivial
    | cons env r ih =>
      intro hs hl
      obtain ⟨hk, ⟨L, o, hf, hn, ho, hd⟩, hr⟩ := hl
      have hL : L ∈ X.fs := hs L (by unfold frs; rw [List.filterMap_cons, hf]; exact List.mem_cons_self)
      obtain ⟨sl, e⟩ := I.base.slot L o ho (I.ok.frf L hL) hL fun z => I.ok.exfs L z hL
      exact ⟨hk, ⟨L, _, hf, hn, e, hd⟩, ih (fun b hb => hs b (by unfold frs; rw [List.filterMap_cons, hf]; exact List.mem_cons_of_mem _ hb)) hr⟩
  exact all X.outer (fun _ hb => hb) I.ok.funs

theorem Inv.stack (I : Inv X pins σ H s) : s.heap.FunFrames X.base X.stack := by
  rcases I.ok.stk with e | ⟨e, hf⟩
  · rw [e]; exact I.funs
  · rw [e]
    obtain ⟨m, hn, _⟩ := I.loc
    refine .cons (by rw [I.ok.kind]; decide) hf hn ?_ I.funs
    exact Heap.get?_none_of_le (Nat.le_trans I.ok.bsz I.ok.above)
theorem Inv.stkSub (I : Inv X pins σ H s) : ∀ b ∈ frs X.stack, b ∈ X.env.locals :: X.fs := fun b hb => by
  rcases I.ok.stk with e | ⟨e, hf⟩
  · rw [e] at hb; exact List.mem_cons_of_mem _ hb
  · rw [e] at hb
    unfold frs at hb
    rw [List.filterMap_cons, hf] at hb
    exact hb
theorem Inv.stkFree (I : Inv X pins σ H s) : ∀ b ∈ frs X.stack, H b = none := fun b hb => by
  rcases List.mem_cons.mp (I.stkSub b hb) with e | hb
  · rw [e]; exact I.free
  · obtain ⟨_, o, ho, _⟩ := I.ok.funs.mem hb
    exact I.base.free b o ho (I.ok.frf b hb) fun z => I.ok.exfs b z hb

theorem Inv.step {g' : Array GenState} {t' : Nat} {d' : Drawn} {ch : List Addr} (I : Inv X pins σ H s)
    (hch : ∀ b ∈ ch, (b ∈ X.ex ∨ X.s₀.heap.objs.size ≤ b) ∧ b ≠ X.env.locals ∧ (∀ x c, X.env.cells.lookup x = some c → c ≠ b) ∧ ∀ p ∈ X.pn ++ pins, p.1 ≠ b)
    (keep : ∀ b o, b ≠ X.env.locals → b ∉ X.fs → b ∉ ch → s.heap.get? b = some o → H b = none → h'.get? b = some o)
    (slot : ∀ b o, b ≠ X.env.locals → b ∈ X.fs → b ∉ ch → s.heap.get? b = some o → H b = none → ∃ sl, h'.get? b = some { o with slots := sl }) (free : ∀ b o, b ∉ ch → s.heap.get? b = some o → H b = none → H' b = none)
    (there : ∀ b o, b ∉ ch → s.heap.get? b = some o → ∃ o', h'.get? b = some o')
    (tups : ∀ b xs, H b = some (.tup xs) → H' b = some (.tup xs)) (frzs : ∀ b o u, H b = some (.frz o u) → H' b = some (.frz o u)) (tbls : ∀ b ps, H b = some (.tbl ps) → ∃ more, H' b = some (.tbl (ps ++ more)))
    (ns : ∀ m, s.heap.Ns X.env.locals m → h'.Ns X.env.locals m) (hok : HOk X.prog X.w H' h') (hg : AllBare g') :
    Inv X pins σ H' { s with heap := h', gens := g', drawn := d', toks := t' } := by
  have neL : ∀ b o, X.s₀.heap.get? b = some o → b ≠ X.env.locals := fun b o e => Nat.ne_of_lt (Nat.lt_of_lt_of_le (Heap.lt_size e) I.ok.above)
  have neC : ∀ b o, X.s₀.heap.get? b = some o → b ∉ X.ex → b ∉ ch := fun b o e hx hb => by
    rcases (hch b hb).1 with z | z
    · exact hx z
    · exact absurd (Nat.lt_of_lt_of_le (Heap.lt_size e) z) (Nat.lt_irrefl _)
  have cellK : ∀ x c, X.env.cells.lookup x = some c → ∀ v, s.heap.IsCell c v → h'.IsCell c v := fun x c e v zz => by
    obtain ⟨o, ho, hd⟩ := zz
    have nch : c ∉ ch := fun z => (hch c z).2.2.1 x c e rfl
    by_cases hc : c ∈ X.fs
    · obtain ⟨sl, q⟩ := slot c o (I.cne x c e) hc nch ho (I.freeC x c e)
      exact ⟨_, q, hd⟩
    · exact ⟨o, keep c o (I.cne x c e) hc nch ho (I.freeC x c e), hd⟩
  refine ⟨I.ok, I.os, hg, ⟨fun b o e n hb hx => ?_, fun b o e n hb hx => ?_, fun b o e n hx => ?_, fun b o e hx => ?_, fun b xs e => tups b xs (I.base.tups b xs e), fun b o xs e => frzs b o xs (I.base.frzs b o xs e), fun b ps e => ?_⟩, ?_, fun x c e => ?_, ?_, fun x c e => ?_, fun p hp => ?_, hok, I.len⟩
  · exact keep b o (neL b o e) hb (neC b o e hx) (I.base.keep b o e n hb hx) (I.base.free b o e n hx)
  · obtain ⟨sl, e1⟩ := I.base.slot b o e n hb hx
    obtain ⟨sl', e2⟩ := slot b _ (neL b o e) hb (neC b o e hx) e1 (I.base.free b o e n hx)
    exact ⟨sl', e2⟩
  · obtain ⟨o', e1⟩ := I.base.there b o e hx
    exact free b o' (neC b o e hx) e1 (I.base.free b o e n hx)
  · obtain ⟨o', e1⟩ := I.base.there b o e hx
    exact there b o' (neC b o e hx) e1
  · obtain ⟨m1, e1⟩ := I.base.tbls b ps e
    obtain ⟨m2, e2⟩ := tbls b _ e1
    exact ⟨m1 ++ m2, by rw [e2, Array.append_assoc]⟩
  · obtain ⟨m, hn, hl⟩ := I.loc
    refine ⟨m, ns m hn, fun i x v e1 e2 e3 => ?_⟩
    obtain ⟨u, r, l⟩ := hl i x v e1 e2 e3
    refine ⟨u, r, ?_⟩
    rcases l with l | ⟨k, c, e, z⟩
    · exact .inl l
    · exact .inr ⟨k, c, e, cellK x c e _ z⟩
  · obtain ⟨v, z⟩ := I.cell x c e
    exact ⟨v, cellK x c e v z⟩
  · obtain ⟨m, ⟨o, _, _, ho, _⟩, _⟩ := I.loc
    exact free _ o (fun z => (hch _ z).2.1 rfl) ho I.free
  · obtain ⟨v, o, ho, hd⟩ := I.cell x c e
    exact free c o (fun z => (hch c z).2.2.1 x c e rfl) ho (I.freeC x c e)
  · obtain ⟨e, n, ne, nf, d⟩ := I.pin p hp
    have nch : p.1 ∉ ch := fun z => (hch p.1 z).2.2.2 p hp rfl
    exact ⟨keep p.1 p.2 ne nf nch e n, free p.1 p.2 nch e n, ne, nf, d⟩
theorem Inv.un {t' : Nat} (I : Inv X pins σ H s) (u : Un X.fs [] H H' s.heap h') (hok : HOk X.prog X.w H' h') : Inv X pins σ H' { s with heap := h', toks := t' } := by
  obtain ⟨m, ⟨o, es, ep, ho, r⟩, _⟩ := id I.loc
  obtain ⟨sl, hL⟩ := u.any ho I.free (by simp)
  exact I.step (g' := s.gens) (d' := s.drawn) (ch := []) (fun _ z => nomatch z) (fun b o _ hb _ e n => u.keep b o e n hb (by simp)) (fun b o _ hb _ e n => u.slot b o e n hb (by simp)) (fun b o _ e n => u.free b o e n (by simp)) (fun b o _ e => u.there b o e (by simp)) u.tups u.frzs u.tbls (fun m' hm => by
    obtain ⟨o', es', ep', ho', r'⟩ := hm
    rw [ho] at ho'; cases ho'
    exact ⟨_, es', ep', hL, r'⟩) hok I.bare
theorem Inv.call {g' : Array GenState} {t' : Nat} {d' : Drawn} {ch : List Addr} (I : Inv X pins σ H s) (u : Un (frs X.stack) ch H H' s.heap h') (hok : HOk X.prog X.w H' h') (hg : AllBare g')
    (hch : ∀ b ∈ ch, (b ∈ X.ex ∨ X.s₀.heap.objs.size ≤ b) ∧ b ≠ X.env.locals ∧ (∀ x c, X.env.cells.lookup x = some c → c ≠ b) ∧ ∀ p ∈ X.pn ++ pins, p.1 ≠ b) :
    Inv X pins σ H' { s with heap := h', gens := g', drawn := d', toks := t' } := by
  obtain ⟨m, ⟨o, es, ep, ho, r⟩, _⟩ := id I.loc
  obtain ⟨sl, hL⟩ := u.any ho I.free fun z => (hch _ z).2.1 rfl
  exact I.step (ch := ch) hch (fun b o hL hb hc e n => u.keep b o e n (fun z => (List.mem_cons.mp (I.stkSub b z)).elim hL hb) hc) (fun b o _ _ hc e n => u.any e n hc) (fun b o hc e n => u.free b o e n hc) (fun b o hc e => u.there b o e hc) u.tups u.frzs u.tbls (fun m' hm => by
    obtain ⟨o', es', ep', ho', r'⟩ := hm
    rw [ho] at ho'; cases ho'
    exact ⟨_, es', ep', hL, r'⟩) hok hg
theorem Inv.turned {t' : Nat} {it : Addr} (I : Inv X pins σ H s) (k : ∀ b o, b ≠ it → s.heap.get? b = some o → h'.get? b = some o) (hn : H it = none) (hL : it ≠ X.env.locals)
    (h1 : it ∈ X.ex ∨ X.s₀.heap.objs.size ≤ it) (h2 : ∀ x c, X.env.cells.lookup x = some c → c ≠ it) (h3 : ∀ p ∈ X.pn ++ pins, p.1 ≠ it) : Inv X pins σ H { s with heap := h', toks := t' } := by
  have nit : ∀ b u, H b = some u → b ≠ it := fun b u e z => by rw [z, hn] at e; cases e
  refine I.step (g' := s.gens) (d' := s.drawn) (ch := [it]) (fun b hb => ?_) (fun b o _ _ hc e _ => k b o (fun z => hc (by simp [z])) e) (fun b o _ _ hc e _ => ⟨o.slots, k b o (fun z => hc (by simp [z])) e⟩) (fun _ _ _ _ n => n)
    (fun b o hc e => ⟨o, k b o (fun z => hc (by simp [z])) e⟩) (fun _ _ e => e) (fun _ _ _ e => e) (fun b ps e => ⟨#[], by rw [e]; simp⟩) (fun m hm => ?_) (fun b u e => ?_) I.bare
  · have e : b = it := by simpa using hb
    subst e
    exact ⟨h1, hL, h2, h3⟩
  · obtain ⟨o, es, ep, ho, r⟩ := hm
    exact ⟨o, es, ep, k _ o (Ne.symm hL) ho, r⟩
  · refine (I.hok b u e).stay (fun c v hc q => k c v ?_ q) (fun _ q => q) fun _ _ q => q
    rcases hc with z | z
    · rw [z]; exact nit b u e
    · exact nit c _ z
theorem Inv.tok (I : Inv X pins σ H s) (t : Nat) : Inv X pins σ H { s with toks := t } := I.un (h' := s.heap) (t' := t) Un.refl I.hok
theorem Inv.kept {t' : Nat} (I : Inv X pins σ H s) (k : ∀ b u, s.heap.get? b = some u → h'.get? b = some u) : Inv X pins σ H { s with heap := h', toks := t' } := I.un (Un.kept k) (I.hok.kept k)
theorem Inv.laid {a : Addr} {o : HO} {t' : Nat} (I : Inv X pins σ H s) (k : ∀ b u, s.heap.get? b = some u → h'.get? b = some u) (hp : s.heap.objs.size ≤ a) (new : ObjOk X.prog X.w (upd H a o) h' a o) :
    Inv X pins σ (upd H a o) { s with heap := h', toks := t' } := I.un (Un.laid k hp (I.hok.fresh hp)) (I.hok.laid k hp new)
theorem Inv.write {x e : Addr} {o : HO} {t' : Nat} (I : Inv X pins σ H s) (mu : Mut (H x)) (he : e = x ∨ H e = some (.own x)) (k : ∀ b u, b ≠ e → s.heap.get? b = some u → h'.get? b = some u) (heo : ∃ u, h'.get? e = some u)
    (new : ObjOk X.prog X.w (upd H x o) h' x o) : Inv X pins σ (upd H x o) { s with heap := h', toks := t' } := I.un (Un.write mu he k heo) (I.hok.write mu he k heo new)
theorem Inv.pins_of {pins' : List (Addr × Obj)} (I : Inv X pins σ H s) (h : ∀ p ∈ pins', s.heap.get? p.1 = some p.2 ∧ H p.1 = none ∧ p.1 ≠ X.env.locals ∧ p.1 ∉ X.fs ∧ ∀ v, p.2.data ≠ .cell v) : Inv X pins' σ H s :=
  ⟨I.ok, I.os, I.bare, I.base, I.loc, I.cell, I.free, I.freeC, fun p hp => (List.mem_append.mp hp).elim (fun z => I.pin p (List.mem_append_left _ z)) (h p), I.hok, I.len⟩

theorem nodup_ix {N : List Str} (hN : N.Nodup) {i j : Nat} {x : Str} (a : N[i]? = some x) (b : N[j]? = some x) : i = j := by
  obtain ⟨h1, e1⟩ := List.getElem?_eq_some_iff.mp a
  obtain ⟨h2, e2⟩ := List.getElem?_eq_some_iff.mp b
  exact (List.getElem_inj hN).mp (e1.trans e2.symm)

theorem store_ok2 {M : Model} {A : Around} {E : Value → Shared → Prop} {i : Nat} {x : Str} {v : V} {u : Value} {Q : Unit → Shared → Prop} (I : Inv X pins σ H s) (hN : X.N.Nodup) (hi : X.N[i]? = some x) (hx : Loc X.env.scope x) (r : RelV v u)
    (h : ∀ s', Inv X pins (σ.set i (some v)) H s' → (∃ a, Heap.SameBut a s.heap s'.heap ∧ (a = X.env.locals ∨ X.env.cells.lookup x = some a)) → Q () s') (hf : X.fn x = true ∨ X.env.scope.names.lookup x = some .local := by first | exact .inl rfl | exact .inr rfl | assumption) : wpAny M A (storeName X.env x u) Q E s := by
  obtain ⟨m, hn, hl⟩ := id I.loc
  have hcls : (X.env.scope.kind == .class || (X.env.scope.kind == .module && X.env.locals != X.env.globals)) = false := by rw [I.ok.kind]; rfl
  have hiσ : i < σ.length := by rw [I.len]; exact (List.getElem?_eq_some_iff.mp hi).1
  have cne := I.cne
  have tracked : ∀ {a : Addr} {h' : Heap}, (∃ o, s.heap.get? a = some o ∧ H a = none) → Heap.SameBut a s.heap h' → HOk X.prog X.w H h' := fun {a h'} ha hs b ob e => by
    obtain ⟨_, _, hfree⟩ := ha
    refine (I.hok b ob e).stay (fun c w' hc q => (hs.2 c ?_).trans q) (fun _ q => q) fun _ _ q => q
    rintro rfl
    rcases hc with rfl | hc
    · rw [hfree] at e; cases e
    · rw [hfree] at hc; cases hc
  rcases hx with hk | hk
  · refine wpAny_storeName_local hk hn (fun h' hn' hs => ?_) hcls
    obtain ⟨oL, _, _, hoL, _⟩ := id hn
    refine h _ ⟨I.ok, I.os, I.bare, ⟨fun b o e n hb hx => ?_, fun b o e n hb hx => ?_, I.base.free, fun b o e hx => ?_, I.base.tups, I.base.frzs, I.base.tbls⟩, ⟨_, hn', fun j y v' e1 e2 e3 => ?_⟩, fun y c e => ?_, I.free, I.freeC, fun p hp => ?_, tracked ⟨oL, hoL, I.free⟩ hs, by simpa using I.len⟩ ⟨_, hs, .inl rfl⟩
    · exact (hs.2 b (Nat.ne_of_lt (Nat.lt_of_lt_of_le (Heap.lt_size e) I.ok.above))).trans (I.base.keep b o e n hb hx)
    · obtain ⟨sl, e1⟩ := I.base.slot b o e n hb hx
      exact ⟨sl, (hs.2 b (Nat.ne_of_lt (Nat.lt_of_lt_of_le (Heap.lt_size e) I.ok.above))).trans e1⟩
    · obtain ⟨o', e1⟩ := I.base.there b o e hx
      exact ⟨o', (hs.2 b (Nat.ne_of_lt (Nat.lt_of_lt_of_le (Heap.lt_size e) I.ok.above))).trans e1⟩
    · by_cases hj : j = i
      · subst hj
        rw [hi] at e1; cases e1
        rw [List.getElem?_set_self hiσ] at e2
        cases e2
        exact ⟨u, r, .inl ⟨hk, by simp⟩⟩
      · rw [List.getElem?_set_ne (Ne.symm hj)] at e2
        obtain ⟨u', r', q⟩ := hl j y v' e1 e2 e3
        refine ⟨u', r', ?_⟩
        rcases q with ⟨k, e⟩ | ⟨k, c, e, z⟩
        · refine .inl ⟨k, ?_⟩
          have : y ≠ x := fun e => hj (nodup_ix hN e1 (e ▸ hi))
          simp [this, e]
        · exact .inr ⟨k, c, e, z.sameBut hs (cne y c e)⟩
    · obtain ⟨w', z⟩ := I.cell y c e
      exact ⟨w', z.sameBut hs (cne y c e)⟩
    · obtain ⟨e, n, ne, nf, d⟩ := I.pin p hp
      exact ⟨(hs.2 p.1 ne).trans e, n, ne, nf, d⟩
  · have hfn : X.fn x = true := by
      rcases hf with z | z
      · exact z
      · rw [z] at hk; cases hk
    obtain ⟨c, hc⟩ := I.ok.has x (.inl hk)
    obtain ⟨w', z⟩ := I.cell x c hc
    refine wpAny_storeName_cell I.ok.kind hk hc z (fun h' hc' hs => ?_)
    obtain ⟨oc, hoc, hocd⟩ := id z
    refine h { s with heap := h' } ⟨I.ok, I.os, I.bare, ⟨fun b o e n hb hx => ?_, fun b o e n hb hx => ?_, I.base.free, fun b o e hx => ?_, I.base.tups, I.base.frzs, I.base.tbls⟩, ⟨m, hn.sameBut hs (Ne.symm (cne x c hc)), fun j y v' e1 e2 e3 => ?_⟩, fun y c' e => ?_, I.free, I.freeC, fun p hp => ?_, tracked ⟨oc, hoc, I.freeC x c hc⟩ hs, by simpa using I.len⟩ ⟨c, hs, .inr hc⟩
    · exact (hs.2 b (Nat.ne_of_lt (Nat.lt_of_lt_of_le (Heap.lt_size e) (I.ok.cab x c hfn hc)))).trans (I.base.keep b o e n hb hx)
    · obtain ⟨sl, e1⟩ := I.base.slot b o e n hb hx
      exact ⟨sl, (hs.2 b (Nat.ne_of_lt (Nat.lt_of_lt_of_le (Heap.lt_size e) (I.ok.cab x c hfn hc)))).trans e1⟩
    · obtain ⟨o', e1⟩ := I.base.there b o e hx
      exact ⟨o', (hs.2 b (Nat.ne_of_lt (Nat.lt_of_lt_of_le (Heap.lt_size e) (I.ok.cab x c hfn hc)))).trans e1⟩
    · by_cases hj : j = i
      · subst hj
        rw [hi] at e1; cases e1
        rw [List.getElem?_set_self hiσ] at e2
        cases e2
        exact ⟨u, r, .inr ⟨.inl hk, c, hc, hc'⟩⟩
      · rw [List.getElem?_set_ne (Ne.symm hj)] at e2
        obtain ⟨u', r', q⟩ := hl j y v' e1 e2 e3
        refine ⟨u', r', ?_⟩
        rcases q with q | ⟨k, c', e, z'⟩
        · exact .inl q
        · refine .inr ⟨k, c', e, z'.sameBut hs ?_⟩
          rintro rfl
          exact hj (nodup_ix hN e1 (I.ok.inj _ _ _ e hc ▸ hi))
    · by_cases hcc : c' = c
      · subst hcc; exact ⟨_, hc'⟩
      · obtain ⟨w2, z2⟩ := I.cell y c' e
        exact ⟨w2, z2.sameBut hs hcc⟩
    · obtain ⟨e, n, ne, nf, d⟩ := I.pin p hp
      refine ⟨(hs.2 p.1 ?_).trans e, n, ne, nf, d⟩
      intro q
      rw [q, hoc] at e
      have q' : oc = p.2 := Option.some.inj e
      exact d w' (by rw [← q']; exact hocd)
theorem store_ok {M : Model} {A : Around} {E : Value → Shared → Prop} {i : Nat} {x : Str} {v : V} {u : Value} {Q : Unit → Shared → Prop} (I : Inv X pins σ H s) (hN : X.N.Nodup) (hi : X.N[i]? = some x) (hx : Loc X.env.scope x) (r : RelV v u)
    (h : ∀ s', Inv X pins (σ.set i (some v)) H s' → Q () s') (hf : X.fn x = true ∨ X.env.scope.names.lookup x = some .local := by first | exact .inl rfl | exact .inr rfl | assumption) : wpAny M A (storeName X.env x u) Q E s :=
  store_ok2 I hN hi hx r (fun s' I' _ => h s' I') hf
theorem Inv.call' {s' : Shared} {ch : List Addr} (I : Inv X pins σ H s) (ho : s'.os = s.os) (u : Un (frs X.stack) ch H H' s.heap s'.heap) (hok : HOk X.prog X.w H' s'.heap) (hg : AllBare s'.gens)
    (hch : ∀ b ∈ ch, (b ∈ X.ex ∨ X.s₀.heap.objs.size ≤ b) ∧ b ≠ X.env.locals ∧ (∀ x c, X.env.cells.lookup x = some c → c ≠ b) ∧ ∀ p ∈ X.pn ++ pins, p.1 ≠ b) : Inv X pins σ H' s' := by
  obtain ⟨h', g', d', t', o'⟩ := s'
  have e : o' = s.os := ho
  subst e
  exact I.call (g' := g') (t' := t') (d' := d') u hok hg hch
end

abbrev XK := Value → Option Addr → Hp → Prop
abbrev St := List (Option V)
abbrev VK := V → Hp → Prop
abbrev TE := St → Hp → VK → Prop
abbrev TT := St → Hp → (Bool → Hp → Prop) → Prop
abbrev TA := St → Hp → (List V → Hp → Prop) → Prop
set_option genInjectivity false in
structure Ends where
  nx : St → Hp → Prop
  rt : VK
  bk : St → Hp → Prop := fun _ _ => False
  ct : St → Hp → Prop := fun _ _ => False
abbrev TS := Ends → St → Hp → Prop

noncomputable def EP (X : Cx) (pins : List (Addr × Obj)) (σ : St) (Q : VK) (u : Value) (s' : Shared) : Prop := ∃ v H', Inv X pins σ H' s' ∧ RelV v u ∧ Q v H'
noncomputable def TP (X : Cx) (pins : List (Addr × Obj)) (σ : St) (Q : Bool → Hp → Prop) (b : Bool) (s' : Shared) : Prop := ∃ H', Inv X pins σ H' s' ∧ Q b H'
noncomputable def AP (X : Cx) (pins : List (Addr × Obj)) (σ : St) (Q : List V → Hp → Prop) (us : List Value) (s' : Shared) : Prop := ∃ vs H', Inv X pins σ H' s' ∧ Vals vs us ∧ Q vs H'
noncomputable def SP (X : Cx) (pins : List (Addr × Obj)) (D : Ends) (f : Flow) (s' : Shared) : Prop :=
  match f with
  | .next => ∃ σ' H', Inv X pins σ' H' s' ∧ D.nx σ' H'
  | .brk => ∃ σ' H', Inv X pins σ' H' s' ∧ D.bk σ' H'
  | .cont => ∃ σ' H', Inv X pins σ' H' s' ∧ D.ct σ' H'
  | .ret u => ∃ v σ' H', Inv X pins σ' H' s' ∧ RelV v u ∧ D.rt v H'

noncomputable def PE (X : Cx) (e : Expr) (t : TE) : Prop :=
  ∀ (pins : List (Addr × Obj)) (s : Shared) (σ : St) (H : Hp) (Q : VK), Inv X pins σ H s → t σ H Q → wpAny (model X.prog X.w) X.A (eval e X.env) (EP X pins σ Q) X.xe s
noncomputable def PT (X : Cx) (e : Expr) (t : TT) : Prop :=
  ∀ (pins : List (Addr × Obj)) (s : Shared) (σ : St) (H : Hp) (Q : Bool → Hp → Prop), Inv X pins σ H s → t σ H Q → wpAny (model X.prog X.w) X.A (isTrue e X.env (eval e X.env)) (TP X pins σ Q) X.xe s
noncomputable def PW (X : Cx) (e : Expr) (t : TT) : Prop :=
  ∀ (whole : Sem Value) (pins : List (Addr × Obj)) (s : Shared) (σ : St) (H : Hp) (Q : Bool → Hp → Prop), Inv X pins σ H s → t σ H Q → wpAny (model X.prog X.w) X.A (isTrue e X.env whole) (TP X pins σ Q) X.xe s
theorem PW.pt {X : Cx} {e : Expr} {t : TT} (h : PW X e t) : PT X e t := h _
noncomputable def PA (X : Cx) (es : List Expr) (t : TA) : Prop :=
  ∀ (pos : Pos) (pins : List (Addr × Obj)) (s : Shared) (σ : St) (H : Hp) (Q : List V → Hp → Prop), Inv X pins σ H s → t σ H Q → wpAny (model X.prog X.w) X.A (spliced (backTo pos (starEach es X.env))) (AP X pins σ Q) X.xe s
noncomputable def PS (X : Cx) (st : Stmt) (t : TS) : Prop :=
  ∀ (pins : List (Addr × Obj)) (s : Shared) (σ : St) (H : Hp) (D : Ends), Inv X pins σ H s → t D σ H → wpAny (model X.prog X.w) X.A (exec st X.env) (SP X pins D) X.xe s
noncomputable def PSs (X : Cx) (st : List Stmt) (t : TS) : Prop :=
  ∀ (pins : List (Addr × Obj)) (s : Shared) (σ : St) (H : Hp) (D : Ends), Inv X pins σ H s → t D σ H → wpAny (model X.prog X.w) X.A (execs st X.env) (SP X pins D) X.xe s
theorem thn {α : Type} {t : Sem α} {Q Q' : α → Shared → Prop} {M : Model} {A : Around} {E : Value → Shared → Prop} {s : Shared} (h : wpAny M A t Q E s) (hQ : ∀ a s, Q a s → Q' a s) : wpAny M A t Q' E s := wpAny_mono h hQ fun _ _ x => x
end L2

namespace L2
open PySem PySem.Spec PyProof.Rows
section
variable {X : Cx}

noncomputable def tVar (i : Nat) : TE := fun σ H Q => ∃ v, σ[i]? = some (some v) ∧ Q v H
noncomputable def tC (v : V) : TE := fun _ H Q => Q v H
theorem pe_var {i : Nat} {x : Str} {pos : Pos} (hN : X.N[i]? = some x) (hv : Vis X.env.scope x) (hd : (x == ("__debug__" : Str)) = false := by decide) (hcd : (x == ("__classdict__" : Str)) = false := by decide) : PE X (.Name x pos) (tVar i) := by
  intro pins s σ H Q I h
  obtain ⟨v, e, h⟩ := h
  obtain ⟨m, hn, hl⟩ := I.loc
  obtain ⟨u, r, l⟩ := hl i x v hN e hv
  have fin : EP X pins σ Q u s := ⟨v, H, I, r, h⟩
  rcases l with ⟨hk, hm⟩ | ⟨hk, c, hc, hcell⟩
  · exact wpAny_Name (wpAny_loadName_local I.ok.kind hk hn hm fin) hd
  · rcases hk with hk | hk
    · exact wpAny_Name (wpAny_loadName_cell I.ok.kind hk hc hcell fin) hd
    · exact wpAny_Name (wpAny_loadName_free I.ok.kind hk hc hcell fin hcd) hd
theorem pe_int {i j pos} : PE X (.Constant (.int i) j pos) (tC (.int i)) := fun _ _ _ H _ I h => wpAny_Constant_int ⟨.int i, H, I.tok _, ⟨_, rfl⟩, h⟩
theorem pe_bl {b j pos} : PE X (.Constant (.bool b) j pos) (tC (.bl b)) := fun _ _ _ H _ I h => Constant_bool ⟨.bl b, H, I, rfl, h⟩
theorem pe_str {x j pos} : PE X (.Constant (.str x) j pos) (tC (.str x)) := fun _ _ _ H _ I h => Calls.Constant_str ⟨.str x, H, I.tok _, ⟨_, rfl⟩, h⟩

noncomputable def Gl (X : Cx) (x : Str) : Prop := X.env.kindOf x = some .globalImplicit
theorem ld_glob {E : Value → Shared → Prop} {pins : List (Addr × Obj)} {s : Shared} {σ : St} {H : Hp} {x : Str} {u : Value} {pos : Pos} {Q : Value → Shared → Prop} (I : Inv X pins σ H s) (hg : Gl X x) (hm : X.mg x = some u) (h : Q u s)
    (hd : (x == ("__debug__" : Str)) = false := by decide) : wpAny (model X.prog X.w) X.A (eval (.Name x pos) X.env) Q E s :=
  Calls.Name_function_global I.ok.kind hg (Calls.loadGlobal_global (by rw [I.ok.glob]; exact I.mod.glob.keeps I.bk) hm h) hd
theorem ld_blt {E : Value → Shared → Prop} {pins : List (Addr × Obj)} {s : Shared} {σ : St} {H : Hp} {x : Str} {u : Value} {pos : Pos} {Q : Value → Shared → Prop} (I : Inv X pins σ H s) (hg : Gl X x) (hm : X.mg x = none) (hv : bootBuiltins x = some u) (h : Q u s)
    (hn : x ≠ "__name__" := by decide) (hd : (x == ("__debug__" : Str)) = false := by decide) : wpAny (model X.prog X.w) X.A (eval (.Name x pos) X.env) Q E s := by
  obtain ⟨mb, h1, h2⟩ := I.mod.blt
  exact Calls.Name_function_global I.ok.kind hg (Calls.loadGlobal_builtin (by rw [I.ok.glob]; exact I.mod.glob.keeps I.bk) hm (by rw [I.ok.blt]; exact h1.keeps I.bk) ((h2 x hn).trans hv) h) hd
theorem pe_glob {x : Str} {v : V} {u : Value} {pos : Pos} (hg : Gl X x) (hm : X.mg x = some u) (r : RelV v u) (hd : (x == ("__debug__" : Str)) = false := by decide) : PE X (.Name x pos) (tC v) :=
  fun _ _ _ H _ I h => ld_glob I hg hm ⟨v, H, I, r, h⟩ hd
theorem pe_bltn {x : Str} {v : V} {u : Value} {pos : Pos} (hg : Gl X x) (hm : X.mg x = none) (hv : bootBuiltins x = some u) (r : RelV v u) (hn : x ≠ "__name__" := by decide) (hd : (x == ("__debug__" : Str)) = false := by decide) : PE X (.Name x pos) (tC v) :=
  fun _ _ _ H _ I h => ld_blt I hg hm hv ⟨v, H, I, r, h⟩ hn hd

variable {a b : Expr} {ta tb : TE} {pos : Pos}
noncomputable def tB (t : TE) : TT := fun σ H Q => t σ H fun x H1 => ∃ c, x = .bl c ∧ Q c H1
variable {tA tB' : TT} {rest : List Expr}
noncomputable def tAnd (t u : TT) : TT := fun σ H Q => t σ H fun c H1 => if c = true then u σ H1 Q else Q false H1
noncomputable def tOr (t u : TT) : TT := fun σ H Q => t σ H fun c H1 => if c = true then Q true H1 else u σ H1 Q
noncomputable def tNot (t : TT) : TT := fun σ H Q => t σ H fun c H1 => Q (!c) H1
theorem pw_and1 (ha : PT X a tA) : PW X (.BoolOp .And [a] pos) tA := by
  intro wh pins s σ H Q I h
  refine isTrue_and (thn (ha pins s σ H Q I h) fun c s1 e => ?_)
  cases c with
  | true => exact isTrue_and_nil e
  | false => exact e
theorem pw_or1 (ha : PT X a tA) : PW X (.BoolOp .Or [a] pos) tA := by
  intro wh pins s σ H Q I h
  refine isTrue_or (thn (ha pins s σ H Q I h) fun c s1 e => ?_)
  cases c with
  | false => exact isTrue_or_nil e
  | true => exact e
theorem pw_and (ha : PT X a tA) (hb : PW X (.BoolOp .And (b :: rest) pos) tB') : PW X (.BoolOp .And (a :: b :: rest) pos) (tAnd tA tB') := by
  intro wh pins s σ H Q I h
  refine isTrue_and (thn (ha pins s σ H _ I h) fun c s1 zz => ?_)
  obtain ⟨H1, I1, q1⟩ := zz
  cases c with
  | true => exact hb wh pins s1 σ H1 Q I1 q1
  | false => exact ⟨H1, I1, q1⟩
theorem pw_or (ha : PT X a tA) (hb : PW X (.BoolOp .Or (b :: rest) pos) tB') : PW X (.BoolOp .Or (a :: b :: rest) pos) (tOr tA tB') := by
  intro wh pins s σ H Q I h
  refine isTrue_or (thn (ha pins s σ H _ I h) fun c s1 zz => ?_)
  obtain ⟨H1, I1, q1⟩ := zz
  cases c with
  | true => exact ⟨H1, I1, q1⟩
  | false => exact hb wh pins s1 σ H1 Q I1 q1
theorem pt_not (ha : PT X a tA) : PT X (.UnaryOp .Not a pos) (tNot tA) := by
  intro pins s σ H Q I h
  exact isTrue_not (ha pins s σ H (fun c H1 => Q (!c) H1) I h)
noncomputable def tOrV (ta tb : TE) : TE := fun σ H Q => ta σ H fun x H1 => ∃ c, x = .bl c ∧ if c = true then Q (.bl true) H1 else tb σ H1 Q
theorem pe_one {op} {t : TE} (h : PE X a t) : PE X (.BoolOp op [a] pos) t := fun pins s σ H Q I hw => BoolOp_one (h pins s σ H Q I hw)
theorem pe_or (ha : PE X a ta) (hb : PE X (.BoolOp .Or (b :: rest) pos) tb) : PE X (.BoolOp .Or (a :: b :: rest) pos) (tOrV ta tb) := by
  intro pins s σ H Q I h
  refine BoolOp_or (thn (ha pins s σ H _ I h) fun v s1 zz => ?_)
  obtain ⟨x, H1, I1, r1, q1⟩ := zz
  obtain ⟨c, rfl, q1⟩ := q1
  cases r1
  refine wpAny_truthy_bool ?_
  cases c with
  | false => exact hb pins s1 σ H1 Q I1 q1
  | true => exact ⟨.bl true, H1, I1, rfl, q1⟩
end
end L2

namespace L2
open PySem PySem.Spec PyProof.Rows

noncomputable def SqL (K : PySem.W.Frag) (H : Hp) (a : Addr) (xs : List V) : Prop :=
  Rd H a (.lst xs) ∨
    ∃ (o : Obj) (its : Array Value) (n : Nat), K.lookup a = some o ∧ o.cls = .type "list" ∧ o.dict = none ∧ o.data = .seq its n ∧ its.size ≤ sizeLine ∧ Vals xs its.toList
noncomputable def SqT (K : PySem.W.Frag) (H : Hp) (a : Addr) (xs : List V) : Prop :=
  Rd H a (.tup xs) ∨
    ∃ (o : Obj) (its : Array Value) (n : Nat), K.lookup a = some o ∧ o.cls = .type "tuple" ∧ o.data = .seq its n ∧ its.size ≤ sizeLine ∧ Vals xs its.toList
noncomputable def absV : Value → Option V
  | .none => some .non
  | .bool b => some (.bl b)
  | .int i _ => some (.int i)
  | .str x _ => some (.str x)
  | .bytes b _ => some (.byt b)
  | .float b _ => some (.flt b)
  | .ref a => some (.ref a)
  | .type n => some (.ty n)
  | _ => none
theorem RelV.abs {x : V} {u : Value} (r : RelV x u) : absV u = some x := by
  cases x with
  | non => cases r; rfl
  | bl _ => cases r; rfl
  | int _ => obtain ⟨t, rfl⟩ := r; rfl
  | str _ => obtain ⟨t, rfl⟩ := r; rfl
  | byt _ => obtain ⟨t, rfl⟩ := r; rfl
  | flt _ => obtain ⟨t, rfl⟩ := r; rfl
  | ref _ => cases r; rfl
  | ty _ => cases r; rfl
theorem RelV.inj {x y : V} {u : Value} (r : RelV x u) (q : RelV y u) : x = y := Option.some.inj (r.abs.symm.trans q.abs)
theorem Vals.inj : ∀ {xs ys : List V} {us : List Value}, Vals xs us → Vals ys us → xs = ys
  | _, _, _, .nil, .nil => rfl
  | _, _, _, .cons r t, .cons r' t' => by rw [r.inj r', Vals.inj t t']
section
variable {X : Cx} {pins : List (Addr × Obj)} {σ : St} {H : Hp} {s : Shared} {a : Addr} {xs ys : List V}
theorem SqL.of {K : PySem.W.Frag} (h : H a = some (.lst xs)) : SqL K H a xs := .inl (.inl h)
theorem SqT.of {K : PySem.W.Frag} (h : H a = some (.tup xs)) : SqT K H a xs := .inl (.inl h)
theorem Inv.list (I : Inv X pins σ H s) (h : SqL X.K H a xs) : ∃ its : List Value, Vals xs its ∧ PlainL s.heap a its.toArray ∧ xs.length ≤ sizeLine := by
  rcases h with h | ⟨o, its, n, hk, hc, hd, hs, hz, r⟩
  · obtain ⟨z, its, n, r, e⟩ := h.ok I.hok
    exact ⟨its, r, ⟨_, n, e, rfl, rfl, rfl⟩, z⟩
  · refine ⟨its.toList, r, ⟨o, n, I.kIn a o hk, hc, hd, by simpa using hs⟩, ?_⟩
    have e := r.length
    simp only [Array.length_toList] at e
    omega
theorem Inv.tuple (I : Inv X pins σ H s) (h : SqT X.K H a xs) : ∃ its : List Value, Vals xs its ∧ IsTup s.heap a its.toArray ∧ xs.length ≤ sizeLine := by
  rcases h with h | ⟨o, its, n, hk, hc, hs, hz, r⟩
  · obtain ⟨z, its, r, p⟩ := h.ok I.hok
    exact ⟨its, r, p, z⟩
  · refine ⟨its.toList, r, ⟨o, I.kIn a o hk, hc, n, by simpa using hs⟩, ?_⟩
    have e := r.length
    simp only [Array.length_toList] at e
    omega
theorem Inv.list_inj (I : Inv X pins σ H s) (h : SqL X.K H a xs) (h' : SqL X.K H a ys) : xs = ys := by
  obtain ⟨its, r, ⟨o, n, e, _, _, d⟩, _⟩ := I.list h
  obtain ⟨its', r', ⟨o', n', e', _, _, d'⟩, _⟩ := I.list h'
  rw [e] at e'; cases e'
  rw [d] at d'
  injection d' with d1 _
  have : its = its' := by simpa using congrArg Array.toList d1
  subst this
  exact r.inj r'
theorem Inv.tuple_inj (I : Inv X pins σ H s) (h : SqT X.K H a xs) (h' : SqT X.K H a ys) : xs = ys := by
  obtain ⟨its, r, ⟨o, e, _, n, d⟩, _⟩ := I.tuple h
  obtain ⟨its', r', ⟨o', e', _, n', d'⟩, _⟩ := I.tuple h'
  rw [e] at e'; cases e'
  rw [d] at d'
  injection d' with d1 _
  have : its = its' := by simpa using congrArg Array.toList d1
  subst this
  exact r.inj r'
end

abbrev Cx.wish (X : Cx) (E : Value → Shared → Prop) : Cx := { X with xe := E }
abbrev Cx.nox (X : Cx) : Cx := X.wish fun _ _ => False
theorem Cx.Ok.wish {X : Cx} (ok : X.Ok) (E : Value → Shared → Prop) : (X.wish E).Ok :=
  ⟨ok.mod, ok.kind, ok.glob, ok.blt, ok.above, ok.inj, ok.has, ok.cab, ok.hd, ok.frames, ok.stk, ok.exf, ok.bs, ok.bsz, ok.noex, ok.exfs, ok.funs, ok.frf⟩
theorem Cx.Ok.unwish {X : Cx} {E : Value → Shared → Prop} (ok : (X.wish E).Ok) : X.Ok :=
  ⟨ok.mod, ok.kind, ok.glob, ok.blt, ok.above, ok.inj, ok.has, ok.cab, ok.hd, ok.frames, ok.stk, ok.exf, ok.bs, ok.bsz, ok.noex, ok.exfs, ok.funs, ok.frf⟩
section
variable {X : Cx} {pins : List (Addr × Obj)} {σ : St} {H : Hp} {s : Shared} {E : Value → Shared → Prop}
theorem Inv.wish (I : Inv X pins σ H s) (E : Value → Shared → Prop) : Inv (X.wish E) pins σ H s := ⟨I.ok.wish E, I.os, I.bare, I.base, I.loc, I.cell, I.free, I.freeC, I.pin, I.hok, I.len⟩
theorem Inv.unwish (I : Inv (X.wish E) pins σ H s) : Inv X pins σ H s := ⟨I.ok.unwish, I.os, I.bare, I.base, I.loc, I.cell, I.free, I.freeC, I.pin, I.hok, I.len⟩
theorem SP.unwish {D : Ends} {f : Flow} {s' : Shared} (h : SP (X.wish E) pins D f s') : SP X pins D f s' := by
  cases f with
  | next => obtain ⟨σ', H', I, q⟩ := h; exact ⟨σ', H', I.unwish, q⟩
  | brk => obtain ⟨σ', H', I, q⟩ := h; exact ⟨σ', H', I.unwish, q⟩
  | cont => obtain ⟨σ', H', I, q⟩ := h; exact ⟨σ', H', I.unwish, q⟩
  | ret u => obtain ⟨v, σ', H', I, r, q⟩ := h; exact ⟨v, σ', H', I.unwish, r, q⟩
theorem PSs.nox {st : List Stmt} {t : TS} (h : PSs X.nox st t) : PSs X st t := fun pins s σ H D I hw =>
  wpAny_mono (h pins s σ H D (I.wish _) hw) (fun _ _ q => q.unwish) fun _ _ z => False.elim z
end

section
variable {X : Cx} {st : Stmt} {rest : List Stmt} {t u : TS} {e : Expr} {te : TE} {pos : Pos}
noncomputable def tNext : TS := fun D σ H => D.nx σ H
noncomputable def tSeq (t u : TS) : TS := fun D σ H => t { D with nx := u D } σ H
theorem pss_nil : PSs X [] tNext := fun _ _ σ H _ I h => wpAny_execs_nil ⟨σ, H, I, h⟩
theorem pss_cons (h1 : PS X st t) (h2 : PSs X rest u) : PSs X (st :: rest) (tSeq t u) := by
  intro pins s σ H D I h
  refine wpAny_execs_cons (thn (h1 pins s σ H { D with nx := u D } I h) fun f s1 q => ?_)
  cases f with
  | next =>
    obtain ⟨σ', H', I', q⟩ := q
    exact h2 pins s1 σ' H' D I' q
  | ret v => exact q
  | brk => exact q
  | cont => exact q
theorem pss_one (h1 : PS X st t) : PSs X [st] t := by
  intro pins s σ H D I h
  refine wpAny_execs_cons (thn (h1 pins s σ H D I h) fun f s1 q => ?_)
  cases f with
  | next => exact wpAny_execs_nil q
  | ret v => exact q
  | brk => exact q
  | cont => exact q
theorem Inv.quiet {pins : List (Addr × Obj)} {σ : St} {H : Hp} {s : Shared} (I : Inv X pins σ H s) : interactive X.env = false := by simp [interactive, I.ok.kind]
noncomputable def tDrop (te : TE) : TS := fun D σ H => te σ H fun _ H1 => D.nx σ H1
theorem ps_expr (he : PE X e te) (hs : swapsWith e none pos.line X.env = pure false := by rfl) : PS X (.Expr e pos) (tDrop te) := by
  intro pins s σ H D I h
  exact wpAny_Expr_any (thn (he pins s σ H _ I h) fun v s1 ⟨x, H1, I1, r1, q1⟩ => ⟨σ, H1, I1, q1⟩) I.quiet hs
noncomputable def tRet (te : TE) : TS := fun D σ H => te σ H D.rt
theorem ps_ret (he : PE X e te) : PS X (.Return (some e) pos) (tRet te) := by
  intro pins s σ H D I h
  exact wpAny_Return_some (thn (he pins s σ H _ I h) fun v s1 ⟨x, H1, I1, r1, q1⟩ => ⟨x, σ, H1, I1, r1, q1⟩)
noncomputable def tIfS (c : TT) (t u : TS) : TS := fun D σ H => c σ H fun b H1 => if b = true then t D σ H1 else u D σ H1
theorem ps_if {c : Expr} {a b : List Stmt} {tc : TT} (hc : PT X c tc) (ha : PSs X a t) (hb : PSs X b u) : PS X (.If c a b pos) (tIfS tc t u) := by
  intro pins s σ H D I h
  refine wpAny_If (thn (hc pins s σ H _ I h) fun d s1 zz => ?_)
  obtain ⟨H1, I1, q1⟩ := zz
  cases d with
  | true => exact ha pins s1 σ H1 D I1 q1
  | false => exact hb pins s1 σ H1 D I1 q1
noncomputable def tNever : TS := fun _ _ _ => False
theorem ps_never : PS X st tNever := fun _ _ _ _ _ _ h => h.elim
theorem pss_never {sts : List Stmt} : PSs X sts tNever := fun _ _ _ _ _ _ h => h.elim
end

abbrev TG := V → St → Hp → (St → Hp → Prop) → Prop
abbrev TGs := List V → St → Hp → (St → Hp → Prop) → Prop
noncomputable def PG (X : Cx) (target : Expr) (t : TG) : Prop :=
  ∀ (pins : List (Addr × Obj)) (s : Shared) (σ : St) (H : Hp) (v : V) (u : Value) (Q : St → Hp → Prop), Inv X pins σ H s → RelV v u → t v σ H Q →
    wpAny (model X.prog X.w) X.A (assign target X.env u) (fun _ s' => ∃ σ' H', Inv X pins σ' H' s' ∧ Q σ' H') X.xe s
noncomputable def PGs (X : Cx) (ts : List Expr) (t : TGs) : Prop :=
  ∀ (pins : List (Addr × Obj)) (s : Shared) (σ : St) (H : Hp) (vs : List V) (us : List Value) (Q : St → Hp → Prop), Inv X pins σ H s → Vals vs us → t vs σ H Q →
    wpAny (model X.prog X.w) X.A (assignInOrder ((assignEach ts X.env).map (·.2)) us) (fun _ s' => ∃ σ' H', Inv X pins σ' H' s' ∧ Q σ' H') X.xe s
section
variable {X : Cx} {pos : Pos}
noncomputable def gName (i : Nat) : TG := fun v σ H Q => Q (σ.set i (some v)) H
theorem pg_name {i : Nat} {x : Str} (hN : X.N.Nodup) (hi : X.N[i]? = some x) (hx : Loc X.env.scope x) (hf : X.fn x = true ∨ X.env.scope.names.lookup x = some .local := by first | exact .inl rfl | exact .inr rfl | assumption) : PG X (.Name x pos) (gName i) := by
  intro pins s σ H v u Q I r h
  exact wpAny_assign_Name (store_ok I hN hi hx r (fun s' I' => ⟨_, H, I', h⟩) hf)
noncomputable def gNil : TGs := fun vs σ H Q => vs = [] ∧ Q σ H
noncomputable def gCons (t : TG) (u : TGs) : TGs := fun vs σ H Q => ∃ v r, vs = v :: r ∧ t v σ H fun σ' H' => u r σ' H' Q
theorem pgs_nil : PGs X [] gNil := by
  intro pins s σ H vs us Q I r h
  obtain ⟨e, h⟩ := h
  subst e
  cases r
  exact assignInOrder_nil ⟨σ, H, I, h⟩
theorem pgs_cons {e : Expr} {es : List Expr} {t : TG} {u : TGs} (h1 : PG X e t) (h2 : PGs X es u)
    (hs : (assignEach (e :: es) X.env).map (·.2) = assign e X.env :: (assignEach es X.env).map (·.2) := by rfl) : PGs X (e :: es) (gCons t u) := by
  intro pins s σ H vs us Q I r h
  obtain ⟨v, vr, e1, h⟩ := h
  subst e1
  cases r with
  | cons r rr =>
    rw [hs]
    refine assignInOrder_cons (thn (h1 pins s σ H _ _ _ I r h) fun _ s1 zz => ?_)
    obtain ⟨σ1, H1, I1, q1⟩ := zz
    exact h2 pins s1 σ1 H1 _ _ Q I1 rr q1
noncomputable def gTup (K : PySem.W.Frag) (n : Nat) (t : TGs) : TG := fun v σ H Q => ∃ a xs, v = .ref a ∧ SqT K H a xs ∧ xs.length = n ∧ t xs σ H Q
theorem pg_tup {es : List Expr} {k : Nat} {t : TGs} {n : Nat} (hc : X.calm = true) (h : PGs X es t)
    (hn : (assignEach es X.env).length = n := by rfl) (hst : (assignEach es X.env).findIdx? (·.1) = none := by rfl) : PG X (.Tuple es k pos) (gTup X.K n t) := by
  intro pins s σ H v u Q I r hw
  obtain ⟨a, xs, e1, hq, hl, hw⟩ := hw
  subst e1
  cases r
  obtain ⟨its, rv, ht, hz⟩ := I.tuple hq
  refine assign_Tuple_tuple (I.ok.hd hc) ht (by simp [hn, ← hl, rv.length]) hst fun h' hx => ?_
  have I1 : Inv X pins σ H { s with heap := h' } := I.kept (t' := s.toks) fun b o e => hx b o (Nat.ne_of_lt (Heap.lt_size e)) e
  exact h pins _ σ H xs _ Q I1 (by simpa using rv) hw
noncomputable def tAsg (te : TE) (g : TG) : TS := fun D σ H => te σ H fun x H1 => g x σ H1 D.nx
theorem ps_set {i : Nat} {x : Str} {e : Expr} {te : TE} {pos' : Pos} (hN : X.N.Nodup) (hi : X.N[i]? = some x) (hx : Loc X.env.scope x) (he : PE X e te) (hs : swapsWith e (some (.Name x pos')) pos.line X.env = pure false := by rfl) (hf : X.fn x = true ∨ X.env.scope.names.lookup x = some .local := by first | exact .inl rfl | exact .inr rfl | assumption) :
    PS X (.Assign [.Name x pos'] e pos) (tAsg te (gName i)) := by
  intro pins s σ H D I h
  refine wpAny_Assign_Name (thn (he pins s σ H _ I h) fun v s1 zz => ?_) hs
  obtain ⟨y, H1, I1, r1, q1⟩ := zz
  exact store_ok I1 hN hi hx r1 (fun s2 I2 => ⟨_, H1, I2, q1⟩) hf
end

section
variable {X : Cx} {pos : Pos}
end

set_option genInjectivity false in
structure It where
  go : Nat → Hp → Prop
  yld : Nat → Hp → V → Hp → Prop
  stop : Nat → Hp → Prop
noncomputable def FpOk (X : Cx) (pins : List (Addr × Obj)) (H : Hp) (b : Addr) : Prop :=
  H b = none ∧ b ≠ X.env.locals ∧ b ∉ X.fs ∧ (b ∈ X.ex ∨ X.s₀.heap.objs.size ≤ b) ∧ (∀ x c, X.env.cells.lookup x = some c → c ≠ b) ∧ ∀ p ∈ X.pn ++ pins, p.1 ≠ b
theorem Inv.fpOk {X : Cx} {pins : List (Addr × Obj)} {σ : St} {H H' : Hp} {s : Shared} {b : Addr} (I : Inv X pins σ H s) (hb : s.heap.objs.size ≤ b) (hn : H' b = none) : FpOk X pins H' b := by
  refine ⟨hn, Nat.ne_of_gt (Nat.lt_of_lt_of_le I.lt hb), I.nofs hb, .inr (Nat.le_trans I.sz hb), fun x c e z => ?_, fun p hp z => ?_⟩
  · obtain ⟨v, q⟩ := I.cell x c e
    exact absurd (Nat.lt_of_lt_of_le q.lt (by rw [z]; exact hb)) (Nat.lt_irrefl _)
  · exact absurd (Nat.lt_of_lt_of_le (Heap.lt_size (I.pin p hp).1) (by rw [z]; exact hb)) (Nat.lt_irrefl _)
structure Turn (P : Program) (w : World) (K : PySem.W.Frag) (tg : Expr) (J : It) (fp : List Addr) (it : Addr) (tn : Nat → Heap → Prop) : Prop where
  mem : it ∈ fp
  obj : ∀ i h, tn i h → ∀ b ∈ fp, ∃ o, h.get? b = some o ∧ ∀ v, o.data ≠ .cell v
  keep : ∀ i h h', tn i h → (∀ b ∈ fp, ∀ o, h.get? b = some o → h'.get? b = some o) → tn i h'
  item : ∀ (X : Cx), X.prog = P → X.w = w → X.K = K → X.calm = true → ∀ (i : Nat) (pins : List (Addr × Obj)) (s : Shared) (σ : St) (H : Hp) (E : Value → Shared → Prop), Inv X pins σ H s → (∀ b ∈ fp, FpOk X pins H b) → tn i s.heap → J.go i H →
    wpAny (model P w) X.A (pyNext (.ref it)) (fun r s1 => ∃ u, r = some u ∧
      wpAny (model P w) X.A (letOwnedTupleGo tg (.ref it) u) (fun _ s2 => ∃ x H', Inv X pins σ H' s2 ∧ RelV x u ∧ J.yld i H x H' ∧ tn (i + 1) s2.heap ∧ ∀ b ∈ fp, H' b = none) E s1) E s
  done : ∀ (X : Cx), X.prog = P → X.w = w → X.K = K → X.calm = true → ∀ (i : Nat) (pins : List (Addr × Obj)) (s : Shared) (σ : St) (H : Hp) (E : Value → Shared → Prop), Inv X pins σ H s → (∀ b ∈ fp, FpOk X pins H b) → tn i s.heap → J.stop i H →
    wpAny (model P w) X.A (pyNext (.ref it)) (fun r s1 => r = none ∧ Inv X pins σ H s1) E s
  self : ∀ (A : Around) (i : Nat) (s : Shared) (Q : Value → Shared → Prop) (E : Value → Shared → Prop), tn i s.heap → Q (.ref it) s → wpAny (model P w) A (pyIter (.ref it)) Q E s
abbrev TI := St → Hp → (It → Hp → Prop) → Prop
noncomputable def PIE (X : Cx) (pins : List (Addr × Obj)) (σ : St) (tg : Expr) (R : It → Hp → Prop) (itv : Value) (s2 : Shared) : Prop :=
  ∃ (it : Addr) (fp : List Addr) (tn : Nat → Heap → Prop) (J : It) (H' : Hp), itv = .ref it ∧ Inv X pins σ H' s2 ∧ Turn X.prog X.w X.K tg J fp it tn ∧ tn 0 s2.heap ∧ (∀ b ∈ fp, FpOk X pins H' b) ∧ R J H'
noncomputable def PI (X : Cx) (tg iter : Expr) (wi : TI) : Prop :=
  ∀ (pins : List (Addr × Obj)) (s : Shared) (σ : St) (H : Hp) (R : It → Hp → Prop), Inv X pins σ H s → wi σ H R →
    wpAny (model X.prog X.w) X.A (eval iter X.env) (fun v s1 => wpAny (model X.prog X.w) X.A (pyIter v) (PIE X pins σ tg R) X.xe s1) X.xe s

theorem go_of {M : Model} {A : Around} {E : Value → Shared → Prop} {s : Shared} {tg : Expr} {it : Addr} {u : Value} {o : Obj} {n : String} {vs : Array Value} {Q : Unit → Shared → Prop} (ho : s.heap.get? it = some o) (hc : o.cls = .type n) (hd : o.data = .fields vs)
    (hn : ["enumerate", "zip", "dict_itemiterator", "dict_reverseitemiterator", "odict_iterator", "itertools.zip_longest", "itertools.pairwise"].contains n = false) (hQ : Q () s) : wpAny M A (letOwnedTupleGo tg (.ref it) u) Q E s := by
  unfold letOwnedTupleGo
  cases tg <;> first
    | exact wpAny_pure hQ
    | (cases u <;> first
        | exact wpAny_pure hQ
        | (refine wpAny_bind (wpAny_load ho ?_)
           rw [hc, hd]
           show wpAny M A (if (["enumerate", "zip", "dict_itemiterator", "dict_reverseitemiterator", "odict_iterator", "itertools.zip_longest", "itertools.pairwise"].contains n && vs[0]? == some (rawInt _)) = true then _ else _) Q E s
           rw [if_neg (by intro h; rw [hn, Bool.false_and] at h; cases h)]
           exact wpAny_pure hQ))

noncomputable def Itl (K : PySem.W.Frag) (a : Addr) : It :=
  ⟨fun i H => ∃ xs x, SqL K H a xs ∧ xs[i]? = some x, fun i H x H' => H' = H ∧ ∀ xs, SqL K H a xs → xs[i]? = some x, fun i H => ∃ xs, SqL K H a xs ∧ xs.length ≤ i⟩
noncomputable def Itt (K : PySem.W.Frag) (a : Addr) : It :=
  ⟨fun i H => ∃ xs x, SqT K H a xs ∧ xs[i]? = some x, fun i H x H' => H' = H ∧ ∀ xs, SqT K H a xs → xs[i]? = some x, fun i H => ∃ xs, SqT K H a xs ∧ xs.length ≤ i⟩
theorem turn_list {P : Program} {w : World} {K : PySem.W.Frag} {tg : Expr} (a it : Addr) : Turn P w K tg (Itl K a) [it] it (fun i h => h.IsListIter it a i) where
  mem := by simp
  obj := fun i h st b hb => by
    have e : b = it := by simpa using hb
    subst e
    obtain ⟨o, e, c, d⟩ := st
    exact ⟨o, e, fun v z => by rw [d] at z; cases z⟩
  keep := fun i h h' st k => st.at fun o e => k it (by simp) o e
  item := by
    intro X hP hw hK hc i pins s σ H E I hf st hg
    subst hP hw hK
    obtain ⟨xs, x, hq, hx⟩ := hg
    obtain ⟨its, rv, p, hz⟩ := I.list hq
    obtain ⟨u, hu, ru⟩ := rv.get hx
    obtain ⟨f0, f1, f2, f3, f4, f5⟩ := hf it (by simp)
    refine wpAny_pyNext_list_item st p.isList (x := u) (by simpa using hu) fun h' st' sb => ?_
    have I1 : Inv X pins σ H { s with heap := h' } := I.turned (t' := s.toks) (fun b o hb e => (sb.2 b hb).trans e) f0 f1 f3 f4 f5
    obtain ⟨o, e, c, d⟩ := id st'
    exact ⟨u, rfl, go_of (s := { s with heap := h' }) e c d (by decide) ⟨x, H, I1, ru, ⟨rfl, fun ys hy => by rw [I.list_inj hy hq]; exact hx⟩, st', fun b hb => (hf b hb).1⟩⟩
  done := by
    intro X hP hw hK hc i pins s σ H E I hf st hg
    subst hP hw hK
    obtain ⟨xs, hq, hx⟩ := hg
    obtain ⟨its, rv, p, hz⟩ := I.list hq
    obtain ⟨f0, f1, f2, f3, f4, f5⟩ := hf it (by simp)
    have hl := rv.length
    exact wpAny_pyNext_list_end (I.ok.hd hc) st p.isList (by simp; omega) fun h' eb => ⟨rfl, I.turned (t' := s.toks) (fun b o hb e => eb b o hb e) f0 f1 f3 f4 f5⟩
  self := fun _ _ _ _ _ st h => wpAny_pyIter_listiter st h
theorem turn_tuple {P : Program} {w : World} {K : PySem.W.Frag} {tg : Expr} (a it : Addr) : Turn P w K tg (Itt K a) [it] it (fun i h => h.IsTupleIter it a i) where
  mem := by simp
  obj := fun i h st b hb => by
    have e : b = it := by simpa using hb
    subst e
    obtain ⟨o, e, c, d⟩ := st
    exact ⟨o, e, fun v z => by rw [d] at z; cases z⟩
  keep := fun i h h' st k => st.at fun o e => k it (by simp) o e
  item := by
    intro X hP hw hK hc i pins s σ H E I hf st hg
    subst hP hw hK
    obtain ⟨xs, x, hq, hx⟩ := hg
    obtain ⟨its, rv, p, hz⟩ := I.tuple hq
    obtain ⟨u, hu, ru⟩ := rv.get hx
    obtain ⟨f0, f1, f2, f3, f4, f5⟩ := hf it (by simp)
    refine wpAny_pyNext_tuple_item st (show s.heap.IsTuple a its.toArray from p) (x := u) (by simpa using hu) fun h' st' sb => ?_
    have I1 : Inv X pins σ H { s with heap := h' } := I.turned (t' := s.toks) (fun b o hb e => (sb.2 b hb).trans e) f0 f1 f3 f4 f5
    obtain ⟨o, e, c, d⟩ := id st'
    exact ⟨u, rfl, go_of (s := { s with heap := h' }) e c d (by decide) ⟨x, H, I1, ru, ⟨rfl, fun ys hy => by rw [I.tuple_inj hy hq]; exact hx⟩, st', fun b hb => (hf b hb).1⟩⟩
  done := by
    intro X hP hw hK hc i pins s σ H E I hf st hg
    subst hP hw hK
    obtain ⟨xs, hq, hx⟩ := hg
    obtain ⟨its, rv, p, hz⟩ := I.tuple hq
    obtain ⟨f0, f1, f2, f3, f4, f5⟩ := hf it (by simp)
    have hl := rv.length
    exact wpAny_pyNext_tuple_end (I.ok.hd hc) st (show s.heap.IsTuple a its.toArray from p) (by simp; omega) fun h' eb => ⟨rfl, I.turned (t' := s.toks) (fun b o hb e => eb b o hb e) f0 f1 f3 f4 f5⟩
  self := fun _ _ _ _ _ st h => wpAny_pyIter_tupleiter st h
end L2

namespace L2
open PySem PySem.Spec PyProof.Rows
section
variable {X : Cx} {tg : Expr}
noncomputable def tFor (wi : TI) (g : TG) (tb : TS) : TS := fun D σ H => wi σ H fun J H1 => ∃ W : Nat → Nat → St → Hp → Prop, (∃ m, W 0 m σ H1) ∧ ∀ i m σ H, W i m σ H →
  (J.stop i H ∧ D.nx σ H) ∨ (J.go i H ∧ ∃ N : St → Hp → Prop, (∀ σ' H', N σ' H' → ∃ m', m' < m ∧ W (i + 1) m' σ' H') ∧ ∀ x H', J.yld i H x H' → g x σ H' fun σ2 H2 => tb { D with nx := N, ct := N, bk := D.nx } σ2 H2)
noncomputable def pinsAt (fp : List Addr) (h : Heap) : List (Addr × Obj) := fp.filterMap fun b => (h.get? b).map fun o => (b, o)
theorem mem_pinsAt {fp : List Addr} {h : Heap} {b : Addr} {o : Obj} (hb : b ∈ fp) (e : h.get? b = some o) : (b, o) ∈ pinsAt fp h := List.mem_filterMap.mpr ⟨b, hb, by rw [e]; rfl⟩
theorem of_pinsAt {fp : List Addr} {h : Heap} {p : Addr × Obj} (hp : p ∈ pinsAt fp h) : p.1 ∈ fp ∧ h.get? p.1 = some p.2 := by
  obtain ⟨b, hb, e⟩ := List.mem_filterMap.mp hp
  cases q : h.get? b with
  | none => rw [q] at e; cases e
  | some o =>
    rw [q] at e
    have e' : (b, o) = p := Option.some.inj e
    subst e'
    exact ⟨hb, q⟩
theorem Inv.pinned {pins : List (Addr × Obj)} {σ : St} {H : Hp} {s : Shared} {fp : List Addr} (I : Inv X pins σ H s) (hf : ∀ b ∈ fp, FpOk X pins H b) (ho : ∀ b ∈ fp, ∃ o, s.heap.get? b = some o ∧ ∀ v, o.data ≠ .cell v) : Inv X (pins ++ pinsAt fp s.heap) σ H s :=
  I.pins_of fun p hp => (List.mem_append.mp hp).elim (fun z => I.pin p (List.mem_append_right _ z)) fun z => by
    obtain ⟨hb, e⟩ := of_pinsAt z
    obtain ⟨f0, f1, f2, _⟩ := hf p.1 hb
    obtain ⟨o, e', d⟩ := ho p.1 hb
    rw [e] at e'; cases e'
    exact ⟨e, f0, f1, f2, d⟩
theorem Inv.unpinned {pins pl : List (Addr × Obj)} {σ : St} {H : Hp} {s : Shared} (I : Inv X (pins ++ pl) σ H s) : Inv X pins σ H s := I.pins_of fun p hp => I.pin p (List.mem_append_right _ (List.mem_append_left _ hp))
theorem ps_for {iter : Expr} {body : List Stmt} {wi : TI} {g : TG} {tb : TS} {pos : Pos} (hp : PassesOwn (model X.prog X.w) X.A X.env X.xe) (hc : X.calm = true) (hi : PI X tg iter wi) (hg : PG X tg g) (hb : PSs X body tb)
    (hs : ∀ x, foldedSetIterable iter X.env x = pure x := by intro _; rfl) : PS X (.For tg iter body [] pos) (tFor wi g tb) := by
  intro pins s σ H D I h
  refine wpAny_For (thn (hi pins s σ H _ I h) fun v s1 h1 => thn h1 fun itv s2 h2 => ?_) hs
  obtain ⟨it, fp, tn, J, H2, e, I2, T, st2, f2, W, ⟨m0, w0⟩, turn⟩ := h2
  subst e
  -- what stays true of the iterator's objects through the loop
  have stat : ∀ {H' : Hp}, (∀ b ∈ fp, H' b = none) → ∀ b ∈ fp, FpOk X pins H' b := fun hn b hb => ⟨hn b hb, (f2 b hb).2⟩
  refine codeAny_forLoop_any (fun n s' => ∃ i σ' H', Inv X pins σ' H' s' ∧ tn i s'.heap ∧ (∀ b ∈ fp, H' b = none) ∧ W i n σ' H') ?_ m0 ⟨0, σ, H2, I2, st2, fun b hb => (f2 b hb).1, w0⟩
  rintro n s3 ⟨i, σ3, H3, I3, st3, fr3, w3⟩
  rcases turn i n σ3 H3 w3 with ⟨stop, qn⟩ | ⟨go, N, hN, step⟩
  · refine wpAny_passesOwn hp (thn (T.done X rfl rfl rfl hc i pins s3 σ3 H3 X.xe I3 (stat fr3) st3 stop) fun r s4 zz => ?_)
    obtain ⟨hr, I4⟩ := zz
    subst hr
    exact wpAny_execs_nil ⟨σ3, H3, I4, qn⟩
  · refine wpAny_passesOwn hp (thn (T.item X rfl rfl rfl hc i pins s3 σ3 H3 X.xe I3 (stat fr3) st3 go) fun r s4 zz => ?_)
    obtain ⟨u, hr, h4⟩ := zz
    subst hr
    refine wpAny_passesOwn hp (thn h4 fun _ s5 zz => ?_)
    obtain ⟨x, H5, I5, r5, y5, st5, fr5⟩ := zz
    have I5' := I5.pinned (stat fr5) (T.obj _ _ st5)
    refine wpAny_passesOwn hp (thn (hg _ s5 σ3 H5 x u _ I5' r5 (step x H5 y5)) fun _ s6 zz => ?_)
    obtain ⟨σ6, H6, I6, q6⟩ := zz
    refine wpAny_passesOwn hp (thn (hb _ s6 σ6 H6 _ I6 q6) fun f s7 q7 => ?_)
    have again : ∀ {σ7 : St} {H7 : Hp}, Inv X (pins ++ pinsAt fp s5.heap) σ7 H7 s7 → N σ7 H7 → ∃ m, m < n ∧ ∃ i σ' H', Inv X pins σ' H' s7 ∧ tn i s7.heap ∧ (∀ b ∈ fp, H' b = none) ∧ W i m σ' H' := fun {σ7 H7} I7 n7 => by
      obtain ⟨m', hm, w7⟩ := hN σ7 H7 n7
      refine ⟨m', hm, i + 1, σ7, H7, I7.unpinned, T.keep _ _ _ st5 fun b hb o e => (I7.pin (b, o) (List.mem_append_right _ (List.mem_append_right _ (mem_pinsAt hb e)))).1, fun b hb => ?_, w7⟩
      obtain ⟨o, e, d⟩ := T.obj _ _ st5 b hb
      exact (I7.pin (b, o) (List.mem_append_right _ (List.mem_append_right _ (mem_pinsAt hb e)))).2.1
    cases f with
    | next => obtain ⟨σ7, H7, I7, n7⟩ := q7; exact again I7 n7
    | cont => obtain ⟨σ7, H7, I7, n7⟩ := q7; exact again I7 n7
    | brk => obtain ⟨σ7, H7, I7, q7⟩ := q7; exact ⟨σ7, H7, I7.unpinned, q7⟩
    | ret v => obtain ⟨x7, σ7, H7, I7, r7, q7⟩ := q7; exact ⟨x7, σ7, H7, I7.unpinned, r7, q7⟩
end

end L2

namespace L2
open PySem PySem.Spec PyProof.Rows

abbrev R2 := V → V → Hp → VK → Prop
noncomputable def OpR (X : Cx) (f : Value → Value → Sem Value) (r : R2) : Prop :=
  ∀ (pins : List (Addr × Obj)) (s : Shared) (σ : St) (H : Hp) (x y : V) (v u : Value) (Q : VK), Inv X pins σ H s → RelV x v → RelV y u → r x y H Q →
    wpAny (model X.prog X.w) X.A (f v u) (EP X pins σ Q) X.xe s
noncomputable def CallR (X : Cx) (f : Value) (r : List V → Hp → VK → Prop) : Prop :=
  ∀ (pins : List (Addr × Obj)) (s : Shared) (σ : St) (H : Hp) (xs : List V) (us : List Value) (Q : VK), Inv X pins σ H s → Vals xs us → r xs H Q →
    wpAny (model X.prog X.w) X.A (call f us) (EP X pins σ Q) X.xe s
noncomputable def TruR (X : Cx) (r : V → Hp → (Bool → Hp → Prop) → Prop) : Prop :=
  ∀ (pins : List (Addr × Obj)) (s : Shared) (σ : St) (H : Hp) (x : V) (v : Value) (Q : Bool → Hp → Prop), Inv X pins σ H s → RelV x v → r x H Q →
    wpAny (model X.prog X.w) X.A (truthy v) (TP X pins σ Q) X.xe s

noncomputable def tOp (r : R2) (ta tb : TE) : TE := fun σ H Q => ta σ H fun x H1 => tb σ H1 fun y H2 => r x y H2 Q
noncomputable def rI (C : Int → Int → Prop) (g : Int → Int → V) : R2 := fun x y H Q => ∃ i j, x = .int i ∧ y = .int j ∧ C i j ∧ Q (g i j) H
noncomputable def rI0 (g : Int → Int → V) : R2 := fun x y H Q => ∃ i j, x = .int i ∧ y = .int j ∧ Q (g i j) H
section
variable {X : Cx} {a b c : Expr} {ta tb tc : TE} {pos : Pos}

theorem binT (ha : PE X a ta) (hb : PE X b tb) {pins : List (Addr × Obj)} {s : Shared} {σ : St} {H : Hp} {R : V → V → Hp → Prop} (I : Inv X pins σ H s)
    (h : ta σ H fun x H1 => tb σ H1 fun y H2 => R x y H2) {Q : Value → Shared → Prop} {f : Value → Value → Sem Value}
    (hf : ∀ v u s2 x y H2, Inv X pins σ H2 s2 → RelV x v → RelV y u → R x y H2 → wpAny (model X.prog X.w) X.A (f v u) Q X.xe s2) :
    wpAny (model X.prog X.w) X.A (eval a X.env) (fun v s₁ => wpAny (model X.prog X.w) X.A (eval b X.env) (fun u s₂ => wpAny (model X.prog X.w) X.A (f v u) Q X.xe s₂) X.xe s₁) X.xe s := by
  refine thn (ha pins s σ H _ I h) fun v s1 zz => ?_
  obtain ⟨x, H1, I1, r1, q1⟩ := zz
  refine thn (hb pins s1 σ H1 _ I1 q1) fun u s2 zz => ?_
  obtain ⟨y, H2, I2, r2, q2⟩ := zz
  exact hf v u s2 x y H2 I2 r1 r2 q2

theorem pe_op {op : Operator} {r : R2} (ho : OpR X (binaryOp op) r) (ha : PE X a ta) (hb : PE X b tb) : PE X (.BinOp a op b pos) (tOp r ta tb) := by
  intro pins s σ H Q I h
  exact wpAny_BinOp (binT ha hb I h fun v u s2 x y H2 I2 rx ry q => ho pins s2 σ H2 x y v u Q I2 rx ry q)
theorem opI {f : Value → Value → Sem Value} {C : Int → Int → Prop} {g : Int → Int → Int}
    (rule : ∀ (i j : Int) (t u : Tok) (s : Shared) (Q : Value → Shared → Prop) (E : Value → Shared → Prop), C i j → Q (.int (g i j) s.toks) { s with toks := s.toks + 1 } → wpAny (model X.prog X.w) X.A (f (.int i t) (.int j u)) Q E s) :
    OpR X f (rI C fun i j => .int (g i j)) := by
  intro pins s σ H x y v u Q I rx ry h
  obtain ⟨i, j, rfl, rfl, hc, q⟩ := h
  obtain ⟨t, rfl⟩ := rx
  obtain ⟨t', rfl⟩ := ry
  exact rule i j t t' s _ _ hc ⟨.int (g i j), H, I.tok _, ⟨_, rfl⟩, q⟩
theorem opI0 {f : Value → Value → Sem Value} {g : Int → Int → Int}
    (rule : ∀ (i j : Int) (t u : Tok) (s : Shared) (Q : Value → Shared → Prop) (E : Value → Shared → Prop), Q (.int (g i j) s.toks) { s with toks := s.toks + 1 } → wpAny (model X.prog X.w) X.A (f (.int i t) (.int j u)) Q E s) :
    OpR X f (rI0 fun i j => .int (g i j)) := by
  intro pins s σ H x y v u Q I rx ry h
  obtain ⟨i, j, rfl, rfl, q⟩ := h
  obtain ⟨t, rfl⟩ := rx
  obtain ⟨t', rfl⟩ := ry
  exact rule i j t t' s _ _ ⟨.int (g i j), H, I.tok _, ⟨_, rfl⟩, q⟩
theorem opB0 {f : Value → Value → Sem Value} {g : Int → Int → Bool}
    (rule : ∀ (i j : Int) (t u : Tok) (s : Shared) (Q : Value → Shared → Prop) (E : Value → Shared → Prop), Q (.bool (g i j)) s → wpAny (model X.prog X.w) X.A (f (.int i t) (.int j u)) Q E s) :
    OpR X f (rI0 fun i j => .bl (g i j)) := by
  intro pins s σ H x y v u Q I rx ry h
  obtain ⟨i, j, rfl, rfl, q⟩ := h
  obtain ⟨t, rfl⟩ := rx
  obtain ⟨t', rfl⟩ := ry
  exact rule i j t t' s _ _ ⟨.bl (g i j), H, I, rfl, q⟩

noncomputable def CDiv (i j : Int) : Prop := 0 < j ∧ j < 1073741824
noncomputable def CPow (i j : Int) : Prop := 0 ≤ j ∧ j ≤ 1000000 ∧ i.natAbs < 2 ^ 64
noncomputable def CMul (i j : Int) : Prop := (-(2 ^ 64) < i ∧ i < 2 ^ 64) ∨ (-(2 ^ 64) < j ∧ j < 2 ^ 64)
theorem CMul.ok {i j : Int} (h : CMul i j) : IntMulOk i j := by
  rcases h with ⟨h1, h2⟩ | ⟨h1, h2⟩
  · exact .of_left (intBits_le_64 h1 h2)
  · exact .of_right (intBits_le_64 h1 h2)
theorem op_add : OpR X (binaryOp .Add) (rI0 fun i j => .int (i + j)) := opI0 fun _ _ _ _ _ _ _ q => add_int q
theorem op_sub : OpR X (binaryOp .Sub) (rI0 fun i j => .int (i - j)) := opI0 fun _ _ _ _ _ _ _ q => sub_int q
theorem op_mul : OpR X (binaryOp .Mult) (rI CMul fun i j => .int (i * j)) := opI fun _ _ _ _ _ _ _ hc q => mul_int q hc.ok
theorem op_fdiv : OpR X (binaryOp .FloorDiv) (rI CDiv fun i j => .int (i / j)) := opI fun i j _ _ _ _ _ hc q => by
  have h1 : (0 : Int) < j := hc.1
  have h2 : j < 1073741824 := hc.2
  exact floordiv_int (by walk_at "o") (by rw [Int.fdiv_eq_ediv_of_nonneg i (by walk_at "o")]; exact q) (.inl (PyProof.noPylong_small (by walk_at "o")))
theorem op_mod : OpR X (binaryOp .Mod) (rI (fun _ j => 0 < j) fun i j => .int (i % j)) := opI fun i j _ _ _ _ _ hc q => by
  have h1 : (0 : Int) < j := hc
  exact mod_int' (by walk_at "o") (by rw [Int.fmod_eq_emod_of_nonneg i (by walk_at "o")]; exact q)
theorem op_pow : OpR X (binaryOp .Pow) (rI CPow fun i j => .int (i ^ j.toNat)) := opI fun _ _ _ _ _ _ _ hc q => pow_int_small hc.1 hc.2.1 hc.2.2 q
end

section
variable {X : Cx} {a b c : Expr} {ta tb tc : TE} {pos : Pos}
theorem op_lt : OpR X (compareOp .Lt) (rI0 fun i j => .bl (decide (i < j))) := opB0 fun _ _ _ _ _ _ _ q => lt_int q
theorem op_le : OpR X (compareOp .LtE) (rI0 fun i j => .bl (decide (i ≤ j))) := opB0 fun _ _ _ _ _ _ _ q => le_int q
theorem OpR.or {f : Value → Value → Sem Value} {r r' : R2} (h : OpR X f r) (h' : OpR X f r') : OpR X f (fun x y H Q => r x y H Q ∨ r' x y H Q) := by
  intro pins s σ H x y v u Q I rx ry q
  rcases q with q | q
  · exact h pins s σ H x y v u Q I rx ry q
  · exact h' pins s σ H x y v u Q I rx ry q

theorem nomark (b : Expr) {op : CmpOp} (h : op ≠ .In := by decide) (h2 : op ≠ .NotIn := by decide) : behindInMarks op b = false := by
  have e1 : (op == CmpOp.In) = false := by cases op <;> first | rfl | exact absurd rfl h
  have e2 : (op == CmpOp.NotIn) = false := by cases op <;> first | rfl | exact absurd rfl h2
  cases b <;> simp [behindInMarks, e1, e2]
noncomputable def tTest (t : TE) : TT := fun σ H Q => t σ H fun x H' => ∃ k, x = .bl k ∧ Q k H'
theorem pt_cmpR {op : CmpOp} {r : R2} (ho : OpR X (compareOp op) r) (ha : PE X a ta) (hb : PE X b tb) (hm : behindInMarks op b = false) : PT X (.Compare a [op] [b] pos) (tTest (tOp r ta tb)) := by
  intro pins s σ H Q I h
  refine wpAny_isTrue_Compare1 (thn (ha pins s σ H _ I h) fun v s1 zz => ?_) hm
  obtain ⟨x, H1, I1, r1, q1⟩ := zz
  refine thn (hb pins s1 σ H1 _ I1 q1) fun u s2 zz => ?_
  obtain ⟨y, H2, I2, r2, q2⟩ := zz
  refine thn (ho pins s2 σ H2 x y v u _ I2 r1 r2 q2) fun c s3 zz => ?_
  obtain ⟨z, H3, I3, r3, k, e, q3⟩ := zz
  subst e
  cases r3
  exact wpAny_truthy_bool ⟨H3, I3, q3⟩
noncomputable def tChain (r r' : R2) (ta tb tc : TE) : TE := fun σ H Q => ta σ H fun x H1 => tb σ H1 fun y H2 => r x y H2 fun z H3 => ∃ k, z = .bl k ∧
  (if k = true then tc σ H3 fun w' H4 => r' y w' H4 Q else Q (.bl false) H3)
theorem pt_chain {op op' : CmpOp} {r r' : R2} (ho : OpR X (compareOp op) r) (ho' : OpR X (compareOp op') r') (ha : PE X a ta) (hb : PE X b tb) (hc : PE X c tc)
    (hm : lastMarks [op, op'] [b, c] = false := by with_unfolding_all rfl) : PT X (.Compare a [op, op'] [b, c] pos) (tTest (tChain r r' ta tb tc)) := by
  intro pins s σ H Q I h
  refine isTrue_chain (thn (ha pins s σ H _ I h) fun v s1 ⟨x, H1, I1, r1, q1⟩ => test_link (thn (hb pins s1 σ H1 _ I1 q1) fun u s2 zz => ?_)) hm
  obtain ⟨y, H2, I2, r2, q2⟩ := zz
  refine thn (ho pins s2 σ H2 x y v u _ I2 r1 r2 q2) fun d s3 zz => ?_
  obtain ⟨z, H3, I3, r3, k, e, q3⟩ := zz
  subst e
  cases r3
  refine wpAny_truthy_bool ?_
  cases k with
  | false =>
    obtain ⟨k', e', q'⟩ := q3
    cases e'
    exact ite_ff ⟨H3, I3, q'⟩
  | true =>
    refine ite_tt (test_last (thn (hc pins s3 σ H3 _ I3 q3) fun w' s4 zz => ?_))
    obtain ⟨z', H4, I4, r4, q4⟩ := zz
    refine thn (ho' pins s4 σ H4 y z' u w' _ I4 r2 r4 q4) fun d' s5 zz => ?_
    obtain ⟨z2, H5, I5, r5, k2, e2, q5⟩ := zz
    subst e2
    cases r5
    exact wpAny_truthy_bool ⟨H5, I5, q5⟩

noncomputable def TruV (K : PySem.W.Frag) (x : V) (H : Hp) (k : Bool) : Prop :=
  match x with
  | .non => k = false
  | .bl b => k = b
  | .int i => k = (i != 0)
  | .str y => y.length ≤ sizeLine ∧ k = ((y.length : Int) != 0)
  | .byt y => y.size ≤ sizeLine ∧ k = ((y.size : Int) != 0)
  | .ref p => (∃ xs, SqL K H p xs ∧ k = !xs.isEmpty) ∨ (∃ xs, SqT K H p xs ∧ k = !xs.isEmpty) ∨ ∃ kvs, H p = some (.dK kvs) ∧ k = !kvs.isEmpty
  | _ => False
theorem isEmpty_kv {κ : Type} {kvs : List (κ × V)} {vs : List (κ × Value)} (r : KV kvs vs) : (!vs.isEmpty) = !kvs.isEmpty := by
  cases r <;> rfl
theorem isEmpty_of {xs : List V} {its : List Value} (r : Vals xs its) : (!its.toArray.isEmpty) = !xs.isEmpty := by
  cases r <;> simp
theorem line63 : (sizeLine : Nat) < 2 ^ 63 := by rw [sizeLine_eq]; decide
theorem tru_ok : TruR X (fun x H Q => ∃ k, TruV X.K x H k ∧ Q k H) := by
  intro pins s σ H x v Q I rx h
  obtain ⟨k, e, q⟩ := h
  have hl := line63
  have hs : sizeLine = 16777216 := sizeLine_eq
  cases x with
  | non =>
    cases rx
    have e' : k = false := e
    subst e'
    exact truthy_none ⟨H, I, q⟩
  | bl b =>
    cases rx
    have e' : k = b := e
    subst e'
    exact wpAny_truthy_bool ⟨H, I, q⟩
  | int i =>
    obtain ⟨t, rfl⟩ := rx
    have e' : k = (i != 0) := e
    subst e'
    exact PySem.P.truthy_int ⟨H, I, q⟩
  | str y =>
    obtain ⟨t, rfl⟩ := rx
    obtain ⟨hy, e'⟩ : y.length ≤ sizeLine ∧ k = ((y.length : Int) != 0) := e
    subst e'
    exact PySem.P.truthy_str (by walk_at "o") ⟨H, I.tok _, q⟩
  | byt y =>
    obtain ⟨t, rfl⟩ := rx
    obtain ⟨hy, e'⟩ : y.size ≤ sizeLine ∧ k = ((y.size : Int) != 0) := e
    subst e'
    exact PySem.W.truthy_bytes (by walk_at "o") ⟨H, I.tok _, q⟩
  | ref p =>
    cases rx
    have e' : (∃ xs, SqL X.K H p xs ∧ k = !xs.isEmpty) ∨ (∃ xs, SqT X.K H p xs ∧ k = !xs.isEmpty) ∨ ∃ kvs, H p = some (.dK kvs) ∧ k = !kvs.isEmpty := e
    rcases e' with ⟨xs, hx, e'⟩ | ⟨xs, hx, e'⟩ | ⟨kvs, hx, e'⟩
    · subst e'
      obtain ⟨its, r, pl, hz⟩ := I.list hx
      have hlen := r.length
      exact wpAny_truthy_list pl.isList (by simp only [List.size_toArray]; omega) ⟨H, I.tok _, by rw [isEmpty_of r]; exact q⟩
    · subst e'
      obtain ⟨its, r, pl, hz⟩ := I.tuple hx
      have hlen := r.length
      exact truthy_tuple pl (by simp only [List.size_toArray]; omega) ⟨H, I.tok _, by rw [isEmpty_of r]; exact q⟩
    · subst e'
      obtain ⟨hz, hS, vs, r, m⟩ : kvs.length ≤ sizeLine ∧ (p == sysModules) = false ∧ ∃ vs, KV kvs vs ∧ s.heap.DictOf (mixKind X.prog X.w) p vs := I.hok p _ hx
      have hlen : kvs.length = vs.length := Paired.length r
      exact wpAny_truthy_dict hS m (by walk_at "o") ⟨H, I.tok _, by rw [isEmpty_kv r]; exact q⟩
  | _ => exact (show False from e).elim
theorem pt_truth (ha : PE X a ta) (he : ∀ whole, isTrue a X.env whole = (do let v ← whole; standAt a.pos; holding [v] (truthy v))) :
    PT X a (fun σ H Q => ta σ H fun x H' => ∃ k, TruV X.K x H' k ∧ Q k H') := by
  intro pins s σ H Q I h
  exact isTrue_plain (thn (ha pins s σ H _ I h) fun v s1 ⟨x, H1, I1, r1, q1⟩ => tru_ok pins s1 σ H1 x v Q I1 r1 q1) (he _)

theorem op_add_str : OpR X (binaryOp .Add) (fun x y H Q => ∃ i j, x = .str i ∧ y = .str j ∧ i.length + j.length ≤ sizeLine ∧ Q (.str (i ++ j)) H) := by
  intro pins s σ H x y v u Q I rx ry h
  obtain ⟨i, j, rfl, rfl, hz, q⟩ := h
  obtain ⟨t, rfl⟩ := rx
  obtain ⟨t', rfl⟩ := ry
  exact add_str (fun t' tk => ⟨.str (i ++ j), H, I.tok _, ⟨_, rfl⟩, q⟩) hz
theorem vals1 {x : V} {us : List Value} (r : Vals [x] us) : ∃ u, us = [u] ∧ RelV x u := by
  cases r with
  | cons r1 r2 => cases r2; exact ⟨_, rfl, r1⟩
theorem vals2 {x y : V} {us : List Value} (r : Vals [x, y] us) : ∃ u w', us = [u, w'] ∧ RelV x u ∧ RelV y w' := by
  cases r with
  | cons r1 r2 =>
    cases r2 with
    | cons r3 r4 => cases r4; exact ⟨_, _, rfl, r1, r3⟩
theorem call_max2 (hc : X.calm = true) : CallR X (.builtin "max") (fun xs H Q => ∃ i j, xs = [.int i, .int j] ∧ Q (.int (if j > i then j else i)) H) := by
  intro pins s σ H xs us Q I r h
  obtain ⟨i, j, rfl, q⟩ := h
  obtain ⟨u, w', rfl, ⟨t, rfl⟩, ⟨t', rfl⟩⟩ := vals2 r
  refine max_two_ints (I.ok.hd hc) fun h' tk k => ⟨_, H, I.kept k, ?_, q⟩
  by_cases hj : j > i
  · rw [if_pos hj, if_pos hj]; exact ⟨_, rfl⟩
  · rw [if_neg hj, if_neg hj]; exact ⟨_, rfl⟩
theorem call_min2 (hc : X.calm = true) : CallR X (.builtin "min") (fun xs H Q => ∃ i j, xs = [.int i, .int j] ∧ Q (.int (if j < i then j else i)) H) := by
  intro pins s σ H xs us Q I r h
  obtain ⟨i, j, rfl, q⟩ := h
  obtain ⟨u, w', rfl, ⟨t, rfl⟩, ⟨t', rfl⟩⟩ := vals2 r
  refine min_two_ints (I.ok.hd hc) fun h' tk k => ⟨_, H, I.kept k, ?_, q⟩
  by_cases hj : j < i
  · rw [if_pos hj, if_pos hj]; exact ⟨_, rfl⟩
  · rw [if_neg hj, if_neg hj]; exact ⟨_, rfl⟩
end
end L2

namespace L2
open PySem PySem.Spec PyProof.Rows

structure ObjM (h : Heap) (x dx C : Addr) (mA : Str → Option Value) : Prop where
  obj : h.get? x = some (PySem.W.instObj C dx)
  ns : h.Ns1 dx mA
  ne : dx ≠ x

theorem lookIn_ns {h : Heap} {dx : Addr} {mA : Str → Option Value} (n : h.Ns1 dx mA) : ∃ od, h.get? dx = some od ∧ ∀ name, PySem.W.lookIn name od = some (mA name) := by
  obtain ⟨o, es, ep, ho, hd, hk, _, hm⟩ := n
  refine ⟨o, ho, fun name => ?_⟩
  have e := hm name
  unfold nsFind findBy at e
  rw [← Array.find?_toList] at e
  unfold PySem.W.lookIn
  rw [hd]
  dsimp only
  split
  · rename_i y q
    rw [q] at e
    exact congrArg some e
  · rename_i q
    rw [q] at e
    have a : es.toList.any (·.refKey) = false := by
      rw [List.any_eq_false]
      intro y hy
      obtain ⟨z, t, hkey⟩ := hk y (Array.mem_toList_iff.mp hy)
      simp [DictEntry.refKey, hkey]
    have a' : ¬ es.toList.any (·.refKey) = true := by rw [a]; exact Bool.false_ne_true
    rw [if_neg a']
    exact congrArg some e

theorem ObjM.look {h : Heap} {x dx C : Addr} {mA : Str → Option Value} (I : ObjM h x dx C mA) : ∃ od, PySem.W.InstAt h x (PySem.W.instObj C dx) C (some od) ∧ ∀ name, PySem.W.lookIn name od = some (mA name) :=
  let ⟨od, ho, hl⟩ := lookIn_ns I.ns
  ⟨od, ⟨I.obj, rfl, rfl, ho⟩, hl⟩

section
variable {prog : Program} {w : World} {A : Around} {E : Value → Shared → Prop} {s : Shared} {K : PySem.W.Frag} {x dx C f : Addr} {mA : Str → Option Value} {name : Str} {v : Value}

theorem get_map {expr : Bool} {Q : Value → Shared → Prop} (X : K.In s.heap) (I : ObjM s.heap x dx C mA) (hg : PySem.W.plainGet K C name = true) (hh : PySem.W.hasDictIn K C = true)
    (ha : PySem.W.findIn K (.ref C) name = some none) (hv : mA name = some v) (hv' : PySem.W.handedIn v = true) (h : Q v { s with toks := s.toks + 1 }) :
    wpAny (model prog w) A (getAttr (.ref x) name expr) Q E s := by
  obtain ⟨od, J, hl⟩ := I.look
  exact PySem.W.get_value X J (PySem.W.plainGet_of hg).1 (PySem.W.findObj_own hh ha rfl (by rw [hl, hv])) hv' h

theorem get_meth {pl : Sem Bool} {Q : Value × List Value → Shared → Prop} (X : K.In s.heap) (I : ObjM s.heap x dx C mA) (hg : PySem.W.plainGet K C name = true)
    (hf : PySem.W.findIn K (.ref C) name = some (some (.ref f))) (ht : PySem.W.isFn K (.ref f) = true) (hv : mA name = none) (h : Q (.ref f, [.ref x]) s) :
    wpAny (model prog w) A (getMethod (.ref x) name pl) Q E s := by
  obtain ⟨od, J, hl⟩ := I.look
  exact PySem.W.method_fn X J (PySem.W.plainGet_of hg).1 (PySem.W.plainGet_of hg).2 hf (beq_iff_eq.mp ht) (by show (PySem.W.lookIn name od).map (·.isSome) = some false; rw [hl, hv]; rfl) h

theorem set_map {ns : List Str} {Q : Unit → Shared → Prop} (X : K.In s.heap) (I : ObjM s.heap x dx C mA)
    (hs : PySem.W.findIn K (.ref C) "__setattr__" = some (some (.builtin "object.__setattr__"))) (hp : PySem.W.plainOver K C = true) (ht : PySem.W.takerIn K C name = some none) (hh : PySem.W.hasDictIn K C = true)
    (hw : PySem.Within mA ns) (hsz : ns.length ≤ sizeLine)
    (h : ∀ h', ObjM h' x dx C (fun y => if y = name then some v else mA y) → Heap.SameBut dx s.heap h' → Q () { s with heap := h', toks := s.toks + 2 }) :
    wpAny (model prog w) A (setAttr (.ref x) name v) Q E s := by
  obtain ⟨od, J, hl⟩ := I.look
  refine PySem.W.set_plain X J hs (PySem.W.osa_open (s := { s with toks := s.toks + 1 }) (r := none) X J hp ht fun b => ?_)
  obtain ⟨cd, hc, hd'⟩ := PySem.W.any_some hh
  have hx : s.heap.get? x = some ⟨.ref C, some dx, .plain, #[]⟩ := I.obj
  refine wpAny_bind (wpAny_pure (wpAny_bind (wpAny_bind (wpAny_loadPart hx (wpAny_bind (PySem.W.Looks.here (s := { s with toks := s.toks + 1 }) (PySem.W.looks_clsIn X hc) ?_))))))
  rw [hd']
  refine wpAny_pure (a := some dx) (wpAny_bind (wpAny_pure (wpAny_bind ?_)))
  refine wpAny_nsSet1 (s := { s with toks := s.toks + 1 }) I.ns fun h' hn2 hs2 => ?_
  obtain ⟨oD, esD, epD, hoD, hdD, hcD⟩ := hn2.count (PySem.Within.cons name v hw)
  refine wpAny_bind (wpAny_lookBehind hoD (by rw [hdD]; exact pastItsLine_dict (Nat.le_trans hcD (by rw [List.length_cons]; omega))) ?_)
  exact wpAny_pure (h _ ⟨(hs2.2 _ (Ne.symm I.ne)).trans I.obj, hn2, I.ne⟩ hs2)

theorem make_map {R : Result → Shared → Prop} {vs : List Value} {kw : List (Str × Value)} (X : K.In s.heap) (hm : PySem.W.makesIn K C = true)
    (hi : PySem.W.findIn K (.ref C) "__init__" = some (some (.ref f))) (hf : PySem.W.typeIn K (.ref f) = some (.type "function"))
    (h : codeAny (model prog w) (A.under (.builtin "type.__call__" ⟨.ref C :: vs, kw⟩)) (.call (.ref f) ⟨.ref (s.heap.objs.size + 1) :: vs, kw⟩) (PySem.W.InitBack (s.heap.objs.size + 1) R)
      { s with heap := (s.heap.push PySem.W.emptyDict).push (PySem.W.instObj C s.heap.objs.size) }) :
    codeAny (model prog w) A (.call (.ref C) ⟨vs, kw⟩) R s := by
  obtain ⟨hh, g, d, t, os⟩ := s
  exact PySem.W.make_core (PySem.W.makes_of X hm) (PySem.W.looks_findIn X hi) (fun self => PySem.W.bind_fn X self hf) (.inl rfl) h
end

noncomputable def putF (f : Str) (v : V) : List (Str × V) → List (Str × V)
  | [] => [(f, v)]
  | (g, x) :: r => if g = f then (g, v) :: r else (g, x) :: putF f v r
theorem lookup_putF (f g : Str) (v : V) : ∀ fs : List (Str × V), (putF f v fs).lookup g = if g = f then some v else fs.lookup g
  | [] => by
    show List.lookup g [(f, v)] = _
    by_cases h : g = f
    · have hb : (g == f) = true := beq_iff_eq.mpr h
      simp only [List.lookup, hb, if_pos h]
    · have hb : (g == f) = false := beq_eq_false_iff_ne.mpr h
      simp only [List.lookup, hb, if_neg h]
  | (k, x) :: r => by
    have ih := lookup_putF f g v r
    rw [show putF f v ((k, x) :: r) = (if k = f then (k, v) :: r else (k, x) :: putF f v r) from rfl]
    by_cases hk : k = f
    · rw [if_pos hk]
      by_cases h : g = k
      · have hb : (g == k) = true := beq_iff_eq.mpr h
        simp only [List.lookup, hb, if_pos (h.trans hk)]
      · have hb : (g == k) = false := beq_eq_false_iff_ne.mpr h
        simp only [List.lookup, hb, if_neg (fun e : g = f => h (e.trans hk.symm))]
    · rw [if_neg hk]
      by_cases h : g = k
      · have hb : (g == k) = true := beq_iff_eq.mpr h
        simp only [List.lookup, hb, if_neg (fun e : g = f => hk (h.symm.trans e))]
      · have hb : (g == k) = false := beq_eq_false_iff_ne.mpr h
        simp only [List.lookup, hb]
        exact ih
theorem keys_putF (f : Str) (v : V) : ∀ fs : List (Str × V), f ∈ (putF f v fs).map (·.1) ∧ ∀ g, g ∈ fs.map (·.1) → g ∈ (putF f v fs).map (·.1)
  | [] => ⟨by simp [putF], fun g h => by simp at h⟩
  | (k, x) :: r => by
    obtain ⟨i1, i2⟩ := keys_putF f v r
    rw [show putF f v ((k, x) :: r) = (if k = f then (k, v) :: r else (k, x) :: putF f v r) from rfl]
    by_cases hk : k = f
    · rw [if_pos hk]
      subst hk
      exact ⟨by simp, fun g h => by simpa using h⟩
    · rw [if_neg hk]
      refine ⟨?_, fun g h => ?_⟩
      · rw [List.map_cons]
        exact List.mem_cons_of_mem _ i1
      · rw [List.map_cons] at h ⊢
        rcases List.mem_cons.mp h with e | e
        · exact List.mem_cons.mpr (.inl e)
        · exact List.mem_cons_of_mem _ (i2 g e)
theorem length_putF (f : Str) (v : V) : ∀ fs : List (Str × V), (putF f v fs).length ≤ fs.length + 1
  | [] => by simp [putF]
  | (k, x) :: r => by
    have ih := length_putF f v r
    rw [show putF f v ((k, x) :: r) = (if k = f then (k, v) :: r else (k, x) :: putF f v r) from rfl]
    by_cases hk : k = f
    · rw [if_pos hk, List.length_cons, List.length_cons]; omega
    · rw [if_neg hk, List.length_cons, List.length_cons]; omega

theorem RelO.some_of {v : V} {o : Option Value} (r : RelO (some v) o) : ∃ u, o = some u ∧ RelV v u := by
  cases o with
  | none => exact (show False from r).elim
  | some u => exact ⟨u, rfl, r⟩
theorem RelO.none_of {o : Option Value} (r : RelO none o) : o = none := by
  cases o with
  | none => rfl
  | some u => exact (show False from r).elim
theorem handed_of {v : V} {u : Value} (r : RelV v u) : PySem.W.handedIn u = true := by
  cases v with
  | non => cases (show u = Value.none from r); rfl
  | bl b => cases (show u = Value.bool b from r); rfl
  | int i => obtain ⟨t, e⟩ := (show ∃ t, u = Value.int i t from r); cases e; rfl
  | str x => obtain ⟨t, e⟩ := (show ∃ t, u = Value.str x t from r); cases e; rfl
  | byt b => obtain ⟨t, e⟩ := (show ∃ t, u = Value.bytes b t from r); cases e; rfl
  | flt b => obtain ⟨t, e⟩ := (show ∃ t, u = Value.float b t from r); cases e; rfl
  | ref a => cases (show u = Value.ref a from r); rfl
  | ty n => cases (show u = Value.type n from r); rfl

section
variable {P : Program} {w : World} {H H' : Hp} {h h' : Heap} {a C dx : Addr} {fs fs' : List (Str × V)}
theorem ins_get (hok : HOk P w H h) (e : H a = some (.ins C dx fs)) : ∃ mA, ObjM h a dx C mA ∧ (∀ f, RelO (fs.lookup f) (mA f)) ∧ PySem.Within mA (fs.map (·.1)) ∧ fs.length ≤ 1000 ∧ H dx = some (.own a) := by
  obtain ⟨d, z, ne, ob, mA, n, r, q⟩ := (show ObjOk P w H h a (.ins C dx fs) from hok a _ e)
  exact ⟨mA, ⟨ob, n, ne⟩, r, q, z, d⟩
end

structure Cls (K : PySem.W.Frag) (C : Addr) : Prop where
  pg : PySem.W.plainGet K C Str.empty = true
  hd : PySem.W.hasDictIn K C = true
  po : PySem.W.plainOver K C = true
  sa : PySem.W.findIn K (.ref C) "__setattr__" = some (some (.builtin "object.__setattr__"))
theorem Cls.get {K : PySem.W.Frag} {C : Addr} (c : Cls K C) (f : Str) : PySem.W.plainGet K C f = true := c.pg
noncomputable def NoAttr (K : PySem.W.Frag) (C : Addr) (f : Str) : Prop := PySem.W.findIn K (.ref C) f = some none
theorem NoAttr.taker {K : PySem.W.Frag} {C : Addr} {f : Str} (n : NoAttr K C f) : PySem.W.takerIn K C f = some none := by
  unfold PySem.W.takerIn
  rw [show PySem.W.findIn K (.ref C) f = some none from n]
  rfl
structure Meth (K : PySem.W.Frag) (C : Addr) (m : Str) (f : Addr) : Prop where
  at_ : PySem.W.findIn K (.ref C) m = some (some (.ref f))
  fn : PySem.W.isFn K (.ref f) = true
  kp : PySem.W.keepIn K (.ref f) = true

section
variable {X : Cx} {pins : List (Addr × Obj)} {σ : St} {H : Hp} {s : Shared} {a C dx : Addr} {fs : List (Str × V)} {f : Str} {v : V} {A : Around} {E : Value → Shared → Prop}

theorem getattr_ok {b : Bool} {Q : Value → Shared → Prop} (I : Inv X pins σ H s) (e : H a = some (.ins C dx fs)) (c : Cls X.K C) (n : NoAttr X.K C f) (l : fs.lookup f = some v)
    (h : ∀ u s', Inv X pins σ H s' → RelV v u → Q u s') : wpAny (model X.prog X.w) A (getAttr (.ref a) f b) Q E s := by
  obtain ⟨mA, O, r, _, _, _⟩ := ins_get I.hok e
  obtain ⟨u, hu, ru⟩ := RelO.some_of (v := v) (o := mA f) (by rw [← l]; exact r f)
  exact get_map I.kIn O (c.get f) c.hd n hu (handed_of ru) (h u _ (I.tok _) ru)

theorem getmeth_ok {m : Str} {g : Addr} {pl : Sem Bool} {Q : Value × List Value → Shared → Prop} (I : Inv X pins σ H s) (e : H a = some (.ins C dx fs)) (c : Cls X.K C) (k : Meth X.K C m g) (l : fs.lookup m = none)
    (h : Q (.ref g, [.ref a]) s) : wpAny (model X.prog X.w) A (getMethod (.ref a) m pl) Q E s := by
  obtain ⟨mA, O, r, _, _, _⟩ := ins_get I.hok e
  have hn : mA m = none := RelO.none_of (by rw [← l]; exact r m)
  exact get_meth I.kIn O (c.get m) k.at_ k.fn hn h

theorem setattr_ok {y : V} {u : Value} {Q : Unit → Shared → Prop} (I : Inv X pins σ H s) (e : H a = some (.ins C dx fs)) (c : Cls X.K C) (n : NoAttr X.K C f) (hl : fs.length < 1000) (ry : RelV y u)
    (h : ∀ s', Inv X pins σ (upd H a (.ins C dx (putF f y fs))) s' → Q () s') : wpAny (model X.prog X.w) A (setAttr (.ref a) f u) Q E s := by
  obtain ⟨mA, O, r, wi, _, ho⟩ := ins_get I.hok e
  have hz : (fs.map (·.1)).length ≤ sizeLine := by rw [List.length_map, sizeLine_eq]; omega
  refine set_map I.kIn O c.sa c.po n.taker c.hd wi hz fun h' O' sb => h _ ?_
  have hd : ∃ o, h'.get? dx = some o := let ⟨o, _, _, e', _⟩ := O'.ns; ⟨o, e'⟩
  refine I.write (x := a) (e := dx) (by rw [e]; exact True.intro) (.inr ho) (fun b q hb z => (sb.2 b hb).trans z) hd ?_
  refine ⟨by rw [upd_ne O.ne]; exact ho, ?_, O.ne, O'.obj, _, O'.ns, fun g => ?_, fun g hg => ?_⟩
  · have := length_putF f y fs; omega
  · show RelO ((putF f y fs).lookup g) (if g = f then some u else mA g)
    rw [lookup_putF]
    by_cases q : g = f
    · rw [if_pos q, if_pos q]; exact ry
    · rw [if_neg q, if_neg q]; exact r g
  · by_cases q : g = f
    · rw [q]; exact (keys_putF f y fs).1
    · refine (keys_putF f y fs).2 g (wi g fun z => hg ?_)
      show (if g = f then some u else mA g) = none
      rw [if_neg q]; exact z

theorem Inv.made (I : Inv X pins σ H s) : Inv X pins σ (upd (upd H s.heap.objs.size (.own (s.heap.objs.size + 1))) (s.heap.objs.size + 1) (.ins C s.heap.objs.size []))
    { s with heap := (s.heap.push PySem.W.emptyDict).push (PySem.W.instObj C s.heap.objs.size) } := by
  have e1 : (s.heap.push PySem.W.emptyDict).get? s.heap.objs.size = some PySem.W.emptyDict := Heap.get?_push_size s.heap rfl
  have e2 : ((s.heap.push PySem.W.emptyDict).push (PySem.W.instObj C s.heap.objs.size)).get? (s.heap.objs.size + 1) = some (PySem.W.instObj C s.heap.objs.size) := by
    have := Heap.get?_push_size (s.heap.push PySem.W.emptyDict) (o := PySem.W.instObj C s.heap.objs.size) rfl
    rwa [Heap.size_push] at this
  have e3 : (s.heap.push PySem.W.emptyDict).Ns s.heap.objs.size (fun _ => none) := ⟨PySem.W.emptyDict, #[], _, e1, rfl, (fun e he => absurd he (by simp)), fun _ => rfl⟩
  have I1 := I.laid (a := s.heap.objs.size) (o := .own (s.heap.objs.size + 1)) (h' := s.heap.push PySem.W.emptyDict) (t' := s.toks) (fun b u q => Heap.get?_push_of_some _ q) (Nat.le_refl _) ⟨_, e1⟩
  refine I1.laid (a := s.heap.objs.size + 1) (o := .ins C s.heap.objs.size []) (t' := s.toks) (fun b u q => Heap.get?_push_of_some _ q) (Nat.le_of_eq (Heap.size_push _ _)) ?_
  have ne : s.heap.objs.size ≠ s.heap.objs.size + 1 := Nat.ne_of_lt (Nat.lt_succ_self _)
  refine ⟨by rw [upd_ne ne, upd_same], Nat.zero_le _, ne, e2, fun _ => none, (Heap.Ns1.of_empty e3).at fun o q => Heap.get?_push_of_some _ q, fun _ => True.intro, fun y hy => absurd rfl hy⟩

theorem attr_of {prog : Program} {w : World} {env : Env} {e : Expr} {f : Str} {pos : Pos} {s : Shared} {Q : Value → Shared → Prop} (hb : attributeBase e f env (eval e env) = eval e env)
    (h : wpAny (model prog w) A (eval e env) (fun o s₁ => wpAny (model prog w) A (getAttr o f true) Q E s₁) E s) : wpAny (model prog w) A (eval (.Attribute e f pos) env) Q E s :=
  Attribute_any_ h (by rw [arm_eval_Attribute, hb])
end

noncomputable def tFld (K : PySem.W.Frag) (ta : TE) (f : Str) : TE := fun σ H Q => ta σ H fun x H1 => ∃ a C dx fs v, x = .ref a ∧ H1 a = some (.ins C dx fs) ∧ Cls K C ∧ NoAttr K C f ∧ fs.lookup f = some v ∧ Q v H1
noncomputable def sFld (K : PySem.W.Frag) (ta tv : TE) (f : Str) : TS := fun D σ H => tv σ H fun y H1 => ta σ H1 fun x H2 => ∃ a C dx fs, x = .ref a ∧ H2 a = some (.ins C dx fs) ∧ Cls K C ∧ NoAttr K C f ∧ fs.length < 1000 ∧
  D.nx σ (upd H2 a (.ins C dx (putF f y fs)))
section
variable {X : Cx} {o e value : Expr} {f : Str} {pos pos' tpos : Pos} {ta tv : TE}
theorem pe_fld (he : PE X e ta) (hb : attributeBase e f X.env (eval e X.env) = eval e X.env) : PE X (.Attribute e f pos) (tFld X.K ta f) := by
  intro pins s σ H Q I h
  refine attr_of hb (thn (he pins s σ H _ I h) fun u s1 zz => ?_)
  obtain ⟨x, H1, I1, rx, a, C, dx, fs, v, ex, ea, c, n, l, q⟩ := zz
  subst ex
  obtain rfl : u = Value.ref a := rx
  exact getattr_ok I1 ea c n l fun u' s2 I2 ru => ⟨v, H1, I2, ru, q⟩
theorem ps_fld (ha : PE X o ta) (hv : PE X value tv) (hs : swapsWith value (some (.Attribute o f pos')) pos.line X.env = pure false) : PS X (.Assign [.Attribute o f pos'] value pos) (sFld X.K ta tv f) := by
  intro pins s σ H D I h
  refine plainObj_wpAny_Assign_Attribute (thn (hv pins s σ H _ I h) fun u s1 zz => ?_) hs
  obtain ⟨y, H1, I1, ry, q⟩ := zz
  refine thn (ha pins s1 σ H1 _ I1 q) fun ov s2 zz => ?_
  obtain ⟨x, H2, I2, rx, a, C, dx, fs, ex, ea, c, n, l, q2⟩ := zz
  subst ex
  obtain rfl : ov = Value.ref a := rx
  exact setattr_ok I2 ea c n l ry fun s3 I3 => ⟨σ, _, I3, q2⟩
end

section
variable {X : Cx} {pins : List (Addr × Obj)} {σ : St} {H : Hp} {s : Shared} {A : Around} {E : Value → Shared → Prop} {Q : Value → Shared → Prop} {c : Value} {b : Bool}
end
end L2

namespace L2
open PySem PySem.Spec PyProof.Rows

structure Room (k : Nat) (A : Around) : Prop where
  hd : A.handled = none
  dp : A.depth + 3 * k + 5 < recursionLimit
  un : A.units + 16 * k + 200 < cLine
theorem Room.mono {j k : Nat} {A : Around} (r : Room k A) (h : j ≤ k) : Room j A := ⟨r.hd, by have := r.dp; omega, by have := r.un; omega⟩
theorem Room.deeper {k : Nat} {A : Around} (r : Room (k + 1) A) (env : Env) : Room k (A.deeper env) :=
  ⟨r.hd, by have := r.dp; show A.depth + 1 + 3 * k + 5 < _; omega, by have := r.un; show A.units + 3 + 16 * k + 200 < _; omega⟩
theorem make_depth {A : Around} {C : Addr} {us : List Value} {kw : List (Str × Value)} : (A.under (.builtin "type.__call__" ⟨.ref C :: us, kw⟩)).depth = A.depth + 1 := by
  first | rfl | simp [Around.under, Code.weight, Code.isCreation, Code.isGuard, Code.isCaller, Code.frames, Code.isFrame, guardIds]
theorem make_units {A : Around} {C : Addr} {us : List Value} {kw : List (Str × Value)} : (A.under (.builtin "type.__call__" ⟨.ref C :: us, kw⟩)).units = A.units + 1 := by
  first | rfl | simp [Around.under, Code.cUnits, Code.frames, Code.isFrame]
theorem Room.make {k : Nat} {A : Around} (r : Room (k + 1) A) (C : Addr) (us : List Value) (kw : List (Str × Value)) : Room k (A.under (.builtin "type.__call__" ⟨.ref C :: us, kw⟩)) :=
  ⟨r.hd, by have := r.dp; rw [make_depth]; omega, by have := r.un; rw [make_units]; omega⟩
theorem Room.depth {k : Nat} {A : Around} (r : Room k A) : A.depth < recursionLimit := by have := r.dp; omega
theorem Room.units {k : Nat} {A : Around} (r : Room k A) : A.units + 64 < cLine := by have := r.un; omega
noncomputable def tNil : TA := fun _ H Q => Q [] H
noncomputable def tCons (ta : TE) (tr : TA) : TA := fun σ H Q => ta σ H fun x H1 => tr σ H1 fun xs H2 => Q (x :: xs) H2
section
variable {X : Cx} {e : Expr} {es : List Expr} {te : TE} {t : TA} {pos : Pos}
theorem pa_nil : PA X [] tNil := fun _ _ _ _ H Q I h => Calls.spliced_nil ⟨[], H, I, .nil, h⟩
theorem pa_cons (ha : PE X e te) (hr : PA X es t) (hs : starEach (e :: es) X.env = (false, eval e X.env) :: starEach es X.env := by rfl) : PA X (e :: es) (tCons te t) := by
  intro pos pins s σ H Q I h
  rw [hs]
  show wpAny _ _ (spliced ((false, eval e X.env) :: backTo pos (starEach es X.env))) _ _ s
  refine Calls.spliced_cons (thn (ha pins s σ H _ I h) fun u s1 zz => ?_)
  obtain ⟨x, H1, I1, r1, q1⟩ := zz
  exact thn (hr pos pins s1 σ H1 _ I1 q1) fun us s2 ⟨xs, H2, I2, r2, q2⟩ => ⟨x :: xs, H2, I2, .cons r1 r2, q2⟩

noncomputable def tTup (t : TA) : TE := fun σ H Q => t σ H fun xs H1 => xs.length ≤ sizeLine ∧ ∀ p, H1 p = none → Q (.ref p) (upd H1 p (.tup xs))
noncomputable def tLst (t : TA) : TE := fun σ H Q => t σ H fun xs H1 => xs.length ≤ sizeLine ∧ ∀ p, H1 p = none → Q (.ref p) (upd H1 p (.lst xs))
theorem pe_tup {x1} (h : PA X es t) : PE X (.Tuple es x1 pos) (tTup t) := by
  intro pins s σ H Q I hq
  refine wpAny_Tuple_spliced (thn (h pos pins s σ H _ I hq) fun us s1 ⟨xs, H1, I1, r, z, q⟩ => ⟨by rw [← r.length]; exact z, ?_⟩)
  have hf : H1 s1.heap.objs.size = none := I1.hok.fresh (Nat.le_refl _)
  refine ⟨.ref s1.heap.objs.size, upd H1 s1.heap.objs.size (.tup xs), I1.laid (t' := s1.toks) (fun b u e => Heap.get?_push_of_some _ e) (Nat.le_refl _) ?_, rfl, q _ hf⟩
  exact ⟨z, us, r, ⟨_, Heap.get?_push_size _ rfl, rfl, _, rfl⟩⟩
theorem pe_lst (h : PA X es t) : PE X (.List es pos) (tLst t) := by
  intro pins s σ H Q I hq
  refine wpAny_List_spliced (thn (h pos pins s σ H _ I hq) fun us s1 ⟨xs, H1, I1, r, z, q⟩ => ⟨by rw [← r.length]; exact z, ?_⟩)
  have hf : H1 s1.heap.objs.size = none := I1.hok.fresh (Nat.le_refl _)
  refine ⟨.ref s1.heap.objs.size, upd H1 s1.heap.objs.size (.lst xs), I1.laid (t' := s1.toks) (fun b u e => Heap.get?_push_of_some _ e) (Nat.le_refl _) ?_, rfl, q _ hf⟩
  exact ⟨z, us, 0, r, Heap.get?_push_size _ rfl⟩
end

abbrev Sp := List V → Hp → VK → XK → Prop
abbrev CXT := List Env → Hp → Shared → XK → Value → Shared → Prop

structure Env0 (P : Program) (w : World) (K : PySem.W.Frag) (mg : Str → Option Value) (base : Heap) (A : Around) (outer : List Env) (s : Shared) (H : Hp) : Prop where
  frames : A.frames = some outer
  mod : Mod K mg base
  bs : ∀ b o, base.get? b = some o → s.heap.get? b = some o ∧ H b = none
  bsz : base.objs.size ≤ s.heap.objs.size
  funs : s.heap.FunFrames base outer
  frf : ∀ b ∈ frs outer, H b = none
  hok : HOk P w H s.heap
  bare : AllBare s.gens
noncomputable def CE (outer : List Env) (P : Program) (w : World) (H : Hp) (s : Shared) (Q : VK) (u : Value) (s' : Shared) : Prop :=
  ∃ v H', s'.os = s.os ∧ AllBare s'.gens ∧ Un (frs outer) [] H H' s.heap s'.heap ∧ HOk P w H' s'.heap ∧ RelV v u ∧ Q v H'
noncomputable def CR (CX : CXT) (outer : List Env) (P : Program) (w : World) (H : Hp) (s : Shared) (Q : VK) (E : XK) (r : Result) (s' : Shared) : Prop :=
  match r with
  | .ok (.ret u) => CE outer P w H s Q u s'
  | .ok _ => False
  | .error e => CX outer H s E e s'
structure FnOk (P : Program) (w : World) (K : PySem.W.Frag) (mg : Str → Option Value) (base : Heap) (CX : CXT) (k : Nat) (f : Addr) (fd : FuncData) (ps : List Str) (sp : Sp) : Prop where
  len : ∀ vs H Q E, sp vs H Q E → vs.length = ps.length
  run : ∀ (A : Around) (outer : List Env) (s : Shared) (H : Hp) (args : Args) (us : List Value) (vs : List V) (Q : VK) (E : XK), Room k A → Env0 P w K mg base A outer s H → BindsTo s fd args (ps.zip us) → Vals vs us → sp vs H Q E →
    codeAny (model P w) A (.call (.ref f) args) (CR CX outer P w H s Q E) s
theorem FnOk.mono {P : Program} {w : World} {K : PySem.W.Frag} {mg : Str → Option Value} {base : Heap} {CX : CXT} {j k : Nat} {f : Addr} {fd : FuncData} {ps : List Str} {sp : Sp} (F : FnOk P w K mg base CX j f fd ps sp) (h : j ≤ k) :
    FnOk P w K mg base CX k f fd ps sp := ⟨F.len, fun A outer s H args us vs Q E hr => F.run A outer s H args us vs Q E (hr.mono h)⟩
theorem Env0.make {P : Program} {w : World} {K : PySem.W.Frag} {mg : Str → Option Value} {base : Heap} {A : Around} {outer : List Env} {s : Shared} {H : Hp} (e : Env0 P w K mg base A outer s H) (C : Addr) (us : List Value) (kw : List (Str × Value)) :
    Env0 P w K mg base (A.under (.builtin "type.__call__" ⟨.ref C :: us, kw⟩)) outer s H := ⟨by first | exact e.frames | (simpa [Around.under, Code.envs, Code.isFrame, pushEnvs] using e.frames), e.mod, e.bs, e.bsz, e.funs, e.frf, e.hok, e.bare⟩
section
variable {X : Cx} {pins : List (Addr × Obj)} {σ : St} {H : Hp} {s s' : Shared}
theorem Inv.env0 (I : Inv X pins σ H s) : Env0 X.prog X.w X.K X.mg X.base X.A X.stack s H :=
  ⟨I.ok.frames, I.ok.mod, I.bs, Nat.le_trans I.ok.bsz I.sz, I.stack, I.stkFree, I.hok, I.bare⟩
theorem Inv.after {Q : VK} {u : Value} (I : Inv X pins σ H s) (h : CE X.stack X.prog X.w H s Q u s') : EP X pins σ Q u s' := by
  obtain ⟨v, H', os, bare, un, hok, r, q⟩ := h
  obtain ⟨hh, g, d, t, os'⟩ := s'
  obtain rfl : os' = s.os := os
  exact ⟨v, H', I.call (h' := hh) (g' := g) (d' := d) (t' := t) (ch := []) un hok bare (fun b z => absurd z (by simp)), r, q⟩
end

noncomputable def tCall (sp : Sp) (dvs : List V) (E : XK) (t : TA) : TE := fun σ H Q => t σ H fun vs H1 => sp (vs ++ dvs) H1 Q E
noncomputable def tMeth (C : Addr) (m : Str) (sp : Sp) (dvs : List V) (E : XK) (ta : TE) (t : TA) : TE := fun σ H Q => ta σ H fun x H1 => ∃ a dx fs, x = .ref a ∧ H1 a = some (.ins C dx fs) ∧ fs.lookup m = none ∧
  t σ H1 fun vs H2 => sp (x :: (vs ++ dvs)) H2 Q E
noncomputable def tMake (C : Addr) (sp : Sp) (dvs : List V) (E : XK) (t : TA) : TE := fun σ H Q => t σ H fun vs H1 => ∀ x dx, H1 x = none → H1 dx = none → dx ≠ x →
  sp (.ref x :: (vs ++ dvs)) (upd (upd H1 dx (.own x)) x (.ins C dx [])) (fun v H2 => v = .non ∧ Q (.ref x) H2) E

noncomputable def Binds (K : PySem.W.Frag) (fd : FuncData) (ps : List Str) (ds : List Value) : Prop :=
  ∀ (s : Shared) (us : List Value), K.In s.heap → (us ++ ds).length = ps.length → BindsTo s fd ⟨us, []⟩ (ps.zip (us ++ ds))
theorem Binds.all {K : PySem.W.Frag} {fd : FuncData} {ps : List Str} (h : ∀ us : List Value, us.length = ps.length → bindArgs fd ⟨us, []⟩ = pure (ps.zip us)) : Binds K fd ps [] := fun s us _ hl => by
  rw [List.append_nil] at hl ⊢
  exact .of_eq (h us hl)

noncomputable def Passes (CX : CXT) (X : Cx) (E : XK) : Prop := ∀ (pins : List (Addr × Obj)) (σ : St) (H : Hp) (s : Shared) (e : Value) (s' : Shared), Inv X pins σ H s → CX X.stack H s E e s' → X.xe e s'

section
variable {X : Cx} {CX : CXT} {k : Nat} {f C : Addr} {fd : FuncData} {ps : List Str} {sp : Sp} {dvs : List V} {ds : List Value} {E : XK} {x m : Str} {p pos apos : Pos} {e o : Expr} {es : List Expr} {ta : TE} {t : TA}

theorem run_fn {pins : List (Addr × Obj)} {σ : St} {H : Hp} {s : Shared} {Q : VK} {us : List Value} {vs : List V} (F : FnOk X.prog X.w X.K X.mg X.base CX k f fd ps sp) (hr : Room k X.A) (hb : Binds X.K fd ps ds) (hd : Vals dvs ds) (hx : Passes CX X E)
    (I : Inv X pins σ H s) (r : Vals vs us) (h : sp (vs ++ dvs) H Q E) : wpAny (model X.prog X.w) X.A (call (.ref f) us) (EP X pins σ Q) X.xe s := by
  have r2 : Vals (vs ++ dvs) (us ++ ds) := r.append hd
  have hl : (us ++ ds).length = ps.length := by rw [← r2.length]; exact F.len _ _ _ _ h
  refine wpAny_call (codeAny_mono (F.run X.A X.stack s H ⟨us, []⟩ (us ++ ds) (vs ++ dvs) Q E hr I.env0 (hb s us I.kIn hl) r2 h) fun r s' hq => ?_)
  cases r with
  | error e => exact hx pins σ H s e s' I hq
  | ok fl =>
    cases fl with
    | ret u => exact I.after hq
    | next => exact False.elim hq
    | brk => exact False.elim hq
    | cont => exact False.elim hq

theorem pe_call (F : FnOk X.prog X.w X.K X.mg X.base CX k f fd ps sp) (hr : Room k X.A) (hg : Gl X x) (hm : X.mg x = some (.ref f)) (hk : PySem.W.keepIn X.K (.ref f) = true) (hb : Binds X.K fd ps ds) (hd : Vals dvs ds) (hx : Passes CX X E)
    (ha : PA X (e :: es) t) (hdb : (x == ("__debug__" : Str)) = false := by decide) (he : starEach (e :: es) X.env = (false, eval e X.env) :: starEach es X.env := by rfl) (hpl : (backTo pos (starEach es X.env)).any (·.1) = false := by rfl) :
    PE X (.Call (.Name x p) (e :: es) [] pos) (tCall sp dvs E t) := by
  intro pins s σ H Q I h
  refine wpAny_Call_Name_kw (ld_glob I hg hm ?_ hdb)
  refine PySem.W.callWith_K (h₀ := X.base) I.ok.mod.kin hk (thn (ha pos pins s σ H _ I h) fun us s1 ⟨vs, H1, I1, r, q⟩ => ⟨I1.kIn, ?_⟩) he hpl
  exact run_fn F hr hb hd hx I1 r q
theorem pe_meth {pl : Sem Bool} (he : PE X o ta) (c : Cls X.K C) (hm : Meth X.K C m f) (F : FnOk X.prog X.w X.K X.mg X.base CX k f fd ps sp) (hr : Room k X.A) (hb : Binds X.K fd ps ds) (hd : Vals dvs ds) (hx : Passes CX X E) (ha : PA X (e :: es) t)
    (hst : starEach (e :: es) X.env = (false, eval e X.env) :: starEach es X.env := by rfl) (hpl : (backTo pos (starEach es X.env)).any (·.1) = false := by rfl)
    (ht : eval (.Call (.Attribute o m apos) (e :: es) [] pos) X.env = (do
      let ov ← eval o X.env
      standAt apos.atName
      let (f, first) ← holding [ov] (getMethod ov m pl)
      callWith pos f first (backTo pos (starEach (e :: es) X.env)) (backToKw pos (keywordEach [] X.env))) := by rfl) :
    PE X (.Call (.Attribute o m apos) (e :: es) [] pos) (tMeth C m sp dvs E ta t) := by
  intro pins s σ H Q I h
  refine PySem.W.methodCall_KW (pl := pl) (thn (he pins s σ H _ I h) fun u s1 zz => ?_) ht
  obtain ⟨x, H1, I1, rx, a, dx, fs, ex, ea, l, q⟩ := zz
  subst ex
  obtain rfl : u = Value.ref a := rx
  refine getmeth_ok I1 ea c hm l ?_
  refine PySem.W.callWith_K (first := [.ref a]) (h₀ := X.base) I.ok.mod.kin hm.kp (thn (ha pos pins s1 σ H1 _ I1 q) fun us s2 ⟨vs, H2, I2, r, q2⟩ => ⟨I2.kIn, ?_⟩) hst hpl
  exact run_fn (us := .ref a :: us) (vs := .ref a :: vs) F hr hb hd hx I2 (.cons rfl r) q2
theorem pe_meth0 {pl : Sem Bool} (he : PE X o ta) (c : Cls X.K C) (hm : Meth X.K C m f) (F : FnOk X.prog X.w X.K X.mg X.base CX k f fd ps sp) (hr : Room k X.A) (hb : Binds X.K fd ps ds) (hd : Vals dvs ds) (hx : Passes CX X E)
    (ht : eval (.Call (.Attribute o m apos) [] [] pos) X.env = (do
      let ov ← eval o X.env
      standAt apos.atName
      let (f, first) ← holding [ov] (getMethod ov m pl)
      callWith pos f first (backTo pos (starEach [] X.env)) (backToKw pos (keywordEach [] X.env))) := by rfl) :
    PE X (.Call (.Attribute o m apos) [] [] pos) (tMeth C m sp dvs E ta tNil) := by
  intro pins s σ H Q I h
  refine PySem.W.methodCall_KW (pl := pl) (thn (he pins s σ H _ I h) fun u s1 zz => ?_) ht
  obtain ⟨x, H1, I1, rx, a, dx, fs, ex, ea, l, q⟩ := zz
  subst ex
  obtain rfl : u = Value.ref a := rx
  refine getmeth_ok I1 ea c hm l ?_
  exact PySem.W.callWith_K0 (first := [.ref a]) I1.kIn hm.kp (run_fn (us := [.ref a]) (vs := [.ref a]) F hr hb hd hx I1 (.cons rfl .nil) q)

structure Mk (K : PySem.W.Frag) (C f : Addr) : Prop where
  makes : PySem.W.makesIn K C = true
  init : PySem.W.findIn K (.ref C) "__init__" = some (some (.ref f))
  fn : PySem.W.isFn K (.ref f) = true
  kp : PySem.W.keepIn K (.ref C) = true

theorem run_make {pins : List (Addr × Obj)} {σ : St} {H : Hp} {s : Shared} {Q : VK} {us : List Value} {vs : List V} (M : Mk X.K C f) (F : FnOk X.prog X.w X.K X.mg X.base CX k f fd ps sp) (hr : Room (k + 1) X.A) (hb : Binds X.K fd ps ds) (hd : Vals dvs ds)
    (hx : Passes CX X E) (I : Inv X pins σ H s) (r : Vals vs us)
    (h : ∀ x dx, H x = none → H dx = none → dx ≠ x → sp (.ref x :: (vs ++ dvs)) (upd (upd H dx (.own x)) x (.ins C dx [])) (fun v H2 => v = .non ∧ Q (.ref x) H2) E) :
    wpAny (model X.prog X.w) X.A (call (.ref C) us) (EP X pins σ Q) X.xe s := by
  have hq := h (s.heap.objs.size + 1) s.heap.objs.size (I.hok.fresh (Nat.le_succ _)) (I.hok.fresh (Nat.le_refl _)) (Nat.ne_of_lt (Nat.lt_succ_self _))
  have I2 := Inv.made (C := C) I
  have r2 : Vals (V.ref (s.heap.objs.size + 1) :: (vs ++ dvs)) (Value.ref (s.heap.objs.size + 1) :: (us ++ ds)) := .cons rfl (r.append hd)
  have hl : (Value.ref (s.heap.objs.size + 1) :: us ++ ds).length = ps.length := by
    have e := r2.length
    rw [F.len _ _ _ _ hq] at e
    exact e.symm
  refine wpAny_call (make_map (f := f) I.kIn M.makes M.init (beq_iff_eq.mp M.fn) (codeAny_mono (F.run _ X.stack _ _ ⟨Value.ref (s.heap.objs.size + 1) :: us, []⟩ (Value.ref (s.heap.objs.size + 1) :: (us ++ ds)) _ _ E (hr.make C us [])
    (I2.env0.make C us []) (hb _ (Value.ref (s.heap.objs.size + 1) :: us) I2.kIn hl) r2 hq) fun r s' hq' => ?_))
  cases r with
  | error e => exact hx pins σ _ _ e s' I2 hq'
  | ok fl =>
    cases fl with
    | ret u =>
      obtain ⟨v, H', I3, rv, ev, q3⟩ := I2.after hq'
      subst ev
      exact ⟨rv, ⟨V.ref (s.heap.objs.size + 1), H', I3, rfl, q3⟩⟩
    | next => exact False.elim hq'
    | brk => exact False.elim hq'
    | cont => exact False.elim hq'
theorem pe_make (M : Mk X.K C f) (F : FnOk X.prog X.w X.K X.mg X.base CX k f fd ps sp) (hr : Room (k + 1) X.A) (hg : Gl X x) (hm : X.mg x = some (.ref C)) (hb : Binds X.K fd ps ds) (hd : Vals dvs ds) (hx : Passes CX X E)
    (ha : PA X (e :: es) t) (hdb : (x == ("__debug__" : Str)) = false := by decide) (he : starEach (e :: es) X.env = (false, eval e X.env) :: starEach es X.env := by rfl) (hpl : (backTo pos (starEach es X.env)).any (·.1) = false := by rfl) :
    PE X (.Call (.Name x p) (e :: es) [] pos) (tMake C sp dvs E t) := by
  intro pins s σ H Q I h
  refine wpAny_Call_Name_kw (ld_glob I hg hm ?_ hdb)
  refine PySem.W.callWith_K (h₀ := X.base) I.ok.mod.kin M.kp (thn (ha pos pins s σ H _ I h) fun us s1 ⟨vs, H1, I1, r, q⟩ => ⟨I1.kIn, ?_⟩) he hpl
  exact run_make M F hr hb hd hx I1 r q
end

section
variable {X : Cx} {CX : CXT} {k : Nat} {f C : Addr} {fd : FuncData} {ps ks : List Str} {sp : Sp} {E : XK} {x m : Str} {p pos apos kpos : Pos} {e o : Expr} {es : List Expr} {kws : List Keyword} {te ta : TE} {t tk : TA} {nm : Option Str}
variable {g : List Value → List Value → List Value} {gV : List V → List V → List V}
end

structure FnScope (N P : List Str) (sc : Scope) : Prop where
  kind : sc.kind = .function
  co : sc.isCoroutine = false
  gen : sc.isGenerator = false
  nd : N.Nodup
  pre : N.take P.length = P
  par : ∀ x ∈ P, sc.names.lookup x = some .local ∨ sc.names.lookup x = some .cell
  nofree : ∀ y ∈ sc.names, y.2 ≠ .free

theorem bindL_out {kindOf : Str → Option NameKind} {x : Str} : ∀ {binds : List (Str × Value)} {m : Str → Option Value}, (∀ v, (x, v) ∉ binds) → bindL kindOf binds m x = m x
  | [], _, _ => rfl
  | (n, v) :: r, m, h => by
    unfold bindL
    rw [bindL_out fun w hw => h w (List.mem_cons_of_mem _ hw)]
    split
    · have : x ≠ n := by rintro rfl; exact h v List.mem_cons_self
      simp [this]
    · rfl
theorem bindC_out {kindOf : Str → Option NameKind} {x : Str} : ∀ {binds : List (Str × Value)} {m : Str → Option Value}, (∀ v, (x, v) ∉ binds) → bindC kindOf binds m x = m x
  | [], _, _ => rfl
  | (n, v) :: r, m, h => by
    unfold bindC
    rw [bindC_out fun w hw => h w (List.mem_cons_of_mem _ hw)]
    split
    · rfl
    · have : x ≠ n := by rintro rfl; exact h v List.mem_cons_self
      simp [this]
theorem bindL_get {kindOf : Str → Option NameKind} {x : Str} {v : Value} : ∀ {P : List Str} {vs : List Value} {i : Nat} {m : Str → Option Value}, P.Nodup → P[i]? = some x → vs[i]? = some v → kindOf x = some .local →
    bindL kindOf (P.zip vs) m x = some v
  | [], _, _, _, _, h, _, _ => by simp at h
  | _ :: _, [], _, _, _, _, h, _ => by simp at h
  | p :: P, w :: vs, 0, m, nd, h1, h2, hk => by
    simp at h1 h2; subst h1; subst h2
    show bindL kindOf ((p, w) :: P.zip vs) m p = _
    unfold bindL
    rw [bindL_out fun v hv => (List.nodup_cons.mp nd).1 (List.of_mem_zip hv).1, if_pos hk]
    simp
  | p :: P, w :: vs, i + 1, m, nd, h1, h2, hk => by
    show bindL kindOf ((p, w) :: P.zip vs) m x = _
    unfold bindL
    exact bindL_get (i := i) (List.nodup_cons.mp nd).2 (by simpa using h1) (by simpa using h2) hk
theorem bindC_get {kindOf : Str → Option NameKind} {x : Str} {v : Value} : ∀ {P : List Str} {vs : List Value} {i : Nat} {m : Str → Option Value}, P.Nodup → P[i]? = some x → vs[i]? = some v → kindOf x ≠ some .local →
    bindC kindOf (P.zip vs) m x = some v
  | [], _, _, _, _, h, _, _ => by simp at h
  | _ :: _, [], _, _, _, _, h, _ => by simp at h
  | p :: P, w :: vs, 0, m, nd, h1, h2, hk => by
    simp at h1 h2; subst h1; subst h2
    show bindC kindOf ((p, w) :: P.zip vs) m p = _
    unfold bindC
    rw [bindC_out fun v hv => (List.nodup_cons.mp nd).1 (List.of_mem_zip hv).1, if_neg hk]
    simp
  | p :: P, w :: vs, i + 1, m, nd, h1, h2, hk => by
    show bindC kindOf ((p, w) :: P.zip vs) m x = _
    unfold bindC
    exact bindC_get (i := i) (List.nodup_cons.mp nd).2 (by simpa using h1) (by simpa using h2) hk

noncomputable def start (N : List Str) (vs : List V) : St := vs.map some ++ List.replicate (N.length - vs.length) none

noncomputable def cxOf (CX : CXT) (P : Program) (w : World) (K : PySem.W.Frag) (mg : Str → Option Value) (base : Heap) (N : List Str) (qual : Str) (scope : Scope) (f : Addr) (cd : Value) (A : Around) (outer : List Env) (s : Shared) (H : Hp) (E : XK) : Cx where
  prog := P
  w := w
  K := K
  mg := mg
  base := base
  A := A.deeper (envOfC qual scope s.heap.objs.size f cd)
  N := N
  s₀ := s
  H₀ := H
  env := envOfC qual scope s.heap.objs.size f cd
  outer := outer
  stack := envOfC qual scope s.heap.objs.size f cd :: outer
  ex := []
  calm := true
  fn := fun _ => true
  pn := []
  xe := fun e s' => wpAny (model P w) (A.deeper (envOfC qual scope s.heap.objs.size f cd)) (leaving (envOfC qual scope s.heap.objs.size f cd) e) (fun _ s'' => CX outer H s E e s'') (fun e' s'' => CX outer H s E e' s'') s'

theorem cell_has {sc : Scope} {n : Nat} {x : Str} (h : sc.names.lookup x = some .cell) : ∃ c, (cellsFrom n sc.names []).lookup x = some c := by
  have q := PySem.W.cellsFrom_some sc.names n [] (.inl h)
  exact Option.isSome_iff_exists.mp q

theorem inv_start {CX : CXT} {P : Program} {w : World} {K : PySem.W.Frag} {mg : Str → Option Value} {base : Heap} {N ps : List Str} {qual : Str} {scope : Scope} {f : Addr} {cd : Value} {A : Around} {outer : List Env} {s s1 : Shared} {H : Hp} {E : XK} {us : List Value} {vs : List V}
    (S : FnScope N ps scope) (hd : A.handled = none) (e0 : Env0 P w K mg base A outer s H) (hl : vs.length = ps.length) (r : Vals vs us)
    (x : InCallC s s.heap.objs.size (bindL (envOfC qual scope s.heap.objs.size f cd).kindOf (ps.zip us) fun _ => none) (cellsFrom (s.heap.objs.size + 1) scope.names []) (bindC (envOfC qual scope s.heap.objs.size f cd).kindOf (ps.zip us) fun _ => none) s1) :
    Inv (cxOf CX P w K mg base N qual scope f cd A outer s H E) [] (start N vs) H s1 := by
  have hpl : ps.length ≤ N.length := by have := congrArg List.length S.pre; rw [List.length_take] at this; omega
  obtain ⟨h1, tk, rfl, hk⟩ := x.done
  have noA : ∀ b : Addr, b ∉ (cxOf CX P w K mg base N qual scope f cd A outer s H E).ex := fun b z => absurd (show b ∈ ([] : List Addr) from z) (by simp)
  refine ⟨⟨e0.mod, S.kind, rfl, rfl, Nat.le_refl _, fun y z c h1 h2 => ?_, fun y hy => ?_, fun y c _ h => ?_, fun _ => hd, Around.frames_deeper e0.frames, .inr ⟨rfl, rfl⟩, fun b z => absurd z (noA b), e0.bs, e0.bsz, fun b _ _ => noA b, fun b z => absurd z (noA b), e0.funs, e0.frf⟩,
    rfl, e0.bare, Un.kept hk, ⟨_, x.toInCall.ns, fun i y v h1 h2 h3 => ?_⟩, fun y c h => ⟨_, x.cell y c h⟩, e0.hok.fresh (Nat.le_refl _), fun y c h => ?_, fun p hp => absurd (show p ∈ ([] : List (Addr × Obj)) from hp) (by simp), e0.hok.kept hk, ?_⟩
  · exact name_of_addr x.apart (PySem.mem_of_lookup h1) (PySem.mem_of_lookup h2)
  · have hy : scope.names.lookup y = some .cell ∨ scope.names.lookup y = some .free := hy
    rcases hy with hy | hy
    · exact cell_has hy
    · exact absurd rfl (S.nofree _ (PySem.mem_of_lookup hy))
  · exact Nat.le_of_lt (x.above y c (PySem.mem_of_lookup h))
  · have hi : i < vs.length := by
      unfold start at h2
      by_cases hi : i < vs.length
      · exact hi
      · rw [List.getElem?_append_right (by simpa using hi)] at h2
        rw [List.getElem?_replicate] at h2
        split at h2 <;> cases h2
    have ha : vs[i]? = some v := by
      unfold start at h2
      rw [List.getElem?_append_left (by simpa using hi), List.getElem?_map] at h2
      cases e : vs[i]? with
      | none => rw [e] at h2; cases h2
      | some a => rw [e] at h2; cases h2; rfl
    obtain ⟨u, hu, rv⟩ := r.get ha
    have hp : ps[i]? = some y := by
      rw [← S.pre, List.getElem?_take_of_lt (by walk_at "o")]; exact h1
    have ndP : ps.Nodup := by rw [← S.pre]; exact S.nd.sublist (List.take_sublist _ _)
    refine ⟨u, rv, ?_⟩
    rcases S.par y (List.mem_of_getElem? hp) with k | k
    · exact .inl ⟨k, bindL_get ndP hp hu k⟩
    · obtain ⟨c, e⟩ := cell_has (n := s.heap.objs.size + 1) k
      refine .inr ⟨.inl k, c, e, ?_⟩
      have q := x.cell y c e
      rw [bindC_get ndP hp hu (by show scope.names.lookup y ≠ _; rw [k]; decide)] at q
      exact q
  · exact e0.hok.fresh (Nat.le_of_lt (x.above y c (PySem.mem_of_lookup h)))
  · unfold start
    show _ = N.length
    rw [List.length_append, List.length_map, List.length_replicate]
    omega

theorem fn_of {CX : CXT} {P : Program} {w : World} {K : PySem.W.Frag} {mg : Str → Option Value} {base : Heap} {k : Nat} {f : Addr} {name qual : Str} {params : Arguments} {body : List Stmt} {scope : Scope} {dV kV doc pm cdv ct oc : Value} {an od : Option Addr}
    {osl : Array (Option Value)} {N ps : List Str} {sp : Sp} (lk : K.lookup f = some ⟨oc, od, .func (PySem.W.fnOf name qual params body scope dV kV doc pm an cdv ct), osl⟩) (hcd : PySem.W.codeIn K cdv qual = true) (S : FnScope N ps scope)
    (len : ∀ vs H Q E, sp vs H Q E → vs.length = ps.length)
    (hbody : ∀ (A : Around) (outer : List Env) (s : Shared) (H : Hp) (vs : List V) (Q : VK) (E : XK), Room k (A.deeper (envOfC qual scope s.heap.objs.size f cdv)) → sp vs H Q E →
      ∃ t, PSs (cxOf CX P w K mg base N qual scope f cdv A outer s H E) body t ∧ t { nx := fun _ H' => Q .non H', rt := Q } (start N vs) H) :
    FnOk P w K mg base CX (k + 1) f (PySem.W.fnOf name qual params body scope dV kV doc pm an cdv ct) ps sp := by
  refine ⟨len, fun A outer s H args us vs Q E hr e0 hb r hsp => ?_⟩
  have hl := len _ _ _ _ hsp
  have KX : K.In s.heap := e0.mod.kin.keeps fun b o e => (e0.bs b o e).1
  have lim : s.heap.NoLimit := e0.mod.nolimit.keeps fun b o e => (e0.bs b o e).1
  have hkind : ∀ y ∈ ps.zip us, scope.names.lookup y.1 = some .local ∨ (scope.names.lookup y.1 = some .cell ∧ ((cellsFrom (s.heap.objs.size + 1) scope.names []).lookup y.1).isSome = true) := fun ⟨n, v⟩ hy => by
    rcases S.par n (List.of_mem_zip hy).1 with q | q
    · exact .inl q
    · exact .inr ⟨q, PySem.W.cellsFrom_some _ _ _ (.inl q)⟩
  refine codeAny_call_function hr.depth (KX _ _ lk) rfl S.co S.gen rfl (PySem.W.codeRec_of KX hcd) (hb _ _ _ _ ?_)
  refine wpAny_newFunctionEnv_cells S.kind hkind fun env he s1 x => ?_
  subst he
  refine ⟨lim.keeps x.toInCall.keep, codeAny_func ?_⟩
  obtain ⟨t, ht, hq⟩ := hbody A outer s H vs Q E (hr.deeper _) hsp
  have I : Inv (cxOf CX P w K mg base N qual scope f cdv A outer s H E) [] (start N vs) H s1 := inv_start S hr.hd e0 hl r x
  refine wpAny_mono (ht [] s1 (start N vs) H _ I hq) (fun fl s' hs => ?_) fun e s' hs => hs
  have fin : ∀ {σ' : St} {H' : Hp} {v : V} {u : Value}, Inv (cxOf CX P w K mg base N qual scope f cdv A outer s H E) [] σ' H' s' → RelV v u → Q v H' → CE outer P w H s Q u s' :=
    fun {σ' H' v u} J rv q => ⟨v, H', J.os, J.bare, J.base, J.hok, rv, q⟩
  cases fl with
  | ret u =>
    obtain ⟨v, σ', H', J, rv, q⟩ := hs
    exact fin J rv q
  | next =>
    obtain ⟨σ', H', J, q⟩ := hs
    exact fin (v := V.non) (u := Value.none) J rfl q
  | brk =>
    obtain ⟨_, _, _, q⟩ := hs
    exact False.elim q
  | cont =>
    obtain ⟨_, _, _, q⟩ := hs
    exact False.elim q
end L2

namespace L2
open PySem PySem.Spec PyProof.Rows
section
variable {X : Cx} {x : Str} {p pos : Pos} {e : Expr} {es : List Expr} {t : TA} {id T : String} {r : List V → Hp → VK → Prop}

noncomputable def tCB (r : List V → Hp → VK → Prop) (t : TA) : TE := fun σ H Q => t σ H fun vs H1 => r vs H1 Q
theorem pe_callB (hc : CallR X (.builtin id) r) (hg : Gl X x) (hm : X.mg x = none) (hv : bootBuiltins x = some (.builtin id)) (ha : PA X (e :: es) t) (hn : x ≠ "__name__" := by decide) (hdb : (x == ("__debug__" : Str)) = false := by decide)
    (he : starEach (e :: es) X.env = (false, eval e X.env) :: starEach es X.env := by rfl) (hpl : (backTo pos (starEach es X.env)).any (·.1) = false := by rfl) : PE X (.Call (.Name x p) (e :: es) [] pos) (tCB r t) := by
  intro pins s σ H Q I h
  refine wpAny_Call_Name_kw (ld_blt I hg hm hv ?_ hn hdb)
  exact PyProof.Rows.callWith_builtin1 (thn (ha pos pins s σ H _ I h) fun us s1 ⟨vs, H1, I1, r1, q1⟩ => hc pins s1 σ H1 vs us Q I1 r1 q1) he hpl
theorem pe_callTy (hc : CallR X (.type T) r) (hg : Gl X x) (hm : X.mg x = none) (hv : bootBuiltins x = some (.type T)) (ha : PA X (e :: es) t) (hn : x ≠ "__name__" := by decide) (hdb : (x == ("__debug__" : Str)) = false := by decide)
    (he : starEach (e :: es) X.env = (false, eval e X.env) :: starEach es X.env := by rfl) (hpl : (backTo pos (starEach es X.env)).any (·.1) = false := by rfl) : PE X (.Call (.Name x p) (e :: es) [] pos) (tCB r t) := by
  intro pins s σ H Q I h
  refine wpAny_Call_Name_kw (ld_blt I hg hm hv ?_ hn hdb)
  exact PyProof.Rows.callWith_type1 (thn (ha pos pins s σ H _ I h) fun us s1 ⟨vs, H1, I1, r1, q1⟩ => hc pins s1 σ H1 vs us Q I1 r1 q1) he hpl
end
end L2

namespace HT
open PySem PyProof.Rows

section
open PySem.SeqAt
open PySem.AutoSeq1 (wpAny_loadPart')
open PySem.MeetsSeq PySem.MeetsSeq2 PySem.MeetsSeq3

end

section
variable {prog : Program} {w : World} {A : Around} {E : Value → Shared → Prop} {s : Shared}

theorem cat_tup {t b : Addr} {vs ws : List Value} {Q : Value → Shared → Prop} (ht : IsTup s.heap t vs.toArray) (hb : IsTup s.heap b ws.toArray) (hv : vs ≠ [])
    (h1 : ws = [] → Q (.ref t) s) (h2 : ws ≠ [] → Q (.ref s.heap.objs.size) { s with heap := s.heap.push { cls := .type "tuple", data := .seq (vs ++ ws).toArray } })
    (hsz : vs.length + ws.length ≤ sizeLine) : wpAny (model prog w) A (binaryOp .Add (.ref t) (.ref b)) Q E s := by
  obtain ⟨⟨cls, dd, data, sl⟩, ho, hc, n, hd⟩ := id ht
  obtain ⟨⟨cls2, dd2, data2, sl2⟩, ho2, hc2, n2, hd2⟩ := id hb
  simp only at hc hd hc2 hd2
  subst hc hd hc2 hd2
  have e : vs.toArray ++ ws.toArray = (vs ++ ws).toArray := by simp
  by_cases hw : ws = []
  · exact concat_meets ⟨_, ho, rfl⟩ ⟨_, ho2, rfl⟩ noFill_tuple_add seq_tuple_add PySem.F.slot_tuple_add PySem.F.entry_tuple_add (PySem.F.args_tuple_add_2 _ _)
      (tuple_addW1 t b vs.toArray ws.toArray n n2 dd dd2 sl sl2 (by simpa using hv) (by simp [hw])) ⟨ho, ho2, h1 hw⟩
  · refine concat_meets ⟨_, ho, rfl⟩ ⟨_, ho2, rfl⟩ noFill_tuple_add seq_tuple_add PySem.F.slot_tuple_add PySem.F.entry_tuple_add (PySem.F.args_tuple_add_2 _ _)
      (tuple_addW2 t b vs.toArray ws.toArray n n2 dd dd2 sl sl2 (by simpa using hv) (by simpa using hw) (by rw [List.size_toArray, List.size_toArray]; exact hsz)) ⟨ho, ho2, ?_⟩
    rw [e]
    exact h2 hw

noncomputable def sIx (n d : Nat) : Option Int → Nat
  | none => d
  | some v => if v < 0 then (v + (n : Int)).toNat else min v.toNat n
theorem sIx_le (n d : Nat) (hd : d ≤ n) (o : Option Int) : sIx n d o ≤ n := by
  cases o with
  | none => exact hd
  | some v =>
    show (if v < 0 then (v + (n : Int)).toNat else min v.toNat n) ≤ n
    by_cases hv : v < 0
    · rw [if_pos hv]; omega
    · rw [if_neg hv]; exact Nat.min_le_right _ _
theorem clip_eq (v : Int) (n d : Nat) : (if v < 0 then max (v + (n : Int)) 0 else min v (n : Int)) = ((sIx n d (some v) : Nat) : Int) := by
  show (if v < 0 then max (v + (n : Int)) 0 else min v (n : Int)) = (((if v < 0 then (v + (n : Int)).toNat else min v.toNat n) : Nat) : Int)
  by_cases hv : v < 0
  · simp only [if_pos hv]; omega
  · simp only [if_neg hv]; omega
theorem adjust_gen (lo hi : Option Int) (n : Nat) : Builtin.Slice.sliceAdjust lo hi 1 (n : Int) = (((sIx n 0 lo : Nat) : Int), ((sIx n n hi : Nat) : Int)) := by
  have h1 : ¬ ((1 : Int) < 0) := by walk_at "o"
  unfold Builtin.Slice.sliceAdjust
  simp only [h1, if_false]
  refine Prod.ext ?_ ?_
  · cases lo with
    | none => rfl
    | some v => exact clip_eq v n 0
  · cases hi with
    | none => rfl
    | some v => exact clip_eq v n n
theorem places_gen (i j : Nat) : Builtin.Slice.slicePlaces (i : Int) (j : Int) 1 = j - i := by
  unfold Builtin.Slice.slicePlaces
  have h1 : (1 : Int) > 0 := by walk_at "o"
  simp only [h1, if_true, Int.ediv_one]
  split <;> omega
theorem slicePart_ {v : Value} {o : Option Int} {Q : Option Int → Shared → Prop} (p : IsPart v o) (h : Q o s) : wpAny (model prog w) A (Builtin.Slice.slicePartIndex v) Q E s := by
  cases p with
  | none => exact slicePart_none h
  | int i t => exact slicePart_int h
theorem sliceApplied_gen {sl : Addr} {vl vu : Value} {lo hi : Option Int} {n : Nat} {Q : Int × Int × Nat → Shared → Prop} (hs : s.heap.IsSliceOf sl vl vu .none) (pl : IsPart vl lo) (pu : IsPart vu hi)
    (h : Q (((sIx n 0 lo : Nat) : Int), 1, sIx n n hi - sIx n 0 lo) s) : wpAny (model prog w) A (Builtin.Slice.sliceApplied (.ref sl) (pure (n : Int))) Q E s := by
  obtain ⟨os, hos, hcs, hds⟩ := id hs
  unfold Builtin.Slice.sliceApplied Builtin.Slice.sliceFields
  refine wpAny_bind (wpAny_bind (wpAny_field hos hds (x := vl) rfl (wpAny_bind (wpAny_field hos hds (x := vu) rfl (wpAny_bind (wpAny_field hos hds (x := .none) rfl (wpAny_pure ?_)))))))
  refine wpAny_bind (slicePart_none ?_)
  show wpAny _ _ (if ((1 : Int) == 0) = true then _ else _) _ _ s
  rw [if_neg (by decide)]
  refine wpAny_bind (slicePart_ pl (wpAny_bind (slicePart_ pu (wpAny_bind (wpAny_pure ?_)))))
  show wpAny _ _ (match Builtin.Slice.sliceAdjust lo hi 1 (n : Int) with | (lo, hi) => pure (lo, (1 : Int), Builtin.Slice.slicePlaces lo hi 1)) _ _ s
  rw [adjust_gen lo hi n]
  show wpAny _ _ (pure (((sIx n 0 lo : Nat) : Int), (1 : Int), Builtin.Slice.slicePlaces ((sIx n 0 lo : Nat) : Int) ((sIx n n hi : Nat) : Int) 1)) _ _ s
  rw [places_gen]
  exact wpAny_pure h
theorem pick_gen (xs : Array Value) (i k : Nat) : ((List.range k).filterMap fun (m : Nat) => xs[((i : Int) + (m : Int) * 1).toNat]?).toArray = ((xs.toList.drop i).take k).toArray := by
  have e : (fun (m : Nat) => xs[((i : Int) + (m : Int) * 1).toNat]?) = fun m => xs[i + m]? := by
    funext m
    have : ((i : Int) + (m : Int) * 1).toNat = i + m := by walk_at "o"
    rw [this]
  rw [e]
  have := pick_run xs i k
  rw [List.filterMap_map] at this
  have e2 : ((fun x => xs[x]?) ∘ fun x => i + x) = fun m => xs[i + m]? := rfl
  rw [e2] at this
  rw [this]

theorem getItem_tuple_cut {t sl : Addr} {items : Array Value} {vl vu : Value} {lo hi : Option Int} {Q : Value → Shared → Prop} (ht : IsTup s.heap t items) (hs : s.heap.IsSliceOf sl vl vu .none) (pl : IsPart vl lo) (pu : IsPart vu hi)
    (hw : ¬ (sIx items.size 0 lo = 0 ∧ sIx items.size items.size hi = items.size))
    (h : Q (.ref s.heap.objs.size) { s with heap := s.heap.push { cls := .type "tuple", data := .seq ((items.toList.drop (sIx items.size 0 lo)).take (sIx items.size items.size hi - sIx items.size 0 lo)).toArray } })
    (hsz : items.size ≤ sizeLine) : wpAny (model prog w) A (getItem (.ref t) (.ref sl)) Q E s := by
  have htake : sizeOk (.seq ((items.toList.drop (sIx items.size 0 lo)).take (sIx items.size items.size hi - sIx items.size 0 lo)).toArray) := by
    show ((items.toList.drop (sIx items.size 0 lo)).take (sIx items.size items.size hi - sIx items.size 0 lo)).toArray.size ≤ sizeLine
    rw [List.size_toArray, List.length_take, List.length_drop, Array.length_toList]
    omega
  have hj : sIx items.size items.size hi ≤ items.size := sIx_le _ _ (Nat.le_refl _) hi
  obtain ⟨os, hos, hcs, hds⟩ := id hs
  have hTs : s.TypeIs (.ref sl) "slice" := ⟨os, hos, hcs⟩
  unfold getItem
  try with_reducible refine wpAny_holding ?_
  first | refine wpAny_bind (wpAny_pure ?_) | skip
  refine wpAny_bind (wpAny_sequenceKey ht.typeIs (by decide) ?_)
  refine wpAny_bind (wpAny_callSpecial?_slot (name := Str.ofString "__getitem__") ht.typeIs PyProof.Rows.slot_tuple_getitem
    (wpAny_call_entry PyProof.Rows.slot_tuple_getitem ht.typeIs entry_tuple_getitem ?_ (args_tuple_getitem _ _)))
  show wpAny _ _ (Builtin.Tuple.tupleItemsOf (.ref t) >>= _) _ _ s
  refine wpAny_bind (tupleItemsOf_ ht ?_)
  refine wpAny_bind (wpAny_typeOf hTs ?_)
  rw [if_pos (by decide)]
  refine wpAny_bind (sliceApplied_gen hs pl pu ?_)
  have hno : ¬ ((((sIx items.size 0 lo : Nat) : Int) == 0 && (1 : Int) == 1 && (sIx items.size items.size hi - sIx items.size 0 lo) == items.size) = true) := by
    intro q
    rw [Bool.and_eq_true, Bool.and_eq_true] at q
    have q1 : ((sIx items.size 0 lo : Nat) : Int) = 0 := eq_of_beq q.1.1
    have q2 : sIx items.size items.size hi - sIx items.size 0 lo = items.size := eq_of_beq q.2
    exact hw ⟨by walk_at "o", by walk_at "o"⟩
  show wpAny _ _ (if (((sIx items.size 0 lo : Nat) : Int) == 0 && (1 : Int) == 1 && (sIx items.size items.size hi - sIx items.size 0 lo) == items.size) = true then _ else _) _ _ s
  rw [if_neg hno, pick_gen]
  first
    | exact wpAny_bind (m := Builtin.Tuple.tupleExact _) (wpAny_newObj_type (wpAny_pure ⟨_, rfl, wpAny_pure h⟩) htake)
    | exact wpAny_bind (m := Builtin.Tuple.tupleExact _) (wpAny_newObj_type (wpAny_bind (wpAny_pure (wpAny_pure ⟨_, rfl, wpAny_pure h⟩))) htake)
    | exact wpAny_bind (wpAny_bind (m := Builtin.Tuple.tupleExact _) (wpAny_newObj_type (wpAny_pure (wpAny_pure ⟨_, rfl, wpAny_pure h⟩)) htake))
    | exact wpAny_bind (wpAny_bind (m := Builtin.Tuple.tupleExact _) (wpAny_newObj_type (wpAny_pure ⟨_, rfl, wpAny_pure h⟩) htake))
end
end HT

namespace L2
open PySem PySem.Spec PyProof.Rows

abbrev TO := St → Hp → (Option Int → Hp → Prop) → Prop
noncomputable def PO (X : Cx) (e : Option Expr) (t : TO) : Prop :=
  ∀ (pins : List (Addr × Obj)) (s : Shared) (σ : St) (H : Hp) (Q : Option Int → Hp → Prop), Inv X pins σ H s → t σ H Q →
    wpAny (model X.prog X.w) X.A (evalPart e X.env) (fun u s' => ∃ o H', Inv X pins σ H' s' ∧ IsPart u o ∧ Q o H') X.xe s
noncomputable def tNoPart : TO := fun _ H Q => Q none H
noncomputable def tPart (t : TE) : TO := fun σ H Q => t σ H fun x H1 => ∃ i, x = .int i ∧ Q (some i) H1

theorem intsAre_of {ns : List Int} : ∀ {us : List Value}, Vals (ns.map V.int) us → IntsAre us ns := by
  induction ns with
  | nil => intro us r; rw [List.map_nil] at r; cases r; exact .nil
  | cons n ns ih =>
    intro us r
    rw [List.map_cons] at r
    cases r with
    | cons r1 r2 =>
      obtain ⟨t, e⟩ := r1
      subst e
      exact .cons n t (ih r2)

section
variable {X : Cx} {e : Expr} {te : TE} {lo hi : Option Expr} {tl th : TO} {pos p2 : Pos}

theorem po_none : PO X none tNoPart := by
  intro pins s σ H Q I h
  rw [evalPart_none]
  exact wpAny_pure ⟨none, H, I, .none, h⟩
theorem po_some (h : PE X e te) : PO X (some e) (tPart te) := by
  intro pins s σ H Q I hw
  rw [evalPart_some]
  refine thn (h pins s σ H _ I hw) fun u s1 zz => ?_
  obtain ⟨x, H1, I1, r1, q1⟩ := zz
  obtain ⟨i, rfl, q⟩ := q1
  obtain ⟨t, rfl⟩ := r1
  exact ⟨some i, H1, I1, .int i t, q⟩

noncomputable def SlR (X : Cx) (r : V → Option Int → Option Int → Hp → VK → Prop) : Prop :=
  ∀ (pins : List (Addr × Obj)) (s : Shared) (σ : St) (H : Hp) (x : V) (v vl vu : Value) (lo hi : Option Int) (sl : Addr) (Q : VK), Inv X pins σ H s → RelV x v → s.heap.IsSliceOf sl vl vu .none → IsPart vl lo → IsPart vu hi → r x lo hi H Q →
    ∃ T id, typeLookup (.type T) "__getitem__" = pure (some (.builtin id)) ∧ s.TypeIs v T ∧ wpAny (model X.prog X.w) X.A (getItem v (.ref sl)) (EP X pins σ Q) X.xe s
theorem SlR.or {r r' : V → Option Int → Option Int → Hp → VK → Prop} (h : SlR X r) (h' : SlR X r') : SlR X (fun x lo hi H Q => r x lo hi H Q ∨ r' x lo hi H Q) := by
  intro pins s σ H x v vl vu lo hi sl Q I rx hs pl pu q
  rcases q with q | q
  · exact h pins s σ H x v vl vu lo hi sl Q I rx hs pl pu q
  · exact h' pins s σ H x v vl vu lo hi sl Q I rx hs pl pu q
noncomputable def tSl (r : V → Option Int → Option Int → Hp → VK → Prop) (te : TE) (tl th : TO) : TE := fun σ H Q => te σ H fun x H1 => tl σ H1 fun l H2 => th σ H2 fun u H3 => r x l u H3 Q
theorem pe_slice {r : V → Option Int → Option Int → Hp → VK → Prop} (hr : SlR X r) (he : PE X e te) (hl : PO X lo tl) (hu : PO X hi th) : PE X (.Subscript e (.Slice lo hi none p2) pos) (tSl r te tl th) := by
  intro pins s σ H Q I h
  refine Subscript_ (thn (he pins s σ H _ I h) fun v s1 zz => ?_)
  obtain ⟨x, H1, I1, r1, q1⟩ := zz
  refine wpAny_Slice (thn (hl pins s1 σ H1 _ I1 q1) fun vl s2 zz => ?_)
  obtain ⟨l, H2, I2, pl, q2⟩ := zz
  refine thn (hu pins s2 σ H2 _ I2 q2) fun vu s3 zz => ?_
  obtain ⟨u, H3, I3, pu, q3⟩ := zz
  rw [evalPart_none]
  refine wpAny_pure ?_
  have I4 : Inv X pins σ H3 { s3 with heap := s3.heap.push { cls := .type "slice", data := .fields #[vl, vu, .none] } } := I3.kept (t' := s3.toks) fun b ob q => Heap.get?_push_of_some _ q
  obtain ⟨T, id, hT, ht, hg⟩ := hr pins { s3 with heap := s3.heap.push { cls := .type "slice", data := .fields #[vl, vu, .none] } } σ H3 x v vl vu l u s3.heap.objs.size Q I4 r1 (Heap.IsSliceOf.new ..) pl pu q3
  show wpAny (model X.prog X.w) X.A (subscriptTail e (.Slice lo hi none p2) v (.ref s3.heap.objs.size)) (EP X pins σ Q) X.xe { s3 with heap := s3.heap.push { cls := .type "slice", data := .fields #[vl, vu, .none] } }
  exact tail_any (ops := [.ref s3.heap.objs.size, v]) ht hT hg (by with_unfolding_all rfl)

noncomputable def cutV (xs : List V) (lo hi : Option Int) : List V := (xs.drop (HT.sIx xs.length 0 lo)).take (HT.sIx xs.length xs.length hi - HT.sIx xs.length 0 lo)
theorem cutV_length (xs : List V) (lo hi : Option Int) : (cutV xs lo hi).length ≤ xs.length := by
  unfold cutV
  rw [List.length_take, List.length_drop]
  omega
noncomputable def rSlT (K : PySem.W.Frag) : V → Option Int → Option Int → Hp → VK → Prop := fun x lo hi H Q => ∃ a xs, x = .ref a ∧ SqT K H a xs ∧
  ¬ (HT.sIx xs.length 0 lo = 0 ∧ HT.sIx xs.length xs.length hi = xs.length) ∧ ∀ p, H p = none → Q (.ref p) (upd H p (.tup (cutV xs lo hi)))
theorem sl_tup : SlR X (rSlT X.K) := by
  intro pins s σ H x v vl vu lo hi sl Q I rx hs pl pu h
  obtain ⟨a, xs, rfl, hx, hw, q⟩ := h
  cases rx
  obtain ⟨its, r, ht, hz⟩ := I.tuple hx
  have hlen : its.toArray.size = xs.length := by rw [List.size_toArray]; exact r.length.symm
  refine ⟨"tuple", _, PyProof.Rows.slot_tuple_getitem.lookup, ht.typeIs, ?_⟩
  refine HT.getItem_tuple_cut ht hs pl pu (by rw [hlen]; exact hw) ?_ (by rw [hlen]; exact hz)
  rw [hlen]
  refine ⟨.ref s.heap.objs.size, _, I.laid (t' := s.toks) (o := .tup (cutV xs lo hi)) (fun b ob q => Heap.get?_push_of_some _ q) (Nat.le_refl _) ?_, rfl, q _ (I.hok.fresh (Nat.le_refl _))⟩
  exact ⟨Nat.le_trans (cutV_length xs lo hi) hz, _, (r.drop (HT.sIx xs.length 0 lo)).take (HT.sIx xs.length xs.length hi - HT.sIx xs.length 0 lo), IsTup.new _ _⟩

noncomputable def rCatT (K : PySem.W.Frag) : R2 := fun x y H Q => ∃ a b xs ys, x = .ref a ∧ y = .ref b ∧ SqT K H a xs ∧ SqT K H b ys ∧ xs ≠ [] ∧ xs.length + ys.length ≤ sizeLine ∧
  (ys = [] → Q (.ref a) H) ∧ (ys ≠ [] → ∀ p, H p = none → Q (.ref p) (upd H p (.tup (xs ++ ys))))
theorem Vals.nil_iff {xs : List V} {us : List Value} (r : Vals xs us) : us = [] ↔ xs = [] := by
  cases r with
  | nil => simp
  | cons _ _ => simp
theorem op_catT : OpR X (binaryOp .Add) (rCatT X.K) := by
  intro pins s σ H x y v u Q I rx ry h
  obtain ⟨a, b, xs, ys, rfl, rfl, ha, hb, hx, hz, q1, q2⟩ := h
  cases rx
  cases ry
  obtain ⟨its, r1, p1, _⟩ := I.tuple ha
  obtain ⟨its2, r2, p2, _⟩ := I.tuple hb
  refine HT.cat_tup p1 p2 (fun z => hx (r1.nil_iff.mp z)) (fun z => ⟨.ref a, H, I, rfl, q1 (r2.nil_iff.mp z)⟩) (fun z => ?_) (by rw [← r1.length, ← r2.length]; exact hz)
  refine ⟨.ref s.heap.objs.size, _, I.laid (t' := s.toks) (o := .tup (xs ++ ys)) (fun b ob q => Heap.get?_push_of_some _ q) (Nat.le_refl _) ?_, rfl, q2 (fun w => z (r2.nil_iff.mpr w)) _ (I.hok.fresh (Nat.le_refl _))⟩
  exact ⟨by rw [List.length_append]; exact hz, _, r1.append r2, IsTup.new _ _⟩
end
end L2

namespace L2
open PySem PySem.Spec PyProof.Rows

noncomputable def ixN (n : Nat) (i : Int) : Option Nat := if 0 ≤ i then (if i < n then some i.toNat else none) else if -(n : Int) ≤ i then some (i + n).toNat else none
noncomputable def atI {α : Type} (xs : List α) (i : Int) : Option α := (ixN xs.length i).bind fun j => xs[j]?
theorem ixN_seq {n : Nat} {i : Int} {j : Nat} (h : ixN n i = some j) : seqIndex? i n = some j ∧ j < n ∧ -(n : Int) ≤ i ∧ i < n := by
  unfold ixN at h
  by_cases h0 : 0 ≤ i
  · rw [if_pos h0] at h
    by_cases h1 : i < n
    · rw [if_pos h1] at h
      have e : i.toNat = j := Option.some.inj h
      exact ⟨by rw [seqIndex_of h0 h1, e], by walk_at "o", by walk_at "o", h1⟩
    · rw [if_neg h1] at h; cases h
  · rw [if_neg h0] at h
    by_cases h1 : -(n : Int) ≤ i
    · rw [if_pos h1] at h
      have e : (i + n).toNat = j := Option.some.inj h
      exact ⟨by rw [seqIndex_neg (by walk_at "o") h1, e], by walk_at "o", h1, by walk_at "o"⟩
    · rw [if_neg h1] at h; cases h
theorem atI_get {α : Type} {xs : List α} {i : Int} {v : α} (h : atI xs i = some v) : ∃ j, seqIndex? i xs.length = some j ∧ xs[j]? = some v ∧ j < xs.length ∧ -(xs.length : Int) ≤ i ∧ i < xs.length := by
  unfold atI at h
  cases e : ixN xs.length i with
  | none => rw [e] at h; cases h
  | some j =>
    rw [e] at h
    obtain ⟨h1, h2, h3, h4⟩ := ixN_seq e
    exact ⟨j, h1, h, h2, h3, h4⟩
noncomputable def PlainIx (b : Expr) : Prop := ∀ o i, subscripted b false o i = operate [o, i] (getItem o i)
noncomputable def IxR (X : Cx) (r : R2) : Prop :=
  ∀ (value slice : Expr) (pins : List (Addr × Obj)) (s : Shared) (σ : St) (H : Hp) (x y : V) (v u : Value) (Q : VK), Inv X pins σ H s → RelV x v → RelV y u → r x y H Q →
    subscripted slice false v u = operate [v, u] (getItem v u) → wpAny (model X.prog X.w) X.A (subscriptTail value slice v u) (EP X pins σ Q) X.xe s
section
variable {X : Cx} {a b : Expr} {ta tb : TE} {pos : Pos}
theorem IxR.or {r r' : R2} (h : IxR X r) (h' : IxR X r') : IxR X (fun x y H Q => r x y H Q ∨ r' x y H Q) := by
  intro value slice pins s σ H x y v u Q I rx ry q hs
  rcases q with q | q
  · exact h value slice pins s σ H x y v u Q I rx ry q hs
  · exact h' value slice pins s σ H x y v u Q I rx ry q hs
theorem pe_ix {r : R2} (hr : IxR X r) (ha : PE X a ta) (hb : PE X b tb) (hs : PlainIx b) : PE X (.Subscript a b pos) (tOp r ta tb) := by
  intro pins s σ H Q I h
  exact Subscript_ (binT ha hb I h fun v u s2 x y H2 I2 rx ry q => hr a b pins s2 σ H2 x y v u Q I2 rx ry q (hs _ _))

noncomputable def rIxL (K : PySem.W.Frag) : R2 := fun x y H Q => ∃ p xs i v, x = .ref p ∧ y = .int i ∧ SqL K H p xs ∧ atI xs i = some v ∧ Q v H
noncomputable def rIxT (K : PySem.W.Frag) : R2 := fun x y H Q => ∃ p xs i v, x = .ref p ∧ y = .int i ∧ SqT K H p xs ∧ atI xs i = some v ∧ Q v H
noncomputable def rIxS : R2 := fun x y H Q => ∃ z i c, x = .str z ∧ y = .int i ∧ z.length ≤ sizeLine ∧ atI z.cps.toList i = some c ∧ Q (.str ⟨#[c]⟩) H
theorem ix_list : IxR X (rIxL X.K) := by
  intro value slice pins s σ H x y v u Q I rx ry h hs
  obtain ⟨p, xs, i, z, rfl, rfl, hq, he, q⟩ := h
  cases rx
  obtain ⟨t, rfl⟩ := ry
  obtain ⟨its, r, pl, hz⟩ := I.list hq
  obtain ⟨j, h1, h2, h3, h4, h5⟩ := atI_get he
  obtain ⟨w, ew, rw'⟩ := r.get h2
  have hl := r.length
  have hn := line63
  have fin : EP X pins σ Q w s := ⟨z, H, I, rw', q⟩
  by_cases h0 : 0 ≤ i
  · have hj : i.toNat = j := by
      rw [seqIndex_of h0 h5] at h1
      exact Option.some.inj h1
    exact item_listR pl.isList h0 (by walk_at "o") (by rw [hj]; simpa using ew) fin hs
  · have hj : (i + (its.toArray.size : Int)).toNat = j := by
      rw [seqIndex_neg (by walk_at "o") h4] at h1
      rw [List.size_toArray, ← hl]
      exact Option.some.inj h1
    exact subscriptTail_builtinR (x := w) pl.isList.typeIs slot_list_getitem.lookup
      (wpAny_getItem_list_neg (Q := fun r s' => r = w ∧ EP X pins σ Q r s') pl.isList (by walk_at "o") (by rw [List.size_toArray] <;> omega) (by walk_at "o") (by rw [hj]; simpa using ew) ⟨rfl, fin⟩) hs
theorem ix_tup : IxR X (rIxT X.K) := by
  intro value slice pins s σ H x y v u Q I rx ry h hs
  obtain ⟨p, xs, i, z, rfl, rfl, hq, he, q⟩ := h
  cases rx
  obtain ⟨t, rfl⟩ := ry
  obtain ⟨its, r, pl, hz⟩ := I.tuple hq
  obtain ⟨j, h1, h2, h3, h4, h5⟩ := atI_get he
  obtain ⟨w, ew, rw'⟩ := r.get h2
  have hl := r.length
  have hn := line63
  have fin : EP X pins σ Q w s := ⟨z, H, I, rw', q⟩
  exact subscriptTail_builtinR (x := w) pl.typeIs slot_tuple_getitem.lookup
    (getItem_tuple (j := j) (Q := fun r s' => r = w ∧ EP X pins σ Q r s') pl (by walk_at "o") (by walk_at "o") (by rw [List.size_toArray, ← hl]; exact h1) (by simpa using ew) ⟨rfl, fin⟩) hs
theorem ix_str : IxR X rIxS := by
  intro value slice pins s σ H x y v u Q I rx ry h hs
  obtain ⟨z, i, c, rfl, rfl, hz, he, q⟩ := h
  obtain ⟨t, rfl⟩ := rx
  obtain ⟨t', rfl⟩ := ry
  obtain ⟨j, h1, h2, h3, h4, h5⟩ := atI_get he
  have hl : z.cps.toList.length = z.length := by simp [Str.length]
  rw [hl] at h1 h4 h5
  have hn := line63
  exact tail_any (typeIs_str s z t) slot_str_getitem.lookup (getItem_str (c := c) (by
    have e1 : decide (i < -(2 ^ 63 : Int)) = false := decide_eq_false (by walk_at "o")
    have e2 : decide (i ≥ 2 ^ 63) = false := decide_eq_false (by walk_at "o")
    rw [e1, e2, Bool.or_false]) (by rw [h1]; simpa using h2) ⟨.str ⟨#[c]⟩, H, I.tok _, ⟨_, rfl⟩, q⟩) hs
noncomputable def rIx (K : PySem.W.Frag) : R2 := fun x y H Q => rIxL K x y H Q ∨ rIxT K x y H Q ∨ rIxS x y H Q
theorem ix_seq : IxR X (rIx X.K) := ix_list.or (ix_tup.or ix_str)

theorem Inv.lst {pins : List (Addr × Obj)} {σ : St} {H : Hp} {s : Shared} {p : Addr} {xs : List V} (I : Inv X pins σ H s) (h : H p = some (.lst xs)) :
    ∃ (its : List Value) (n : Nat), Vals xs its ∧ s.heap.get? p = some { cls := .type "list", data := .seq its.toArray n } ∧ xs.length ≤ sizeLine := by
  obtain ⟨z, its, n, r, e⟩ := I.hok p _ h
  exact ⟨its, n, r, e, z⟩
theorem slice_bounds (lo hi : Option Int) (n : Nat) : (sliceBounds lo hi none n).1 = ((HT.sIx n 0 lo : Nat) : Int) ∧ (sliceBounds lo hi none n).2.1 = ((HT.sIx n n hi : Nat) : Int) ∧ (sliceBounds lo hi none n).2.2 = 1 := by
  refine ⟨?_, ?_, rfl⟩
  · cases lo with
    | none => simp [sliceBounds, HT.sIx]
    | some i =>
      simp only [sliceBounds, HT.sIx, Option.getD_none, show (1 : Int) > 0 by decide, if_true]
      by_cases h : i < 0
      · simp only [h, if_true] <;> omega
      · simp only [h, if_false] <;> omega
  · cases hi with
    | none => simp [sliceBounds, HT.sIx]
    | some i =>
      simp only [sliceBounds, HT.sIx, Option.getD_none, show (1 : Int) > 0 by decide, if_true]
      by_cases h : i < 0
      · simp only [h, if_true] <;> omega
      · simp only [h, if_false] <;> omega
theorem slicePick_cut (its : List Value) (lo hi : Option Int) : slicePick its.toArray lo hi none = ((its.drop (HT.sIx its.length 0 lo)).take (HT.sIx its.length its.length hi - HT.sIx its.length 0 lo)).toArray := by
  obtain ⟨h1, h2, h3⟩ := slice_bounds lo hi its.toArray.size
  unfold slicePick
  rw [h1, h2, h3]
  simp only [sliceRange_one, pick_run, List.size_toArray] <;> rfl
noncomputable def rSlL (K : PySem.W.Frag) : V → Option Int → Option Int → Hp → VK → Prop := fun x lo hi H Q => ∃ a xs, x = .ref a ∧ SqL K H a xs ∧ ∀ p, H p = none → Q (.ref p) (upd H p (.lst (cutV xs lo hi)))
theorem sl_list : SlR X (rSlL X.K) := by
  intro pins s σ H x v vl vu lo hi sl Q I rx hs pl pu h
  obtain ⟨a, xs, rfl, hx, q⟩ := h
  cases rx
  obtain ⟨its, r, ht, hz⟩ := I.list hx
  have hlen := r.length
  refine ⟨"list", _, slot_list_getitem.lookup, ht.isList.typeIs, ?_⟩
  refine wpAny_getItem_list_slice ht.isList hs pl pu .none (by simp) ?_ (by rw [List.size_toArray] <;> omega)
  rw [slicePick_cut, ← hlen]
  refine ⟨.ref s.heap.objs.size, _, I.laid (t' := s.toks) (o := .lst (cutV xs lo hi)) (fun b ob q => Heap.get?_push_of_some _ q) (Nat.le_refl _) ?_, rfl, q _ (I.hok.fresh (Nat.le_refl _))⟩
  exact ⟨Nat.le_trans (cutV_length xs lo hi) hz, _, 0, (r.drop (HT.sIx xs.length 0 lo)).take (HT.sIx xs.length xs.length hi - HT.sIx xs.length 0 lo), Heap.get?_push_size _ rfl⟩

theorem call_len_seq : CallR X (.builtin "len") (fun xs H Q => ∃ p ys, xs = [.ref p] ∧ (SqL X.K H p ys ∨ SqT X.K H p ys) ∧ Q (.int ys.length) H) := by
  intro pins s σ H xs us Q I r h
  obtain ⟨p, ys, rfl, hq, q⟩ := h
  obtain ⟨u, rfl, rx⟩ := vals1 r
  cases rx
  have hn := line63
  rcases hq with hq | hq
  · obtain ⟨its, r', pl, hz⟩ := I.list hq
    have hlen := r'.length
    exact Calls.call_len_list pl.isList (by simp only [List.size_toArray] <;> omega) ⟨.int ys.length, H, I.tok _, ⟨s.toks + 1, by rw [List.size_toArray, hlen]⟩, q⟩
  · obtain ⟨its, r', pl, hz⟩ := I.tuple hq
    have hlen := r'.length
    exact len_tuple pl (by simp only [List.size_toArray] <;> omega) ⟨.int ys.length, H, I.tok _, ⟨s.toks + 1, by rw [List.size_toArray, hlen]⟩, q⟩
theorem call_len_str : CallR X (.builtin "len") (fun xs H Q => ∃ z, xs = [.str z] ∧ z.length ≤ sizeLine ∧ Q (.int z.length) H) := by
  intro pins s σ H xs us Q I r h
  obtain ⟨z, rfl, hz, q⟩ := h
  obtain ⟨u, rfl, t, rfl⟩ := vals1 r
  have hn := line63
  exact len_str (by walk_at "o") ⟨.int z.length, H, I.tok _, ⟨_, rfl⟩, q⟩
theorem CallR.or {f : Value} {r r' : List V → Hp → VK → Prop} (h : CallR X f r) (h' : CallR X f r') : CallR X f (fun xs H Q => r xs H Q ∨ r' xs H Q) := by
  intro pins s σ H xs us Q I rs q
  rcases q with q | q
  · exact h pins s σ H xs us Q I rs q
  · exact h' pins s σ H xs us Q I rs q
theorem call_list_of : CallR X (.type "list") (fun xs H Q => ∃ p ys, xs = [.ref p] ∧ (SqL X.K H p ys ∨ SqT X.K H p ys) ∧ ∀ l, H l = none → Q (.ref l) (upd H l (.lst ys))) := by
  intro pins s σ H xs us Q I r h
  obtain ⟨p, ys, rfl, hq, q⟩ := h
  obtain ⟨u, rfl, rx⟩ := vals1 r
  cases rx
  have fin : ∀ (its : List Value), Vals ys its → ys.length ≤ sizeLine → ∀ (h' : Heap) (c' : Nat), (∀ b o', s.heap.get? b = some o' → h'.get? b = some o') →
      h'.get? s.heap.objs.size = some { cls := .type "list", dict := none, data := .seq its.toArray c', slots := #[] } → EP X pins σ Q (.ref s.heap.objs.size) { s with heap := h' } := fun its r' hz h' c' kp e =>
    ⟨.ref s.heap.objs.size, _, I.laid (t' := s.toks) kp (Nat.le_refl _) (show ObjOk X.prog X.w _ h' _ (.lst ys) from ⟨hz, its, c', r', e⟩), rfl, q _ (I.hok.fresh (Nat.le_refl _))⟩
  rcases hq with hq | hq
  · obtain ⟨its, r', pl, hz⟩ := I.list hq
    have hlen := r'.length
    obtain ⟨o, ho, hc, n, hd⟩ := pl.isList
    exact call_list_seq p (.inl rfl) ho hc hd (fun h' c' kp e => fin its r' hz h' c' kp e) (by simp only [List.size_toArray] <;> omega)
  · obtain ⟨its, r', pl, hz⟩ := I.tuple hq
    have hlen := r'.length
    obtain ⟨o, ho, hc, n, hd⟩ := pl
    exact call_list_seq p (.inr rfl) ho hc hd (fun h' c' kp e => fin its r' hz h' c' kp e) (by simp only [List.size_toArray] <;> omega)
variable {o e : Expr} {es : List Expr} {to : TE} {t : TA} {name : Str} {apos cpos : Pos} {T id : String} {r : V → List V → Hp → VK → Prop}
end
end L2

namespace L2
open PySem PySem.Spec PyProof.Rows

noncomputable def MtM (X : Cx) (id : String) (r : V → List V → Hp → VK → Prop) : Prop :=
  ∀ (pins : List (Addr × Obj)) (s : Shared) (σ : St) (H : Hp) (x : V) (xs : List V) (v : Value) (us : List Value) (Q : VK), Inv X pins σ H s → RelV x v → Vals xs us → r x xs H Q →
    wpAny (model X.prog X.w) X.A (call (.builtin id) (v :: us)) (EP X pins σ Q) X.xe s

theorem Vals.one : ∀ {x : V} {us : List Value}, Vals [x] us → ∃ u, us = [u] ∧ RelV x u
  | _, _, .cons r .nil => ⟨_, rfl, r⟩
section
variable {X : Cx} {pins : List (Addr × Obj)} {σ : St} {H : Hp} {s : Shared} {l b : Addr} {xs ys zs : List V}

theorem Inv.lset {its its' : List Value} {n : Nat} {f : Array Value → Array Value} {t' : Nat} (I : Inv X pins σ H s) (hH : H l = some (.lst xs))
    (e : s.heap.get? l = some { cls := .type "list", data := .seq its.toArray n }) (hf : f its.toArray = its'.toArray) (hv : Vals ys its') (hz : ys.length ≤ sizeLine) :
    Inv X pins σ (upd H l (.lst ys)) { s with heap := s.heap.update l (Obj.mapSeq f), toks := t' } := by
  have q := PySem.IsL.update e f
  rw [hf] at q
  refine I.write (x := l) (e := l) (by rw [hH]; exact trivial) (.inl rfl) (fun b' u hb hu => (Heap.get?_update_other s.heap (Obj.mapSeq f) (Ne.symm hb)).trans hu) ⟨_, q⟩ ?_
  exact ⟨hz, its', _, hv, q⟩
theorem Inv.lnew {its : List Value} {t' : Nat} (I : Inv X pins σ H s) (hv : Vals ys its) (hz : ys.length ≤ sizeLine) :
    Inv X pins σ (upd H s.heap.objs.size (.lst ys)) { s with heap := s.heap.push { cls := .type "list", data := .seq its.toArray }, toks := t' } :=
  I.laid (fun _ _ q => Heap.get?_push_of_some _ q) (Nat.le_refl _) ⟨hz, its, 0, hv, Heap.get?_push_size _ rfl⟩
theorem Inv.fresh (I : Inv X pins σ H s) : H s.heap.objs.size = none := I.hok.fresh (Nat.le_refl _)
theorem Inv.lstM (I : Inv X pins σ H s) (hH : H l = some (.lst xs)) : xs.length ≤ sizeLine ∧ ∃ (its : List Value) (n : Nat), Vals xs its ∧ xs.length = its.length ∧ s.heap.get? l = some { cls := .type "list", data := .seq its.toArray n } := by
  obtain ⟨z, its, n, r, e⟩ := I.hok l _ hH
  exact ⟨z, its, n, r, r.length, e⟩

end

section
variable {X : Cx}

noncomputable def rAppend : V → List V → Hp → VK → Prop := fun x vs H Q => ∃ l xs y, x = .ref l ∧ vs = [y] ∧ H l = some (.lst xs) ∧ xs.length < sizeLine ∧ Q .non (upd H l (.lst (xs ++ [y])))
theorem mt_append : MtM X "list.append" rAppend := by
  intro pins s σ H x vs v us Q I rx rv h
  obtain ⟨l, xs, y, rfl, rfl, hH, hz, q⟩ := h
  cases rx
  obtain ⟨u, rfl, ru⟩ := rv.one
  obtain ⟨z, its, n, r, hl, e⟩ := I.lstM hH
  refine call_meets F.slot_list_append ⟨_, e, rfl⟩ F.entry_list_append (F.args_list_append_2 _ _) (PySem.list_append l its.toArray n u (by rw [List.size_toArray]; omega)) ⟨e, ?_⟩
  refine ⟨.non, _, I.lset (its' := its ++ [u]) hH e (by simp) (r.append (.cons ru .nil)) ?_, rfl, q⟩
  rw [List.length_append, List.length_singleton]
  omega

theorem len_rep {α : Type} (xs : List α) (k : Nat) : (List.replicate k xs).flatten.length = k * xs.length := by
  induction k with
  | zero => simp
  | succ k ih => rw [List.replicate_succ, List.flatten_cons, List.length_append, ih, Nat.succ_mul, Nat.add_comm]
end

section
variable {prog : Program} {w : World} {A : Around} {E : Value → Shared → Prop} {s : Shared}
end

section
variable {X : Cx}
end
end L2

namespace Att
open PySem PySem.W PySem.Calls PyProof.Rows

theorem ints_of_wellAll {P : Params} {h : Heap} : ∀ (ns : List Int) (vs : List Value), WellAll P h vs (ns.map WData.int) → IntsAre vs ns := by
  intro ns
  induction ns with
  | nil =>
    intro vs w
    rw [List.map_nil] at w
    cases w
    exact .nil
  | cons n ns ih =>
    intro vs w
    rw [List.map_cons] at w
    cases w with
    | cons a b =>
      cases a
      exact .cons _ _ (ih _ b)

theorem script_of {l : OpenLaw} {n : Nat} (hn : l.most = some n) {P : Params} {h : Heap} {args : List WData} {vals : List Value}
    (hpre : l.row.toRowW.claim.pre args = true) (hwl : WellAll P h vals args) :
    ∃ a vs ns, vals = [Value.ref a] ∧ args = [WData.list (ns.map WData.int)] ∧ h.get? a = some { cls := .type "list", data := .seq vs.toArray } ∧ IntsAre vs ns ∧ ns.length ≤ n := by
  have hsh : WShape.hasAll [] args [.list .int] = true := (pre_splitW hpre).1
  have hc : l.pre.holds [] { args := args } = true := (pre_splitW hpre).2
  obtain ⟨d, r, rfl, h1, h2⟩ := hasAllW_cons hsh
  obtain rfl := hasAllW_nil h2
  obtain ⟨xs, rfl, h3⟩ := hasW_list h1
  obtain ⟨ns, rfl⟩ := items_int h3
  have hlen : ns.length ≤ n := by
    unfold OpenLaw.pre at hc
    have h4 : (WTm.not (.lt (.lit (.int (n : Int))) (.len (.arg 0)))).holds [] { args := [.list (ns.map .int)] } = true := by
      have h4 := (holds_andW hc).1
      rw [hn] at h4
      exact h4
    have h5 := condW_of h4 (w_not (w_lt w_lit (w_len_list (w_arg rfl))))
    rw [List.length_map] at h5
    refine Nat.le_of_not_lt fun q => ?_
    have q' : (n : Int) < ((ns.length : Nat) : Int) := by walk_at "o"
    first
      | (rw [decide_eq_true q'] at h5; exact absurd h5 (by decide))
      | (simp at h5; omega)
  cases hwl with
  | cons w1 w2 =>
    cases w2
    cases w1 with
    | list ho hall => exact ⟨_, _, ns, rfl, rfl, ho, ints_of_wellAll ns _ hall, hlen⟩

theorem post_true (l : OpenLaw) (args : List WData) : l.row.toRowW.claim.post args (.bool true) args = true :=
  postW_of (r := l.row.toRowW) (X := (true == true))
    (show WShape.has [] (.bool true) .bool = true by first | rfl | decide | simp [WShape.has, WShape.arms, WShape.armsAll])
    (show (WTm.eq .res (.lit (.bool true))).value [] { args := args, res := some (.bool true), after := args } = some (.bool (true == true)) from w_eq_bool (w_res rfl) w_lit) rfl

theorem attach_call {l : OpenLaw} {n : Nat} {q : Program} {loose : List Str} {XP : (Str → Option Value) → Heap → Prop} {YP : World → Heap → Prop} {d : DefRec}
    (hn : l.most = some n) (hdf : d.params.defaults = [])
    (call : ∀ (w : World) (s₀ s₁ : Shared) (mg mb : Str → Option Value) (fa : Addr) (o : Obj) (pm cd doc : Value) (a : Addr) (vs : List Value) (ns : List Int),
      Ground q loose [] XP w s₀ mg mb s₁.heap → YP w s₁.heap →
      s₁.heap.get? fa = some o → o.data = .func (docDef d.name d.params d.body d.scope pm cd doc) → s₁.heap.CodeRec cd d.name → mg d.name = some (.ref fa) →
      s₁.heap.get? a = some { cls := .type "list", data := .seq vs.toArray } → IntsAre vs ns → ns.length ≤ n → s₁.gens = #[] →
      codeAny (model l.prog w) callerA (.call (.ref fa) ⟨[.ref a], []⟩) (fun r s' => r = .ok (.ret (.bool true)) ∧ OldK s₁.heap s'.heap ∧ s'.os = s₁.os ∧ AllBare s'.gens) s₁) :
    WalkO q loose XP YP l.row.toRowW d [] (fun f vs => PySem.call f vs) := by
  intro w s₀ s₁ mg mb G Y fa o pm cd doc dV kV ho hd hcd hD hmg hg args vals as hpre hlay hrd hwl hlo
  obtain rfl : dV = .none := Dflts.none hD hdf
  obtain rfl : kV = .none := Dflts.noKw hD
  obtain ⟨a, vs, ns, rfl, rfl, hobj, hints, hlen⟩ := script_of hn hpre hwl
  refine enter_call (codeAny_mono (call w s₀ s₁ mg mb fa o pm cd doc a vs ns G Y ho (fd_plain hd) hcd hmg hobj hints hlen hg) fun r s' hq => ?_)
  obtain ⟨rfl, h2, h3, h4⟩ := hq
  exact ⟨.inl ⟨.bool true, .bool true, [], rfl, fun _ => rfl, .bool true, post_true l _, fun _ => ⟨List.Pairwise.nil, fun _ hm => (nomatch hm)⟩⟩, h2, h3, h4⟩

section
variable {prog : Program} {w : World} {A : Around} {E : Value → Shared → Prop} {s : Shared} {K : Frag}

end
end Att

namespace L2
open PySem PySem.Spec PyProof.Rows

theorem vals_ints : ∀ {vs : List Value} {ns : List Int}, IntsAre vs ns → Vals (ns.map V.int) vs
  | _, _, .nil => .nil
  | _, _, .cons n t h => .cons ⟨t, rfl⟩ (vals_ints h)

noncomputable def Only (H : Hp) : Prop := ∀ b, H b = none ∨ ∃ o xs, H b = some (.frz o (.lst xs))

theorem law_call {P : Program} {w : World} {K : PySem.W.Frag} {mg mb : Str → Option Value} {CX : CXT} {k : Nat} {fa a : Addr} {fd : FuncData} {x : Str} {sp : Sp} {s₁ : Shared} {vs : List Value} {ns : List Int}
    (KX : K.In s₁.heap) (hns : s₁.heap.Ns mainGlobals mg) (hb : s₁.heap.Ns builtinsNs mb) (hbb : ∀ x : Str, x ≠ "__name__" → mb x = bootBuiltins x) (hlim : s₁.heap.NoLimit) (hg : s₁.gens = #[])
    (ha : s₁.heap.get? a = some { cls := .type "list", data := .seq vs.toArray }) (hi : IntsAre vs ns) (hl : ns.length ≤ sizeLine) (hr : Room k callerA)
    (F : ∀ base : Heap, K.In base → base.Ns mainGlobals mg → FnOk P w K mg base CX k fa fd [x] sp) (hbind : ∀ (s : Shared) (u : Value), BindsTo s fd ⟨[u], []⟩ [(x, u)])
    (hsp : ∀ H : Hp, Only H → SqL K H a (ns.map V.int) → sp [.ref a] H (fun v _ => v = .bl true) fun _ _ _ => False)
    (hCX : ∀ H e s', CX [] H s₁ (fun _ _ _ => False) e s' → False) :
    codeAny (model P w) callerA (.call (.ref fa) ⟨[.ref a], []⟩) (fun r s' => r = .ok (.ret (.bool true)) ∧ OldK s₁.heap s'.heap ∧ s'.os = s₁.os ∧ AllBare s'.gens) s₁ := by
  have rv := vals_ints hi
  have lenV := hi.length
  -- from an abstract heap in which nothing but the script may be tracked
  have core : ∀ H : Hp, Only H → SqL K H a (ns.map V.int) → HOk P w H s₁.heap → (∀ b, H b ≠ none → b = a) → (H a ≠ none → K.lookup a = none) →
      codeAny (model P w) callerA (.call (.ref fa) ⟨[.ref a], []⟩) (fun r s' => r = .ok (.ret (.bool true)) ∧ OldK s₁.heap s'.heap ∧ s'.os = s₁.os ∧ AllBare s'.gens) s₁ := by
    intro H hO hS hok hA hK
    have base_of : ∀ {b : Addr} {o : Obj}, s₁.heap.get? b = some o → H b = none → (hidT s₁.heap H).get? b = some o := fun e n => hidT_get e n
    have noA : ∀ {b : Addr} {o : Obj} {es : Array DictEntry} {ep : Nat}, s₁.heap.get? b = some o → o.data = .dict es ep → H b = none := fun {b o es ep} e d => by
      cases q : H b with
      | none => rfl
      | some u =>
        have e' : b = a := hA b (by rw [q]; simp)
        subst e'
        rw [ha] at e; cases e
        have d' : Data.seq vs.toArray _ = Data.dict es ep := d
        cases d'
    have nsK : ∀ {b : Addr} {m : Str → Option Value}, s₁.heap.Ns b m → (hidT s₁.heap H).Ns b m := fun {b m} ⟨o, es, ep, e, d, r⟩ => ⟨o, es, ep, base_of e (noA e d), d, r⟩
    have hKb : K.In (hidT s₁.heap H) := fun b o e => base_of (KX b o e) (by
      cases q : H b with
      | none => rfl
      | some u =>
        have e' : b = a := hA b (by rw [q]; simp)
        subst e'
        rw [hK (by rw [q]; simp)] at e; cases e)
    have hM : Mod K mg (hidT s₁.heap H) := ⟨hKb, nsK hns, ⟨mb, nsK hb, hbb⟩, let ⟨mc, h1, h2⟩ := hlim; ⟨mc, nsK h1, h2⟩⟩
    have e0 : Env0 P w K mg (hidT s₁.heap H) callerA [] s₁ H := ⟨rfl, hM, fun b o e => of_hidT e, Nat.le_of_eq (hidT_size _ _), trivial, fun b hb => absurd (show b ∈ ([] : List Addr) from hb) (by simp), hok, .of_eq hg⟩
    refine codeAny_mono ((F _ hKb (nsK hns)).run callerA [] s₁ H ⟨[.ref a], []⟩ [.ref a] [.ref a] _ _ hr e0 (hbind s₁ (.ref a)) (.cons rfl .nil) (hsp H hO hS)) fun r s' h => ?_
    cases r with
    | error e => exact (hCX H e s' h).elim
    | ok fl =>
      cases fl with
      | next => exact False.elim h
      | brk => exact False.elim h
      | cont => exact False.elim h
      | ret u =>
        obtain ⟨v, H', os, bare, un, hok', r', q⟩ := h
        have q' : v = .bl true := q
        subst q'
        obtain rfl : u = Value.bool true := r'
        refine ⟨rfl, OldK.of_keep fun b o e => ?_, os, bare⟩
        cases q : H b with
        | none => exact un.keep b o e q (by intro z; exact absurd (show b ∈ ([] : List Addr) from z) (by simp)) (by simp)
        | some u =>
          rcases hO b with z | ⟨ob, xs, z⟩
          · rw [q] at z; cases z
          · have z2 := un.frzs b ob _ z
            obtain ⟨e1, _⟩ := hok b _ z
            obtain ⟨e2, _⟩ := hok' b _ z2
            rw [e] at e1; cases e1
            exact e2
  cases hk : K.lookup a with
  | some o =>
    -- the script is one of the module's own objects
    have e := KX a o hk
    rw [ha] at e
    cases e
    refine core (fun _ => none) (fun _ => .inl rfl) (.inr ⟨_, vs.toArray, _, hk, rfl, rfl, rfl, by rw [List.size_toArray, lenV]; exact hl, by simpa using rv⟩) (fun b u z => by have z' : (none : Option HO) = some u := z; cases z') (fun b z => absurd rfl z) fun z => absurd rfl z
  | none =>
    refine core (fun b => if b = a then some (.frz { cls := .type "list", data := .seq vs.toArray } (.lst (ns.map V.int))) else none) (fun b => ?_) (.inl (.inr ⟨{ cls := .type "list", data := .seq vs.toArray }, if_pos rfl⟩)) (fun b u z => ?_) (fun b z => ?_) fun _ => hk
    · by_cases hb : b = a
      · exact .inr ⟨_, _, if_pos hb⟩
      · exact .inl (if_neg hb)
    · by_cases hb : b = a
      · have z' := (if_pos hb).symm.trans z
        cases z'
        subst hb
        exact ⟨ha, by rw [List.length_map]; exact hl, vs, _, rv, ha⟩
      · have z' := (if_neg hb).symm.trans z
        cases z'
    · by_cases hb : b = a
      · exact hb
      · exact absurd (if_neg hb) z
end L2

namespace L2
open PySem PySem.Spec PyProof.Rows

abbrev KOf {K : PySem.W.Frag} {h : Heap} (_ : K.In h) : PySem.W.Frag := K

theorem walk_of {l : PySem.W.OpenLaw} {n k : Nat} {q : Program} {loose : List Str} {XP : (Str → Option Value) → Heap → Prop} {YP : World → Heap → Prop} {d : DefRec} {K : Params → PySem.W.Frag} {CX : World → CXT} {sp : World → Sp} {x : Str}
    (hn : l.most = some n) (hn2 : n ≤ sizeLine) (hdf : d.params.defaults = []) (hr : Room k callerA)
    (hY : ∀ (w : World) (h : Heap), YP w h → (K w.params).In h)
    (F : ∀ (w : World) (mg : Str → Option Value) (fa : Addr) (h : Heap), (K w.params).In h → h.Ns mainGlobals mg → mg d.name = some (.ref fa) →
      ∃ fd : FuncData, (∀ (s : Shared) (u : Value), BindsTo s fd ⟨[u], []⟩ [(x, u)]) ∧
        ∀ base : Heap, (K w.params).In base → base.Ns mainGlobals mg → FnOk l.prog w (K w.params) mg base (CX w) k fa fd [x] (sp w))
    (hsp : ∀ (w : World) (H : Hp) (a : Addr) (ns : List Int), ns.length ≤ n → Only H → SqL (K w.params) H a (ns.map V.int) → sp w [.ref a] H (fun v _ => v = .bl true) fun _ _ _ => False)
    (hCX : ∀ (w : World) (H : Hp) (s : Shared) (e : Value) (s' : Shared), CX w [] H s (fun _ _ _ => False) e s' → False) :
    PySem.W.WalkO q loose XP YP l.row.toRowW d [] (fun f vs => PySem.call f vs) := by
  refine Att.attach_call hn hdf fun w s₀ s₁ mg mb fa o pm cd doc a vs ns G Y ho hd hcd hmg hobj hints hlen hg => ?_
  have KX := hY w _ Y
  obtain ⟨fd, hb, hF⟩ := F w mg fa _ KX G.T.g hmg
  exact law_call KX G.T.g G.T.b G.T.builtins G.T.nolimit hg hobj hints (Nat.le_trans hlen hn2) hr hF hb (fun H hO hS => hsp w H a ns hlen hO hS) fun H e s' => hCX w H s₁ e s'
end L2

/- THE LAST THEOREM (shape; LID, My.* are yours):
   My.Adr: a structure of the addresses that your layer names (classes, functions); My.Txt K t: a structure (Prop) of the equations over K;
   My.txt_mk : {K} {implicit addresses ..} (e1 : nsIn K mainGlobals "law" = some (some (.ref f))) (e2 : K.lookup f = some ⟨oc, od, .func (fnOf "law" "law" params body scope dV kV doc pm an cdv ct), sl⟩) (e3 : codeIn K cdv "law" = true) .. : ∃ t, My.Txt K t

set_option maxRecDepth 100000 in
set_option maxHeartbeats 0 in
theorem PySem.Challenge.cw_LID_holds : PySem.Challenge.rw_LID.Holds := by
  w_on; o_law; k_head; (case hw => w_witness2)
  k_fill
  refine L2.walk_of (l := PySem.Challenge.rw_LID) (n := 63) (k := 40) (x := "script") (CX := fun w => ..) (sp := fun _ => My.sp_law) rfl (by decide) rfl ⟨rfl, by decide, by decide⟩ (fun w h Y => PySem.W.kIn_of Y) ?F ?S ?C
  case F =>
    intro w mg fa h KX G hmg
    have T : ∃ t, My.Txt (L2.KOf KX) t := by
      dsimp only [L2.KOf]                          -- K must stand as «<heap const> w.params» for k_is
      refine' My.txt_mk ?e1 ?e2 ?e3 ..
      (case e1 => PySem.W.k_is)                    -- in the order: a name -> its address -> its object -> its parts
      (case e2 => PySem.W.k_is)
      ..
    obtain ⟨t, T⟩ := T
    have e0 := hmg.symm.trans (PySem.W.mg_of KX G T.law)
    cases e0                                       -- fa is the law's own address
    exact ⟨_, fun s u => .of_eq rfl, fun base kb nb => My.law_fn T kb nb⟩     -- if «.of_eq rfl» comes too early: refine' ⟨_, ?b, fun base kb nb => My.law_fn T kb nb⟩; exact fun s u => .of_eq rfl
  case S => exact fun w H a ns hl hO hS => ..
  case C => exact ..
(the tactic k_is has no namespace: write k_is) -/

namespace L2
open PySem PySem.Spec PyProof.Rows

noncomputable def inClass (s : Stmt) (j : Nat) : Stmt := match s with
  | .ClassDef _ _ _ body _ _ _ _ _ _ _ => body.getD j (.Pass ⟨0, 0, 0, 0⟩)
  | _ => .Pass ⟨0, 0, 0, 0⟩
noncomputable def defArgs (s : Stmt) : Arguments := match s with
  | .FunctionDef _ a _ _ _ _ _ _ _ _ => a
  | _ => { posonlyargs := [], args := [], vararg := none, kwonlyargs := [], kw_defaults := [], kwarg := none, defaults := [] }
noncomputable def defBody (s : Stmt) : List Stmt := match s with
  | .FunctionDef _ _ b _ _ _ _ _ _ _ => b
  | _ => []
noncomputable def defScope (s : Stmt) : Scope := match s with
  | .FunctionDef _ _ _ _ _ _ sc _ _ _ => sc
  | _ => { kind := .function, names := [], isGenerator := false, isCoroutine := false }

abbrev CX0 : CXT := fun _ _ _ _ _ _ => False
abbrev E0 : XK := fun _ _ _ => False
theorem pass0 {X : Cx} : Passes CX0 X E0 := fun _ _ _ _ _ _ _ h => h.elim

section
variable {P : Program} {w : World} {K : PySem.W.Frag} {mg : Str → Option Value} {base : Heap}
end
section
variable {X : Cx}
end

theorem iteF {A B : Prop} (h : B) : if false = true then A else B := by
  rw [if_neg Bool.false_ne_true]
  exact h
theorem iteT {A B : Prop} (h : A) : if true = true then A else B := by
  rw [if_pos rfl]
  exact h
end L2
namespace L2
open PySem PySem.Spec PyProof.Rows

section
variable {κ : Type} [DecidableEq κ]
end


section
variable {P : Program} {w : World} {H : Hp} {h : Heap} {a : Addr}
end

section
variable {X : Cx} {pins : List (Addr × Obj)} {σ : St} {H : Hp} {s : Shared} {a : Addr} {y v : V} {u r : Value} {o : Option V} {A : Around} {E : Value → Shared → Prop}

end

section
variable {X : Cx} {pins : List (Addr × Obj)} {σ : St} {H : Hp} {s : Shared} {a : Addr} {kvs : List (Key × V)} {k : Key} {u : Value} {A : Around} {E : Value → Shared → Prop}
end


section
variable {X : Cx} {o i e value : Expr} {pos pos' tpos : Pos} {td ty tv : TE}
end


section
variable {X : Cx} {pos : Pos}
end

section
variable {X : Cx} {pins : List (Addr × Obj)} {σ : St} {H : Hp} {s : Shared} {a : Addr} {y d : V} {u r : Value} {o : Option V} {A : Around} {E : Value → Shared → Prop}
end

section
variable {X : Cx} {o e f : Expr} {apos cpos : Pos} {td ty tx : TE}
end

section
variable {X : Cx} {pins : List (Addr × Obj)} {σ : St} {H : Hp} {s : Shared} {a : Addr} {kvs : List (Key × V)} {A : Around} {E : Value → Shared → Prop}
end


section
variable {X : Cx} {pins : List (Addr × Obj)} {σ : St} {H : Hp} {s : Shared} {a : Addr} {y : V} {u : Value} {A : Around} {E : Value → Shared → Prop}
end
end L2

namespace L2
open PySem PySem.Spec PyProof.Rows
section
variable {X : Cx}
end
section
variable {κ : Type} [DecidableEq κ]
end
end L2
namespace L3
open PySem PySem.Spec PyProof.Rows L2

abbrev St := L2.St
inductive D where
  | non | bl (b : Bool) | int (i : Int) | str (x : Str) | tup (ds : List D) | lst (ds : List D) | fl (ds : List D) | ref (a : Addr) | ty (n : String)

inductive GO where
  | lst (ds : List D)
  | ins (C : Addr) (L : List Str) (ds : List D)
  | dK (kvs : List (Key × D))
  | dT (hw : List Key → Int) (kvs : List (List Key × D))

abbrev Gp := Addr → Option GO
noncomputable def gset (G : Gp) (a : Addr) (o : GO) : Gp := fun b => if b = a then some o else G b
noncomputable def gdel (G : Gp) (a : Addr) : Gp := fun b => if b = a then none else G b
theorem gset_same {G : Gp} {a : Addr} {o : GO} : gset G a o a = some o := by unfold gset; rw [if_pos rfl]
theorem gset_ne {G : Gp} {a b : Addr} {o : GO} (h : b ≠ a) : gset G a o b = G b := by unfold gset; rw [if_neg h]
theorem gset_gset {G : Gp} {a : Addr} {o u : GO} : gset (gset G a o) a u = gset G a u := by
  funext b; unfold gset; split <;> rfl
noncomputable def FzL (K : PySem.W.Frag) (H : Hp) (a : Addr) (xs : List V) : Prop :=
  (∃ o, H a = some (.frz o (.lst xs))) ∨
    ∃ (o : Obj) (its : Array Value) (n : Nat), K.lookup a = some o ∧ o.cls = .type "list" ∧ o.dict = none ∧ o.data = .seq its n ∧ its.size ≤ sizeLine ∧ Vals xs its.toList
theorem FzL.sq {K : PySem.W.Frag} {H : Hp} {a : Addr} {xs : List V} (h : FzL K H a xs) : SqL K H a xs := by
  rcases h with ⟨o, e⟩ | h
  · exact .inl (.inr ⟨o, e⟩)
  · exact .inr h

mutual
noncomputable def RD (K : PySem.W.Frag) (H : Hp) : D → V → Prop
  | .non, v => v = .non
  | .bl b, v => v = .bl b
  | .int i, v => v = .int i
  | .str x, v => v = .str x
  | .ref a, v => v = .ref a
  | .ty n, v => v = .ty n
  | .fl _, _ => False
  | .tup ds, v => ∃ a xs, v = .ref a ∧ SqT K H a xs ∧ RDs K H ds xs
  | .lst ds, v => ∃ a xs, v = .ref a ∧ FzL K H a xs ∧ RDs K H ds xs
noncomputable def RDs (K : PySem.W.Frag) (H : Hp) : List D → List V → Prop
  | [], xs => xs = []
  | d :: ds, xs => ∃ x r, xs = x :: r ∧ RD K H d x ∧ RDs K H ds r
end

structure Stb (K : PySem.W.Frag) (H H' : Hp) : Prop where
  t : ∀ a xs, SqT K H a xs → SqT K H' a xs
  l : ∀ a xs, FzL K H a xs → FzL K H' a xs
mutual
theorem RD.mono {K : PySem.W.Frag} {H H' : Hp} (s : Stb K H H') : ∀ (d : D) (v : V), RD K H d v → RD K H' d v
  | .non, v, h => by simp only [RD] at h ⊢; exact h
  | .bl b, v, h => by simp only [RD] at h ⊢; exact h
  | .int i, v, h => by simp only [RD] at h ⊢; exact h
  | .str x, v, h => by simp only [RD] at h ⊢; exact h
  | .ref a, v, h => by simp only [RD] at h ⊢; exact h
  | .ty n, v, h => by simp only [RD] at h ⊢; exact h
  | .fl _, v, h => by simp only [RD] at h
  | .tup ds, v, h => by
    simp only [RD] at h ⊢
    obtain ⟨a, xs, e, q, r⟩ := h
    exact ⟨a, xs, e, s.t _ _ q, RDs.mono s ds xs r⟩
  | .lst ds, v, h => by
    simp only [RD] at h ⊢
    obtain ⟨a, xs, e, q, r⟩ := h
    exact ⟨a, xs, e, s.l _ _ q, RDs.mono s ds xs r⟩
theorem RDs.mono {K : PySem.W.Frag} {H H' : Hp} (s : Stb K H H') : ∀ (ds : List D) (xs : List V), RDs K H ds xs → RDs K H' ds xs
  | [], xs, h => by simp only [RDs] at h ⊢; exact h
  | d :: ds, xs, h => by
    simp only [RDs] at h ⊢
    obtain ⟨x, r, e, h1, h2⟩ := h
    exact ⟨x, r, e, RD.mono s d x h1, RDs.mono s ds r h2⟩
end
section
variable {K : PySem.W.Frag} {H : Hp}
theorem RDs.nil : RDs K H [] [] := by simp only [RDs]
theorem RDs.cons {d : D} {x : V} {ds : List D} {xs : List V} (h : RD K H d x) (t : RDs K H ds xs) : RDs K H (d :: ds) (x :: xs) := by
  simp only [RDs]; exact ⟨x, xs, rfl, h, t⟩
theorem RDs.inv_nil {xs : List V} (h : RDs K H [] xs) : xs = [] := by simpa only [RDs] using h
theorem RDs.inv_cons {d : D} {ds : List D} {xs : List V} (h : RDs K H (d :: ds) xs) : ∃ x r, xs = x :: r ∧ RD K H d x ∧ RDs K H ds r := by simpa only [RDs] using h
theorem RDs.length : ∀ {ds : List D} {xs : List V}, RDs K H ds xs → ds.length = xs.length
  | [], xs, h => by rw [h.inv_nil]; rfl
  | d :: ds, xs, h => by
    obtain ⟨x, r, e, _, h2⟩ := h.inv_cons
    subst e
    simp [RDs.length h2]
theorem RDs.get : ∀ {ds : List D} {xs : List V} {i : Nat} {d : D}, RDs K H ds xs → ds[i]? = some d → ∃ x, xs[i]? = some x ∧ RD K H d x
  | [], xs, i, d, h, e => by simp at e
  | c :: ds, xs, 0, d, h, e => by
    obtain ⟨x, r, e1, h1, h2⟩ := h.inv_cons
    subst e1
    simp at e; subst e
    exact ⟨x, rfl, h1⟩
  | c :: ds, xs, i + 1, d, h, e => by
    obtain ⟨x, r, e1, h1, h2⟩ := h.inv_cons
    subst e1
    obtain ⟨y, q1, q2⟩ := RDs.get (i := i) (d := d) h2 (by simpa using e)
    exact ⟨y, by simpa using q1, q2⟩
theorem RDs.append : ∀ {ds es : List D} {xs ys : List V}, RDs K H ds xs → RDs K H es ys → RDs K H (ds ++ es) (xs ++ ys)
  | [], es, xs, ys, h, h' => by rw [h.inv_nil]; exact h'
  | d :: ds, es, xs, ys, h, h' => by
    obtain ⟨x, r, e, h1, h2⟩ := h.inv_cons
    subst e
    exact RDs.cons h1 (RDs.append h2 h')
theorem RDs.take : ∀ {ds : List D} {xs : List V} (n : Nat), RDs K H ds xs → RDs K H (ds.take n) (xs.take n)
  | _, _, 0, _ => by simp only [List.take_zero]; exact RDs.nil
  | [], xs, n + 1, h => by rw [h.inv_nil]; simp only [List.take_nil]; exact RDs.nil
  | d :: ds, xs, n + 1, h => by
    obtain ⟨x, r, e, h1, h2⟩ := h.inv_cons
    subst e
    exact RDs.cons h1 (RDs.take n h2)
theorem RDs.drop : ∀ {ds : List D} {xs : List V} (n : Nat), RDs K H ds xs → RDs K H (ds.drop n) (xs.drop n)
  | _, _, 0, h => by simpa only [List.drop_zero] using h
  | [], xs, n + 1, h => by rw [h.inv_nil]; simp only [List.drop_nil]; exact RDs.nil
  | d :: ds, xs, n + 1, h => by
    obtain ⟨x, r, e, h1, h2⟩ := h.inv_cons
    subst e
    exact RDs.drop n h2
theorem RDs.set : ∀ {ds : List D} {xs : List V} {d : D} {x : V} (n : Nat), RDs K H ds xs → RD K H d x → RDs K H (ds.set n d) (xs.set n x)
  | [], xs, d, x, n, h, _ => by rw [h.inv_nil]; simp only [List.set_nil]; exact RDs.nil
  | c :: ds, xs, d, x, 0, h, h' => by
    obtain ⟨y, r, e, h1, h2⟩ := h.inv_cons
    subst e
    exact RDs.cons h' h2
  | c :: ds, xs, d, x, n + 1, h, h' => by
    obtain ⟨y, r, e, h1, h2⟩ := h.inv_cons
    subst e
    exact RDs.cons h1 (RDs.set n h2 h')
theorem RDs.ints : ∀ ns : List Int, RDs K H (ns.map D.int) (ns.map V.int)
  | [] => RDs.nil
  | n :: r => RDs.cons (by simp only [RD]) (RDs.ints r)
theorem RDs.strs : ∀ ns : List Str, RDs K H (ns.map D.str) (ns.map V.str)
  | [] => RDs.nil
  | n :: r => RDs.cons (by simp only [RD]) (RDs.strs r)
theorem RDs.ints_inv : ∀ (ns : List Int) {xs : List V}, RDs K H (ns.map D.int) xs → xs = ns.map V.int
  | [], xs, h => h.inv_nil
  | n :: r, xs, h => by
    obtain ⟨x, t, e, h1, h2⟩ := RDs.inv_cons (d := .int n) (ds := r.map D.int) h
    simp only [RD] at h1
    subst e h1
    rw [RDs.ints_inv r h2]; rfl
end

noncomputable def DTf (hw : List Key → Int) (a : Addr) (xs : List (List Key × Addr × Value)) : Heap → Prop := fun h => (a == sysModules) = false ∧ ∃ o es ep, h.get? a = some o ∧ o.ExactDict ∧ o.data = .dict es ep ∧ es.toList = xs.map fun x => (⟨hw x.1, .ref x.2.1, x.2.2⟩ : DictEntry)
noncomputable def RTs (K : PySem.W.Frag) (H : Hp) : List (List Key × D) → List (List Key × Addr × Value) → Prop := Paired fun p q => p.1 = q.1 ∧ SqT K H q.2.1 (p.1.map kV) ∧ ∃ v, RD K H p.2 v ∧ RelV v q.2.2
noncomputable def RKs (K : PySem.W.Frag) (H : Hp) : List (Key × D) → List (Key × V) → Prop := Paired fun p q => p.1 = q.1 ∧ RD K H p.2 q.2
noncomputable def RO (K : PySem.W.Frag) (H : Hp) (a : Addr) : GO → HO → Prop
  | .lst ds, .lst xs => RDs K H ds xs
  | .ins C L ds, .ins C' _ gs => C' = C ∧ gs.map (·.1) = L ∧ RDs K H ds (gs.map (·.2))
  | .dK kvs, .dK hs => RKs K H kvs hs
  | .dT hw kvs, .ext φ => ∃ xs, φ = DTf hw a xs ∧ RTs K H kvs xs ∧ (kvs.map (·.1)).Nodup ∧ kvs.length ≤ sizeLine
  | _, _ => False
noncomputable def RG (K : PySem.W.Frag) (H : Hp) (G : Gp) : Prop := ∀ a o, G a = some o → ∃ h, H a = some h ∧ RO K H a o h
noncomputable def Kp (G : Gp) (H : Hp) (G' : Gp) (H' : Hp) : Prop := ∀ a h, H a = some h → G a = none → H' a = some h ∧ G' a = none
noncomputable def Fr3 (G : Gp) (H : Hp) (p : Addr) : Prop := ∀ h, H p = some h → G p ≠ none
section
variable {K : PySem.W.Frag} {H H' H1 H2 : Hp} {G G' G1 G2 : Gp} {p : Addr}
theorem RTs.mono (s : Stb K H H') {kvs : List (List Key × D)} {xs : List (List Key × Addr × Value)} (r : RTs K H kvs xs) : RTs K H' kvs xs := Paired.mapP r fun _ _ zz => by
  obtain ⟨a, b, v, c, d⟩ := zz
  exact (
    ⟨a, s.t _ _ b, v, RD.mono s _ _ c, d⟩)
theorem RKs.mono (s : Stb K H H') {kvs : List (Key × D)} {xs : List (Key × V)} (r : RKs K H kvs xs) : RKs K H' kvs xs := Paired.mapP r fun _ _ zz => by
  obtain ⟨a, b⟩ := zz
  exact (
    ⟨a, RD.mono s _ _ b⟩)
theorem RO.mono (s : Stb K H H') {a : Addr} {o : GO} {h : HO} (r : RO K H a o h) : RO K H' a o h := by
  cases o <;> cases h <;> first
    | exact r.elim
    | exact RDs.mono s _ _ r
    | exact ⟨r.1, r.2.1, RDs.mono s _ _ r.2.2⟩
    | exact RKs.mono s r
    | (obtain ⟨xs, e, q, n⟩ := r; exact ⟨xs, e, q.mono s, n⟩)
theorem RG.none_of (rg : RG K H G) {a : Addr} {h : HO} (e : H a = some h) (n : ∀ o, ¬ RO K H a o h) : G a = none := by
  cases q : G a with
  | none => rfl
  | some o =>
    obtain ⟨h', e', r⟩ := rg a o q
    rw [e] at e'; cases e'
    exact absurd r (n o)
theorem RG.free (rg : RG K H G) (e : H p = none) : G p = none := by
  cases q : G p with
  | none => rfl
  | some o =>
    obtain ⟨h', e', r⟩ := rg p o q
    rw [e] at e'; cases e'
theorem no_tup {a : Addr} (o : GO) (xs : List V) : ¬ RO K H a o (.tup xs) := by cases o <;> exact id
theorem no_frz {a : Addr} (o : GO) (ob : Obj) (u : HO) : ¬ RO K H a o (.frz ob u) := by cases o <;> exact id
theorem Kp.refl : Kp G H G H := fun _ _ e n => ⟨e, n⟩
theorem Kp.trans (a : Kp G H G1 H1) (b : Kp G1 H1 G2 H2) : Kp G H G2 H2 := fun x h e n => b x h (a x h e n).1 (a x h e n).2
theorem Kp.stb (k : Kp G H G' H') (rg : RG K H G) : Stb K H H' where
  t := fun a xs q => by
    rcases q with (q | ⟨o, q⟩) | q
    · exact .inl (.inl (k a _ q (rg.none_of q fun o => no_tup o xs)).1)
    · exact .inl (.inr ⟨o, (k a _ q (rg.none_of q fun o' => no_frz o' o _)).1⟩)
    · exact .inr q
  l := fun a xs q => by
    rcases q with ⟨o, q⟩ | q
    · exact .inl ⟨o, (k a _ q (rg.none_of q fun o' => no_frz o' o _)).1⟩
    · exact .inr q
theorem Kp.fr (k : Kp G H G1 H1) (f : Fr3 G1 H1 p) : Fr3 G H p := fun h e n => f h (k p h e n).1 (k p h e n).2
theorem fr_none (e : H p = none) : Fr3 G H p := fun h q => by rw [e] at q; cases q
theorem Kp.laid {o : HO} (e : H p = none) : Kp G H G (upd H p o) := fun a h q n => ⟨by rw [upd_ne (ne_of_none q e)]; exact q, n⟩
theorem RG.laid {o : HO} (rg : RG K H G) (e : H p = none) : RG K (upd H p o) G := fun a o' q => by
  obtain ⟨h, e1, r⟩ := rg a o' q
  exact ⟨h, by rw [upd_ne (ne_of_none e1 e)]; exact e1, r.mono ((Kp.laid (G := G) e).stb rg)⟩
end

abbrev St3 := List (Option D)
noncomputable def RSo (K : PySem.W.Frag) (H : Hp) : Option D → Option V → Prop
  | some d, some v => RD K H d v
  | none, _ => True
  | some _, none => False
noncomputable def RS (K : PySem.W.Frag) (H : Hp) (σ : St3) (τ : St) : Prop := Paired (RSo K H) σ τ
section
variable {K : PySem.W.Frag} {H H' : Hp}
theorem RSo.mono (s : Stb K H H') : ∀ {a : Option D} {b : Option V}, RSo K H a b → RSo K H' a b
  | some d, some v, r => RD.mono s d v r
  | none, _, _ => trivial
  | some _, none, r => r.elim
theorem RS.mono (s : Stb K H H') {σ : St3} {τ : St} (r : RS K H σ τ) : RS K H' σ τ := Paired.mapP r fun _ _ q => q.mono s
theorem RS.get : ∀ {σ : St3} {τ : St} {i : Nat} {d : D}, RS K H σ τ → σ[i]? = some (some d) → ∃ v, τ[i]? = some (some v) ∧ RD K H d v
  | _, _, _, _, .nil, e => by simp at e
  | _, _, 0, d, .cons (b := b) r _, e => by
    simp at e; subst e
    cases b with
    | none => exact r.elim
    | some v => exact ⟨v, rfl, r⟩
  | _, _, i + 1, d, .cons _ t, e => by
    obtain ⟨v, h1, h2⟩ := RS.get (i := i) (d := d) t (by simpa using e)
    exact ⟨v, by simpa using h1, h2⟩
theorem RS.set {d : D} {v : V} (r : RD K H d v) : ∀ {σ : St3} {τ : St} (i : Nat), RS K H σ τ → RS K H (σ.set i (some d)) (τ.set i (some v))
  | _, _, _, .nil => .nil
  | _, _, 0, .cons _ t => .cons (show RSo K H (some d) (some v) from r) t
  | _, _, i + 1, .cons q t => .cons q (RS.set r i t)
end

noncomputable def RE (K : PySem.W.Frag) (G : Gp) (H : Hp) (G' : Gp) (H' : Hp) (d : D) (v : V) : Prop :=
  (∃ ds p xs, d = .fl ds ∧ v = .ref p ∧ H' p = some (.lst xs) ∧ G' p = none ∧ RDs K H' ds xs ∧ Fr3 G H p) ∨ RD K H' d v
section
variable {K : PySem.W.Frag} {H H' H1 H2 : Hp} {G G' G1 G2 : Gp} {d : D} {v : V}
theorem RE.of (r : RD K H' d v) : RE K G H G' H' d v := .inr r
theorem RE.wait (r : RE K G H G1 H1 d v) (k : Kp G1 H1 G2 H2) (rg : RG K H1 G1) : RE K G H G2 H2 d v := by
  rcases r with ⟨ds, p, xs, e1, e2, e3, e4, e5, e6⟩ | r
  · exact .inl ⟨ds, p, xs, e1, e2, (k p _ e3 e4).1, (k p _ e3 e4).2, RDs.mono (k.stb rg) _ _ e5, e6⟩
  · exact .inr (RD.mono (k.stb rg) _ _ r)
theorem RE.base (r : RE K G1 H1 G2 H2 d v) (k : Kp G H G1 H1) : RE K G H G2 H2 d v := by
  rcases r with ⟨ds, p, xs, e1, e2, e3, e4, e5, e6⟩ | r
  · exact .inl ⟨ds, p, xs, e1, e2, e3, e4, e5, k.fr e6⟩
  · exact .inr r
theorem RE.rd (r : RE K G H G' H' d v) (h : ∀ ds, d ≠ .fl ds) : RD K H' d v := by
  rcases r with ⟨ds, p, xs, e1, _⟩ | r
  · exact absurd e1 (h ds)
  · exact r
theorem RE.int {i : Int} (r : RE K G H G' H' (.int i) v) : v = .int i := by
  have := r.rd (by intro ds h; cases h); simpa only [RD] using this
theorem RE.str {i : Str} (r : RE K G H G' H' (.str i) v) : v = .str i := by
  have := r.rd (by intro ds h; cases h); simpa only [RD] using this
theorem RE.bl {i : Bool} (r : RE K G H G' H' (.bl i) v) : v = .bl i := by
  have := r.rd (by intro ds h; cases h); simpa only [RD] using this
theorem RE.non (r : RE K G H G' H' .non v) : v = .non := by
  have := r.rd (by intro ds h; cases h); simpa only [RD] using this
theorem RE.ref {a : Addr} (r : RE K G H G' H' (.ref a) v) : v = .ref a := by
  have := r.rd (by intro ds h; cases h); simpa only [RD] using this
theorem RE.tup {ds : List D} (r : RE K G H G' H' (.tup ds) v) : ∃ a xs, v = .ref a ∧ SqT K H' a xs ∧ RDs K H' ds xs := by
  have := r.rd (by intro ds h; cases h); simpa only [RD] using this
theorem RE.lst {ds : List D} (r : RE K G H G' H' (.lst ds) v) : ∃ a xs, v = .ref a ∧ FzL K H' a xs ∧ RDs K H' ds xs := by
  have := r.rd (by intro ds h; cases h); simpa only [RD] using this
theorem RE.fl {ds : List D} (r : RE K G H G' H' (.fl ds) v) : ∃ p xs, v = .ref p ∧ H' p = some (.lst xs) ∧ G' p = none ∧ RDs K H' ds xs ∧ Fr3 G H p := by
  rcases r with ⟨ds', p, xs, e1, e2, e3, e4, e5, e6⟩ | r
  · cases e1; exact ⟨p, xs, e2, e3, e4, e5, e6⟩
  · simp only [RD] at r
theorem rd_int {i : Int} : RD K H (.int i) (.int i) := by simp only [RD]
theorem rd_str {i : Str} : RD K H (.str i) (.str i) := by simp only [RD]
theorem rd_bl {i : Bool} : RD K H (.bl i) (.bl i) := by simp only [RD]
theorem rd_non : RD K H .non .non := by simp only [RD]
theorem rd_ref {a : Addr} : RD K H (.ref a) (.ref a) := by simp only [RD]
theorem rd_tup {ds : List D} {xs : List V} {a : Addr} (h : SqT K H a xs) (r : RDs K H ds xs) : RD K H (.tup ds) (.ref a) := by
  simp only [RD]; exact ⟨a, xs, rfl, h, r⟩
theorem rd_lst {ds : List D} {xs : List V} {a : Addr} (h : FzL K H a xs) (r : RDs K H ds xs) : RD K H (.lst ds) (.ref a) := by
  simp only [RD]; exact ⟨a, xs, rfl, h, r⟩
end
noncomputable def asL (G : Gp) : D → Option (List D)
  | .lst ds => some ds
  | .fl ds => some ds
  | .ref a => match G a with
    | some (.lst ds) => some ds
    | _ => none
  | _ => none
noncomputable def asQ (G : Gp) : D → Option (List D)
  | .tup ds => some ds
  | d => asL G d
section
variable {K : PySem.W.Frag} {H H' : Hp} {G G' : Gp} {d : D} {v : V} {ds : List D}
theorem asL_sq (h : asL G' d = some ds) (r : RE K G H G' H' d v) (rg : RG K H' G') : ∃ a xs, v = .ref a ∧ SqL K H' a xs ∧ RDs K H' ds xs := by
  cases d with
  | lst es =>
    obtain ⟨a, xs, e, f, q⟩ := r.lst
    simp only [asL, Option.some.injEq] at h
    subst h
    exact ⟨a, xs, e, f.sq, q⟩
  | fl es =>
    obtain ⟨a, xs, e, f, _, q, _⟩ := r.fl
    simp only [asL, Option.some.injEq] at h
    subst h
    exact ⟨a, xs, e, SqL.of f, q⟩
  | ref a =>
    have e := r.ref
    simp only [asL] at h
    cases q : G' a with
    | none => rw [q] at h; cases h
    | some o =>
      rw [q] at h
      cases o with
      | ins _ _ _ => cases h
      | dK _ => cases h
      | dT _ _ => cases h
      | lst es =>
        simp only [Option.some.injEq] at h
        subst h
        obtain ⟨ho, e1, e2⟩ := rg a _ q
        cases ho with
        | lst xs => exact ⟨a, xs, e, SqL.of e1, e2⟩
        | _ => exact e2.elim
  | _ => simp [asL] at h
theorem asQ_sq (h : asQ G' d = some ds) (r : RE K G H G' H' d v) (rg : RG K H' G') : ∃ a xs, v = .ref a ∧ (SqL K H' a xs ∨ SqT K H' a xs) ∧ RDs K H' ds xs := by
  cases d with
  | tup es =>
    obtain ⟨a, xs, e, f, q⟩ := r.tup
    simp only [asQ, Option.some.injEq] at h
    subst h
    exact ⟨a, xs, e, .inr f, q⟩
  | _ =>
    obtain ⟨a, xs, e, f, q⟩ := asL_sq (by simpa only [asQ] using h) r rg
    exact ⟨a, xs, e, .inl f, q⟩
theorem fl_new {xs : List V} {p : Addr} (rg : RG K H G) (e : H p = none) (r : RDs K H ds xs) : RE K G H G (upd H p (.lst xs)) (.fl ds) (.ref p) :=
  .inl ⟨ds, p, xs, rfl, rfl, upd_same, rg.free e, RDs.mono ((Kp.laid (G := G) e).stb rg) _ _ r, fr_none e⟩
theorem tup_new {xs : List V} {p : Addr} (rg : RG K H G) (e : H p = none) (r : RDs K H ds xs) : RD K (upd H p (.tup xs)) (.tup ds) (.ref p) :=
  rd_tup (SqT.of upd_same) (RDs.mono ((Kp.laid (G := G) e).stb rg) _ _ r)
end
end L3
namespace L2
open PySem PySem.Spec PyProof.Rows
section
variable {X : Cx}
theorem PE.imp {e : Expr} {t t' : TE} (h : PE X e t) (i : ∀ σ H Q, t' σ H Q → t σ H Q) : PE X e t' := fun pins s σ H Q I q => h pins s σ H Q I (i σ H Q q)
theorem PT.imp {e : Expr} {t t' : TT} (h : PT X e t) (i : ∀ σ H Q, t' σ H Q → t σ H Q) : PT X e t' := fun pins s σ H Q I q => h pins s σ H Q I (i σ H Q q)
theorem PW.imp {e : Expr} {t t' : TT} (h : PW X e t) (i : ∀ σ H Q, t' σ H Q → t σ H Q) : PW X e t' := fun wh pins s σ H Q I q => h wh pins s σ H Q I (i σ H Q q)
theorem PA.imp {es : List Expr} {t t' : TA} (h : PA X es t) (i : ∀ σ H Q, t' σ H Q → t σ H Q) : PA X es t' := fun pos pins s σ H Q I q => h pos pins s σ H Q I (i σ H Q q)
theorem PS.imp {e : Stmt} {t t' : TS} (h : PS X e t) (i : ∀ D σ H, t' D σ H → t D σ H) : PS X e t' := fun pins s σ H D I q => h pins s σ H D I (i D σ H q)
theorem PSs.imp {e : List Stmt} {t t' : TS} (h : PSs X e t) (i : ∀ D σ H, t' D σ H → t D σ H) : PSs X e t' := fun pins s σ H D I q => h pins s σ H D I (i D σ H q)
theorem OpR.imp {f : Value → Value → Sem Value} {r r' : R2} (h : OpR X f r) (i : ∀ x y H Q, r' x y H Q → r x y H Q) : OpR X f r' := fun pins s σ H x y v u Q I rx ry q => h pins s σ H x y v u Q I rx ry (i x y H Q q)
theorem CallR.imp {f : Value} {r r' : List V → Hp → VK → Prop} (h : CallR X f r) (i : ∀ xs H Q, r' xs H Q → r xs H Q) : CallR X f r' := fun pins s σ H xs us Q I r q => h pins s σ H xs us Q I r (i xs H Q q)
theorem SlR.imp {r r' : V → Option Int → Option Int → Hp → VK → Prop} (h : SlR X r) (i : ∀ x lo hi H Q, r' x lo hi H Q → r x lo hi H Q) : SlR X r' := fun pins s σ H x v vl vu lo hi sl Q I rx hs pl pu q => h pins s σ H x v vl vu lo hi sl Q I rx hs pl pu (i x lo hi H Q q)
theorem IxR.imp {r r' : R2} (h : IxR X r) (i : ∀ x y H Q, r' x y H Q → r x y H Q) : IxR X r' := fun value slice pins s σ H x y v u Q I rx ry q hs => h value slice pins s σ H x y v u Q I rx ry (i x y H Q q) hs

theorem Inv.freeze {pins : List (Addr × Obj)} {σ : St} {H : Hp} {s : Shared} {p : Addr} {xs : List V} (I : Inv X pins σ H s) (e : H p = some (.lst xs)) : ∃ o, Inv X pins σ (upd H p (.frz o (.lst xs))) s := by
  obtain ⟨its, n, rv, ho, hz⟩ := I.lst e
  have stay : ∀ b, H b = none → (upd H p (.frz { cls := .type "list", data := .seq its.toArray n } (.lst xs))) b = none := fun b hb => by
    rw [upd_ne (fun z => by subst z; rw [hb] at e; cases e)]; exact hb
  refine ⟨{ cls := .type "list", data := .seq its.toArray n }, ⟨I.ok, I.os, I.bare, ⟨I.base.keep, I.base.slot, fun b o h1 h2 h3 => stay b (I.base.free b o h1 h2 h3), I.base.there, fun b ys q => ?_, fun b o u q => ?_, fun b ps q => ?_⟩, I.loc, I.cell, stay _ I.free, fun x c hc => stay c (I.freeC x c hc), fun q hq => ?_, fun b u q => ?_, I.len⟩⟩
  · have q' := I.base.tups b ys q
    rw [upd_ne (fun z => by subst z; rw [e] at q'; cases q')]; exact q'
  · have q' := I.base.frzs b o u q
    rw [upd_ne (fun z => by subst z; rw [e] at q'; cases q')]; exact q'
  · obtain ⟨more, q'⟩ := I.base.tbls b ps q
    exact ⟨more, by rw [upd_ne (fun z => by subst z; rw [e] at q'; cases q')]; exact q'⟩
  · obtain ⟨h1, h2, h3⟩ := I.pin q hq
    exact ⟨h1, stay _ h2, h3⟩
  · by_cases hb : b = p
    · subst hb
      rw [upd_same] at q; cases q
      exact ⟨ho, hz, its, n, rv, ho⟩
    · rw [upd_ne hb] at q
      refine (I.hok b u q).stay (fun _ _ _ z => z) (fun c z => ?_) fun c ys z => ?_
      · rw [upd_ne (fun y => by subst y; rw [e] at z; cases z)]; exact z
      · rw [upd_ne (fun y => by subst y; rw [e] at z; cases z)]; exact z
noncomputable def gh (t : TE) : TE := fun σ H Q => t σ H fun v H1 => Q v H1 ∨ ∃ p xs, v = .ref p ∧ H1 p = some (.lst xs) ∧ ∀ o, Q v (upd H1 p (.frz o (.lst xs)))
theorem pe_gh {e : Expr} {t : TE} (h : PE X e t) : PE X e (gh t) := fun pins s σ H Q I q =>
  thn (h pins s σ H _ I q) fun u s' zz => by
    obtain ⟨v, H', I', r, q'⟩ := zz
    rcases q' with q' | ⟨p, xs, rfl, e, q'⟩
    · exact ⟨v, H', I', r, q'⟩
    · obtain ⟨o, I2⟩ := I'.freeze e
      exact ⟨.ref p, _, I2, r, q' o⟩
end
end L2

namespace L3
open PySem PySem.Spec PyProof.Rows L2
abbrev VK3 := D → Gp → Prop
abbrev TE3 := St3 → Gp → VK3 → Prop
abbrev TT3 := St3 → Gp → (Bool → Gp → Prop) → Prop
abbrev TA3 := St3 → Gp → (List D → Gp → Prop) → Prop
set_option genInjectivity false in
structure Ends3 where
  nx : St3 → Gp → Prop
  rt : VK3
  bk : St3 → Gp → Prop := fun _ _ => False
  ct : St3 → Gp → Prop := fun _ _ => False
abbrev TS3 := Ends3 → St3 → Gp → Prop

noncomputable def Fin3 (K : PySem.W.Frag) (G : Gp) (H : Hp) (Q3 : VK3) (Q : VK) : Prop := ∀ d G' v H', Q3 d G' → Kp G H G' H' → RG K H' G' → RE K G H G' H' d v → Q v H'
noncomputable def lift (K : PySem.W.Frag) (t : TE3) : TE := fun τ H Q => ∃ σ G Q3, RS K H σ τ ∧ RG K H G ∧ t σ G Q3 ∧ Fin3 K G H Q3 Q
noncomputable def liftT (K : PySem.W.Frag) (t : TT3) : TT := fun τ H Q => ∃ σ G Q3, RS K H σ τ ∧ RG K H G ∧ t σ G Q3 ∧ ∀ b G' H', Q3 b G' → Kp G H G' H' → RG K H' G' → Q b H'
noncomputable def liftA (K : PySem.W.Frag) (t : TA3) : TA := fun τ H Q => ∃ σ G Q3, RS K H σ τ ∧ RG K H G ∧ t σ G Q3 ∧ ∀ ds G' vs H', Q3 ds G' → Kp G H G' H' → RG K H' G' → RDs K H' ds vs → Q vs H'
structure EndsOk (K : PySem.W.Frag) (G : Gp) (H : Hp) (D3 : Ends3) (D : Ends) : Prop where
  nx : ∀ σ G' τ H', D3.nx σ G' → Kp G H G' H' → RG K H' G' → RS K H' σ τ → D.nx τ H'
  rt : Fin3 K G H D3.rt D.rt
  bk : ∀ σ G' τ H', D3.bk σ G' → Kp G H G' H' → RG K H' G' → RS K H' σ τ → D.bk τ H'
  ct : ∀ σ G' τ H', D3.ct σ G' → Kp G H G' H' → RG K H' G' → RS K H' σ τ → D.ct τ H'
noncomputable def liftS (K : PySem.W.Frag) (t : TS3) : TS := fun D τ H => ∃ σ G D3, RS K H σ τ ∧ RG K H G ∧ t D3 σ G ∧ EndsOk K G H D3 D
theorem Fin3.base {K : PySem.W.Frag} {G G1 : Gp} {H H1 : Hp} {Q3 : VK3} {Q : VK} (f : Fin3 K G H Q3 Q) (k : Kp G H G1 H1) : Fin3 K G1 H1 Q3 Q :=
  fun d G' v H' q k' rg re => f d G' v H' q (k.trans k') rg (re.base k)
theorem EndsOk.base {K : PySem.W.Frag} {G G1 : Gp} {H H1 : Hp} {D3 : Ends3} {D : Ends} (f : EndsOk K G H D3 D) (k : Kp G H G1 H1) : EndsOk K G1 H1 D3 D :=
  ⟨fun σ G' τ H' q k' => f.nx σ G' τ H' q (k.trans k'), f.rt.base k, fun σ G' τ H' q k' => f.bk σ G' τ H' q (k.trans k'), fun σ G' τ H' q k' => f.ct σ G' τ H' q (k.trans k')⟩

noncomputable def val : D → D
  | .fl ds => .lst ds
  | d => d
theorem val_int {i : Int} : val (.int i) = .int i := rfl
theorem val_str {i : Str} : val (.str i) = .str i := rfl
theorem val_ref {i : Addr} : val (.ref i) = .ref i := rfl
noncomputable def liftV (K : PySem.W.Frag) (t : TE3) : TE := fun τ H Q => ∃ σ G Q3, RS K H σ τ ∧ RG K H G ∧ t σ G Q3 ∧ ∀ d G' v H', Q3 d G' → Kp G H G' H' → RG K H' G' → RD K H' (val d) v → Q v H'
section
variable {X : Cx} {e : Expr} {t : TE3}
theorem frz_kp {K : PySem.W.Frag} {G G' : Gp} {H H' : Hp} {p : Addr} {o : HO} (k : Kp G H G' H') (f : Fr3 G H p) : Kp G H G' (upd H' p o) := fun a h e n => by
  have : a ≠ p := fun z => by subst z; exact f h e n
  exact ⟨by rw [upd_ne this]; exact (k a h e n).1, (k a h e n).2⟩
theorem frz_rg {K : PySem.W.Frag} {G' : Gp} {H' : Hp} {p : Addr} {xs : List V} {o : Obj} (rg : RG K H' G') (e : H' p = some (.lst xs)) (n : G' p = none) : RG K (upd H' p (.frz o (.lst xs))) G' ∧ Stb K H' (upd H' p (.frz o (.lst xs))) := by
  have st : Stb K H' (upd H' p (.frz o (.lst xs))) := by
    constructor
    · intro a ys q
      rcases q with (q | ⟨ob, q⟩) | q
      · exact .inl (.inl (by rw [upd_ne (fun z => by subst z; rw [e] at q; cases q)]; exact q))
      · exact .inl (.inr ⟨ob, by rw [upd_ne (fun z => by subst z; rw [e] at q; cases q)]; exact q⟩)
      · exact .inr q
    · intro a ys q
      rcases q with ⟨ob, q⟩ | q
      · exact .inl ⟨ob, by rw [upd_ne (fun z => by subst z; rw [e] at q; cases q)]; exact q⟩
      · exact .inr q
  refine ⟨fun a o' q => ?_, st⟩
  obtain ⟨h, e1, r⟩ := rg a o' q
  exact ⟨h, by rw [upd_ne (fun z => by subst z; rw [n] at q; cases q)]; exact e1, r.mono st⟩
theorem pe_val (h : PE X e (lift X.K t)) : PE X e (liftV X.K t) := (pe_gh h).imp fun τ H Q zz => by
  obtain ⟨σ, G, Q3, rs, rg, ht, hk⟩ := zz
  refine ⟨σ, G, Q3, rs, rg, ht, fun d G' v H' q k rg' re => ?_⟩
  cases d with
  | fl ds =>
    obtain ⟨p, xs, rfl, e1, e2, e3, e4⟩ := re.fl
    refine .inr ⟨p, xs, rfl, e1, fun o => ?_⟩
    obtain ⟨rg2, st⟩ := frz_rg (o := o) rg' e1 e2
    exact hk _ G' _ _ q (frz_kp (K := X.K) k e4) rg2 (rd_lst (.inl ⟨o, upd_same⟩) (RDs.mono st _ _ e3))
  | _ => exact .inl (hk _ G' v H' q k rg' (re.rd (by intro ds z; cases z)))
end

noncomputable def sNil : TS3 := fun D σ G => D.nx σ G
noncomputable def sSeq (t u : TS3) : TS3 := fun D σ G => t { D with nx := u D } σ G
section
variable {X : Cx} {st : Stmt} {rest : List Stmt} {t u : TS3} {e : Expr} {te : TE3} {pos : Pos}
theorem q_nil : PSs X [] (liftS X.K sNil) := pss_nil.imp fun D τ H zz => by
  obtain ⟨σ, G, D3, rs, rg, h, k⟩ := zz
  exact (
    k.nx σ G τ H h Kp.refl rg rs)
theorem q_cons (h1 : PS X st (liftS X.K t)) (h2 : PSs X rest (liftS X.K u)) : PSs X (st :: rest) (liftS X.K (sSeq t u)) := (pss_cons h1 h2).imp fun D τ H zz => by
  obtain ⟨σ, G, D3, rs, rg, h, k⟩ := zz
  exact (
      ⟨σ, G, { D3 with nx := u D3 }, rs, rg, h, ⟨fun σ' G' τ' H' q k' rg' rs' => ⟨σ', G', D3, rs', rg', q, k.base k'⟩, k.rt, k.bk, k.ct⟩⟩)
theorem q_one (h1 : PS X st (liftS X.K t)) : PSs X [st] (liftS X.K t) := pss_one h1
noncomputable def sDrop (te : TE3) : TS3 := fun D σ G => te σ G fun _ G' => D.nx σ G'
theorem q_expr (he : PE X e (lift X.K te)) (hs : swapsWith e none pos.line X.env = pure false := by rfl) : PS X (.Expr e pos) (liftS X.K (sDrop te)) := (ps_expr he hs).imp fun D τ H zz => by
  obtain ⟨σ, G, D3, rs, rg, h, k⟩ := zz
  exact (
      ⟨σ, G, fun _ G' => D3.nx σ G', rs, rg, h, fun d G' v H' q k' rg' _ => k.nx σ G' τ H' q k' rg' (rs.mono (k'.stb rg))⟩)
noncomputable def sRet (te : TE3) : TS3 := fun D σ G => te σ G D.rt
theorem q_ret (he : PE X e (lift X.K te)) : PS X (.Return (some e) pos) (liftS X.K (sRet te)) := (ps_ret he).imp fun D τ H zz => by
  obtain ⟨σ, G, D3, rs, rg, h, k⟩ := zz
  exact (
    ⟨σ, G, D3.rt, rs, rg, h, k.rt⟩)
noncomputable def sRetN : TS3 := fun D _ G => D.rt .non G
noncomputable def sBreak : TS3 := fun D σ G => D.bk σ G
noncomputable def sCont : TS3 := fun D σ G => D.ct σ G
noncomputable def sIf (c : TT3) (t u : TS3) : TS3 := fun D σ G => c σ G fun b G' => if b = true then t D σ G' else u D σ G'
theorem q_if {c : Expr} {a b : List Stmt} {tc : TT3} (hc : PT X c (liftT X.K tc)) (ha : PSs X a (liftS X.K t)) (hb : PSs X b (liftS X.K u)) : PS X (.If c a b pos) (liftS X.K (sIf tc t u)) :=
  (ps_if hc ha hb).imp fun D τ H zz => by
  obtain ⟨σ, G, D3, rs, rg, h, k⟩ := zz
  exact (
    ⟨σ, G, _, rs, rg, h, fun b G' H' q k' rg' => by
        cases b with
        | true => exact ⟨σ, G', D3, rs.mono (k'.stb rg), rg', q, k.base k'⟩
        | false => exact ⟨σ, G', D3, rs.mono (k'.stb rg), rg', q, k.base k'⟩⟩)
noncomputable def sNever : TS3 := fun _ _ _ => False
theorem q_never : PS X st (liftS X.K sNever) := ps_never.imp fun D τ H zz => by
  obtain ⟨σ, G, D3, rs, rg, h, k⟩ := zz
  exact (
    h)
theorem q_nevers : PSs X rest (liftS X.K sNever) := pss_never.imp fun D τ H zz => by
  obtain ⟨σ, G, D3, rs, rg, h, k⟩ := zz
  exact (
    h)
noncomputable def sSet (i : Nat) (te : TE3) : TS3 := fun D σ G => te σ G fun d G' => D.nx (σ.set i (some (val d))) G'
theorem q_set {i : Nat} {x : Str} {pos' : Pos} (hN : X.N.Nodup) (hi : X.N[i]? = some x) (hx : Loc X.env.scope x) (he : PE X e (lift X.K te)) (hs : swapsWith e (some (.Name x pos')) pos.line X.env = pure false := by rfl)
    (hf : X.fn x = true ∨ X.env.scope.names.lookup x = some .local := by first | exact .inl rfl | exact .inr rfl | assumption) : PS X (.Assign [.Name x pos'] e pos) (liftS X.K (sSet i te)) :=
  (ps_set hN hi hx (pe_val he) hs hf).imp fun D τ H zz => by
  obtain ⟨σ, G, D3, rs, rg, h, k⟩ := zz
  exact (
    ⟨σ, G, _, rs, rg, h, fun d G' v H' q k' rg' rd => k.nx _ G' _ H' q k' rg' ((rs.mono (k'.stb rg)).set rd i)⟩)
noncomputable def sOwn (i : Nat) (te : TE3) : TS3 := fun D σ G => te σ G fun d G' => ∃ ds, d = .fl ds ∧ ∀ p, G' p = none → D.nx (σ.set i (some (.ref p))) (gset G' p (.lst ds))
noncomputable def sRetOwn (i : Nat) : TS3 := fun D σ G => match σ[i]? with
  | some (some (.ref p)) => match G p with
    | some (.lst ds) => D.rt (.fl ds) (gdel G p)
    | _ => False
  | _ => False
end

noncomputable def eVar (i : Nat) : TE3 := fun σ G Q => match σ[i]? with
  | some (some d) => Q d G
  | _ => False
noncomputable def eC (d : D) : TE3 := fun _ G Q => Q d G
section
variable {X : Cx} {pos : Pos} {j : Nat}
theorem p_var {i : Nat} {x : Str} (hN : X.N[i]? = some x) (hv : Vis X.env.scope x) (hd : (x == ("__debug__" : Str)) = false := by decide) (hcd : (x == ("__classdict__" : Str)) = false := by decide) : PE X (.Name x pos) (lift X.K (eVar i)) :=
  (pe_var hN hv hd hcd).imp fun τ H Q zz => by
    obtain ⟨σ, G, Q3, rs, rg, h, k⟩ := zz
    unfold eVar at h
    split at h
    · rename_i d hp
      obtain ⟨v, e1, r⟩ := rs.get hp
      exact ⟨v, e1, k d G v H h Kp.refl rg (.of r)⟩
    · exact h.elim
theorem p_v (i : Nat) {x : Str} (hN : X.N[i]? = some x := by rfl) (hv : Vis X.env.scope x := by first | exact Or.inl rfl | exact Or.inr (Or.inl rfl) | exact Or.inr (Or.inr rfl)) (hd : (x == ("__debug__" : Str)) = false := by decide)
    (hcd : (x == ("__classdict__" : Str)) = false := by decide) : PE X (.Name x pos) (lift X.K (eVar i)) := p_var hN hv hd hcd
theorem p_c {e : Expr} {d : D} {v : V} (h : PE X e (tC v)) (r : ∀ H, RD X.K H d v) : PE X e (lift X.K (eC d)) := h.imp fun τ H Q zz => by
  obtain ⟨σ, G, Q3, rs, rg, hq, k⟩ := zz
  exact (
    k d G v H hq Kp.refl rg (.of (r H)))
theorem p_int {i : Int} : PE X (.Constant (.int i) j pos) (lift X.K (eC (.int i))) := p_c pe_int fun _ => rd_int
theorem p_bl {b : Bool} : PE X (.Constant (.bool b) j pos) (lift X.K (eC (.bl b))) := p_c pe_bl fun _ => rd_bl
theorem p_str {x : Str} : PE X (.Constant (.str x) j pos) (lift X.K (eC (.str x))) := p_c pe_str fun _ => rd_str
end

abbrev R3 := D → D → Gp → VK3 → Prop
noncomputable def liftOp (K : PySem.W.Frag) (r3 : R3) : R2 := fun v u H Q => ∃ x y G0 H0 G Q3, RE K G0 H0 G H x v ∧ RE K G0 H0 G H y u ∧ RG K H G ∧ r3 x y G Q3 ∧ Fin3 K G H Q3 Q
noncomputable def eOp (r : R3) (ta tb : TE3) : TE3 := fun σ G Q => ta σ G fun x G1 => tb σ G1 fun y G2 => r x y G2 Q
section
variable {X : Cx} {a b c : Expr} {ta tb tc : TE3} {pos : Pos} {r r' : R3}
theorem two {K : PySem.W.Frag} {r2 : R2} {Q : VK} {τ : St} {H : Hp} (hr : r2 = liftOp K r) (h : lift K (eOp r ta tb) τ H Q) : tOp r2 (lift K ta) (lift K tb) τ H Q := by
  subst hr
  obtain ⟨σ, G, Q3, rs, rg, h, k⟩ := h
  refine ⟨σ, G, fun x G1 => tb σ G1 fun y G2 => r x y G2 Q3, rs, rg, h, fun x G1 v H1 h1 k1 rg1 re1 => ⟨σ, G1, fun y G2 => r x y G2 Q3, rs.mono (k1.stb rg), rg1, h1, fun y G2 u H2 h2 k2 rg2 re2 => ?_⟩⟩
  exact ⟨x, y, G, H, G2, Q3, re1.wait k2 rg1, re2.base k1, rg2, h2, k.base (k1.trans k2)⟩
theorem p_op {op : Operator} (ho : OpR X (binaryOp op) (liftOp X.K r)) (ha : PE X a (lift X.K ta)) (hb : PE X b (lift X.K tb)) : PE X (.BinOp a op b pos) (lift X.K (eOp r ta tb)) :=
  (pe_op ho ha hb).imp fun _ _ _ h => two rfl h
noncomputable def tTru (t : TE3) : TT3 := fun σ G Q => t σ G fun d G' => match d with
  | .bl b => Q b G'
  | _ => False
theorem tru_of {K : PySem.W.Frag} {t : TE3} {τ : St} {H : Hp} {Q : Bool → Hp → Prop} (h : liftT K (tTru t) τ H Q) : tTest (lift K t) τ H Q := by
  obtain ⟨σ, G, Q3, rs, rg, h, k⟩ := h
  refine ⟨σ, G, _, rs, rg, h, fun d G' v H' q k' rg' re => ?_⟩
  cases d with
  | bl b => exact ⟨b, re.bl, k b G' H' q k' rg'⟩
  | _ => exact q.elim
noncomputable def eChain (r r' : R3) (ta tb tc : TE3) : TE3 := fun σ G Q => ta σ G fun x G1 => tb σ G1 fun y G2 => r x y G2 fun z G3 => match z with
  | .bl k => if k = true then tc σ G3 fun w G4 => r' y w G4 Q else Q (.bl false) G3
  | _ => False
theorem chain {K : PySem.W.Frag} {Q : VK} {τ : St} {H : Hp} (h : lift K (eChain r r' ta tb tc) τ H Q) : tChain (liftOp K r) (liftOp K r') (lift K ta) (lift K tb) (lift K tc) τ H Q := by
  obtain ⟨σ, G, Q3, rs, rg, h, k⟩ := h
  refine ⟨σ, G, _, rs, rg, h, fun x G1 v H1 h1 k1 rg1 re1 => ⟨σ, G1, _, rs.mono (k1.stb rg), rg1, h1, fun y G2 u H2 h2 k2 rg2 re2 => ?_⟩⟩
  refine ⟨x, y, G, H, G2, _, re1.wait k2 rg1, re2.base k1, rg2, h2, fun z G3 w H3 h3 k3 rg3 re3 => ?_⟩
  have k13 := k1.trans (k2.trans k3)
  cases z with
  | bl kk =>
    refine ⟨kk, re3.bl, ?_⟩
    cases kk with
    | true =>
      refine iteT ?_
      refine ⟨σ, G3, _, rs.mono (k13.stb rg), rg3, h3, fun w' G4 w4 H4 h4 k4 rg4 re4 => ?_⟩
      exact ⟨y, w', G, H, G4, Q3, (re2.base k1).wait (k3.trans k4) rg2, re4.base k13, rg4, h4, k.base (k13.trans k4)⟩
    | false => exact iteF (k _ G3 _ H3 h3 k13 rg3 (.of rd_bl))
  | _ => exact h3.elim
theorem p_tchain {op op' : CmpOp} (ho : OpR X (compareOp op) (liftOp X.K r)) (ho' : OpR X (compareOp op') (liftOp X.K r')) (ha : PE X a (lift X.K ta)) (hb : PE X b (lift X.K tb)) (hc : PE X c (lift X.K tc))
    (hm : lastMarks [op, op'] [b, c] = false := by with_unfolding_all rfl) : PT X (.Compare a [op, op'] [b, c] pos) (liftT X.K (tTru (eChain r r' ta tb tc))) :=
  (pt_chain ho ho' ha hb hc hm).imp fun τ H Q h => by
    obtain ⟨σ, G, Q3, rs, rg, h, k⟩ := h
    refine chain (Q := fun x H' => ∃ k, x = .bl k ∧ Q k H') ⟨σ, G, _, rs, rg, h, fun d G' v H' q k' rg' re => ?_⟩
    cases d with
    | bl b => exact ⟨b, re.bl, k b G' H' q k' rg'⟩
    | _ => exact q.elim

noncomputable def tAnd3 (t u : TT3) : TT3 := fun σ G Q => t σ G fun c G1 => if c = true then u σ G1 Q else Q false G1
noncomputable def tOr3 (t u : TT3) : TT3 := fun σ G Q => t σ G fun c G1 => if c = true then Q true G1 else u σ G1 Q
noncomputable def tNot3 (t : TT3) : TT3 := fun σ G Q => t σ G fun c G1 => Q (!c) G1
variable {tA tB : TT3} {es : List Expr}
theorem w_and1 (ha : PT X a (liftT X.K tA)) : PW X (.BoolOp .And [a] pos) (liftT X.K tA) := pw_and1 ha
theorem w_or1 (ha : PT X a (liftT X.K tA)) : PW X (.BoolOp .Or [a] pos) (liftT X.K tA) := pw_or1 ha
theorem w_and (ha : PT X a (liftT X.K tA)) (hb : PW X (.BoolOp .And (b :: es) pos) (liftT X.K tB)) : PW X (.BoolOp .And (a :: b :: es) pos) (liftT X.K (tAnd3 tA tB)) := (pw_and ha hb).imp fun τ H Q zz => by
  obtain ⟨σ, G, Q3, rs, rg, h, k⟩ := zz
  exact (
      ⟨σ, G, _, rs, rg, h, fun c G1 H1 q k1 rg1 => by
        cases c with
        | true => exact iteT ⟨σ, G1, Q3, rs.mono (k1.stb rg), rg1, q, fun b' G' H' q' k' rg' => k b' G' H' q' (k1.trans k') rg'⟩
        | false => exact iteF (k false G1 H1 q k1 rg1)⟩)
theorem w_or (ha : PT X a (liftT X.K tA)) (hb : PW X (.BoolOp .Or (b :: es) pos) (liftT X.K tB)) : PW X (.BoolOp .Or (a :: b :: es) pos) (liftT X.K (tOr3 tA tB)) := (pw_or ha hb).imp fun τ H Q zz => by
  obtain ⟨σ, G, Q3, rs, rg, h, k⟩ := zz
  exact (
      ⟨σ, G, _, rs, rg, h, fun c G1 H1 q k1 rg1 => by
        cases c with
        | false => exact iteF ⟨σ, G1, Q3, rs.mono (k1.stb rg), rg1, q, fun b' G' H' q' k' rg' => k b' G' H' q' (k1.trans k') rg'⟩
        | true => exact iteT (k true G1 H1 q k1 rg1)⟩)
theorem p_tnot (ha : PT X a (liftT X.K tA)) : PT X (.UnaryOp .Not a pos) (liftT X.K (tNot3 tA)) := (pt_not ha).imp fun τ H Q zz => by
  obtain ⟨σ, G, Q3, rs, rg, h, k⟩ := zz
  exact (
    ⟨σ, G, _, rs, rg, h, fun c G1 H1 q k1 rg1 => k (!c) G1 H1 q k1 rg1⟩)
noncomputable def eAnd (ta tb : TE3) : TE3 := fun σ G Q => ta σ G fun x G1 => match x with
  | .bl c => if c = true then tb σ G1 Q else Q (.bl false) G1
  | _ => False
noncomputable def eOr (ta tb : TE3) : TE3 := fun σ G Q => ta σ G fun x G1 => match x with
  | .bl c => if c = true then Q (.bl true) G1 else tb σ G1 Q
  | _ => False
theorem p_one {op} (h : PE X a (lift X.K ta)) : PE X (.BoolOp op [a] pos) (lift X.K ta) := pe_one h
theorem p_or (ha : PE X a (lift X.K ta)) (hb : PE X (.BoolOp .Or (b :: es) pos) (lift X.K tb)) : PE X (.BoolOp .Or (a :: b :: es) pos) (lift X.K (eOr ta tb)) := (pe_or ha hb).imp fun τ H Q zz => by
  obtain ⟨σ, G, Q3, rs, rg, h, k⟩ := zz
  exact (
      ⟨σ, G, _, rs, rg, h, fun x G1 v H1 q k1 rg1 re => by
        cases x with
        | bl c =>
          refine ⟨c, re.bl, ?_⟩
          cases c with
          | false => exact iteF ⟨σ, G1, Q3, rs.mono (k1.stb rg), rg1, q, k.base k1⟩
          | true => exact iteT (k _ G1 _ H1 q k1 rg1 (.of rd_bl))
        | _ => exact q.elim⟩)
noncomputable def eNotV (ta : TE3) : TE3 := fun σ G Q => ta σ G fun x G1 => match x with
  | .bl c => Q (.bl (!c)) G1
  | _ => False
noncomputable def eIf (c : TT3) (ta tb : TE3) : TE3 := fun σ G Q => c σ G fun b G1 => if b = true then ta σ G1 Q else tb σ G1 Q
noncomputable def truD (G : Gp) : D → Option Bool
  | .non => some false
  | .bl b => some b
  | .int i => some (i != 0)
  | .str y => some ((y.length : Int) != 0)
  | d => (asQ G d).map fun ds => !ds.isEmpty
noncomputable def tAny (t : TE3) : TT3 := fun σ G Q => t σ G fun d G' => match truD G' d with
  | some b => (match d with | .str y => y.length ≤ sizeLine | _ => True) ∧ Q b G'
  | none => False
theorem p_ttruth (ha : PE X a (lift X.K ta)) (he : ∀ whole, isTrue a X.env whole = (do let v ← whole; standAt a.pos; holding [v] (truthy v)) := by intro _; rfl) : PT X a (liftT X.K (tAny ta)) :=
  (pt_truth ha he).imp fun τ H Q zz => by
  obtain ⟨σ, G, Q3, rs, rg, h, k⟩ := zz
  exact (
    ⟨σ, G, _, rs, rg, h, fun d G' v H' q k' rg' re => by
        cases d with
        | non => rw [re.non]; exact ⟨false, rfl, k _ G' H' q.2 k' rg'⟩
        | bl b => rw [re.bl]; exact ⟨b, rfl, k _ G' H' q.2 k' rg'⟩
        | int i => rw [re.int]; exact ⟨_, rfl, k _ G' H' q.2 k' rg'⟩
        | str y => rw [re.str]; exact ⟨_, ⟨q.1, rfl⟩, k _ G' H' q.2 k' rg'⟩
        | ty n => exact q.elim
        | _ =>
          split at q
          · rename_i b hb
            simp only [truD, Option.map_eq_some_iff] at hb
            obtain ⟨ds, hq, rfl⟩ := hb
            obtain ⟨a, xs, rfl, s, r⟩ := asQ_sq hq re rg'
            have el : (!ds.isEmpty) = !xs.isEmpty := by
              have := r.length
              cases ds <;> cases xs <;> simp_all
            refine ⟨!xs.isEmpty, ?_, k _ G' H' (by rw [← el]; exact q.2) k' rg'⟩
            rcases s with s | s
            · exact .inl ⟨xs, s, rfl⟩
            · exact .inr (.inl ⟨xs, s, rfl⟩)
          · exact q.elim⟩)
end
end L3
namespace L2
open PySem PySem.Spec PyProof.Rows
section
variable {X : Cx}
noncomputable def rCatS (K : PySem.W.Frag) : R2 := fun x y H Q => ∃ l b xs zs, x = .ref l ∧ y = .ref b ∧ SqL K H l xs ∧ SqL K H b zs ∧ xs.length + zs.length ≤ sizeLine ∧ ∀ p, H p = none → Q (.ref p) (upd H p (.lst (xs ++ zs)))
theorem op_catS : OpR X (binaryOp .Add) (rCatS X.K) := by
  intro pins s σ H x y v u Q I rx ry h
  obtain ⟨l, b, xs, zs, rfl, rfl, hH, hB, hz, q⟩ := h
  cases rx
  cases ry
  obtain ⟨its, r, pl, z⟩ := I.list hH
  obtain ⟨its2, r2, pl2, z2⟩ := I.list hB
  obtain ⟨⟨cls, dd, data, sl⟩, ho, hc, n, hd⟩ := pl.isList
  obtain ⟨⟨cls2, dd2, data2, sl2⟩, ho2, hc2, n2, hd2⟩ := pl2.isList
  simp only at hc hd hc2 hd2
  subst hc hd hc2 hd2
  have hl := r.length
  have hl2 := r2.length
  have e : its.toArray ++ its2.toArray = (its ++ its2).toArray := by simp
  refine concat_meets ⟨_, ho, rfl⟩ ⟨_, ho2, rfl⟩ noFill_list_add seq_list_add PySem.F.slot_list_add PySem.F.entry_list_add (PySem.F.args_list_add_2 _ _) (list_addW l b its.toArray its2.toArray n n2 dd dd2 sl sl2 (by simp only [List.size_toArray]; omega)) ⟨ho, ho2, ?_⟩
  rw [e]
  exact ⟨.ref _, _, I.lnew (t' := s.toks) (r.append r2) (by rw [List.length_append]; omega), rfl, q _ I.fresh⟩
end
end L2
namespace L3
open PySem PySem.Spec PyProof.Rows L2
section
variable {X : Cx}
noncomputable def oAdd : R3 := fun x y G Q => match x, y with
  | .int i, .int j => Q (.int (i + j)) G
  | .str i, .str j => i.length + j.length ≤ sizeLine ∧ Q (.str (i ++ j)) G
  | .tup xs, .tup ys => xs ≠ [] ∧ xs.length + ys.length ≤ sizeLine ∧ Q (.tup (xs ++ ys)) G
  | x, y => match asL G x, asL G y with
    | some xs, some ys => xs.length + ys.length ≤ sizeLine ∧ Q (.fl (xs ++ ys)) G
    | _, _ => False
theorem x_add : OpR X (binaryOp .Add) (liftOp X.K oAdd) := by
  refine ((op_add (X := X)).or ((op_add_str (X := X)).or ((op_catT (X := X)).or (op_catS (X := X))))).imp fun v u H Q zz => ?_
  obtain ⟨x, y, G0, H0, G, Q3, rx, ry, rg, h, k⟩ := zz
  unfold oAdd at h
  split at h
  · rename_i i j
    exact .inl ⟨i, j, rx.int, ry.int, k _ G _ H h Kp.refl rg (.of rd_int)⟩
  · rename_i i j
    exact .inr (.inl ⟨i, j, rx.str, ry.str, h.1, k _ G _ H h.2 Kp.refl rg (.of rd_str)⟩)
  · rename_i ds es
    obtain ⟨a, xs, rfl, s1, r1⟩ := rx.tup
    obtain ⟨b, ys, rfl, s2, r2⟩ := ry.tup
    have l1 := r1.length
    have l2 := r2.length
    refine .inr (.inr (.inl ⟨a, b, xs, ys, rfl, rfl, s1, s2, fun z => h.1 ?_, by have := h.2.1; omega, fun z => ?_, fun _ p hp => ?_⟩))
    · subst z; exact List.length_eq_zero_iff.mp l1
    · subst z
      have : es = [] := List.length_eq_zero_iff.mp l2
      subst this
      have hh := h.2.2
      rw [List.append_nil] at hh
      exact k _ G _ H hh Kp.refl rg (.of (rd_tup s1 r1))
    · exact k _ G _ _ h.2.2 (Kp.laid hp) (rg.laid hp) (.of (tup_new rg hp (r1.append r2)))
  · split at h
    · rename_i ds es hx hy
      obtain ⟨a, xs, rfl, s1, r1⟩ := asL_sq hx rx rg
      obtain ⟨b, ys, rfl, s2, r2⟩ := asL_sq hy ry rg
      have l1 := r1.length
      have l2 := r2.length
      exact .inr (.inr (.inr ⟨a, b, xs, ys, rfl, rfl, s1, s2, by have := h.1; omega, fun p hp => k _ G _ _ h.2 (Kp.laid hp) (rg.laid hp) (fl_new rg hp (r1.append r2))⟩))
    · exact h.elim
noncomputable def oI (C : Int → Int → Prop) (g : Int → Int → D) : R3 := fun x y G Q => match x, y with
  | .int i, .int j => C i j ∧ Q (g i j) G
  | _, _ => False
noncomputable def oI0 (g : Int → Int → D) : R3 := fun x y G Q => match x, y with
  | .int i, .int j => Q (g i j) G
  | _, _ => False
theorem x_I {f : Value → Value → Sem Value} {C : Int → Int → Prop} {g : Int → Int → V} {g3 : Int → Int → D} (h : OpR X f (rI C g)) (r : ∀ i j H, RD X.K H (g3 i j) (g i j)) : OpR X f (liftOp X.K (oI C g3)) :=
  h.imp fun v u H Q zz => by
    obtain ⟨x, y, G0, H0, G, Q3, rx, ry, rg, h, k⟩ := zz
    unfold oI at h
    split at h
    · rename_i i j
      exact ⟨i, j, rx.int, ry.int, h.1, k _ G _ H h.2 Kp.refl rg (.of (r i j H))⟩
    · exact h.elim
theorem x_I0 {f : Value → Value → Sem Value} {g : Int → Int → V} {g3 : Int → Int → D} (h : OpR X f (rI0 g)) (r : ∀ i j H, RD X.K H (g3 i j) (g i j)) : OpR X f (liftOp X.K (oI0 g3)) :=
  h.imp fun v u H Q zz => by
    obtain ⟨x, y, G0, H0, G, Q3, rx, ry, rg, h, k⟩ := zz
    unfold oI0 at h
    split at h
    · rename_i i j
      exact ⟨i, j, rx.int, ry.int, k _ G _ H h Kp.refl rg (.of (r i j H))⟩
    · exact h.elim
noncomputable def oSub : R3 := oI0 fun i j => .int (i - j)
theorem x_sub : OpR X (binaryOp .Sub) (liftOp X.K oSub) := x_I0 op_sub fun _ _ _ => rd_int
noncomputable def oMod : R3 := oI (fun _ j => 0 < j) fun i j => .int (i % j)
theorem x_mod : OpR X (binaryOp .Mod) (liftOp X.K oMod) := x_I op_mod fun _ _ _ => rd_int
noncomputable def oDiv : R3 := oI CDiv fun i j => .int (i / j)
theorem x_div : OpR X (binaryOp .FloorDiv) (liftOp X.K oDiv) := x_I op_fdiv fun _ _ _ => rd_int
noncomputable def oPow : R3 := oI CPow fun i j => .int (i ^ j.toNat)
theorem x_pow : OpR X (binaryOp .Pow) (liftOp X.K oPow) := x_I op_pow fun _ _ _ => rd_int
noncomputable def oLt : R3 := oI0 fun i j => .bl (decide (i < j))
theorem x_lt : OpR X (compareOp .Lt) (liftOp X.K oLt) := x_I0 op_lt fun _ _ _ => rd_bl
noncomputable def oLe : R3 := oI0 fun i j => .bl (decide (i ≤ j))
theorem x_le : OpR X (compareOp .LtE) (liftOp X.K oLe) := x_I0 op_le fun _ _ _ => rd_bl
noncomputable def oGt : R3 := oI0 fun i j => .bl (decide (j < i))
noncomputable def oGe : R3 := oI0 fun i j => .bl (decide (j ≤ i))
noncomputable def aNil : TA3 := fun _ G Q => Q [] G
noncomputable def aCons (ta : TE3) (tr : TA3) : TA3 := fun σ G Q => ta σ G fun x G1 => tr σ G1 fun xs G2 => Q (val x :: xs) G2
variable {e : Expr} {es : List Expr} {te : TE3} {t : TA3} {pos : Pos}
theorem a_nil : PA X [] (liftA X.K aNil) := pa_nil.imp fun τ H Q zz => by
  obtain ⟨σ, G, Q3, rs, rg, h, k⟩ := zz
  exact (
    k [] G [] H h Kp.refl rg RDs.nil)
theorem a_cons (ha : PE X e (lift X.K te)) (hr : PA X es (liftA X.K t)) (hs : starEach (e :: es) X.env = (false, eval e X.env) :: starEach es X.env := by rfl) : PA X (e :: es) (liftA X.K (aCons te t)) :=
  (pa_cons (pe_val ha) hr hs).imp fun τ H Q zz => by
  obtain ⟨σ, G, Q3, rs, rg, h, k⟩ := zz
  exact (
    ⟨σ, G, _, rs, rg, h, fun x G1 v H1 q k1 rg1 rd => ⟨σ, G1, _, rs.mono (k1.stb rg), rg1, q, fun ds G2 vs H2 q2 k2 rg2 rds =>
        k _ G2 _ H2 q2 (k1.trans k2) rg2 (RDs.cons (RD.mono (k2.stb rg1) _ _ rd) rds)⟩⟩)
noncomputable def eTup (t : TA3) : TE3 := fun σ G Q => t σ G fun ds G1 => ds.length ≤ sizeLine ∧ Q (.tup ds) G1
noncomputable def eLst (t : TA3) : TE3 := fun σ G Q => t σ G fun ds G1 => ds.length ≤ sizeLine ∧ Q (.fl ds) G1
theorem p_tup {x1} (h : PA X es (liftA X.K t)) : PE X (.Tuple es x1 pos) (lift X.K (eTup t)) := (pe_tup h).imp fun τ H Q zz => by
  obtain ⟨σ, G, Q3, rs, rg, h, k⟩ := zz
  exact (
    ⟨σ, G, _, rs, rg, h, fun ds G1 vs H1 q k1 rg1 rds =>
      ⟨by rw [← rds.length]; exact q.1, fun p hp => k _ G1 _ _ q.2 (k1.trans (Kp.laid hp)) (rg1.laid hp) (.of (tup_new rg1 hp rds))⟩⟩)
theorem p_lst (h : PA X es (liftA X.K t)) : PE X (.List es pos) (lift X.K (eLst t)) := (pe_lst h).imp fun τ H Q zz => by
  obtain ⟨σ, G, Q3, rs, rg, h, k⟩ := zz
  exact (
    ⟨σ, G, _, rs, rg, h, fun ds G1 vs H1 q k1 rg1 rds =>
      ⟨by rw [← rds.length]; exact q.1, fun p hp => k _ G1 _ _ q.2 (k1.trans (Kp.laid hp)) (rg1.laid hp) ((fl_new rg1 hp rds).base k1)⟩⟩)

noncomputable def strAt (x : Str) (i : Int) : Option D := (atI x.cps.toList i).map fun c => .str ⟨#[c]⟩
noncomputable def oIx : R3 := fun x y G Q => match x, y with
  | .str z, .int i => z.length ≤ sizeLine ∧ match strAt z i with
    | some d => Q d G
    | none => False
  | x, .int i => match asQ G x with
    | some ds => match atI ds i with
      | some d => Q d G
      | none => False
    | none => False
  | _, _ => False
theorem atI_rds {K : PySem.W.Frag} {H : Hp} {ds : List D} {xs : List V} {i : Int} {d : D} (r : RDs K H ds xs) (h : atI ds i = some d) : ∃ v, atI xs i = some v ∧ RD K H d v := by
  unfold atI at h ⊢
  rw [← r.length]
  cases e : ixN ds.length i with
  | none => rw [e] at h; cases h
  | some j =>
    rw [e] at h
    exact r.get h
theorem x_ix : IxR X (liftOp X.K oIx) := (ix_seq (X := X)).imp fun v u H Q zz => by
  obtain ⟨x, y, G0, H0, G, Q3, rx, ry, rg, h, k⟩ := zz
  unfold oIx at h
  split at h
  · rename_i z i
    obtain ⟨h1, h2⟩ := h
    split at h2
    · rename_i d hd
      unfold strAt at hd
      rw [Option.map_eq_some_iff] at hd
      obtain ⟨c, hc, rfl⟩ := hd
      exact .inr (.inr ⟨z, i, c, rx.str, ry.int, h1, hc, k _ G _ H h2 Kp.refl rg (.of rd_str)⟩)
    · exact h2.elim
  · rename_i i _
    split at h
    · rename_i ds hds
      split at h
      · rename_i d hd
        obtain ⟨a, xs, rfl, s, r⟩ := asQ_sq hds rx rg
        obtain ⟨w, hw, rd⟩ := atI_rds r hd
        have fin := k _ G _ H h Kp.refl rg (.of rd)
        rcases s with s | s
        · exact .inl ⟨a, xs, i, w, rfl, ry.int, s, hw, fin⟩
        · exact .inr (.inl ⟨a, xs, i, w, rfl, ry.int, s, hw, fin⟩)
      · exact h.elim
    · exact h.elim
  · exact h.elim
variable {a b : Expr} {ta tb : TE3}
theorem p_ix (ha : PE X a (lift X.K ta)) (hb : PE X b (lift X.K tb)) (hs : PlainIx b := by exact fun _ _ => rfl) : PE X (.Subscript a b pos) (lift X.K (eOp oIx ta tb)) := (pe_ix x_ix ha hb hs).imp fun _ _ _ h => two rfl h

abbrev TO3 := St3 → Gp → (Option Int → Gp → Prop) → Prop
noncomputable def liftO (K : PySem.W.Frag) (t : TO3) : TO := fun τ H Q => ∃ σ G Q3, RS K H σ τ ∧ RG K H G ∧ t σ G Q3 ∧ ∀ o G' H', Q3 o G' → Kp G H G' H' → RG K H' G' → Q o H'
theorem PO.imp {e : Option Expr} {t t' : TO} (h : PO X e t) (i : ∀ σ H Q, t' σ H Q → t σ H Q) : PO X e t' := fun pins s σ H Q I q => h pins s σ H Q I (i σ H Q q)
noncomputable def oNo : TO3 := fun _ G Q => Q none G
noncomputable def oSome (t : TE3) : TO3 := fun σ G Q => t σ G fun x G1 => match x with
  | .int i => Q (some i) G1
  | _ => False
theorem o_none : PO X none (liftO X.K oNo) := PO.imp po_none fun τ H Q zz => by
  obtain ⟨σ, G, Q3, rs, rg, h, k⟩ := zz
  exact (
    k none G H h Kp.refl rg)
theorem o_some (h : PE X e (lift X.K te)) : PO X (some e) (liftO X.K (oSome te)) := PO.imp (po_some h) fun τ H Q ⟨σ, G, Q3, rs, rg, h, k⟩ => ⟨σ, G, _, rs, rg, h, fun d G1 v H1 q k1 rg1 re => by
  cases d with
  | int i => exact ⟨i, re.int, k _ G1 H1 q k1 rg1⟩
  | _ => exact q.elim⟩
abbrev RSl := D → Option Int → Option Int → Gp → VK3 → Prop
noncomputable def liftSl (K : PySem.W.Frag) (r : RSl) : V → Option Int → Option Int → Hp → VK → Prop := fun v lo hi H Q => ∃ x G0 H0 G Q3, RE K G0 H0 G H x v ∧ RG K H G ∧ r x lo hi G Q3 ∧ Fin3 K G H Q3 Q
noncomputable def eSl (r : RSl) (te : TE3) (tl th : TO3) : TE3 := fun σ G Q => te σ G fun x G1 => tl σ G1 fun l G2 => th σ G2 fun u G3 => r x l u G3 Q
theorem p_slice {r : RSl} {lo hi : Option Expr} {tl th : TO3} {p2 : Pos} (hr : SlR X (liftSl X.K r)) (he : PE X e (lift X.K te)) (hl : PO X lo (liftO X.K tl)) (hu : PO X hi (liftO X.K th)) : PE X (.Subscript e (.Slice lo hi none p2) pos) (lift X.K (eSl r te tl th)) :=
  (pe_slice hr he hl hu).imp fun τ H Q zz => by
  obtain ⟨σ, G, Q3, rs, rg, h, k⟩ := zz
  exact (
    ⟨σ, G, _, rs, rg, h, fun x G1 v H1 q1 k1 rg1 re => ⟨σ, G1, _, rs.mono (k1.stb rg), rg1, q1, fun l G2 H2 q2 k2 rg2 =>
        ⟨σ, G2, _, rs.mono ((k1.trans k2).stb rg), rg2, q2, fun u G3 H3 q3 k3 rg3 => ⟨x, G, H, G3, Q3, re.wait (k2.trans k3) rg1, rg3, q3, k.base (k1.trans (k2.trans k3))⟩⟩⟩⟩)
noncomputable def cutD (ds : List D) (lo hi : Option Int) : List D := (ds.drop (HT.sIx ds.length 0 lo)).take (HT.sIx ds.length ds.length hi - HT.sIx ds.length 0 lo)
theorem cut_rds {K : PySem.W.Frag} {H : Hp} {ds : List D} {xs : List V} (r : RDs K H ds xs) (lo hi : Option Int) : RDs K H (cutD ds lo hi) (cutV xs lo hi) := by
  unfold cutD cutV
  rw [r.length]
  exact (r.drop _).take _
end
end L3
namespace L2
open PySem PySem.Spec PyProof.Rows
noncomputable def Its (xs : List V) : It := ⟨fun i _ => i < xs.length, fun i H x H' => H' = H ∧ xs[i]? = some x, fun i _ => i = xs.length⟩
noncomputable def signsV (x : Str) : List V := x.cps.toList.map fun c => V.str ⟨#[c]⟩
theorem signsV_length (x : Str) : (signsV x).length = x.cps.size := by simp [signsV]
theorem turn_str {P : Program} {w : World} {K : PySem.W.Frag} {tg : Expr} (it : Addr) (x : Str) (t : Tok) (ty : String) (hty : ty = "str_ascii_iterator" ∨ ty = "str_iterator") :
    Turn P w K tg (Its (signsV x)) [it] it (fun i h => h.IsStrIter it ty x t i) where
  mem := by simp
  obj := fun i h st b hb => by
    have e : b = it := by simpa using hb
    subst e
    obtain ⟨o, e, c, d⟩ := st
    exact ⟨o, e, fun v z => by rw [d] at z; cases z⟩
  keep := fun i h h' st k => let ⟨o, ho, r⟩ := st; ⟨o, k it (by simp) o ho, r⟩
  item := by
    intro X hP hw hK hc i pins s σ H E I hf st hg
    subst hP hw hK
    obtain ⟨f0, f1, f2, f3, f4, f5⟩ := hf it (by simp)
    have W : Walks X.prog X.w X.A it [it] [it] x.cps.size (SignAt x) (fun i h => h.IsStrIter it ty x t i) := by
      rcases hty with rfl | rfl
      · exact Walks.strAscii (I.ok.hd hc) it x t
      · exact Walks.strWide (I.ok.hd hc) it x t
    refine W.item i s _ _ (by have : i < (signsV x).length := hg; rw [signsV_length] at this; exact this) st fun v h' tk hv st' kk => ?_
    obtain ⟨c, u, hc', rfl⟩ := hv
    have I1 : Inv X pins σ H { s with heap := h', toks := tk } := I.turned (fun b o hb e => kk b o (by simpa using hb) e) f0 f1 f3 f4 f5
    obtain ⟨o, e, c1, d⟩ := id st'
    refine ⟨_, rfl, go_of (s := { s with heap := h', toks := tk }) e c1 d (by rcases hty with rfl | rfl <;> decide) ⟨.str ⟨#[c]⟩, H, I1, ⟨u, rfl⟩, ⟨rfl, ?_⟩, st', fun b hb => (hf b hb).1⟩⟩
    simp only [signsV, List.getElem?_map, Array.getElem?_toList, hc', Option.map_some]
  done := by
    intro X hP hw hK hc i pins s σ H E I hf st hg
    subst hP hw hK
    obtain ⟨f0, f1, f2, f3, f4, f5⟩ := hf it (by simp)
    have W : Walks X.prog X.w X.A it [it] [it] x.cps.size (SignAt x) (fun i h => h.IsStrIter it ty x t i) := by
      rcases hty with rfl | rfl
      · exact Walks.strAscii (I.ok.hd hc) it x t
      · exact Walks.strWide (I.ok.hd hc) it x t
    have e : i = x.cps.size := by have : i = (signsV x).length := hg; rw [signsV_length] at this; exact this
    subst e
    exact W.done s _ _ st fun h' tk kk => ⟨rfl, I.turned (fun b o hb e => kk b o (by simpa using hb) e) f0 f1 f3 f4 f5⟩
  self := fun A i s Q E st h => by
    rcases hty with rfl | rfl
    · exact wpAny_pyIter_striter_ascii st h
    · exact wpAny_pyIter_striter_wide st h
section
variable {X : Cx} {tg : Expr}
theorem closure_of {env : Env} : ∀ (names : List (Str × NameKind)) (sc : Scope), sc.names = names → (∀ x ∈ names, x.2 = .free → ∃ c, env.cells.lookup x.1 = some c) →
    ∃ cl, closureFor sc env = pure cl ∧ (∀ x c, cl.lookup x = some c → env.cells.lookup x = some c) ∧ (∀ x ∈ names, x.2 = .free → ∃ c, cl.lookup x.1 = some c) := by
  have loop : ∀ (names : List (Str × NameKind)) (cs : List (Str × Addr)), (∀ x ∈ names, x.2 = .free → ∃ c, env.cells.lookup x.1 = some c) → (∀ x c, cs.lookup x = some c → env.cells.lookup x = some c) →
      ∃ cl, (forIn names cs fun (x : Str × NameKind) (r : List (Str × Addr)) => (match x with
        | (name, kind) => if (kind == NameKind.free) = true then (do let a ← cellOf env name; pure (ForInStep.yield ((name, a) :: r))) else pure (ForInStep.yield r) : Sem (ForInStep (List (Str × Addr))))) = (pure cl : Sem (List (Str × Addr))) ∧
        (∀ x c, cl.lookup x = some c → env.cells.lookup x = some c) ∧ (∀ x, (∃ c, cs.lookup x = some c) → ∃ c, cl.lookup x = some c) ∧ (∀ x ∈ names, x.2 = .free → ∃ c, cl.lookup x.1 = some c) := by
    intro names
    induction names with
    | nil => intro cs _ h2; exact ⟨cs, rfl, h2, fun _ z => z, fun _ z => nomatch z⟩
    | cons y r ih =>
      obtain ⟨name, kind⟩ := y
      intro cs h1 h2
      cases hk : (kind == NameKind.free) with
      | false =>
        obtain ⟨cl, e, a, b, c⟩ := ih cs (fun x hx => h1 x (List.mem_cons_of_mem _ hx)) h2
        refine ⟨cl, ?_, a, b, fun x hx hf => ?_⟩
        · rw [List.forIn_cons]
          simp only [hk, Bool.false_eq_true, if_false]
          exact e
        · rcases List.mem_cons.mp hx with rfl | hx
          · rw [show kind = NameKind.free from hf] at hk; cases hk
          · exact c x hx hf
      | true =>
        have hkf : kind = NameKind.free := by simpa using hk
        obtain ⟨ca, hca⟩ := h1 (name, kind) List.mem_cons_self hkf
        have hca' : env.cells.lookup name = some ca := hca
        have nx : ∀ x c, ((name, ca) :: cs).lookup x = some c → env.cells.lookup x = some c := fun x c hx => by
          rw [List.lookup_cons] at hx
          split at hx
          · rename_i hb
            have : x = name := by simpa using hb
            cases hx; rw [this]; exact hca'
          · exact h2 x c hx
        obtain ⟨cl, e, a, b, c⟩ := ih ((name, ca) :: cs) (fun x hx => h1 x (List.mem_cons_of_mem _ hx)) nx
        refine ⟨cl, ?_, a, fun x ⟨c', hx⟩ => ?_, fun x hx hf => ?_⟩
        · rw [List.forIn_cons]
          simp only [hk, if_true]
          unfold cellOf
          rw [hca']
          exact e
        · by_cases hxn : x = name
          · exact b x ⟨ca, by rw [List.lookup_cons, hxn, beq_self_eq_true]⟩
          · exact b x ⟨c', by rw [List.lookup_cons, show (x == name) = false by simpa using hxn]; exact hx⟩
        · rcases List.mem_cons.mp hx with rfl | hx
          · exact b name ⟨ca, by rw [List.lookup_cons, beq_self_eq_true]⟩
          · exact c x hx hf
  intro names sc hsc h
  subst hsc
  obtain ⟨cl, e, a, _, c⟩ := loop sc.names [] h (fun x c z => by simp at z)
  refine ⟨cl, ?_, a, c⟩
  unfold closureFor
  show (forIn sc.names [] _ >>= fun r => pure r) = _
  refine Eq.trans ?_ (congrArg (fun m => m >>= fun r => (pure r : Sem (List (Str × Addr)))) e)
  rfl

noncomputable def compCx (X : Cx) (N' : List Str) (scope : Scope) (cl : List (Str × Addr)) (C : Addr) (s₀ : Shared) (H₀ : Hp) (fp : List Addr) : Cx :=
  { X with N := N', s₀ := s₀, H₀ := H₀, env := compEnvC scope cl C X.env, outer := X.stack, ex := fp, fn := fun _ => false, pn := [], xe := fun _ _ => False }
end
end L2
namespace L2
open PySem PySem.Spec PyProof.Rows
section
variable {prog : Program} {w : World} {A : Around} {R : Result → Shared → Prop} {s : Shared}
theorem codeAny_compLoop_gen {elt target iter : Expr} {ifs : List Expr} {scope : Scope} {pos : Pos} {it acc : Value} {env : Env} (J : Nat → Shared → Prop)
    (turn : ∀ n s, J n s → wpAny (model prog w) A (pyNext it) (fun r s₁ => match r with
      | none => R (.ok .next) s₁
      | some v => wpAny (model prog w) A (letOwnedTupleGo target it v) (fun _ s₁' => wpAny (model prog w) A (assign target env v) (fun _ s₂ =>
          wpAny (model prog w) A (forIn ifs true fun c r => if r = true then do let ok ← isTrue c env (eval c env); pure (ForInStep.yield ok) else pure (ForInStep.yield r)) (fun ok s₃ =>
            if ok = true then wpAny (model prog w) A (eval elt env) (fun x s₄ =>
              wpAny (model prog w) A (call (.builtin "list.append") [acc, x]) (fun _ s₅ => ∃ m, m < n ∧ J m s₅) (fun _ _ => False) s₄) (fun _ _ => False) s₃
            else ∃ m, m < n ∧ J m s₃) (fun _ _ => False) s₂) (fun _ _ => False) s₁') (fun _ _ => False) s₁) (fun _ _ => False) s)
    (n : Nat) (h : J n s) : codeAny (model prog w) A (.compLoop (.ListComp elt [⟨target, iter, ifs, 0⟩] scope pos) 0 it acc env) R s := by
  refine codeAny_loop rfl J (fun n s hI => ?_) n h
  show wpAny _ A ((compTurn (.ListComp elt [⟨target, iter, ifs, 0⟩] scope pos) 0 it acc env).onRaise (fun x => do noteFrame x env; theTreesLotGoes x)) _ _ s
  refine wpAny_noted ?_
  rw [compTurn_list]
  refine wpAny_bind (wpAny_standAt (wpAny_bind (wpAny_mono (turn n s hI) (fun r s₁ h₁ => ?_) fun _ _ h' => h'.elim)))
  cases r with
  | none => exact wpAny_pure h₁
  | some v =>
    refine wpAny_bind (wpAny_mono h₁ (fun _ s₁' h₁' => ?_) fun _ _ h' => h'.elim)
    refine wpAny_bind (wpAny_mono h₁' (fun _ s₂ h₂ => wpAny_bind (wpAny_mono h₂ (fun ok s₃ h₃ => ?_) fun _ _ h' => h'.elim)) fun _ _ h' => h'.elim)
    cases ok with
    | false => exact wpAny_pure ⟨rfl, h₃⟩
    | true => exact wpAny_bind (wpAny_bind (wpAny_mono h₃ (fun x s₄ h₄ => wpAny_bind (wpAny_mono h₄ (fun _ s₅ h₅ => wpAny_pure (wpAny_pure ⟨rfl, h₅⟩)) fun _ _ h' => h'.elim)) fun _ _ h' => h'.elim))
end

noncomputable def PTs (X : Cx) (ifs : List Expr) (tt : TT) : Prop :=
  ∀ (pins : List (Addr × Obj)) (s : Shared) (σ : St) (H : Hp) (Q : Bool → Hp → Prop), Inv X pins σ H s → tt σ H Q →
    wpAny (model X.prog X.w) X.A (forIn ifs true fun c r => if r = true then do let ok ← isTrue c X.env (eval c X.env); pure (ForInStep.yield ok) else pure (ForInStep.yield r)) (TP X pins σ Q) X.xe s
theorem pts_nil {X : Cx} : PTs X [] (fun _ H Q => Q true H) := fun pins s σ H Q I h => wpAny_tests_nil ⟨H, I, h⟩
noncomputable def tComp (ent : St → St) (wi : TI) (g : TG) (tt : TT) (te : TE) : TE := fun σ H Q => wi σ H fun J H1 => ∀ D, H1 D = none → ∃ W : Nat → Nat → List V → St → Hp → Prop, (∃ m, W 0 m [] (ent σ) (upd H1 D (.lst []))) ∧
  ∀ i m ys σ1 H2, W i m ys σ1 H2 → H2 D = some (.lst ys) ∧ ((J.stop i H2 ∧ Q (.ref D) H2) ∨ (J.go i H2 ∧ ∃ N : List V → St → Hp → Prop, (∀ ys' σ' H', N ys' σ' H' → ∃ m', m' < m ∧ W (i + 1) m' ys' σ' H') ∧
    ∀ x H', J.yld i H2 x H' → g x σ1 H' fun σ2 H3 => tt σ2 H3 fun b H4 => if b = true then te σ2 H4 fun y H5 => H5 D = some (.lst ys) ∧ ys.length < sizeLine ∧ N (ys ++ [y]) σ2 (upd H5 D (.lst (ys ++ [y]))) else N ys σ2 H4))

theorem relabel_free {scope : Scope} {env : Env} (hcell : ∀ y ∈ scope.names, y.2 ≠ .cell) {x : Str} (h : (relabel scope env).names.lookup x = some .cell ∨ (relabel scope env).names.lookup x = some .free) : ∃ y ∈ scope.names, y.1 = x ∧ y.2 = .free := by
  have go : ∀ (names : List (Str × NameKind)), (∀ y ∈ names, y.2 ≠ .cell) → ∀ k, (names.map fun (n, k) => if (k == .free && env.scope.kind == .function && env.kindOf n == some .cell) then (n, NameKind.cell) else (n, k)).lookup x = some k → (k = .cell ∨ k = .free) → ∃ y ∈ names, y.1 = x ∧ y.2 = .free := by
    intro names
    induction names with
    | nil => intro _ k e _; simp at e
    | cons y r ih =>
      obtain ⟨n, kd⟩ := y
      intro hc k e hk
      rw [List.map_cons, List.lookup_cons] at e
      split at e
      · rename_i hb
        cases e
        have nc : kd ≠ .cell := hc (n, kd) List.mem_cons_self
        refine ⟨(n, kd), List.mem_cons_self, ?_, ?_⟩
        · split at hb
          · simpa using (eq_of_beq hb).symm
          · simpa using (eq_of_beq hb).symm
        · split at hk
          · rename_i hq
            simp only [Bool.and_eq_true] at hq
            simpa using hq.1.1
          · rcases hk with hk | hk
            · exact absurd hk nc
            · exact hk
      · obtain ⟨y, hy, q⟩ := ih (fun y hy => hc y (List.mem_cons_of_mem _ hy)) k e hk
        exact ⟨y, List.mem_cons_of_mem _ hy, q⟩
  rcases h with h | h
  · exact go scope.names hcell _ h (.inl rfl)
  · exact go scope.names hcell _ h (.inr rfl)
theorem relabel_local {scope : Scope} {env : Env} {x : Str} (h : (relabel scope env).names.lookup x = some .local) : ∃ y ∈ scope.names, y.1 = x ∧ y.2 = .local := by
  have go : ∀ (names : List (Str × NameKind)), (names.map fun (n, k) => if (k == .free && env.scope.kind == .function && env.kindOf n == some .cell) then (n, NameKind.cell) else (n, k)).lookup x = some .local → ∃ y ∈ names, y.1 = x ∧ y.2 = .local := by
    intro names
    induction names with
    | nil => intro e; simp at e
    | cons y r ih =>
      obtain ⟨n, kd⟩ := y
      intro e
      rw [List.map_cons, List.lookup_cons] at e
      split at e
      · rename_i hb
        refine ⟨(n, kd), List.mem_cons_self, ?_, ?_⟩
        · split at hb
          · simpa using (eq_of_beq hb).symm
          · simpa using (eq_of_beq hb).symm
        · split at e
          · cases e
          · simpa using e
      · obtain ⟨y, hy, q⟩ := ih e
        exact ⟨y, List.mem_cons_of_mem _ hy, q⟩
  exact go scope.names h

structure CompOk (X : Cx) (scope : Scope) (T M : List Str) : Prop where
  calm : X.calm = true
  kind : scope.kind = .function
  cell : ∀ y ∈ scope.names, y.2 ≠ .cell
  names : ∀ y ∈ scope.names, y.2 = .local → scope.names.lookup y.1 = some .local
  loc : ∀ y ∈ scope.names, y.2 = .local → y.1 ∈ ((".0" : Str) :: T)
  len : M.length = X.N.length
  sub : ∀ (i : Nat) x, M[i]? = some x → X.N[i]? = some x ∨ ∀ y ∈ scope.names, y.1 ≠ x
  off : ∀ x ∈ M, x ∉ ((".0" : Str) :: T)
  free : ∀ y ∈ scope.names, y.2 = .free → X.env.kindOf y.1 = some .cell ∨ X.env.kindOf y.1 = some .free
noncomputable def ent (T : List Str) (σ : St) : St := T.map (fun _ => none) ++ σ

section
variable {X : Cx} {pins : List (Addr × Obj)} {σ : St} {H : Hp} {s : Shared}
theorem Inv.block {scope : Scope} {T M : List Str} {fp : List Addr} {h₁ : Heap} {tk : Nat} {cl : List (Str × Addr)} (I : Inv X pins σ H s) (ok : CompOk X scope T M) (hf : ∀ b ∈ fp, FpOk X pins H b) (ho : ∀ b ∈ fp, ∃ o, s.heap.get? b = some o)
    (hc1 : ∀ x c, cl.lookup x = some c → X.env.cells.lookup x = some c) (hc2 : ∀ x ∈ scope.names, x.2 = .free → ∃ c, cl.lookup x.1 = some c)
    (hns : h₁.Ns s.heap.objs.size fun _ => none) (kp : ∀ b o, s.heap.get? b = some o → h₁.get? b = some o) :
    Inv (compCx X (T ++ M) scope cl s.heap.objs.size s H fp) [] (ent T σ) H { s with heap := h₁, toks := tk } := by
  have fpC : ∀ b ∈ fp, b ≠ s.heap.objs.size := fun b hb z => by
    obtain ⟨o, e⟩ := ho b hb
    exact absurd (Heap.lt_size e) (by rw [z]; exact Nat.lt_irrefl _)
  have cellsOk : ∀ x c, (compCx X (T ++ M) scope cl s.heap.objs.size s H fp).env.cells.lookup x = some c → X.env.cells.lookup x = some c := hc1
  refine ⟨⟨I.ok.mod, ok.kind, I.ok.glob, I.ok.blt, Nat.le_refl _, fun x y c h1 h2 => I.ok.inj x y c (hc1 x c h1) (hc1 y c h2), fun x hx => ?_, (fun x c h => absurd h (by show ¬ (false = true); decide)), I.ok.hd, I.ok.frames, .inl rfl, fun b hb => ⟨fpC b hb, fun x c e => (hf b hb).2.2.2.2.1 x c (hc1 x c e)⟩, I.bs, Nat.le_trans I.ok.bsz I.sz, fun b o e hb => ?_, fun b hb hs => ?_, I.stack, I.stkFree⟩,
    rfl, I.bare, Un.kept kp, ⟨_, hns, fun i x v e1 e2 e3 => ?_⟩, fun x c e => ?_, I.hok.fresh (Nat.le_refl _), fun x c e => I.freeC x c (hc1 x c e), fun p hp => absurd (show p ∈ ([] : List (Addr × Obj)) from hp) (by simp), I.hok.kept kp, ?_⟩
  · obtain ⟨y, hy, e, hfr⟩ := relabel_free ok.cell hx
    rw [← e]
    exact hc2 y hy hfr
  · rcases (hf b hb).2.2.2.1 with z | z
    · exact I.ok.noex b o e z
    · exact absurd (Nat.lt_of_lt_of_le (Heap.lt_size e) (Nat.le_trans I.ok.bsz z)) (Nat.lt_irrefl _)
  · rcases List.mem_cons.mp (I.stkSub b hs) with z | z
    · exact (hf b hb).2.1 z
    · exact (hf b hb).2.2.1 z
  · -- a name that is known: it is drawn from around
    have hi : T.length ≤ i := by
      refine Nat.le_of_not_lt fun hlt => ?_
      unfold ent at e2
      rw [List.getElem?_append_left (by simpa using hlt), List.getElem?_map] at e2
      cases q : T[i]? with
      | none => rw [q] at e2; cases e2
      | some z => rw [q] at e2; cases e2
    have e0' : M[i - T.length]? = some x := by
      have := e1
      show M[i - T.length]? = some x
      rw [← List.getElem?_append_right hi]
      exact this
    have e1' : X.N[i - T.length]? = some x := by
      rcases ok.sub _ x e0' with z | z
      · exact z
      · exfalso
        rcases e3 with e3 | e3 | e3
        · obtain ⟨y, hy, e, hl⟩ := relabel_local e3
          exact z y hy e
        · obtain ⟨y, hy, e, _⟩ := relabel_free ok.cell (.inl e3)
          exact z y hy e
        · obtain ⟨y, hy, e, _⟩ := relabel_free ok.cell (.inr e3)
          exact z y hy e
    have e2' : σ[i - T.length]? = some (some v) := by
      unfold ent at e2
      rw [List.getElem?_append_right (by simpa using hi), List.length_map] at e2
      exact e2
    have hfree : (relabel scope X.env).names.lookup x = some .cell ∨ (relabel scope X.env).names.lookup x = some .free := by
      rcases e3 with e3 | e3 | e3
      · obtain ⟨y, hy, e, hl⟩ := relabel_local e3
        exact absurd (by rw [← e]; exact ok.loc y hy hl) (ok.off x (List.mem_of_getElem? e0'))
      · exact .inl e3
      · exact .inr e3
    obtain ⟨y, hy, e, hfr⟩ := relabel_free ok.cell hfree
    subst e
    have hk := ok.free y hy hfr
    obtain ⟨m, hn, hl⟩ := I.loc
    obtain ⟨u, r, l⟩ := hl _ _ v e1' e2' (by rcases hk with hk | hk; exact .inr (.inl hk); exact .inr (.inr hk))
    refine ⟨u, r, .inr ⟨hfree, ?_⟩⟩
    rcases l with ⟨l1, _⟩ | ⟨_, c, ec, z⟩
    · rcases hk with hk | hk
      · rw [hk] at l1; cases l1
      · rw [hk] at l1; cases l1
    · obtain ⟨c', ec'⟩ := hc2 y hy hfr
      have := hc1 _ _ ec'
      rw [ec] at this; cases this
      obtain ⟨o, ho', hd⟩ := z
      exact ⟨c, ec', o, kp _ _ ho', hd⟩
  · obtain ⟨v, o, ho', hd⟩ := I.cell x c (hc1 x c e)
    exact ⟨v, o, kp _ _ ho', hd⟩
  · show (ent T σ).length = (T ++ M).length
    unfold ent
    rw [List.length_append, List.length_append, List.length_map, I.len, ok.len]
end
section
variable {X : Cx} {elt tg iter : Expr} {ifs : List Expr} {scope : Scope} {T M : List Str} {pos : Pos} {wi : TI} {g : TG} {tt : TT} {te : TE}
theorem comp_run {pins : List (Addr × Obj)} {s2 : Shared} {σ : St} {H1 : Hp} {Q : VK} {J : It} {it : Addr} {fp : List Addr} {tn : Nat → Heap → Prop} {cl : List (Str × Addr)} {RR : Value → Addr → Result → Shared → Prop} {E : Value → Shared → Prop} (ok : CompOk X scope T M)
    (hin : ∀ cl C s₀ H₀ fp, PG (compCx X (T ++ M) scope cl C s₀ H₀ fp) tg g ∧ PTs (compCx X (T ++ M) scope cl C s₀ H₀ fp) ifs tt ∧ PE (compCx X (T ++ M) scope cl C s₀ H₀ fp) elt te)
    (hc1 : ∀ x c, cl.lookup x = some c → X.env.cells.lookup x = some c) (hc2 : ∀ x ∈ scope.names, x.2 = .free → ∃ c, cl.lookup x.1 = some c)
    (I2 : Inv X pins σ H1 s2) (Tn : Turn X.prog X.w X.K tg J fp it tn) (st2 : tn 0 s2.heap) (f2 : ∀ b ∈ fp, FpOk X pins H1 b)
    (h : ∀ D, H1 D = none → ∃ W : Nat → Nat → List V → St → Hp → Prop, (∃ m, W 0 m [] (ent T σ) (upd H1 D (.lst []))) ∧
      ∀ i m ys σ1 H2, W i m ys σ1 H2 → H2 D = some (.lst ys) ∧ ((J.stop i H2 ∧ Q (.ref D) H2) ∨ (J.go i H2 ∧ ∃ N : List V → St → Hp → Prop, (∀ ys' σ' H', N ys' σ' H' → ∃ m', m' < m ∧ W (i + 1) m' ys' σ' H') ∧
        ∀ x H', J.yld i H2 x H' → g x σ1 H' fun σ2 H3 => tt σ2 H3 fun b H4 => if b = true then te σ2 H4 fun y H5 => H5 D = some (.lst ys) ∧ ys.length < sizeLine ∧ N (ys ++ [y]) σ2 (upd H5 D (.lst (ys ++ [y]))) else N ys σ2 H4)))
    (hRR : ∀ D C H' s', Inv X pins σ H' s' → (∃ m, s'.heap.Ns C m) → H' C = none → C ≠ X.env.locals → X.s₀.heap.objs.size ≤ C → (∀ x c, X.env.cells.lookup x = some c → c ≠ C) → (∀ p ∈ X.pn ++ pins, p.1 ≠ C) → Q (.ref D) H' → RR (.ref D) C (.ok .next) s') :
    wpAny (model X.prog X.w) X.A (newList []) (fun acc s₃ => wpAny (model X.prog X.w) X.A (newFunctionEnv scope X.env.globals cl [] X.env.qual none .none (some X.env)) (fun cenv s₄ =>
      codeAny (model X.prog X.w) X.A (.compStart (.ListComp elt [⟨tg, iter, ifs, 0⟩] scope pos) 0 (.ref it) acc { cenv with scope := relabel scope X.env }) (RR acc cenv.locals) s₄) E s₃) E s2 := by
  refine wpAny_newObj_type ?_
  have hD : H1 s2.heap.objs.size = none := I2.hok.fresh (Nat.le_refl _)
  obtain ⟨W, ⟨m0, w0⟩, turn⟩ := h _ hD
  have I3 : Inv X pins σ (upd H1 s2.heap.objs.size (.lst [])) { s2 with heap := s2.heap.push { cls := .type "list", data := .seq ([] : List Value).toArray } } := I2.lnew (t' := s2.toks) .nil (Nat.zero_le _)
  have f3 : ∀ b ∈ fp, FpOk X pins (upd H1 s2.heap.objs.size (.lst [])) b := fun b hb => by
    have q := f2 b hb
    obtain ⟨o, e, _⟩ := Tn.obj 0 _ st2 b hb
    exact ⟨by rw [upd_ne (Nat.ne_of_lt (Heap.lt_size e))]; exact q.1, q.2⟩
  have st3 : tn 0 (s2.heap.push { cls := .type "list", data := .seq ([] : List Value).toArray }) := Tn.keep _ _ _ st2 fun b _ o e => Heap.get?_push_of_some _ e
  generalize hs3 : ({ s2 with heap := s2.heap.push { cls := .type "list", data := .seq ([] : List Value).toArray } } : Shared) = s3 at I3 ⊢
  have st3' : tn 0 s3.heap := by rw [← hs3]; exact st3
  generalize hH3 : upd H1 s2.heap.objs.size (.lst []) = H3 at I3 f3 w0
  generalize hDD : s2.heap.objs.size = D at *
  refine wpAny_newFunctionEnv ok.cell (by intro y hy; simp at hy) (fun h₁ hns₁ hsb₁ => ?_) ok.kind
  have kp : ∀ b o, s3.heap.get? b = some o → h₁.get? b = some o := fun b o e => hsb₁.extBut b o (Nat.ne_of_lt (Heap.lt_size e)) (Heap.get?_push_of_some _ e)
  have hns : h₁.Ns s3.heap.objs.size fun _ => none := by simpa using hns₁
  have I4 : Inv (compCx X (T ++ M) scope cl s3.heap.objs.size s3 H3 fp) [] (ent T σ) H3 { s3 with heap := h₁, toks := s3.toks + ([] : List (Str × Value)).length } :=
    I3.block ok f3 (fun b hb => let ⟨o, e, _⟩ := Tn.obj 0 _ st3' b hb; ⟨o, e⟩) hc1 hc2 hns kp
  have st4 : tn 0 h₁ := Tn.keep _ _ _ st3' fun b _ o e => kp b o e
  obtain ⟨hG, hT, hE⟩ := hin cl s3.heap.objs.size s3 H3 fp
  -- back in the frame around
  have back : ∀ {pins' : List (Addr × Obj)} {σ' : St} {H' : Hp} {s' : Shared}, Inv (compCx X (T ++ M) scope cl s3.heap.objs.size s3 H3 fp) pins' σ' H' s' → Inv X pins σ H' s' := fun {pins' σ' H' s'} I' =>
    I3.call' (ch := fp) I'.os I'.base I'.hok I'.bare fun b hb => let q := f3 b hb; ⟨q.2.2.2.1, q.2.1, q.2.2.2.2.1, q.2.2.2.2.2⟩
  have loop : ∀ s4 : Shared, Inv (compCx X (T ++ M) scope cl s3.heap.objs.size s3 H3 fp) [] (ent T σ) H3 s4 → tn 0 s4.heap →
      codeAny (model X.prog X.w) X.A (.compLoop (.ListComp elt [⟨tg, iter, ifs, 0⟩] scope pos) 0 (.ref it) (.ref D) (compEnvC scope cl s3.heap.objs.size X.env)) (RR (.ref D) s3.heap.objs.size) s4 := by
    intro s4 I4 st4
    have fpX : ∀ {pins' : List (Addr × Obj)} {H' : Hp}, pins' = [] → (∀ b ∈ fp, H' b = none) → ∀ b ∈ fp, FpOk (compCx X (T ++ M) scope cl s3.heap.objs.size s3 H3 fp) pins' H' b := fun {pins' H'} ep hn b hb => by
      subst ep
      refine ⟨hn b hb, (I4.ok.exf b hb).1, I4.ok.exfs b hb, .inl hb, (I4.ok.exf b hb).2, fun p hp => absurd (show p ∈ ([] : List (Addr × Obj)) from hp) (by simp)⟩
    refine codeAny_compLoop_gen (fun n s' => ∃ i ys σ' H', Inv (compCx X (T ++ M) scope cl s3.heap.objs.size s3 H3 fp) [] σ' H' s' ∧ tn i s'.heap ∧ (∀ b ∈ fp, H' b = none) ∧ W i n ys σ' H') ?_ m0 ⟨0, [], ent T σ, H3, I4, st4, fun b hb => (f3 b hb).1, w0⟩
    rintro n s5 ⟨i, ys, σ5, H5, I5, st5, fr5, w5⟩
    obtain ⟨hDl, hstep⟩ := turn i n ys σ5 H5 w5
    rcases hstep with ⟨stop, qn⟩ | ⟨go, N, hN, step⟩
    · refine thn (Tn.done (compCx X (T ++ M) scope cl s3.heap.objs.size s3 H3 fp) rfl rfl rfl ok.calm i [] s5 _ H5 _ I5 (fpX rfl fr5) st5 stop) fun r s6 zz => ?_
      obtain ⟨hr, I6⟩ := zz
      subst hr
      have I7 := back I6
      obtain ⟨m, hm, _⟩ := I6.loc
      refine hRR D s3.heap.objs.size H5 s6 I7 ⟨m, hm⟩ I6.free ?_ ?_ ?_ ?_ qn
      · exact Nat.ne_of_gt I3.lt
      · exact I3.sz
      · intro x c e z
        obtain ⟨v, q⟩ := I3.cell x c e
        exact absurd q.lt (by rw [z]; exact Nat.lt_irrefl _)
      · intro p hp z
        exact absurd (Heap.lt_size (I3.pin p hp).1) (by rw [z]; exact Nat.lt_irrefl _)
    · refine thn (Tn.item (compCx X (T ++ M) scope cl s3.heap.objs.size s3 H3 fp) rfl rfl rfl ok.calm i [] s5 _ H5 _ I5 (fpX rfl fr5) st5 go) fun r s6 zz => ?_
      obtain ⟨u, hr, h6⟩ := zz
      subst hr
      refine thn h6 fun _ s7 zz => ?_
      obtain ⟨x, H7, I7, r7, y7, st7, fr7⟩ := zz
      have I7' := I7.pinned (fpX rfl fr7) (Tn.obj _ _ st7)
      refine thn (hG _ s7 _ H7 x u _ I7' r7 (step x H7 y7)) fun _ s8 zz => ?_
      obtain ⟨σ8, H8, I8, q8⟩ := zz
      have again : ∀ {s9 : Shared} {H9 : Hp} {ys' : List V}, Inv (compCx X (T ++ M) scope cl s3.heap.objs.size s3 H3 fp) ([] ++ pinsAt fp s7.heap) σ8 H9 s9 → N ys' σ8 H9 →
          ∃ m, m < n ∧ ∃ i ys σ' H', Inv (compCx X (T ++ M) scope cl s3.heap.objs.size s3 H3 fp) [] σ' H' s9 ∧ tn i s9.heap ∧ (∀ b ∈ fp, H' b = none) ∧ W i m ys σ' H' := fun {s9 H9 ys'} I9 n9 => by
        obtain ⟨m', hm, w9⟩ := hN ys' σ8 H9 n9
        refine ⟨m', hm, i + 1, ys', σ8, H9, I9.unpinned, Tn.keep _ _ _ st7 fun b hb o e => (I9.pin (b, o) (List.mem_append_right _ (List.mem_append_right _ (mem_pinsAt hb e)))).1, fun b hb => ?_, w9⟩
        obtain ⟨o, e, d⟩ := Tn.obj _ _ st7 b hb
        exact (I9.pin (b, o) (List.mem_append_right _ (List.mem_append_right _ (mem_pinsAt hb e)))).2.1
      refine thn (hT _ s8 σ8 H8 _ I8 q8) fun b s9 zz => ?_
      obtain ⟨H9, I9, q9⟩ := zz
      cases b with
      | false => exact again I9 q9
      | true =>
        refine thn (hE _ s9 σ8 H9 _ I9 q9) fun u10 s10 zz => ?_
        obtain ⟨y, H10, I10, r10, e10, l10, n10⟩ := zz
        refine thn (mt_append (X := compCx X (T ++ M) scope cl s3.heap.objs.size s3 H3 fp) _ s10 σ8 H10 (.ref D) [y] (.ref D) [u10] (fun v H' => v = .non ∧ H' = upd H10 D (.lst (ys ++ [y]))) I10 rfl (.cons r10 .nil) ⟨D, ys, y, rfl, rfl, e10, l10, rfl, rfl⟩) fun u11 s11 zz => ?_
        obtain ⟨z, H11, I11, r11, _, e11⟩ := zz
        subst e11
        exact again I11 n10
  exact codeAny_compStart_list (loop _ I4 st4) (Tn.self _ 0 _ _ _ st4 (loop _ I4 st4))
theorem closeOk (ok : CompOk X scope T M) {pins : List (Addr × Obj)} {σ : St} {H : Hp} {s : Shared} (I : Inv X pins σ H s) : ∃ cl, closureFor scope X.env = pure cl ∧ (∀ x c, cl.lookup x = some c → X.env.cells.lookup x = some c) ∧ (∀ x ∈ scope.names, x.2 = .free → ∃ c, cl.lookup x.1 = some c) :=
  closure_of scope.names scope rfl fun x hx hf => I.ok.has x.1 (ok.free x hx hf)
theorem pe_comp (ok : CompOk X scope T M)
    (hin : ∀ cl C s₀ H₀ fp, PG (compCx X (T ++ M) scope cl C s₀ H₀ fp) tg g ∧ PTs (compCx X (T ++ M) scope cl C s₀ H₀ fp) ifs tt ∧ PE (compCx X (T ++ M) scope cl C s₀ H₀ fp) elt te)
    (hi : PI X tg iter wi) (hs : ∀ x, foldedSetIterable iter X.env x = pure x := by intro _; rfl) : PE X (.ListComp elt [⟨tg, iter, ifs, 0⟩] scope pos) (tComp (ent T) wi g tt te) := by
  intro pins s σ H Q I h
  obtain ⟨cl, hcl, hc1, hc2⟩ := closeOk ok I
  rw [eval_ListComp]
  refine wpAny_comprehension_free (use := none) rfl hs hcl ok.kind ok.names (thn (hi pins s σ H _ I h) fun v s1 h1 => thn h1 fun itv s2 h2 => ?_)
  obtain ⟨it, fp, tn, J, H2, e, I2, Tn, st2, f2, hh⟩ := h2
  subst e
  refine comp_run (Q := Q) (RR := fun acc C => compPost (model X.prog X.w) X.A X.xe none (EP X pins σ Q) acc C) ok hin hc1 hc2 I2 Tn st2 f2 hh ?_
  intro D C H' s' I' hm hn n1 n2 n3 n4 q
  obtain ⟨m, hm⟩ := hm
  exact ⟨m, hm, fun h' sb => ⟨.ref D, H', I'.turned (t' := s'.toks) (fun b o hb e => (sb.2 b hb).trans e) hn (Ne.symm (Ne.symm n1)) (.inr n2) n3 n4, rfl, q⟩⟩
theorem ps_comp {i : Nat} {x : Str} {px spos : Pos} (ok : CompOk X scope T M) (hN : X.N.Nodup) (hix : X.N[i]? = some x) (hx : X.env.scope.names.lookup x = some .local)
    (hin : ∀ cl C s₀ H₀ fp, PG (compCx X (T ++ M) scope cl C s₀ H₀ fp) tg g ∧ PTs (compCx X (T ++ M) scope cl C s₀ H₀ fp) ifs tt ∧ PE (compCx X (T ++ M) scope cl C s₀ H₀ fp) elt te)
    (hi : PI X tg iter wi) (hsw : swapsWith (.ListComp elt [⟨tg, iter, ifs, 0⟩] scope pos) (some (.Name x px)) spos.line X.env = pure true := by rfl) (hs : ∀ x, foldedSetIterable iter X.env x = pure x := by intro _; rfl) :
    PS X (.Assign [.Name x px] (.ListComp elt [⟨tg, iter, ifs, 0⟩] scope pos) spos) (tAsg (gh (tComp (ent T) wi g tt te)) (gName i)) := by
  intro pins s σ H D3 I h
  obtain ⟨cl, hcl, hc1, hc2⟩ := closeOk ok I
  rw [exec_Assign_Name_used _ _ _ _ hsw]
  refine wpAny_bind (wpAny_standAt (wpAny_bind ?_))
  show wpAny _ X.A (do let _ ← comprehension (.ListComp elt [⟨tg, iter, ifs, 0⟩] scope pos) scope X.env _ (newList []) false (eval iter X.env) (some (assign (.Name x px) X.env))) _ _ s
  refine wpAny_bind (wpAny_mono (wpAny_comprehension_free (use := some (assign (.Name x px) X.env)) (Q := fun _ s' => SP X pins D3 .next s') rfl hs hcl ok.kind ok.names
    (thn (hi pins s σ H _ I h) fun v s1 h1 => thn h1 fun itv s2 h2 => ?_)) (fun _ s' hq => wpAny_pure (wpAny_pure hq)) fun _ _ e => e)
  obtain ⟨it, fp, tn, J, H2, e, I2, Tn, st2, f2, hh⟩ := h2
  subst e
  refine comp_run (Q := fun v H1 => gName i v σ H1 D3.nx ∨ ∃ p xs, v = .ref p ∧ H1 p = some (.lst xs) ∧ ∀ o, gName i v σ (upd H1 p (.frz o (.lst xs))) D3.nx) (RR := fun acc C => compPost (model X.prog X.w) X.A X.xe (some (assign (.Name x px) X.env)) (fun _ s' => SP X pins D3 .next s') acc C) ok hin hc1 hc2 I2 Tn st2 f2 hh ?_
  intro D C H' s' I' hm hn n1 n2 n3 n4 q
  obtain ⟨m, hm⟩ := hm
  have fin : ∀ {H'' : Hp}, Inv X pins σ H'' s' → H'' C = none → D3.nx (σ.set i (some (.ref D))) H'' →
      wpAny (model X.prog X.w) X.A (assign (.Name x px) X.env (.ref D)) (fun _ s'' => ∃ m, s''.heap.Ns C m ∧ ∀ h', Heap.SameBut C s''.heap h' → SP X pins D3 .next { s'' with heap := h' }) X.xe s' := fun {H''} J' hn' q' => by
    refine wpAny_assign_Name (store_ok2 (v := V.ref D) J' hN hix (.inl hx) rfl (fun s'' I'' ⟨a, sb, ha⟩ => ?_) (.inr hx))
    have aC : C ≠ a := by
      rcases ha with z | z
      · rw [z]; exact n1
      · exact fun y => n3 _ _ z y.symm
    refine ⟨m, hm.sameBut sb aC, fun h' sb' => ⟨_, H'', I''.turned (t' := s''.toks) (fun b o hb e => (sb'.2 b hb).trans e) hn' n1 (.inr n2) n3 n4, q'⟩⟩
  rcases q with q | ⟨p, xs, ep, e1, q⟩
  · exact fin I' hn q
  · obtain ⟨o, I''⟩ := I'.freeze e1
    refine fin I'' ?_ (q o)
    rw [upd_ne (fun z => by subst z; rw [hn] at e1; cases e1)]; exact hn
end
end L2
namespace L2
open PySem PySem.Spec PyProof.Rows
section
variable {X : Cx} {tg : Expr}
theorem PG.imp {e : Expr} {t t' : TG} (h : PG X e t) (i : ∀ v σ H Q, t' v σ H Q → t v σ H Q) : PG X e t' := fun pins s σ H v u Q I r q => h pins s σ H v u Q I r (i v σ H Q q)
theorem PGs.imp {es : List Expr} {t t' : TGs} (h : PGs X es t) (i : ∀ vs σ H Q, t' vs σ H Q → t vs σ H Q) : PGs X es t' := fun pins s σ H v u Q I r q => h pins s σ H v u Q I r (i v σ H Q q)
variable {pins : List (Addr × Obj)} {σ : St} {H : Hp} {s : Shared} {R : It → Hp → Prop} {E : Value → Shared → Prop} {a : Addr} {xs : List V}
theorem iter_list (I : Inv X pins σ H s) (hq : SqL X.K H a xs) (q : R (Itl X.K a) H) : wpAny (model X.prog X.w) X.A (pyIter (.ref a)) (PIE X pins σ tg R) E s := by
  obtain ⟨its, rv, p, hz⟩ := I.list hq
  refine wpAny_pyIter_list p.isList ?_
  refine ⟨s.heap.objs.size, [s.heap.objs.size], _, _, H, rfl, I.kept (t' := s.toks) fun b o e => Heap.get?_push_of_some _ e, turn_list a _, ⟨_, Heap.get?_push_size _ rfl, rfl, rfl⟩, fun b hb => ?_, q⟩
  have e : b = s.heap.objs.size := by simpa using hb
  subst e
  exact I.fpOk (Nat.le_refl _) (I.hok.fresh (Nat.le_refl _))
theorem iter_tup (I : Inv X pins σ H s) (hq : SqT X.K H a xs) (q : R (Itt X.K a) H) : wpAny (model X.prog X.w) X.A (pyIter (.ref a)) (PIE X pins σ tg R) E s := by
  obtain ⟨its, rv, p, hz⟩ := I.tuple hq
  refine wpAny_pyIter_tuple (show s.heap.IsTuple a its.toArray from p) ?_
  refine ⟨s.heap.objs.size, [s.heap.objs.size], _, _, H, rfl, I.kept (t' := s.toks) fun b o e => Heap.get?_push_of_some _ e, turn_tuple a _, ⟨_, Heap.get?_push_size _ rfl, rfl, rfl⟩, fun b hb => ?_, q⟩
  have e : b = s.heap.objs.size := by simpa using hb
  subst e
  exact I.fpOk (Nat.le_refl _) (I.hok.fresh (Nat.le_refl _))
theorem iter_str {z : Str} {t : Tok} (I : Inv X pins σ H s) (q : R (Its (signsV z)) H) : wpAny (model X.prog X.w) X.A (pyIter (.str z t)) (PIE X pins σ tg R) E s := by
  have fin : ∀ (ty : String), (ty = "str_ascii_iterator" ∨ ty = "str_iterator") → PIE X pins σ tg R (.ref s.heap.objs.size) { s with heap := s.heap.push { cls := .type ty, data := .fields #[.str z t, .int 0 0] } } := fun ty hty => by
    refine ⟨s.heap.objs.size, [s.heap.objs.size], _, _, H, rfl, I.kept (t' := s.toks) fun b o e => Heap.get?_push_of_some _ e, turn_str _ z t ty hty, ⟨_, Heap.get?_push_size _ rfl, rfl, rfl⟩, fun b hb => ?_, q⟩
    have e : b = s.heap.objs.size := by simpa using hb
    subst e
    exact I.fpOk (Nat.le_refl _) (I.hok.fresh (Nat.le_refl _))
  cases ha : z.cps.all (· < 128)
  · exact wpAny_pyIter_wide ha (fin _ (.inr rfl))
  · exact wpAny_pyIter_ascii ha (fin _ (.inl rfl))
end
end L2
namespace L3
open PySem PySem.Spec PyProof.Rows L2
abbrev TG3 := D → St3 → Gp → (St3 → Gp → Prop) → Prop
abbrev TGs3 := List D → St3 → Gp → (St3 → Gp → Prop) → Prop
noncomputable def liftG (K : PySem.W.Frag) (g : TG3) : TG := fun v τ H Q => ∃ d σ G Q3, RD K H d v ∧ RS K H σ τ ∧ RG K H G ∧ g d σ G Q3 ∧ ∀ σ' G' τ' H', Q3 σ' G' → Kp G H G' H' → RG K H' G' → RS K H' σ' τ' → Q τ' H'
noncomputable def liftGs (K : PySem.W.Frag) (g : TGs3) : TGs := fun vs τ H Q => ∃ ds σ G Q3, RDs K H ds vs ∧ RS K H σ τ ∧ RG K H G ∧ g ds σ G Q3 ∧ ∀ σ' G' τ' H', Q3 σ' G' → Kp G H G' H' → RG K H' G' → RS K H' σ' τ' → Q τ' H'
noncomputable def gN (i : Nat) : TG3 := fun d σ G Q => Q (σ.set i (some d)) G
noncomputable def gNil3 : TGs3 := fun ds σ G Q => match ds with
  | [] => Q σ G
  | _ => False
noncomputable def gCons3 (t : TG3) (u : TGs3) : TGs3 := fun ds σ G Q => match ds with
  | d :: r => t d σ G fun σ' G' => u r σ' G' Q
  | [] => False
noncomputable def gTup3 (n : Nat) (t : TGs3) : TG3 := fun d σ G Q => match d with
  | .tup ds => ds.length = n ∧ t ds σ G Q
  | _ => False
section
variable {X : Cx} {pos : Pos} {e : Expr} {es : List Expr} {t : TG3} {u : TGs3}
theorem g_name {i : Nat} {x : Str} (hN : X.N.Nodup) (hi : X.N[i]? = some x) (hx : Loc X.env.scope x) (hf : X.fn x = true ∨ X.env.scope.names.lookup x = some .local := by first | exact .inl rfl | exact .inr rfl | assumption) : PG X (.Name x pos) (liftG X.K (gN i)) :=
  (pg_name hN hi hx hf).imp fun v τ H Q zz => by
  obtain ⟨d, σ, G, Q3, rd, rs, rg, h, k⟩ := zz
  exact (
    k _ G _ H h Kp.refl rg (rs.set rd i))
theorem g_nil : PGs X [] (liftGs X.K gNil3) := pgs_nil.imp fun vs τ H Q zz => by
  obtain ⟨ds, σ, G, Q3, rd, rs, rg, h, k⟩ := zz
  cases ds with
  | nil => exact ⟨rd.inv_nil, k _ G _ H h Kp.refl rg rs⟩
  | cons _ _ => exact h.elim
theorem g_cons (h1 : PG X e (liftG X.K t)) (h2 : PGs X es (liftGs X.K u)) (hs : (assignEach (e :: es) X.env).map (·.2) = assign e X.env :: (assignEach es X.env).map (·.2) := by rfl) : PGs X (e :: es) (liftGs X.K (gCons3 t u)) :=
  (pgs_cons h1 h2 hs).imp fun vs τ H Q zz => by
    obtain ⟨ds, σ, G, Q3, rd, rs, rg, h, k⟩ := zz
    cases ds with
    | nil => exact h.elim
    | cons d r =>
      obtain ⟨x, xs, e1, r1, r2⟩ := rd.inv_cons
      refine ⟨x, xs, e1, d, σ, G, _, r1, rs, rg, h, fun σ' G' τ' H' q k' rg' rs' => ⟨r, σ', G', Q3, RDs.mono (k'.stb rg) _ _ r2, rs', rg', q, fun σ2 G2 τ2 H2 q2 k2 => k σ2 G2 τ2 H2 q2 (k'.trans k2)⟩⟩
theorem g_tup {k : Nat} {n : Nat} (hc : X.calm = true) (h : PGs X es (liftGs X.K u)) (hn : (assignEach es X.env).length = n := by rfl) (hst : (assignEach es X.env).findIdx? (·.1) = none := by rfl) : PG X (.Tuple es k pos) (liftG X.K (gTup3 n u)) :=
  (pg_tup hc h hn hst).imp fun v τ H Q zz => by
    obtain ⟨d, σ, G, Q3, rd, rs, rg, h, k⟩ := zz
    cases d with
    | tup ds =>
      simp only [RD] at rd
      obtain ⟨a, xs, e1, q, r⟩ := rd
      exact ⟨a, xs, e1, q, by rw [← r.length]; exact h.1, ds, σ, G, Q3, r, rs, rg, h.2, k⟩
    | _ => exact h.elim
end

abbrev TI3 := St3 → Gp → (List D → Gp → Prop) → Prop
noncomputable def ItOk (K : PySem.W.Frag) (G0 : Gp) (H0 : Hp) (ds : List D) (J : It) : Prop := ∀ i G H, Kp G0 H0 G H → RG K H G →
  (i < ds.length → J.go i H ∧ ∀ x H', J.yld i H x H' → Kp G H G H' ∧ RG K H' G ∧ ∃ d, ds[i]? = some d ∧ RD K H' d x) ∧ (i = ds.length → J.stop i H)
noncomputable def liftI (K : PySem.W.Frag) (ti : TI3) : TI := fun τ H R => ∃ σ G Q3, RS K H σ τ ∧ RG K H G ∧ ti σ G Q3 ∧ ∀ ds G' J H', Q3 ds G' → Kp G H G' H' → RG K H' G' → ItOk K G' H' ds J → R J H'
noncomputable def signs (x : Str) : List D := x.cps.toList.map fun c => D.str ⟨#[c]⟩
theorem it_same {K : PySem.W.Frag} {G0 : Gp} {H0 : Hp} {ds : List D} {xs : List V} (r : ∀ H, RDs K H ds xs) : ItOk K G0 H0 ds (Its xs) := fun i G H _ rg => by
  have hl := (r H).length
  refine ⟨fun hi => ⟨(show i < xs.length by walk_at "o"), fun x H' y => ?_⟩, fun e => (show i = xs.length by walk_at "o")⟩
  obtain ⟨rfl, hx⟩ := y
  refine ⟨Kp.refl, rg, ds[i], by simp [hi], ?_⟩
  obtain ⟨y, e, q⟩ := (r H').get (i := i) (d := ds[i]) (by simp [hi])
  rw [hx] at e; cases e
  exact q
theorem it_list {K : PySem.W.Frag} {G0 : Gp} {H0 : Hp} {ds : List D} {xs : List V} {a : Addr} (rg0 : RG K H0 G0) (f : FzL K H0 a xs) (r : RDs K H0 ds xs) : ItOk K G0 H0 ds (Itl K a) := fun i G H k rg => by
  have hl := r.length
  have f' := (k.stb rg0).l _ _ f
  have r' := RDs.mono (k.stb rg0) _ _ r
  refine ⟨fun hi => ⟨⟨xs, xs[i]'(by walk_at "o"), f'.sq, by simp [show i < xs.length by walk_at "o"]⟩, fun x H' y => ?_⟩, fun e => ⟨xs, f'.sq, by walk_at "o"⟩⟩
  obtain ⟨rfl, hx⟩ := y
  refine ⟨Kp.refl, rg, ds[i], by simp [hi], ?_⟩
  obtain ⟨y, e, q⟩ := r'.get (i := i) (d := ds[i]) (by simp [hi])
  rw [hx xs f'.sq] at e; cases e
  exact q
theorem it_tup {K : PySem.W.Frag} {G0 : Gp} {H0 : Hp} {ds : List D} {xs : List V} {a : Addr} (rg0 : RG K H0 G0) (f : SqT K H0 a xs) (r : RDs K H0 ds xs) : ItOk K G0 H0 ds (Itt K a) := fun i G H k rg => by
  have hl := r.length
  have f' := (k.stb rg0).t _ _ f
  have r' := RDs.mono (k.stb rg0) _ _ r
  refine ⟨fun hi => ⟨⟨xs, xs[i]'(by walk_at "o"), f', by simp [show i < xs.length by walk_at "o"]⟩, fun x H' y => ?_⟩, fun e => ⟨xs, f', by walk_at "o"⟩⟩
  obtain ⟨rfl, hx⟩ := y
  refine ⟨Kp.refl, rg, ds[i], by simp [hi], ?_⟩
  obtain ⟨y, e, q⟩ := r'.get (i := i) (d := ds[i]) (by simp [hi])
  rw [hx xs f'] at e; cases e
  exact q
noncomputable def itemsOf : D → Option (List D)
  | .lst ds => some ds
  | .fl ds => some ds
  | .tup ds => some ds
  | .str x => some (signs x)
  | _ => none
noncomputable def iSeq (te : TE3) : TI3 := fun σ G Q => te σ G fun d G' => match itemsOf d with
  | some ds => Q ds G'
  | none => False
noncomputable def rangeD (lo : Int) (n : Nat) : List D := (List.range n).map fun k => D.int (lo + (k : Nat))
noncomputable def iR1 (ta : TA3) : TI3 := fun σ G Q => ta σ G fun ds G' => match ds with
  | [.int j] => (-(2 ^ 62) ≤ j ∧ j < 2 ^ 62) ∧ Q (rangeD 0 j.toNat) G'
  | _ => False
noncomputable def iR2 (ta : TA3) : TI3 := fun σ G Q => ta σ G fun ds G' => match ds with
  | [.int i, .int j] => (-(2 ^ 62) ≤ i ∧ i < 2 ^ 62 ∧ -(2 ^ 62) ≤ j ∧ j < 2 ^ 62) ∧ Q (rangeD i (j - i).toNat) G'
  | _ => False
section
variable {X : Cx} {tg e : Expr} {te : TE3}
theorem i_seq (h : PE X e (lift X.K te)) : PI X tg e (liftI X.K (iSeq te)) := by
  intro pins s τ H R I hq
  obtain ⟨σ, G, Q3, rs, rg, hq, k⟩ := hq
  refine thn (pe_val h pins s τ H (fun v H1 => ∃ d G1, Kp G H G1 H1 ∧ RG X.K H1 G1 ∧ RD X.K H1 (val d) v ∧ (match itemsOf d with | some ds => Q3 ds G1 | none => False)) I ⟨σ, G, _, rs, rg, hq, fun d G' v H' q k' rg' rd => ⟨d, G', k', rg', rd, q⟩⟩) fun u s1 zz => ?_
  obtain ⟨v, H1, I1, r1, d, G1, k1, rg1, rd, q⟩ := zz
  have seq : ∀ {a : Addr} {xs : List V} {ds : List D}, FzL X.K H1 a xs → RDs X.K H1 ds xs → Q3 ds G1 → wpAny (model X.prog X.w) X.A (pyIter (.ref a)) (PIE X pins τ tg R) X.xe s1 := fun f r q => iter_list I1 f.sq (k _ G1 _ H1 q k1 rg1 (it_list rg1 f r))
  cases d with
  | lst ds =>
    simp only [val, RD] at rd
    obtain ⟨a, xs, rfl, f, r⟩ := rd
    cases r1
    exact seq f r q
  | fl ds =>
    simp only [val, RD] at rd
    obtain ⟨a, xs, rfl, f, r⟩ := rd
    cases r1
    exact seq f r q
  | tup ds =>
    simp only [val, RD] at rd
    obtain ⟨a, xs, rfl, f, r⟩ := rd
    cases r1
    exact iter_tup I1 f (k _ G1 _ H1 q k1 rg1 (it_tup rg1 f r))
  | str z =>
    simp only [val, RD] at rd
    subst rd
    obtain ⟨t, rfl⟩ := r1
    refine iter_str I1 (k _ G1 _ H1 q k1 rg1 (it_same fun H' => ?_))
    have : signs z = (z.cps.toList.map fun c => (⟨#[c]⟩ : Str)).map D.str := by simp [signs]
    rw [this]
    have e2 : signsV z = (z.cps.toList.map fun c => (⟨#[c]⟩ : Str)).map V.str := by simp [signsV]
    rw [e2]
    exact RDs.strs _
  | _ => exact q.elim
end

noncomputable def ForIn (g : TG3) (tb : TS3) (E : Ends3) (σ : St3) (ds : List D) (G1 : Gp) : Prop := ∃ Pv : Nat → St3 → Gp → Prop, Pv 0 σ G1 ∧
  (∀ (i : Nat) d σ' G', ds[i]? = some d → Pv i σ' G' → g d σ' G' fun σ2 G2 => tb { E with nx := Pv (i + 1), ct := Pv (i + 1), bk := E.nx } σ2 G2) ∧ ∀ σ' G', Pv ds.length σ' G' → E.nx σ' G'
noncomputable def sFor (ti : TI3) (g : TG3) (tb : TS3) : TS3 := fun D σ G => ti σ G fun ds G1 => ForIn g tb D σ ds G1
theorem q_for {X : Cx} {tg iter : Expr} {body : List Stmt} {ti : TI3} {g : TG3} {tb : TS3} {pos : Pos} (hp : PassesOwn (model X.prog X.w) X.A X.env X.xe) (hc : X.calm = true) (hi : PI X tg iter (liftI X.K ti)) (hg : PG X tg (liftG X.K g)) (hb : PSs X body (liftS X.K tb))
    (hs : ∀ x, foldedSetIterable iter X.env x = pure x := by intro _; rfl) : PS X (.For tg iter body [] pos) (liftS X.K (sFor ti g tb)) :=
  (ps_for hp hc hi hg hb hs).imp fun D τ H zz => by
  obtain ⟨σ, G, D3, rs, rg, h, k⟩ := zz
  exact (
    ⟨σ, G, _, rs, rg, h, fun ds G1 J H1 q k1 rg1 it => by
        obtain ⟨Pv, p0, step, fin⟩ := q
        refine ⟨fun i m τ' H' => m = ds.length - i ∧ i ≤ ds.length ∧ ∃ σ' G', RS X.K H' σ' τ' ∧ RG X.K H' G' ∧ Pv i σ' G' ∧ Kp G1 H1 G' H', ⟨ds.length, rfl, Nat.zero_le _, σ, G1, rs.mono (k1.stb rg), rg1, p0, Kp.refl⟩, ?_⟩
        rintro i m τ' H' ⟨rfl, hi', σ', G', rs', rg', pv, k'⟩
        obtain ⟨hgo, hstop⟩ := it i G' H' k' rg'
        by_cases hlt : i < ds.length
        · obtain ⟨go, yld⟩ := hgo hlt
          refine .inr ⟨go, fun τ2 H2 => ∃ σ2 G2, RS X.K H2 σ2 τ2 ∧ RG X.K H2 G2 ∧ Pv (i + 1) σ2 G2 ∧ Kp G1 H1 G2 H2, fun τ2 H2 ⟨σ2, G2, a, b, c, d⟩ => ⟨ds.length - (i + 1), by walk_at "o", rfl, hlt, σ2, G2, a, b, c, d⟩, fun x H2 y => ?_⟩
          obtain ⟨ky, rgy, d, hd, rd⟩ := yld x H2 y
          refine ⟨d, σ', G', _, rd, rs'.mono (ky.stb rg'), rgy, step i d σ' G' hd pv, fun σ3 G3 τ3 H3 q3 k3 rg3 rs3 => ?_⟩
          have kk : Kp G1 H1 G3 H3 := k'.trans (ky.trans k3)
          have kG : Kp G H G3 H3 := k1.trans kk
          refine ⟨σ3, G3, _, rs3, rg3, q3, ⟨fun σ4 G4 τ4 H4 q4 k4 rg4 rs4 => ⟨σ4, G4, rs4, rg4, q4, kk.trans k4⟩, k.rt.base kG, fun σ4 G4 τ4 H4 q4 k4 => k.nx σ4 G4 τ4 H4 q4 (kG.trans k4), fun σ4 G4 τ4 H4 q4 k4 rg4 rs4 => ⟨σ4, G4, rs4, rg4, q4, kk.trans k4⟩⟩⟩
        · have e : i = ds.length := by walk_at "o"
          refine .inl ⟨hstop e, k.nx σ' G' τ' H' (fin σ' G' (by rw [← e]; exact pv)) (k1.trans k') rg' rs'⟩⟩)

noncomputable def tTrue : TT3 := fun _ G Q => Q true G
noncomputable def CompIn (k : Nat) (g : TG3) (tt : TT3) (te : TE3) (σ : St3) (ds : List D) (G1 : Gp) (Q : VK3) : Prop := ds.length ≤ sizeLine ∧ ∃ Pv : Nat → List D → Gp → Prop, Pv 0 [] G1 ∧
  (∀ (i : Nat) d acc G', ds[i]? = some d → Pv i acc G' → g d (List.replicate k none ++ σ) G' fun σ2 G2 => (k ≤ σ2.length ∧ σ2.drop k = σ) ∧ tt σ2 G2 fun b G3 => if b = true then te σ2 G3 fun y G4 => Pv (i + 1) (acc ++ [val y]) G4 else Pv (i + 1) acc G3) ∧
  ∀ acc G', Pv ds.length acc G' → Q (.fl acc) G'
noncomputable def eComp (k : Nat) (ti : TI3) (g : TG3) (tt : TT3) (te : TE3) : TE3 := fun σ G Q => ti σ G fun ds G1 => CompIn k g tt te σ ds G1 Q
theorem comp_map {k : Nat} {g : TG3} {te : TE3} {σ : St3} {ds : List D} {G1 : Gp} {Q : VK3} (f : D → D) (hl : ds.length ≤ sizeLine)
    (he : ∀ d ∈ ds, ∀ P : VK3, (∀ y, val y = f d → P y G1) → g d (List.replicate k none ++ σ) G1 fun σ2 G2 => (k ≤ σ2.length ∧ σ2.drop k = σ) ∧ te σ2 G2 P) (hq : Q (.fl (ds.map f)) G1) : CompIn k g tTrue te σ ds G1 Q := by
  refine ⟨hl, fun i acc G' => acc = (ds.take i).map f ∧ G' = G1, ⟨by simp, rfl⟩, fun i d acc G' hd ⟨ha, hG⟩ => ?_, fun acc G' ⟨ha, hG⟩ => ?_⟩
  · subst hG
    exact he d (List.mem_of_getElem? hd) (fun y G4 => acc ++ [val y] = (ds.take (i + 1)).map f ∧ G4 = G') fun y hy => ⟨by rw [ha, hy, List.take_add_one, hd]; simp, rfl⟩
  · subst hG
    rw [ha, List.take_length]
    exact hq
section
variable {X : Cx} {elt tg iter : Expr} {ifs : List Expr} {scope : Scope} {T M : List Str} {pos : Pos} {ti : TI3} {g : TG3} {tt : TT3} {te : TE3}
theorem rs_ent {K : PySem.W.Frag} {H : Hp} {σ : St3} {τ : St} (T : List Str) (r : RS K H σ τ) : RS K H (List.replicate T.length none ++ σ) (ent T τ) := by
  unfold ent
  induction T with
  | nil => exact r
  | cons a t ih => exact .cons (show RSo K H none none from trivial) ih
theorem rs_forget {K : PySem.W.Frag} {H : Hp} : ∀ (k : Nat) {σ : St3} {τ : St}, k ≤ σ.length → RS K H σ τ → RS K H (List.replicate k none ++ σ.drop k) τ
  | 0, _, _, _, r => r
  | k + 1, [], _, h, _ => absurd h (by simp)
  | k + 1, a :: t, _, h, .cons _ r => .cons (show RSo K H none _ from trivial) (rs_forget k (by simpa using h) r)
theorem comp_read {K : PySem.W.Frag} {τ : St} {H : Hp} {Q : VK} (h : lift K (eComp T.length ti g tt te) τ H Q) :
    tComp (ent T) (liftI K ti) (liftG K g) (liftT K tt) (liftV K te) τ H Q := by
  obtain ⟨σ, G, Q3, rs, rg, h, k⟩ := h
  refine ⟨σ, G, _, rs, rg, h, fun ds G1 J H1 q k1 rg1 it Da hD => ?_⟩
  obtain ⟨hsz, Pv, p0, step, fin⟩ := q
  have kD : Kp G1 H1 G1 (upd H1 Da (.lst [])) := Kp.laid hD
  have rgD : RG K (upd H1 Da (.lst [])) G1 := rg1.laid hD
  have gD : G1 Da = none := rg1.free hD
  refine ⟨fun i m ys τ2 H2 => m = ds.length - i ∧ i ≤ ds.length ∧ ∃ acc G2, H2 Da = some (.lst ys) ∧ G2 Da = none ∧ RG K H2 G2 ∧ RS K H2 (List.replicate T.length none ++ σ) τ2 ∧ RDs K H2 acc ys ∧ acc.length ≤ i ∧ Pv i acc G2 ∧ (∀ a h, a ≠ Da → H1 a = some h → G1 a = none → H2 a = some h ∧ G2 a = none),
    ⟨ds.length, rfl, Nat.zero_le _, [], G1, upd_same, gD, rgD, rs_ent T (rs.mono ((k1.trans kD).stb rg)), RDs.nil, Nat.le_refl _, p0, fun a h ha e n => ⟨by rw [upd_ne ha]; exact e, n⟩⟩, ?_⟩
  rintro i m ys τ2 H2 ⟨rfl, hi', acc, G2, eD, nD, rg2, rs2, ra, la, pv, k2⟩
  have k2' : Kp G1 H1 G2 H2 := fun a h e n => k2 a h (ne_of_none e hD) e n
  refine ⟨eD, ?_⟩
  obtain ⟨hgo, hstop⟩ := it i G2 H2 k2' rg2
  by_cases hlt : i < ds.length
  · obtain ⟨go, yld⟩ := hgo hlt
    refine .inr ⟨go, fun ys' τ' H' => ∃ acc G', H' Da = some (.lst ys') ∧ G' Da = none ∧ RG K H' G' ∧ RS K H' (List.replicate T.length none ++ σ) τ' ∧ RDs K H' acc ys' ∧ acc.length ≤ i + 1 ∧ Pv (i + 1) acc G' ∧ (∀ a h, a ≠ Da → H1 a = some h → G1 a = none → H' a = some h ∧ G' a = none),
      fun ys' τ' H' q' => ⟨ds.length - (i + 1), by walk_at "o", rfl, hlt, q'⟩, fun x H3 y => ?_⟩
    obtain ⟨ky, rgy, d, hd, rd⟩ := yld x H3 y
    refine ⟨d, List.replicate T.length none ++ σ, G2, _, rd, rs2.mono (ky.stb rg2), rgy, step i d acc G2 hd pv, fun σ4 G4 τ4 H4 q4 k4 rg4 rs4 => ?_⟩
    obtain ⟨⟨hlen, hdrop⟩, q4⟩ := q4
    have rs4' : RS K H4 (List.replicate T.length none ++ σ) τ4 := by
      have := rs_forget T.length hlen rs4
      rw [hdrop] at this
      exact this
    refine ⟨σ4, G4, _, rs4, rg4, q4, fun b G5 H5 q5 k5 rg5 => ?_⟩
    have e3 : H3 Da = some (.lst ys) := (ky Da _ eD nD).1
    have e4 := k4 Da _ e3 nD
    have e5 := k5 Da _ e4.1 e4.2
    have kk : ∀ {G6 : Gp} {H6 : Hp}, Kp G5 H5 G6 H6 → ∀ a h, a ≠ Da → H1 a = some h → G1 a = none → H6 a = some h ∧ G6 a = none := fun k6 a h ha e n => ((((Kp.trans k2' ky).trans k4).trans k5).trans k6) a h e n
    cases b with
    | false =>
      refine iteF ⟨acc, G5, e5.1, e5.2, rg5, rs4'.mono (k5.stb rg4), RDs.mono (((ky.trans k4).trans k5).stb rg2) _ _ ra, by walk_at "o", q5, kk Kp.refl⟩
    | true =>
      refine iteT ⟨σ4, G5, _, rs4.mono (k5.stb rg4), rg5, q5, fun yv G6 v H6 q6 k6 rg6 rd6 => ?_⟩
      have e6 := k6 Da _ e5.1 e5.2
      have la' := ra.length
      have st : Stb K H6 (upd H6 Da (.lst (ys ++ [v]))) := by
        constructor
        · intro a zs q
          rcases q with (q | ⟨o, q⟩) | q
          · exact .inl (.inl (by rw [upd_ne (fun z => by subst z; rw [e6.1] at q; cases q)]; exact q))
          · exact .inl (.inr ⟨o, by rw [upd_ne (fun z => by subst z; rw [e6.1] at q; cases q)]; exact q⟩)
          · exact .inr q
        · intro a zs q
          rcases q with ⟨o, q⟩ | q
          · exact .inl ⟨o, by rw [upd_ne (fun z => by subst z; rw [e6.1] at q; cases q)]; exact q⟩
          · exact .inr q
      refine ⟨e6.1, by walk_at "o", acc ++ [val yv], G6, upd_same, e6.2, fun a o q => ?_, (rs4'.mono ((k5.trans k6).stb rg4)).mono st, ?_, by simp; omega, q6, fun a h ha e n => ?_⟩
      · obtain ⟨h', q1, q2⟩ := rg6 a o q
        exact ⟨h', by rw [upd_ne (fun z => by subst z; rw [e6.2] at q; cases q)]; exact q1, q2.mono st⟩
      · exact RDs.append (RDs.mono st _ _ (RDs.mono ((((ky.trans k4).trans k5).trans k6).stb rg2) _ _ ra)) (RDs.cons (RD.mono st _ _ rd6) RDs.nil)
      · rw [upd_ne ha]; exact kk k6 a h ha e n
  · have e : i = ds.length := by walk_at "o"
    refine .inl ⟨hstop e, k _ G2 _ H2 (fin acc G2 (by rw [← e]; exact pv)) (k1.trans k2') rg2 (.inl ⟨acc, Da, ys, rfl, rfl, eD, nD, ra, ?_⟩)⟩
    exact k1.fr (fr_none hD)
theorem ts_nil : PTs X [] (liftT X.K tTrue) := fun pins s τ H Q I h => by
  obtain ⟨σ, G, Q3, rs, rg, h, k⟩ := h
  exact pts_nil pins s τ H Q I (k true G H h Kp.refl rg)
theorem p_comp (ok : CompOk X scope T M)
    (hin : ∀ cl C s₀ H₀ fp, PG (compCx X (T ++ M) scope cl C s₀ H₀ fp) tg (liftG X.K g) ∧ PTs (compCx X (T ++ M) scope cl C s₀ H₀ fp) ifs (liftT X.K tt) ∧ PE (compCx X (T ++ M) scope cl C s₀ H₀ fp) elt (lift X.K te))
    (hi : PI X tg iter (liftI X.K ti)) (hs : ∀ x, foldedSetIterable iter X.env x = pure x := by intro _; rfl) : PE X (.ListComp elt [⟨tg, iter, ifs, 0⟩] scope pos) (lift X.K (eComp T.length ti g tt te)) :=
  (pe_comp ok (fun cl C s₀ H₀ fp => let ⟨a, b, c⟩ := hin cl C s₀ H₀ fp; ⟨a, b, pe_val c⟩) hi hs).imp fun _ _ _ h => comp_read h
theorem q_comp {i : Nat} {x : Str} {px spos : Pos} (ok : CompOk X scope T M) (hN : X.N.Nodup) (hix : X.N[i]? = some x) (hx : X.env.scope.names.lookup x = some .local)
    (hin : ∀ cl C s₀ H₀ fp, PG (compCx X (T ++ M) scope cl C s₀ H₀ fp) tg (liftG X.K g) ∧ PTs (compCx X (T ++ M) scope cl C s₀ H₀ fp) ifs (liftT X.K tt) ∧ PE (compCx X (T ++ M) scope cl C s₀ H₀ fp) elt (lift X.K te))
    (hi : PI X tg iter (liftI X.K ti)) (hsw : swapsWith (.ListComp elt [⟨tg, iter, ifs, 0⟩] scope pos) (some (.Name x px)) spos.line X.env = pure true := by rfl) (hs : ∀ x, foldedSetIterable iter X.env x = pure x := by intro _; rfl) :
    PS X (.Assign [.Name x px] (.ListComp elt [⟨tg, iter, ifs, 0⟩] scope pos) spos) (liftS X.K (sSet i (eComp T.length ti g tt te))) :=
  (ps_comp ok hN hix hx (fun cl C s₀ H₀ fp => let ⟨a, b, c⟩ := hin cl C s₀ H₀ fp; ⟨a, b, pe_val c⟩) hi hsw hs).imp fun D τ H zz => by
    obtain ⟨σ, G, D3, rs, rg, h, k⟩ := zz
    refine comp_read (Q := fun v H1 => D.nx (τ.set i (some v)) H1 ∨ ∃ p xs, v = .ref p ∧ H1 p = some (.lst xs) ∧ ∀ o, D.nx (τ.set i (some v)) (upd H1 p (.frz o (.lst xs)))) ⟨σ, G, _, rs, rg, h, fun d G' v H' q k' rg' re => ?_⟩
    cases d with
    | fl ds =>
      obtain ⟨p, xs, rfl, e1, e2, e3, e4⟩ := re.fl
      refine .inr ⟨p, xs, rfl, e1, fun o => ?_⟩
      obtain ⟨rg2, st⟩ := frz_rg (o := o) rg' e1 e2
      exact k.nx _ G' _ _ q (frz_kp (K := X.K) k' e4) rg2 (((rs.mono (k'.stb rg)).mono st).set (rd_lst (.inl ⟨o, upd_same⟩) (RDs.mono st _ _ e3)) i)
    | _ => exact .inl (k.nx _ G' _ H' q k' rg' ((rs.mono (k'.stb rg)).set (re.rd (by intro ds z; cases z)) i))
end
end L3
namespace L3
open PySem PySem.Spec PyProof.Rows L2 PySem.SeqAt
noncomputable def eqb (x y : D) : Bool := @decide (x = y) (Classical.propDecidable _)
theorem eqb_iff {x y : D} : eqb x y = true ↔ x = y := by unfold eqb; exact @decide_eq_true_iff _ (Classical.propDecidable _)
theorem eqb_self (x : D) : eqb x x = true := eqb_iff.mpr rfl
theorem eqb_of {x y : D} (h : x = y) : eqb x y = true := eqb_iff.mpr h
theorem eqb_no {x y : D} (h : x ≠ y) : eqb x y = false := by
  cases e : eqb x y with
  | false => rfl
  | true => exact absurd (eqb_iff.mp e) h
theorem eqb_bool {x y : D} {b : Bool} (h : (b = true) ↔ x = y) : eqb x y = b := by
  cases b with
  | true => exact eqb_of (h.mp rfl)
  | false => exact eqb_no fun e => nomatch h.mpr e
noncomputable def pl : Nat → D → Prop
  | _, .non => True
  | _, .int _ => True
  | _, .str _ => True
  | n + 1, .tup ds => ∀ d ∈ ds, pl n d
  | n + 1, .lst ds => ∀ d ∈ ds, pl n d
  | _, _ => False
section
variable {X : Cx} {pins : List (Addr × Obj)} {σ : St} {H : Hp} {s : Shared}
theorem no_both (I : Inv X pins σ H s) {a : Addr} {xs ys : List V} (h1 : SqT X.K H a xs) (h2 : SqL X.K H a ys) : False := by
  obtain ⟨_, _, ⟨o, e, c, _⟩, _⟩ := I.tuple h1
  obtain ⟨_, _, p, _⟩ := I.list h2
  obtain ⟨o', e', c', _⟩ := p.isList
  rw [e] at e'; cases e'
  rw [c] at c'
  injection c' with z
  exact absurd z (by decide)
theorem rd_inj (I : Inv X pins σ H s) : ∀ (n : Nat) {x y : D} {v : V}, pl n x → pl n y → RD X.K H x v → RD X.K H y v → x = y := by
  intro n
  induction n with
  | zero =>
    intro x y v px py rx ry
    cases x <;> first | exact px.elim | (cases y <;> first | exact py.elim | (simp only [RD] at rx ry; subst rx; first | rfl | (cases ry; rfl) | cases ry))
  | succ n ih =>
    have seq : ∀ {ds es : List D} {xs : List V}, (∀ d ∈ ds, pl n d) → (∀ d ∈ es, pl n d) → RDs X.K H ds xs → RDs X.K H es xs → ds = es := by
      intro ds
      induction ds with
      | nil =>
        intro es xs _ _ r1 r2
        have := r1.inv_nil
        subst this
        cases es with
        | nil => rfl
        | cons e t => have := r2.length; simp at this
      | cons d t ihd =>
        intro es xs p1 p2 r1 r2
        obtain ⟨v, vs, e1, a1, b1⟩ := r1.inv_cons
        subst e1
        cases es with
        | nil => have := r2.length; simp at this
        | cons e u =>
          obtain ⟨v', vs', e2, a2, b2⟩ := r2.inv_cons
          cases e2
          rw [ih (p1 d List.mem_cons_self) (p2 e List.mem_cons_self) a1 a2, ihd (fun z hz => p1 z (List.mem_cons_of_mem _ hz)) (fun z hz => p2 z (List.mem_cons_of_mem _ hz)) b1 b2]
    intro x y v px py rx ry
    cases x with
    | tup ds =>
      simp only [RD] at rx
      obtain ⟨a, xs, rfl, s1, r1⟩ := rx
      cases y with
      | tup es =>
        simp only [RD] at ry
        obtain ⟨b, ys, e, s2, r2⟩ := ry
        cases e
        have := I.tuple_inj s1 s2
        subst this
        rw [seq px py r1 r2]
      | lst es =>
        simp only [RD] at ry
        obtain ⟨b, ys, e, s2, r2⟩ := ry
        cases e
        exact (no_both I s1 s2.sq).elim
      | _ => first | exact py.elim | (simp only [RD] at ry; cases ry)
    | lst ds =>
      simp only [RD] at rx
      obtain ⟨a, xs, rfl, s1, r1⟩ := rx
      cases y with
      | lst es =>
        simp only [RD] at ry
        obtain ⟨b, ys, e, s2, r2⟩ := ry
        cases e
        have := I.list_inj s1.sq s2.sq
        subst this
        rw [seq px py r1 r2]
      | tup es =>
        simp only [RD] at ry
        obtain ⟨b, ys, e, s2, r2⟩ := ry
        cases e
        exact (no_both I s2 s1.sq).elim
      | _ => first | exact py.elim | (simp only [RD] at ry; cases ry)
    | _ => first | exact px.elim | (cases y with
      | tup es => simp only [RD] at rx ry; obtain ⟨b, ys, e, _⟩ := ry; rw [rx] at e; cases e
      | lst es => simp only [RD] at rx ry; obtain ⟨b, ys, e, _⟩ := ry; rw [rx] at e; cases e
      | _ => first | exact py.elim | (simp only [RD] at rx ry; subst rx; first | rfl | (cases ry; rfl) | cases ry))
structure Cmp3 (A : Around) (s : Shared) (v u : Value) (b : Bool) : Prop where
  eq : EqAt A s v u b
  rc : RcAt A s v u b
  ne : RcNeAt A s v u (!b)
theorem all_eqb {ds es : List D} (n : Nat) (hn : n = min ds.length es.length) : ((List.range n).all (fun j => eqb (ds.getD j .non) (es.getD j .non)) && ds.length == es.length) = eqb (.tup ds) (.tup es) := by
  symm
  refine eqb_bool ?_
  rw [Bool.and_eq_true, List.all_eq_true, beq_iff_eq]
  constructor
  · rintro ⟨h1, h2⟩
    congr 1
    refine List.ext_getElem h2 fun i hi hj => ?_
    have := eqb_iff.mp (h1 i (List.mem_range.mpr (by walk_at "o")))
    rw [List.getD_eq_getElem?_getD, List.getD_eq_getElem?_getD, List.getElem?_eq_getElem hi, List.getElem?_eq_getElem hj] at this
    simpa using this
  · intro h
    cases h
    exact ⟨fun i _ => eqb_self _, rfl⟩
theorem eqb_lst {ds es : List D} : eqb (.lst ds) (.lst es) = eqb (.tup ds) (.tup es) := eqb_bool (by rw [eqb_iff]; constructor <;> (intro h; cases h; rfl))
theorem Vals.getV : ∀ {xs : List V} {us : List Value} {i : Nat} {u : Value}, Vals xs us → us[i]? = some u → ∃ x, xs[i]? = some x ∧ RelV x u
  | _, _, _, _, .nil, e => by simp at e
  | _, _, 0, _, .cons r _, e => by simp at e; subst e; exact ⟨_, rfl, r⟩
  | _, _, i + 1, u, .cons _ t, e => by
    obtain ⟨x, h1, h2⟩ := Vals.getV (i := i) (u := u) t (by simpa using e)
    exact ⟨x, by simpa using h1, h2⟩
theorem RDs.getV {K : PySem.W.Frag} {H : Hp} : ∀ {ds : List D} {xs : List V} {i : Nat} {x : V}, RDs K H ds xs → xs[i]? = some x → ∃ d, ds[i]? = some d ∧ RD K H d x
  | [], xs, i, x, h, e => by rw [h.inv_nil] at e; simp at e
  | d :: ds, xs, i, x, h, e => by
    obtain ⟨y, r, e1, h1, h2⟩ := h.inv_cons
    subst e1
    cases i with
    | zero => simp at e; subst e; exact ⟨d, rfl, h1⟩
    | succ i =>
      obtain ⟨z, q1, q2⟩ := RDs.getV (i := i) (x := x) h2 (by simpa using e)
      exact ⟨z, by simpa using q1, q2⟩
noncomputable def sc : D → Prop
  | .non => True
  | .int _ => True
  | .str _ => True
  | _ => False
theorem cmp_ni {j : Int} {t : Tok} {A : Around} : Cmp3 A s .none (.int j t) (eqb .non (.int j)) := by rw [eqb_no (by intro z; cases z)]; exact ⟨EqAt.none_int _ _, RcAt.none_int _ _, RcNeAt.none_int _ _⟩
theorem cmp_ns {j : Str} {t : Tok} {A : Around} : Cmp3 A s .none (.str j t) (eqb .non (.str j)) := by rw [eqb_no (by intro z; cases z)]; exact ⟨EqAt.none_str _ _, RcAt.none_str _ _, RcNeAt.none_str _ _⟩
theorem cmp_in {j : Int} {t : Tok} {A : Around} : Cmp3 A s (.int j t) .none (eqb (.int j) .non) := by rw [eqb_no (by intro z; cases z)]; exact ⟨EqAt.int_none _ _, RcAt.int_none _ _, RcNeAt.int_none _ _⟩
theorem cmp_sn {j : Str} {t : Tok} {A : Around} : Cmp3 A s (.str j t) .none (eqb (.str j) .non) := by rw [eqb_no (by intro z; cases z)]; exact ⟨EqAt.str_none _ _, RcAt.str_none _ _, RcNeAt.str_none _ _⟩
theorem cmp_is {i : Int} {j : Str} {t u : Tok} {A : Around} : Cmp3 A s (.int i t) (.str j u) (eqb (.int i) (.str j)) := by rw [eqb_no (by intro z; cases z)]; exact ⟨EqAt.int_str _ _ _ _, RcAt.int_str _ _ _ _, RcNeAt.int_str _ _ _ _⟩
theorem cmp_si {i : Str} {j : Int} {t u : Tok} {A : Around} : Cmp3 A s (.str i t) (.int j u) (eqb (.str i) (.int j)) := by rw [eqb_no (by intro z; cases z)]; exact ⟨EqAt.str_int _ _ _ _, RcAt.str_int _ _ _ _, RcNeAt.str_int _ _ _ _⟩
theorem cmp_ii {i j : Int} {t u : Tok} {A : Around} : Cmp3 A s (.int i t) (.int j u) (eqb (.int i) (.int j)) := by
  have e : eqb (.int i) (.int j) = (i == j) := eqb_bool (by rw [beq_iff_eq]; exact ⟨fun z => by rw [z], fun z => by cases z; rfl⟩)
  rw [e]; exact ⟨EqAt.int_int _ _ _ _, RcAt.int_int _ _ _ _, RcNeAt.int_int _ _ _ _⟩
theorem cmp_ss {i j : Str} {t u : Tok} {A : Around} : Cmp3 A s (.str i t) (.str j u) (eqb (.str i) (.str j)) := by
  have e : eqb (.str i) (.str j) = (i == j) := eqb_bool (by rw [beq_iff_eq]; exact ⟨fun z => by rw [z], fun z => by cases z; rfl⟩)
  rw [e]; exact ⟨EqAt.str_str _ _ _ _, RcAt.str_str _ _ _ _, RcNeAt.str_str _ _ _ _⟩
theorem cmp_nn {A : Around} : Cmp3 A s .none .none (eqb .non .non) := by rw [eqb_self]; exact ⟨EqAt.same _, RcAt.none_none, RcNeAt.none_none⟩
theorem sc_rel {K : PySem.W.Frag} {x : D} {v : V} {v' : Value} (h : sc x) (r : RD K H x v) (l : RelV v v') : (x = .non ∧ v' = .none) ∨ (∃ i t, x = .int i ∧ v' = .int i t) ∨ (∃ i t, x = .str i ∧ v' = .str i t) := by
  cases x with
  | non => simp only [RD] at r; subst r; exact .inl ⟨rfl, l⟩
  | int i => simp only [RD] at r; subst r; obtain ⟨t, e⟩ := l; exact .inr (.inl ⟨i, t, rfl, e⟩)
  | str i => simp only [RD] at r; subst r; obtain ⟨t, e⟩ := l; exact .inr (.inr ⟨i, t, rfl, e⟩)
  | _ => exact h.elim
theorem cmp_sc {K : PySem.W.Frag} {A : Around} {x y : D} {v u : V} {v' u' : Value} (h1 : sc x) (h2 : sc y) (rx : RD K H x v) (ry : RD K H y u) (lx : RelV v v') (ly : RelV u u') : Cmp3 A s v' u' (eqb x y) := by
  rcases sc_rel h1 rx lx with ⟨rfl, rfl⟩ | ⟨i, t, rfl, rfl⟩ | ⟨i, t, rfl, rfl⟩
  · rcases sc_rel h2 ry ly with ⟨rfl, rfl⟩ | ⟨j, u, rfl, rfl⟩ | ⟨j, u, rfl, rfl⟩
    · exact cmp_nn
    · exact cmp_ni
    · exact cmp_ns
  · rcases sc_rel h2 ry ly with ⟨rfl, rfl⟩ | ⟨j, u, rfl, rfl⟩ | ⟨j, u, rfl, rfl⟩
    · exact cmp_in
    · exact cmp_ii
    · exact cmp_is
  · rcases sc_rel h2 ry ly with ⟨rfl, rfl⟩ | ⟨j, u, rfl, rfl⟩ | ⟨j, u, rfl, rfl⟩
    · exact cmp_sn
    · exact cmp_si
    · exact cmp_ss
theorem sc_of {n : Nat} {x : D} (p : pl n x) : sc x ∨ (∃ m ds, n = m + 1 ∧ x = .tup ds ∧ ∀ d ∈ ds, pl m d) ∨ (∃ m ds, n = m + 1 ∧ x = .lst ds ∧ ∀ d ∈ ds, pl m d) := by
  cases x with
  | non => exact .inl trivial
  | int _ => exact .inl trivial
  | str _ => exact .inl trivial
  | tup ds => cases n with
    | zero => exact p.elim
    | succ m => exact .inr (.inl ⟨m, ds, rfl, rfl, p⟩)
  | lst ds => cases n with
    | zero => exact p.elim
    | succ m => exact .inr (.inr ⟨m, ds, rfl, rfl, p⟩)
  | bl _ => cases n <;> exact p.elim
  | fl _ => cases n <;> exact p.elim
  | ref _ => cases n <;> exact p.elim
  | ty _ => cases n <;> exact p.elim
theorem cmp_st {K : PySem.W.Frag} {A : Around} {b : Addr} {its : Array Value} {es : List D} (hu0 : A.units < cLine) (t2 : s.heap.IsTuple b its) {x : D} {v : V} {v' : Value} (h : sc x) (rx : RD K H x v) (lx : RelV v v') : Cmp3 A s v' (.ref b) (eqb x (.tup es)) ∧ Cmp3 A s (.ref b) v' (eqb (.tup es) x) := by
  rcases sc_rel h rx lx with ⟨rfl, rfl⟩ | ⟨i, t, rfl, rfl⟩ | ⟨i, t, rfl, rfl⟩
  · rw [eqb_no (by intro z; cases z), eqb_no (by intro z; cases z)]
    exact ⟨⟨EqAt.none_tuple t2 hu0, RcAt.none_tuple t2 hu0, RcNeAt.none_tuple t2 hu0⟩, ⟨EqAt.tuple_none t2 hu0, RcAt.tuple_none t2 hu0, RcNeAt.tuple_none t2 hu0⟩⟩
  · rw [eqb_no (by intro z; cases z), eqb_no (by intro z; cases z)]
    exact ⟨⟨EqAt.int_tuple _ _ t2 hu0, RcAt.int_tuple _ _ t2 hu0, RcNeAt.int_tuple _ _ t2 hu0⟩, ⟨EqAt.tuple_int _ _ t2 hu0, RcAt.tuple_int _ _ t2 hu0, RcNeAt.tuple_int _ _ t2 hu0⟩⟩
  · rw [eqb_no (by intro z; cases z), eqb_no (by intro z; cases z)]
    exact ⟨⟨EqAt.str_tuple _ _ t2 hu0, RcAt.str_tuple _ _ t2 hu0, RcNeAt.str_tuple _ _ t2 hu0⟩, ⟨EqAt.tuple_str _ _ t2 hu0, RcAt.tuple_str _ _ t2 hu0, RcNeAt.tuple_str _ _ t2 hu0⟩⟩
theorem cmp_sl {K : PySem.W.Frag} {A : Around} {b : Addr} {its : Array Value} {es : List D} (hu0 : A.units < cLine) (t2 : s.heap.IsList b its) {x : D} {v : V} {v' : Value} (h : sc x) (rx : RD K H x v) (lx : RelV v v') : Cmp3 A s v' (.ref b) (eqb x (.lst es)) ∧ Cmp3 A s (.ref b) v' (eqb (.lst es) x) := by
  rcases sc_rel h rx lx with ⟨rfl, rfl⟩ | ⟨i, t, rfl, rfl⟩ | ⟨i, t, rfl, rfl⟩
  · rw [eqb_no (by intro z; cases z), eqb_no (by intro z; cases z)]
    exact ⟨⟨EqAt.none_list t2 hu0, RcAt.none_list t2 hu0, RcNeAt.none_list t2 hu0⟩, ⟨EqAt.list_none t2 hu0, RcAt.list_none t2 hu0, RcNeAt.list_none t2 hu0⟩⟩
  · rw [eqb_no (by intro z; cases z), eqb_no (by intro z; cases z)]
    exact ⟨⟨EqAt.int_list _ _ t2 hu0, RcAt.int_list _ _ t2 hu0, RcNeAt.int_list _ _ t2 hu0⟩, ⟨EqAt.list_int _ _ t2 hu0, RcAt.list_int _ _ t2 hu0, RcNeAt.list_int _ _ t2 hu0⟩⟩
  · rw [eqb_no (by intro z; cases z), eqb_no (by intro z; cases z)]
    exact ⟨⟨EqAt.str_list _ _ t2 hu0, RcAt.str_list _ _ t2 hu0, RcNeAt.str_list _ _ t2 hu0⟩, ⟨EqAt.list_str _ _ t2 hu0, RcAt.list_str _ _ t2 hu0, RcNeAt.list_str _ _ t2 hu0⟩⟩
theorem cmp_D (I : Inv X pins σ H s) : ∀ (n : Nat) {x y : D} {v u : V} {v' u' : Value} {A : Around}, pl n x → pl n y → RD X.K H x v → RD X.K H y u → RelV v v' → RelV u u' → A.units + n < cLine → Cmp3 A s v' u' (eqb x y) := by
  intro n
  induction n with
  | zero =>
    intro x y v u v' u' A px py rx ry lx ly hu
    rcases sc_of px with h1 | ⟨m, _, e, _⟩ | ⟨m, _, e, _⟩
    · rcases sc_of py with h2 | ⟨m, _, e, _⟩ | ⟨m, _, e, _⟩
      · exact cmp_sc h1 h2 rx ry lx ly
      · cases e
      · cases e
    · cases e
    · cases e
  | succ n ih =>
    intro x y v u v' u' A px py rx ry lx ly hu
    have hu0 : A.units < cLine := by walk_at "o"
    have hu1 : A.in1.units + n < cLine := by show A.units + 1 + n < cLine; omega
    have items : ∀ {ds es : List D} {xs ys : List V} {its its2 : List Value}, (∀ d ∈ ds, pl n d) → (∀ d ∈ es, pl n d) → RDs X.K H ds xs → RDs X.K H es ys → Vals xs its → Vals ys its2 →
        ∀ j (h1 : j < its.toArray.size) (h2 : j < its2.toArray.size), EqAt A.in1 s its.toArray[j] its2.toArray[j] (eqb (ds.getD j .non) (es.getD j .non)) := by
      intro ds es xs ys its its2 p1 p2 r1 r2 w1 w2 j h1 h2
      obtain ⟨x1, e1, q1⟩ := Vals.getV (i := j) (u := its.toArray[j]) w1 (by simp at h1; simp [h1])
      obtain ⟨x2, e2, q2⟩ := Vals.getV (i := j) (u := its2.toArray[j]) w2 (by simp at h2; simp [h2])
      obtain ⟨d1, f1, g1⟩ := RDs.getV r1 e1
      obtain ⟨d2, f2, g2⟩ := RDs.getV r2 e2
      have := (ih (A := A.in1) (p1 d1 (List.mem_of_getElem? f1)) (p2 d2 (List.mem_of_getElem? f2)) g1 g2 q1 q2 hu1).eq
      rw [List.getD_eq_getElem?_getD, List.getD_eq_getElem?_getD, f1, f2]
      exact this
    rcases sc_of px with h1 | ⟨m, ds, e1, rfl, p1⟩ | ⟨m, ds, e1, rfl, p1⟩
    · rcases sc_of py with h2 | ⟨m, es, e2, rfl, p2⟩ | ⟨m, es, e2, rfl, p2⟩
      · exact cmp_sc h1 h2 rx ry lx ly
      · simp only [RD] at ry
        obtain ⟨b, ys, rfl, s2, r2⟩ := ry
        cases ly
        obtain ⟨its2, w2, t2, z2⟩ := I.tuple s2
        exact (cmp_st hu0 t2 h1 rx lx).1
      · simp only [RD] at ry
        obtain ⟨b, ys, rfl, s2, r2⟩ := ry
        cases ly
        obtain ⟨its2, w2, t2, z2⟩ := I.list s2.sq
        exact (cmp_sl hu0 t2.isList h1 rx lx).1
    · cases e1
      simp only [RD] at rx
      obtain ⟨a, xs, rfl, s1, r1⟩ := rx
      cases lx
      obtain ⟨its, w1, t1, z1⟩ := I.tuple s1
      have l1 := w1.length
      have l1' := r1.length
      rcases sc_of py with h2 | ⟨m, es, e2, rfl, p2⟩ | ⟨m, es, e2, rfl, p2⟩
      · exact (cmp_st hu0 t1 h2 ry ly).2
      · cases e2
        simp only [RD] at ry
        obtain ⟨b, ys, rfl, s2, r2⟩ := ry
        cases ly
        obtain ⟨its2, w2, t2, z2⟩ := I.tuple s2
        have l2 := w2.length
        have l2' := r2.length
        have he := items p1 p2 r1 r2 w1 w2
        have hsz : its.toArray.size = ds.length := by simp only [List.size_toArray]; omega
        have hsz2 : its2.toArray.size = es.length := by simp only [List.size_toArray]; omega
        have rc := RcAt.tuples (A := A) t1 t2 hu0 he
        have rn := RcNeAt.tuples (A := A) t1 t2 hu0 he
        rw [hsz, hsz2, all_eqb _ rfl] at rc
        rw [hsz, hsz2, all_eqb _ rfl] at rn
        refine ⟨?_, rc, rn⟩
        by_cases hab : a = b
        · subst hab
          have : D.tup ds = D.tup es := rd_inj I (n + 1) (v := .ref a) px py (rd_tup s1 r1) (rd_tup s2 r2)
          rw [this, eqb_self]
          exact EqAt.same _
        · exact EqAt.of_refs hab rc
      · simp only [RD] at ry
        obtain ⟨b, ys, rfl, s2, r2⟩ := ry
        cases ly
        obtain ⟨its2, w2, t2, z2⟩ := I.list s2.sq
        rw [eqb_no (by intro z; cases z)]
        exact ⟨EqAt.tuple_list t1 t2.isList hu0, RcAt.tuple_list t1 t2.isList hu0, RcNeAt.tuple_list t1 t2.isList hu0⟩
    · cases e1
      simp only [RD] at rx
      obtain ⟨a, xs, rfl, s1, r1⟩ := rx
      cases lx
      obtain ⟨its, w1, t1, z1⟩ := I.list s1.sq
      have l1 := w1.length
      have l1' := r1.length
      rcases sc_of py with h2 | ⟨m, es, e2, rfl, p2⟩ | ⟨m, es, e2, rfl, p2⟩
      · exact (cmp_sl hu0 t1.isList h2 ry ly).2
      · simp only [RD] at ry
        obtain ⟨b, ys, rfl, s2, r2⟩ := ry
        cases ly
        obtain ⟨its2, w2, t2, z2⟩ := I.tuple s2
        rw [eqb_no (by intro z; cases z)]
        exact ⟨EqAt.list_tuple t1.isList t2 hu0, RcAt.list_tuple t1.isList t2 hu0, RcNeAt.list_tuple t1.isList t2 hu0⟩
      · cases e2
        simp only [RD] at ry
        obtain ⟨b, ys, rfl, s2, r2⟩ := ry
        cases ly
        obtain ⟨its2, w2, t2, z2⟩ := I.list s2.sq
        have l2 := w2.length
        have l2' := r2.length
        have he := items p1 p2 r1 r2 w1 w2
        have hsz : its.toArray.size = ds.length := by simp only [List.size_toArray]; omega
        have hsz2 : its2.toArray.size = es.length := by simp only [List.size_toArray]; omega
        have rc : RcAt A s (.ref a) (.ref b) (eqb (.lst ds) (.lst es)) ∧ RcNeAt A s (.ref a) (.ref b) (!eqb (.lst ds) (.lst es)) := by
          rw [eqb_lst]
          by_cases hl : ds.length = es.length
          · have rc := RcAt.lists (A := A) t1.isList t2.isList (by walk_at "o") hu0 he
            have rn := RcNeAt.lists (A := A) t1.isList t2.isList (by walk_at "o") hu0 he
            have e := all_eqb (ds := ds) (es := es) its.toArray.size (by walk_at "o")
            rw [hl, beq_self_eq_true, Bool.and_true] at e
            rw [e] at rc rn
            exact ⟨rc, rn⟩
          · rw [eqb_no (by intro z; cases z; exact hl rfl)]
            exact ⟨RcAt.lists_lengths t1.isList t2.isList (by rw [hsz, hsz2]; simpa using hl) hu0, RcNeAt.lists_lengths t1.isList t2.isList (by rw [hsz, hsz2]; simpa using hl) hu0⟩
        refine ⟨?_, rc.1, rc.2⟩
        by_cases hab : a = b
        · subst hab
          have : D.lst ds = D.lst es := rd_inj I (n + 1) (v := .ref a) px py (rd_lst s1 r1) (rd_lst s2 r2)
          rw [this, eqb_self]
          exact EqAt.same _
        · exact EqAt.of_refs hab rc.1
end
end L3
namespace L2
open PySem PySem.Spec PyProof.Rows
noncomputable def cutC (cs : List Nat) (lo hi : Option Int) : List Nat := (cs.drop (HT.sIx cs.length 0 lo)).take (HT.sIx cs.length cs.length hi - HT.sIx cs.length 0 lo)
theorem pick_cps (cs : Array Nat) (i k : Nat) : (List.range k).filterMap (fun m => cs[i + m]?) = (cs.toList.drop i).take k := by
  induction k generalizing i with
  | zero => simp
  | succ k ih =>
    rw [List.range_succ_eq_map, List.filterMap_cons, List.filterMap_map]
    have e : (fun m => cs[i + m]?) ∘ Nat.succ = fun m => cs[(i + 1) + m]? := by funext m; simp [Nat.succ_eq_add_one]; congr 1; omega
    rw [e, ih (i + 1)]
    cases h : cs.toList.drop i with
    | nil =>
      have hl : cs.toList.length ≤ i := List.drop_eq_nil_iff.mp h
      have h1 : cs[i + 0]? = none := by simp at hl; simp [hl]
      have h2 : cs.toList.drop (i + 1) = [] := List.drop_eq_nil_iff.mpr (by walk_at "o")
      rw [h1, h2]
      simp
    | cons c r =>
      have hlt : i < cs.toList.length := by
        refine Nat.lt_of_not_le fun hle => ?_
        rw [List.drop_eq_nil_iff.mpr hle] at h; cases h
      have h0 := List.drop_eq_getElem_cons hlt
      rw [h] at h0
      cases h0
      have h1 : cs[i + 0]? = some cs.toList[i] := by simp at hlt; simp [hlt]
      rw [h1, List.take_succ_cons]
theorem clip_sIx (n : Nat) (o : Option Int) (d : Nat) (hd : d ≤ n) : (match o with
    | none => (d : Int)
    | some i => max 0 (min (if i < 0 then i + (n : Int) else i) (n : Int))) = ((HT.sIx n d o : Nat) : Int) := by
  cases o with
  | none => rfl
  | some i =>
    simp only [HT.sIx]
    by_cases h : i < 0
    · simp only [h, if_true]; omega
    · simp only [h, if_false]; omega
theorem indices_eq (lo hi : Option Int) (n : Nat) : Builtin.Str.strSliceIndices lo hi 1 n = (List.range (HT.sIx n n hi - HT.sIx n 0 lo)).map fun m => HT.sIx n 0 lo + m := by
  have h1 := clip_sIx n lo 0 (Nat.zero_le _)
  have h2 := clip_sIx n hi n (Nat.le_refl _)
  have e : Builtin.Str.strSliceIndices lo hi 1 n = sliceRange ((HT.sIx n 0 lo : Nat) : Int) ((HT.sIx n n hi : Nat) : Int) 1 := by
    rw [← h1, ← h2]
    unfold Builtin.Str.strSliceIndices
    cases lo <;> cases hi <;> simp
  rw [e]
  unfold sliceRange
  simp only [show (1 : Int) > 0 by decide, if_true]
  have c : (if ((HT.sIx n 0 lo : Nat) : Int) < ((HT.sIx n n hi : Nat) : Int) then (((HT.sIx n n hi : Nat) : Int) - ((HT.sIx n 0 lo : Nat) : Int) + 1 - 1) / 1 else 0).toNat = HT.sIx n n hi - HT.sIx n 0 lo := by
    rw [Int.ediv_one]
    split <;> omega
  rw [c]
  refine List.map_congr_left fun k _ => ?_
  omega
theorem cutC_length_le (cs : List Nat) (lo hi : Option Int) : (cutC cs lo hi).length ≤ cs.length := by
  unfold cutC
  rw [List.length_take, List.length_drop]
  omega
theorem slice_cut (x : Str) (lo hi : Option Int) : Txt.slice x lo hi = ⟨(cutC x.cps.toList lo hi).toArray⟩ := by
  have hn : x.length = x.cps.toList.length := by simp [Str.length]
  have key : (Builtin.Str.strSliceIndices lo hi 1 x.length).filterMap (x.cps[·]?) = cutC x.cps.toList lo hi := by
    rw [indices_eq, List.filterMap_map]
    unfold cutC
    rw [← hn, ← pick_cps]
    rfl
  unfold Txt.slice
  split
  · rename_i h
    rw [Bool.and_eq_true] at h
    have hl : (Builtin.Str.strSliceIndices lo hi 1 x.length).length = x.length := by simpa using h.2
    rw [indices_eq, List.length_map, List.length_range] at hl
    have b1 : HT.sIx x.length x.length hi ≤ x.length := HT.sIx_le _ _ (Nat.le_refl _) _
    have h0 : HT.sIx x.length 0 lo = 0 ∨ x.length = 0 := by walk_at "o"
    have e : cutC x.cps.toList lo hi = x.cps.toList := by
      unfold cutC
      rw [← hn]
      rcases h0 with h0 | h0
      · have h3 : HT.sIx x.length x.length hi = x.length := by walk_at "o"
        rw [h0, h3, List.drop_zero, Nat.sub_zero, hn, List.take_length]
      · have : x.cps.toList = [] := List.length_eq_zero_iff.mp (by walk_at "o")
        rw [this]; simp
    rw [e]
  · rw [key]
end L2
namespace L2
open PySem PySem.Spec PyProof.Rows
section
variable {X : Cx}
theorem call_sum (hc : X.calm = true) : CallR X (.builtin "sum") (fun xs H Q => ∃ (a : Addr) (ns : List Int), xs = [.ref a] ∧ SqL X.K H a (ns.map V.int) ∧ Q (.int ns.sum) H) := by
  intro pins s σ H xs us Q I rs h
  obtain ⟨a, ns, rfl, hq, q⟩ := h
  obtain ⟨u, rfl, ru⟩ := vals1 rs
  cases ru
  obtain ⟨its, rv, p, hz⟩ := I.list hq
  have hi : IntsAre its ns := intsAre_of rv
  obtain ⟨xs, ex⟩ := (show ∃ xs : Array (Int × Tok), its.toArray = intItems xs from hi.allInts.items)
  refine sum_intListG (I.ok.hd hc) (xs := xs) (by rw [← ex]; exact p.isList) fun h' tk t' hk => ?_
  have e : preSum (numAt xs) xs.size = ns.sum := by
    rw [preSum_eq, List.take_of_length_le (by simp), ← nums_intItems, ← ex]
    simp [hi.numsOf]
  rw [e]
  exact ⟨.int ns.sum, H, I.kept hk, ⟨t', rfl⟩, q⟩
noncomputable def repS (x : Str) (k : Nat) : Str := ⟨(List.replicate k x.cps.toList).flatten.toArray⟩
theorem foldl_cps (x : Array Nat) : ∀ (k : Nat) (acc : List Nat), (List.replicate k x).foldl (· ++ ·) acc.toArray = (acc ++ (List.replicate k x.toList).flatten).toArray
  | 0, acc => by simp
  | k + 1, acc => by
    rw [List.replicate_succ, List.foldl_cons, List.replicate_succ, List.flatten_cons]
    have : acc.toArray ++ x = (acc ++ x.toList).toArray := by simp
    rw [this, foldl_cps x k]
    simp
theorem op_mul_str : OpR X (binaryOp .Mult) (fun x y H Q => ∃ z n, x = .str z ∧ y = .int n ∧ -(2 ^ 63) ≤ n ∧ n < 2 ^ 63 ∧ z.length * n.toNat ≤ sizeLine ∧ Q (.str (repS z n.toNat)) H) := by
  intro pins s σ H x y v u Q I rx ry h
  obtain ⟨z, n, rfl, rfl, h1, h2, hl, q⟩ := h
  obtain ⟨t, rfl⟩ := rx
  obtain ⟨t', rfl⟩ := ry
  have hn := line63
  have len_rep : (repS z n.toNat).length = z.length * n.toNat := by
    simp [repS, Str.length, Nat.mul_comm]
  have bound : ¬ n < 1 → (z.length : Int) ≤ (2 ^ 63 - 1) / n := fun h => by
    rw [Int.le_ediv_iff_mul_le (by walk_at "o")]
    have e : (z.length : Int) * n = ((z.length * n.toNat : Nat) : Int) := by
      rw [Int.natCast_mul, Int.toNat_of_nonneg (by walk_at "o")]
    rw [e]
    omega
  refine PySem.P.mul_str (by rw [decide_eq_false (by walk_at "o"), decide_eq_false (by walk_at "o")]; rfl) (fun h _ => by have := bound h; omega) (fun h _ => ?_) ?_
  · unfold Builtin.Str.tooLong
    exact decide_eq_false (by walk_at "o")
  · have fin : ∀ tk s', Inv X pins σ H s' → ∀ w, w = repS z n.toNat → EP X pins σ Q (.str w tk) s' := fun tk s' I' w e => ⟨.str (repS z n.toNat), H, I', ⟨tk, by rw [e]⟩, q⟩
    split
    · rename_i hlt
      have : n.toNat = 0 := by walk_at "o"
      exact ⟨by decide, fin _ _ (I.tok _) _ (by rw [this]; rfl)⟩
    · split
      · rename_i hlt he
        refine fin _ _ I _ ?_
        rw [Bool.or_eq_true] at he
        rcases he with he | he
        · have : n = 1 := by simpa using he
          subst this
          simp [repS]
        · have hz : z.length = 0 := by simpa using he
          have hz' : z.cps = #[] := Array.eq_empty_of_size_eq_zero hz
          cases z
          simp only at hz'
          subst hz'
          simp [repS]
      · refine ⟨?_, fin _ _ (I.tok _) _ ?_⟩
        · show (⟨_⟩ : Str).length ≤ sizeLine
          have e := foldl_cps z.cps n.toNat []
          simp only [List.nil_append] at e
          rw [show (#[] : Array Nat) = [].toArray from rfl, e]
          exact Nat.le_trans (Nat.le_of_eq len_rep) hl
        · have e := foldl_cps z.cps n.toNat []
          simp only [List.nil_append] at e
          rw [show (#[] : Array Nat) = [].toArray from rfl, e]
          rfl
theorem sl_str : SlR X (fun x lo hi H Q => ∃ z, x = .str z ∧ z.length ≤ sizeLine ∧ Q (.str ⟨(cutC z.cps.toList lo hi).toArray⟩) H) := by
  intro pins s σ H x v vl vu lo hi sl Q I rx hs pl pu h
  obtain ⟨z, rfl, hz, q⟩ := h
  obtain ⟨t, rfl⟩ := rx
  refine ⟨"str", _, PySem.F.slot_str_getitem.lookup, typeIs_str _ _ _, ?_⟩
  have part : ∀ {v : Value} {o : Option Int}, IsPart v o → ∃ p : Option (Int × Tok), v = partValue p ∧ p.map (·.1) = o := by
    intro v o h
    cases h with
    | none => exact ⟨none, rfl, rfl⟩
    | int i t => exact ⟨some (i, t), rfl, rfl⟩
  obtain ⟨pl', e1, f1⟩ := part pl
  obtain ⟨pu', e2, f2⟩ := part pu
  subst e1 e2
  refine wpAny_getItem_str_slice (l := pl') (u := pu') (st := none) ?_ rfl ?_
  · obtain ⟨o, a, b, c⟩ := hs
    exact ⟨o, a, b, c⟩
  · unfold sliceMade
    subst f1 f2
    have e : (if (((none : Option (Int × Tok)).map (·.1)).getD 1 == 1 && (slicePicked z pl' pu' none).length == z.length) = true then z else ⟨((slicePicked z pl' pu' none).filterMap (z.cps[·]?)).toArray⟩) = (⟨(cutC z.cps.toList (pl'.map (·.1)) (pu'.map (·.1))).toArray⟩ : Str) := by
      rw [← slice_cut]
      rfl
    refine post_val_or_str ⟨?_, fun t' k => ?_⟩
    · rw [e]
      show (cutC z.cps.toList (pl'.map (·.1)) (pu'.map (·.1))).toArray.size ≤ sizeLine
      rw [List.size_toArray]
      refine Nat.le_trans (cutC_length_le _ _ _) ?_
      simpa [Str.length] using hz
    · rw [e]
      exact ⟨.str _, H, I.tok k, ⟨t', rfl⟩, q⟩
end
end L2
namespace L3
open PySem PySem.Spec PyProof.Rows L2
noncomputable def liftOpV (K : PySem.W.Frag) (r3 : R3) : R2 := fun v u H Q => ∃ x y G Q3, RD K H x v ∧ RD K H y u ∧ RG K H G ∧ r3 x y G Q3 ∧ Fin3 K G H Q3 Q
noncomputable def eOpV (r : R3) (ta tb : TE3) : TE3 := fun σ G Q => ta σ G fun x G1 => tb σ G1 fun y G2 => r (val x) (val y) G2 Q
section
variable {X : Cx} {a b c : Expr} {ta tb tc : TE3} {pos : Pos} {r : R3}
theorem twoV {K : PySem.W.Frag} {Q : VK} {τ : St} {H : Hp} (h : lift K (eOpV r ta tb) τ H Q) : tOp (liftOpV K r) (liftV K ta) (liftV K tb) τ H Q := by
  obtain ⟨σ, G, Q3, rs, rg, h, k⟩ := h
  refine ⟨σ, G, _, rs, rg, h, fun x G1 v H1 h1 k1 rg1 re1 => ⟨σ, G1, _, rs.mono (k1.stb rg), rg1, h1, fun y G2 u H2 h2 k2 rg2 re2 => ?_⟩⟩
  exact ⟨val x, val y, G2, Q3, RD.mono (k2.stb rg1) _ _ re1, re2, rg2, h2, k.base (k1.trans k2)⟩
theorem p_tcmpV {op : CmpOp} (ho : OpR X (compareOp op) (liftOpV X.K r)) (ha : PE X a (lift X.K ta)) (hb : PE X b (lift X.K tb)) (hm : behindInMarks op b = false) : PT X (.Compare a [op] [b] pos) (liftT X.K (tTru (eOpV r ta tb))) :=
  (pt_cmpR ho (pe_val ha) (pe_val hb) hm).imp fun _ _ _ h => twoV (tru_of h)
noncomputable def oEq : R3 := fun x y G Q => match x, y with
  | .bl a, .bl b => Q (.bl (a == b)) G
  | x, y => pl 8 x ∧ pl 8 y ∧ Q (.bl (eqb x y)) G
noncomputable def oNe : R3 := fun x y G Q => match x, y with
  | .bl a, .bl b => Q (.bl (!(a == b))) G
  | x, y => pl 8 x ∧ pl 8 y ∧ Q (.bl (!eqb x y)) G
theorem x_eq (hu : X.A.units + 8 < cLine) : OpR X (compareOp .Eq) (liftOpV X.K oEq) := by
  rintro pins s σ H v u v' u' Q I rv ru ⟨x, y, G, Q3, rx, ry, rg, h, k⟩
  unfold oEq at h
  split at h
  · rename_i a b
    simp only [RD] at rx ry
    subst rx ry
    cases rv; cases ru
    exact SeqAt.RcAt.bool_bool a b X.prog X.w X.xe _ ⟨.bl (a == b), H, I, rfl, k _ G _ H h Kp.refl rg (.of rd_bl)⟩
  · obtain ⟨p1, p2, q⟩ := h
    exact (cmp_D I 8 p1 p2 rx ry rv ru hu).rc X.prog X.w X.xe _ ⟨.bl _, H, I, rfl, k _ G _ H q Kp.refl rg (.of rd_bl)⟩
theorem x_ne (hu : X.A.units + 8 < cLine) : OpR X (compareOp .NotEq) (liftOpV X.K oNe) := by
  rintro pins s σ H v u v' u' Q I rv ru ⟨x, y, G, Q3, rx, ry, rg, h, k⟩
  unfold oNe at h
  split at h
  · rename_i a b
    simp only [RD] at rx ry
    subst rx ry
    cases rv; cases ru
    exact SeqAt.RcNeAt.bool_bool a b X.prog X.w X.xe _ ⟨.bl (!(a == b)), H, I, rfl, k _ G _ H h Kp.refl rg (.of rd_bl)⟩
  · obtain ⟨p1, p2, q⟩ := h
    exact (cmp_D I 8 p1 p2 rx ry rv ru hu).ne X.prog X.w X.xe _ ⟨.bl _, H, I, rfl, k _ G _ H q Kp.refl rg (.of rd_bl)⟩

abbrev Sp3 := List D → Gp → VK3 → Prop
noncomputable def liftSp (K : PySem.W.Frag) (sp : Sp3) : Sp := fun vs H Q _ => ∃ ds G Q3, RDs K H ds vs ∧ RG K H G ∧ sp ds G Q3 ∧ Fin3 K G H Q3 Q
noncomputable def start3 (N : List Str) (ds : List D) : St3 := ds.map some ++ List.replicate (N.length - ds.length) none
theorem rs_start {K : PySem.W.Frag} {H : Hp} {N : List Str} {ds : List D} {vs : List V} (r : RDs K H ds vs) : RS K H (start3 N ds) (L2.start N vs) := by
  unfold start3 L2.start
  have hl := r.length
  rw [hl]
  have rep : ∀ n : Nat, Paired (RSo K H) (List.replicate n none) (List.replicate n none) := fun n => by
    induction n with
    | zero => exact .nil
    | succ n ih => exact .cons (show RSo K H none none from trivial) ih
  have go : ∀ {ds : List D} {vs : List V} {σ : St3} {τ : St}, RDs K H ds vs → Paired (RSo K H) σ τ → Paired (RSo K H) (ds.map some ++ σ) (vs.map some ++ τ) := by
    intro ds
    induction ds with
    | nil => intro vs σ τ r q; rw [r.inv_nil]; exact q
    | cons d t ih =>
      intro vs σ τ r q
      obtain ⟨x, xs, e, h1, h2⟩ := r.inv_cons
      subst e
      exact .cons (show RSo K H (some d) (some x) from h1) (ih h2 q)
  exact go r (rep _)
variable {P : Program} {w : World} {K : PySem.W.Frag} {mg : Str → Option Value} {base : Heap}
structure Fn3 (P : Program) (w : World) (K : PySem.W.Frag) (mg : Str → Option Value) (base : Heap) (k : Nat) (x : Str) (dds : List D) (sp : Sp3) : Prop where
  ex : ∃ f fd ps ds dvs, FnOk P w K mg base CX0 k f fd ps (liftSp K sp) ∧ mg x = some (.ref f) ∧ PySem.W.keepIn K (.ref f) = true ∧ Binds K fd ps ds ∧ Vals dvs ds ∧ ∀ H, RDs K H dds dvs
structure Mt3 (P : Program) (w : World) (K : PySem.W.Frag) (mg : Str → Option Value) (base : Heap) (k : Nat) (C : Addr) (m : Str) (dds : List D) (sp : Sp3) : Prop where
  cl : Cls K C
  ex : ∃ f fd ps ds dvs, FnOk P w K mg base CX0 k f fd ps (liftSp K sp) ∧ Meth K C m f ∧ Binds K fd ps ds ∧ Vals dvs ds ∧ ∀ H, RDs K H dds dvs
structure Mk3 (P : Program) (w : World) (K : PySem.W.Frag) (mg : Str → Option Value) (base : Heap) (k : Nat) (x : Str) (C : Addr) (dds : List D) (sp : Sp3) : Prop where
  ex : ∃ f fd ps ds dvs, Mk K C f ∧ mg x = some (.ref C) ∧ FnOk P w K mg base CX0 k f fd ps (liftSp K sp) ∧ Binds K fd ps ds ∧ Vals dvs ds ∧ ∀ H, RDs K H dds dvs
noncomputable def eCall (sp : Sp3) (dds : List D) (ta : TA3) : TE3 := fun σ G Q => ta σ G fun ds G1 => sp (ds ++ dds) G1 Q
noncomputable def eMeth (C : Addr) (L : List Str) (sp : Sp3) (dds : List D) (to : TE3) (ta : TA3) : TE3 := fun σ G Q => to σ G fun x G1 => match x with
  | .ref a => match G1 a with
    | some (.ins C' L' _) => (C' = C ∧ L' = L) ∧ ta σ G1 fun ds G2 => sp (.ref a :: (ds ++ dds)) G2 Q
    | _ => False
  | _ => False
noncomputable def eMake (C : Addr) (sp : Sp3) (dds : List D) (ta : TA3) : TE3 := fun σ G Q => ta σ G fun ds G1 => ∀ a, G1 a = none → sp (.ref a :: (ds ++ dds)) (gset G1 a (.ins C [] [])) fun d G2 => d = .non ∧ Q (.ref a) G2
variable {e o : Expr} {es : List Expr} {t : TA3} {te to : TE3} {k : Nat} {x m : Str} {p apos : Pos} {dds : List D} {sp : Sp3} {C : Addr}
theorem call_read {Q : VK} {τ : St} {H : Hp} {dvs : List V} (hd : ∀ H, RDs K H dds dvs) (h : lift K (eCall sp dds t) τ H Q) (E : XK) : tCall (liftSp K sp) dvs E (liftA K t) τ H Q := by
  obtain ⟨σ, G, Q3, rs, rg, h, kk⟩ := h
  exact ⟨σ, G, _, rs, rg, h, fun ds G1 vs H1 q k1 rg1 rds => ⟨ds ++ dds, G1, Q3, rds.append (hd H1), rg1, q, kk.base k1⟩⟩
theorem p_call (F : Fn3 X.prog X.w X.K X.mg X.base k x dds sp) (hr : Room k X.A) (hg : Gl X x) (ha : PA X (e :: es) (liftA X.K t)) (hdb : (x == ("__debug__" : Str)) = false := by decide) (he : starEach (e :: es) X.env = (false, eval e X.env) :: starEach es X.env := by rfl)
    (hpl : (backTo pos (starEach es X.env)).any (·.1) = false := by rfl) : PE X (.Call (.Name x p) (e :: es) [] pos) (lift X.K (eCall sp dds t)) := by
  obtain ⟨f, fd, ps, ds, dvs, ok, hm, hk, hb, hv, hd⟩ := F.ex
  exact (pe_call ok hr hg hm hk hb hv pass0 ha hdb he hpl).imp fun _ _ _ h => call_read hd h E0
theorem look_none {K : PySem.W.Frag} {gs : List (Str × V)} {L : List Str} {m : Str} (h : gs.map (·.1) = L) (n : m ∉ L) : gs.lookup m = none := by
  subst h
  induction gs with
  | nil => rfl
  | cons g r ih =>
    obtain ⟨y, v⟩ := g
    rw [List.map_cons, List.mem_cons, not_or] at n
    rw [List.lookup_cons, show (m == y) = false by simpa using n.1]
    exact ih n.2
theorem meth_read {Q : VK} {τ : St} {H : Hp} {dvs : List V} {L : List Str} (hL : m ∉ L) (hd : ∀ H, RDs K H dds dvs) (h : lift K (eMeth C L sp dds to t) τ H Q) (E : XK) : tMeth C m (liftSp K sp) dvs E (lift K to) (liftA K t) τ H Q := by
  obtain ⟨σ, G, Q3, rs, rg, h, kk⟩ := h
  refine ⟨σ, G, _, rs, rg, h, fun d G1 v H1 q k1 rg1 re => ?_⟩
  cases d with
  | ref a =>
    dsimp only at q
    split at q
    · rename_i C' L' ds hg
      obtain ⟨⟨rfl, rfl⟩, q⟩ := q
      obtain ⟨ho, e1, ro⟩ := rg1 a _ hg
      cases ho with
      | ins C2 dx gs =>
        obtain ⟨rfl, r2, r3⟩ := ro
        refine ⟨a, dx, gs, re.ref, e1, look_none (K := K) r2 hL, σ, G1, _, rs.mono (k1.stb rg), rg1, q, fun ds' G2 vs H2 q2 k2 rg2 rds => ?_⟩
        rw [re.ref]
        exact ⟨.ref a :: (ds' ++ dds), G2, Q3, RDs.cons rd_ref (rds.append (hd H2)), rg2, q2, kk.base (k1.trans k2)⟩
      | _ => exact ro.elim
    · exact q.elim
  | _ => exact q.elim
theorem p_meth {pl : Sem Bool} {L : List Str} (F : Mt3 X.prog X.w X.K X.mg X.base k C m dds sp) (hL : m ∉ L) (hr : Room k X.A) (ho : PE X o (lift X.K to)) (ha : PA X (e :: es) (liftA X.K t))
    (hst : starEach (e :: es) X.env = (false, eval e X.env) :: starEach es X.env := by rfl) (hpl : (backTo pos (starEach es X.env)).any (·.1) = false := by rfl)
    (ht : eval (.Call (.Attribute o m apos) (e :: es) [] pos) X.env = (do
      let ov ← eval o X.env
      standAt apos.atName
      let (f, first) ← holding [ov] (getMethod ov m pl)
      callWith pos f first (backTo pos (starEach (e :: es) X.env)) (backToKw pos (keywordEach [] X.env))) := by rfl) :
    PE X (.Call (.Attribute o m apos) (e :: es) [] pos) (lift X.K (eMeth C L sp dds to t)) := by
  obtain ⟨f, fd, ps, ds, dvs, ok, hm, hb, hv, hd⟩ := F.ex
  exact (pe_meth ho F.cl hm ok hr hb hv pass0 ha hst hpl ht).imp fun _ _ _ h => meth_read hL hd h E0
theorem p_meth0 {pl : Sem Bool} {L : List Str} (F : Mt3 X.prog X.w X.K X.mg X.base k C m dds sp) (hL : m ∉ L) (hr : Room k X.A) (ho : PE X o (lift X.K to))
    (ht : eval (.Call (.Attribute o m apos) [] [] pos) X.env = (do
      let ov ← eval o X.env
      standAt apos.atName
      let (f, first) ← holding [ov] (getMethod ov m pl)
      callWith pos f first (backTo pos (starEach [] X.env)) (backToKw pos (keywordEach [] X.env))) := by rfl) :
    PE X (.Call (.Attribute o m apos) [] [] pos) (lift X.K (eMeth C L sp dds to aNil)) := by
  obtain ⟨f, fd, ps, ds, dvs, ok, hm, hb, hv, hd⟩ := F.ex
  refine (pe_meth0 ho F.cl hm ok hr hb hv pass0 ht).imp fun τ H Q h => ?_
  obtain ⟨σ, G, Q3, rs, rg, h, kk⟩ := h
  refine ⟨σ, G, _, rs, rg, h, fun d G1 v H1 q k1 rg1 re => ?_⟩
  cases d with
  | ref a =>
    dsimp only at q
    split at q
    · rename_i C' L' ds hg
      obtain ⟨⟨rfl, rfl⟩, q⟩ := q
      obtain ⟨ho, e1, ro⟩ := rg1 a _ hg
      cases ho with
      | ins C2 dx gs =>
        obtain ⟨rfl, r2, r3⟩ := ro
        refine ⟨a, dx, gs, re.ref, e1, look_none (K := X.K) r2 hL, ?_⟩
        rw [re.ref]
        exact ⟨.ref a :: ([] ++ dds), G1, Q3, RDs.cons rd_ref (hd H1), rg1, q, kk.base k1⟩
      | _ => exact ro.elim
    · exact q.elim
  | _ => exact q.elim
theorem make_read {Q : VK} {τ : St} {H : Hp} {dvs : List V} (hd : ∀ H, RDs K H dds dvs) (h : lift K (eMake C sp dds t) τ H Q) (E : XK) : tMake C (liftSp K sp) dvs E (liftA K t) τ H Q := by
  obtain ⟨σ, G, Q3, rs, rg, h, kk⟩ := h
  refine ⟨σ, G, _, rs, rg, h, fun ds G1 vs H1 q k1 rg1 rds a dx na nd ne => ?_⟩
  have kd : Kp G1 H1 G1 (upd H1 dx (.own a)) := Kp.laid nd
  have rgd : RG K (upd H1 dx (.own a)) G1 := rg1.laid nd
  have na' : upd H1 dx (.own a) a = none := by rw [upd_ne (Ne.symm ne)]; exact na
  have ka : Kp G1 H1 (gset G1 a (.ins C [] [])) (upd (upd H1 dx (.own a)) a (.ins C dx [])) := fun b h' e n => by
    have : b ≠ a := ne_of_none e na
    exact ⟨by rw [upd_ne this, upd_ne (ne_of_none e nd)]; exact e, by rw [gset_ne this]; exact n⟩
  have st : Stb K H1 (upd (upd H1 dx (.own a)) a (.ins C dx [])) := ka.stb rg1
  have rga : RG K (upd (upd H1 dx (.own a)) a (.ins C dx [])) (gset G1 a (.ins C [] [])) := fun b o q => by
    by_cases hb : b = a
    · subst hb
      rw [gset_same] at q; cases q
      exact ⟨_, upd_same, rfl, rfl, RDs.nil⟩
    · rw [gset_ne hb] at q
      obtain ⟨h', e1, r⟩ := rg1 b o q
      exact ⟨h', by rw [upd_ne hb, upd_ne (ne_of_none e1 nd)]; exact e1, r.mono st⟩
  refine ⟨.ref a :: (ds ++ dds), _, _, RDs.cons rd_ref (RDs.append (RDs.mono st _ _ rds) (hd _)), rga, q a (rg1.free na), fun d G2 v H2 q2 k2 rg2 re => ?_⟩
  obtain ⟨rfl, q2⟩ := q2
  exact ⟨re.non, kk _ G2 _ H2 q2 (k1.trans (ka.trans k2)) rg2 (.of rd_ref)⟩
theorem p_make (F : Mk3 X.prog X.w X.K X.mg X.base k x C dds sp) (hr : Room (k + 1) X.A) (hg : Gl X x) (ha : PA X (e :: es) (liftA X.K t)) (hdb : (x == ("__debug__" : Str)) = false := by decide) (he : starEach (e :: es) X.env = (false, eval e X.env) :: starEach es X.env := by rfl)
    (hpl : (backTo pos (starEach es X.env)).any (·.1) = false := by rfl) : PE X (.Call (.Name x p) (e :: es) [] pos) (lift X.K (eMake C sp dds t)) := by
  obtain ⟨f, fd, ps, ds, dvs, M, hm, ok, hb, hv, hd⟩ := F.ex
  exact (pe_make M ok hr hg hm hb hv pass0 ha hdb he hpl).imp fun _ _ _ h => make_read hd h E0

noncomputable def eFld (C : Addr) (L : List Str) (i : Nat) (to : TE3) : TE3 := fun σ G Q => to σ G fun x G1 => match x with
  | .ref a => match G1 a with
    | some (.ins C' L' ds) => (C' = C ∧ L' = L) ∧ match ds[i]? with
      | some d => Q d G1
      | none => False
    | _ => False
  | _ => False
noncomputable def IsAt (L : List Str) (f : Str) (i : Nat) : Prop := L[i]? = some f ∧ ∀ j, j < i → L[j]? ≠ some f
theorem look_at : ∀ {gs : List (Str × V)} {f : Str} {i : Nat} {v : V}, IsAt (gs.map (·.1)) f i → (gs.map (·.2))[i]? = some v → gs.lookup f = some v
  | [], f, i, v, h, e => by simp at e
  | (g, u) :: r, f, 0, v, h, e => by
    have : g = f := by simpa using h.1
    subst this
    simp at e; subst e
    rw [List.lookup_cons, beq_self_eq_true]
  | (g, u) :: r, f, i + 1, v, h, e => by
    have ne : g ≠ f := fun z => h.2 0 (Nat.succ_pos _) (by simp [z])
    rw [List.lookup_cons, show (f == g) = false by simpa using Ne.symm ne]
    exact look_at (i := i) ⟨by simpa using h.1, fun j hj z => h.2 (j + 1) (Nat.succ_lt_succ hj) (by simpa using z)⟩ (by simpa using e)
theorem put_at : ∀ {gs : List (Str × V)} {f : Str} {i : Nat} (v : V), IsAt (gs.map (·.1)) f i → (putF f v gs).map (·.1) = gs.map (·.1) ∧ (putF f v gs).map (·.2) = (gs.map (·.2)).set i v
  | [], f, i, v, h => by have := h.1; simp at this
  | (g, u) :: r, f, 0, v, h => by
    have : g = f := by simpa using h.1
    subst this
    simp [putF]
  | (g, u) :: r, f, i + 1, v, h => by
    have ne : g ≠ f := fun z => h.2 0 (Nat.succ_pos _) (by simp [z])
    have ih := put_at (gs := r) (i := i) v ⟨by simpa using h.1, fun j hj z => h.2 (j + 1) (Nat.succ_lt_succ hj) (by simpa using z)⟩
    simp only [putF, if_neg ne, List.map_cons, List.set_cons_succ, ih.1, ih.2, and_self]
theorem put_new : ∀ {gs : List (Str × V)} {f : Str} (v : V), f ∉ gs.map (·.1) → putF f v gs = gs ++ [(f, v)]
  | [], f, v, h => rfl
  | (g, u) :: r, f, v, h => by
    rw [List.map_cons, List.mem_cons, not_or] at h
    simp only [putF, if_neg (Ne.symm h.1), put_new v h.2, List.cons_append]
theorem p_fld {f : Str} {L : List Str} {i : Nat} (cl : Cls X.K C) (na : NoAttr X.K C f) (hi : IsAt L f i) (ho : PE X o (lift X.K to)) (hb : attributeBase o f X.env (eval o X.env) = eval o X.env := by rfl) : PE X (.Attribute o f pos) (lift X.K (eFld C L i to)) :=
  (pe_fld ho hb).imp fun τ H Q zz => by
  obtain ⟨σ, G, Q3, rs, rg, h, kk⟩ := zz
  exact (
    ⟨σ, G, _, rs, rg, h, fun d G1 v H1 q k1 rg1 re => by
        cases d with
        | ref a =>
          dsimp only at q
          split at q
          · rename_i C' L' ds hg
            obtain ⟨⟨rfl, rfl⟩, q⟩ := q
            split at q
            · rename_i d hd
              obtain ⟨ho, e1, ro⟩ := rg1 a _ hg
              cases ho with
              | ins C2 dx gs =>
                obtain ⟨rfl, r2, r3⟩ := ro
                subst r2
                obtain ⟨w, hw, rd⟩ := r3.get hd
                exact ⟨a, _, dx, gs, w, re.ref, e1, cl, na, look_at hi hw, kk _ G1 _ H1 q k1 rg1 (.of rd)⟩
              | _ => exact ro.elim
            · exact q.elim
          · exact q.elim
        | _ => exact q.elim⟩)
noncomputable def sFld3 (C : Addr) (L : List Str) (i : Nat) (to tv : TE3) : TS3 := fun D σ G => tv σ G fun d G1 => to σ G1 fun x G2 => match x with
  | .ref a => match G2 a with
    | some (.ins C' L' ds) => (C' = C ∧ L' = L) ∧ D.nx σ (gset G2 a (.ins C L (ds.set i (val d))))
    | _ => False
  | _ => False
noncomputable def sFldN (C : Addr) (L : List Str) (f : Str) (to tv : TE3) : TS3 := fun D σ G => tv σ G fun d G1 => to σ G1 fun x G2 => match x with
  | .ref a => match G2 a with
    | some (.ins C' L' ds) => (C' = C ∧ L' = L) ∧ D.nx σ (gset G2 a (.ins C (L ++ [f]) (ds ++ [val d])))
    | _ => False
  | _ => False
theorem put_ok {H : Hp} {G : Gp} {a : Addr} {C2 dx : Addr} {gs gs' : List (Str × V)} {L' : List Str} {ds' : List D} (rg : RG K H G) (e1 : H a = some (.ins C2 dx gs)) (r1 : gs'.map (·.1) = L') (r2 : RDs K H ds' (gs'.map (·.2))) (hg : G a ≠ none) :
    Kp G H (gset G a (.ins C2 L' ds')) (upd H a (.ins C2 dx gs')) ∧ RG K (upd H a (.ins C2 dx gs')) (gset G a (.ins C2 L' ds')) := by
  have kp : Kp G H (gset G a (.ins C2 L' ds')) (upd H a (.ins C2 dx gs')) := fun b h e n => by
    have : b ≠ a := fun z => by subst z; exact hg n
    exact ⟨by rw [upd_ne this]; exact e, by rw [gset_ne this]; exact n⟩
  have st := kp.stb rg
  refine ⟨kp, fun b o q => ?_⟩
  by_cases hb : b = a
  · subst hb
    rw [gset_same] at q; cases q
    exact ⟨_, upd_same, rfl, r1, RDs.mono st _ _ r2⟩
  · rw [gset_ne hb] at q
    obtain ⟨h', e2, r⟩ := rg b o q
    exact ⟨h', by rw [upd_ne hb]; exact e2, r.mono st⟩
theorem q_fld {f : Str} {L : List Str} {i : Nat} {pos' : Pos} (cl : Cls X.K C) (na : NoAttr X.K C f) (hi : IsAt L f i) (hl : L.length < 1000) (ho : PE X o (lift X.K to)) (hv : PE X e (lift X.K te)) (hs : swapsWith e (some (.Attribute o f pos')) pos.line X.env = pure false := by rfl) :
    PS X (.Assign [.Attribute o f pos'] e pos) (liftS X.K (sFld3 C L i to te)) :=
  (ps_fld ho (pe_val hv) hs).imp fun D τ H zz => by
  obtain ⟨σ, G, D3, rs, rg, h, kk⟩ := zz
  exact (
    ⟨σ, G, _, rs, rg, h, fun d G1 v H1 q1 k1 rg1 rd => ⟨σ, G1, _, rs.mono (k1.stb rg), rg1, q1, fun x G2 u H2 q2 k2 rg2 re => by
        cases x with
        | ref a =>
          dsimp only at q2
          split at q2
          · rename_i C' L' ds hg
            obtain ⟨⟨rfl, rfl⟩, q2⟩ := q2
            obtain ⟨ho, e1, ro⟩ := rg2 a _ hg
            cases ho with
            | ins C2 dx gs =>
              obtain ⟨rfl, r2, r3⟩ := ro
              subst r2
              obtain ⟨p1, p2⟩ := put_at (gs := gs) v hi
              have rd2 := RD.mono (k2.stb rg1) _ _ rd
              obtain ⟨kp, rg3⟩ := put_ok (gs' := putF f v gs) (L' := gs.map (·.1)) (ds' := ds.set i (val d)) rg2 e1 p1 (by rw [p2]; exact r3.set i rd2) (by rw [hg]; exact fun z => nomatch z)
              exact ⟨a, _, dx, gs, re.ref, e1, cl, na, by simpa using hl, kk.nx _ _ _ _ q2 ((k1.trans k2).trans kp) rg3 (rs.mono ((((k1.trans k2).trans kp)).stb rg))⟩
            | _ => exact ro.elim
          · exact q2.elim
        | _ => exact q2.elim⟩⟩)
theorem q_fldN {f : Str} {L : List Str} {pos' : Pos} (cl : Cls X.K C) (na : NoAttr X.K C f) (hi : f ∉ L) (hl : L.length < 1000) (ho : PE X o (lift X.K to)) (hv : PE X e (lift X.K te)) (hs : swapsWith e (some (.Attribute o f pos')) pos.line X.env = pure false := by rfl) :
    PS X (.Assign [.Attribute o f pos'] e pos) (liftS X.K (sFldN C L f to te)) :=
  (ps_fld ho (pe_val hv) hs).imp fun D τ H zz => by
  obtain ⟨σ, G, D3, rs, rg, h, kk⟩ := zz
  exact (
    ⟨σ, G, _, rs, rg, h, fun d G1 v H1 q1 k1 rg1 rd => ⟨σ, G1, _, rs.mono (k1.stb rg), rg1, q1, fun x G2 u H2 q2 k2 rg2 re => by
        cases x with
        | ref a =>
          dsimp only at q2
          split at q2
          · rename_i C' L' ds hg
            obtain ⟨⟨rfl, rfl⟩, q2⟩ := q2
            obtain ⟨ho, e1, ro⟩ := rg2 a _ hg
            cases ho with
            | ins C2 dx gs =>
              obtain ⟨rfl, r2, r3⟩ := ro
              subst r2
              have rd2 := RD.mono (k2.stb rg1) _ _ rd
              obtain ⟨kp, rg3⟩ := put_ok (gs' := putF f v gs) (L' := gs.map (·.1) ++ [f]) (ds' := ds ++ [val d]) rg2 e1 (by rw [put_new v hi]; simp) (by rw [put_new v hi, List.map_append]; exact r3.append (RDs.cons rd2 RDs.nil)) (by rw [hg]; exact fun z => nomatch z)
              exact ⟨a, _, dx, gs, re.ref, e1, cl, na, by simpa using hl, kk.nx _ _ _ _ q2 ((k1.trans k2).trans kp) rg3 (rs.mono ((((k1.trans k2).trans kp)).stb rg))⟩
            | _ => exact ro.elim
          · exact q2.elim
        | _ => exact q2.elim⟩⟩)
noncomputable def sAsg (te : TE3) (g : TG3) : TS3 := fun D σ G => te σ G fun d G' => g (val d) σ G' D.nx
abbrev RC3 := List D → Gp → VK3 → Prop
noncomputable def liftC (K : PySem.W.Frag) (r3 : RC3) : List V → Hp → VK → Prop := fun vs H Q => ∃ ds G Q3, RDs K H ds vs ∧ RG K H G ∧ r3 ds G Q3 ∧ Fin3 K G H Q3 Q
noncomputable def eB (r : RC3) (ta : TA3) : TE3 := fun σ G Q => ta σ G fun ds G1 => r ds G1 Q
variable {id T : String} {r3 : RC3}
theorem bread {Q : VK} {τ : St} {H : Hp} (h : lift K (eB r3 t) τ H Q) : tCB (liftC K r3) (liftA K t) τ H Q := by
  obtain ⟨σ, G, Q3, rs, rg, h, kk⟩ := h
  exact ⟨σ, G, _, rs, rg, h, fun ds G1 vs H1 q k1 rg1 rds => ⟨ds, G1, Q3, rds, rg1, q, kk.base k1⟩⟩
theorem p_callB (hc : CallR X (.builtin id) (liftC X.K r3)) (hg : Gl X x) (hm : X.mg x = none) (hv : bootBuiltins x = some (.builtin id)) (ha : PA X (e :: es) (liftA X.K t)) (hn : x ≠ "__name__" := by decide) (hdb : (x == ("__debug__" : Str)) = false := by decide)
    (he : starEach (e :: es) X.env = (false, eval e X.env) :: starEach es X.env := by rfl) (hpl : (backTo pos (starEach es X.env)).any (·.1) = false := by rfl) : PE X (.Call (.Name x p) (e :: es) [] pos) (lift X.K (eB r3 t)) :=
  (pe_callB hc hg hm hv ha hn hdb he hpl).imp fun _ _ _ h => bread h
theorem p_callTy (hc : CallR X (.type T) (liftC X.K r3)) (hg : Gl X x) (hm : X.mg x = none) (hv : bootBuiltins x = some (.type T)) (ha : PA X (e :: es) (liftA X.K t)) (hn : x ≠ "__name__" := by decide) (hdb : (x == ("__debug__" : Str)) = false := by decide)
    (he : starEach (e :: es) X.env = (false, eval e X.env) :: starEach es X.env := by rfl) (hpl : (backTo pos (starEach es X.env)).any (·.1) = false := by rfl) : PE X (.Call (.Name x p) (e :: es) [] pos) (lift X.K (eB r3 t)) :=
  (pe_callTy hc hg hm hv ha hn hdb he hpl).imp fun _ _ _ h => bread h
noncomputable def bLen : RC3 := fun ds G Q => match ds with
  | [.str z] => z.length ≤ sizeLine ∧ Q (.int z.length) G
  | [d] => match asQ G d with
    | some es => Q (.int es.length) G
    | none => False
  | _ => False
theorem one_inv {H : Hp} {d : D} {vs : List V} (r : RDs K H [d] vs) : ∃ v, vs = [v] ∧ RD K H d v := by
  obtain ⟨v, t, e, h1, h2⟩ := r.inv_cons
  have := h2.inv_nil
  subst this
  exact ⟨v, e, h1⟩
theorem b_len : CallR X (.builtin "len") (liftC X.K bLen) := ((call_len_str (X := X)).or (call_len_seq (X := X))).imp fun vs H Q zz => by
  obtain ⟨ds, G, Q3, rds, rg, h, kk⟩ := zz
  unfold bLen at h
  split at h
  · rename_i z
    obtain ⟨v, rfl, rd⟩ := one_inv rds
    simp only [RD] at rd
    subst rd
    exact .inl ⟨z, rfl, h.1, kk _ G _ H h.2 Kp.refl rg (.of rd_int)⟩
  · rename_i d _
    obtain ⟨v, rfl, rd⟩ := one_inv rds
    split at h
    · rename_i es he
      obtain ⟨a, xs, rfl, s, r⟩ := asQ_sq (G := G) (H := H) he (.of rd) rg
      exact .inr ⟨a, xs, rfl, s, by rw [← r.length]; exact kk _ G _ H h Kp.refl rg (.of rd_int)⟩
    · exact h.elim
  · exact h.elim
noncomputable def bList : RC3 := fun ds G Q => match ds with
  | [d] => match asQ G d with
    | some es => Q (.fl es) G
    | none => False
  | _ => False
theorem b_list : CallR X (.type "list") (liftC X.K bList) := (call_list_of (X := X)).imp fun vs H Q zz => by
  obtain ⟨ds, G, Q3, rds, rg, h, kk⟩ := zz
  unfold bList at h
  split at h
  · rename_i d
    obtain ⟨v, rfl, rd⟩ := one_inv rds
    split at h
    · rename_i es he
      obtain ⟨a, xs, rfl, s, r⟩ := asQ_sq (G := G) (H := H) he (.of rd) rg
      exact ⟨a, xs, rfl, s, fun p hp => kk _ G _ _ h (Kp.laid hp) (rg.laid hp) (fl_new rg hp r)⟩
    · exact h.elim
  · exact h.elim
noncomputable def bTuple : RC3 := fun ds G Q => match ds with
  | [d] => match asQ G d with
    | some es => Q (.tup es) G
    | none => False
  | _ => False
noncomputable def bSum : RC3 := fun ds G Q => match ds with
  | [d] => ∃ ns : List Int, asL G d = some (ns.map D.int) ∧ Q (.int ns.sum) G
  | _ => False
theorem b_sum (hc : X.calm = true) : CallR X (.builtin "sum") (liftC X.K bSum) := (call_sum (X := X) hc).imp fun vs H Q zz => by
  obtain ⟨ds, G, Q3, rds, rg, h, kk⟩ := zz
  unfold bSum at h
  split at h
  · rename_i d
    obtain ⟨v, rfl, rd⟩ := one_inv rds
    obtain ⟨ns, he, h⟩ := h
    obtain ⟨a, xs, rfl, s, r⟩ := asL_sq (G := G) (H := H) he (.of rd) rg
    rw [r.ints_inv ns] at s
    exact ⟨a, ns, rfl, s, kk _ G _ H h Kp.refl rg (.of rd_int)⟩
  · exact h.elim
noncomputable def bMin : RC3 := fun ds G Q => match ds with
  | [.int i, .int j] => Q (.int (if j < i then j else i)) G
  | _ => False
noncomputable def bMax : RC3 := fun ds G Q => match ds with
  | [.int i, .int j] => Q (.int (if j > i then j else i)) G
  | _ => False
theorem two_ints {H : Hp} {i j : Int} {vs : List V} (r : RDs K H [.int i, .int j] vs) : vs = [.int i, .int j] := by
  obtain ⟨v, t, e, h1, h2⟩ := r.inv_cons
  obtain ⟨u, e2, h3⟩ := one_inv h2
  simp only [RD] at h1 h3
  subst e e2 h1 h3
  rfl
theorem b_min (hc : X.calm = true) : CallR X (.builtin "min") (liftC X.K bMin) := (call_min2 (X := X) hc).imp fun vs H Q zz => by
  obtain ⟨ds, G, Q3, rds, rg, h, kk⟩ := zz
  unfold bMin at h
  split at h
  · rename_i i j
    exact ⟨i, j, two_ints rds, kk _ G _ H h Kp.refl rg (.of rd_int)⟩
  · exact h.elim
theorem b_max (hc : X.calm = true) : CallR X (.builtin "max") (liftC X.K bMax) := (call_max2 (X := X) hc).imp fun vs H Q zz => by
  obtain ⟨ds, G, Q3, rds, rg, h, kk⟩ := zz
  unfold bMax at h
  split at h
  · rename_i i j
    exact ⟨i, j, two_ints rds, kk _ G _ H h Kp.refl rg (.of rd_int)⟩
  · exact h.elim
end
end L3
namespace L3
open PySem PySem.Spec PyProof.Rows L2
section
variable {X : Cx}
noncomputable def oMul : R3 := fun x y G Q => match x, y with
  | .int i, .int j => CMul i j ∧ Q (.int (i * j)) G
  | .str z, .int n => (-(2 ^ 63) ≤ n ∧ n < 2 ^ 63 ∧ z.length * n.toNat ≤ sizeLine) ∧ Q (.str (repS z n.toNat)) G
  | _, _ => False
theorem x_mul : OpR X (binaryOp .Mult) (liftOp X.K oMul) := ((op_mul (X := X)).or (op_mul_str (X := X))).imp fun v u H Q zz => by
  obtain ⟨x, y, G0, H0, G, Q3, rx, ry, rg, h, k⟩ := zz
  unfold oMul at h
  split at h
  · rename_i i j
    exact .inl ⟨i, j, rx.int, ry.int, h.1, k _ G _ H h.2 Kp.refl rg (.of rd_int)⟩
  · rename_i z n
    exact .inr ⟨z, n, rx.str, ry.int, h.1.1, h.1.2.1, h.1.2.2, k _ G _ H h.2 Kp.refl rg (.of rd_str)⟩
  · exact h.elim
noncomputable def slA : RSl := fun x lo hi G Q => match x with
  | .str z => z.length ≤ sizeLine ∧ Q (.str ⟨(cutC z.cps.toList lo hi).toArray⟩) G
  | .tup ds => ¬ (HT.sIx ds.length 0 lo = 0 ∧ HT.sIx ds.length ds.length hi = ds.length) ∧ Q (.tup (cutD ds lo hi)) G
  | x => match asL G x with
    | some ds => Q (.fl (cutD ds lo hi)) G
    | none => False
theorem x_sl : SlR X (liftSl X.K slA) := ((sl_str (X := X)).or ((sl_tup (X := X)).or (sl_list (X := X)))).imp fun v lo hi H Q zz => by
  obtain ⟨x, G0, H0, G, Q3, rx, rg, h, k⟩ := zz
  unfold slA at h
  split at h
  · rename_i z
    exact .inl ⟨z, rx.str, h.1, k _ G _ H h.2 Kp.refl rg (.of rd_str)⟩
  · rename_i ds
    obtain ⟨a, xs, rfl, s, r⟩ := rx.tup
    refine .inr (.inl ⟨a, xs, rfl, s, by rw [← r.length]; exact h.1, fun p hp => k _ G _ _ h.2 (Kp.laid hp) (rg.laid hp) (.of (tup_new rg hp (cut_rds r lo hi)))⟩)
  · split at h
    · rename_i ds hds
      obtain ⟨a, xs, rfl, s, r⟩ := asL_sq hds rx rg
      exact .inr (.inr ⟨a, xs, rfl, s, fun p hp => k _ G _ _ h (Kp.laid hp) (rg.laid hp) (fl_new rg hp (cut_rds r lo hi))⟩)
    · exact h.elim
noncomputable def eJoin (to : TE3) (ta : TA3) : TE3 := fun σ G Q => to σ G fun x G1 => match x with
  | .str z => ta σ G1 fun ds G2 => match ds with
    | [d] => ∃ ys : List Str, asL G2 d = some (ys.map D.str) ∧ (ys.map (·.length)).sum + ys.length * z.length ≤ 16777216 ∧ Q (.str (Txt.join z ys)) G2
    | _ => False
  | _ => False
variable {o e : Expr} {es : List Expr} {to te : TE3} {t : TA3} {apos cpos pos p : Pos}
noncomputable def eAppend (to : TE3) (ta : TA3) : TE3 := fun σ G Q => to σ G fun x G1 => match x with
  | .ref a => (∃ ds, G1 a = some (.lst ds)) ∧ ta σ G1 fun es G2 => match es with
    | [d] => match G2 a with
      | some (.lst ds) => ds.length < sizeLine ∧ Q .non (gset G2 a (.lst (ds ++ [d])))
      | _ => False
    | _ => False
  | _ => False
noncomputable def kindOf3 (G : Gp) : D → Option String
  | .int _ => some "int"
  | .str _ => some "str"
  | .bl _ => some "bool"
  | .tup _ => some "tuple"
  | d => (asL G d).map fun _ => "list"
noncomputable def bIsT : RC3 := fun ds G Q => match ds with
  | [d, .ty T] => kindOf3 G d = some T ∧ Q (.bl true) G
  | _ => False
theorem p_ty {x : Str} {T : String} (hg : Gl X x) (hm : X.mg x = none) (hv : bootBuiltins x = some (.type T)) (hn : x ≠ "__name__" := by decide) (hd : (x == ("__debug__" : Str)) = false := by decide) : PE X (.Name x pos) (lift X.K (eC (.ty T))) :=
  p_c (pe_bltn (v := .ty T) hg hm hv rfl hn hd) fun _ => by simp only [RD]
theorem p_const {x : Str} {d : D} {v : V} {u : Value} (hg : Gl X x) (hm : X.mg x = some u) (r : RelV v u) (rd : ∀ H, RD X.K H d v) (hd : (x == ("__debug__" : Str)) = false := by decide) : PE X (.Name x pos) (lift X.K (eC d)) := p_c (pe_glob hg hm r hd) rd
noncomputable def eNeg (te : TE3) : TE3 := fun σ G Q => te σ G fun x G1 => match x with
  | .int i => Q (.int (-i)) G1
  | _ => False
end
end L3
namespace L3
open PySem PySem.Spec PyProof.Rows L2
theorem isAt_of {L : List Str} {f : Str} {i : Nat} (h : L.findIdx? (· == f) = some i) : IsAt L f i := by
  rw [List.findIdx?_eq_some_iff_getElem] at h
  obtain ⟨hi, h1, h2⟩ := h
  refine ⟨?_, fun j hj e => ?_⟩
  · rw [List.getElem?_eq_getElem hi]
    simpa using h1
  · have hj' : j < L.length := Nat.lt_trans hj hi
    have := h2 j hj
    rw [List.getElem?_eq_getElem hj'] at e
    simp only [Option.some.injEq] at e
    rw [e] at this
    simp at this
noncomputable def compChk (N : List Str) (osc scope : Scope) (T M : List Str) : Bool :=
  decide (scope.kind = .function) && scope.names.all (fun y => decide (y.2 ≠ .cell) && (decide (y.2 ≠ .local) || (decide (scope.names.lookup y.1 = some .local) && ((".0" : Str) :: T).contains y.1)) &&
    (decide (y.2 ≠ .free) || (decide (osc.names.lookup y.1 = some .cell) || decide (osc.names.lookup y.1 = some .free)))) && (M.all fun x => !((".0" : Str) :: T).contains x) && decide (M.length = N.length) &&
    ((M.zip N).all fun p => decide (p.1 = p.2) || scope.names.all fun y => decide (y.1 ≠ p.1))
theorem compOk_of {X : Cx} {scope : Scope} {T M : List Str} (hc : X.calm = true) (h : compChk X.N X.env.scope scope T M = true) : CompOk X scope T M := by
  unfold compChk at h
  rw [Bool.and_eq_true, Bool.and_eq_true, Bool.and_eq_true] at h
  obtain ⟨⟨⟨h12, h3⟩, h4⟩, h5⟩ := h
  have hlen : M.length = X.N.length := of_decide_eq_true h4
  simp only [Bool.and_eq_true, List.all_eq_true, Bool.or_eq_true, decide_eq_true_eq, Bool.not_eq_true', List.contains_eq_mem] at h12 h3 h5
  obtain ⟨h1, h2⟩ := h12
  refine ⟨hc, h1, fun y hy => (h2 y hy).1.1, fun y hy hl => ?_, fun y hy hl => ?_, hlen, fun i x hx => ?_, fun x hx => ?_, fun y hy hf => ?_⟩
  · rcases (h2 y hy).1.2 with z | z
    · exact absurd hl z
    · exact z.1
  · rcases (h2 y hy).1.2 with z | z
    · exact absurd hl z
    · simpa using z.2
  · have hi : i < M.length := (List.getElem?_eq_some_iff.mp hx).1
    have hi2 : i < X.N.length := by walk_at "o"
    have hm : (x, X.N[i]) ∈ M.zip X.N := by
      refine List.mem_of_getElem? (i := i) ?_
      rw [List.getElem?_zip_eq_some]
      exact ⟨hx, List.getElem?_eq_getElem hi2⟩
    rcases h5 _ hm with z | z
    · left
      rw [List.getElem?_eq_getElem hi2]
      exact congrArg some (show x = X.N[i] from z).symm
    · exact .inr fun y hy => z y hy
  · simpa using h3 x hx
  · rcases (h2 y hy).2 with z | z
    · exact absurd hf z
    · exact z
structure Fun3 (K : PySem.W.Frag) (x qual : Str) (st : Stmt) (f : Addr) (fd : FuncData) : Prop where
  ex : ∃ (oc : Value) (od : Option Addr) (dV kV doc pm : Value) (an : Option Addr) (cdv ct : Value) (osl : Array (Option Value)),
    fd = PySem.W.fnOf x qual (defArgs st) (defBody st) (defScope st) dV kV doc pm an cdv ct ∧ K.lookup f = some ⟨oc, od, .func fd, osl⟩ ∧ PySem.W.codeIn K cdv qual = true
section
variable {P : Program} {w : World} {K : PySem.W.Frag} {mg : Str → Option Value} {base : Heap}
theorem Fun3.ok3 {x qual : Str} {st : Stmt} {f : Addr} {fd : FuncData} {N ps : List Str} {k : Nat} {sp : Sp3} (F : Fun3 K x qual st f fd) (S : FnScope N ps (defScope st)) (len : ∀ ds G Q, sp ds G Q → ds.length = ps.length)
    (hbody : ∀ (cdv : Value) (A : Around) (outer : List Env) (s : Shared) (H : Hp) (E : XK), Room k (A.deeper (envOfC qual (defScope st) s.heap.objs.size f cdv)) →
      ∃ t : TS3, PSs (cxOf CX0 P w K mg base N qual (defScope st) f cdv A outer s H E).nox (defBody st) (liftS K t) ∧ ∀ ds G Q, sp ds G Q → t { nx := fun _ G' => Q .non G', rt := Q } (start3 N ds) G) : FnOk P w K mg base CX0 (k + 1) f fd ps (liftSp K sp) := by
  obtain ⟨oc, od, dV, kV, doc, pm, an, cdv, ct, osl, rfl, lk, hcd⟩ := F.ex
  refine fn_of lk hcd S (fun vs H Q E ⟨ds, G, Q3, rds, rg, h, kk⟩ => by rw [← rds.length]; exact len ds G Q3 h) fun A outer s H vs Q E hr hsp => ?_
  obtain ⟨ds, G, Q3, rds, rg, h, kk⟩ := hsp
  obtain ⟨t, ht, hq⟩ := hbody cdv A outer s H E hr
  refine ⟨liftS K t, ht.nox, start3 N ds, G, { nx := fun _ G' => Q3 .non G', rt := Q3 }, rs_start rds, rg, hq ds G Q3 h, ⟨fun σ' G' τ' H' q k' rg' rs' => kk _ G' _ H' q k' rg' (.of rd_non), kk, fun _ _ _ _ q => q.elim, fun _ _ _ _ q => q.elim⟩⟩
theorem fun3_mk {x qual : Str} {st : Stmt} {f : Addr} {oc : Value} {od an : Option Addr} {osl : Array (Option Value)} {dV kV doc pm cdv ct : Value} (l : K.lookup f = some ⟨oc, od, .func (PySem.W.fnOf x qual (defArgs st) (defBody st) (defScope st) dV kV doc pm an cdv ct), osl⟩)
    (c : PySem.W.codeIn K cdv qual = true) : Fun3 K x qual st f (PySem.W.fnOf x qual (defArgs st) (defBody st) (defScope st) dV kV doc pm an cdv ct) := ⟨⟨oc, od, dV, kV, doc, pm, an, cdv, ct, osl, rfl, l, c⟩⟩
end
end L3
namespace L3
open PySem PySem.Spec PyProof.Rows L2
theorem sSeq_def {t u : TS3} {D : Ends3} {σ : St3} {G : Gp} : sSeq t u D σ G = t { D with nx := u D } σ G := rfl
theorem cutD_to {ds : List D} {i : Int} (h : 0 ≤ i) : cutD ds none (some i) = ds.take i.toNat := by
  have : HT.sIx ds.length ds.length (some i) = min i.toNat ds.length := by simp only [HT.sIx]; rw [if_neg (by walk_at "o")]
  unfold cutD
  rw [this]
  simp only [HT.sIx, List.drop_zero, Nat.sub_zero]
  rw [List.take_eq_take_iff]; omega
theorem cutD_from {ds : List D} {i : Int} (h : 0 ≤ i) : cutD ds (some i) none = ds.drop i.toNat := by
  have : HT.sIx ds.length 0 (some i) = min i.toNat ds.length := by simp only [HT.sIx]; rw [if_neg (by walk_at "o")]
  unfold cutD
  rw [this]
  simp only [HT.sIx]
  rw [List.take_of_length_le (by simp)]
  by_cases hi : i.toNat ≤ ds.length
  · rw [Nat.min_eq_left hi]
  · rw [Nat.min_eq_right (by walk_at "o"), List.drop_length, List.drop_eq_nil_of_le (by walk_at "o")]
theorem cutD_mid {ds : List D} {i j : Int} (h : 0 ≤ i) (h2 : 0 ≤ j) : cutD ds (some i) (some j) = (ds.drop i.toNat).take (j.toNat - i.toNat) := by
  have e1 : HT.sIx ds.length 0 (some i) = min i.toNat ds.length := by simp only [HT.sIx]; rw [if_neg (by walk_at "o")]
  have e2 : HT.sIx ds.length ds.length (some j) = min j.toNat ds.length := by simp only [HT.sIx]; rw [if_neg (by walk_at "o")]
  unfold cutD
  rw [e1, e2]
  by_cases hi : i.toNat ≤ ds.length
  · rw [Nat.min_eq_left hi, List.take_eq_take_iff, List.length_drop]
    by_cases hj : j.toNat ≤ ds.length
    · rw [Nat.min_eq_left hj]
    · have hj' := Nat.le_of_not_le hj
      rw [Nat.min_eq_right hj', Nat.min_self, Nat.min_eq_right (Nat.sub_le_sub_right hj' _)]
  · rw [Nat.min_eq_right (Nat.le_of_not_le hi), List.drop_length, List.drop_eq_nil_of_le (Nat.le_of_lt (Nat.lt_of_not_le hi))]; simp
noncomputable def S (cs : List Nat) : Str := ⟨cs.toArray⟩
theorem str_append_length (a b : Str) : (a ++ b).length = a.length + b.length := by
  show (Str.append a b).length = _
  simp [Str.append, Str.length]
theorem repS_length (x : Str) (k : Nat) : (repS x k).length = k * x.length := by
  simp [repS, Str.length]
theorem signs_length (x : Str) : (signs x).length = x.length := by simp [signs, Str.length]
theorem sizeLine_ge : 1000000 ≤ sizeLine := by decide
end L3
namespace L3
open PySem PySem.Spec PyProof.Rows L2
noncomputable def spLaw3 : Sp3 := fun vs _ Q => match vs with
  | [.lst ds] => ∃ ns : List Int, ds = ns.map D.int ∧ ns.length ≤ 63 ∧ ∀ G', Q (.bl true) G'
  | _ => False
theorem law_start {K : PySem.W.Frag} {H : Hp} {a : Addr} {ns : List Int} (hl : ns.length ≤ 63) (hO : Only H) (hS : SqL K H a (ns.map V.int)) (E : XK) : liftSp K spLaw3 [.ref a] H (fun v _ => v = .bl true) E := by
  have hF : FzL K H a (ns.map V.int) := by
    rcases hS with (h | ⟨o, h⟩) | h
    · rcases hO a with e | ⟨o, xs, e⟩
      · rw [h] at e; cases e
      · rw [h] at e; cases e
    · exact .inl ⟨o, h⟩
    · exact .inr h
  refine ⟨[.lst (ns.map D.int)], fun _ => none, fun d _ => d = .bl true, RDs.cons (rd_lst hF (RDs.ints ns)) RDs.nil, (fun b o q => nomatch q), ⟨ns, rfl, hl, fun _ => rfl⟩, fun d G' v H' q _ _ re => ?_⟩
  subst q
  exact re.bl
theorem walk3 {l : PySem.W.OpenLaw} {q : Program} {loose : List Str} {XP : (Str → Option Value) → Heap → Prop} {YP : World → Heap → Prop} {d : DefRec} {K : Params → PySem.W.Frag} {k : Nat} {x : Str} (hn : l.most = some 63) (hdf : d.params.defaults = []) (hr : Room k callerA)
    (hY : ∀ (w : World) (h : Heap), YP w h → (K w.params).In h)
    (F : ∀ (w : World) (mg : Str → Option Value) (fa : Addr) (h : Heap), (K w.params).In h → h.Ns mainGlobals mg → mg d.name = some (.ref fa) →
      ∃ fd : FuncData, (∀ (s : Shared) (u : Value), BindsTo s fd ⟨[u], []⟩ [(x, u)]) ∧ ∀ base : Heap, (K w.params).In base → base.Ns mainGlobals mg → FnOk l.prog w (K w.params) mg base CX0 k fa fd [x] (liftSp (K w.params) spLaw3)) :
    PySem.W.WalkO q loose XP YP l.row.toRowW d [] (fun f vs => PySem.call f vs) :=
  L2.walk_of (n := 63) (k := k) (x := x) (CX := fun _ => CX0) (sp := fun w => liftSp (K w.params) spLaw3) hn (by decide) hdf hr hY F (fun _ _ _ _ hl hO hS => law_start hl hO hS _) fun _ _ _ _ _ z => z
end L3
namespace L2
open PySem PySem.Spec PyProof.Rows
section
variable {X : Cx}
end
end L2
namespace L3
open PySem PySem.Spec PyProof.Rows L2
noncomputable def sFrz (i : Nat) (t : TS3) : TS3 := fun D σ G => match σ[i]? with
  | some (some (.ref p)) => match G p with
    | some (.lst ds) => t D (σ.set i (some (.lst ds))) (gdel G p)
    | _ => False
  | some (some (.lst _)) => t D σ G
  | _ => False
noncomputable def iRev (ta : TA3) : TI3 := fun σ G Q => ta σ G fun ds G' => match ds with
  | [.lst es] => Q es.reverse G'
  | _ => False
end L3
namespace L3
open PySem PySem.Spec PyProof.Rows L2
theorem at1_0 {a : D} : atI [a] 0 = some a := rfl
theorem at2_0 {a b : D} : atI [a, b] 0 = some a := rfl
theorem at2_1 {a b : D} : atI [a, b] 1 = some b := rfl
theorem at3_0 {a b c : D} : atI [a, b, c] 0 = some a := rfl
theorem at3_1 {a b c : D} : atI [a, b, c] 1 = some b := rfl
theorem at3_2 {a b c : D} : atI [a, b, c] 2 = some c := rfl
theorem at4_0 {a b c d : D} : atI [a, b, c, d] 0 = some a := rfl
theorem at4_1 {a b c d : D} : atI [a, b, c, d] 1 = some b := rfl
theorem at4_2 {a b c d : D} : atI [a, b, c, d] 2 = some c := rfl
theorem at4_3 {a b c d : D} : atI [a, b, c, d] 3 = some d := rfl
theorem at5_0 {a b c d e : D} : atI [a, b, c, d, e] 0 = some a := rfl
theorem at5_1 {a b c d e : D} : atI [a, b, c, d, e] 1 = some b := rfl
theorem at5_2 {a b c d e : D} : atI [a, b, c, d, e] 2 = some c := rfl
theorem at5_3 {a b c d e : D} : atI [a, b, c, d, e] 3 = some d := rfl
theorem at5_4 {a b c d e : D} : atI [a, b, c, d, e] 4 = some e := rfl
end L3
namespace L3
open PySem PySem.Spec PyProof.Rows L2
theorem sIf_by {c : TT3} {t u : TS3} {E : Ends3} {σ : St3} {G : Gp} (b : Bool) (hc : ∀ K : Bool → Gp → Prop, K b G → c σ G K) (h : if b = true then t E σ G else u E σ G) : sIf c t u E σ G := hc _ h
end L3
namespace L3
open PySem PySem.Spec PyProof.Rows L2
theorem seq_of {t u : TS3} {E : Ends3} {σ : St3} {G : Gp} {NX : St3 → Gp → Prop} (h2 : ∀ σ' G', NX σ' G' → u E σ' G') (h1 : ∀ NX' : St3 → Gp → Prop, (∀ σ' G', NX σ' G' → NX' σ' G') → t { E with nx := NX' } σ G) : sSeq t u E σ G := h1 (u E) h2
end L3
namespace L3
open PySem PySem.Spec PyProof.Rows L2 PySem.SeqAt
section
variable {X : Cx} {pins : List (Addr × Obj)} {σ : St} {H : Hp} {s : Shared}
end
section
variable {X : Cx}
end
end L3
namespace L3
open PySem PySem.Spec PyProof.Rows L2
section
variable {κ : Type} [DecidableEq κ]
end
noncomputable def kD : Key → D
  | .inl i => .int i
  | .inr x => .str x
section
variable {K : PySem.W.Frag} {H : Hp}
end
section
variable {X : Cx} {pins : List (Addr × Obj)} {σ : St} {H : Hp} {s : Shared} {a : Addr}
end
section
variable {K : PySem.W.Frag} {H : Hp} {G : Gp}
end
section
variable {X : Cx} {pos : Pos}
end
section
variable {X : Cx}
end
end L3
namespace L3
open PySem PySem.Spec PyProof.Rows L2
section
variable {X : Cx} {pins : List (Addr × Obj)} {σ : St} {H : Hp} {s : Shared} {G : Gp} {A : Around} {E : Value → Shared → Prop} {x y d z : D} {o i zv : V} {ov iv zu : Value} {r : Option D}
end
section
variable {X : Cx} {o i e f : Expr} {to ti tz : TE3} {pos apos cpos : Pos}
end
end L3
namespace PySem.W
open PySem PyProof.Rows
noncomputable def KasT.run {α : Type} (lt : Nat → Nat → Bool) : KasT α → α
  | .ret a => a
  | .ask i j k => (k (lt i j)).run lt
section
variable (r : Nat → Nat)
noncomputable def RR (p : Array Nat) (i : Nat) : Nat := r (p.getD i 0)
noncomputable def DecTo (p : Array Nat) (n : Nat) : Prop := ∀ i, i + 1 < n → RR r p (i + 1) ≤ RR r p i
end
section
variable {r : Nat → Nat} {p : Array Nat}
end
section
variable {κ : Type} (blt : κ → κ → Bool)
end
section
variable {κ : Type} {blt : κ → κ → Bool}
end
section
variable {N : Nat} {p : Array Nat}
end
section
variable {α : Type} (blt : α → α → Bool)
end
section
variable {α : Type} {blt : α → α → Bool}
variable [DecidableEq α]
end
end PySem.W
namespace L3
open PySem PySem.Spec PyProof.Rows L2 PySem.SeqAt
open PySem.AutoSeq1 (wpAny_loadPart')
open PySem.MeetsSeq PySem.MeetsSeq2 PySem.MeetsSeq3
noncomputable def lexE (blt : D → D → Bool) : List D → List D → Bool
  | [], [] => false
  | [], _ :: _ => true
  | _ :: _, [] => false
  | a :: r, b :: t => if eqb a b = true then lexE blt r t else blt a b
noncomputable def ltD : Nat → D → D → Bool
  | _, .int a, .int b => decide (a < b)
  | _, .str x, .str y => decide (x.cps.toList < y.cps.toList)
  | n + 1, .tup xs, .tup ys => lexE (ltD n) xs ys
  | _, _, _ => false
noncomputable def cpL (n : Nat) (P : D → D → Prop) : List D → List D → Prop
  | a :: r, b :: t => (pl n a ∧ pl n b) ∧ (a ≠ b → P a b) ∧ cpL n P r t
  | _, _ => True
noncomputable def cpD : Nat → D → D → Prop
  | _, .int _, .int _ => True
  | _, .str _, .str _ => True
  | n + 1, .tup xs, .tup ys => cpL n (cpD n) xs ys
  | _, _, _ => False
section
variable {X : Cx} {pins : List (Addr × Obj)} {σ : St} {H : Hp} {s : Shared}
end
section
variable {X : Cx} {pins : List (Addr × Obj)} {σ : St} {H : Hp} {s : Shared}
end
end L3
namespace L3
open PySem PySem.Spec PyProof.Rows L2 PySem.W
section
variable {prog : Program} {w : World} {A : Around} {E : Value → Shared → Prop} {s : Shared} {d r it : Addr} {vs : List Value} {ep i : Nat}
end
end L3
namespace L3
open PySem PySem.Spec PyProof.Rows L2 PySem.SeqAt
noncomputable def XO (a : Addr) (o : Obj) : HO := .ext fun h => h.get? a = some o
theorem xo_ok {P : Program} {w : World} {H : Hp} {h : Heap} {a : Addr} {o : Obj} (e : h.get? a = some o) : ObjOk P w H h a (XO a o) := ⟨e, ⟨o, e⟩, fun _ _ p k => k _ p⟩
section
variable {X : Cx} {pins : List (Addr × Obj)} {τ : St} {H H0 : Hp} {s : Shared} {G : Gp} {a : Addr} {o : Obj} {u : HO}
theorem inv_xo (I : Inv X pins τ H s) (e : H a = some (XO a o)) : s.heap.get? a = some o := (show ObjOk X.prog X.w H s.heap a (XO a o) from I.hok a _ e).1
theorem inv_xlaid {t' : Nat} {h' : Heap} (I : Inv X pins τ H s) (ha : s.heap.objs.size = a) (hh : h' = s.heap.push o) (hf : o.isFreed = false := by rfl) : Inv X pins τ (upd H a (XO a o)) { s with heap := h', toks := t' } := by
  subst ha hh
  exact I.laid (fun _ _ e => Heap.get?_push_of_some _ e) (Nat.le_refl _) (xo_ok (Heap.get?_push_size _ hf))
end
end L3
namespace L3
open PySem PySem.Spec PyProof.Rows L2 PySem.SeqAt PySem.W
section
variable {X : Cx} {pins : List (Addr × Obj)} {τ : St} {H H0 : Hp} {s : Shared} {G : Gp}
noncomputable def keyI (d : D) : Prop := ∃ t r, d = .tup (.int t :: r)
end
end L3
namespace L3
open PySem PySem.Spec PyProof.Rows L2 PySem.SeqAt PySem.W
section
variable {X : Cx} {pins : List (Addr × Obj)} {τ : St} {H H0 : Hp} {s : Shared} {G : Gp} {S D0 : Addr} {A : Around} {E : Value → Shared → Prop} {P : PySem.Fin → Shared → Prop}
end
end L3
namespace L3
open PySem PySem.Spec PyProof.Rows L2 PySem.SeqAt PySem.W
section
variable {X : Cx} {pins : List (Addr × Obj)} {τ : St} {H H0 : Hp} {s : Shared} {G : Gp} {S D0 : Addr} {A : Around} {E : Value → Shared → Prop} {P : PySem.Fin → Shared → Prop}
  {k : Nat} {f : Addr} {fd : FuncData} {ps : List Str} {sp : Sp3} {ds ks : List D} {r : Nat → Nat} {vs : List V} {us : List Value}
end
end L3
namespace L3
open PySem PySem.Spec PyProof.Rows L2 PySem.SeqAt PySem.W
end L3
namespace L3
open PySem PySem.Spec PyProof.Rows L2 PySem.SeqAt PySem.W
section
variable {prog : Program} {w : World} {A : Around} {s : Shared} {R : Result → Shared → Prop} {I : Addr} {fp wr : List Addr} {G : Array GenState → Array GenState → Prop} {n : Nat} {P : Nat → Value → Prop} {St : Nat → Shared → Prop}
end
end L3
namespace L3
open PySem PySem.Spec PyProof.Rows L2
end L3
namespace L2
open PySem PySem.Spec PyProof.Rows
theorem Inv.turnedL {X : Cx} {pins : List (Addr × Obj)} {σ : St} {H : Hp} {s : Shared} {h' : Heap} {t' : Nat} {fp : List Addr} (I : Inv X pins σ H s) (k : ∀ b o, b ∉ fp → s.heap.get? b = some o → h'.get? b = some o) (hf : ∀ b ∈ fp, FpOk X pins H b) :
    Inv X pins σ H { s with heap := h', toks := t' } := by
  have nit : ∀ b u, H b = some u → b ∉ fp := fun b u e z => by rw [(hf b z).1] at e; cases e
  have hL : X.env.locals ∉ fp := fun z => (hf _ z).2.1 rfl
  refine I.step (g' := s.gens) (d' := s.drawn) (ch := fp) (fun b hb => ⟨(hf b hb).2.2.2.1, (hf b hb).2.1, (hf b hb).2.2.2.2.1, (hf b hb).2.2.2.2.2⟩) (fun b o _ _ hc e _ => k b o hc e) (fun b o _ _ hc e _ => ⟨o.slots, k b o hc e⟩) (fun _ _ _ _ n => n)
    (fun b o hc e => ⟨o, k b o hc e⟩) (fun _ _ e => e) (fun _ _ _ e => e) (fun b ps e => ⟨#[], by rw [e]; simp⟩) (fun m hm => ?_) (fun b u e => ?_) I.bare
  · obtain ⟨o, es, ep, ho, r⟩ := hm
    exact ⟨o, es, ep, k _ o hL ho, r⟩
  · refine (I.hok b u e).stay (fun c v hc q => k c v ?_ q) (fun _ q => q) fun _ _ q => q
    rcases hc with z | z
    · rw [z]; exact nit b u e
    · exact nit c _ z
end L2
namespace L3
open PySem PySem.Spec PyProof.Rows L2
end L3
namespace L2
open PySem PySem.Spec PyProof.Rows
section
variable {X : Cx} {a b c d : Expr} {ta tb tc td : TE} {pos : Pos}
end
end L2
namespace L3
open PySem PySem.Spec PyProof.Rows L2
section
variable {X : Cx} {a b c d : Expr} {ta tb tc td : TE3} {pos : Pos} {r r' r2 : R3}
end
section
variable {X : Cx} {tg e : Expr} {te : TE3}
end
end L3
namespace L3
open PySem PySem.Spec PyProof.Rows L2
end L3
namespace L3
open PySem PySem.Spec PyProof.Rows L2
end L3
namespace L3
open PySem PySem.Spec PyProof.Rows L2
section
variable {K : PySem.W.Frag} {H : Hp}
end
section
variable {X : Cx} {o e : Expr} {es : List Expr} {to te : TE3} {t : TA3} {pos apos : Pos} {k : Nat} {m : Str} {dds : List D} {sp : Sp3}
end
end L3
namespace L3
open PySem PySem.Spec PyProof.Rows L2 PySem.SeqAt PySem.W
section
variable {X : Cx}
end
section
variable {X : Cx} {o i : Expr} {to ti : TE3} {pos : Pos}
end
section
variable {X : Cx} {pos : Pos}
end
section
variable {X : Cx} {pins : List (Addr × Obj)} {τ : St} {H H0 : Hp} {s : Shared} {G : Gp} {E : Value → Shared → Prop}
  {k : Nat} {f : Addr} {fd : FuncData} {ps : List Str} {sp : Sp3} {ds ks : List D} {r : Nat → Nat} {vs : List V} {us : List Value}
end
end L3
namespace L3
open PySem PySem.Spec PyProof.Rows L2
end L3
namespace L2
open PySem PySem.Spec PyProof.Rows
end L2
namespace L3
open PySem PySem.Spec PyProof.Rows L2
end L3
namespace L3
open PySem PySem.Spec PyProof.Rows L2
section
variable {X : Cx} {elt tg iter : Expr} {ifs : List Expr} {scope : Scope} {T M : List Str} {pos : Pos} {tl : TE3} {g : TG3} {tt : TT3} {te : TE3}
end
section
variable {X : Cx}
end
end L3
namespace L3
open PySem PySem.Spec PyProof.Rows L2 PySem.W
abbrev excObj (C t : Addr) : Obj := { cls := .ref C, data := .fields #[.ref t, .none, .none, .none, .bool false, .none] }
abbrev excHeap (h : Heap) (C : Addr) (rest : List Value) : Heap := (h.push { cls := .type "tuple", data := .seq rest.toArray }).push (excObj C h.objs.size)
section
variable {prog : Program} {w : World} {A : Around} {K : Frag} {h : Heap} {g : Array GenState} {d : Drawn} {t : Nat} {os : OsState} {R : Result → Shared → Prop}
variable {nm q : Str} {C N fI : Addr} {bs bm bmB : List Value} {hdct : Bool} {sn : List Str} {sub : List Value} {ab : Bool} {col : Option Bool} {dd : Option Addr} {k0 k1 k2 k3 k5 : Option Value} {B newId initId : String} {rest : List Value}
theorem exc_own (F : ExcBaseFacts B newId initId bmB) (T : OwnTail h bmB bm) (hC : h.get? C = some (excClassObj nm q C N bs bm hdct sn sub ab col dd k0 k1 k2 k3 k5 newId)) (X : K.In h)
    (hi : findIn K (.ref C) "__init__" = some (some (.ref fI))) (hf : typeIn K (.ref fI) = some (.type "function")) (hrest : rest.length ≤ sizeLine)
    (hq : codeAny (model prog w) (A.under (.builtin "type.__call__" ⟨.ref C :: rest, []⟩)) (.call (.ref fI) ⟨.ref (h.objs.size + 1) :: rest, []⟩) (InitBack (h.objs.size + 1) R) ⟨excHeap h C rest, g, d, t, os⟩) :
    codeAny (model prog w) A (.call (.ref C) ⟨rest, []⟩) R ⟨h, g, d, t, os⟩ := by
  have f1 := tc_lookup
  have f2 := tc_bind (.ref C)
  have hT : (⟨h, g, d, t, os⟩ : Shared).TypeIs (.ref C) "type" := ⟨_, hC, rfl⟩
  refine codeAny_of_tree ?_
  show wpAny _ _ (callAny (.ref C) _) _ _ _
  repeat (any_goals (first | assumption | with_reducible refine wpAny_loadPart_at hC ?_ | wp_step))
  refine ⟨rfl, ?_⟩
  refine codeAny_call_builtin_at (Code.quiet_builtin _ (by decide +kernel)) entry_typeCall (wpAny_check_type_call_sub hC ?_)
  repeat (first | with_reducible refine wpAny_loadPart_at hC ?_ | with_reducible refine wpAny_madeBy_exc hC ?_ | wp_step)
  refine codeAny_call_builtin_code (Code.quiet_builtin _ F.quiet) (wpAny_check_new_subT F T hC ?_)
  refine codeAny_exc_new_subT F T hC ?_ hrest
  show wpAny (model prog w) (A.under (.builtin "type.__call__" ⟨.ref C :: rest, []⟩)) _ _ _ ⟨excHeap h C rest, g, d, t, os⟩
  have k : ∀ b o, h.get? b = some o → (excHeap h C rest).get? b = some o := fun b o e => Heap.get?_push_of_some _ (Heap.get?_push_of_some _ e)
  have hx : (excHeap h C rest).get? (h.objs.size + 1) = some (excObj C h.objs.size) := by heap_get
  have hC1 := k _ _ hC
  have hcC : (Value.ref C :: bm).contains (.ref C) = true := by simp
  have i1 : Looks (model prog w) (excHeap h C rest) (typeLookup (.ref C) "__init__") (some (.ref fI)) := (looks_findIn X hi).keeps k
  have b1 : Looks (model prog w) (excHeap h C rest) (bindSpecial (.ref fI) (.ref (h.objs.size + 1))) (.ref fI, [.ref (h.objs.size + 1)]) := (bind_fn X _ hf).keeps k
  have t1 : Looks (model prog w) (excHeap h C rest) (typeOf (.ref (h.objs.size + 1))) (.ref C) := (Looks.ld hx).andThen .now
  have s1 : Looks (model prog w) (excHeap h C rest) (isSubtype (.ref C) (.ref C)) true := fun A Q E s kk qq => by
    obtain ⟨hh, g', d', t', os'⟩ := s
    refine wpAny_isSubtype_exc (kk _ _ hC1) ?_
    rw [hcC]
    exact qq
  unfold isInstance callSpecial? specialOf
  repeat (first | with_reducible refine wpAny_call ?_ | simp only [hcC, Bool.not_true, Bool.false_eq_true, if_false] | lk)
  refine codeAny_mono hq fun r s' z => ?_
  rcases r with e | (v | _ | _ | _) <;> first | exact z | exact z.elim | skip
  obtain ⟨rfl, z⟩ := z
  exact wpAny_pure (wpAny_pure z)
end
section
open Builtin Builtin.ObjectAttr
variable {prog : Program} {w : World} {A : Around} {K : Frag} {s : Shared} {x C : Addr} {o : Obj} {cd : ClassData} {name : Str} {v : Value}
theorem osa_exc {tk : Tok} {R : Result → Shared → Prop} (X : K.In s.heap) (I : PySem.W.InstAt s.heap x o C none) (hc : clsIn K C = some cd) (hp : refuseLoop (.ref x) "__setattr__" cd.mro = pure ()) (ho : cd.mro.contains (.type "object") = true) (ne : cd.mro.isEmpty = false) (ht : takerIn K C name = some none)
    (h : ∀ b, wpAny (model prog w) A.in1 (storeInOwnDict (.ref x) (.ref C) (.str name tk) name v b) (fun fin s' => match fin with | .done f => R (.ok f) s' | .again c' => c'.quiet = true ∧ codeAny (model prog w) A c' R s') (fun e s' => R (.error e) s') s) :
    codeAny (model prog w) A (.call (.builtin "object.__setattr__") ⟨[.ref x, .str name tk, v], []⟩) R s := by
  have SF := PySem.F.store_object
  have isO : Looks (model prog w) s.heap (isInstance (.ref x) (.type "object")) true := I.type.andThen (looks_mroIn X (by unfold mroIn; rw [hc, Option.bind_some, if_neg (by rw [ne]; decide), ho]))
  refine codeAny_call_builtin SF.slot.plain SF.entry (@check_slot (model prog w) _ _ s "object.__setattr__" "object" "__setattr__" (.ref x) [.str name tk, v] [] _ SF.kind SF.split isO (SF.args (.ref x) (.str name tk) v) ?_)
  obtain ⟨attr, ha, hr⟩ := Option.bind_eq_some_iff.mp ht
  have mro : Looks (model prog w) s.heap (mroOf (.ref C)) cd.mro := (looks_clsIn X hc).andThen .now
  have tak : Looks (model prog w) s.heap (storeTaker? attr) none := by
    cases attr with
    | none => exact .now
    | some a =>
      obtain ⟨b, hb, e⟩ := Option.map_eq_some_iff.mp hr
      refine (looks_takesIn X hb).andThen ?_
      cases b with
      | true => cases e
      | false => exact .now
  rw [osa_eq, refuse_eq]
  refine wpAny_bind (wpAny_bind (I.type.here (wpAny_bind (mro.here ?_)))); rw [hp]
  exact wpAny_pure (wpAny_bind (I.type.here (wpAny_bind ((looks_findIn X ha).here (wpAny_bind (tak.here (h _)))))))
theorem set_exc {E : Value → Shared → Prop} {Q : Unit → Shared → Prop} (X : K.In s.heap) (hx : s.heap.get? x = some o) (hcl : o.cls = .ref C) (hno : notCls o = true) (hdn : o.dict = none) (hs : findIn K (.ref C) "__setattr__" = some (some (.builtin "object.__setattr__")))
    (hc : clsIn K C = some cd) (hd : cd.hasDict = true) (hp : refuseLoop (.ref x) "__setattr__" cd.mro = pure ()) (ho : cd.mro.contains (.type "object") = true) (ne : cd.mro.isEmpty = false) (ht : takerIn K C name = some none)
    (h : ∀ h' tk, h'.get? x = some { o with dict := some s.heap.objs.size } → h'.Ns1 s.heap.objs.size (fun y => if y = name then some v else none) → (∀ b ob, b ≠ x → s.heap.get? b = some ob → h'.get? b = some ob) → Q () { s with heap := h', toks := tk }) :
    wpAny (model prog w) A (setAttr (.ref x) name v) Q E s := by
  have I : PySem.W.InstAt s.heap x o C none := ⟨hx, hcl, hno, by rw [hdn]; trivial⟩
  have hnc : ∀ c, o.data ≠ .cls c := fun c e => by unfold notCls at hno; rw [e] at hno; cases hno
  refine set_plain X I hs (osa_exc (s := { s with toks := s.toks + 1 }) X I hc hp ho ne ht fun b => ?_)
  have hx1 : (s.heap.push { cls := .type "dict", data := .dict #[] }).get? x = some o := Heap.get?_push_of_some _ hx
  have hxs : x ≠ s.heap.objs.size := Nat.ne_of_lt (Heap.lt_size hx)
  have fin : wpAny (model prog w) A.in1 (storeInDict s.heap.objs.size (.str name s.toks) name v) (fun fin s' => match fin with
      | .done f => (match (Except.ok f : Result) with | .ok (.ret _) => Q () s' | .ok _ => False | .error e => E e s')
      | .again c' => c'.quiet = true ∧ codeAny (model prog w) A c' (fun r s' => match r with | .ok (.ret _) => Q () s' | .ok _ => False | .error e => E e s') s')
      (fun e s' => match (Except.error e : Result) with | .ok (.ret _) => Q () s' | .ok _ => False | .error e => E e s')
      { s with heap := (s.heap.push { cls := .type "dict", data := .dict #[] }).update x fun o => { o with dict := some s.heap.objs.size }, toks := s.toks + 1 } := by
    have gd : ((s.heap.push { cls := .type "dict", data := .dict #[] }).update x fun o => { o with dict := some s.heap.objs.size }).get? s.heap.objs.size = some { cls := .type "dict", data := .dict #[] } :=
      (Heap.get?_update_ne _ _ _ _ hxs.symm).trans (Heap.get?_push_at rfl rfl)
    have nd : ((s.heap.push { cls := .type "dict", data := .dict #[] }).update x fun o => { o with dict := some s.heap.objs.size }).Ns s.heap.objs.size (fun _ => none) := ⟨_, #[], _, gd, rfl, fun e he => absurd he (by simp), fun _ => rfl⟩
    unfold storeInDict newKeyGuard
    refine wpAny_bind (wpAny_pure (wpAny_bind (wpAny_nsSet1 (Heap.Ns1.of_empty nd) fun h' hn' hs' => ?_)))
    obtain ⟨oD, esD, epD, hoD, hdD, hcD⟩ := hn'.count (Within.cons name v Within.nil)
    refine wpAny_bind (wpAny_lookBehind hoD (by rw [hdD]; exact pastItsLine_dict (Nat.le_trans hcD (by rw [List.length_cons, List.length_nil, sizeLine_eq]; omega))) ?_)
    refine wpAny_pure (h h' _ ?_ hn' fun b ob hb e => ?_)
    · refine (hs'.2 x hxs).trans (Heap.get?_update_self _ hx1 ?_)
      have hfr := (Heap.get?_some_iff.mp hx).2
      obtain ⟨oc, od, odt, osl⟩ := o
      cases odt <;> first | rfl | exact hfr
    · exact (hs'.2 b (Nat.ne_of_lt (Heap.lt_size e))).trans ((Heap.get?_update_ne _ _ _ _ hb).trans (Heap.get?_push_of_some _ e))
  obtain ⟨oc, od, odt, osl⟩ := o
  dsimp only at hcl hdn
  subst hcl hdn
  unfold storeInOwnDict
  refine wpAny_bind (wpAny_pure ?_)
  show wpAny _ _ (ownDictForStores (.ref x) >>= _) _ _ _
  refine wpAny_bind ?_
  unfold ownDictForStores instanceDict
  refine wpAny_bind (wpAny_loadPart hx ?_)
  dsimp only
  refine wpAny_bind (Looks.here (s := { s with toks := s.toks + 1 }) (looks_clsIn X hc) ?_)
  rw [hd, if_neg (by decide), if_neg (by simp [typeHasDict])]
  split
  · exact absurd rfl (hnc _)
  · refine wpAny_bind (wpAny_alloc ?_)
    refine wpAny_bind (wpAny_update (s := { s with heap := s.heap.push { cls := .type "dict", data := .dict #[] }, toks := s.toks + 1 }) hx1 ?_)
    exact wpAny_pure fin
end
section
variable {M : Model} {A : Around} {E : Value → Shared → Prop} {env : Env} {nm q : Str} {C N : Addr} {bs bm : List Value} {hdct : Bool} {sn : List Str} {sub : List Value} {ab : Bool} {col : Option Bool} {dd : Option Addr} {k0 k1 k2 k3 k5 : Option Value} {newId : String}
theorem raise_exc {s : Shared} {x : Sem Value} {Q : Flow → Shared → Prop} (hbase : bm.contains (.type "BaseException") = true) (hh : A.handled = none)
    (h : wpAny M A x (fun v s₁ => ∃ e t dx, v = .ref e ∧ s₁.heap.get? C = some (excClassObj nm q C N bs bm hdct sn sub ab col dd k0 k1 k2 k3 k5 newId) ∧ s₁.heap.get? e = some { cls := .ref C, dict := dx, data := .fields #[.ref t, .none, .none, .none, .bool false, .none] } ∧ E (.ref e) s₁) E s) :
    wpAny M A (raiseStmt env (some x) none) Q E s := by
  have isB : (Value.ref C :: bm).contains (.type "BaseException") = true := by rw [List.contains_cons, hbase, Bool.or_true]
  unfold raiseStmt; refine wpAny_bind (wpAny_mono h (fun v s₁ h₁ => ?_) fun _ _ x => x)
  obtain ⟨e, t, dx, rfl, hC, he, hE⟩ := h₁
  obtain ⟨hp, g, d, tk, os⟩ := s₁
  repeat (first | with_reducible refine wpAny_loadPart_at he ?_ | with_reducible refine wpAny_loadPart_at hC ?_ | (with_reducible refine wpAny_isSubtype_exc hC ?_; rw [isB]) | wp_step)
  exact wpAny_raiseNew_none hh hE
end
end L3
namespace L2
open PySem PySem.Spec PyProof.Rows
structure Noted (fs : List Addr) (x : Addr) (oe : Obj) (vs : Array Value) (h h' : Heap) : Prop where
  keep : ∀ b o, b ∉ fs → b ≠ x → (∀ T, vs[1]? = some (.ref T) → b ≠ T) → h.get? b = some o → h'.get? b = some o
  slot : ∀ b o, b ∈ fs → h.get? b = some o → ∃ sl, h'.get? b = some { o with slots := sl }
  there : ∀ b o, h.get? b = some o → ∃ o', h'.get? b = some o'
  exc : ∃ T oT ts, h'.get? x = some (oe.mapFields (·.setIfInBounds 1 (.ref T))) ∧ h.objs.size ≤ T ∧ T ≠ x ∧ h'.get? T = some oT ∧ oT.data = .fields ts ∧ ts[3]? = some .none
section
variable {M : Model} {A : Around} {E : Value → Shared → Prop} {s : Shared}
theorem entry_prec {base : Heap} {env : Env} {outer : List Env} {L x : Addr} {oe : Obj} {vs : Array Value} {head : Value} {hadNext : Bool} {Q : Unit → Shared → Prop}
    (hfr : A.frames = some (env :: outer)) (hl : s.heap.FunFrames base (env :: outer)) (hf : env.frame = some L) (he : s.heap.get? x = some oe) (hd : oe.data = .fields vs) (hsz : 1 < vs.size)
    (h : ∀ h', Noted ((env :: outer).filterMap (·.frame)) x oe #[] s.heap h' → Q () { s with heap := h' }) :
    wpAny M A (do let a ← frameOf env; let pl ← entryPlaceOf L hadNext; let b ← EntryCells.newEntry head a .none (rawInt L) .none pl; setField (.ref x) 1 b) (fun _ s' => wpAny M A (setFlight (.ref x) none) Q E s') E s := by
  have hene : x ∉ (env :: outer).filterMap (·.frame) := fun hm => by
    obtain ⟨_, o, ho, hnf⟩ := hl.mem hm
    rw [he] at ho; injection ho with ho; subst ho; exact hnf vs hd
  refine wpAny_bind (wpAny_frameOf_fun hfr hl hf fun h₁ hs₁ => ?_)
  refine wpAny_bind (wpAny_entryPlaceOf fun pl hpl => ?_)
  unfold EntryCells.newEntry newFields
  refine wpAny_bind (wpAny_newObj_type ?_ (hpl.sizeOk5 _ _ _ _ _))
  have he₁ : h₁.get? x = some oe := (hs₁.2.1 x hene).trans he
  generalize hob : ({ cls := .type "traceback", dict := none, data := .fields ([head, .ref L, .none, rawInt L, .none] ++ (if pl.isEmpty then List.replicate 6 Value.none else pl)).toArray } : Obj) = ob
  have hod : ob.data = .fields ([head, .ref L, .none, rawInt L, .none] ++ (if pl.isEmpty then List.replicate 6 Value.none else pl)).toArray := by rw [← hob]
  have hfr0 : ob.isFreed = false := Obj.isFreed_of_fields hod
  have he₂ := Heap.get?_push_of_some (h := h₁) ob he₁
  refine wpAny_setField he₂ hd hsz ?_
  have hTe : h₁.objs.size ≠ x := Nat.ne_of_gt (Heap.lt_size he₁)
  have hd₃ := Obj.data_mapFields hd (·.setIfInBounds 1 (Value.ref h₁.objs.size))
  have he₃ := Heap.get?_update_self (Obj.mapFields (·.setIfInBounds 1 (Value.ref h₁.objs.size))) he₂ (Obj.isFreed_of_fields hd₃)
  have hT₃ := (Heap.get?_update_other (h₁.push ob) (Obj.mapFields (·.setIfInBounds 1 (Value.ref h₁.objs.size))) (Ne.symm hTe)).trans (Heap.get?_push_size h₁ hfr0)
  have hs3 : 3 < ([head, .ref L, .none, rawInt L, .none] ++ (if pl.isEmpty then List.replicate 6 Value.none else pl)).toArray.size := by
    simp only [List.size_toArray, List.length_append, List.length_cons, List.length_nil]; omega
  unfold setFlight
  refine wpAny_bind (wpAny_field he₃ hd₃ (x := .ref h₁.objs.size) (by simp [hsz]) ?_)
  rw [if_pos (show (Value.ref h₁.objs.size != Value.none) = true from by simp)]
  refine wpAny_setField hT₃ hod hs3 (h _ ?_)
  have keep : ∀ b o, b ≠ x → h₁.get? b = some o →
      (((h₁.push ob).update x (Obj.mapFields (·.setIfInBounds 1 (Value.ref h₁.objs.size)))).update h₁.objs.size (Obj.mapFields (·.setIfInBounds 3 ((none : Option Addr).elim Value.none fun f => rawInt f)))).get? b = some o := fun b o hbe hb => by
    have hbT : h₁.objs.size ≠ b := Nat.ne_of_gt (Heap.lt_size hb)
    rw [Heap.get?_update_other _ _ hbT, Heap.get?_update_other _ _ (Ne.symm hbe)]
    exact Heap.get?_push_of_some _ hb
  have hx' : (((h₁.push ob).update x (Obj.mapFields (·.setIfInBounds 1 (Value.ref h₁.objs.size)))).update h₁.objs.size (Obj.mapFields (·.setIfInBounds 3 ((none : Option Addr).elim Value.none fun f => rawInt f)))).get? x = some (oe.mapFields (·.setIfInBounds 1 (.ref h₁.objs.size))) := by
    rw [Heap.get?_update_other _ _ hTe]; exact he₃
  refine ⟨fun b o hb hbx _ e => keep b o hbx ((hs₁.2.1 b hb).trans e), fun b o hb e => ?_, fun b o e => ?_, h₁.objs.size, _, _, hx', Nat.le_of_eq hs₁.1.symm, hTe, Heap.get?_update_self _ hT₃ (Obj.isFreed_of_fields (Obj.data_mapFields hod _)), Obj.data_mapFields hod _, ?_⟩
  · obtain ⟨sl, hsl⟩ := hs₁.2.2 b o e
    exact ⟨sl, keep b _ (fun z => hene (z ▸ hb)) hsl⟩
  · by_cases hbx : b = x
    · exact ⟨_, by rw [hbx]; exact hx'⟩
    · obtain ⟨sl, hsl⟩ := hs₁.2.2 b o e
      exact ⟨_, keep b _ hbx hsl⟩
  · rw [Array.getElem?_setIfInBounds_self_of_lt hs3]
    rfl
noncomputable def HeadOk (h : Heap) (x : Addr) (vs : Array Value) : Prop := vs[1]? = some .none ∨ ∃ T oT ts, vs[1]? = some (.ref T) ∧ T ≠ x ∧ h.get? T = some oT ∧ oT.data = .fields ts ∧ ts[3]? = some .none
theorem note_prec {base : Heap} {env : Env} {outer : List Env} {L x : Addr} {oe : Obj} {vs : Array Value} {Q : Unit → Shared → Prop}
    (hfr : A.frames = some (env :: outer)) (hl : s.heap.FunFrames base (env :: outer)) (hf : env.frame = some L) (he : s.heap.get? x = some oe) (hd : oe.data = .fields vs) (hH : HeadOk s.heap x vs)
    (h : ∀ h', Noted ((env :: outer).filterMap (·.frame)) x oe vs s.heap h' → Q () { s with heap := h' }) :
    wpAny M A (noteFrame (.ref x) env) (fun _ s' => wpAny M A (setFlight (.ref x) none) Q E s') E s := by
  unfold noteFrame
  simp only [hf]
  rcases hH with h1 | ⟨T, oT, ts, h1, hTx, hT, hTd, h3⟩
  · have hsz : 1 < vs.size := (Array.getElem?_eq_some_iff.mp h1).1
    refine wpAny_bind (wpAny_field he hd h1 ?_)
    rw [if_neg (by decide)]
    exact entry_prec hfr hl hf he hd hsz fun h' N => h h' ⟨fun b o hb hx _ e => N.keep b o hb hx (fun T z => by simp at z) e, N.slot, N.there, N.exc⟩
  · have hsz : 1 < vs.size := (Array.getElem?_eq_some_iff.mp h1).1
    have hs3 : 3 < ts.size := (Array.getElem?_eq_some_iff.mp h3).1
    refine wpAny_bind (wpAny_field he hd h1 ?_)
    rw [if_pos (show (Value.ref T != Value.none) = true from by simp)]
    refine wpAny_bind (wpAny_field hT hTd h3 ?_)
    rw [if_neg (by simp [rawInt])]
    refine wpAny_bind (wpAny_setField hT hTd hs3 ?_)
    have hdT := Obj.data_mapFields hTd (·.setIfInBounds 3 Value.none)
    have kT : ∀ b o, b ≠ T → s.heap.get? b = some o → (s.heap.update T (Obj.mapFields (·.setIfInBounds 3 Value.none))).get? b = some o := fun b o hb e => (Heap.get?_update_other _ _ (Ne.symm hb)).trans e
    have hTT := Heap.get?_update_self (Obj.mapFields (·.setIfInBounds 3 Value.none)) hT (Obj.isFreed_of_fields hdT)
    have nf : ∀ b, b ∈ (env :: outer).filterMap (·.frame) → b ≠ T := fun b hb z => by
      obtain ⟨_, o, ho, hnf⟩ := hl.mem hb
      rw [z, hT] at ho; injection ho with ho; subst ho; exact hnf ts hTd
    have hl' : (s.heap.update T (Obj.mapFields (·.setIfInBounds 3 Value.none))).FunFrames base (env :: outer) := hl.of_keeps fun b o hb hnf => ⟨o, kT b o (fun z => by rw [z, hT] at hb; injection hb with hb; subst hb; exact hnf ts hTd) hb, rfl⟩
    refine entry_prec (s := { s with heap := s.heap.update T (Obj.mapFields (·.setIfInBounds 3 Value.none)) }) hfr hl' hf (kT x oe (Ne.symm hTx) he) hd hsz fun h' N => h h' ⟨fun b o hb hx ht e => N.keep b o hb hx (fun _ z => by simp at z) (kT b o (ht T h1) e), fun b o hb e => N.slot b o hb (kT b o (nf b hb) e), fun b o e => ?_, ?_⟩
    · by_cases hb : b = T
      · exact N.there b _ (by rw [hb]; exact hTT)
      · exact N.there b o (kT b o hb e)
    · obtain ⟨T', oT', ts', q1, q2, q3⟩ := N.exc
      exact ⟨T', oT', ts', q1, Nat.le_trans (Nat.le_of_eq (Heap.size_update ..).symm) q2, q3⟩
end
end L2
namespace L2
open PySem PySem.Spec PyProof.Rows
noncomputable def Fly (n : Nat) (H : Hp) (h : Heap) (x C dx : Addr) : Prop := n ≤ x ∧ H x = none ∧ ∃ oe vs, h.get? x = some oe ∧ oe.cls = .ref C ∧ oe.dict = some dx ∧ oe.data = .fields vs ∧
  (vs[1]? = some .none ∨ ∃ T oT ts, vs[1]? = some (.ref T) ∧ T ≠ x ∧ n ≤ T ∧ H T = none ∧ h.get? T = some oT ∧ oT.data = .fields ts ∧ ts[3]? = some .none)
noncomputable def CXW (P : Program) (w : World) : CXT := fun outer H s E e s' => ∃ x C dx H', e = .ref x ∧ s'.os = s.os ∧ AllBare s'.gens ∧ Un (frs outer) [] H H' s.heap s'.heap ∧ HOk P w H' s'.heap ∧ Fly s.heap.objs.size H' s'.heap x C dx ∧ s.heap.get? dx = none ∧ E (.ref C) (some dx) H'
theorem mapFields_dict {o : Obj} {vs : Array Value} {f : Array Value → Array Value} (hd : o.data = .fields vs) : (o.mapFields f).dict = o.dict := by
  obtain ⟨c, d, dt, sl⟩ := o
  obtain rfl : dt = .fields vs := hd
  rfl
section
variable {X : Cx} {pins : List (Addr × Obj)} {σ : St} {H : Hp} {s : Shared} {E : XK} {x C dx : Addr}
theorem mem_frs {env : Env} {outer : List Env} {L b : Addr} (hf : env.frame = some L) (h : b ∈ (env :: outer).filterMap (·.frame)) : b = L ∨ b ∈ frs outer := by
  rw [List.filterMap_cons, hf] at h
  exact List.mem_cons.mp h
theorem Inv.noted {h' : Heap} {oe : Obj} {vs : Array Value} {n : Nat} (I : Inv X pins σ H s) (N : Noted (frs X.stack) x oe vs s.heap h') (hn : n ≤ s.heap.objs.size) (h0 : n ≤ x) (hx : H x = none) (he : s.heap.get? x = some oe) (hc : oe.cls = .ref C) (hdx : oe.dict = some dx) (hd : oe.data = .fields vs) (hsz : 1 < vs.size)
    (hT : ∀ T, vs[1]? = some (.ref T) → H T = none) : HOk X.prog X.w H h' ∧ Fly n H h' x C dx := by
  refine ⟨fun b u e => ?_, h0, hx, ?_⟩
  · have un : ∀ c v, H c = some v → c ∉ frs X.stack ∧ c ≠ x ∧ ∀ T, vs[1]? = some (.ref T) → c ≠ T := fun c v q =>
      ⟨(fun z => by rw [I.stkFree c z] at q; cases q), (fun z => by rw [z, hx] at q; cases q), (fun T t z => by rw [z, hT T t] at q; cases q)⟩
    refine (I.hok b u e).stay (fun c v hc' q => ?_) (fun _ q => q) fun _ _ q => q
    rcases hc' with z | z
    · obtain ⟨a1, a2, a3⟩ := un b u e
      rw [z] at q ⊢
      exact N.keep b v a1 a2 a3 q
    · obtain ⟨a1, a2, a3⟩ := un c _ z
      exact N.keep c v a1 a2 a3 q
  · obtain ⟨T, oT, ts, q1, q2, q3, q4, q5, q6⟩ := N.exc
    refine ⟨_, _, q1, (Obj.cls_mapFields _ _).trans hc, (mapFields_dict hd).trans hdx, Obj.data_mapFields hd _, .inr ⟨T, oT, ts, by simp [hsz], q3, Nat.le_trans hn q2, I.hok.fresh q2, q4, q5, q6⟩⟩
theorem leave_ok (I : Inv X pins σ H s) (hst : X.stack = X.env :: X.outer) (hf : X.env.frame = some X.env.locals) (hex : X.ex = []) (F : Fly X.s₀.heap.objs.size H s.heap x C dx) (hdx0 : X.s₀.heap.get? dx = none) (q : E (.ref C) (some dx) H) :
    wpAny (model X.prog X.w) X.A (leaving X.env (.ref x)) (fun _ s'' => CXW X.prog X.w X.outer X.H₀ X.s₀ E (.ref x) s'') (fun e' s'' => CXW X.prog X.w X.outer X.H₀ X.s₀ E e' s'') s := by
  obtain ⟨h0, hx, oe, vs, he, hc, hdx, hd, hh⟩ := F
  have hsz : 1 < vs.size := by
    rcases hh with z | ⟨T, _, _, z, _⟩
    · exact (Array.getElem?_eq_some_iff.mp z).1
    · exact (Array.getElem?_eq_some_iff.mp z).1
  have hH : HeadOk s.heap x vs := by
    rcases hh with z | ⟨T, oT, ts, z1, z2, z3, z4, z5, z6, z7⟩
    · exact .inl z
    · exact .inr ⟨T, oT, ts, z1, z2, z5, z6, z7⟩
  have hTn : ∀ T, vs[1]? = some (.ref T) → X.s₀.heap.objs.size ≤ T ∧ H T = none := fun T z => by
    rcases hh with z1 | ⟨T', oT, ts, z1, z2, z3, z4, z5, z6, z7⟩
    · rw [z1] at z; cases z
    · rw [z1] at z; cases z; exact ⟨z3, z4⟩
  have hst' := I.stack
  rw [hst] at hst'
  unfold leaving
  refine wpAny_bind (note_prec (base := X.base) (by rw [I.ok.frames, hst]) hst' hf he hd hH fun h' N => ?_)
  have N' : Noted (frs X.stack) x oe vs s.heap h' := by rw [hst]; exact N
  obtain ⟨hok, fly⟩ := I.noted N' I.sz h0 hx he hc hdx hd hsz fun T z => (hTn T z).2
  have hL : X.s₀.heap.objs.size ≤ X.env.locals := I.ok.above
  refine ⟨x, C, dx, H, rfl, I.os, I.bare, ⟨fun b o e n nf _ => ?_, fun b o e n nf _ => ?_, fun b o e n _ => I.base.free b o e n (by rw [hex]; simp), fun b o e _ => ?_, I.base.tups, I.base.frzs, I.base.tbls⟩, hok, fly, hdx0, q⟩
  · have lt : b < X.s₀.heap.objs.size := Heap.lt_size e
    refine N.keep b o (fun z => ?_) (fun z => Nat.not_lt.mpr h0 (z ▸ lt)) (fun T z w => Nat.not_lt.mpr (hTn T z).1 (w ▸ lt)) (I.base.keep b o e n nf (by rw [hex]; simp))
    rcases mem_frs hf z with z | z
    · exact Nat.not_lt.mpr hL (z ▸ lt)
    · exact nf z
  · obtain ⟨sl, e1⟩ := I.base.slot b o e n nf (by rw [hex]; simp)
    obtain ⟨sl', e2⟩ := N.slot b _ (by rw [List.filterMap_cons, hf]; exact List.mem_cons_of_mem _ nf) e1
    exact ⟨sl', e2⟩
  · obtain ⟨o', e1⟩ := I.base.there b o e (by rw [hex]; simp)
    exact N.there b o' e1
theorem passes_on {E E' : XK} (hst : X.stack = X.env :: X.outer) (hf : X.env.frame = some X.env.locals) (hex : X.ex = [])
    (hxe : X.xe = fun e s' => wpAny (model X.prog X.w) X.A (leaving X.env e) (fun _ s'' => CXW X.prog X.w X.outer X.H₀ X.s₀ E e s'') (fun e' s'' => CXW X.prog X.w X.outer X.H₀ X.s₀ E e' s'') s')
    (h : ∀ c d H', E' c d H' → E c d H') : Passes (CXW X.prog X.w) X E' := fun pins σ H s e s' I q => by
  obtain ⟨x, C, dx, H', rfl, os, bare, un, hok, fly, hd0, q⟩ := q
  have hdx0 : X.s₀.heap.get? dx = none := by
    cases z : X.s₀.heap.get? dx with
    | none => rfl
    | some o =>
      obtain ⟨o', z'⟩ := I.base.there dx o z (by rw [hex]; simp)
      rw [hd0] at z'; cases z'
  have J : Inv X pins σ H' s' := I.call' os un hok bare (fun b z => absurd z (by simp))
  rw [hxe]
  obtain ⟨h0, hx, oe, vs, he, hc, hdx, hd, hh⟩ := fly
  have sz := I.sz
  refine leave_ok J hst hf hex ⟨Nat.le_trans sz h0, hx, oe, vs, he, hc, hdx, hd, ?_⟩ hdx0 (h _ _ _ q)
  rcases hh with z | ⟨T, oT, ts, z1, z2, z3, z4, z5, z6, z7⟩
  · exact .inl z
  · exact .inr ⟨T, oT, ts, z1, z2, Nat.le_trans sz z3, z4, z5, z6, z7⟩
end
end L2
namespace L2
open PySem PySem.Spec PyProof.Rows L3
noncomputable def veMro : List Value := [.type "ValueError", .type "Exception", .type "BaseException", .type "object"]
structure XMk (K : PySem.W.Frag) (C f : Addr) (a : Str) : Prop where
  obj : ∃ nm q N bs bm hdct sn sub ab col dd k0 k1 k2 k3 k5, K.lookup C = some (excClassObj nm q C N bs bm hdct sn sub ab col dd k0 k1 k2 k3 k5 "ValueError.__new__") ∧ PySem.W.tailIn K veMro bm = true ∧ bm.contains (.type "BaseException") = true
  init : PySem.W.findIn K (.ref C) "__init__" = some (some (.ref f))
  fn : PySem.W.typeIn K (.ref f) = some (.type "function")
  kp : PySem.W.keepIn K (.ref C) = true
  sa : PySem.W.findIn K (.ref C) "__setattr__" = some (some (.builtin "object.__setattr__"))
  cls : ∃ cd, PySem.W.clsIn K C = some cd ∧ cd.hasDict = true ∧ (∀ x, PySem.refuseLoop (.ref x) "__setattr__" cd.mro = pure ()) ∧ cd.mro.contains (.type "object") = true ∧ cd.mro.isEmpty = false
  tk : PySem.W.takerIn K C a = some none
abbrev excObjD (C t dx : Addr) : Obj := { cls := .ref C, dict := some dx, data := .fields #[.ref t, .none, .none, .none, .bool false, .none] }
noncomputable def hdel (H : Hp) (a : Addr) : Hp := fun b => if b = a then none else H b
theorem hdel_same {H : Hp} {a : Addr} : hdel H a a = none := by unfold hdel; rw [if_pos rfl]
theorem hdel_ne {H : Hp} {a b : Addr} (h : b ≠ a) : hdel H a b = H b := by unfold hdel; rw [if_neg h]
section
variable {X : Cx} {pins : List (Addr × Obj)} {σ : St} {H : Hp} {s : Shared}
theorem Inv.drop {x : Addr} {φ : Heap → Prop} (I : Inv X pins σ H s) (e : H x = some (.ext φ)) (hn : X.s₀.heap.objs.size ≤ x) : Inv X pins σ (hdel H x) s := by
  have non : ∀ b, H b = none → hdel H x b = none := fun b q => by unfold hdel; split; rfl; exact q
  refine ⟨I.ok, I.os, I.bare, ⟨I.base.keep, I.base.slot, fun b o q n z => non b (I.base.free b o q n z), I.base.there, fun b xs q => ?_, fun b o u q => ?_, fun b ps q => ?_⟩, I.loc, I.cell, non _ I.free, fun y c q => non c (I.freeC y c q), fun p hp => ?_, fun b u q => ?_, I.len⟩
  · have := I.base.tups b xs q
    rw [hdel_ne (fun z => by rw [z, e] at this; cases this)]; exact this
  · have := I.base.frzs b o u q
    rw [hdel_ne (fun z => by rw [z, e] at this; cases this)]; exact this
  · obtain ⟨more, this⟩ := I.base.tbls b ps q
    exact ⟨more, by rw [hdel_ne (fun z => by rw [z, e] at this; cases this)]; exact this⟩
  · obtain ⟨a, b, c⟩ := I.pin p hp
    exact ⟨a, non _ b, c⟩
  · have hb : b ≠ x := fun z => by rw [z, hdel_same] at q; cases q
    rw [hdel_ne hb] at q
    refine (I.hok b u q).stay (fun _ _ _ z => z) (fun c z => ?_) fun c ys z => ?_
    · rw [hdel_ne (fun y => by rw [y, e] at z; cases z)]; exact z
    · rw [hdel_ne (fun y => by rw [y, e] at z; cases z)]; exact z
theorem Inv.xset {x C t f : Addr} {a : Str} {v : V} {u : Value} {Q : Unit → Shared → Prop} {E : Value → Shared → Prop} (M : XMk X.K C f a) (I : Inv X pins σ H s) (e : H x = some (XO x (excObj C t))) (r : RelV v u)
    (h : ∀ dx s', H dx = none → dx ≠ x → Inv X pins σ (upd (upd H dx (.xd [(a, v)])) x (XO x (excObjD C t dx))) s' → Q () s') : wpAny (model X.prog X.w) X.A (setAttr (.ref x) a u) Q E s := by
  obtain ⟨cd, c1, c2, c3, c4, c5⟩ := M.cls
  have hx := inv_xo I e
  refine L3.set_exc I.kIn hx rfl rfl rfl M.sa c1 c2 (c3 x) c4 c5 M.tk fun h' tk g1 g2 g3 => ?_
  have fr : H s.heap.objs.size = none := I.hok.fresh (Nat.le_refl _)
  have lx : x < s.heap.objs.size := Heap.lt_size hx
  have nx : s.heap.objs.size ≠ x := Nat.ne_of_gt lx
  refine h s.heap.objs.size _ fr nx (I.un (h' := h') (t' := tk) ⟨fun b o q n _ _ => ?_, fun b o q n _ _ => ?_, fun b o q n _ => ?_, fun b o q _ => ?_, fun b xs q => ?_, fun b o w q => ?_, fun b ps q => ?_⟩ fun b w q => ?_)
  · exact g3 b o (fun z => by rw [z, e] at n; cases n) q
  · exact ⟨o.slots, g3 b o (fun z => by rw [z, e] at n; cases n) q⟩
  · rw [upd_ne (fun z => by rw [z, e] at n; cases n), upd_ne (fun z => Nat.lt_irrefl _ (z ▸ (Heap.lt_size q : b < _)))]; exact n
  · by_cases hb : b = x
    · exact ⟨_, by rw [hb]; exact g1⟩
    · exact ⟨o, g3 b o hb q⟩
  · rw [upd_ne (fun z => by rw [z, e] at q; cases q), upd_ne (fun z => by rw [z, fr] at q; cases q)]; exact q
  · rw [upd_ne (fun z => by rw [z, e] at q; cases q), upd_ne (fun z => by rw [z, fr] at q; cases q)]; exact q
  · exact ⟨#[], by rw [upd_ne (fun z => by rw [z, e] at q; cases q), upd_ne (fun z => by rw [z, fr] at q; cases q)]; simpa using q⟩
  · by_cases hb : b = x
    · subst hb
      rw [upd_same] at q; cases q
      exact xo_ok g1
    · rw [upd_ne hb] at q
      by_cases hb2 : b = s.heap.objs.size
      · subst hb2
        rw [upd_same] at q; cases q
        refine ⟨_, g2, fun f => ?_⟩
        by_cases hf : f = a
        · subst hf
          simp only [List.lookup, beq_self_eq_true, if_true]
          exact r
        · have : (f == a) = false := by simpa using hf
          simp only [List.lookup, this, if_neg hf]
          trivial
      · rw [upd_ne hb2] at q
        refine (I.hok b w q).stay (fun c o hc z => g3 c o (fun y => ?_) z) (fun c z => ?_) fun c ys z => ?_
        · rcases hc with w' | w'
          · exact hb (w' ▸ y)
          · rw [y, e] at w'; cases w'
        · rw [upd_ne (fun y => by rw [y, e] at z; cases z), upd_ne (fun y => by rw [y, fr] at z; cases z)]; exact z
        · rw [upd_ne (fun y => by rw [y, e] at z; cases z), upd_ne (fun y => by rw [y, fr] at z; cases z)]; exact z
end
end L2
namespace L2
open PySem PySem.Spec PyProof.Rows L3
section
variable {X : Cx} {C f : Addr} {a : Str}
noncomputable def tXfld (C : Addr) (a : Str) (to tv : TE) : TS := fun D σ H => tv σ H fun v H1 => to σ H1 fun y H2 => ∃ x t, y = .ref x ∧ H2 x = some (XO x (excObj C t)) ∧ ∀ dx, H2 dx = none → dx ≠ x → D.nx σ (upd (upd H2 dx (.xd [(a, v)])) x (XO x (excObjD C t dx)))
theorem ps_xfld {o value : Expr} {to tv : TE} {pos pos' : Pos} (M : XMk X.K C f a) (ho : PE X o to) (hv : PE X value tv) (hs : swapsWith value (some (.Attribute o a pos')) pos.line X.env = pure false := by rfl) : PS X (.Assign [.Attribute o a pos'] value pos) (tXfld C a to tv) := by
  intro pins s σ H D I h
  refine plainObj_wpAny_Assign_Attribute (thn (hv pins s σ H _ I h) fun u s1 zz => ?_) hs
  obtain ⟨y, H1, I1, ry, q⟩ := zz
  refine thn (ho pins s1 σ H1 _ I1 q) fun ov s2 zz => ?_
  obtain ⟨y2, H2, I2, rx, q2⟩ := zz
  obtain ⟨x, t, ex, ea, q3⟩ := q2
  subst ex
  obtain rfl : ov = Value.ref x := rx
  exact I2.xset M ea ry fun dx s3 n1 n2 I3 => ⟨σ, _, I3, q3 dx n1 n2⟩
noncomputable def spInit (C : Addr) (a : Str) : Sp := fun vs H Q _ => ∃ x v t, vs = [.ref x, v] ∧ H x = some (XO x (excObj C t)) ∧ ∀ dx, H dx = none → dx ≠ x → Q .non (upd (upd H dx (.xd [(a, v)])) x (XO x (excObjD C t dx)))
theorem run_exc {pins : List (Addr × Obj)} {σ : St} {H : Hp} {s : Shared} {v : V} {u : Value} {R : Value → Shared → Prop} {fd : FuncData} {ps : List Str} {k : Nat} (M : XMk X.K C f a) (F : FnOk X.prog X.w X.K X.mg X.base CX0 k f fd ps (spInit C a)) (hr : Room (k + 1) X.A) (hb : Binds X.K fd ps [])
    (I : Inv X pins σ H s) (r : RelV v u) (h : ∀ x t dx s', X.s₀.heap.objs.size ≤ x → H dx = none → H x = none → dx ≠ x → s.heap.get? dx = none → Inv X pins σ (upd H dx (.xd [(a, v)])) s' → s'.heap.get? x = some (excObjD C t dx) → R (.ref x) s') :
    wpAny (model X.prog X.w) X.A (call (.ref C) [u]) R X.xe s := by
  obtain ⟨nm, q, N, bs, bm, hdct, sn, sub, ab, col, dd, k0, k1, k2, k3, k5, lk, tl, hbase⟩ := M.obj
  have fx : H (s.heap.objs.size + 1) = none := I.hok.fresh (Nat.le_succ _)
  have I1 : Inv X pins σ H { s with heap := s.heap.push { cls := .type "tuple", data := .seq #[u] }, toks := s.toks } := I.kept fun b o e => Heap.get?_push_of_some _ e
  have sz : (s.heap.push { cls := .type "tuple", data := .seq #[u] }).objs.size = s.heap.objs.size + 1 := Heap.size_push ..
  have I2 : Inv X pins σ (upd H (s.heap.objs.size + 1) (XO (s.heap.objs.size + 1) (excObj C s.heap.objs.size))) { s with heap := excHeap s.heap C [u], toks := s.toks } := inv_xlaid (s := { s with heap := s.heap.push { cls := .type "tuple", data := .seq #[u] }, toks := s.toks }) I1 sz rfl
  have r2 : Vals [V.ref (s.heap.objs.size + 1), v] [Value.ref (s.heap.objs.size + 1), u] := .cons rfl (.cons r .nil)
  have sp0 : spInit C a [V.ref (s.heap.objs.size + 1), v] (upd H (s.heap.objs.size + 1) (XO (s.heap.objs.size + 1) (excObj C s.heap.objs.size))) (fun v' H' => v' = .non ∧ ∃ dx, H dx = none ∧ dx ≠ s.heap.objs.size + 1 ∧ H' = upd (upd (upd H (s.heap.objs.size + 1) (XO (s.heap.objs.size + 1) (excObj C s.heap.objs.size))) dx (.xd [(a, v)])) (s.heap.objs.size + 1) (XO (s.heap.objs.size + 1) (excObjD C s.heap.objs.size dx))) E0 :=
    ⟨_, v, _, rfl, upd_same, fun dx n1 n2 => ⟨rfl, dx, by rw [upd_ne n2] at n1; exact n1, n2, rfl⟩⟩
  have hl : ([Value.ref (s.heap.objs.size + 1), u] ++ []).length = ps.length := (F.len _ _ _ _ sp0)
  obtain ⟨hp, g, d, tk, os⟩ := s
  refine wpAny_call (exc_own PySem.F.excBase_ValueError (PySem.W.tail_of_in I.kIn tl) (I.kIn _ _ lk) I.kIn M.init M.fn (by show 1 ≤ sizeLine; decide) (codeAny_mono (F.run _ X.stack _ _ ⟨[.ref (hp.objs.size + 1), u], []⟩ [.ref (hp.objs.size + 1), u] _ _ E0 (hr.make C [u] []) (I2.env0.make C [u] []) (hb _ [.ref (hp.objs.size + 1), u] I2.kIn hl) r2 sp0) fun r s' hq' => ?_))
  cases r with
  | error e => exact False.elim hq'
  | ok fl =>
    cases fl with
    | ret u' =>
      obtain ⟨v', H', os1, bare1, un, hok, rv, ⟨ev, dx, n1, n2, eH⟩⟩ := hq'
      have I3 := I2.call' os1 un hok bare1 (fun b z => absurd z (by simp))
      have n0 : hp.get? dx = none := by
        cases z : hp.get? dx with
        | none => rfl
        | some o =>
          have z1 := un.free dx o (Heap.get?_push_of_some _ (Heap.get?_push_of_some _ z)) (by rw [upd_ne n2]; exact n1) (by simp)
          rw [eH, upd_ne n2, upd_same] at z1; cases z1
      subst ev eH
      have hx := inv_xo I3 upd_same
      have I4 := I3.drop (x := hp.objs.size + 1) upd_same (Nat.le_trans I.sz (Nat.le_succ _))
      have eq : hdel (upd (upd (upd H (hp.objs.size + 1) (XO (hp.objs.size + 1) (excObj C hp.objs.size))) dx (.xd [(a, v)])) (hp.objs.size + 1) (XO (hp.objs.size + 1) (excObjD C hp.objs.size dx))) (hp.objs.size + 1) = upd H dx (.xd [(a, v)]) := by
        funext b
        by_cases hb1 : b = hp.objs.size + 1
        · rw [hb1, hdel_same, upd_ne (Ne.symm n2)]
          exact fx.symm
        · rw [hdel_ne hb1, upd_ne hb1]
          by_cases hb2 : b = dx
          · rw [hb2, upd_same, upd_same]
          · rw [upd_ne hb2, upd_ne hb2, upd_ne hb1]
      rw [eq] at I4
      exact ⟨rv, h _ _ dx _ (Nat.le_trans I.sz (Nat.le_succ _)) n1 fx n2 n0 I4 hx⟩
    | next => exact False.elim hq'
    | brk => exact False.elim hq'
    | cont => exact False.elim hq'
noncomputable def tRaise (t : TA) (Ex : V → Hp → Prop) : TS := fun _ σ H => t σ H fun vs H1 => ∃ v, vs = [v] ∧ Ex v H1
theorem ps_raise {nm : Str} {e : Expr} {t : TA} {Ex : V → Hp → Prop} {p pos pos2 : Pos} {fd : FuncData} {ps : List Str} {k : Nat} (M : XMk X.K C f a) (F : FnOk X.prog X.w X.K X.mg X.base CX0 k f fd ps (spInit C a)) (hr : Room (k + 1) X.A) (hb : Binds X.K fd ps []) (hc : X.calm = true) (hex : X.ex = []) (hg : Gl X nm) (hm : X.mg nm = some (.ref C)) (ha : PA X [e] t)
    (hX : ∀ pins σ H s x t' dx v, Inv X pins σ (upd H dx (.xd [(a, v)])) s → H dx = none → H x = none → X.s₀.heap.objs.size ≤ x → dx ≠ x → X.s₀.heap.get? dx = none → s.heap.get? x = some (excObjD C t' dx) → Ex v H → X.xe (.ref x) s)
    (hdb : (nm == ("__debug__" : Str)) = false := by decide) (he : starEach [e] X.env = (false, eval e X.env) :: starEach [] X.env := by rfl) (hpl : (backTo pos (starEach [] X.env)).any (·.1) = false := by rfl) :
    PS X (.Raise (some (.Call (.Name nm p) [e] [] pos)) none pos2) (tRaise t Ex) := by
  intro pins s σ H D I h
  obtain ⟨nm', q, N, bs, bm, hdct, sn, sub, ab, col, dd, k0, k1, k2, k3, k5, lk, tl, hbase⟩ := M.obj
  rw [arm_exec_Raise]
  refine wpAny_bind (wpAny_standAt ?_)
  refine raise_exc (nm := nm') (q := q) (C := C) (N := N) (bs := bs) (bm := bm) (hdct := hdct) (sn := sn) (sub := sub) (ab := ab) (col := col) (dd := dd) (k0 := k0) (k1 := k1) (k2 := k2) (k3 := k3) (k5 := k5) (newId := "ValueError.__new__") hbase (I.ok.hd hc) ?_
  refine wpAny_bind ?_
  refine wpAny_Call_Name_kw (ld_glob I hg hm ?_ hdb)
  refine PySem.W.callWith_K (h₀ := X.base) I.ok.mod.kin M.kp (thn (ha pos pins s σ H _ I h) fun us s1 ⟨vs, H1, I1, r, q1⟩ => ⟨I1.kIn, ?_⟩) he hpl
  obtain ⟨v, rfl, q1⟩ := q1
  cases r with
  | cons r rr =>
    cases rr
    refine run_exc M F hr hb I1 r fun x t' dx s' n0 n1 n2 n3 n4 I2 hx => ?_
    have n5 : X.s₀.heap.get? dx = none := by
      cases z : X.s₀.heap.get? dx with
      | none => rfl
      | some o =>
        obtain ⟨o', z'⟩ := I1.base.there dx o z (by rw [hex]; simp)
        rw [n4] at z'; cases z'
    refine wpAny_bind (wpAny_standAt (wpAny_pure ?_))
    exact ⟨x, t', some dx, rfl, I2.kIn _ _ lk, hx, hX _ _ _ _ _ _ _ _ I2 n1 n2 n0 n3 n5 hx q1⟩
end
end L2
namespace L2
open PySem PySem.Spec PyProof.Rows L3 PySem.W
section
variable {prog : Program} {w : World} {A : Around} {E : Value → Shared → Prop} {s : Shared} {K : Frag} {x C : Addr} {ox : Obj} {od : Option Obj} {name : Str}
structure XGet (K : Frag) (C : Addr) : Prop where
  ga : findIn K (.ref C) "__getattribute__" = some (some (.builtin "BaseException.__getattribute__"))
  gt : findIn K (.ref C) "__getattr__" = some none
  be : mroIn K C (.type "BaseException") = some true
  hd : hasDictIn K C = true
theorem bexc_plain : plainId "BaseException.__getattribute__" = true := by decide +kernel
theorem xget_call {v : Value} {tk : Tok} {R : Result → Shared → Prop} (X : K.In s.heap) (G : XGet K C) (I : InstAt s.heap x ox C od) (hf : findObj K C od name = some (.value v)) (h : R (.ok (.ret v)) s) :
    codeAny (model prog w) A (.call (.builtin "BaseException.__getattribute__") ⟨[.ref x, .str name tk], []⟩) R s := by
  obtain ⟨hh, g, d, t, os⟩ := s
  have hk : builtinKind "BaseException.__getattribute__" = some .slot := by decide +kernel
  have hsplit : splitId "BaseException.__getattribute__" = some ("BaseException", "__getattribute__") := by decide +kernel
  have L0 := I.type (M := model prog w)
  have isB : Looks (model prog w) hh (isInstance (.ref x) (.type "BaseException")) true := L0.andThen (looks_mroIn X G.be)
  have L1 := looks_find (M := model prog w) X I hf
  refine codeAny_call_builtin bexc_plain PySem.F.entry_bexc_ga (@check_slot (model prog w) _ _ ⟨hh, g, d, t, os⟩ "BaseException.__getattribute__" "BaseException" "__getattribute__" (.ref x) [.str name tk] [] _ hk hsplit isB (PySem.F.args_bexc_ga (.ref x) (.str name tk)) ?_)
  refine wpAny_bind (wpAny_pure ?_)
  refine wpAny_bind (wpAny_pure ?_)
  refine wpAny_bind (L0.at (wpAny_bind (L1.at ?_)))
  exact wpAny_pure h
theorem xget_callB {g a : Value} {tk : Tok} {R : Result → Shared → Prop} (X : K.In s.heap) (G : XGet K C) (I : InstAt s.heap x ox C od) (hf : findObj K C od name = some (.bind g a))
    (h : wpAny (model prog w) A.in1 (call g [a, .ref x, .ref C]) (fun v s' => R (.ok (.ret v)) s') (fun e s' => R (.error e) s') s) :
    codeAny (model prog w) A (.call (.builtin "BaseException.__getattribute__") ⟨[.ref x, .str name tk], []⟩) R s := by
  obtain ⟨hh, gg, d, t, os⟩ := s
  have hk : builtinKind "BaseException.__getattribute__" = some .slot := by decide +kernel
  have hsplit : splitId "BaseException.__getattribute__" = some ("BaseException", "__getattribute__") := by decide +kernel
  have L0 := I.type (M := model prog w)
  have isB : Looks (model prog w) hh (isInstance (.ref x) (.type "BaseException")) true := L0.andThen (looks_mroIn X G.be)
  have L1 := looks_find (M := model prog w) X I hf
  refine codeAny_call_builtin bexc_plain PySem.F.entry_bexc_ga (@check_slot (model prog w) _ _ ⟨hh, gg, d, t, os⟩ "BaseException.__getattribute__" "BaseException" "__getattribute__" (.ref x) [.str name tk] [] _ hk hsplit isB (PySem.F.args_bexc_ga (.ref x) (.str name tk)) ?_)
  refine wpAny_bind (wpAny_pure ?_)
  refine wpAny_bind (wpAny_pure ?_)
  refine wpAny_bind (L0.at (wpAny_bind (L1.at ?_)))
  show wpAny _ _ (holding [a] (call g [a, .ref x, .ref C]) >>= ret) _ _ _
  exact wpAny_bind (wpAny_holding (wpAny_mono h (fun v s' z => wpAny_pure z) fun _ _ z => z))
theorem bexc_bind (o : Value) : bindSpecial (.builtin "BaseException.__getattribute__") o = pure (.builtin "BaseException.__getattribute__", [o]) := by kernel_rfl
theorem xget_by {tk : Tok} {fill expr : Bool} {Q : Value → Shared → Prop} (X : K.In s.heap) (G : XGet K C) (I : InstAt s.heap x ox C od)
    (h : codeAny (model prog w) A (.call (.builtin "BaseException.__getattribute__") ⟨[.ref x, .str name tk], []⟩) (fun r s' => match r with | .ok (.ret v) => wpAny (model prog w) A (handedOut v) Q E s' | _ => False) s) :
    wpAny (model prog w) A (getAttrBy (.ref x) (.str name tk) fill expr) Q E s := by
  obtain ⟨hh, gg, d, t, os⟩ := s
  have L0 := I.type (M := model prog w)
  have L1 := looks_findIn (M := model prog w) X G.ga
  have L2 := looks_findIn (M := model prog w) X G.gt
  have hx2 : (Value.builtin "BaseException.__getattribute__" == Value.builtin "object.__getattribute__") = false := by decide +kernel
  unfold getAttrBy
  refine wpAny_holding (wpAny_bind (L0.at (wpAny_bind (L1.at ?_))))
  dsimp only
  rw [if_neg (by rw [hx2, Bool.and_false]; decide)]
  unfold getAttrByItsOwn hookBefore
  rw [if_pos (show onTheHeap (Value.ref C) = true from rfl)]
  refine wpAny_bind (L2.at ?_)
  unfold callGetattribute
  rw [if_neg (by cases expr <;> decide)]
  refine wpAny_bind (wpAny_attempt (wpAny_holding ?_))
  unfold boundAndCalled
  rw [bexc_bind]
  refine wpAny_bind (wpAny_pure (wpAny_call (codeAny_mono h fun r s' z => ?_)))
  rcases r with e | (v | _ | _ | _) <;> first | exact z | exact z.elim
theorem xget {v : Value} {expr : Bool} {Q : Value → Shared → Prop} (X : K.In s.heap) (G : XGet K C) (I : InstAt s.heap x ox C od) (hf : findObj K C od name = some (.value v)) (hv : handedIn v = true) (h : Q v { s with toks := s.toks + 1 }) :
    wpAny (model prog w) A (getAttr (.ref x) name expr) Q E s := by
  unfold getAttr
  refine wpAny_bind (wpAny_mkText ?_)
  refine xget_by (s := { s with toks := s.toks + 1 }) X G I (xget_call (s := { s with toks := s.toks + 1 }) X G I hf ?_)
  show wpAny _ _ (handedOut v) _ _ _
  rw [handedOut_of hv]
  exact wpAny_pure h
theorem xclass {od : Obj} {Q : Option Value → Shared → Prop} (X : K.In s.heap) (G : XGet K C) (I : InstAt s.heap x ox C (some od)) (ha : findIn K (.ref C) "__class__" = some (some (.builtin "object.__class__")))
    (hn : specialIn K (.builtin "object.__class__") "__get__" = some (some (.builtin "getset_descriptor.__get__"))) (htk : takesIn K (.builtin "object.__class__") = some true) (hm : mroIn K C (.type "object") = some true)
    (h : Q (some (.ref C)) { s with toks := s.toks + 1 }) : wpAny (model prog w) A (getAttr? (.ref x) "__class__") Q E s := by
  have hf : findObj K C (some od) "__class__" = some (.bind (.builtin "getset_descriptor.__get__") (.builtin "object.__class__")) := findObj_data (by obtain ⟨cd, hc, _⟩ := any_some G.hd; rw [hc]; rfl) ha hn htk
  unfold getAttr? getAttrBy?
  refine wpAny_bind (wpAny_mkText ?_)
  refine wpAny_bind (wpAny_attempt (xget_by (s := { s with toks := s.toks + 1 }) X G I (xget_callB (s := { s with toks := s.toks + 1 }) X G I hf ?_)))
  refine wpAny_call (class_get (s := { s with toks := s.toks + 1 }) (ox := ox) (od := some od) X I hm ?_)
  show wpAny _ _ (handedOut (.ref C)) _ _ _
  rw [handedOut_of rfl]
  exact wpAny_pure (wpAny_pure h)
theorem kitx_exc {od : Obj} (G : XGet K C) (ha : findIn K (.ref C) "__class__" = some (some (.builtin "object.__class__")))
    (hn : specialIn K (.builtin "object.__class__") "__get__" = some (some (.builtin "getset_descriptor.__get__"))) (htk : takesIn K (.builtin "object.__class__") = some true) (hm : mroIn K C (.type "object") = some true) :
    KitX K (.ref x) (.ref C) (fun h => InstAt h x ox C (some od)) where
  ty := fun _ _ _ I => I.type
  it := fun _ _ X _ => by
    obtain ⟨cdD, hcD, _⟩ := any_some G.hd
    unfold clsIn at hcD
    split at hcD
    · rename_i c' d' cd' sl' ho
      intro A' Q' E' s' k q
      unfold isType loadHead
      exact wpAny_bind (wpAny_loadPart (k _ _ (X _ _ ho)) (wpAny_pure q))
    · cases hcD
  ne := fun h tp dd its n sl X htp => by
    obtain ⟨cdD, hcD, _⟩ := any_some G.hd
    refine Bool.eq_false_iff.mpr fun q => ?_
    have e : C = tp := Value.ref.inj (beq_iff_eq.mp q)
    subst e
    unfold clsIn at hcD
    split at hcD
    · rename_i c' d' cd' sl' ho
      have z := (X _ _ ho).symm.trans htp
      cases z
    · cases hcD
  ca := fun X I k => xclass X G I ha hn htk hm k
end
end L2
namespace L2
open PySem PySem.Spec PyProof.Rows L3 PySem.W
section
variable {X : Cx} {pins : List (Addr × Obj)} {σ : St} {H : Hp} {s : Shared}
theorem unbind_ok {A : Around} {E : Value → Shared → Prop} {i : Nat} {n : Str} {v : V} {Q : Unit → Shared → Prop} (I : Inv X pins σ H s) (hN : X.N.Nodup) (hi : X.N[i]? = some n) (hk : X.env.scope.names.lookup n = some .local) (hv : σ[i]? = some (some v))
    (h : ∀ s', Inv X pins (σ.set i none) H s' → Q () s') : wpAny (model X.prog X.w) A (unbindName X.env n) Q E s := by
  obtain ⟨m, hn, hl⟩ := id I.loc
  have hcls : (X.env.scope.kind == .class || (X.env.scope.kind == .module && X.env.locals != X.env.globals)) = false := by rw [I.ok.kind]; rfl
  have hiσ : i < σ.length := by rw [I.len]; exact (List.getElem?_eq_some_iff.mp hi).1
  have cne := I.cne
  obtain ⟨u, ru, q⟩ := hl i n v hi hv (.inl hk)
  have hm : m n = some u := by
    rcases q with ⟨_, q⟩ | ⟨k, _⟩
    · exact q
    · have hk' : X.env.kindOf n = some .local := hk
      rcases k with k | k <;> (rw [hk'] at k; cases k)
  refine wpAny_unbindName_local hk hn hm hcls fun h' u' hn' hs => ?_
  obtain ⟨oL, _, _, hoL, _⟩ := id hn
  have tracked : HOk X.prog X.w H h' := fun b ob e => by
    refine (I.hok b ob e).stay (fun c w' hc q => (hs.2 c ?_).trans q) (fun _ q => q) fun _ _ q => q
    rintro rfl
    rcases hc with z | hc
    · rw [← z, I.free] at e; cases e
    · rw [I.free] at hc; cases hc
  refine h _ ⟨I.ok, I.os, I.bare, ⟨fun b o e n hb hx => ?_, fun b o e n hb hx => ?_, I.base.free, fun b o e hx => ?_, I.base.tups, I.base.frzs, I.base.tbls⟩, ⟨_, hn', fun j y v' e1 e2 e3 => ?_⟩, fun y c e => ?_, I.free, I.freeC, fun p hp => ?_, tracked, by simpa using I.len⟩
  · exact (hs.2 b (Nat.ne_of_lt (Nat.lt_of_lt_of_le (Heap.lt_size e) I.ok.above))).trans (I.base.keep b o e n hb hx)
  · obtain ⟨sl, e1⟩ := I.base.slot b o e n hb hx
    exact ⟨sl, (hs.2 b (Nat.ne_of_lt (Nat.lt_of_lt_of_le (Heap.lt_size e) I.ok.above))).trans e1⟩
  · obtain ⟨o', e1⟩ := I.base.there b o e hx
    exact ⟨o', (hs.2 b (Nat.ne_of_lt (Nat.lt_of_lt_of_le (Heap.lt_size e) I.ok.above))).trans e1⟩
  · by_cases hj : j = i
    · subst hj
      rw [List.getElem?_set_self hiσ] at e2
      cases e2
    · rw [List.getElem?_set_ne (Ne.symm hj)] at e2
      obtain ⟨u', r', q⟩ := hl j y v' e1 e2 e3
      refine ⟨u', r', ?_⟩
      rcases q with ⟨k, e⟩ | ⟨k, c, e, z⟩
      · refine .inl ⟨k, ?_⟩
        have : y ≠ n := fun e => hj (nodup_ix hN e1 (e ▸ hi))
        simp [this, e]
      · exact .inr ⟨k, c, e, z.sameBut hs (cne y c e)⟩
  · obtain ⟨w', z⟩ := I.cell y c e
    exact ⟨w', z.sameBut hs (cne y c e)⟩
  · obtain ⟨e, n, ne, nf, d⟩ := I.pin p hp
    exact ⟨(hs.2 p.1 ne).trans e, n, ne, nf, d⟩
abbrev hcx (X : Cx) (x : Addr) (o : Obj) : Cx := { X with A := X.A.mark (some (.ref x)), calm := false, pn := (x, o) :: X.pn, xe := fun _ _ => False }
theorem Inv.toH {x : Addr} {o : Obj} (I : Inv X pins σ H s) (hx : s.heap.get? x = some o) (hn : H x = none) (hl : x ≠ X.env.locals) (hf : x ∉ X.fs) (hc : ∀ v, o.data ≠ .cell v) : Inv (hcx X x o) pins σ H s :=
  ⟨⟨I.ok.mod, I.ok.kind, I.ok.glob, I.ok.blt, I.ok.above, I.ok.inj, I.ok.has, I.ok.cab, (fun z => nomatch z), I.ok.frames, I.ok.stk, I.ok.exf, I.ok.bs, I.ok.bsz, I.ok.noex, I.ok.exfs, I.ok.funs, I.ok.frf⟩,
    I.os, I.bare, I.base, I.loc, I.cell, I.free, I.freeC, fun p hp => by
      rcases List.mem_cons.mp hp with z | z
      · subst z; exact ⟨hx, hn, hl, hf, hc⟩
      · exact I.pin p z, I.hok, I.len⟩
theorem Inv.ofH {x : Addr} {o : Obj} (ok : X.Ok) (I : Inv (hcx X x o) pins σ H s) : Inv X pins σ H s :=
  ⟨ok, I.os, I.bare, I.base, I.loc, I.cell, I.free, I.freeC, fun p hp => I.pin p (List.mem_cons_of_mem _ hp), I.hok, I.len⟩
end
section
variable {prog : Program} {w : World} {A : Around} {E : Value → Shared → Prop} {s : Shared} {env : Env}
theorem handle_as {e : Addr} {t : Expr} {n : Str} {b₀ : Stmt} {suite : List Stmt} {pos : Pos} {rest : List ExceptHandler} {Q : Flow → Shared → Prop}
    (h : wpAny (model prog w) (A.mark (some (.ref e))) (eval t env) (fun c s₁ => wpAny (model prog w) (A.mark (some (.ref e))) (excMatches (.ref e) c) (fun b s₂ => b = true ∧
      wpAny (model prog w) (A.mark (some (.ref e))) (setFlight (.ref e) none) (fun _ s₃ => wpAny (model prog w) (A.mark (some (.ref e))) (storeName env n (.ref e)) (fun _ s₄ =>
        wpAny (model prog w) (A.mark (some (.ref e))) (execs (b₀ :: suite) env) (fun f s₅ => wpAny (model prog w) A (do bindName env n .none; unbindBehindTheSuite env n pos) (fun _ s₆ => Q f s₆) E s₅) (fun _ _ => False) s₄) (fun _ _ => False) s₃) (fun _ _ => False) s₂) (fun _ _ => False) s₁) (fun _ _ => False) s) :
    wpAny (model prog w) A (handleBy (.ref e) env (.ExceptHandler (some t) (some n) (b₀ :: suite) pos :: rest)) Q E s := by
  refine wpAny_handleBy_cons (codeAny_handlers_test (wpAny_mono h (fun c s₁ h₁ => wpAny_mono h₁ (fun b s₂ h₂ => ?_) fun _ _ z => z.elim) fun _ _ z => z.elim)) (by intro q; cases q)
  obtain ⟨rfl, h₂⟩ := h₂
  exact codeAny_handlers_suite_as (wpAny_mono h₂ (fun _ s₃ h₃ => wpAny_mono h₃ (fun _ s₄ h₄ => wpAny_mono h₄ (fun f s₅ h₅ => h₅) fun _ _ z => z.elim) fun _ _ z => z.elim) fun _ _ z => z.elim)
end
end L2
namespace L2
open PySem PySem.Spec PyProof.Rows L3 PySem.W
section
variable {X : Cx} {pins : List (Addr × Obj)} {σ : St} {H : Hp} {s : Shared}
theorem Inv.rec_ne {b : Addr} {o : Obj} {vs : Array Value} (I : Inv X pins σ H s) (e : s.heap.get? b = some o) (hd : o.data = .fields vs) : b ≠ X.env.locals ∧ ∀ y c, X.env.cells.lookup y = some c → c ≠ b := by
  refine ⟨fun z => ?_, fun y c q z => ?_⟩
  · obtain ⟨m, ⟨oL, es, ep, hL, hLd, _⟩, _⟩ := I.loc
    rw [z, hL] at e
    cases e
    rw [hLd] at hd; cases hd
  · obtain ⟨v, oc, hc, hcd⟩ := I.cell y c q
    rw [z, e] at hc
    cases hc
    rw [hd] at hcd; cases hcd
theorem Inv.note {h' : Heap} {x n : Nat} {oe : Obj} {vs : Array Value} (I : Inv X pins σ H s) (hst : X.stack = X.env :: X.outer) (hf : X.env.frame = some X.env.locals) (N : Noted (frs X.stack) x oe vs s.heap h') (hok : HOk X.prog X.w H h') (he : s.heap.get? x = some oe) (hd : oe.data = .fields vs)
    (hn : X.s₀.heap.objs.size ≤ n) (h0 : n ≤ x) (hp : ∀ p ∈ X.pn ++ pins, p.1 < n) (hT : ∀ T, vs[1]? = some (.ref T) → n ≤ T ∧ ∃ oT ts, s.heap.get? T = some oT ∧ oT.data = .fields ts) : Inv X pins σ H { s with heap := h' } := by
  obtain ⟨x1, x2⟩ := I.rec_ne he hd
  obtain ⟨ch, hch⟩ : ∃ ch : List Addr, ∀ b, b ∈ ch ↔ b = x ∨ vs[1]? = some (.ref b) := by
    cases hv : vs[1]? with
    | none => exact ⟨[x], fun b => by simp⟩
    | some v =>
      cases v with
      | ref T => exact ⟨[x, T], fun b => by simp [eq_comm]⟩
      | _ => exact ⟨[x], fun b => by simp⟩
  have nots : ∀ b, b ∉ ch → b ≠ x ∧ ∀ T, vs[1]? = some (.ref T) → b ≠ T := fun b hb => ⟨fun z => hb ((hch b).mpr (.inl z)), fun T t z => hb ((hch b).mpr (.inr (z ▸ t)))⟩
  have nst : ∀ b, b ≠ X.env.locals → b ∉ X.fs → b ∉ frs X.stack := fun b h1 h2 z => by
    rw [hst] at z
    rcases mem_frs hf z with z | z
    · exact h1 z
    · exact h2 z
  refine I.step (g' := s.gens) (t' := s.toks) (d' := s.drawn) (ch := ch) (fun b hb => ?_) (fun b o h1 h2 h3 e _ => N.keep b o (nst b h1 h2) (nots b h3).1 (nots b h3).2 e) (fun b o _ h2 _ e _ => N.slot b o (by rw [hst]; show b ∈ (X.env :: X.outer).filterMap _; rw [List.filterMap_cons, hf]; exact List.mem_cons_of_mem _ h2) e) (fun _ _ _ _ z => z) (fun b o _ e => N.there b o e)
    (fun _ _ z => z) (fun _ _ _ z => z) (fun _ ps z => ⟨#[], by simpa using z⟩) (fun m hm => ?_) hok I.bare
  · rcases (hch b).mp hb with z | z
    · subst z
      exact ⟨.inr (Nat.le_trans hn h0), x1, x2, fun p q w => Nat.not_lt.mpr h0 (w ▸ hp p q)⟩
    · obtain ⟨t1, oT, ts, t2, t3⟩ := hT b z
      obtain ⟨y1, y2⟩ := I.rec_ne t2 t3
      exact ⟨.inr (Nat.le_trans hn t1), y1, y2, fun p q w => Nat.not_lt.mpr t1 (w ▸ hp p q)⟩
  · obtain ⟨o, es, ep, ho, r⟩ := hm
    obtain ⟨sl, e⟩ := N.slot _ o (by rw [hst]; show X.env.locals ∈ (X.env :: X.outer).filterMap _; rw [List.filterMap_cons, hf]; exact List.mem_cons_self) ho
    exact ⟨_, es, ep, e, r⟩
end
theorem objOk_ex {P : Program} {w : World} {H : Hp} {h : Heap} {a : Addr} {o : HO} (x : ObjOk P w H h a o) : ∃ ob, h.get? a = some ob := by
  cases o with
  | lst xs => obtain ⟨_, _, _, _, e⟩ := x; exact ⟨_, e⟩
  | tup xs => obtain ⟨z, its, r, ob, e, c⟩ := x; exact ⟨_, e⟩
  | dK kvs => obtain ⟨_, _, _, _, o, _, _, e, _⟩ := x; exact ⟨_, e⟩
  | dT kvs => obtain ⟨_, _, _, _, o, _, _, e, _⟩ := x; exact ⟨_, e⟩
  | set S n => obtain ⟨o, _, _, _, e, _⟩ := x; exact ⟨_, e⟩
  | ins C dx fs => obtain ⟨_, _, _, e, _⟩ := x; exact ⟨_, e⟩
  | own y => obtain ⟨_, e⟩ := x; exact ⟨_, e⟩
  | xd fs => obtain ⟨_, ⟨_, _, _, e, _⟩, _⟩ := x; exact ⟨_, e⟩
  | rng lo hi => obtain ⟨_, _, _, e⟩ := x; exact ⟨_, e⟩
  | frz ob u => obtain ⟨e, _⟩ := x; exact ⟨_, e⟩
  | tbl ps => exact ⟨_, x⟩
  | met f y => exact ⟨_, x⟩
  | ext φ => obtain ⟨_, ⟨_, e⟩, _⟩ := x; exact ⟨_, e⟩
section
variable {X : Cx} {pins : List (Addr × Obj)} {σ : St} {H : Hp} {s : Shared}
theorem Inv.dropX {x : Addr} {gs : List (Str × V)} (I : Inv X pins σ H s) (e : H x = some (.xd gs)) : Inv X pins σ (hdel H x) s := by
  have non : ∀ b, H b = none → hdel H x b = none := fun b q => by unfold hdel; split; rfl; exact q
  refine ⟨I.ok, I.os, I.bare, ⟨I.base.keep, I.base.slot, fun b o q n z => non b (I.base.free b o q n z), I.base.there, fun b xs q => ?_, fun b o u q => ?_, fun b ps q => ?_⟩, I.loc, I.cell, non _ I.free, fun y c q => non c (I.freeC y c q), fun p hp => ?_, fun b u q => ?_, I.len⟩
  · have := I.base.tups b xs q
    rw [hdel_ne (fun z => by rw [z, e] at this; cases this)]; exact this
  · have := I.base.frzs b o u q
    rw [hdel_ne (fun z => by rw [z, e] at this; cases this)]; exact this
  · obtain ⟨more, this⟩ := I.base.tbls b ps q
    exact ⟨more, by rw [hdel_ne (fun z => by rw [z, e] at this; cases this)]; exact this⟩
  · obtain ⟨a, b, c⟩ := I.pin p hp
    exact ⟨a, non _ b, c⟩
  · have hb : b ≠ x := fun z => by rw [z, hdel_same] at q; cases q
    rw [hdel_ne hb] at q
    refine (I.hok b u q).stay (fun _ _ _ z => z) (fun c z => ?_) fun c ys z => ?_
    · rw [hdel_ne (fun y => by rw [y, e] at z; cases z)]; exact z
    · rw [hdel_ne (fun y => by rw [y, e] at z; cases z)]; exact z
abbrev pcx (X : Cx) (dx : Addr) (od : Obj) : Cx := { X with pn := (dx, od) :: X.pn }
theorem Inv.toP {dx : Addr} {od : Obj} (I : Inv X pins σ H s) (hx : s.heap.get? dx = some od) (hn : H dx = none) (hl : dx ≠ X.env.locals) (hf : dx ∉ X.fs) (hc : ∀ v, od.data ≠ .cell v) : Inv (pcx X dx od) pins σ H s :=
  ⟨⟨I.ok.mod, I.ok.kind, I.ok.glob, I.ok.blt, I.ok.above, I.ok.inj, I.ok.has, I.ok.cab, I.ok.hd, I.ok.frames, I.ok.stk, I.ok.exf, I.ok.bs, I.ok.bsz, I.ok.noex, I.ok.exfs, I.ok.funs, I.ok.frf⟩,
    I.os, I.bare, I.base, I.loc, I.cell, I.free, I.freeC, fun p hp => by
      rcases List.mem_cons.mp hp with z | z
      · subst z; exact ⟨hx, hn, hl, hf, hc⟩
      · exact I.pin p z, I.hok, I.len⟩
theorem Inv.ofP {dx : Addr} {od : Obj} (ok : X.Ok) (I : Inv (pcx X dx od) pins σ H s) : Inv X pins σ H s :=
  ⟨ok, I.os, I.bare, I.base, I.loc, I.cell, I.free, I.freeC, fun p hp => I.pin p (List.mem_cons_of_mem _ hp), I.hok, I.len⟩
end
structure XIs (C : Addr) (o : Obj) (dx : Addr) (od : Obj) (a : Str) (v : V) : Prop where
  cls : o.cls = .ref C
  dict : o.dict = some dx
  data : ∃ vs, o.data = .fields vs
  look : ∃ u, lookIn a od = some (some u) ∧ RelV v u
noncomputable def Ends.un (i : Nat) (D : Ends) : Ends := { nx := fun σ H => D.nx (σ.set i none) H, rt := D.rt, bk := fun σ H => D.bk (σ.set i none) H, ct := fun σ H => D.ct (σ.set i none) H }
noncomputable def tTryCall (K : Frag) (sp : Sp) (t : TA) (CB : Addr) (i : Nat) (th : Addr → Str → V → Addr → TS) : TS := fun D σ H => t σ H fun vs H1 => sp vs H1 (fun _ H2 => D.nx σ H2) (fun cls dxo H2 => ∃ C dx a v, cls = .ref C ∧ dxo = some dx ∧ H2 dx = some (.xd [(a, v)]) ∧ exmOne K (.ref C) (.ref CB) = some true ∧
  (H1 dx = none → ∀ x, hdel H2 dx x = none → th C a v x (Ends.un i D) (σ.set i (some (.ref x))) (hdel H2 dx)))
theorem ps_tryCall {X : Cx} {k : Nat} {f CB : Addr} {fd : FuncData} {ps : List Str} {sp : Sp} {nm cn n : Str} {i : Nat} {e : Expr} {es : List Expr} {t : TA} {th : Addr → Str → V → Addr → TS} {b₀ : Stmt} {suite : List Stmt} {p p2 pos pos1 hpos tpos : Pos}
    (F : FnOk X.prog X.w X.K X.mg X.base (CXW X.prog X.w) k f fd ps sp) (hr : Room k X.A) (hg : Gl X nm) (hm : X.mg nm = some (.ref f)) (hk : keepIn X.K (.ref f) = true) (hb : Binds X.K fd ps []) (ha : PA X.nox (e :: es) t)
    (hst : X.stack = X.env :: X.outer) (hf : X.env.frame = some X.env.locals) (hN : X.N.Nodup) (hi : X.N[i]? = some n) (hl : X.env.scope.names.lookup n = some .local) (hg2 : Gl X cn) (hm2 : X.mg cn = some (.ref CB))
    (hbody : ∀ C a v x o dx od, XIs C o dx od a v → PSs (hcx (pcx X dx od) x o) (b₀ :: suite) (th C a v x))
    (hdb : (nm == ("__debug__" : Str)) = false := by decide) (hdb2 : (cn == ("__debug__" : Str)) = false := by decide) (he : starEach (e :: es) X.env = (false, eval e X.env) :: starEach es X.env := by rfl) (hpl : (backTo pos (starEach es X.env)).any (·.1) = false := by rfl)
    (hsw : swapsWith (.Call (.Name nm p) (e :: es) [] pos) none pos1.line X.env = pure false := by rfl) :
    PS X (.Try [.Expr (.Call (.Name nm p) (e :: es) [] pos) pos1] [.ExceptHandler (some (.Name cn p2)) (some n) (b₀ :: suite) hpos] [] [] tpos) (tTryCall X.K sp t CB i th) := by
  intro pins s σ H D I h
  refine wpAny_Try_except (wpAny_execs_cons (wpAny_Expr_any ?_ I.quiet hsw))
  refine wpAny_Call_Name_kw (ld_glob I hg hm ?_ hdb)
  refine PySem.W.callWith_K (h₀ := X.base) I.ok.mod.kin hk (wpAny_mono (ha pos pins s σ H _ (I.wish _) h) (fun us s1 q0 => ?_) fun _ _ z => z.elim) he hpl
  obtain ⟨vs, H1, I1, r, q⟩ := q0
  have I1 := I1.unwish
  refine ⟨I1.kIn, ?_⟩
  have hlen : (us ++ []).length = ps.length := by rw [List.append_nil, ← r.length]; exact F.len _ _ _ _ q
  have hb1 := hb s1 us I1.kIn hlen
  rw [List.append_nil] at hb1
  refine wpAny_call (codeAny_mono (F.run X.A X.stack s1 H1 ⟨us, []⟩ us vs _ _ hr I1.env0 hb1 r q) fun r' s' hq => ?_)
  cases r' with
  | ok fl =>
    cases fl with
    | ret u =>
      obtain ⟨v, H2, I2, rv, q2⟩ := I1.after hq
      exact wpAny_execs_nil (wpAny_execs_nil ⟨σ, H2, I2, q2⟩)
    | next => exact False.elim hq
    | brk => exact False.elim hq
    | cont => exact False.elim hq
  | error ev =>
    obtain ⟨x, C, dx, H2, rfl, os, bare, un, hok, fly, hd0, C', dx', a, v, e1, e2, hxd, hexm, hth⟩ := hq
    cases e1
    cases e2
    have h1dx : H1 dx = none := by
      cases z : H1 dx with
      | none => rfl
      | some o => obtain ⟨ob, z'⟩ := objOk_ex (I1.hok dx o z); rw [hd0] at z'; cases z'
    have J : Inv X pins σ H2 s' := I1.call' os un hok bare (fun b z => absurd z (by simp))
    obtain ⟨h0, hx, oe, vs', hex, hc, hdx, hd, hh⟩ := fly
    have hsz : 1 < vs'.size := by
      rcases hh with z | ⟨T, _, _, z, _⟩
      · exact (Array.getElem?_eq_some_iff.mp z).1
      · exact (Array.getElem?_eq_some_iff.mp z).1
    have hH : HeadOk s'.heap x vs' := by
      rcases hh with z | ⟨T, oT, ts, z1, z2, z3, z4, z5, z6, z7⟩
      · exact .inl z
      · exact .inr ⟨T, oT, ts, z1, z2, z5, z6, z7⟩
    have hTn : ∀ T, vs'[1]? = some (.ref T) → (s1.heap.objs.size ≤ T ∧ ∃ oT ts, s'.heap.get? T = some oT ∧ oT.data = .fields ts) ∧ H2 T = none := fun T z => by
      rcases hh with z1 | ⟨T', oT, ts, z1, z2, z3, z4, z5, z6, z7⟩
      · rw [z1] at z; cases z
      · rw [z1] at z; cases z; exact ⟨⟨z3, oT, ts, z5, z6⟩, z4⟩
    have hst' := J.stack
    rw [hst] at hst'
    refine note_prec (base := X.base) (by rw [J.ok.frames, hst]) hst' hf hex hd hH fun h' N => ?_
    have N' : Noted (frs X.stack) x oe vs' s'.heap h' := by rw [hst]; exact N
    have sz1 : X.s₀.heap.objs.size ≤ s1.heap.objs.size := I1.sz
    obtain ⟨hok2, _⟩ := J.noted N' J.sz (Nat.le_trans sz1 h0) hx hex hc hdx hd hsz fun T z => (hTn T z).2
    have J2 : Inv X pins σ H2 { s' with heap := h' } := J.note hst hf N' hok2 hex hd sz1 h0 (fun p hp => Heap.lt_size (I1.pin p hp).1) fun T z => (hTn T z).1
    obtain ⟨T', oT', ts', t1, t2, t3, t4, t5, t6⟩ := N.exc
    have hd2 := Obj.data_mapFields hd (·.setIfInBounds 1 (Value.ref T'))
    have hc2 : (oe.mapFields (·.setIfInBounds 1 (Value.ref T'))).cls = .ref C := (Obj.cls_mapFields _ _).trans hc
    have hdx2 : (oe.mapFields (·.setIfInBounds 1 (Value.ref T'))).dict = some dx := (mapFields_dict hd).trans hdx
    generalize oe.mapFields (·.setIfInBounds 1 (Value.ref T')) = o2 at *
    have hok2d := J2.hok dx _ hxd
    obtain ⟨mA, ns, rl⟩ := hok2d
    obtain ⟨od, hod, hlk⟩ := lookIn_ns ns
    have hnc : ∀ v, od.data ≠ .cell v := fun v z => by
      obtain ⟨o', es, ep, ho', hd', _⟩ := ns
      rw [hod] at ho'; cases ho'
      rw [z] at hd'; cases hd'
    have lk : ∃ u, lookIn a od = some (some u) ∧ RelV v u := by
      have r := rl a
      simp only [List.lookup, beq_self_eq_true] at r
      cases hm : mA a with
      | none => rw [hm] at r; exact r.elim
      | some u => rw [hm] at r; exact ⟨u, by rw [hlk, hm], r⟩
    have ndx : hdel H2 dx dx = none := hdel_same
    have xdx : x ≠ dx := fun z => by rw [z, hxd] at hx; cases hx
    have hx' : hdel H2 dx x = none := by rw [hdel_ne xdx]; exact hx
    have dl : dx ≠ X.env.locals := fun z => by have := J2.free; rw [← z, hxd] at this; cases this
    have dfs : dx ∉ X.fs := fun z => by
      have := J2.stkFree dx (by rw [hst]; show dx ∈ (X.env :: X.outer).filterMap _; rw [List.filterMap_cons, hf]; exact List.mem_cons_of_mem _ z)
      rw [hxd] at this; cases this
    have JP : Inv (pcx X dx od) pins σ (hdel H2 dx) { s' with heap := h' } := (J2.dropX hxd).toP hod ndx dl dfs hnc
    have dlt : dx < s'.heap.objs.size := (J.hok dx _ hxd).lt
    obtain ⟨x1, x2⟩ := J2.rec_ne t1 hd2
    have xfs : x ∉ X.fs := fun z => by
      have := (J2.ok.funs.mem (show x ∈ X.outer.filterMap (·.frame) from z)).2
      obtain ⟨o, ho, _⟩ := this
      exact Nat.not_lt.mpr (Nat.le_trans sz1 h0) (Heap.lt_size ho)
    have HI : Inv (hcx (pcx X dx od) x o2) pins σ (hdel H2 dx) { s' with heap := h' } := JP.toH t1 hx' x1 xfs fun v z => by rw [hd2] at z; cases z
    have LT : Looks (model X.prog X.w) h' (typeOf (.ref x)) (.ref C) := hc2 ▸ (Looks.ld t1).andThen .now
    refine handle_as (ld_glob (X := hcx (pcx X dx od) x o2) HI hg2 hm2 ?_ hdb2)
    refine (exm_one (M := model X.prog X.w) HI.kIn LT hexm).here (s := { s' with heap := h' }) ⟨rfl, ?_⟩
    have hs3 : 3 < ts'.size := (Array.getElem?_eq_some_iff.mp t6).1
    refine wpAny_setFlight_none t1 hd2 (by simp [hsz]) t4 t5 hs3 ?_
    have szT : s'.heap.objs.size ≤ T' := t2
    have HI3 : Inv (hcx (pcx X dx od) x o2) pins σ (hdel H2 dx) { s' with heap := h'.update T' (Obj.mapFields (·.setIfInBounds 3 Value.none)) } := by
      obtain ⟨y1, y2⟩ := J2.rec_ne t4 t5
      refine Inv.turnedL (s := { s' with heap := h' }) (t' := s'.toks) (fp := [T']) HI (fun b o hb q => (Heap.get?_update_other _ _ (fun z => hb (by simp [z]))).trans q) fun b hb => ?_
      rw [List.mem_singleton.mp hb]
      refine ⟨(hdel_ne (fun z : T' = dx => Nat.not_lt.mpr szT (by rw [z]; exact dlt))).trans (J.hok.fresh szT), y1, ?_, .inr (Nat.le_trans J.sz szT), y2, fun p hp z => ?_⟩
      · intro z
        obtain ⟨o, ho, _⟩ := (J2.ok.funs.mem (show T' ∈ X.outer.filterMap (·.frame) from z)).2
        exact Nat.not_lt.mpr (Nat.le_trans J.sz szT) (Heap.lt_size ho)
      · rcases List.mem_cons.mp hp with w | w
        · subst w; exact t3 z.symm
        · rcases List.mem_cons.mp w with w | w
          · subst w; exact Nat.not_lt.mpr szT (by rw [← show dx = T' from z]; exact dlt)
          · exact Nat.not_lt.mpr szT (z ▸ (Heap.lt_size (J.pin p w).1 : p.1 < _))
    refine store_ok (X := hcx (pcx X dx od) x o2) HI3 hN hi (.inl hl) (v := .ref x) rfl (fun s4 HI4 => ?_) (.inr hl)
    refine wpAny_mono (hbody C a v x o2 dx od ⟨hc2, hdx2, ⟨_, hd2⟩, lk⟩ pins s4 _ _ (Ends.un i D) HI4 (hth h1dx x hx')) (fun fl s5 hq => ?_) fun _ _ z => z
    have fin : ∀ {σ' : St} {H' : Hp}, Inv (hcx (pcx X dx od) x o2) pins σ' H' s5 → (∀ s6, Inv X pins (σ'.set i none) H' s6 → SP X pins D fl s6) → wpAny (model X.prog X.w) X.A (do bindName X.env n .none; unbindBehindTheSuite X.env n hpos) (fun _ s6 => SP X pins D fl s6) X.xe s5 := fun {σ' H'} K5 kk => by
      have I5 := Inv.ofP J.ok (Inv.ofH JP.ok K5)
      have hiσ : i < σ'.length := by rw [I5.len]; exact (List.getElem?_eq_some_iff.mp hi).1
      refine wpAny_bind (wpAny_bindName (store_ok I5 hN hi (.inl hl) (v := .non) rfl (fun s6 I6 => ?_) (.inr hl)))
      unfold unbindBehindTheSuite
      refine wpAny_onRaise (unbind_ok I6 hN hi hl (v := .non) (by rw [List.getElem?_set_self hiσ]) fun s7 I7 => ?_)
      rw [List.set_set] at I7
      exact kk s7 I7
    cases fl with
    | next =>
      obtain ⟨σ', H', K5, q5⟩ := hq
      exact fin K5 fun s6 I6 => ⟨_, _, I6, q5⟩
    | brk =>
      obtain ⟨σ', H', K5, q5⟩ := hq
      exact fin K5 fun s6 I6 => ⟨_, _, I6, q5⟩
    | cont =>
      obtain ⟨σ', H', K5, q5⟩ := hq
      exact fin K5 fun s6 I6 => ⟨_, _, I6, q5⟩
    | ret u =>
      obtain ⟨v, σ', H', K5, rv, q5⟩ := hq
      exact fin K5 fun s6 I6 => ⟨v, _, _, I6, rv, q5⟩
end L2
namespace L3
open PySem PySem.Spec PyProof.Rows L2 PySem.W
abbrev XQ := Addr → Str → D → Gp → Prop
noncomputable def FinX (K : Frag) (G : Gp) (H : Hp) (EQ : XQ) (E : XK) : Prop := ∀ C a d G' v dx H', EQ C a d G' → Kp G H G' H' → RG K H' G' → G' dx = none → H' dx = some (.xd [(a, v)]) → RD K H' d v → E (.ref C) (some dx) H'
theorem FinX.base {K : Frag} {G G1 : Gp} {H H1 : Hp} {EQ : XQ} {E : XK} (f : FinX K G H EQ E) (k : Kp G H G1 H1) : FinX K G1 H1 EQ E := fun C a d G' v dx H' q k' => f C a d G' v dx H' q (k.trans k')
abbrev SpX := List D → Gp → VK3 → XQ → Prop
noncomputable def liftSpX (K : Frag) (sp : SpX) : Sp := fun vs H Q E => ∃ ds G Q3 EQ, RDs K H ds vs ∧ RG K H G ∧ sp ds G Q3 EQ ∧ Fin3 K G H Q3 Q ∧ FinX K G H EQ E
noncomputable def liftSX (K : Frag) (E : XK) (EQ : XQ) (t : TS3) : TS := fun D τ H => ∃ σ G D3, RS K H σ τ ∧ RG K H G ∧ FinX K G H EQ E ∧ t D3 σ G ∧ EndsOk K G H D3 D
structure CtxW (X : Cx) (E : XK) : Prop where
  st : X.stack = X.env :: X.outer
  fr : X.env.frame = some X.env.locals
  ex : X.ex = []
  calm : X.calm = true
  xe : X.xe = fun e s' => wpAny (model X.prog X.w) X.A (leaving X.env e) (fun _ s'' => CXW X.prog X.w X.outer X.H₀ X.s₀ E e s'') (fun e' s'' => CXW X.prog X.w X.outer X.H₀ X.s₀ E e' s'') s'
structure FnX (P : Program) (w : World) (K : Frag) (mg : Str → Option Value) (base : Heap) (k : Nat) (x : Str) (sp : SpX) : Prop where
  ex : ∃ f fd ps, FnOk P w K mg base (CXW P w) k f fd ps (liftSpX K sp) ∧ mg x = some (.ref f) ∧ keepIn K (.ref f) = true ∧ Binds K fd ps []
structure ErX (P : Program) (w : World) (K : Frag) (mg : Str → Option Value) (base : Heap) (k : Nat) (x : Str) (C : Addr) (a : Str) : Prop where
  ex : ∃ f fd ps, XMk K C f a ∧ mg x = some (.ref C) ∧ FnOk P w K mg base CX0 k f fd ps (spInit C a) ∧ Binds K fd ps []
noncomputable def sRaise (C : Addr) (a : Str) (ta : TA3) (EQ : XQ) : TS3 := fun _ σ G => ta σ G fun ds G1 => ∃ d, ds = [d] ∧ EQ C a d G1
noncomputable def sCallX (sp : SpX) (ta : TA3) (EQ : XQ) : TS3 := fun D σ G => ta σ G fun ds G1 => sp ds G1 (fun _ G2 => D.nx σ G2) EQ
section
variable {X : Cx} {E : XK} {EQ : XQ} {st : Stmt} {rest : List Stmt} {t u : TS3} {pos : Pos}
theorem x_ofs (h : PSs X rest (liftS X.K t)) : PSs X rest (liftSX X.K E EQ t) := h.imp fun D τ H z => by
  obtain ⟨σ, G, D3, rs, rg, _, h, k⟩ := z
  exact ⟨σ, G, D3, rs, rg, h, k⟩
theorem x_one (h1 : PS X st (liftSX X.K E EQ t)) : PSs X [st] (liftSX X.K E EQ t) := pss_one h1
theorem x_cons (h1 : PS X st (liftSX X.K E EQ t)) (h2 : PSs X rest (liftSX X.K E EQ u)) : PSs X (st :: rest) (liftSX X.K E EQ (sSeq t u)) := (pss_cons h1 h2).imp fun D τ H z => by
  obtain ⟨σ, G, D3, rs, rg, fx, h, k⟩ := z
  exact ⟨σ, G, { D3 with nx := u D3 }, rs, rg, fx, h, ⟨fun σ' G' τ' H' q k' rg' rs' => ⟨σ', G', D3, rs', rg', fx.base k', q, k.base k'⟩, k.rt, k.bk, k.ct⟩⟩
theorem x_if {c : Expr} {a b : List Stmt} {tc : TT3} (hc : PT X c (liftT X.K tc)) (ha : PSs X a (liftSX X.K E EQ t)) (hb : PSs X b (liftSX X.K E EQ u)) : PS X (.If c a b pos) (liftSX X.K E EQ (sIf tc t u)) :=
  (ps_if hc ha hb).imp fun D τ H z => by
    obtain ⟨σ, G, D3, rs, rg, fx, h, k⟩ := z
    refine ⟨σ, G, _, rs, rg, h, fun b G' H' q k' rg' => ?_⟩
    cases b with
    | true => exact ⟨σ, G', D3, rs.mono (k'.stb rg), rg', fx.base k', q, k.base k'⟩
    | false => exact ⟨σ, G', D3, rs.mono (k'.stb rg), rg', fx.base k', q, k.base k'⟩
theorem x_raise {C : Addr} {a nm : Str} {k : Nat} {e : Expr} {ta : TA3} {p pos2 : Pos} (W : CtxW X E) (F : ErX X.prog X.w X.K X.mg X.base k nm C a) (hr : Room (k + 1) X.A) (hg : Gl X nm) (ha : PA X [e] (liftA X.K ta))
    (hdb : (nm == ("__debug__" : Str)) = false := by decide) (he : starEach [e] X.env = (false, eval e X.env) :: starEach [] X.env := by rfl) (hpl : (backTo pos (starEach [] X.env)).any (·.1) = false := by rfl) :
    PS X (.Raise (some (.Call (.Name nm p) [e] [] pos)) none pos2) (liftSX X.K E EQ (sRaise C a ta EQ)) := by
  obtain ⟨f, fd, ps, M, hm, F, hb⟩ := F.ex
  refine (ps_raise (Ex := fun v H => ∃ d G, RD X.K H d v ∧ RG X.K H G ∧ EQ C a d G ∧ FinX X.K G H EQ E) M F hr hb W.calm W.ex hg hm ha (fun pins σ H s x t' dx v I n1 n2 n3 n4 n5 hx q => ?_) hdb he hpl).imp fun D τ H z => ?_
  · obtain ⟨d, G, rd, rg, q, fx⟩ := q
    rw [W.xe]
    have lt : G dx = none := rg.free n1
    exact leave_ok I W.st W.fr W.ex ⟨n3, by rw [upd_ne (Ne.symm n4)]; exact n2, _, _, hx, rfl, rfl, rfl, .inl rfl⟩ n5 (fx C a d G v dx _ q (Kp.laid n1) (rg.laid n1) lt upd_same (RD.mono ((Kp.laid (G := G) n1).stb rg) _ _ rd))
  · obtain ⟨σ, G, D3, rs, rg, fx, h, k⟩ := z
    refine ⟨σ, G, _, rs, rg, h, fun ds G1 vs H1 q k1 rg1 rds => ?_⟩
    obtain ⟨d, rfl, q⟩ := q
    obtain ⟨v, rfl, rd⟩ := one_inv rds
    exact ⟨v, rfl, d, G1, rd, rg1, q, fx.base k1⟩
theorem x_call {x : Str} {k : Nat} {e : Expr} {es : List Expr} {ta : TA3} {sp : SpX} {p pos1 : Pos} (W : CtxW X E) (F : FnX X.prog X.w X.K X.mg X.base k x sp) (hr : Room k X.A) (hg : Gl X x) (ha : PA X (e :: es) (liftA X.K ta)) (hdb : (x == ("__debug__" : Str)) = false := by decide)
    (he : starEach (e :: es) X.env = (false, eval e X.env) :: starEach es X.env := by rfl) (hpl : (backTo pos (starEach es X.env)).any (·.1) = false := by rfl) (hs : swapsWith (.Call (.Name x p) (e :: es) [] pos) none pos1.line X.env = pure false := by rfl) :
    PS X (.Expr (.Call (.Name x p) (e :: es) [] pos) pos1) (liftSX X.K E EQ (sCallX sp ta EQ)) := by
  obtain ⟨f, fd, ps, ok, hm, hk, hb⟩ := F.ex
  refine (ps_expr (pe_call (dvs := []) (ds := []) ok hr hg hm hk hb .nil (passes_on (E := E) (E' := E) W.st W.fr W.ex W.xe fun _ _ _ z => z) ha hdb he hpl) hs).imp fun D τ H z => ?_
  obtain ⟨σ, G, D3, rs, rg, fx, h, kk⟩ := z
  refine ⟨σ, G, _, rs, rg, h, fun ds G1 vs H1 q k1 rg1 rds => ⟨ds, G1, _, EQ, by rw [List.append_nil]; exact rds, rg1, q, fun d G' v H' q' k' rg' _ => ?_, fx.base k1⟩⟩
  exact kk.nx σ G' τ H' q' (k1.trans k') rg' (rs.mono ((k1.trans k').stb rg))
end
section
variable {P : Program} {w : World} {K : Frag} {mg : Str → Option Value} {base : Heap}
theorem cxOf_W {N : List Str} {qual : Str} {scope : Scope} {f : Addr} {cd : Value} {A : Around} {outer : List Env} {s : Shared} {H : Hp} {E : XK} : CtxW (cxOf (CXW P w) P w K mg base N qual scope f cd A outer s H E) E := ⟨rfl, rfl, rfl, rfl, rfl⟩
theorem Fun3.okX {x qual : Str} {st : Stmt} {f : Addr} {fd : FuncData} {N ps : List Str} {k : Nat} {sp : SpX} (F : Fun3 K x qual st f fd) (S : FnScope N ps (defScope st)) (len : ∀ ds G Q EQ, sp ds G Q EQ → ds.length = ps.length)
    (hbody : ∀ (cdv : Value) (A : Around) (outer : List Env) (s : Shared) (H : Hp) (E : XK) (EQ : XQ), Room k (A.deeper (envOfC qual (defScope st) s.heap.objs.size f cdv)) →
      ∃ t : TS3, PSs (cxOf (CXW P w) P w K mg base N qual (defScope st) f cdv A outer s H E) (defBody st) (liftSX K E EQ t) ∧ ∀ ds G Q, sp ds G Q EQ → t { nx := fun _ G' => Q .non G', rt := Q } (start3 N ds) G) : FnOk P w K mg base (CXW P w) (k + 1) f fd ps (liftSpX K sp) := by
  obtain ⟨oc, od, dV, kV, doc, pm, an, cdv, ct, osl, rfl, lk, hcd⟩ := F.ex
  refine fn_of lk hcd S (fun vs H Q E z => by obtain ⟨ds, G, Q3, EQ, rds, rg, h, kk⟩ := z; rw [← rds.length]; exact len ds G Q3 EQ h) fun A outer s H vs Q E hr hsp => ?_
  obtain ⟨ds, G, Q3, EQ, rds, rg, h, kk, fx⟩ := hsp
  obtain ⟨t, ht, hq⟩ := hbody cdv A outer s H E EQ hr
  refine ⟨liftSX K E EQ t, ht, start3 N ds, G, { nx := fun _ G' => Q3 .non G', rt := Q3 }, rs_start rds, rg, fx, hq ds G Q3 h, ⟨fun σ' G' τ' H' q k' rg' rs' => kk _ G' _ H' q k' rg' (.of rd_non), kk, fun _ _ _ _ q => q.elim, fun _ _ _ _ q => q.elim⟩⟩
theorem init_ok {x qual : Str} {st : Stmt} {f C : Addr} {fd : FuncData} {a y z : Str} {p1 p2 p3 p4 : Pos} (F : Fun3 K x qual st f fd) (S : FnScope [y, z] [y, z] (defScope st)) (M : XMk K C f a) (hb : defBody st = [.Assign [.Attribute (.Name y p1) a p2] (.Name z p3) p4])
    (hy : Vis (defScope st) y) (hz : Vis (defScope st) z) (hd1 : (y == ("__debug__" : Str)) = false := by decide) (hd2 : (z == ("__debug__" : Str)) = false := by decide) (hc1 : (y == ("__classdict__" : Str)) = false := by decide) (hc2 : (z == ("__classdict__" : Str)) = false := by decide)
    (hs : ∀ env, swapsWith (.Name z p3) (some (.Attribute (.Name y p1) a p2)) p4.line env = pure false := by intro _; rfl) : FnOk P w K mg base CX0 1 f fd [y, z] (spInit C a) := by
  obtain ⟨oc, od, dV, kV, doc, pm, an, cdv, ct, osl, rfl, lk, hcd⟩ := F.ex
  refine fn_of lk hcd S (fun vs H Q E q => by obtain ⟨x, v, t, rfl, _⟩ := q; rfl) fun A outer s H vs Q E hr hsp => ?_
  obtain ⟨x, v, t, rfl, e, h⟩ := hsp
  rw [hb]
  refine ⟨_, pss_one (ps_xfld M (pe_var (i := 0) rfl hy hd1 hc1) (pe_var (i := 1) rfl hz hd2 hc2) (hs _)), v, rfl, .ref x, rfl, x, t, rfl, e, h⟩
end
noncomputable def Ends3.un (i : Nat) (D : Ends3) : Ends3 := { nx := fun σ G => D.nx (σ.set i none) G, rt := D.rt, bk := fun σ G => D.bk (σ.set i none) G, ct := fun σ G => D.ct (σ.set i none) G }
noncomputable def sTry (ok : Addr → Str → Prop) (sp : SpX) (ta : TA3) (i : Nat) (th : Addr → Str → Int → Addr → TS3) : TS3 := fun D σ G => ta σ G fun ds G1 => sp ds G1 (fun _ G2 => D.nx σ G2) (fun C a d G2 => ∃ z, d = .int z ∧ ok C a ∧ ∀ x, G2 x = none → th C a z x (Ends3.un i D) (σ.set i (some (.ref x))) G2)
theorem stb_del {K : Frag} {H : Hp} {dx : Addr} {gs : List (Str × V)} (e : H dx = some (.xd gs)) : Stb K H (hdel H dx) where
  t := fun a xs q => by
    rcases q with (q | ⟨o, q⟩) | q
    · exact .inl (.inl (by rw [hdel_ne (fun z => by rw [z, e] at q; cases q)]; exact q))
    · exact .inl (.inr ⟨o, by rw [hdel_ne (fun z => by rw [z, e] at q; cases q)]; exact q⟩)
    · exact .inr q
  l := fun a xs q => by
    rcases q with ⟨o, q⟩ | q
    · exact .inl ⟨o, by rw [hdel_ne (fun z => by rw [z, e] at q; cases q)]; exact q⟩
    · exact .inr q
theorem RS.unset {K : Frag} {H : Hp} : ∀ {σ : St3} {τ : St} (i : Nat), RS K H σ τ → RS K H (σ.set i none) (τ.set i none)
  | _, _, _, .nil => .nil
  | _, _, 0, .cons _ t => .cons (show RSo K H none none from trivial) t
  | _, _, i + 1, .cons r t => .cons r (RS.unset i t)
section
variable {X : Cx}
theorem q_try {k : Nat} {CB : Addr} {sp : SpX} {nm cn n : Str} {i : Nat} {e : Expr} {es : List Expr} {ta : TA3} {th : Addr → Str → Int → Addr → TS3} {b₀ : Stmt} {suite : List Stmt} {p p2 pos pos1 hpos tpos : Pos} {ok : Addr → Str → Prop}
    (F : FnX X.prog X.w X.K X.mg X.base k nm sp) (hr : Room k X.A) (hg : Gl X nm) (ha : PA X.nox (e :: es) (liftA X.K ta))
    (hst : X.stack = X.env :: X.outer) (hf : X.env.frame = some X.env.locals) (hN : X.N.Nodup) (hi : X.N[i]? = some n) (hl : X.env.scope.names.lookup n = some .local) (hg2 : Gl X cn) (hm2 : X.mg cn = some (.ref CB)) (hok : ∀ C a, ok C a → exmOne X.K (.ref C) (.ref CB) = some true)
    (hbody : ∀ C a z x o dx od, ok C a → XIs C o dx od a (.int z) → PSs (hcx (pcx X dx od) x o) (b₀ :: suite) (liftS X.K (th C a z x)))
    (hdb : (nm == ("__debug__" : Str)) = false := by decide) (hdb2 : (cn == ("__debug__" : Str)) = false := by decide) (he : starEach (e :: es) X.env = (false, eval e X.env) :: starEach es X.env := by rfl) (hpl : (backTo pos (starEach es X.env)).any (·.1) = false := by rfl)
    (hsw : swapsWith (.Call (.Name nm p) (e :: es) [] pos) none pos1.line X.env = pure false := by rfl) :
    PS X (.Try [.Expr (.Call (.Name nm p) (e :: es) [] pos) pos1] [.ExceptHandler (some (.Name cn p2)) (some n) (b₀ :: suite) hpos] [] [] tpos) (liftS X.K (sTry ok sp ta i th)) := by
  obtain ⟨f, fd, ps, F, hm, hk, hb⟩ := F.ex
  refine (ps_tryCall (th := fun C a v x => fun D σ H => ∃ z, v = .int z ∧ ok C a ∧ liftS X.K (th C a z x) D σ H) F hr hg hm hk hb ha hst hf hN hi hl hg2 hm2 (fun C a v x o dx od hx => ?_) hdb hdb2 he hpl hsw).imp fun D τ H z => ?_
  · intro pins s σ H D I h
    obtain ⟨z, rfl, hc, h⟩ := h
    exact hbody C a z x o dx od hc hx pins s σ H D I h
  · obtain ⟨σ, G, D3, rs, rg, h, kk⟩ := z
    refine ⟨σ, G, _, rs, rg, h, fun ds G1 vs H1 q k1 rg1 rds => ⟨ds, G1, _, _, rds, rg1, q, fun d G' v H' q' k' rg' _ => kk.nx σ G' τ H' q' (k1.trans k') rg' (rs.mono ((k1.trans k').stb rg)), ?_⟩⟩
    intro C a d G' v dx H' q' k' rg' n e rd
    obtain ⟨z, rfl, hc, hth⟩ := q'
    obtain rfl : v = .int z := by simpa only [RD] using rd
    refine ⟨C, dx, a, .int z, rfl, rfl, e, hok C a hc, fun h1 x hx => ⟨z, rfl, hc, ?_⟩⟩
    have rg2 : RG X.K (hdel H' dx) G' := fun b o q => by
      obtain ⟨ho, e1, r⟩ := rg' b o q
      exact ⟨ho, by rw [hdel_ne (fun y => by rw [y, n] at q; cases q)]; exact e1, r.mono (stb_del e)⟩
    have kp : Kp G H G' (hdel H' dx) := fun b o e0 n0 => by
      obtain ⟨a1, a2⟩ := k1 b o e0 n0
      obtain ⟨c1, c2⟩ := k' b o a1 a2
      exact ⟨by rw [hdel_ne (fun y => by rw [y, h1] at a1; cases a1)]; exact c1, c2⟩
    refine ⟨_, G', _, RS.set (d := .ref x) (by simp only [RD]) i (rs.mono (kp.stb rg)), rg2, hth x (rg2.free hx), ?_⟩
    have kb := kk.base kp
    exact ⟨fun σ' G2 τ' H2 q k2 r2 s2 => kb.nx _ _ _ _ q k2 r2 (RS.unset i s2), kb.rt, fun σ' G2 τ' H2 q k2 r2 s2 => kb.bk _ _ _ _ q k2 r2 (RS.unset i s2), fun σ' G2 τ' H2 q k2 r2 s2 => kb.ct _ _ _ _ q k2 r2 (RS.unset i s2)⟩
structure XAsk (K : Frag) (C : Addr) (a : Str) : Prop where
  g : XGet K C
  ca : findIn K (.ref C) "__class__" = some (some (.builtin "object.__class__"))
  gs : specialIn K (.builtin "object.__class__") "__get__" = some (some (.builtin "getset_descriptor.__get__"))
  tk : takesIn K (.builtin "object.__class__") = some true
  mo : mroIn K C (.type "object") = some true
  fa : findIn K (.ref C) a = some none
theorem boot_VE : bootBuiltins "ValueError" = some (.type "ValueError") := by kernel_rfl
theorem p_clsX {nm : Str} {C : Addr} {pos : Pos} (hg : Gl X nm) (hm : X.mg nm = some (.ref C)) (hd : (nm == ("__debug__" : Str)) = false := by decide) : PE X (.Name nm pos) (lift X.K (eC (.ref C))) := p_const (v := .ref C) hg hm rfl (fun _ => by simp only [RD]) hd
noncomputable def clsV : D → Value
  | .ref a => .ref a
  | .ty n => .type n
  | _ => .none
noncomputable def bIsX (x : Addr) (c : D) (b : Bool) : RC3 := fun ds G Q => ds = [.ref x, c] ∧ Q (.bl b) G
theorem xis_inst {C x dx : Addr} {o od : Obj} {a : Str} {v : V} {pins : List (Addr × Obj)} {σ : St} {H : Hp} {s : Shared} (hx : XIs C o dx od a v) (I : Inv (hcx (pcx X dx od) x o) pins σ H s) : InstAt s.heap x o C (some od) := by
  have h1 := (I.pin (x, o) (by simp)).1
  have h2 := (I.pin (dx, od) (by simp)).1
  refine ⟨h1, hx.cls, ?_, ?_⟩
  · obtain ⟨vs, e⟩ := hx.data
    unfold notCls; rw [e]
  · rw [hx.dict]; exact h2
theorem b_isX {C x dx : Addr} {o od : Obj} {a : Str} {v : V} {c : D} {b : Bool} (hx : XIs C o dx od a v) (A : XAsk X.K C a) (hc : (∃ y, c = .ref y) ∨ ∃ n, c = .ty n) (e : kitOne X.K (.ref C) (clsV c) = some b) : CallR (hcx (pcx X dx od) x o) (.builtin "isinstance") (liftC X.K (bIsX x c b)) := by
  intro pins s σ H vs us Q I rv h
  obtain ⟨ds, G, Q3, rds, rg, ⟨rfl, h⟩, kk⟩ := h
  obtain ⟨v1, t, e1, h1, h2⟩ := rds.inv_cons
  obtain ⟨u2, e2, h3⟩ := one_inv h2
  simp only [RD] at h1
  subst e1 e2 h1
  obtain ⟨u, w', rfl, ru, rw'⟩ := vals2 rv
  cases ru
  have eu : w' = clsV c := by
    rcases hc with ⟨y, rfl⟩ | ⟨n, rfl⟩
    · simp only [RD] at h3; subst h3; exact rw'
    · simp only [RD] at h3; subst h3; exact rw'
  subst eu
  exact kia_one (kitx_exc (ox := o) (od := od) A.g A.ca A.gs A.tk A.mo) I.kIn (xis_inst hx I) e (fun z => nomatch z) fun tk => ⟨.bl b, H, I.tok tk, rfl, kk _ G _ H h Kp.refl rg (.of rd_bl)⟩
noncomputable def eXat (te : TE3) (x : Addr) (z : Int) : TE3 := fun σ G Q => te σ G fun d G1 => d = .ref x ∧ Q (.int z) G1
theorem p_xat {C x dx : Addr} {o od : Obj} {a : Str} {z : Int} {e : Expr} {te : TE3} {pos : Pos} (hx : XIs C o dx od a (.int z)) (A : XAsk X.K C a) (he : PE (hcx (pcx X dx od) x o) e (lift X.K te))
    (hb : attributeBase e a (hcx (pcx X dx od) x o).env (eval e (hcx (pcx X dx od) x o).env) = eval e (hcx (pcx X dx od) x o).env := by rfl) : PE (hcx (pcx X dx od) x o) (.Attribute e a pos) (lift X.K (eXat te x z)) := by
  intro pins s τ H Q I h
  obtain ⟨σ, G, Q3, rs, rg, h, kk⟩ := h
  refine attr_of hb (thn (he pins s τ H (fun v H1 => v = .ref x ∧ Q (.int z) H1) I ⟨σ, G, _, rs, rg, h, fun d G1 v H1 q k1 rg1 re => ?_⟩) fun u s1 zz => ?_)
  · obtain ⟨rfl, q⟩ := q
    exact ⟨re.ref, kk _ G1 _ H1 q k1 rg1 (.of rd_int)⟩
  · obtain ⟨v, H1, I1, rx, rfl, q⟩ := zz
    obtain rfl : u = Value.ref x := rx
    obtain ⟨u', hl, ru⟩ := hx.look
    refine xget I1.kIn A.g (xis_inst hx I1) (findObj_own A.g.hd A.fa rfl hl) ?_ ⟨.int z, H1, I1.tok _, ru, q⟩
    obtain ⟨t, rfl⟩ := ru
    rfl
end
end L3
namespace L3
open PySem PySem.Spec PyProof.Rows L2 PySem.W
structure MtX (P : Program) (w : World) (K : Frag) (mg : Str → Option Value) (base : Heap) (k : Nat) (C : Addr) (m : Str) (sp : SpX) : Prop where
  cl : Cls K C
  ex : ∃ f fd ps, FnOk P w K mg base (CXW P w) k f fd ps (liftSpX K sp) ∧ Meth K C m f ∧ Binds K fd ps []
noncomputable def sMethX (C : Addr) (L : List Str) (sp : SpX) (to : TE3) (ta : TA3) (EQ : XQ) : TS3 := fun D σ G => to σ G fun x G1 => match x with
  | .ref a => match G1 a with
    | some (.ins C' L' _) => (C' = C ∧ L' = L) ∧ ta σ G1 fun ds G2 => sp (.ref a :: ds) G2 (fun _ G3 => D.nx σ G3) EQ
    | _ => False
  | _ => False
theorem x_meth {X : Cx} {E : XK} {EQ : XQ} {pl : Sem Bool} {L : List Str} {k : Nat} {C : Addr} {m : Str} {sp : SpX} {o e : Expr} {es : List Expr} {to : TE3} {t : TA3} {apos pos pos1 : Pos} (W : CtxW X E) (F : MtX X.prog X.w X.K X.mg X.base k C m sp) (hL : m ∉ L) (hr : Room k X.A) (ho : PE X o (lift X.K to)) (ha : PA X (e :: es) (liftA X.K t))
    (hst : starEach (e :: es) X.env = (false, eval e X.env) :: starEach es X.env := by rfl) (hpl : (backTo pos (starEach es X.env)).any (·.1) = false := by rfl)
    (ht : eval (.Call (.Attribute o m apos) (e :: es) [] pos) X.env = (do
      let ov ← eval o X.env
      standAt apos.atName
      let (f, first) ← holding [ov] (getMethod ov m pl)
      callWith pos f first (backTo pos (starEach (e :: es) X.env)) (backToKw pos (keywordEach [] X.env))) := by rfl) (hs : swapsWith (.Call (.Attribute o m apos) (e :: es) [] pos) none pos1.line X.env = pure false := by rfl) :
    PS X (.Expr (.Call (.Attribute o m apos) (e :: es) [] pos) pos1) (liftSX X.K E EQ (sMethX C L sp to t EQ)) := by
  obtain ⟨f, fd, ps, ok, hm, hb⟩ := F.ex
  refine (ps_expr (pe_meth (dvs := []) (ds := []) ho F.cl hm ok hr hb .nil (passes_on (E := E) (E' := E) W.st W.fr W.ex W.xe fun _ _ _ z => z) ha hst hpl ht) hs).imp fun D τ H z => ?_
  obtain ⟨σ, G, D3, rs, rg, fx, h, kk⟩ := z
  refine ⟨σ, G, _, rs, rg, h, fun d G1 v H1 q k1 rg1 re => ?_⟩
  cases d with
  | ref a =>
    dsimp only at q
    split at q
    · rename_i C' L' ds hg
      obtain ⟨⟨rfl, rfl⟩, q⟩ := q
      obtain ⟨ho, e1, ro⟩ := rg1 a _ hg
      cases ho with
      | ins C2 dx gs =>
        obtain ⟨rfl, r2, r3⟩ := ro
        refine ⟨a, dx, gs, re.ref, e1, look_none (K := X.K) r2 hL, σ, G1, _, rs.mono (k1.stb rg), rg1, q, fun ds' G2 vs H2 q2 k2 rg2 rds => ?_⟩
        rw [re.ref]
        exact ⟨.ref a :: ds', G2, _, EQ, RDs.cons rd_ref (by rw [List.append_nil]; exact rds), rg2, q2, fun d G' v H' q' k' rg' _ => kk.nx σ G' τ H' q' ((k1.trans k2).trans k') rg' (rs.mono (((k1.trans k2).trans k').stb rg)), fx.base (k1.trans k2)⟩
      | _ => exact ro.elim
    · exact q.elim
  | _ => exact q.elim
theorem fnx_or {P : Program} {w : World} {K : Frag} {mg : Str → Option Value} {base : Heap} {j k n : Nat} {f : Addr} {fd : FuncData} {ps : List Str} {sp0 : Sp3} {sp1 : SpX} (F0 : FnOk P w K mg base CX0 j f fd ps (liftSp K sp0)) (F1 : FnOk P w K mg base (CXW P w) k f fd ps (liftSpX K sp1)) (h0 : j ≤ n) (h1 : k ≤ n) :
    FnOk P w K mg base (CXW P w) n f fd ps (liftSpX K fun ds G Q EQ => sp0 ds G Q ∨ sp1 ds G Q EQ) := by
  refine ⟨fun vs H Q E z => ?_, fun A outer s H args us vs Q E hr e0 hb r z => ?_⟩
  · obtain ⟨ds, G, Q3, EQ, rds, rg, h | h, kk, fx⟩ := z
    · exact F0.len vs H Q E0 ⟨ds, G, Q3, rds, rg, h, kk⟩
    · exact F1.len vs H Q E ⟨ds, G, Q3, EQ, rds, rg, h, kk, fx⟩
  · obtain ⟨ds, G, Q3, EQ, rds, rg, h | h, kk, fx⟩ := z
    · refine codeAny_mono ((F0.mono h0).run A outer s H args us vs Q E0 hr e0 hb r ⟨ds, G, Q3, rds, rg, h, kk⟩) fun r' s' q => ?_
      cases r' with
      | error e => exact q.elim
      | ok fl => cases fl <;> exact q
    · exact (F1.mono h1).run A outer s H args us vs Q E hr e0 hb r ⟨ds, G, Q3, EQ, rds, rg, h, kk, fx⟩
end L3
namespace RQ
open PySem PySem.Spec PyProof.Rows L2 L3
noncomputable def top (i : Nat) : Stmt := PySem.Challenge.pw_redquill_k14_out_of_place.main.body.getD i (.Pass ⟨0, 0, 0, 0⟩)
noncomputable def L_Plain : List Str := ["worn"]
theorem at_Plain_worn : IsAt L_Plain "worn" 0 := isAt_of (by decide +kernel)
theorem no_Plain_put : ("put" : Str) ∉ L_Plain := by decide +kernel
theorem no_Plain_strike : ("strike" : Str) ∉ L_Plain := by decide +kernel
theorem no_Plain_dress : ("dress" : Str) ∉ L_Plain := by decide +kernel
theorem no_Plain_move : ("move" : Str) ∉ L_Plain := by decide +kernel
theorem no_Plain_rows : ("rows" : Str) ∉ L_Plain := by decide +kernel
abbrev s_OutOfPlace___init__ : Stmt := inClass (top 2) 0
theorem sc_OutOfPlace___init__ : FnScope ["self", "at"] ["self", "at"] (defScope s_OutOfPlace___init__) := ⟨rfl, rfl, rfl, by decide +kernel, rfl, by decide +kernel, by decide +kernel⟩
abbrev s_check_gap : Stmt := top 14
theorem sc_check_gap : FnScope ["at", "length"] ["at", "length"] (defScope s_check_gap) := ⟨rfl, rfl, rfl, by decide +kernel, rfl, by decide +kernel, by decide +kernel⟩
abbrev s_check_stretch : Stmt := top 15
theorem sc_check_stretch : FnScope ["at", "to", "length"] ["at", "to", "length"] (defScope s_check_stretch) := ⟨rfl, rfl, rfl, by decide +kernel, rfl, by decide +kernel, by decide +kernel⟩
abbrev s_undressed : Stmt := top 17
theorem sc_undressed : FnScope ["signs"] ["signs"] (defScope s_undressed) := ⟨rfl, rfl, rfl, by decide +kernel, rfl, by decide +kernel, by decide +kernel⟩
theorem nd_undressed_1 : ((["sign"] : List Str) ++ (["signs"] : List Str)).Nodup := by decide +kernel
abbrev s__law_drawn : Stmt := top 20
theorem sc__law_drawn : FnScope ["_law_cell", "_law_place", "_law_number_here"] ["_law_cell", "_law_place"] (defScope s__law_drawn) := ⟨rfl, rfl, rfl, by decide +kernel, rfl, by decide +kernel, by decide +kernel⟩
abbrev s__law_number : Stmt := top 21
theorem sc__law_number : FnScope ["_law_cell", "_law_place", "_law_many", "_law_way", "_law_number_here"] ["_law_cell", "_law_place", "_law_many"] (defScope s__law_number) := ⟨rfl, rfl, rfl, by decide +kernel, rfl, by decide +kernel, by decide +kernel⟩
abbrev s__law_due : Stmt := top 22
theorem sc__law_due : FnScope ["_law_word", "_law_at", "_law_to", "_law_goal", "_law_many"] ["_law_word", "_law_at", "_law_to", "_law_goal", "_law_many"] (defScope s__law_due) := ⟨rfl, rfl, rfl, by decide +kernel, rfl, by decide +kernel, by decide +kernel⟩
abbrev s__law_does : Stmt := top 23
theorem sc__law_does : FnScope ["_law_plain", "_law_word", "_law_at", "_law_to", "_law_goal"] ["_law_plain", "_law_word", "_law_at", "_law_to", "_law_goal"] (defScope s__law_does) := ⟨rfl, rfl, rfl, by decide +kernel, rfl, by decide +kernel, by decide +kernel⟩
abbrev s__law_refused : Stmt := top 24
theorem sc__law_refused : FnScope ["_law_plain", "_law_word", "_law_at", "_law_to", "_law_goal", "e", "_law_other"] ["_law_plain", "_law_word", "_law_at", "_law_to", "_law_goal"] (defScope s__law_refused) := ⟨rfl, rfl, rfl, by decide +kernel, rfl, by decide +kernel, by decide +kernel⟩
abbrev s_law : Stmt := top 25
theorem sc_law : FnScope ["_law_script", "_law_cell", "_law_plain", "_law_rows", "_law_word", "_law_at", "_law_to", "_law_goal", "_law_due_here"] ["_law_script"] (defScope s_law) := ⟨rfl, rfl, rfl, by decide +kernel, rfl, by decide +kernel, by decide +kernel⟩
abbrev s_Plain___init__ : Stmt := inClass (top 18) 0
theorem sc_Plain___init__ : FnScope ["self", "text"] ["self", "text"] (defScope s_Plain___init__) := ⟨rfl, rfl, rfl, by decide +kernel, rfl, by decide +kernel, by decide +kernel⟩
abbrev s_Plain_put : Stmt := inClass (top 18) 1
theorem sc_Plain_put : FnScope ["self", "at", "signs"] ["self", "at", "signs"] (defScope s_Plain_put) := ⟨rfl, rfl, rfl, by decide +kernel, rfl, by decide +kernel, by decide +kernel⟩
abbrev s_Plain_strike : Stmt := inClass (top 18) 2
theorem sc_Plain_strike : FnScope ["self", "at", "to"] ["self", "at", "to"] (defScope s_Plain_strike) := ⟨rfl, rfl, rfl, by decide +kernel, rfl, by decide +kernel, by decide +kernel⟩
abbrev s_Plain_dress : Stmt := inClass (top 18) 3
theorem sc_Plain_dress : FnScope ["self", "at", "to", "word", "dressed"] ["self", "at", "to", "word"] (defScope s_Plain_dress) := ⟨rfl, rfl, rfl, by decide +kernel, rfl, by decide +kernel, by decide +kernel⟩
theorem nd_Plain_dress_1 : ((["sign", "old_word"] : List Str) ++ (["self", "at", "to", "word", "dressed"] : List Str)).Nodup := by decide +kernel
abbrev s_Plain_move : Stmt := inClass (top 18) 4
theorem sc_Plain_move : FnScope ["self", "at", "to", "goal", "ahead", "behind"] ["self", "at", "to", "goal"] (defScope s_Plain_move) := ⟨rfl, rfl, rfl, by decide +kernel, rfl, by decide +kernel, by decide +kernel⟩
abbrev s_Plain_rows : Stmt := inClass (top 18) 5
theorem sc_Plain_rows : FnScope ["self"] ["self"] (defScope s_Plain_rows) := ⟨rfl, rfl, rfl, by decide +kernel, rfl, by decide +kernel, by decide +kernel⟩
noncomputable def drawn (c p : Int) : Int := let n := (c + 7919 * p + 1) * 48271 % 2147483647; n * (n / 1009 + 69621) % 2147483647
noncomputable def sp__law_drawn (_ : Addr) : Sp3 := fun ds G Q => match ds with
  | [.int c, .int p] => (0 ≤ p ∧ p < 1000000) ∧ Q (.int (drawn c p)) G
  | _ => False
noncomputable def und (x : Str) : List D := (L3.signs x).map fun d => D.tup [d, .str ""]
noncomputable def sp_check_gap (_ : Addr) : Sp3 := fun ds G Q => match ds with
  | [.int at_, .int n] => (0 ≤ at_ ∧ at_ ≤ n) ∧ Q .non G
  | _ => False
noncomputable def sp_check_stretch (_ : Addr) : Sp3 := fun ds G Q => match ds with
  | [.int at_, .int to_, .int n] => (0 ≤ at_ ∧ at_ < n ∧ at_ < to_ ∧ to_ ≤ n) ∧ Q .non G
  | _ => False
noncomputable def sp_undressed (_ : Addr) : Sp3 := fun ds G Q => match ds with
  | [.str x] => x.length ≤ sizeLine ∧ Q (.fl (und x)) G
  | _ => False
noncomputable def sp_Plain___init__ (C : Addr) : Sp3 := fun ds G Q => match ds with
  | [.ref a, .str x] => x.length ≤ sizeLine ∧ G a = some (.ins C [] []) ∧ Q .non (gset G a (.ins C L_Plain [.lst (und x)]))
  | _ => False
noncomputable def sp_Plain_put (C : Addr) : Sp3 := fun vs G Q => match vs with
  | [.ref a, .int at_, .str x] => ∃ ds, G a = some (.ins C L_Plain [.lst ds]) ∧ (0 ≤ at_ ∧ at_ ≤ ds.length ∧ ds.length + x.length ≤ 10000) ∧ Q .non (gset G a (.ins C L_Plain [.lst (ds.take at_.toNat ++ und x ++ ds.drop at_.toNat)]))
  | _ => False
noncomputable def sp_Plain_strike (C : Addr) : Sp3 := fun vs G Q => match vs with
  | [.ref a, .int at_, .int to_] => ∃ ds, G a = some (.ins C L_Plain [.lst ds]) ∧ (0 ≤ at_ ∧ at_ < ds.length ∧ at_ < to_ ∧ to_ ≤ ds.length ∧ ds.length ≤ 10000) ∧ Q .non (gset G a (.ins C L_Plain [.lst (ds.take at_.toNat ++ ds.drop to_.toNat)]))
  | _ => False
noncomputable def rew (w : Str) : D → D
  | .tup [c, _] => .tup [c, .str w]
  | d => d
noncomputable def isRow : D → Prop
  | .tup [.str _, .str _] => True
  | _ => False
noncomputable def dressed (ds : List D) (a b : Nat) (w : Str) : List D := ds.take a ++ ((ds.drop a).take (b - a)).map (rew w) ++ ds.drop b
noncomputable def sp_Plain_dress (C : Addr) : Sp3 := fun vs G Q => match vs with
  | [.ref a, .int at_, .int to_, .str w] => ∃ ds, G a = some (.ins C L_Plain [.lst ds]) ∧ (0 ≤ at_ ∧ at_ < ds.length ∧ at_ < to_ ∧ to_ ≤ ds.length ∧ ds.length ≤ 10000 ∧ ∀ d ∈ ds, isRow d) ∧ Q .non (gset G a (.ins C L_Plain [.lst (dressed ds at_.toNat to_.toNat w)]))
  | _ => False
noncomputable def moved (ds : List D) (a b g : Nat) : List D := ds.take (min a g) ++ (ds.drop b).take (g - b) ++ (ds.drop a).take (b - a) ++ ((ds.drop g).take (a - g) ++ ds.drop (max b g))
noncomputable def sp_Plain_move (C : Addr) : Sp3 := fun vs G Q => match vs with
  | [.ref a, .int at_, .int to_, .int goal] => ∃ ds, G a = some (.ins C L_Plain [.lst ds]) ∧ (0 ≤ at_ ∧ at_ < ds.length ∧ at_ < to_ ∧ to_ ≤ ds.length ∧ 0 ≤ goal ∧ goal ≤ ds.length ∧ ds.length ≤ 10000) ∧ Q .non (gset G a (.ins C L_Plain [.lst (moved ds at_.toNat to_.toNat goal.toNat)]))
  | _ => False
noncomputable def sp_Plain_rows (C : Addr) : Sp3 := fun vs G Q => match vs with
  | [.ref a] => ∃ ds, G a = some (.ins C L_Plain [.lst ds]) ∧ Q (.fl ds) G
  | _ => False
noncomputable def sp_law (_ : Addr) : Sp3 := fun vs _ Q => match vs with
  | [.lst ds] => ∃ ns : List Int, ds = ns.map D.int ∧ ns.length ≤ 63 ∧ ∀ G', Q (.bl true) G'
  | _ => False
inductive Wd where
  | put | strike | dress | move
noncomputable def Wd.s : Wd → Str
  | .put => Str.ofString "put"
  | .strike => Str.ofString "strike"
  | .dress => Str.ofString "dress"
  | .move => Str.ofString "move"
noncomputable def dueS (a t n : Int) : List Int := if 0 ≤ a ∧ a < n then (if a < t ∧ t ≤ n then [] else [t]) else [a]
noncomputable def due (k : Wd) (a t g n : Int) : List Int := match k with
  | .put => if 0 ≤ a ∧ a ≤ n then [] else [a]
  | .strike => dueS a t n
  | .dress => dueS a t n
  | .move => if dueS a t n = [] then (if 0 ≤ g ∧ g ≤ n then [] else [g]) else dueS a t n
noncomputable def spx_check_gap (_ C_OutOfPlace : Addr) : SpX := fun ds G Q EQ => match ds with
  | [.int a, .int n] => (0 ≤ a ∧ a ≤ n → Q .non G) ∧ (¬ (0 ≤ a ∧ a ≤ n) → EQ C_OutOfPlace "at" (.int a) G)
  | _ => False
noncomputable def spx_check_stretch (_ C_OutOfPlace : Addr) : SpX := fun ds G Q EQ => match ds with
  | [.int a, .int t, .int n] => (dueS a t n = [] → Q .non G) ∧ ∀ v, dueS a t n = [v] → EQ C_OutOfPlace "at" (.int v) G
  | _ => False
noncomputable def spx_Plain_put (C C_OutOfPlace : Addr) : SpX := fun ds G _ EQ => match ds with
  | [.ref p, .int a, .str _] => ∃ es, G p = some (.ins C L_Plain [.lst es]) ∧ ¬ (0 ≤ a ∧ a ≤ (es.length : Int)) ∧ EQ C_OutOfPlace "at" (.int a) G
  | _ => False
noncomputable def spx_Plain_strike (C C_OutOfPlace : Addr) : SpX := fun ds G _ EQ => match ds with
  | [.ref p, .int a, .int t] => ∃ es v, G p = some (.ins C L_Plain [.lst es]) ∧ dueS a t es.length = [v] ∧ EQ C_OutOfPlace "at" (.int v) G
  | _ => False
noncomputable def spx_Plain_dress (C C_OutOfPlace : Addr) : SpX := fun ds G _ EQ => match ds with
  | [.ref p, .int a, .int t, .str _] => ∃ es v, G p = some (.ins C L_Plain [.lst es]) ∧ dueS a t es.length = [v] ∧ EQ C_OutOfPlace "at" (.int v) G
  | _ => False
noncomputable def spx_Plain_move (C C_OutOfPlace : Addr) : SpX := fun ds G _ EQ => match ds with
  | [.ref p, .int a, .int t, .int g] => ∃ es v, G p = some (.ins C L_Plain [.lst es]) ∧ due .move a t g es.length = [v] ∧ EQ C_OutOfPlace "at" (.int v) G
  | _ => False
noncomputable def Done (k : Wd) (es fs : List D) : Prop := fs.length ≤ es.length + 2 ∧ (∀ d ∈ fs, isRow d) ∧ (k = .put ∨ k = .strike → fs.length ≠ es.length)
noncomputable def sp__law_does (C : Addr) : Sp3 := fun ds G Q => match ds with
  | [.ref p, .str w, .int a, .int t, .int g] => ∃ (k : Wd) (es : List D), (w = k.s ∧ G p = some (.ins C L_Plain [.lst es]) ∧ due k a t g es.length = [] ∧ es.length ≤ 5000 ∧ ∀ d ∈ es, isRow d) ∧ ∀ fs, Done k es fs → Q .non (gset G p (.ins C L_Plain [.lst fs]))
  | _ => False
noncomputable def spx__law_does (C C_OutOfPlace : Addr) : SpX := fun ds G _ EQ => match ds with
  | [.ref p, .str w, .int a, .int t, .int g] => ∃ (k : Wd) (es : List D) (v : Int), (w = k.s ∧ G p = some (.ins C L_Plain [.lst es]) ∧ due k a t g es.length = [v]) ∧ EQ C_OutOfPlace "at" (.int v) G
  | _ => False
noncomputable def sp__law_refused (C : Addr) : Sp3 := fun ds G Q => match ds with
  | [.ref p, .str w, .int a, .int t, .int g] => ∃ (k : Wd) (es : List D), (w = k.s ∧ G p = some (.ins C L_Plain [.lst es]) ∧ es.length ≤ 5000 ∧ ∀ d ∈ es, isRow d) ∧ (due k a t g es.length = [] → ∀ fs, Done k es fs → Q (.fl []) (gset G p (.ins C L_Plain [.lst fs]))) ∧
      ∀ v, due k a t g es.length = [v] → Q (.fl [.int v]) G
  | _ => False
noncomputable def sp__law_due (_ : Addr) : Sp3 := fun ds G Q => match ds with
  | [.str w, .int a, .int t, .int g, .int n] => ∃ k : Wd, w = k.s ∧ Q (.fl ((due k a t g n).map D.int)) G
  | _ => False
noncomputable def sp__law_number (_ : Addr) : Sp3 := fun ds G Q => match ds with
  | [.int _, .int p, .int n] => (0 ≤ p ∧ p < 1000 ∧ 0 ≤ n) ∧ ∀ v : Int, Q (.int v) G
  | _ => False
noncomputable def rd__law_drawn (C_Plain : Addr) : TS3 := sSeq (sSet 2 (eOp oMod (eOp oMul (eOp oAdd (eOp oAdd (eVar 0) (eOp oMul (eC (.int 7919)) (eVar 1))) (eC (.int 1))) (eC (.int 48271))) (eC (.int 2147483647))))
  (sRet (eOp oMod (eOp oMul (eVar 2) (eOp oAdd (eOp oDiv (eVar 2) (eC (.int 1009))) (eC (.int 69621)))) (eC (.int 2147483647))))
noncomputable def rd__law_number (C_Plain : Addr) : TS3 := sSeq (sSet 3 (eOp oMod (eCall (sp__law_drawn C_Plain) [] (aCons (eVar 0) (aCons (eVar 1) (aNil)))) (eC (.int 8))))
  (sSeq (sSet 4 (eCall (sp__law_drawn C_Plain) [] (aCons (eVar 0) (aCons (eOp oAdd (eVar 1) (eC (.int 1))) (aNil)))))
  (sSeq (sIf (tTru (eOpV oEq (eVar 3) (eC (.int 0)))) (sRet (eOp oSub (eOp oMod (eVar 0) (eOp oAdd (eOp oMul (eC (.int 2)) (eOp oPow (eC (.int 10)) (eC (.int 12)))) (eC (.int 1)))) (eOp oPow (eC (.int 10)) (eC (.int 12))))) (sNil))
  (sSeq (sIf (tTru (eOpV oEq (eVar 3) (eC (.int 1)))) (sRet (eOp oAdd (eVar 2) (eOp oMod (eVar 4) (eC (.int 3))))) (sNil))
  (sSeq (sIf (tTru (eOpV oEq (eVar 3) (eC (.int 2)))) (sRet (eOp oSub (eC (.int 0)) (eOp oMod (eVar 4) (eC (.int 3))))) (sNil))
  (sRet (eOp oMod (eVar 4) (eOp oAdd (eVar 2) (eC (.int 1)))))))))
noncomputable def rd__law_due (C_Plain : Addr) : TS3 := sSeq (sIf (tTru (eOpV oEq (eVar 0) (eC (.str "put")))) (sSeq (sIf (tNot3 (tTru (eChain oLe oLe (eC (.int 0)) (eVar 1) (eVar 4)))) (sRet (eLst (aCons (eVar 1) (aNil)))) (sNil))
  (sRet (eLst (aNil)))) (sNil))
  (sSeq (sIf (tNot3 (tTru (eChain oLe oLt (eC (.int 0)) (eVar 1) (eVar 4)))) (sRet (eLst (aCons (eVar 1) (aNil)))) (sNil))
  (sSeq (sIf (tNot3 (tTru (eChain oLt oLe (eVar 1) (eVar 2) (eVar 4)))) (sRet (eLst (aCons (eVar 2) (aNil)))) (sNil))
  (sSeq (sIf (tAnd3 (tTru (eOpV oEq (eVar 0) (eC (.str "move")))) (tNot3 (tTru (eChain oLe oLe (eC (.int 0)) (eVar 3) (eVar 4))))) (sRet (eLst (aCons (eVar 3) (aNil)))) (sNil))
  (sRet (eLst (aNil))))))
noncomputable def rd_check_gap (C_Plain : Addr) : TS3 := sIf (tNot3 (tTru (eChain oLe oLe (eC (.int 0)) (eVar 0) (eVar 1)))) (sNever) (sNil)
noncomputable def rd_undressed (C_Plain : Addr) : TS3 := sRet (eComp 1 (iSeq (eVar 0)) (gN 0) (tTrue) (eTup (aCons (eVar 0) (aCons (eC (.str "")) (aNil)))))
noncomputable def rd_Plain_put (C_Plain : Addr) : TS3 := sSeq (sDrop (eCall (sp_check_gap C_Plain) [] (aCons (eVar 1) (aCons (eB bLen (aCons (eFld C_Plain L_Plain 0 (eVar 0)) (aNil))) (aNil)))))
  (sFld3 C_Plain L_Plain 0 (eVar 0) (eOp oAdd (eOp oAdd (eSl slA (eFld C_Plain L_Plain 0 (eVar 0)) (oNo) (oSome (eVar 1))) (eCall (sp_undressed C_Plain) [] (aCons (eVar 2) (aNil)))) (eSl slA (eFld C_Plain L_Plain 0 (eVar 0)) (oSome (eVar 1)) (oNo))))
noncomputable def rd_check_stretch (C_Plain : Addr) : TS3 := sSeq (sIf (tNot3 (tTru (eChain oLe oLt (eC (.int 0)) (eVar 0) (eVar 2)))) (sNever) (sNil))
  (sIf (tNot3 (tTru (eChain oLt oLe (eVar 0) (eVar 1) (eVar 2)))) (sNever) (sNil))
noncomputable def rd_Plain_strike (C_Plain : Addr) : TS3 := sSeq (sDrop (eCall (sp_check_stretch C_Plain) [] (aCons (eVar 1) (aCons (eVar 2) (aCons (eB bLen (aCons (eFld C_Plain L_Plain 0 (eVar 0)) (aNil))) (aNil))))))
  (sFld3 C_Plain L_Plain 0 (eVar 0) (eOp oAdd (eSl slA (eFld C_Plain L_Plain 0 (eVar 0)) (oNo) (oSome (eVar 1))) (eSl slA (eFld C_Plain L_Plain 0 (eVar 0)) (oSome (eVar 2)) (oNo))))
noncomputable def rd_Plain_dress (C_Plain : Addr) : TS3 := sSeq (sDrop (eCall (sp_check_stretch C_Plain) [] (aCons (eVar 1) (aCons (eVar 2) (aCons (eB bLen (aCons (eFld C_Plain L_Plain 0 (eVar 0)) (aNil))) (aNil))))))
  (sSeq (sSet 4 (eComp 2 (iSeq (eSl slA (eFld C_Plain L_Plain 0 (eVar 0)) (oSome (eVar 1)) (oSome (eVar 2)))) (gTup3 2 (gCons3 (gN 0) (gCons3 (gN 1) (gNil3)))) (tTrue) (eTup (aCons (eVar 0) (aCons (eVar 5) (aNil))))))
  (sFld3 C_Plain L_Plain 0 (eVar 0) (eOp oAdd (eOp oAdd (eSl slA (eFld C_Plain L_Plain 0 (eVar 0)) (oNo) (oSome (eVar 1))) (eVar 4)) (eSl slA (eFld C_Plain L_Plain 0 (eVar 0)) (oSome (eVar 2)) (oNo)))))
noncomputable def rd_Plain_move (C_Plain : Addr) : TS3 := sSeq (sDrop (eCall (sp_check_stretch C_Plain) [] (aCons (eVar 1) (aCons (eVar 2) (aCons (eB bLen (aCons (eFld C_Plain L_Plain 0 (eVar 0)) (aNil))) (aNil))))))
  (sSeq (sDrop (eCall (sp_check_gap C_Plain) [] (aCons (eVar 3) (aCons (eB bLen (aCons (eFld C_Plain L_Plain 0 (eVar 0)) (aNil))) (aNil)))))
  (sSeq (sSet 4 (eOp oAdd (eSl slA (eFld C_Plain L_Plain 0 (eVar 0)) (oNo) (oSome (eB bMin (aCons (eVar 1) (aCons (eVar 3) (aNil)))))) (eSl slA (eFld C_Plain L_Plain 0 (eVar 0)) (oSome (eVar 2)) (oSome (eVar 3)))))
  (sSeq (sSet 5 (eOp oAdd (eSl slA (eFld C_Plain L_Plain 0 (eVar 0)) (oSome (eVar 3)) (oSome (eVar 1))) (eSl slA (eFld C_Plain L_Plain 0 (eVar 0)) (oSome (eB bMax (aCons (eVar 2) (aCons (eVar 3) (aNil))))) (oNo))))
  (sFld3 C_Plain L_Plain 0 (eVar 0) (eOp oAdd (eOp oAdd (eVar 4) (eSl slA (eFld C_Plain L_Plain 0 (eVar 0)) (oSome (eVar 1)) (oSome (eVar 2)))) (eVar 5))))))
noncomputable def rd__law_does (C_Plain : Addr) : TS3 := sIf (tTru (eOpV oEq (eVar 1) (eC (.str "put")))) (sDrop (eMeth C_Plain L_Plain (sp_Plain_put C_Plain) [] (eVar 0) (aCons (eVar 2) (aCons (eC (.str "x\n")) (aNil))))) (sIf (tTru (eOpV oEq (eVar 1) (eC (.str "strike")))) (sDrop (eMeth C_Plain L_Plain (sp_Plain_strike C_Plain) [] (eVar 0) (aCons (eVar 2) (aCons (eVar 3) (aNil))))) (sIf (tTru (eOpV oEq (eVar 1) (eC (.str "dress")))) (sDrop (eMeth C_Plain L_Plain (sp_Plain_dress C_Plain) [] (eVar 0) (aCons (eVar 2) (aCons (eVar 3) (aCons (eC (.str "red")) (aNil)))))) (sDrop (eMeth C_Plain L_Plain (sp_Plain_move C_Plain) [] (eVar 0) (aCons (eVar 2) (aCons (eVar 3) (aCons (eVar 4) (aNil))))))))
noncomputable def rx_check_gap (C_Plain : Addr) (C_OutOfPlace : Addr) (EQ : XQ) : TS3 := sIf (tNot3 (tTru (eChain oLe oLe (eC (.int 0)) (eVar 0) (eVar 1)))) (sRaise C_OutOfPlace "at" (aCons (eVar 0) (aNil)) EQ) (sNil)
noncomputable def rx_Plain_put (C_Plain : Addr) (C_OutOfPlace : Addr) (EQ : XQ) : TS3 := sSeq (sCallX (spx_check_gap C_Plain C_OutOfPlace) (aCons (eVar 1) (aCons (eB bLen (aCons (eFld C_Plain L_Plain 0 (eVar 0)) (aNil))) (aNil))) EQ)
  (sNever)
noncomputable def rx_check_stretch (C_Plain : Addr) (C_OutOfPlace : Addr) (EQ : XQ) : TS3 := sSeq (sIf (tNot3 (tTru (eChain oLe oLt (eC (.int 0)) (eVar 0) (eVar 2)))) (sRaise C_OutOfPlace "at" (aCons (eVar 0) (aNil)) EQ) (sNil))
  (sIf (tNot3 (tTru (eChain oLt oLe (eVar 0) (eVar 1) (eVar 2)))) (sRaise C_OutOfPlace "at" (aCons (eVar 1) (aNil)) EQ) (sNil))
noncomputable def rx_Plain_strike (C_Plain : Addr) (C_OutOfPlace : Addr) (EQ : XQ) : TS3 := sSeq (sCallX (spx_check_stretch C_Plain C_OutOfPlace) (aCons (eVar 1) (aCons (eVar 2) (aCons (eB bLen (aCons (eFld C_Plain L_Plain 0 (eVar 0)) (aNil))) (aNil)))) EQ)
  (sNever)
noncomputable def rx_Plain_dress (C_Plain : Addr) (C_OutOfPlace : Addr) (EQ : XQ) : TS3 := sSeq (sCallX (spx_check_stretch C_Plain C_OutOfPlace) (aCons (eVar 1) (aCons (eVar 2) (aCons (eB bLen (aCons (eFld C_Plain L_Plain 0 (eVar 0)) (aNil))) (aNil)))) EQ)
  (sNever)
noncomputable def rx_Plain_move (C_Plain : Addr) (C_OutOfPlace : Addr) (EQ : XQ) : TS3 := sSeq (sCallX (spx_check_stretch C_Plain C_OutOfPlace) (aCons (eVar 1) (aCons (eVar 2) (aCons (eB bLen (aCons (eFld C_Plain L_Plain 0 (eVar 0)) (aNil))) (aNil)))) EQ)
  (sSeq (sCallX (spx_check_gap C_Plain C_OutOfPlace) (aCons (eVar 3) (aCons (eB bLen (aCons (eFld C_Plain L_Plain 0 (eVar 0)) (aNil))) (aNil))) EQ)
  (sNever))
noncomputable def rx__law_does (C_Plain : Addr) (C_OutOfPlace : Addr) (EQ : XQ) : TS3 := sIf (tTru (eOpV oEq (eVar 1) (eC (.str "put")))) (sMethX C_Plain L_Plain (spx_Plain_put C_Plain C_OutOfPlace) (eVar 0) (aCons (eVar 2) (aCons (eC (.str "x\n")) (aNil))) EQ) (sIf (tTru (eOpV oEq (eVar 1) (eC (.str "strike")))) (sMethX C_Plain L_Plain (spx_Plain_strike C_Plain C_OutOfPlace) (eVar 0) (aCons (eVar 2) (aCons (eVar 3) (aNil))) EQ) (sIf (tTru (eOpV oEq (eVar 1) (eC (.str "dress")))) (sMethX C_Plain L_Plain (spx_Plain_dress C_Plain C_OutOfPlace) (eVar 0) (aCons (eVar 2) (aCons (eVar 3) (aCons (eC (.str "red")) (aNil)))) EQ) (sMethX C_Plain L_Plain (spx_Plain_move C_Plain C_OutOfPlace) (eVar 0) (aCons (eVar 2) (aCons (eVar 3) (aCons (eVar 4) (aNil)))) EQ)))
noncomputable def rd__law_refused (C_Plain : Addr) (C_QuillError : Addr) (C_OutOfPlace : Addr) (C_NoStroke : Addr) (C_Decided : Addr) (C_NotYours : Addr) (C_Twice : Addr) (C_Leaned : Addr) (C_OtherText : Addr) (C_NoNote : Addr) (C_TooDeep : Addr) (C_NoPaper : Addr) (C_NoRow : Addr) : TS3 := sSeq (sTry (fun C a => C = C_OutOfPlace ∧ a = "at") (fun ds G Q EQ => sp__law_does C_Plain ds G Q ∨ spx__law_does C_Plain C_OutOfPlace ds G Q EQ) (aCons (eVar 0) (aCons (eVar 1) (aCons (eVar 2) (aCons (eVar 3) (aCons (eVar 4) (aNil)))))) 5 (fun _ _ z x => sSeq (sSet 6 (eOr (eB (bIsX x (.ref C_NoStroke) false) (aCons (eVar 5) (aCons (eC (.ref C_NoStroke)) (aNil)))) (eOr (eB (bIsX x (.ref C_Decided) false) (aCons (eVar 5) (aCons (eC (.ref C_Decided)) (aNil)))) (eB (bIsX x (.ref C_NotYours) false) (aCons (eVar 5) (aCons (eC (.ref C_NotYours)) (aNil)))))))
  (sSeq (sSet 6 (eOr (eVar 6) (eOr (eB (bIsX x (.ref C_Leaned) false) (aCons (eVar 5) (aCons (eC (.ref C_Leaned)) (aNil)))) (eOr (eB (bIsX x (.ref C_OtherText) false) (aCons (eVar 5) (aCons (eC (.ref C_OtherText)) (aNil)))) (eB (bIsX x (.ref C_Twice) false) (aCons (eVar 5) (aCons (eC (.ref C_Twice)) (aNil))))))))
  (sSeq (sSet 6 (eOr (eVar 6) (eOr (eB (bIsX x (.ref C_NoNote) false) (aCons (eVar 5) (aCons (eC (.ref C_NoNote)) (aNil)))) (eOr (eB (bIsX x (.ref C_TooDeep) false) (aCons (eVar 5) (aCons (eC (.ref C_TooDeep)) (aNil)))) (eB (bIsX x (.ref C_NoPaper) false) (aCons (eVar 5) (aCons (eC (.ref C_NoPaper)) (aNil))))))))
  (sSeq (sIf (tOr3 (tNot3 (tAny (eB (bIsX x (.ref C_OutOfPlace) true) (aCons (eVar 5) (aCons (eC (.ref C_OutOfPlace)) (aNil)))))) (tOr3 (tNot3 (tAny (eB (bIsX x (.ty "ValueError") true) (aCons (eVar 5) (aCons (eC (.ty "ValueError")) (aNil)))))) (tOr3 (tAny (eVar 6)) (tAny (eB (bIsX x (.ref C_NoRow) false) (aCons (eVar 5) (aCons (eC (.ref C_NoRow)) (aNil)))))))) (sRet (eLst (aCons (eC (.str "none")) (aNil)))) (sNil))
  (sRet (eLst (aCons (eXat (eVar 5) x z) (aNil)))))))))
  (sRet (eLst (aNil)))
noncomputable def rd_Plain_rows (C_Plain : Addr) : TS3 := sRet (eB bList (aCons (eFld C_Plain L_Plain 0 (eVar 0)) (aNil)))
noncomputable def rd_Plain___init__ (C_Plain : Addr) : TS3 := sFldN C_Plain [] "worn" (eVar 0) (eCall (sp_undressed C_Plain) [] (aCons (eVar 1) (aNil)))
noncomputable def rd_law (C_Plain : Addr) : TS3 := sSeq (sSet 1 (eB bSum (aCons (eSl slA (eVar 0) (oNo) (oSome (eC (.int 1)))) (aNil))))
  (sSeq (sSet 2 (eMake C_Plain (sp_Plain___init__ C_Plain) [] (aCons (eOp oAdd (eOp oMul (eSl slA (eC (.str "abc\n")) (oNo) (oSome (eOp oAdd (eC (.int 1)) (eOp oMod (eOp oDiv (eVar 1) (eC (.int 41))) (eC (.int 4)))))) (eOp oDiv (eOp oMod (eVar 1) (eC (.int 41))) (eC (.int 4)))) (eOp oMul (eC (.str "z")) (eOp oMod (eOp oMod (eVar 1) (eC (.int 41))) (eC (.int 4))))) (aNil))))
  (sSeq (sFor (iSeq (eSl slA (eVar 0) (oSome (eC (.int 1))) (oSome (eC (.int 31))))) (gN 1) (sSeq (sSet 3 (eB bList (aCons (eMeth C_Plain L_Plain (sp_Plain_rows C_Plain) [] (eVar 2) aNil) (aNil))))
  (sSeq (sSet 4 (eOp oIx (eLst (aCons (eC (.str "put")) (aCons (eC (.str "strike")) (aCons (eC (.str "dress")) (aCons (eC (.str "move")) (aNil)))))) (eOp oMod (eCall (sp__law_drawn C_Plain) [] (aCons (eVar 1) (aCons (eC (.int 9)) (aNil)))) (eC (.int 4)))))
  (sSeq (sSet 5 (eCall (sp__law_number C_Plain) [] (aCons (eVar 1) (aCons (eC (.int 1)) (aCons (eB bLen (aCons (eVar 3) (aNil))) (aNil))))))
  (sSeq (sSet 6 (eCall (sp__law_number C_Plain) [] (aCons (eVar 1) (aCons (eC (.int 3)) (aCons (eB bLen (aCons (eVar 3) (aNil))) (aNil))))))
  (sSeq (sIf (tTru (eOpV oEq (eOp oMod (eCall (sp__law_drawn C_Plain) [] (aCons (eVar 1) (aCons (eC (.int 8)) (aNil)))) (eC (.int 2))) (eC (.int 0)))) (sSet 6 (eOp oAdd (eOp oAdd (eVar 5) (eC (.int 1))) (eOp oMod (eCall (sp__law_drawn C_Plain) [] (aCons (eVar 1) (aCons (eC (.int 4)) (aNil)))) (eC (.int 3))))) (sNil))
  (sSeq (sSet 7 (eCall (sp__law_number C_Plain) [] (aCons (eVar 1) (aCons (eC (.int 5)) (aCons (eB bLen (aCons (eVar 3) (aNil))) (aNil))))))
  (sSeq (sSet 8 (eCall (sp__law_due C_Plain) [] (aCons (eVar 4) (aCons (eVar 5) (aCons (eVar 6) (aCons (eVar 7) (aCons (eB bLen (aCons (eVar 3) (aNil))) (aNil))))))))
  (sSeq (sIf (tTru (eOpV oNe (eCall (sp__law_refused C_Plain) [] (aCons (eVar 2) (aCons (eVar 4) (aCons (eVar 5) (aCons (eVar 6) (aCons (eVar 7) (aNil))))))) (eVar 8))) (sRet (eC (.bl false))) (sNil))
  (sSeq (sIf (tAnd3 (tTru (eOpV oNe (eVar 8) (eLst (aNil)))) (tTru (eOpV oNe (eMeth C_Plain L_Plain (sp_Plain_rows C_Plain) [] (eVar 2) aNil) (eVar 3)))) (sRet (eC (.bl false))) (sNil))
  (sIf (tAnd3 (tTru (eOpV oEq (eVar 8) (eLst (aNil)))) (tAnd3 (tTru (eOpV oNe (eVar 4) (eC (.str "move")))) (tAnd3 (tTru (eOpV oNe (eVar 4) (eC (.str "dress")))) (tTru (eOpV oEq (eB bLen (aCons (eMeth C_Plain L_Plain (sp_Plain_rows C_Plain) [] (eVar 2) aNil) (aNil))) (eB bLen (aCons (eVar 3) (aNil)))))))) (sRet (eC (.bl false))) (sNil))))))))))))
  (sRet (eC (.bl true)))))
local macro_rules | `(tactic| walk_at "st") => `(tactic| simp only [sNil, sSeq, sDrop, sRet, sRetN, sBreak, sCont, sIf, sNever, sSet, sOwn, sRetOwn, sAsg, sFld3, sFldN, eVar, eC, eOp, eOpV, eChain, eAnd, eOr, eNotV, eIf, eNeg, tTru, tAnd3, tOr3, tNot3, tAny, tTrue, truD, eTup, eLst, aNil, aCons, oAdd, oI, oI0, oSub, oMod, oDiv, oPow, oMul, oLt, oLe, oGt, oGe, oEq, oNe, oIx, eSl, oNo, oSome, slA, eB, bLen, bList, bTuple, bSum, bMin, bMax, bIsT, kindOf3, eCall, eMeth, eMake, eFld, eJoin, eAppend, eComp, sFor, iSeq, iR1, iR2, itemsOf, asL, asQ, gN, gTup3, gCons3, gNil3, val, start3,
  List.map_cons, List.map_nil, List.replicate, List.length_cons, List.length_nil, List.cons_append, List.nil_append, List.append_nil, List.getElem?_cons_zero, List.getElem?_cons_succ, List.getElem?_nil, List.set_cons_zero, List.set_cons_succ, List.set_nil, Nat.reduceAdd, Nat.reduceSub, Nat.reduceLeDiff, Nat.zero_add, Option.some.injEq, Option.map_some, decide_eq_true_eq, true_and, and_true, and_self, if_true, if_false, Bool.false_eq_true, reduceCtorEq, List.cons.injEq, GO.ins.injEq, D.lst.injEq, exists_eq_left', exists_eq_left, exists_eq', gset_same, gset_gset, pl, eqb_self])
theorem rok__law_drawn (C : Addr) : ∀ ds G Q, sp__law_drawn C ds G Q → rd__law_drawn C { nx := fun _ G' => Q .non G', rt := Q } (start3 ["_law_cell", "_law_place", "_law_number"] ds) G := by
  intro ds G Q h
  unfold sp__law_drawn at h
  split at h
  · rename_i c p
    obtain ⟨⟨h1, h2⟩, h3⟩ := h
    unfold rd__law_drawn
    walk_at "st"
    have hn0 : 0 ≤ (c + 7919 * p + 1) * 48271 % 2147483647 := Int.emod_nonneg _ (by decide)
    have hn1 : (c + 7919 * p + 1) * 48271 % 2147483647 < 2147483647 := Int.emod_lt_of_pos _ (by decide)
    refine ⟨.inl ⟨by decide, by decide⟩, .inr ⟨by decide, by decide⟩, by decide, ⟨by decide, by decide⟩, .inl ⟨by walk_at "o", by walk_at "o"⟩, by decide, h3⟩
  · exact h.elim
local macro_rules | `(tactic| walk_at "st") => do let ls ← ("sSeq sNil sDrop sRet sRetN sBreak sCont sIf sNever sSet sOwn sRetOwn sAsg sFld3 sFldN eVar eC eOp eOpV eChain eAnd eOr eNotV eIf eNeg tTru tAnd3 tOr3 tNot3 tAny tTrue truD eTup eLst aNil aCons oAdd oI oI0 oSub oMod oDiv oPow oMul oLt oLe oGt oGe oEq oNe oIx eSl oNo oSome slA eB bLen bList bTuple bSum bMin bMax bIsT kindOf3 eCall eMeth eMake eFld eJoin eAppend eComp sFor iSeq iR1 iR2 iRev sFrz itemsOf asL asQ gN gTup3 gCons3 gNil3 val start3 List.map_cons List.map_nil List.replicate List.length_cons List.length_nil List.cons_append List.nil_append List.append_nil List.getElem?_cons_zero List.getElem?_cons_succ List.getElem?_nil List.set_cons_zero List.set_cons_succ List.set_nil Nat.reduceAdd Nat.reduceSub Nat.reduceLeDiff Nat.zero_add Option.some.injEq Option.map_some decide_eq_true_eq true_and and_true and_self if_true if_false Bool.false_eq_true reduceCtorEq List.cons.injEq GO.ins.injEq GO.lst.injEq D.lst.injEq D.fl.injEq exists_eq_left' exists_eq_left exists_eq' gset_same gset_gset pl eqb_self at1_0 at2_0 at2_1 at3_0 at3_1 at3_2 at4_0 at4_1 at4_2 at4_3 at5_0 at5_1 at5_2 at5_3 at5_4 sp_check_gap sp_check_stretch sp_undressed".splitOn " ").toArray.mapM (fun s => `(Lean.Parser.Tactic.simpLemma| $(Lean.mkIdent s.toName):term)); `(tactic| simp only [$ls,*, *])
local macro_rules | `(tactic| walk_at "s1") => do let ls ← ("sNil sDrop sRet sRetN sBreak sCont sIf sNever sSet sOwn sRetOwn sAsg sFld3 sFldN eVar eC eOp eOpV eChain eAnd eOr eNotV eIf eNeg tTru tAnd3 tOr3 tNot3 tAny tTrue truD eTup eLst aNil aCons oAdd oI oI0 oSub oMod oDiv oPow oMul oLt oLe oGt oGe oEq oNe oIx eSl oNo oSome slA eB bLen bList bTuple bSum bMin bMax bIsT kindOf3 eCall eMeth eMake eFld eJoin eAppend eComp sFor iSeq iR1 iR2 iRev sFrz itemsOf asL asQ gN gTup3 gCons3 gNil3 val start3 List.map_cons List.map_nil List.replicate List.length_cons List.length_nil List.cons_append List.nil_append List.append_nil List.getElem?_cons_zero List.getElem?_cons_succ List.getElem?_nil List.set_cons_zero List.set_cons_succ List.set_nil Nat.reduceAdd Nat.reduceSub Nat.reduceLeDiff Nat.zero_add Option.some.injEq Option.map_some decide_eq_true_eq true_and and_true and_self if_true if_false Bool.false_eq_true reduceCtorEq List.cons.injEq GO.ins.injEq GO.lst.injEq D.lst.injEq D.fl.injEq exists_eq_left' exists_eq_left exists_eq' gset_same gset_gset pl eqb_self at1_0 at2_0 at2_1 at3_0 at3_1 at3_2 at4_0 at4_1 at4_2 at4_3 at5_0 at5_1 at5_2 at5_3 at5_4 sp_check_gap sp_check_stretch sp_undressed".splitOn " ").toArray.mapM (fun s => `(Lean.Parser.Tactic.simpLemma| $(Lean.mkIdent s.toName):term)); `(tactic| simp only [$ls,*, *])
local macro_rules | `(tactic| walk_at "s0") => do let ls ← ("sNil sDrop sRet sRetN sBreak sCont sNever sSet sOwn sRetOwn sAsg sFld3 sFldN eVar eC eOp eOpV eChain eAnd eOr eNotV eIf eNeg tTru tAnd3 tOr3 tNot3 tAny tTrue truD eTup eLst aNil aCons oAdd oI oI0 oSub oMod oDiv oPow oMul oLt oLe oGt oGe oEq oNe oIx eSl oNo oSome slA eB bLen bList bTuple bSum bMin bMax bIsT kindOf3 eCall eMeth eMake eFld eJoin eAppend eComp sFor iSeq iR1 iR2 iRev sFrz itemsOf asL asQ gN gTup3 gCons3 gNil3 val start3 List.map_cons List.map_nil List.replicate List.length_cons List.length_nil List.cons_append List.nil_append List.append_nil List.getElem?_cons_zero List.getElem?_cons_succ List.getElem?_nil List.set_cons_zero List.set_cons_succ List.set_nil Nat.reduceAdd Nat.reduceSub Nat.reduceLeDiff Nat.zero_add Option.some.injEq Option.map_some decide_eq_true_eq true_and and_true and_self if_true if_false Bool.false_eq_true reduceCtorEq List.cons.injEq GO.ins.injEq GO.lst.injEq D.lst.injEq D.fl.injEq exists_eq_left' exists_eq_left exists_eq' gset_same gset_gset pl eqb_self at1_0 at2_0 at2_1 at3_0 at3_1 at3_2 at4_0 at4_1 at4_2 at4_3 at5_0 at5_1 at5_2 at5_3 at5_4 sp_check_gap sp_check_stretch sp_undressed".splitOn " ").toArray.mapM (fun s => `(Lean.Parser.Tactic.simpLemma| $(Lean.mkIdent s.toName):term)); `(tactic| simp only [$ls,*, *])
theorem und_length (x : Str) : (und x).length = x.length := by simp [und, L3.signs_length]
theorem rok_check_gap (C : Addr) : ∀ ds G Q, sp_check_gap C ds G Q → rd_check_gap C { nx := fun _ G' => Q .non G', rt := Q } (start3 ["at", "length"] ds) G := by
  intro ds G Q h
  unfold sp_check_gap at h
  split at h
  · obtain ⟨⟨h1, h2⟩, h3⟩ := h
    unfold rd_check_gap
    walk_at "st"
    simp
  · exact h.elim
theorem rok_check_stretch (C : Addr) : ∀ ds G Q, sp_check_stretch C ds G Q → rd_check_stretch C { nx := fun _ G' => Q .non G', rt := Q } (start3 ["at", "to", "length"] ds) G := by
  intro ds G Q h
  unfold sp_check_stretch at h
  split at h
  · obtain ⟨⟨h1, h2, h3, h4⟩, h5⟩ := h
    unfold rd_check_stretch
    walk_at "st"
    simp
  · exact h.elim
theorem rok_undressed (C : Addr) : ∀ ds G Q, sp_undressed C ds G Q → rd_undressed C { nx := fun _ G' => Q .non G', rt := Q } (start3 ["signs"] ds) G := by
  intro ds G Q h
  unfold sp_undressed at h
  split at h
  · rename_i x
    obtain ⟨h1, h2⟩ := h
    unfold rd_undressed
    walk_at "st"
    refine comp_map (fun d => .tup [d, .str ""]) (by rw [L3.signs_length]; exact h1) (fun d hd P hP => ?_) h2
    have : ∃ y, d = .str y := by
      simp only [L3.signs, List.mem_map] at hd
      obtain ⟨c, _, rfl⟩ := hd
      exact ⟨_, rfl⟩
    obtain ⟨y, rfl⟩ := this
    walk_at "st"
    exact ⟨by simp, by simp [sizeLine], hP _ rfl⟩
  · exact h.elim
theorem rok_Plain___init__ (C : Addr) : ∀ ds G Q, sp_Plain___init__ C ds G Q → rd_Plain___init__ C { nx := fun _ G' => Q .non G', rt := Q } (start3 ["self", "text"] ds) G := by
  intro ds G Q h
  unfold sp_Plain___init__ at h
  split at h
  · obtain ⟨h1, h2, h3⟩ := h
    unfold rd_Plain___init__
    walk_at "st"
    exact h3
  · exact h.elim
theorem rok_Plain_rows (C : Addr) : ∀ ds G Q, sp_Plain_rows C ds G Q → rd_Plain_rows C { nx := fun _ G' => Q .non G', rt := Q } (start3 ["self"] ds) G := by
  intro ds G Q h
  unfold sp_Plain_rows at h
  split at h
  · obtain ⟨ds, hG, hq⟩ := h
    unfold rd_Plain_rows
    walk_at "st"
  · exact h.elim
theorem rok_Plain_put (C : Addr) : ∀ ds G Q, sp_Plain_put C ds G Q → rd_Plain_put C { nx := fun _ G' => Q .non G', rt := Q } (start3 ["self", "at", "signs"] ds) G := by
  intro ds G Q h
  unfold sp_Plain_put at h
  split at h
  · rename_i a at_ x
    obtain ⟨ds, hG, ⟨h1, h2, h3⟩, hq⟩ := h
    have hs := sizeLine_ge
    unfold rd_Plain_put
    walk_at "st"
    rw [cutD_to h1, cutD_from h1]
    refine ⟨by walk_at "o", ?_, ?_, hq⟩
    · simp only [List.length_take, und_length]; omega
    · simp only [List.length_append, List.length_take, List.length_drop, und_length]; omega
  · exact h.elim
theorem rok_Plain_strike (C : Addr) : ∀ ds G Q, sp_Plain_strike C ds G Q → rd_Plain_strike C { nx := fun _ G' => Q .non G', rt := Q } (start3 ["self", "at", "to"] ds) G := by
  intro ds G Q h
  unfold sp_Plain_strike at h
  split at h
  · rename_i a at_ to_
    obtain ⟨ds, hG, ⟨h1, h2, h3, h4, h5⟩, hq⟩ := h
    have hs := sizeLine_ge
    unfold rd_Plain_strike
    walk_at "st"
    rw [cutD_to h1, cutD_from (by walk_at "o")]
    refine ⟨?_, hq⟩
    simp only [List.length_take, List.length_drop]; omega
  · exact h.elim
theorem rok_Plain_dress (C : Addr) : ∀ ds G Q, sp_Plain_dress C ds G Q → rd_Plain_dress C { nx := fun _ G' => Q .non G', rt := Q } (start3 ["self", "at", "to", "word", "dressed"] ds) G := by
  intro ds G Q h
  unfold sp_Plain_dress at h
  split at h
  · rename_i a at_ to_ w
    obtain ⟨ds, hG, ⟨h1, h2, h3, h4, h5, h6⟩, hq⟩ := h
    have hs := sizeLine_ge
    unfold rd_Plain_dress
    rw [sSeq_def]
    walk_at "s1"
    rw [sSeq_def]
    walk_at "s1"
    rw [cutD_mid h1 (by walk_at "o")]
    refine comp_map (rew w) (Nat.le_trans (Nat.le_trans (List.length_take_le' _ _) (by rw [List.length_drop]; exact Nat.le_trans (Nat.sub_le _ _) h5)) (Nat.le_trans (by decide) hs)) (fun d hd P hP => ?_) ?_
    · have hr := h6 d (List.mem_of_mem_drop (List.mem_of_mem_take hd))
      unfold isRow at hr
      split at hr
      · walk_at "st"
        exact ⟨by simp, by simp [sizeLine], hP _ rfl⟩
      · exact hr.elim
    · walk_at "st"
      rw [cutD_to h1, cutD_from (by walk_at "o")]
      have q1 : ∀ n, (ds.take n).length ≤ 10000 := fun n => Nat.le_trans (List.length_take_le' n ds) h5
      have q3 : ∀ m, (ds.drop m).length ≤ 10000 := fun m => by rw [List.length_drop]; exact Nat.le_trans (Nat.sub_le _ _) h5
      have q2 : ∀ m n, ((ds.drop m).take n).length ≤ 10000 := fun m n => Nat.le_trans (List.length_take_le' n _) (q3 m)
      have big : ∀ n, n ≤ 50000 → n ≤ sizeLine := fun n h => Nat.le_trans h (Nat.le_trans (by decide) hs)
      refine ⟨?_, ?_, ?_⟩
      · rw [List.length_map]
        exact big _ (Nat.le_trans (Nat.add_le_add (q1 _) (q2 _ _)) (by decide))
      · rw [List.length_append, List.length_map]
        exact big _ (Nat.le_trans (Nat.add_le_add (Nat.add_le_add (q1 _) (q2 _ _)) (q3 _)) (by decide))
      · exact hq
  · exact h.elim
theorem rok_Plain_move (C : Addr) : ∀ ds G Q, sp_Plain_move C ds G Q → rd_Plain_move C { nx := fun _ G' => Q .non G', rt := Q } (start3 ["self", "at", "to", "goal", "ahead", "behind"] ds) G := by
  intro ds G Q h
  unfold sp_Plain_move at h
  split at h
  · rename_i a at_ to_ goal
    obtain ⟨ds, hG, ⟨h1, h2, h3, h4, h5, h6, h7⟩, hq⟩ := h
    unfold rd_Plain_move
    walk_at "st"
    have e1 : cutD ds none (some (if goal < at_ then goal else at_)) = ds.take (min at_.toNat goal.toNat) := by
      rw [cutD_to (by split <;> omega)]; congr 1; split <;> omega
    have e2 : cutD ds (some (if goal > to_ then goal else to_)) none = ds.drop (max to_.toNat goal.toNat) := by
      rw [cutD_from (by split <;> omega)]; congr 1; split <;> omega
    rw [e1, e2, cutD_mid (by walk_at "o") h5, cutD_mid h5 h1, cutD_mid h1 (by walk_at "o")]
    have hs := sizeLine_ge
    have q1 : ∀ n, (ds.take n).length ≤ 10000 := fun n => Nat.le_trans (List.length_take_le' n ds) h7
    have q3 : ∀ m, (ds.drop m).length ≤ 10000 := fun m => by rw [List.length_drop]; exact Nat.le_trans (Nat.sub_le _ _) h7
    have q2 : ∀ m n, ((ds.drop m).take n).length ≤ 10000 := fun m n => Nat.le_trans (List.length_take_le' n _) (q3 m)
    have big : ∀ n, n ≤ 50000 → n ≤ sizeLine := fun n h => Nat.le_trans h (Nat.le_trans (by decide) hs)
    clear h1 h2 h3 h4 h5 h6 h7 e1 e2
    refine ⟨?_, ?_, ?_, ?_, ?_⟩
    · exact big _ (Nat.le_trans (Nat.add_le_add (q1 _) (q2 _ _)) (by decide))
    · exact big _ (Nat.le_trans (Nat.add_le_add (q2 _ _) (q3 _)) (by decide))
    · rw [List.length_append]
      exact big _ (Nat.le_trans (Nat.add_le_add (Nat.add_le_add (q1 _) (q2 _ _)) (q2 _ _)) (by decide))
    · rw [List.length_append, List.length_append, List.length_append]
      exact big _ (Nat.le_trans (Nat.add_le_add (Nat.add_le_add (Nat.add_le_add (q1 _) (q2 _ _)) (q2 _ _)) (Nat.add_le_add (q2 _ _) (q3 _))) (by decide))
    · exact hq
  · exact h.elim
theorem row_pl {d : D} (h : isRow d) (n : Nat) : pl (n + 1) d := by
  unfold isRow at h
  split at h
  · intro e he
    simp only [List.mem_cons, List.not_mem_nil, or_false] at he
    rcases he with rfl | rfl
    · cases n <;> trivial
    · cases n <;> trivial
  · exact h.elim
theorem und_row {x : Str} {d : D} (h : d ∈ und x) : isRow d := by
  simp only [und, L3.signs, List.mem_map] at h
  obtain ⟨_, ⟨c, _, rfl⟩, rfl⟩ := h
  exact trivial
theorem rew_row {w : Str} {d : D} (h : isRow d) : isRow (rew w d) := by
  unfold isRow at h
  split at h
  · exact trivial
  · exact h.elim
theorem dressed_row {ds : List D} {a b : Nat} {w : Str} (h : ∀ d ∈ ds, isRow d) : ∀ d ∈ dressed ds a b w, isRow d := by
  intro d hd
  unfold dressed at hd
  simp only [List.mem_append, List.mem_map] at hd
  rcases hd with (hd | ⟨e, he, rfl⟩) | hd
  · exact h d (List.mem_of_mem_take hd)
  · exact rew_row (h e (List.mem_of_mem_drop (List.mem_of_mem_take he)))
  · exact h d (List.mem_of_mem_drop hd)
theorem dressed_length {ds : List D} {a b : Nat} {w : Str} (h : a ≤ b) (h2 : b ≤ ds.length) : (dressed ds a b w).length = ds.length := by
  unfold dressed
  simp only [List.length_append, List.length_map, List.length_take, List.length_drop]
  omega
theorem cut_int {ns : List Int} {lo hi : Int} {i : Nat} {d : D} (h1 : 0 ≤ lo) (h2 : 0 ≤ hi) (h : (L3.cutD (ns.map D.int) (some lo) (some hi))[i]? = some d) : ∃ m : Int, d = .int m := by
  have := List.mem_of_getElem? h
  rw [cutD_mid h1 h2] at this
  obtain ⟨m, _, rfl⟩ := List.mem_map.mp (List.mem_of_mem_drop (List.mem_of_mem_take this))
  exact ⟨m, rfl⟩
local macro_rules | `(tactic| walk_at "st") => do let ls ← ("sSeq sNil sDrop sRet sRetN sBreak sCont sIf sNever sSet sOwn sRetOwn sAsg sFld3 sFldN eVar eC eOp eOpV eChain eAnd eOr eNotV eIf eNeg tTru tAnd3 tOr3 tNot3 tAny tTrue truD eTup eLst aNil aCons oAdd oI oI0 oSub oMod oDiv oPow oMul oLt oLe oGt oGe oEq oNe oIx eSl oNo oSome slA eB bLen bList bTuple bSum bMin bMax bIsT kindOf3 eCall eMeth eMake eFld eJoin eAppend eComp sFor iSeq iR1 iR2 iRev sFrz itemsOf asL asQ gN gTup3 gCons3 gNil3 val start3 List.map_cons List.map_nil List.replicate List.length_cons List.length_nil List.cons_append List.nil_append List.append_nil List.getElem?_cons_zero List.getElem?_cons_succ List.getElem?_nil List.set_cons_zero List.set_cons_succ List.set_nil Nat.reduceAdd Nat.reduceSub Nat.reduceLeDiff Nat.zero_add Option.some.injEq Option.map_some decide_eq_true_eq true_and and_true and_self if_true if_false Bool.false_eq_true reduceCtorEq List.cons.injEq GO.ins.injEq GO.lst.injEq D.lst.injEq D.fl.injEq exists_eq_left' exists_eq_left exists_eq' gset_same gset_gset pl eqb_self at1_0 at2_0 at2_1 at3_0 at3_1 at3_2 at4_0 at4_1 at4_2 at4_3 at5_0 at5_1 at5_2 at5_3 at5_4 bIsX eXat sp_check_gap sp_check_stretch sp_undressed sp__law_drawn sp_Plain___init__ sp_Plain_rows sp_Plain_put sp_Plain_strike sp_Plain_dress sp_Plain_move sp__law_number sp__law_due sp__law_does sp__law_refused".splitOn " ").toArray.mapM (fun s => `(Lean.Parser.Tactic.simpLemma| $(Lean.mkIdent s.toName):term)); `(tactic| simp only [$ls,*, *])
local macro_rules | `(tactic| walk_at "s1") => do let ls ← ("sNil sDrop sRet sRetN sBreak sCont sIf sNever sSet sOwn sRetOwn sAsg sFld3 sFldN eVar eC eOp eOpV eChain eAnd eOr eNotV eIf eNeg tTru tAnd3 tOr3 tNot3 tAny tTrue truD eTup eLst aNil aCons oAdd oI oI0 oSub oMod oDiv oPow oMul oLt oLe oGt oGe oEq oNe oIx eSl oNo oSome slA eB bLen bList bTuple bSum bMin bMax bIsT kindOf3 eCall eMeth eMake eFld eJoin eAppend eComp sFor iSeq iR1 iR2 iRev sFrz itemsOf asL asQ gN gTup3 gCons3 gNil3 val start3 List.map_cons List.map_nil List.replicate List.length_cons List.length_nil List.cons_append List.nil_append List.append_nil List.getElem?_cons_zero List.getElem?_cons_succ List.getElem?_nil List.set_cons_zero List.set_cons_succ List.set_nil Nat.reduceAdd Nat.reduceSub Nat.reduceLeDiff Nat.zero_add Option.some.injEq Option.map_some decide_eq_true_eq true_and and_true and_self if_true if_false Bool.false_eq_true reduceCtorEq List.cons.injEq GO.ins.injEq GO.lst.injEq D.lst.injEq D.fl.injEq exists_eq_left' exists_eq_left exists_eq' gset_same gset_gset pl eqb_self at1_0 at2_0 at2_1 at3_0 at3_1 at3_2 at4_0 at4_1 at4_2 at4_3 at5_0 at5_1 at5_2 at5_3 at5_4 bIsX eXat sp_check_gap sp_check_stretch sp_undressed sp__law_drawn sp_Plain___init__ sp_Plain_rows sp_Plain_put sp_Plain_strike sp_Plain_dress sp_Plain_move sp__law_number sp__law_due sp__law_does sp__law_refused".splitOn " ").toArray.mapM (fun s => `(Lean.Parser.Tactic.simpLemma| $(Lean.mkIdent s.toName):term)); `(tactic| simp only [$ls,*, *])
local macro_rules | `(tactic| walk_at "s0") => do let ls ← ("sNil sDrop sRet sRetN sBreak sCont sNever sSet sOwn sRetOwn sAsg sFld3 sFldN eVar eC eOp eOpV eChain eAnd eOr eNotV eIf eNeg tTru tAnd3 tOr3 tNot3 tAny tTrue truD eTup eLst aNil aCons oAdd oI oI0 oSub oMod oDiv oPow oMul oLt oLe oGt oGe oEq oNe oIx eSl oNo oSome slA eB bLen bList bTuple bSum bMin bMax bIsT kindOf3 eCall eMeth eMake eFld eJoin eAppend eComp sFor iSeq iR1 iR2 iRev sFrz itemsOf asL asQ gN gTup3 gCons3 gNil3 val start3 List.map_cons List.map_nil List.replicate List.length_cons List.length_nil List.cons_append List.nil_append List.append_nil List.getElem?_cons_zero List.getElem?_cons_succ List.getElem?_nil List.set_cons_zero List.set_cons_succ List.set_nil Nat.reduceAdd Nat.reduceSub Nat.reduceLeDiff Nat.zero_add Option.some.injEq Option.map_some decide_eq_true_eq true_and and_true and_self if_true if_false Bool.false_eq_true reduceCtorEq List.cons.injEq GO.ins.injEq GO.lst.injEq D.lst.injEq D.fl.injEq exists_eq_left' exists_eq_left exists_eq' gset_same gset_gset pl eqb_self at1_0 at2_0 at2_1 at3_0 at3_1 at3_2 at4_0 at4_1 at4_2 at4_3 at5_0 at5_1 at5_2 at5_3 at5_4 bIsX eXat sp_check_gap sp_check_stretch sp_undressed sp__law_drawn sp_Plain___init__ sp_Plain_rows sp_Plain_put sp_Plain_strike sp_Plain_dress sp_Plain_move sp__law_number sp__law_due sp__law_does sp__law_refused".splitOn " ").toArray.mapM (fun s => `(Lean.Parser.Tactic.simpLemma| $(Lean.mkIdent s.toName):term)); `(tactic| simp only [$ls,*, *])
local macro_rules | `(tactic| walk_at "conds") => `(tactic| (repeat ((with_reducible refine And.intro ?cc ?_); (case cc => first | decide | omega | rfl | exact ⟨by decide, by decide⟩ | exact ⟨by walk_at "o", by walk_at "o"⟩))))
theorem ite2 {b : Bool} {p q : Prop} (h1 : b = true → p) (h2 : b = false → q) : if b = true then p else q := by
  cases b
  · rw [if_neg (by decide)]; exact h2 rfl
  · rw [if_pos rfl]; exact h1 rfl
theorem iteF {p q : Prop} (h : q) : if (false : Bool) = true then p else q := by rw [if_neg (by decide)]; exact h
theorem iteT {p q : Prop} (h : p) : if (true : Bool) = true then p else q := by rw [if_pos rfl]; exact h
theorem tand_by {t u : TT3} {σ : St3} {G : Gp} (b1 b2 : Bool) (h1 : ∀ K : Bool → Gp → Prop, K b1 G → t σ G K) (h2 : b1 = true → ∀ K : Bool → Gp → Prop, K b2 G → u σ G K) : ∀ K : Bool → Gp → Prop, K (b1 && b2) G → tAnd3 t u σ G K := fun K hK => by
  unfold tAnd3
  refine h1 _ ?_
  cases b1 with
  | true => rw [if_pos rfl]; exact h2 rfl K hK
  | false => rw [if_neg (by decide)]; exact hK
theorem moved_len {ds : List D} {a t g : Nat} (h1 : a ≤ t) (h2 : t ≤ ds.length) (h3 : g ≤ ds.length) : (moved ds a t g).length = ds.length := by
  have T : ∀ x, x ≤ ds.length → (ds.take x).length = x := fun x h => List.length_take_of_le h
  have M : ∀ m b, m ≤ b → b ≤ ds.length → ((ds.drop m).take (b - m)).length + m = b := fun m b h h' => by
    rw [List.length_take_of_le (by rw [List.length_drop]; exact Nat.sub_le_sub_right h' m)]; exact Nat.sub_add_cancel h
  have L : ∀ m, m ≤ ds.length → (ds.drop m).length + m = ds.length := fun m h => by rw [List.length_drop]; exact Nat.sub_add_cancel h
  unfold moved
  rw [List.length_append, List.length_append, List.length_append, List.length_append]
  by_cases c1 : g ≤ a
  · rw [Nat.min_eq_right c1, Nat.max_eq_left (Nat.le_trans c1 h1), Nat.sub_eq_zero_of_le (Nat.le_trans c1 h1), List.take_zero, List.length_nil]
    have y1 := T g h3
    have y2 := M a t h1 h2
    have y3 := M g a c1 (Nat.le_trans h1 h2)
    have y4 := L t h2
    clear T M L h1 h2 h3 c1
    omega
  · have c1' := Nat.le_of_not_le c1
    by_cases c2 : g ≤ t
    · rw [Nat.min_eq_left c1', Nat.max_eq_left c2, Nat.sub_eq_zero_of_le c2, Nat.sub_eq_zero_of_le c1', List.take_zero, List.take_zero, List.length_nil]
      have y1 := T a (Nat.le_trans h1 h2)
      have y2 := M a t h1 h2
      have y4 := L t h2
      clear T M L h1 h2 h3 c1 c1' c2
      omega
    · have c2' := Nat.le_of_not_le c2
      rw [Nat.min_eq_left c1', Nat.max_eq_right c2', Nat.sub_eq_zero_of_le c1', List.take_zero, List.length_nil]
      have y1 := T a (Nat.le_trans h1 h2)
      have y2 := M t g c2' h3
      have y3 := M a t h1 h2
      have y4 := L g h3
      clear T M L h1 h2 h3 c1 c1' c2 c2'
      omega
theorem nd_no {p : Prop} [Decidable p] (e : (!decide p) = true) : ¬ p := fun z => by rw [decide_eq_true z] at e; cases e
theorem nd_yes {p : Prop} [Decidable p] (e : (!decide p) = false) : p := Decidable.byContradiction fun z => by rw [decide_eq_false z] at e; cases e
theorem dueS_one (a t n : Int) : dueS a t n = [] ∨ ∃ v, dueS a t n = [v] := by
  unfold dueS
  split
  · split
    · exact .inl rfl
    · exact .inr ⟨_, rfl⟩
  · exact .inr ⟨_, rfl⟩
theorem due_one (k : Wd) (a t g n : Int) : due k a t g n = [] ∨ ∃ v, due k a t g n = [v] := by
  cases k with
  | put => unfold due; dsimp only; split; exact .inl rfl; exact .inr ⟨_, rfl⟩
  | strike => exact dueS_one a t n
  | dress => exact dueS_one a t n
  | move =>
    unfold due
    dsimp only
    split
    · split
      · exact .inl rfl
      · exact .inr ⟨_, rfl⟩
    · exact dueS_one a t n
theorem eqs_no {a b : String} (h : (Str.ofString a == Str.ofString b) = false) : eqb (.str (Str.ofString a)) (.str (Str.ofString b)) = false := eqb_no fun z => by
  injection z with z
  rw [z, beq_self_eq_true] at h
  cases h
theorem w_sp : eqb (.str Wd.strike.s) (.str (Str.ofString "put")) = false := eqs_no (by decide +kernel)
theorem w_dp : eqb (.str Wd.dress.s) (.str (Str.ofString "put")) = false := eqs_no (by decide +kernel)
theorem w_mp : eqb (.str Wd.move.s) (.str (Str.ofString "put")) = false := eqs_no (by decide +kernel)
theorem w_ds : eqb (.str Wd.dress.s) (.str (Str.ofString "strike")) = false := eqs_no (by decide +kernel)
theorem w_ms : eqb (.str Wd.move.s) (.str (Str.ofString "strike")) = false := eqs_no (by decide +kernel)
theorem w_md : eqb (.str Wd.move.s) (.str (Str.ofString "dress")) = false := eqs_no (by decide +kernel)
theorem w_pp : eqb (.str Wd.put.s) (.str (Str.ofString "put")) = true := eqb_self _
theorem w_ss : eqb (.str Wd.strike.s) (.str (Str.ofString "strike")) = true := eqb_self _
theorem w_dd : eqb (.str Wd.dress.s) (.str (Str.ofString "dress")) = true := eqb_self _
theorem w_mm : eqb (.str Wd.move.s) (.str (Str.ofString "move")) = true := eqb_self _
theorem w_sm : eqb (.str Wd.strike.s) (.str (Str.ofString "move")) = false := eqs_no (by decide +kernel)
theorem w_dm : eqb (.str Wd.dress.s) (.str (Str.ofString "move")) = false := eqs_no (by decide +kernel)
theorem w_pm : eqb (.str Wd.put.s) (.str (Str.ofString "move")) = false := eqs_no (by decide +kernel)
theorem w_pd : eqb (.str Wd.put.s) (.str (Str.ofString "dress")) = false := eqs_no (by decide +kernel)
theorem w_sd : eqb (.str Wd.strike.s) (.str (Str.ofString "dress")) = false := eqs_no (by decide +kernel)
theorem rokx_check_gap (C C2 : Addr) : ∀ EQ ds G Q, spx_check_gap C C2 ds G Q EQ → rx_check_gap C C2 EQ { nx := fun _ G' => Q .non G', rt := Q } (start3 ["at", "length"] ds) G := by
  intro EQ ds G Q h
  unfold spx_check_gap at h
  split at h
  · rename_i a n
    obtain ⟨h1, h2⟩ := h
    unfold rx_check_gap
    refine sIf_by (!decide (0 ≤ a ∧ a ≤ n)) (fun K hK => ?_) (ite2 (fun e => ?_) fun e => ?_)
    · clear h1 h2
      walk_at "st"
      by_cases ha : 0 ≤ a
      · simp only [ha, true_and] at hK
        simp only [ha, if_true]
        exact hK
      · simp only [ha, false_and, decide_false, Bool.not_false] at hK
        simp only [ha, if_false, Bool.not_false]
        first | done | exact hK
    · have q := h2 (nd_no e)
      clear h1 h2 e
      unfold sRaise
      walk_at "st"
      first | done | exact q
    · simp only [sNil]
      exact h1 (nd_yes e)
  · exact h.elim
theorem rokx_check_stretch (C C2 : Addr) : ∀ EQ ds G Q, spx_check_stretch C C2 ds G Q EQ → rx_check_stretch C C2 EQ { nx := fun _ G' => Q .non G', rt := Q } (start3 ["at", "to", "length"] ds) G := by
  intro EQ ds G Q h
  unfold spx_check_stretch at h
  split at h
  · rename_i a t n
    obtain ⟨h1, h2⟩ := h
    unfold rx_check_stretch
    rw [sSeq_def]
    refine sIf_by (!decide (0 ≤ a ∧ a < n)) (fun K hK => ?_) (ite2 (fun e => ?_) fun e => ?_)
    · clear h1 h2
      walk_at "st"
      by_cases ha : 0 ≤ a
      · simp only [ha, true_and] at hK
        simp only [ha, if_true]
        exact hK
      · simp only [ha, false_and, decide_false, Bool.not_false] at hK
        simp only [ha, if_false, Bool.not_false]
        first | done | exact hK
    · have e' : ¬ (0 ≤ a ∧ a < n) := nd_no e
      have q := h2 a (by unfold dueS; rw [if_neg e'])
      clear h1 h2 e e'
      unfold sRaise
      walk_at "st"
      first | done | exact q
    · have e' : 0 ≤ a ∧ a < n := nd_yes e
      simp only [sNil]
      refine sIf_by (!decide (a < t ∧ t ≤ n)) (fun K hK => ?_) (ite2 (fun f => ?_) fun f => ?_)
      · clear h1 h2 e e'
        walk_at "st"
        by_cases ha : a < t
        · simp only [ha, true_and] at hK
          simp only [ha, if_true]
          exact hK
        · simp only [ha, false_and, decide_false, Bool.not_false] at hK
          simp only [ha, if_false, Bool.not_false]
          first | done | exact hK
      · have f' : ¬ (a < t ∧ t ≤ n) := nd_no f
        have q := h2 t (by unfold dueS; rw [if_pos e', if_neg f'])
        clear h1 h2 e e' f f'
        unfold sRaise
        walk_at "st"
        first | done | exact q
      · have f' : a < t ∧ t ≤ n := nd_yes f
        exact h1 (by unfold dueS; rw [if_pos e', if_pos f'])
  · exact h.elim
theorem rokx_Plain_put (C C2 : Addr) : ∀ EQ ds G Q, spx_Plain_put C C2 ds G Q EQ → rx_Plain_put C C2 EQ { nx := fun _ G' => Q .non G', rt := Q } (start3 ["self", "at", "signs"] ds) G := by
  intro EQ ds G Q h
  unfold spx_Plain_put at h
  split at h
  · obtain ⟨es, hG, h1, h2⟩ := h
    unfold rx_Plain_put sCallX spx_check_gap
    walk_at "st"
    exact ⟨fun z => z, fun _ => trivial⟩
  · exact h.elim
theorem rokx_Plain_strike (C C2 : Addr) : ∀ EQ ds G Q, spx_Plain_strike C C2 ds G Q EQ → rx_Plain_strike C C2 EQ { nx := fun _ G' => Q .non G', rt := Q } (start3 ["self", "at", "to"] ds) G := by
  intro EQ ds G Q h
  unfold spx_Plain_strike at h
  split at h
  · obtain ⟨es, v, hG, h1, h2⟩ := h
    unfold rx_Plain_strike sCallX spx_check_stretch
    walk_at "st"
    exact ⟨fun z => z, fun _ e => e ▸ h2⟩
  · exact h.elim
theorem rokx_Plain_dress (C C2 : Addr) : ∀ EQ ds G Q, spx_Plain_dress C C2 ds G Q EQ → rx_Plain_dress C C2 EQ { nx := fun _ G' => Q .non G', rt := Q } (start3 ["self", "at", "to", "word", "dressed"] ds) G := by
  intro EQ ds G Q h
  unfold spx_Plain_dress at h
  split at h
  · obtain ⟨es, v, hG, h1, h2⟩ := h
    unfold rx_Plain_dress sCallX spx_check_stretch
    walk_at "st"
    exact ⟨fun z => z, fun _ e => e ▸ h2⟩
  · exact h.elim
theorem rokx_Plain_move (C C2 : Addr) : ∀ EQ ds G Q, spx_Plain_move C C2 ds G Q EQ → rx_Plain_move C C2 EQ { nx := fun _ G' => Q .non G', rt := Q } (start3 ["self", "at", "to", "goal", "ahead", "behind"] ds) G := by
  intro EQ ds G Q h
  unfold spx_Plain_move at h
  split at h
  · rename_i p a t g
    obtain ⟨es, v, hG, h1, h2⟩ := h
    unfold due at h1
    unfold rx_Plain_move sCallX spx_check_stretch spx_check_gap
    rcases dueS_one a t es.length with e | ⟨u, e⟩
    · rw [e] at h1
      dsimp only at h1
      rw [if_pos rfl] at h1
      by_cases hg : 0 ≤ g ∧ g ≤ (es.length : Int)
      · rw [if_pos hg] at h1; cases h1
      · rw [if_neg hg] at h1
        cases h1
        walk_at "st"
        exact ⟨fun _ => ⟨fun z => z, fun _ => trivial⟩, fun _ z => z.elim⟩
    · rw [e] at h1
      dsimp only at h1
      rw [if_neg (by simp)] at h1
      cases h1
      walk_at "st"
      exact ⟨fun z => z.elim, fun _ e => e ▸ h2⟩
  · exact h.elim
theorem rokx__law_does (C C2 : Addr) : ∀ EQ ds G Q, spx__law_does C C2 ds G Q EQ → rx__law_does C C2 EQ { nx := fun _ G' => Q .non G', rt := Q } (start3 ["_law_plain", "_law_word", "_law_at", "_law_to", "_law_goal"] ds) G := by
  intro EQ ds G Q h
  unfold spx__law_does at h
  split at h
  · rename_i p w a t g
    obtain ⟨k, es, v, ⟨rfl, hG, h1⟩, h2⟩ := h
    unfold rx__law_does
    cases k with
    | put =>
      refine sIf_by true (fun K hK => by walk_at "st"; rw [w_pp]; exact hK) (iteT ?_)
      unfold sMethX spx_Plain_put
      unfold due at h1
      dsimp only at h1
      by_cases hg : 0 ≤ a ∧ a ≤ (es.length : Int)
      · rw [if_pos hg] at h1; cases h1
      · rw [if_neg hg] at h1
        cases h1
        walk_at "st"
        exact fun z => z
    | strike =>
      refine sIf_by false (fun K hK => by walk_at "st"; rw [w_sp]; exact hK) (iteF ?_)
      refine sIf_by true (fun K hK => by walk_at "st"; rw [w_ss]; exact hK) (iteT ?_)
      unfold sMethX spx_Plain_strike
      have h1 : dueS a t es.length = [v] := h1
      walk_at "st"
      exact ⟨es, v, rfl, h1, h2⟩
    | dress =>
      refine sIf_by false (fun K hK => by walk_at "st"; rw [w_dp]; exact hK) (iteF ?_)
      refine sIf_by false (fun K hK => by walk_at "st"; rw [w_ds]; exact hK) (iteF ?_)
      refine sIf_by true (fun K hK => by walk_at "st"; rw [w_dd]; exact hK) (iteT ?_)
      unfold sMethX spx_Plain_dress
      have h1 : dueS a t es.length = [v] := h1
      walk_at "st"
      exact ⟨es, v, rfl, h1, h2⟩
    | move =>
      refine sIf_by false (fun K hK => by walk_at "st"; rw [w_mp]; exact hK) (iteF ?_)
      refine sIf_by false (fun K hK => by walk_at "st"; rw [w_ms]; exact hK) (iteF ?_)
      refine sIf_by false (fun K hK => by walk_at "st"; rw [w_md]; exact hK) (iteF ?_)
      unfold sMethX spx_Plain_move
      walk_at "st"
      exact ⟨es, v, rfl, h1, h2⟩
  · exact h.elim
theorem rok__law_does (C : Addr) : ∀ ds G Q, sp__law_does C ds G Q → rd__law_does C { nx := fun _ G' => Q .non G', rt := Q } (start3 ["_law_plain", "_law_word", "_law_at", "_law_to", "_law_goal"] ds) G := by
  intro ds G Q h
  unfold sp__law_does at h
  split at h
  · rename_i p w a t g
    obtain ⟨k, es, ⟨rfl, hG, h1, hl, hr⟩, h⟩ := h
    have hs := sizeLine_ge
    have d0 : dueS a t es.length = [] → 0 ≤ a ∧ a < es.length ∧ a < t ∧ t ≤ es.length := fun z => by
      unfold dueS at z
      split at z
      · split at z
        · omega
        · cases z
      · cases z
    unfold rd__law_does
    cases k with
    | put =>
      refine sIf_by true (fun K hK => by walk_at "st"; rw [w_pp]; exact hK) (iteT ?_)
      unfold due at h1
      dsimp only at h1
      by_cases hg : 0 ≤ a ∧ a ≤ (es.length : Int)
      · have x2 : (Str.ofString "x\n").length = 2 := by decide +kernel
        have f := h (es.take a.toNat ++ und (Str.ofString "x\n") ++ es.drop a.toNat) ⟨by simp only [List.length_append, List.length_take, List.length_drop, und_length, x2]; omega, fun d hd => by
          simp only [List.mem_append] at hd
          rcases hd with (hd | hd) | hd
          · exact hr d (List.mem_of_mem_take hd)
          · exact und_row hd
          · exact hr d (List.mem_of_mem_drop hd), fun _ => by simp only [List.length_append, List.length_take, List.length_drop, und_length, x2]; omega⟩
        clear h h1
        obtain ⟨g1, g2⟩ := hg
        walk_at "st"
        omega
      · rw [if_neg hg] at h1; cases h1
    | strike =>
      obtain ⟨a1, a2, a3, a4⟩ := d0 h1
      refine sIf_by false (fun K hK => by walk_at "st"; rw [w_sp]; exact hK) (iteF ?_)
      refine sIf_by true (fun K hK => by walk_at "st"; rw [w_ss]; exact hK) (iteT ?_)
      have f := h (es.take a.toNat ++ es.drop t.toNat) ⟨by simp only [List.length_append, List.length_take, List.length_drop]; omega, fun d hd => by
          simp only [List.mem_append] at hd
          rcases hd with hd | hd
          · exact hr d (List.mem_of_mem_take hd)
          · exact hr d (List.mem_of_mem_drop hd), fun _ => by simp only [List.length_append, List.length_take, List.length_drop]; omega⟩
      clear h h1 d0
      walk_at "st"
      omega
    | dress =>
      obtain ⟨a1, a2, a3, a4⟩ := d0 h1
      refine sIf_by false (fun K hK => by walk_at "st"; rw [w_dp]; exact hK) (iteF ?_)
      refine sIf_by false (fun K hK => by walk_at "st"; rw [w_ds]; exact hK) (iteF ?_)
      refine sIf_by true (fun K hK => by walk_at "st"; rw [w_dd]; exact hK) (iteT ?_)
      have f := h (dressed es a.toNat t.toNat (Str.ofString "red")) ⟨by rw [dressed_length (by walk_at "o") (by walk_at "o")]; omega, dressed_row hr, fun z => by rcases z with z | z <;> cases z⟩
      clear h h1 d0
      walk_at "st"
      exact ⟨by walk_at "o", hr⟩
    | move =>
      unfold due at h1
      dsimp only at h1
      by_cases e : dueS a t es.length = []
      · rw [if_pos e] at h1
        obtain ⟨a1, a2, a3, a4⟩ := d0 e
        by_cases hg : 0 ≤ g ∧ g ≤ (es.length : Int)
        · refine sIf_by false (fun K hK => by walk_at "st"; rw [w_mp]; exact hK) (iteF ?_)
          refine sIf_by false (fun K hK => by walk_at "st"; rw [w_ms]; exact hK) (iteF ?_)
          refine sIf_by false (fun K hK => by walk_at "st"; rw [w_md]; exact hK) (iteF ?_)
          have f := h (moved es a.toNat t.toNat g.toNat) ⟨by rw [moved_len (by walk_at "o") (by walk_at "o") (by walk_at "o")]; exact Nat.le_add_right _ _, fun d hd => by
            unfold moved at hd
            simp only [List.mem_append] at hd
            rcases hd with ((hd | hd) | hd) | (hd | hd)
            · exact hr d (List.mem_of_mem_take hd)
            · exact hr d (List.mem_of_mem_drop (List.mem_of_mem_take hd))
            · exact hr d (List.mem_of_mem_drop (List.mem_of_mem_take hd))
            · exact hr d (List.mem_of_mem_drop (List.mem_of_mem_take hd))
            · exact hr d (List.mem_of_mem_drop hd), fun z => by rcases z with z | z <;> cases z⟩
          obtain ⟨g1, g2⟩ := hg
          clear h h1 d0 e
          walk_at "st"
          omega
        · rw [if_neg hg] at h1; cases h1
      · rw [if_neg e] at h1; exact absurd h1 e
  · exact h.elim
theorem rok__law_number (C : Addr) : ∀ ds G Q, sp__law_number C ds G Q → rd__law_number C { nx := fun _ G' => Q .non G', rt := Q } (start3 ["_law_cell", "_law_place", "_law_many", "_law_way", "_law_number_here"] ds) G := by
  intro ds G Q h
  unfold sp__law_number at h
  split at h
  · rename_i c p n
    obtain ⟨⟨h1, h2, h3⟩, h⟩ := h
    unfold rd__law_number
    rw [sSeq_def]
    walk_at "s1"
    walk_at "conds"
    generalize drawn c p % 8 = y
    rw [sSeq_def]
    walk_at "s1"
    walk_at "conds"
    generalize drawn c (p + 1) = m
    rw [sSeq_def]
    refine sIf_by (eqb (.int y) (.int 0)) (fun K hK => by walk_at "st" <;> exact hK) (ite2 (fun _ => ?_) fun _ => ?_)
    · walk_at "s1"
      exact ⟨by unfold CPow; decide, by unfold CMul; decide, by decide, by unfold CPow; decide⟩
    simp only [sNil]
    rw [sSeq_def]
    refine sIf_by (eqb (.int y) (.int 1)) (fun K hK => by walk_at "st" <;> exact hK) (ite2 (fun _ => ?_) fun _ => ?_)
    · walk_at "s1"
      decide
    simp only [sNil]
    rw [sSeq_def]
    refine sIf_by (eqb (.int y) (.int 2)) (fun K hK => by walk_at "st" <;> exact hK) (ite2 (fun _ => ?_) fun _ => ?_)
    · walk_at "s1"
      decide
    simp only [sNil]
    walk_at "s1"
    omega
  · exact h.elim
theorem rok__law_due (C : Addr) : ∀ ds G Q, sp__law_due C ds G Q → rd__law_due C { nx := fun _ G' => Q .non G', rt := Q } (start3 ["_law_word", "_law_at", "_law_to", "_law_goal", "_law_many"] ds) G := by
  intro ds G Q h
  unfold sp__law_due at h
  split at h
  · rename_i w a t g n
    obtain ⟨k, rfl, h⟩ := h
    have hs := sizeLine_ge
    unfold rd__law_due
    have mid : ∀ (f : Q (.fl ((dueS a t n).map D.int)) G ∨ dueS a t n = []), (dueS a t n = [] → sSeq (sIf (tAnd3 (tTru (eOpV oEq (eVar 0) (eC (.str "move")))) (tNot3 (tTru (eChain oLe oLe (eC (.int 0)) (eVar 3) (eVar 4))))) (sRet (eLst (aCons (eVar 3) (aNil)))) (sNil)) (sRet (eLst (aNil))) { nx := fun _ G' => Q .non G', rt := Q } [some (.str k.s), some (.int a), some (.int t), some (.int g), some (.int n)] G) →
      sSeq (sIf (tNot3 (tTru (eChain oLe oLt (eC (.int 0)) (eVar 1) (eVar 4)))) (sRet (eLst (aCons (eVar 1) (aNil)))) (sNil)) (sSeq (sIf (tNot3 (tTru (eChain oLt oLe (eVar 1) (eVar 2) (eVar 4)))) (sRet (eLst (aCons (eVar 2) (aNil)))) (sNil))
        (sSeq (sIf (tAnd3 (tTru (eOpV oEq (eVar 0) (eC (.str "move")))) (tNot3 (tTru (eChain oLe oLe (eC (.int 0)) (eVar 3) (eVar 4))))) (sRet (eLst (aCons (eVar 3) (aNil)))) (sNil)) (sRet (eLst (aNil))))) { nx := fun _ G' => Q .non G', rt := Q } [some (.str k.s), some (.int a), some (.int t), some (.int g), some (.int n)] G := fun f cont => by
      rw [sSeq_def]
      refine sIf_by (!decide (0 ≤ a ∧ a < n)) (fun K hK => ?_) (ite2 (fun e => ?_) fun e => ?_)
      · clear h f cont
        walk_at "st"
        by_cases ha : 0 ≤ a
        · simp only [ha, true_and] at hK
          simp only [ha, if_true]
          exact hK
        · simp only [ha, false_and, decide_false, Bool.not_false] at hK
          simp only [ha, if_false, Bool.not_false]
          first | done | exact hK
      · have e' := nd_no e
        have d1 : dueS a t n = [a] := by unfold dueS; rw [if_neg e']
        rw [d1] at f
        have f' : Q (.fl [.int a]) G := by rcases f with f | f; exact f; cases f
        clear h f cont e e' d1
        walk_at "s1"
        omega
      · have e' := nd_yes e
        simp only [sNil]
        rw [sSeq_def]
        refine sIf_by (!decide (a < t ∧ t ≤ n)) (fun K hK => ?_) (ite2 (fun e2 => ?_) fun e2 => ?_)
        · clear h f cont e e'
          walk_at "st"
          by_cases ha : a < t
          · simp only [ha, true_and] at hK
            simp only [ha, if_true]
            exact hK
          · simp only [ha, false_and, decide_false, Bool.not_false] at hK
            simp only [ha, if_false, Bool.not_false]
            first | done | exact hK
        · have e2' := nd_no e2
          have d1 : dueS a t n = [t] := by unfold dueS; rw [if_pos e', if_neg e2']
          rw [d1] at f
          have f' : Q (.fl [.int t]) G := by rcases f with f | f; exact f; cases f
          clear h f cont e e' d1 e2 e2'
          walk_at "s1"
          omega
        · have e2' := nd_yes e2
          simp only [sNil]
          exact cont (by unfold dueS; rw [if_pos e', if_pos e2'])
    have tail : k ≠ .move → Q (.fl []) G → sSeq (sIf (tAnd3 (tTru (eOpV oEq (eVar 0) (eC (.str "move")))) (tNot3 (tTru (eChain oLe oLe (eC (.int 0)) (eVar 3) (eVar 4))))) (sRet (eLst (aCons (eVar 3) (aNil)))) (sNil)) (sRet (eLst (aNil))) { nx := fun _ G' => Q .non G', rt := Q } [some (.str k.s), some (.int a), some (.int t), some (.int g), some (.int n)] G := fun hk f => by
      have wm : eqb (.str k.s) (.str (Str.ofString "move")) = false := by
        cases k with
        | put => exact w_pm
        | strike => exact w_sm
        | dress => exact w_dm
        | move => exact absurd rfl hk
      clear mid h
      rw [sSeq_def]
      refine sIf_by false (tand_by false false (fun K hK => by walk_at "st" <;> exact hK) fun z => nomatch z) (iteF ?_)
      simp only [sNil]
      walk_at "s1"
      omega
    cases k with
    | put =>
      clear mid tail
      rw [sSeq_def]
      refine sIf_by true (fun K hK => by walk_at "st"; rw [w_pp]; exact hK) (iteT ?_)
      rw [sSeq_def]
      refine sIf_by (!decide (0 ≤ a ∧ a ≤ n)) (fun K hK => ?_) (ite2 (fun e => ?_) fun e => ?_)
      · clear h
        walk_at "st"
        by_cases ha : 0 ≤ a
        · simp only [ha, true_and] at hK
          simp only [ha, if_true]
          exact hK
        · simp only [ha, false_and, decide_false, Bool.not_false] at hK
          simp only [ha, if_false, Bool.not_false]
          first | done | exact hK
      · have e' := nd_no e
        have d1 : due .put a t g n = [a] := by unfold due; dsimp only; rw [if_neg e']
        rw [d1] at h
        clear e e' d1
        have f' : Q (.fl [.int a]) G := h
        clear h
        walk_at "s1"
        omega
      · have e' := nd_yes e
        have d1 : due .put a t g n = [] := by unfold due; dsimp only; rw [if_pos e']
        rw [d1] at h
        have f' : Q (.fl []) G := h
        clear e e' d1 h
        simp only [sNil]
        walk_at "s1"
        omega
    | strike =>
      rw [sSeq_def]
      refine sIf_by false (fun K hK => by clear mid tail h; walk_at "st"; rw [w_sp]; exact hK) (iteF ?_)
      simp only [sNil]
      exact mid (.inl h) fun z => tail (by intro y; cases y) (by have h : Q (.fl ((dueS a t n).map D.int)) G := h; rw [z] at h; exact h)
    | dress =>
      rw [sSeq_def]
      refine sIf_by false (fun K hK => by clear mid tail h; walk_at "st"; rw [w_dp]; exact hK) (iteF ?_)
      simp only [sNil]
      exact mid (.inl h) fun z => tail (by intro y; cases y) (by have h : Q (.fl ((dueS a t n).map D.int)) G := h; rw [z] at h; exact h)
    | move =>
      rw [sSeq_def]
      refine sIf_by false (fun K hK => by clear mid tail h; walk_at "st"; rw [w_mp]; exact hK) (iteF ?_)
      simp only [sNil]
      unfold due at h
      dsimp only at h
      refine mid ?_ fun z => ?_
      · by_cases z : dueS a t n = []
        · exact .inr z
        · rw [if_neg z] at h; exact .inl h
      · rw [if_pos z] at h
        clear mid tail z
        rw [sSeq_def]
        refine sIf_by (true && !decide (0 ≤ g ∧ g ≤ n)) (tand_by true _ (fun K hK => by clear h; walk_at "st"; rw [w_mm]; exact hK) fun _ K hK => ?_) (ite2 (fun e => ?_) fun e => ?_)
        · clear h
          walk_at "st"
          by_cases ha : 0 ≤ g
          · simp only [ha, true_and] at hK
            simp only [ha, if_true]
            exact hK
          · simp only [ha, false_and, decide_false, Bool.not_false] at hK
            simp only [ha, if_false, Bool.not_false]
            first | done | exact hK
        · rw [if_neg (nd_no e)] at h
          have f' : Q (.fl [.int g]) G := h
          clear h e
          walk_at "s1"
          omega
        · rw [if_pos (nd_yes e)] at h
          have f' : Q (.fl []) G := h
          clear h e
          simp only [sNil]
          walk_at "s1"
          omega
  · exact h.elim
theorem rok__law_refused (C C1 C2 C3 C4 C5 C6 C7 C8 C9 C10 C11 C12 : Addr) : ∀ ds G Q, sp__law_refused C ds G Q → rd__law_refused C C1 C2 C3 C4 C5 C6 C7 C8 C9 C10 C11 C12 { nx := fun _ G' => Q .non G', rt := Q } (start3 ["_law_plain", "_law_word", "_law_at", "_law_to", "_law_goal", "e", "_law_other"] ds) G := by
  intro ds G Q h
  unfold sp__law_refused at h
  split at h
  · rename_i p w a t g
    obtain ⟨k, es, ⟨rfl, hG, hl, hr⟩, hA, hB⟩ := h
    have hs := sizeLine_ge
    unfold rd__law_refused
    rw [sSeq_def]
    unfold sTry
    simp only [aCons, aNil, eVar, start3, List.map_cons, List.map_nil, List.length_cons, List.length_nil, List.cons_append, List.nil_append, List.getElem?_cons_zero, List.getElem?_cons_succ, List.replicate, Nat.reduceAdd, Nat.reduceSub, val_ref, val_str, val_int]
    rcases due_one k a t g es.length with e | ⟨v, e⟩
    · have hA := hA e
      clear hB
      refine .inl ?_
      unfold sp__law_does
      refine ⟨k, es, ⟨rfl, hG, e, hl, hr⟩, fun fs hf => ?_⟩
      have q := hA fs hf
      clear hA hG hf e
      walk_at "s1"
      first | done | omega
    · have q := hB v e
      clear hA hB
      refine .inr ?_
      unfold spx__law_does
      refine ⟨k, es, v, ⟨rfl, hG, e⟩, v, rfl, ⟨rfl, rfl⟩, fun x _ => ?_⟩
      clear hG e
      unfold Ends3.un
      walk_at "st"
      first | done | exact Nat.le_trans (by decide) hs
  · exact h.elim
noncomputable def pvL (C p : Addr) (G0 : Gp) (a : Option D) (i : Nat) (σ : St3) (G : Gp) : Prop := ∃ (x1 x3 x4 x5 x6 x7 x8 : Option D) (es : List D), σ = [a, x1, some (.ref p), x3, x4, x5, x6, x7, x8] ∧ G = gset G0 p (.ins C L_Plain [.lst es]) ∧ es.length ≤ 100 + 2 * i ∧ ∀ d ∈ es, isRow d
theorem rok_law (C : Addr) : ∀ ds G Q, sp_law C ds G Q → rd_law C { nx := fun _ G' => Q .non G', rt := Q } (start3 ["_law_script", "_law_cell", "_law_plain", "_law_rows", "_law_word", "_law_at", "_law_to", "_law_goal", "_law_due_here"] ds) G := by
  intro ds G Q h
  unfold sp_law at h
  split at h
  · obtain ⟨ns, rfl, hn, h⟩ := h
    have hs := sizeLine_ge
    unfold rd_law
    rw [sSeq_def]
    walk_at "s1"
    refine ⟨ns.take 1, by rw [cutD_to (by decide), ← List.map_take]; rfl, ?_⟩
    generalize (ns.take 1).sum = c
    rw [sSeq_def]
    walk_at "s0"
    have lA : (⟨(cutC (Str.ofString "abc\n").cps.toList none (some (1 + c / 41 % 4))).toArray⟩ : Str).length ≤ 4 := by
      have q := cutC_length_le (Str.ofString "abc\n").cps.toList none (some (1 + c / 41 % 4))
      have e4 : (Str.ofString "abc\n").cps.toList.length = 4 := by decide +kernel
      show (cutC (Str.ofString "abc\n").cps.toList none (some (1 + c / 41 % 4))).toArray.size ≤ 4
      rw [List.size_toArray]
      omega
    generalize (⟨(cutC (Str.ofString "abc\n").cps.toList none (some (1 + c / 41 % 4))).toArray⟩ : Str) = T at *
    have z1 : (Str.ofString "z").length = 1 := by decide +kernel
    have a4 : (Str.ofString "abc\n").length = 4 := by decide +kernel
    have m1 : (c % 41 / 4).toNat * T.length ≤ 10 * 4 := Nat.mul_le_mul (by walk_at "o") lA
    have m2 : T.length * (c % 41 / 4).toNat ≤ 40 := by rw [Nat.mul_comm]; exact m1
    have m3 : (c % 41 % 4).toNat ≤ 3 := by walk_at "o"
    refine ⟨⟨by decide, by decide⟩, by decide, by rw [a4]; omega, by decide, ⟨by decide, by decide⟩, ⟨by walk_at "o", by walk_at "o", by walk_at "o"⟩, by decide, by decide, ⟨by walk_at "o", by walk_at "o", by rw [z1]; omega⟩, by rw [repS_length, repS_length, z1]; omega, fun p hp => ⟨by rw [str_append_length, repS_length, repS_length, z1]; omega, ?_⟩⟩
    have lR : (repS T (c % 41 / 4).toNat ++ repS (Str.ofString "z") (c % 41 % 4).toNat).length ≤ 100 := by rw [str_append_length, repS_length, repS_length, z1]; omega
    generalize repS T (c % 41 / 4).toNat ++ repS (Str.ofString "z") (c % 41 % 4).toNat = R at *
    clear m1 m2 m3 lA z1 a4
    rw [sSeq_def]
    walk_at "s0"
    refine ⟨pvL C p G (some (.lst (ns.map D.int))), ⟨_, _, _, _, _, _, _, und R, rfl, rfl, by rw [und_length]; omega, fun d hd => und_row hd⟩, ?_, ?_⟩
    · rintro i d σ G' hd ⟨x1, x3, x4, x5, x6, x7, x8, es, rfl, rfl, hl, hr⟩
      obtain ⟨m, rfl⟩ := cut_int (by decide) (by decide) hd
      have hi : i < 30 := by
        have q := (List.getElem?_eq_some_iff.mp hd).1
        rw [cutD_mid (by decide) (by decide), List.length_take] at q
        omega
      clear hd
      simp only [gN, List.set_cons_succ, List.set_cons_zero]
      rw [sSeq_def]
      walk_at "s0"
      rw [sSeq_def]
      walk_at "s0"
      obtain ⟨k, hk⟩ : ∃ k : Wd, atI [D.str (Str.ofString "put"), D.str (Str.ofString "strike"), D.str (Str.ofString "dress"), D.str (Str.ofString "move")] (drawn m 9 % 4) = some (.str k.s) := by
        have q : drawn m 9 % 4 = 0 ∨ drawn m 9 % 4 = 1 ∨ drawn m 9 % 4 = 2 ∨ drawn m 9 % 4 = 3 := by walk_at "o"
        rcases q with e | e | e | e <;> rw [e]
        · exact ⟨.put, rfl⟩
        · exact ⟨.strike, rfl⟩
        · exact ⟨.dress, rfl⟩
        · exact ⟨.move, rfl⟩
      rw [hk]
      refine ⟨by walk_at "o", ⟨by decide, by decide⟩, by decide, ?_⟩
      dsimp only
      clear hk
      rw [sSeq_def]
      walk_at "s0"
      refine ⟨⟨by decide, by decide, by walk_at "o"⟩, fun a => ?_⟩
      rw [sSeq_def]
      walk_at "s0"
      refine ⟨⟨by decide, by decide, by walk_at "o"⟩, fun t0 => ?_⟩
      refine seq_of (NX := fun σ' G1 => ∃ t : Int, σ' = [some (.lst (ns.map D.int)), some (.int m), some (.ref p), some (.lst es), some (.str k.s), some (.int a), some (.int t), x7, x8] ∧ G1 = gset G p (.ins C L_Plain [.lst es])) (fun σ' G1 hM => ?_) (fun NX hNX => ?_)
      · obtain ⟨t, rfl, rfl⟩ := hM
        rw [sSeq_def]
        walk_at "s0"
        refine ⟨⟨by decide, by decide, by walk_at "o"⟩, fun g => ?_⟩
        rw [sSeq_def]
        walk_at "s0"
        refine ⟨k, rfl, ?_⟩
        rw [sSeq_def]
        walk_at "s1"
        have pI : ∀ (xs : List Int) (d : D), d ∈ List.map D.int xs → pl 7 d := fun xs d hd => by
          obtain ⟨z, _, rfl⟩ := List.mem_map.mp hd
          trivial
        refine ⟨k, es, ⟨rfl, rfl, by walk_at "o", hr⟩, fun e fs hf => ⟨fun d hd => absurd hd (by simp), pI _, ?_⟩, fun v e => ⟨pI [v], pI _, ?_⟩⟩
        · rw [e, List.map_nil, eqb_self]
          refine iteF ?_
          obtain ⟨f1, f2, f3⟩ := hf
          rw [sSeq_def]
          refine sIf_by false (tand_by false false (fun K hK => ?_) fun z => nomatch z) (iteF ?_)
          · clear f3
            walk_at "st"
            exact ⟨Nat.zero_le _, fun d hd => absurd hd (by simp), fun d hd => absurd hd (by simp), hK⟩
          simp only [sNil]
          refine sIf_by false (fun K hK => tand_by true false (fun K hK => ?_) (fun _ => ?_) K hK) (iteF ?_)
          · clear f3
            walk_at "st"
            exact ⟨Nat.zero_le _, fun d hd => absurd hd (by simp)⟩
          · have ln : k = .put ∨ k = .strike → eqb (.int ((fs.length : Nat) : Int)) (.int ((es.length : Nat) : Int)) = false := fun z => eqb_no fun y => f3 z (by injection y with y; omega)
            clear f3
            cases k with
            | move =>
              clear ln
              refine tand_by false false (fun K hK => ?_) fun z => nomatch z
              walk_at "st"
              rw [w_mm]; exact hK
            | dress =>
              clear ln
              refine tand_by true false (fun K hK => ?_) fun _ => tand_by false false (fun K hK => ?_) fun z => nomatch z
              · walk_at "st"
                rw [w_dm]; exact hK
              · walk_at "st"
                rw [w_dd]; exact hK
            | put =>
              have ln := ln (.inl rfl)
              refine tand_by true false (fun K hK => ?_) fun _ => tand_by true false (fun K hK => ?_) fun _ K hK => ?_
              · walk_at "st"
                rw [w_pm]; exact hK
              · walk_at "st"
                rw [w_pd]; exact hK
              · walk_at "st"
            | strike =>
              have ln := ln (.inr rfl)
              refine tand_by true false (fun K hK => ?_) fun _ => tand_by true false (fun K hK => ?_) fun _ K hK => ?_
              · walk_at "st"
                rw [w_sm]; exact hK
              · walk_at "st"
                rw [w_sd]; exact hK
              · walk_at "st"
          · simp only [sNil]
            exact ⟨_, _, _, _, _, _, _, fs, rfl, rfl, by walk_at "o", f2⟩
        · have e0 : eqb (.lst [.int v]) (.lst []) = false := eqb_no fun z => by cases z
          rw [e, show List.map D.int [v] = [.int v] from rfl, eqb_self]
          refine iteF ?_
          rw [sSeq_def]
          refine sIf_by false (fun K hK => tand_by true false (fun K hK => ?_) (fun _ K hK => ?_) K hK) (iteF ?_)
          · walk_at "st"
            exact ⟨Nat.zero_le _, pI [v], fun d hd => absurd hd (by simp), hK⟩
          · walk_at "st"
            exact ⟨fun d hd => row_pl (hr d hd) 6, fun d hd => row_pl (hr d hd) 6, hK⟩
          simp only [sNil]
          refine sIf_by false (tand_by false false (fun K hK => ?_) fun z => nomatch z) (iteF ?_)
          · walk_at "st"
            exact ⟨Nat.zero_le _, pI [v], fun d hd => absurd hd (by simp)⟩
          · simp only [sNil]
            exact ⟨_, _, _, _, _, _, _, es, rfl, rfl, by walk_at "o", hr⟩
      · refine sIf_by (eqb (.int (drawn m 8 % 2)) (.int 0)) (fun K hK => ?_) (ite2 (fun _ => ?_) fun _ => ?_)
        · walk_at "st"
          walk_at "conds"
          first | done | exact hK | decide
        · walk_at "s1"
          exact ⟨⟨by decide, by decide⟩, by decide, hNX _ _ ⟨_, rfl, rfl⟩⟩
        · simp only [sNil]
          exact hNX _ _ ⟨t0, rfl, rfl⟩
    · rintro σ G' ⟨x1, x3, x4, x5, x6, x7, x8, es, rfl, rfl, hl, hr⟩
      walk_at "st"
  · exact h.elim
structure Tx (K : PySem.W.Frag) (mg : Str → Option Value) (C_Plain : Addr) (C_QuillError : Addr) (C_OutOfPlace : Addr) (C_NoStroke : Addr) (C_Decided : Addr) (C_NotYours : Addr) (C_Twice : Addr) (C_Leaned : Addr) (C_OtherText : Addr) (C_NoNote : Addr) (C_TooDeep : Addr) (C_NoPaper : Addr) (C_NoRow : Addr) : Prop where
  cl_Plain : Cls K C_Plain
  na_Plain_worn : NoAttr K C_Plain "worn"
  b_ValueError : mg "ValueError" = none
  b_isinstance : mg "isinstance" = none
  b_len : mg "len" = none
  b_list : mg "list" = none
  b_max : mg "max" = none
  b_min : mg "min" = none
  b_sum : mg "sum" = none
  xm_QuillError : mg "QuillError" = some (.ref C_QuillError)
  xm_OutOfPlace : mg "OutOfPlace" = some (.ref C_OutOfPlace)
  xm_NoStroke : mg "NoStroke" = some (.ref C_NoStroke)
  xm_Decided : mg "Decided" = some (.ref C_Decided)
  xm_NotYours : mg "NotYours" = some (.ref C_NotYours)
  xm_Twice : mg "Twice" = some (.ref C_Twice)
  xm_Leaned : mg "Leaned" = some (.ref C_Leaned)
  xm_OtherText : mg "OtherText" = some (.ref C_OtherText)
  xm_NoNote : mg "NoNote" = some (.ref C_NoNote)
  xm_TooDeep : mg "TooDeep" = some (.ref C_TooDeep)
  xm_NoPaper : mg "NoPaper" = some (.ref C_NoPaper)
  xm_NoRow : mg "NoRow" = some (.ref C_NoRow)
  xa_OutOfPlace : XAsk K C_OutOfPlace "at"
  xe_OutOfPlace_QuillError : PySem.W.exmOne K (.ref C_OutOfPlace) (.ref C_QuillError) = some true
  xk_Decided : PySem.W.kitOne K (.ref C_OutOfPlace) (.ref C_Decided) = some false
  xk_Leaned : PySem.W.kitOne K (.ref C_OutOfPlace) (.ref C_Leaned) = some false
  xk_NoNote : PySem.W.kitOne K (.ref C_OutOfPlace) (.ref C_NoNote) = some false
  xk_NoPaper : PySem.W.kitOne K (.ref C_OutOfPlace) (.ref C_NoPaper) = some false
  xk_NoRow : PySem.W.kitOne K (.ref C_OutOfPlace) (.ref C_NoRow) = some false
  xk_NoStroke : PySem.W.kitOne K (.ref C_OutOfPlace) (.ref C_NoStroke) = some false
  xk_NotYours : PySem.W.kitOne K (.ref C_OutOfPlace) (.ref C_NotYours) = some false
  xk_OtherText : PySem.W.kitOne K (.ref C_OutOfPlace) (.ref C_OtherText) = some false
  xk_OutOfPlace : PySem.W.kitOne K (.ref C_OutOfPlace) (.ref C_OutOfPlace) = some true
  xk_TooDeep : PySem.W.kitOne K (.ref C_OutOfPlace) (.ref C_TooDeep) = some false
  xk_Twice : PySem.W.kitOne K (.ref C_OutOfPlace) (.ref C_Twice) = some false
  xk_ValueError : PySem.W.kitOne K (.ref C_OutOfPlace) (.type "ValueError") = some true
section
variable {P : Program} {w : World} {K : PySem.W.Frag} {mg : Str → Option Value} {base : Heap}
theorem ok__law_drawn {f : Addr} {fd : FuncData} {C_Plain : Addr} {C_QuillError : Addr} {C_OutOfPlace : Addr} {C_NoStroke : Addr} {C_Decided : Addr} {C_NotYours : Addr} {C_Twice : Addr} {C_Leaned : Addr} {C_OtherText : Addr} {C_NoNote : Addr} {C_TooDeep : Addr} {C_NoPaper : Addr} {C_NoRow : Addr} (F : Fun3 K "_law_drawn" "_law_drawn" s__law_drawn f fd) (T : Tx K mg C_Plain C_QuillError C_OutOfPlace C_NoStroke C_Decided C_NotYours C_Twice C_Leaned C_OtherText C_NoNote C_TooDeep C_NoPaper C_NoRow) 
    (rok : ∀ ds G Q, sp__law_drawn C_Plain ds G Q → rd__law_drawn C_Plain { nx := fun _ G' => Q .non G', rt := Q } (start3 ["_law_cell", "_law_place", "_law_number_here"] ds) G) (len : ∀ ds G Q, sp__law_drawn C_Plain ds G Q → ds.length = 2) : FnOk P w K mg base CX0 1 f fd ["_law_cell", "_law_place"] (liftSp K (sp__law_drawn C_Plain)) := by
  refine Fun3.ok3 F sc__law_drawn len (fun cdv A outer s H E hr => ⟨rd__law_drawn C_Plain, ?_, rok⟩)
  have hu8 : (A.deeper (envOfC "_law_drawn" (defScope s__law_drawn) s.heap.objs.size f cdv)).units + 8 < cLine := by have := hr.units; omega
  have hu4 : (A.deeper (envOfC "_law_drawn" (defScope s__law_drawn) s.heap.objs.size f cdv)).units + 4 < cLine := by walk_at "o"
  unfold rd__law_drawn
  exact (q_cons (q_set (i := 2) sc__law_drawn.nd rfl (by first | exact Or.inl rfl | exact Or.inr rfl) (p_op x_mod (p_op x_mul (p_op x_add (p_op x_add (p_v 0) (p_op x_mul p_int (p_v 1))) p_int) p_int) p_int))
      (q_one (q_ret (p_op x_mod (p_op x_mul (p_v 2) (p_op x_add (p_op x_div (p_v 2) p_int) p_int)) p_int))))
theorem ok__law_number {f : Addr} {fd : FuncData} {C_Plain : Addr} {C_QuillError : Addr} {C_OutOfPlace : Addr} {C_NoStroke : Addr} {C_Decided : Addr} {C_NotYours : Addr} {C_Twice : Addr} {C_Leaned : Addr} {C_OtherText : Addr} {C_NoNote : Addr} {C_TooDeep : Addr} {C_NoPaper : Addr} {C_NoRow : Addr} (F : Fun3 K "_law_number" "_law_number" s__law_number f fd) (T : Tx K mg C_Plain C_QuillError C_OutOfPlace C_NoStroke C_Decided C_NotYours C_Twice C_Leaned C_OtherText C_NoNote C_TooDeep C_NoPaper C_NoRow) (F__law_drawn : Fn3 P w K mg base 1 "_law_drawn" [] (sp__law_drawn C_Plain))
    (rok : ∀ ds G Q, sp__law_number C_Plain ds G Q → rd__law_number C_Plain { nx := fun _ G' => Q .non G', rt := Q } (start3 ["_law_cell", "_law_place", "_law_many", "_law_way", "_law_number_here"] ds) G) (len : ∀ ds G Q, sp__law_number C_Plain ds G Q → ds.length = 3) : FnOk P w K mg base CX0 2 f fd ["_law_cell", "_law_place", "_law_many"] (liftSp K (sp__law_number C_Plain)) := by
  refine Fun3.ok3 F sc__law_number len (fun cdv A outer s H E hr => ⟨rd__law_number C_Plain, ?_, rok⟩)
  have hu8 : (A.deeper (envOfC "_law_number" (defScope s__law_number) s.heap.objs.size f cdv)).units + 8 < cLine := by have := hr.units; omega
  have hu4 : (A.deeper (envOfC "_law_number" (defScope s__law_number) s.heap.objs.size f cdv)).units + 4 < cLine := by walk_at "o"
  unfold rd__law_number
  exact (q_cons (q_set (i := 3) sc__law_number.nd rfl (by first | exact Or.inl rfl | exact Or.inr rfl) (p_op x_mod (p_call F__law_drawn (hr.mono (by decide)) (by rfl) (a_cons (p_v 0) (a_cons (p_v 1) a_nil))) p_int))
      (q_cons (q_set (i := 4) sc__law_number.nd rfl (by first | exact Or.inl rfl | exact Or.inr rfl) (p_call F__law_drawn (hr.mono (by decide)) (by rfl) (a_cons (p_v 0) (a_cons (p_op x_add (p_v 1) p_int) a_nil))))
      (q_cons (q_if (p_tcmpV (x_eq hu8) (p_v 3) p_int (nomark _)) (q_one (q_ret (p_op x_sub (p_op x_mod (p_v 0) (p_op x_add (p_op x_mul p_int (p_op x_pow p_int p_int)) p_int)) (p_op x_pow p_int p_int)))) q_nil)
      (q_cons (q_if (p_tcmpV (x_eq hu8) (p_v 3) p_int (nomark _)) (q_one (q_ret (p_op x_add (p_v 2) (p_op x_mod (p_v 4) p_int)))) q_nil)
      (q_cons (q_if (p_tcmpV (x_eq hu8) (p_v 3) p_int (nomark _)) (q_one (q_ret (p_op x_sub p_int (p_op x_mod (p_v 4) p_int)))) q_nil)
      (q_one (q_ret (p_op x_mod (p_v 4) (p_op x_add (p_v 2) p_int)))))))))
theorem ok__law_due {f : Addr} {fd : FuncData} {C_Plain : Addr} {C_QuillError : Addr} {C_OutOfPlace : Addr} {C_NoStroke : Addr} {C_Decided : Addr} {C_NotYours : Addr} {C_Twice : Addr} {C_Leaned : Addr} {C_OtherText : Addr} {C_NoNote : Addr} {C_TooDeep : Addr} {C_NoPaper : Addr} {C_NoRow : Addr} (F : Fun3 K "_law_due" "_law_due" s__law_due f fd) (T : Tx K mg C_Plain C_QuillError C_OutOfPlace C_NoStroke C_Decided C_NotYours C_Twice C_Leaned C_OtherText C_NoNote C_TooDeep C_NoPaper C_NoRow) 
    (rok : ∀ ds G Q, sp__law_due C_Plain ds G Q → rd__law_due C_Plain { nx := fun _ G' => Q .non G', rt := Q } (start3 ["_law_word", "_law_at", "_law_to", "_law_goal", "_law_many"] ds) G) (len : ∀ ds G Q, sp__law_due C_Plain ds G Q → ds.length = 5) : FnOk P w K mg base CX0 1 f fd ["_law_word", "_law_at", "_law_to", "_law_goal", "_law_many"] (liftSp K (sp__law_due C_Plain)) := by
  refine Fun3.ok3 F sc__law_due len (fun cdv A outer s H E hr => ⟨rd__law_due C_Plain, ?_, rok⟩)
  have hu8 : (A.deeper (envOfC "_law_due" (defScope s__law_due) s.heap.objs.size f cdv)).units + 8 < cLine := by have := hr.units; omega
  have hu4 : (A.deeper (envOfC "_law_due" (defScope s__law_due) s.heap.objs.size f cdv)).units + 4 < cLine := by walk_at "o"
  unfold rd__law_due
  exact (q_cons (q_if (p_tcmpV (x_eq hu8) (p_v 0) p_str (nomark _)) (q_cons (q_if (p_tnot (p_tchain x_le x_le p_int (p_v 1) (p_v 4))) (q_one (q_ret (p_lst (a_cons (p_v 1) a_nil)))) q_nil)
      (q_one (q_ret (p_lst a_nil)))) q_nil)
      (q_cons (q_if (p_tnot (p_tchain x_le x_lt p_int (p_v 1) (p_v 4))) (q_one (q_ret (p_lst (a_cons (p_v 1) a_nil)))) q_nil)
      (q_cons (q_if (p_tnot (p_tchain x_lt x_le (p_v 1) (p_v 2) (p_v 4))) (q_one (q_ret (p_lst (a_cons (p_v 2) a_nil)))) q_nil)
      (q_cons (q_if (PW.pt (w_and (p_tcmpV (x_eq hu8) (p_v 0) p_str (nomark _)) (w_and1 (p_tnot (p_tchain x_le x_le p_int (p_v 3) (p_v 4)))))) (q_one (q_ret (p_lst (a_cons (p_v 3) a_nil)))) q_nil)
      (q_one (q_ret (p_lst a_nil)))))))
theorem ok_check_gap {f : Addr} {fd : FuncData} {C_Plain : Addr} {C_QuillError : Addr} {C_OutOfPlace : Addr} {C_NoStroke : Addr} {C_Decided : Addr} {C_NotYours : Addr} {C_Twice : Addr} {C_Leaned : Addr} {C_OtherText : Addr} {C_NoNote : Addr} {C_TooDeep : Addr} {C_NoPaper : Addr} {C_NoRow : Addr} (F : Fun3 K "check_gap" "check_gap" s_check_gap f fd) (T : Tx K mg C_Plain C_QuillError C_OutOfPlace C_NoStroke C_Decided C_NotYours C_Twice C_Leaned C_OtherText C_NoNote C_TooDeep C_NoPaper C_NoRow) 
    (rok : ∀ ds G Q, sp_check_gap C_Plain ds G Q → rd_check_gap C_Plain { nx := fun _ G' => Q .non G', rt := Q } (start3 ["at", "length"] ds) G) (len : ∀ ds G Q, sp_check_gap C_Plain ds G Q → ds.length = 2) : FnOk P w K mg base CX0 1 f fd ["at", "length"] (liftSp K (sp_check_gap C_Plain)) := by
  refine Fun3.ok3 F sc_check_gap len (fun cdv A outer s H E hr => ⟨rd_check_gap C_Plain, ?_, rok⟩)
  have hu8 : (A.deeper (envOfC "check_gap" (defScope s_check_gap) s.heap.objs.size f cdv)).units + 8 < cLine := by have := hr.units; omega
  have hu4 : (A.deeper (envOfC "check_gap" (defScope s_check_gap) s.heap.objs.size f cdv)).units + 4 < cLine := by walk_at "o"
  unfold rd_check_gap
  exact (q_one (q_if (p_tnot (p_tchain x_le x_le p_int (p_v 0) (p_v 1))) (q_one q_never) q_nil))
theorem ok_undressed {f : Addr} {fd : FuncData} {C_Plain : Addr} {C_QuillError : Addr} {C_OutOfPlace : Addr} {C_NoStroke : Addr} {C_Decided : Addr} {C_NotYours : Addr} {C_Twice : Addr} {C_Leaned : Addr} {C_OtherText : Addr} {C_NoNote : Addr} {C_TooDeep : Addr} {C_NoPaper : Addr} {C_NoRow : Addr} (F : Fun3 K "undressed" "undressed" s_undressed f fd) (T : Tx K mg C_Plain C_QuillError C_OutOfPlace C_NoStroke C_Decided C_NotYours C_Twice C_Leaned C_OtherText C_NoNote C_TooDeep C_NoPaper C_NoRow) 
    (rok : ∀ ds G Q, sp_undressed C_Plain ds G Q → rd_undressed C_Plain { nx := fun _ G' => Q .non G', rt := Q } (start3 ["signs"] ds) G) (len : ∀ ds G Q, sp_undressed C_Plain ds G Q → ds.length = 1) : FnOk P w K mg base CX0 1 f fd ["signs"] (liftSp K (sp_undressed C_Plain)) := by
  refine Fun3.ok3 F sc_undressed len (fun cdv A outer s H E hr => ⟨rd_undressed C_Plain, ?_, rok⟩)
  have hu8 : (A.deeper (envOfC "undressed" (defScope s_undressed) s.heap.objs.size f cdv)).units + 8 < cLine := by have := hr.units; omega
  have hu4 : (A.deeper (envOfC "undressed" (defScope s_undressed) s.heap.objs.size f cdv)).units + 4 < cLine := by walk_at "o"
  unfold rd_undressed
  exact (q_one (q_ret (p_comp (T := ["sign"]) (M := ["signs"]) (compOk_of rfl (by kernel_rfl)) (fun cl C s₀ H₀ fp => ⟨(g_name (i := 0) nd_undressed_1 rfl (by first | exact Or.inl rfl | exact Or.inr rfl)), ts_nil, (p_tup (a_cons (p_v 0) (a_cons p_str a_nil)))⟩) (i_seq (p_v 0)))))
theorem ok_Plain_put {f : Addr} {fd : FuncData} {C_Plain : Addr} {C_QuillError : Addr} {C_OutOfPlace : Addr} {C_NoStroke : Addr} {C_Decided : Addr} {C_NotYours : Addr} {C_Twice : Addr} {C_Leaned : Addr} {C_OtherText : Addr} {C_NoNote : Addr} {C_TooDeep : Addr} {C_NoPaper : Addr} {C_NoRow : Addr} (F : Fun3 K "put" "Plain.put" s_Plain_put f fd) (T : Tx K mg C_Plain C_QuillError C_OutOfPlace C_NoStroke C_Decided C_NotYours C_Twice C_Leaned C_OtherText C_NoNote C_TooDeep C_NoPaper C_NoRow) (F_check_gap : Fn3 P w K mg base 1 "check_gap" [] (sp_check_gap C_Plain)) (F_undressed : Fn3 P w K mg base 1 "undressed" [] (sp_undressed C_Plain))
    (rok : ∀ ds G Q, sp_Plain_put C_Plain ds G Q → rd_Plain_put C_Plain { nx := fun _ G' => Q .non G', rt := Q } (start3 ["self", "at", "signs"] ds) G) (len : ∀ ds G Q, sp_Plain_put C_Plain ds G Q → ds.length = 3) : FnOk P w K mg base CX0 2 f fd ["self", "at", "signs"] (liftSp K (sp_Plain_put C_Plain)) := by
  refine Fun3.ok3 F sc_Plain_put len (fun cdv A outer s H E hr => ⟨rd_Plain_put C_Plain, ?_, rok⟩)
  have hu8 : (A.deeper (envOfC "Plain.put" (defScope s_Plain_put) s.heap.objs.size f cdv)).units + 8 < cLine := by have := hr.units; omega
  have hu4 : (A.deeper (envOfC "Plain.put" (defScope s_Plain_put) s.heap.objs.size f cdv)).units + 4 < cLine := by walk_at "o"
  unfold rd_Plain_put
  exact (q_cons (q_expr (p_call F_check_gap (hr.mono (by decide)) (by rfl) (a_cons (p_v 1) (a_cons (p_callB b_len (by rfl) T.b_len PySem.boot_len (a_cons (p_fld T.cl_Plain T.na_Plain_worn at_Plain_worn (p_v 0)) a_nil)) a_nil))))
      (q_one (q_fld T.cl_Plain T.na_Plain_worn at_Plain_worn (by decide) (p_v 0) (p_op x_add (p_op x_add (p_slice x_sl (p_fld T.cl_Plain T.na_Plain_worn at_Plain_worn (p_v 0)) o_none (o_some (p_v 1))) (p_call F_undressed (hr.mono (by decide)) (by rfl) (a_cons (p_v 2) a_nil))) (p_slice x_sl (p_fld T.cl_Plain T.na_Plain_worn at_Plain_worn (p_v 0)) (o_some (p_v 1)) o_none)))))
theorem ok_check_stretch {f : Addr} {fd : FuncData} {C_Plain : Addr} {C_QuillError : Addr} {C_OutOfPlace : Addr} {C_NoStroke : Addr} {C_Decided : Addr} {C_NotYours : Addr} {C_Twice : Addr} {C_Leaned : Addr} {C_OtherText : Addr} {C_NoNote : Addr} {C_TooDeep : Addr} {C_NoPaper : Addr} {C_NoRow : Addr} (F : Fun3 K "check_stretch" "check_stretch" s_check_stretch f fd) (T : Tx K mg C_Plain C_QuillError C_OutOfPlace C_NoStroke C_Decided C_NotYours C_Twice C_Leaned C_OtherText C_NoNote C_TooDeep C_NoPaper C_NoRow) 
    (rok : ∀ ds G Q, sp_check_stretch C_Plain ds G Q → rd_check_stretch C_Plain { nx := fun _ G' => Q .non G', rt := Q } (start3 ["at", "to", "length"] ds) G) (len : ∀ ds G Q, sp_check_stretch C_Plain ds G Q → ds.length = 3) : FnOk P w K mg base CX0 1 f fd ["at", "to", "length"] (liftSp K (sp_check_stretch C_Plain)) := by
  refine Fun3.ok3 F sc_check_stretch len (fun cdv A outer s H E hr => ⟨rd_check_stretch C_Plain, ?_, rok⟩)
  have hu8 : (A.deeper (envOfC "check_stretch" (defScope s_check_stretch) s.heap.objs.size f cdv)).units + 8 < cLine := by have := hr.units; omega
  have hu4 : (A.deeper (envOfC "check_stretch" (defScope s_check_stretch) s.heap.objs.size f cdv)).units + 4 < cLine := by walk_at "o"
  unfold rd_check_stretch
  exact (q_cons (q_if (p_tnot (p_tchain x_le x_lt p_int (p_v 0) (p_v 2))) (q_one q_never) q_nil)
      (q_one (q_if (p_tnot (p_tchain x_lt x_le (p_v 0) (p_v 1) (p_v 2))) (q_one q_never) q_nil)))
theorem ok_Plain_strike {f : Addr} {fd : FuncData} {C_Plain : Addr} {C_QuillError : Addr} {C_OutOfPlace : Addr} {C_NoStroke : Addr} {C_Decided : Addr} {C_NotYours : Addr} {C_Twice : Addr} {C_Leaned : Addr} {C_OtherText : Addr} {C_NoNote : Addr} {C_TooDeep : Addr} {C_NoPaper : Addr} {C_NoRow : Addr} (F : Fun3 K "strike" "Plain.strike" s_Plain_strike f fd) (T : Tx K mg C_Plain C_QuillError C_OutOfPlace C_NoStroke C_Decided C_NotYours C_Twice C_Leaned C_OtherText C_NoNote C_TooDeep C_NoPaper C_NoRow) (F_check_stretch : Fn3 P w K mg base 1 "check_stretch" [] (sp_check_stretch C_Plain))
    (rok : ∀ ds G Q, sp_Plain_strike C_Plain ds G Q → rd_Plain_strike C_Plain { nx := fun _ G' => Q .non G', rt := Q } (start3 ["self", "at", "to"] ds) G) (len : ∀ ds G Q, sp_Plain_strike C_Plain ds G Q → ds.length = 3) : FnOk P w K mg base CX0 2 f fd ["self", "at", "to"] (liftSp K (sp_Plain_strike C_Plain)) := by
  refine Fun3.ok3 F sc_Plain_strike len (fun cdv A outer s H E hr => ⟨rd_Plain_strike C_Plain, ?_, rok⟩)
  have hu8 : (A.deeper (envOfC "Plain.strike" (defScope s_Plain_strike) s.heap.objs.size f cdv)).units + 8 < cLine := by have := hr.units; omega
  have hu4 : (A.deeper (envOfC "Plain.strike" (defScope s_Plain_strike) s.heap.objs.size f cdv)).units + 4 < cLine := by walk_at "o"
  unfold rd_Plain_strike
  exact (q_cons (q_expr (p_call F_check_stretch (hr.mono (by decide)) (by rfl) (a_cons (p_v 1) (a_cons (p_v 2) (a_cons (p_callB b_len (by rfl) T.b_len PySem.boot_len (a_cons (p_fld T.cl_Plain T.na_Plain_worn at_Plain_worn (p_v 0)) a_nil)) a_nil)))))
      (q_one (q_fld T.cl_Plain T.na_Plain_worn at_Plain_worn (by decide) (p_v 0) (p_op x_add (p_slice x_sl (p_fld T.cl_Plain T.na_Plain_worn at_Plain_worn (p_v 0)) o_none (o_some (p_v 1))) (p_slice x_sl (p_fld T.cl_Plain T.na_Plain_worn at_Plain_worn (p_v 0)) (o_some (p_v 2)) o_none)))))
theorem ok_Plain_dress {f : Addr} {fd : FuncData} {C_Plain : Addr} {C_QuillError : Addr} {C_OutOfPlace : Addr} {C_NoStroke : Addr} {C_Decided : Addr} {C_NotYours : Addr} {C_Twice : Addr} {C_Leaned : Addr} {C_OtherText : Addr} {C_NoNote : Addr} {C_TooDeep : Addr} {C_NoPaper : Addr} {C_NoRow : Addr} (F : Fun3 K "dress" "Plain.dress" s_Plain_dress f fd) (T : Tx K mg C_Plain C_QuillError C_OutOfPlace C_NoStroke C_Decided C_NotYours C_Twice C_Leaned C_OtherText C_NoNote C_TooDeep C_NoPaper C_NoRow) (F_check_stretch : Fn3 P w K mg base 1 "check_stretch" [] (sp_check_stretch C_Plain))
    (rok : ∀ ds G Q, sp_Plain_dress C_Plain ds G Q → rd_Plain_dress C_Plain { nx := fun _ G' => Q .non G', rt := Q } (start3 ["self", "at", "to", "word", "dressed"] ds) G) (len : ∀ ds G Q, sp_Plain_dress C_Plain ds G Q → ds.length = 4) : FnOk P w K mg base CX0 2 f fd ["self", "at", "to", "word"] (liftSp K (sp_Plain_dress C_Plain)) := by
  refine Fun3.ok3 F sc_Plain_dress len (fun cdv A outer s H E hr => ⟨rd_Plain_dress C_Plain, ?_, rok⟩)
  have hu8 : (A.deeper (envOfC "Plain.dress" (defScope s_Plain_dress) s.heap.objs.size f cdv)).units + 8 < cLine := by have := hr.units; omega
  have hu4 : (A.deeper (envOfC "Plain.dress" (defScope s_Plain_dress) s.heap.objs.size f cdv)).units + 4 < cLine := by walk_at "o"
  unfold rd_Plain_dress
  exact (q_cons (q_expr (p_call F_check_stretch (hr.mono (by decide)) (by rfl) (a_cons (p_v 1) (a_cons (p_v 2) (a_cons (p_callB b_len (by rfl) T.b_len PySem.boot_len (a_cons (p_fld T.cl_Plain T.na_Plain_worn at_Plain_worn (p_v 0)) a_nil)) a_nil)))))
      (q_cons (q_comp (T := ["sign", "old_word"]) (M := ["self", "at", "to", "word", "dressed"]) (i := 4) (compOk_of rfl (by kernel_rfl)) sc_Plain_dress.nd rfl rfl (fun cl C s₀ H₀ fp => ⟨(g_tup (n := 2) rfl (g_cons (g_name (i := 0) nd_Plain_dress_1 rfl (by first | exact Or.inl rfl | exact Or.inr rfl)) (g_cons (g_name (i := 1) nd_Plain_dress_1 rfl (by first | exact Or.inl rfl | exact Or.inr rfl)) g_nil))), ts_nil, (p_tup (a_cons (p_v 0) (a_cons (p_v 5) a_nil)))⟩) (i_seq (p_slice x_sl (p_fld T.cl_Plain T.na_Plain_worn at_Plain_worn (p_v 0)) (o_some (p_v 1)) (o_some (p_v 2)))))
      (q_one (q_fld T.cl_Plain T.na_Plain_worn at_Plain_worn (by decide) (p_v 0) (p_op x_add (p_op x_add (p_slice x_sl (p_fld T.cl_Plain T.na_Plain_worn at_Plain_worn (p_v 0)) o_none (o_some (p_v 1))) (p_v 4)) (p_slice x_sl (p_fld T.cl_Plain T.na_Plain_worn at_Plain_worn (p_v 0)) (o_some (p_v 2)) o_none))))))
theorem ok_Plain_move {f : Addr} {fd : FuncData} {C_Plain : Addr} {C_QuillError : Addr} {C_OutOfPlace : Addr} {C_NoStroke : Addr} {C_Decided : Addr} {C_NotYours : Addr} {C_Twice : Addr} {C_Leaned : Addr} {C_OtherText : Addr} {C_NoNote : Addr} {C_TooDeep : Addr} {C_NoPaper : Addr} {C_NoRow : Addr} (F : Fun3 K "move" "Plain.move" s_Plain_move f fd) (T : Tx K mg C_Plain C_QuillError C_OutOfPlace C_NoStroke C_Decided C_NotYours C_Twice C_Leaned C_OtherText C_NoNote C_TooDeep C_NoPaper C_NoRow) (F_check_gap : Fn3 P w K mg base 1 "check_gap" [] (sp_check_gap C_Plain)) (F_check_stretch : Fn3 P w K mg base 1 "check_stretch" [] (sp_check_stretch C_Plain))
    (rok : ∀ ds G Q, sp_Plain_move C_Plain ds G Q → rd_Plain_move C_Plain { nx := fun _ G' => Q .non G', rt := Q } (start3 ["self", "at", "to", "goal", "ahead", "behind"] ds) G) (len : ∀ ds G Q, sp_Plain_move C_Plain ds G Q → ds.length = 4) : FnOk P w K mg base CX0 2 f fd ["self", "at", "to", "goal"] (liftSp K (sp_Plain_move C_Plain)) := by
  refine Fun3.ok3 F sc_Plain_move len (fun cdv A outer s H E hr => ⟨rd_Plain_move C_Plain, ?_, rok⟩)
  have hu8 : (A.deeper (envOfC "Plain.move" (defScope s_Plain_move) s.heap.objs.size f cdv)).units + 8 < cLine := by have := hr.units; omega
  have hu4 : (A.deeper (envOfC "Plain.move" (defScope s_Plain_move) s.heap.objs.size f cdv)).units + 4 < cLine := by walk_at "o"
  unfold rd_Plain_move
  exact (q_cons (q_expr (p_call F_check_stretch (hr.mono (by decide)) (by rfl) (a_cons (p_v 1) (a_cons (p_v 2) (a_cons (p_callB b_len (by rfl) T.b_len PySem.boot_len (a_cons (p_fld T.cl_Plain T.na_Plain_worn at_Plain_worn (p_v 0)) a_nil)) a_nil)))))
      (q_cons (q_expr (p_call F_check_gap (hr.mono (by decide)) (by rfl) (a_cons (p_v 3) (a_cons (p_callB b_len (by rfl) T.b_len PySem.boot_len (a_cons (p_fld T.cl_Plain T.na_Plain_worn at_Plain_worn (p_v 0)) a_nil)) a_nil))))
      (q_cons (q_set (i := 4) sc_Plain_move.nd rfl (by first | exact Or.inl rfl | exact Or.inr rfl) (p_op x_add (p_slice x_sl (p_fld T.cl_Plain T.na_Plain_worn at_Plain_worn (p_v 0)) o_none (o_some (p_callB (b_min rfl) (by rfl) T.b_min boot_min (a_cons (p_v 1) (a_cons (p_v 3) a_nil))))) (p_slice x_sl (p_fld T.cl_Plain T.na_Plain_worn at_Plain_worn (p_v 0)) (o_some (p_v 2)) (o_some (p_v 3)))))
      (q_cons (q_set (i := 5) sc_Plain_move.nd rfl (by first | exact Or.inl rfl | exact Or.inr rfl) (p_op x_add (p_slice x_sl (p_fld T.cl_Plain T.na_Plain_worn at_Plain_worn (p_v 0)) (o_some (p_v 3)) (o_some (p_v 1))) (p_slice x_sl (p_fld T.cl_Plain T.na_Plain_worn at_Plain_worn (p_v 0)) (o_some (p_callB (b_max rfl) (by rfl) T.b_max boot_max (a_cons (p_v 2) (a_cons (p_v 3) a_nil)))) o_none)))
      (q_one (q_fld T.cl_Plain T.na_Plain_worn at_Plain_worn (by decide) (p_v 0) (p_op x_add (p_op x_add (p_v 4) (p_slice x_sl (p_fld T.cl_Plain T.na_Plain_worn at_Plain_worn (p_v 0)) (o_some (p_v 1)) (o_some (p_v 2)))) (p_v 5))))))))
theorem ok__law_does {f : Addr} {fd : FuncData} {C_Plain : Addr} {C_QuillError : Addr} {C_OutOfPlace : Addr} {C_NoStroke : Addr} {C_Decided : Addr} {C_NotYours : Addr} {C_Twice : Addr} {C_Leaned : Addr} {C_OtherText : Addr} {C_NoNote : Addr} {C_TooDeep : Addr} {C_NoPaper : Addr} {C_NoRow : Addr} (F : Fun3 K "_law_does" "_law_does" s__law_does f fd) (T : Tx K mg C_Plain C_QuillError C_OutOfPlace C_NoStroke C_Decided C_NotYours C_Twice C_Leaned C_OtherText C_NoNote C_TooDeep C_NoPaper C_NoRow) (Mt_Plain_dress : Mt3 P w K mg base 2 C_Plain "dress" [] (sp_Plain_dress C_Plain)) (Mt_Plain_move : Mt3 P w K mg base 2 C_Plain "move" [] (sp_Plain_move C_Plain)) (Mt_Plain_put : Mt3 P w K mg base 2 C_Plain "put" [] (sp_Plain_put C_Plain)) (Mt_Plain_strike : Mt3 P w K mg base 2 C_Plain "strike" [] (sp_Plain_strike C_Plain))
    (rok : ∀ ds G Q, sp__law_does C_Plain ds G Q → rd__law_does C_Plain { nx := fun _ G' => Q .non G', rt := Q } (start3 ["_law_plain", "_law_word", "_law_at", "_law_to", "_law_goal"] ds) G) (len : ∀ ds G Q, sp__law_does C_Plain ds G Q → ds.length = 5) : FnOk P w K mg base CX0 3 f fd ["_law_plain", "_law_word", "_law_at", "_law_to", "_law_goal"] (liftSp K (sp__law_does C_Plain)) := by
  refine Fun3.ok3 F sc__law_does len (fun cdv A outer s H E hr => ⟨rd__law_does C_Plain, ?_, rok⟩)
  have hu8 : (A.deeper (envOfC "_law_does" (defScope s__law_does) s.heap.objs.size f cdv)).units + 8 < cLine := by have := hr.units; omega
  have hu4 : (A.deeper (envOfC "_law_does" (defScope s__law_does) s.heap.objs.size f cdv)).units + 4 < cLine := by walk_at "o"
  unfold rd__law_does
  exact (q_one (q_if (p_tcmpV (x_eq hu8) (p_v 1) p_str (nomark _)) (q_one (q_expr (p_meth Mt_Plain_put no_Plain_put (hr.mono (by decide)) (p_v 0) (a_cons (p_v 2) (a_cons p_str a_nil))))) (q_one (q_if (p_tcmpV (x_eq hu8) (p_v 1) p_str (nomark _)) (q_one (q_expr (p_meth Mt_Plain_strike no_Plain_strike (hr.mono (by decide)) (p_v 0) (a_cons (p_v 2) (a_cons (p_v 3) a_nil))))) (q_one (q_if (p_tcmpV (x_eq hu8) (p_v 1) p_str (nomark _)) (q_one (q_expr (p_meth Mt_Plain_dress no_Plain_dress (hr.mono (by decide)) (p_v 0) (a_cons (p_v 2) (a_cons (p_v 3) (a_cons p_str a_nil)))))) (q_one (q_expr (p_meth Mt_Plain_move no_Plain_move (hr.mono (by decide)) (p_v 0) (a_cons (p_v 2) (a_cons (p_v 3) (a_cons (p_v 4) a_nil))))))))))))
theorem okx_check_gap {f : Addr} {fd : FuncData} {C_Plain : Addr} {C_QuillError : Addr} {C_OutOfPlace : Addr} {C_NoStroke : Addr} {C_Decided : Addr} {C_NotYours : Addr} {C_Twice : Addr} {C_Leaned : Addr} {C_OtherText : Addr} {C_NoNote : Addr} {C_TooDeep : Addr} {C_NoPaper : Addr} {C_NoRow : Addr} (F : Fun3 K "check_gap" "check_gap" s_check_gap f fd) (T : Tx K mg C_Plain C_QuillError C_OutOfPlace C_NoStroke C_Decided C_NotYours C_Twice C_Leaned C_OtherText C_NoNote C_TooDeep C_NoPaper C_NoRow) (ER_OutOfPlace : ErX P w K mg base 1 "OutOfPlace" C_OutOfPlace "at")
    (rok : ∀ EQ ds G Q, spx_check_gap C_Plain C_OutOfPlace ds G Q EQ → rx_check_gap C_Plain C_OutOfPlace EQ { nx := fun _ G' => Q .non G', rt := Q } (start3 ["at", "length"] ds) G) (len : ∀ ds G Q EQ, spx_check_gap C_Plain C_OutOfPlace ds G Q EQ → ds.length = 2) : FnOk P w K mg base (CXW P w) 3 f fd ["at", "length"] (liftSpX K (spx_check_gap C_Plain C_OutOfPlace)) := by
  refine Fun3.okX F sc_check_gap len (fun cdv A outer s H E EQ hr => ⟨rx_check_gap C_Plain C_OutOfPlace EQ, ?_, rok EQ⟩)
  have hu8 : (A.deeper (envOfC "check_gap" (defScope s_check_gap) s.heap.objs.size f cdv)).units + 8 < cLine := by have := hr.units; omega
  have hu4 : (A.deeper (envOfC "check_gap" (defScope s_check_gap) s.heap.objs.size f cdv)).units + 4 < cLine := by walk_at "o"
  unfold rx_check_gap
  exact (x_one (x_if (p_tnot (p_tchain x_le x_le p_int (p_v 0) (p_v 1))) (x_one (x_raise cxOf_W ER_OutOfPlace (hr.mono (by decide)) (by rfl) (a_cons (p_v 0) a_nil))) (x_ofs q_nil)))
theorem okx_Plain_put {f : Addr} {fd : FuncData} {C_Plain : Addr} {C_QuillError : Addr} {C_OutOfPlace : Addr} {C_NoStroke : Addr} {C_Decided : Addr} {C_NotYours : Addr} {C_Twice : Addr} {C_Leaned : Addr} {C_OtherText : Addr} {C_NoNote : Addr} {C_TooDeep : Addr} {C_NoPaper : Addr} {C_NoRow : Addr} (F : Fun3 K "put" "Plain.put" s_Plain_put f fd) (T : Tx K mg C_Plain C_QuillError C_OutOfPlace C_NoStroke C_Decided C_NotYours C_Twice C_Leaned C_OtherText C_NoNote C_TooDeep C_NoPaper C_NoRow) (ER_OutOfPlace : ErX P w K mg base 1 "OutOfPlace" C_OutOfPlace "at") (FX_check_gap : FnX P w K mg base 3 "check_gap" (spx_check_gap C_Plain C_OutOfPlace))
    (rok : ∀ EQ ds G Q, spx_Plain_put C_Plain C_OutOfPlace ds G Q EQ → rx_Plain_put C_Plain C_OutOfPlace EQ { nx := fun _ G' => Q .non G', rt := Q } (start3 ["self", "at", "signs"] ds) G) (len : ∀ ds G Q EQ, spx_Plain_put C_Plain C_OutOfPlace ds G Q EQ → ds.length = 3) : FnOk P w K mg base (CXW P w) 4 f fd ["self", "at", "signs"] (liftSpX K (spx_Plain_put C_Plain C_OutOfPlace)) := by
  refine Fun3.okX F sc_Plain_put len (fun cdv A outer s H E EQ hr => ⟨rx_Plain_put C_Plain C_OutOfPlace EQ, ?_, rok EQ⟩)
  have hu8 : (A.deeper (envOfC "Plain.put" (defScope s_Plain_put) s.heap.objs.size f cdv)).units + 8 < cLine := by have := hr.units; omega
  have hu4 : (A.deeper (envOfC "Plain.put" (defScope s_Plain_put) s.heap.objs.size f cdv)).units + 4 < cLine := by walk_at "o"
  unfold rx_Plain_put
  exact (x_cons (x_call cxOf_W FX_check_gap (hr.mono (by decide)) (by rfl) (a_cons (p_v 1) (a_cons (p_callB b_len (by rfl) T.b_len PySem.boot_len (a_cons (p_fld T.cl_Plain T.na_Plain_worn at_Plain_worn (p_v 0)) a_nil)) a_nil)))
      (x_ofs q_nevers))
theorem okx_check_stretch {f : Addr} {fd : FuncData} {C_Plain : Addr} {C_QuillError : Addr} {C_OutOfPlace : Addr} {C_NoStroke : Addr} {C_Decided : Addr} {C_NotYours : Addr} {C_Twice : Addr} {C_Leaned : Addr} {C_OtherText : Addr} {C_NoNote : Addr} {C_TooDeep : Addr} {C_NoPaper : Addr} {C_NoRow : Addr} (F : Fun3 K "check_stretch" "check_stretch" s_check_stretch f fd) (T : Tx K mg C_Plain C_QuillError C_OutOfPlace C_NoStroke C_Decided C_NotYours C_Twice C_Leaned C_OtherText C_NoNote C_TooDeep C_NoPaper C_NoRow) (ER_OutOfPlace : ErX P w K mg base 1 "OutOfPlace" C_OutOfPlace "at")
    (rok : ∀ EQ ds G Q, spx_check_stretch C_Plain C_OutOfPlace ds G Q EQ → rx_check_stretch C_Plain C_OutOfPlace EQ { nx := fun _ G' => Q .non G', rt := Q } (start3 ["at", "to", "length"] ds) G) (len : ∀ ds G Q EQ, spx_check_stretch C_Plain C_OutOfPlace ds G Q EQ → ds.length = 3) : FnOk P w K mg base (CXW P w) 3 f fd ["at", "to", "length"] (liftSpX K (spx_check_stretch C_Plain C_OutOfPlace)) := by
  refine Fun3.okX F sc_check_stretch len (fun cdv A outer s H E EQ hr => ⟨rx_check_stretch C_Plain C_OutOfPlace EQ, ?_, rok EQ⟩)
  have hu8 : (A.deeper (envOfC "check_stretch" (defScope s_check_stretch) s.heap.objs.size f cdv)).units + 8 < cLine := by have := hr.units; omega
  have hu4 : (A.deeper (envOfC "check_stretch" (defScope s_check_stretch) s.heap.objs.size f cdv)).units + 4 < cLine := by walk_at "o"
  unfold rx_check_stretch
  exact (x_cons (x_if (p_tnot (p_tchain x_le x_lt p_int (p_v 0) (p_v 2))) (x_one (x_raise cxOf_W ER_OutOfPlace (hr.mono (by decide)) (by rfl) (a_cons (p_v 0) a_nil))) (x_ofs q_nil))
      (x_one (x_if (p_tnot (p_tchain x_lt x_le (p_v 0) (p_v 1) (p_v 2))) (x_one (x_raise cxOf_W ER_OutOfPlace (hr.mono (by decide)) (by rfl) (a_cons (p_v 1) a_nil))) (x_ofs q_nil))))
theorem okx_Plain_strike {f : Addr} {fd : FuncData} {C_Plain : Addr} {C_QuillError : Addr} {C_OutOfPlace : Addr} {C_NoStroke : Addr} {C_Decided : Addr} {C_NotYours : Addr} {C_Twice : Addr} {C_Leaned : Addr} {C_OtherText : Addr} {C_NoNote : Addr} {C_TooDeep : Addr} {C_NoPaper : Addr} {C_NoRow : Addr} (F : Fun3 K "strike" "Plain.strike" s_Plain_strike f fd) (T : Tx K mg C_Plain C_QuillError C_OutOfPlace C_NoStroke C_Decided C_NotYours C_Twice C_Leaned C_OtherText C_NoNote C_TooDeep C_NoPaper C_NoRow) (ER_OutOfPlace : ErX P w K mg base 1 "OutOfPlace" C_OutOfPlace "at") (FX_check_stretch : FnX P w K mg base 3 "check_stretch" (spx_check_stretch C_Plain C_OutOfPlace))
    (rok : ∀ EQ ds G Q, spx_Plain_strike C_Plain C_OutOfPlace ds G Q EQ → rx_Plain_strike C_Plain C_OutOfPlace EQ { nx := fun _ G' => Q .non G', rt := Q } (start3 ["self", "at", "to"] ds) G) (len : ∀ ds G Q EQ, spx_Plain_strike C_Plain C_OutOfPlace ds G Q EQ → ds.length = 3) : FnOk P w K mg base (CXW P w) 4 f fd ["self", "at", "to"] (liftSpX K (spx_Plain_strike C_Plain C_OutOfPlace)) := by
  refine Fun3.okX F sc_Plain_strike len (fun cdv A outer s H E EQ hr => ⟨rx_Plain_strike C_Plain C_OutOfPlace EQ, ?_, rok EQ⟩)
  have hu8 : (A.deeper (envOfC "Plain.strike" (defScope s_Plain_strike) s.heap.objs.size f cdv)).units + 8 < cLine := by have := hr.units; omega
  have hu4 : (A.deeper (envOfC "Plain.strike" (defScope s_Plain_strike) s.heap.objs.size f cdv)).units + 4 < cLine := by walk_at "o"
  unfold rx_Plain_strike
  exact (x_cons (x_call cxOf_W FX_check_stretch (hr.mono (by decide)) (by rfl) (a_cons (p_v 1) (a_cons (p_v 2) (a_cons (p_callB b_len (by rfl) T.b_len PySem.boot_len (a_cons (p_fld T.cl_Plain T.na_Plain_worn at_Plain_worn (p_v 0)) a_nil)) a_nil))))
      (x_ofs q_nevers))
theorem okx_Plain_dress {f : Addr} {fd : FuncData} {C_Plain : Addr} {C_QuillError : Addr} {C_OutOfPlace : Addr} {C_NoStroke : Addr} {C_Decided : Addr} {C_NotYours : Addr} {C_Twice : Addr} {C_Leaned : Addr} {C_OtherText : Addr} {C_NoNote : Addr} {C_TooDeep : Addr} {C_NoPaper : Addr} {C_NoRow : Addr} (F : Fun3 K "dress" "Plain.dress" s_Plain_dress f fd) (T : Tx K mg C_Plain C_QuillError C_OutOfPlace C_NoStroke C_Decided C_NotYours C_Twice C_Leaned C_OtherText C_NoNote C_TooDeep C_NoPaper C_NoRow) (ER_OutOfPlace : ErX P w K mg base 1 "OutOfPlace" C_OutOfPlace "at") (FX_check_stretch : FnX P w K mg base 3 "check_stretch" (spx_check_stretch C_Plain C_OutOfPlace))
    (rok : ∀ EQ ds G Q, spx_Plain_dress C_Plain C_OutOfPlace ds G Q EQ → rx_Plain_dress C_Plain C_OutOfPlace EQ { nx := fun _ G' => Q .non G', rt := Q } (start3 ["self", "at", "to", "word", "dressed"] ds) G) (len : ∀ ds G Q EQ, spx_Plain_dress C_Plain C_OutOfPlace ds G Q EQ → ds.length = 4) : FnOk P w K mg base (CXW P w) 4 f fd ["self", "at", "to", "word"] (liftSpX K (spx_Plain_dress C_Plain C_OutOfPlace)) := by
  refine Fun3.okX F sc_Plain_dress len (fun cdv A outer s H E EQ hr => ⟨rx_Plain_dress C_Plain C_OutOfPlace EQ, ?_, rok EQ⟩)
  have hu8 : (A.deeper (envOfC "Plain.dress" (defScope s_Plain_dress) s.heap.objs.size f cdv)).units + 8 < cLine := by have := hr.units; omega
  have hu4 : (A.deeper (envOfC "Plain.dress" (defScope s_Plain_dress) s.heap.objs.size f cdv)).units + 4 < cLine := by walk_at "o"
  unfold rx_Plain_dress
  exact (x_cons (x_call cxOf_W FX_check_stretch (hr.mono (by decide)) (by rfl) (a_cons (p_v 1) (a_cons (p_v 2) (a_cons (p_callB b_len (by rfl) T.b_len PySem.boot_len (a_cons (p_fld T.cl_Plain T.na_Plain_worn at_Plain_worn (p_v 0)) a_nil)) a_nil))))
      (x_ofs q_nevers))
theorem okx_Plain_move {f : Addr} {fd : FuncData} {C_Plain : Addr} {C_QuillError : Addr} {C_OutOfPlace : Addr} {C_NoStroke : Addr} {C_Decided : Addr} {C_NotYours : Addr} {C_Twice : Addr} {C_Leaned : Addr} {C_OtherText : Addr} {C_NoNote : Addr} {C_TooDeep : Addr} {C_NoPaper : Addr} {C_NoRow : Addr} (F : Fun3 K "move" "Plain.move" s_Plain_move f fd) (T : Tx K mg C_Plain C_QuillError C_OutOfPlace C_NoStroke C_Decided C_NotYours C_Twice C_Leaned C_OtherText C_NoNote C_TooDeep C_NoPaper C_NoRow) (ER_OutOfPlace : ErX P w K mg base 1 "OutOfPlace" C_OutOfPlace "at") (FX_check_gap : FnX P w K mg base 3 "check_gap" (spx_check_gap C_Plain C_OutOfPlace)) (FX_check_stretch : FnX P w K mg base 3 "check_stretch" (spx_check_stretch C_Plain C_OutOfPlace))
    (rok : ∀ EQ ds G Q, spx_Plain_move C_Plain C_OutOfPlace ds G Q EQ → rx_Plain_move C_Plain C_OutOfPlace EQ { nx := fun _ G' => Q .non G', rt := Q } (start3 ["self", "at", "to", "goal", "ahead", "behind"] ds) G) (len : ∀ ds G Q EQ, spx_Plain_move C_Plain C_OutOfPlace ds G Q EQ → ds.length = 4) : FnOk P w K mg base (CXW P w) 4 f fd ["self", "at", "to", "goal"] (liftSpX K (spx_Plain_move C_Plain C_OutOfPlace)) := by
  refine Fun3.okX F sc_Plain_move len (fun cdv A outer s H E EQ hr => ⟨rx_Plain_move C_Plain C_OutOfPlace EQ, ?_, rok EQ⟩)
  have hu8 : (A.deeper (envOfC "Plain.move" (defScope s_Plain_move) s.heap.objs.size f cdv)).units + 8 < cLine := by have := hr.units; omega
  have hu4 : (A.deeper (envOfC "Plain.move" (defScope s_Plain_move) s.heap.objs.size f cdv)).units + 4 < cLine := by walk_at "o"
  unfold rx_Plain_move
  exact (x_cons (x_call cxOf_W FX_check_stretch (hr.mono (by decide)) (by rfl) (a_cons (p_v 1) (a_cons (p_v 2) (a_cons (p_callB b_len (by rfl) T.b_len PySem.boot_len (a_cons (p_fld T.cl_Plain T.na_Plain_worn at_Plain_worn (p_v 0)) a_nil)) a_nil))))
      (x_cons (x_call cxOf_W FX_check_gap (hr.mono (by decide)) (by rfl) (a_cons (p_v 3) (a_cons (p_callB b_len (by rfl) T.b_len PySem.boot_len (a_cons (p_fld T.cl_Plain T.na_Plain_worn at_Plain_worn (p_v 0)) a_nil)) a_nil)))
      (x_ofs q_nevers)))
theorem okx__law_does {f : Addr} {fd : FuncData} {C_Plain : Addr} {C_QuillError : Addr} {C_OutOfPlace : Addr} {C_NoStroke : Addr} {C_Decided : Addr} {C_NotYours : Addr} {C_Twice : Addr} {C_Leaned : Addr} {C_OtherText : Addr} {C_NoNote : Addr} {C_TooDeep : Addr} {C_NoPaper : Addr} {C_NoRow : Addr} (F : Fun3 K "_law_does" "_law_does" s__law_does f fd) (T : Tx K mg C_Plain C_QuillError C_OutOfPlace C_NoStroke C_Decided C_NotYours C_Twice C_Leaned C_OtherText C_NoNote C_TooDeep C_NoPaper C_NoRow) (ER_OutOfPlace : ErX P w K mg base 1 "OutOfPlace" C_OutOfPlace "at") (MX_Plain_dress : MtX P w K mg base 4 C_Plain "dress" (spx_Plain_dress C_Plain C_OutOfPlace)) (MX_Plain_move : MtX P w K mg base 4 C_Plain "move" (spx_Plain_move C_Plain C_OutOfPlace)) (MX_Plain_put : MtX P w K mg base 4 C_Plain "put" (spx_Plain_put C_Plain C_OutOfPlace)) (MX_Plain_strike : MtX P w K mg base 4 C_Plain "strike" (spx_Plain_strike C_Plain C_OutOfPlace))
    (rok : ∀ EQ ds G Q, spx__law_does C_Plain C_OutOfPlace ds G Q EQ → rx__law_does C_Plain C_OutOfPlace EQ { nx := fun _ G' => Q .non G', rt := Q } (start3 ["_law_plain", "_law_word", "_law_at", "_law_to", "_law_goal"] ds) G) (len : ∀ ds G Q EQ, spx__law_does C_Plain C_OutOfPlace ds G Q EQ → ds.length = 5) : FnOk P w K mg base (CXW P w) 5 f fd ["_law_plain", "_law_word", "_law_at", "_law_to", "_law_goal"] (liftSpX K (spx__law_does C_Plain C_OutOfPlace)) := by
  refine Fun3.okX F sc__law_does len (fun cdv A outer s H E EQ hr => ⟨rx__law_does C_Plain C_OutOfPlace EQ, ?_, rok EQ⟩)
  have hu8 : (A.deeper (envOfC "_law_does" (defScope s__law_does) s.heap.objs.size f cdv)).units + 8 < cLine := by have := hr.units; omega
  have hu4 : (A.deeper (envOfC "_law_does" (defScope s__law_does) s.heap.objs.size f cdv)).units + 4 < cLine := by walk_at "o"
  unfold rx__law_does
  exact (x_one (x_if (p_tcmpV (x_eq hu8) (p_v 1) p_str (nomark _)) (x_one (x_meth cxOf_W MX_Plain_put no_Plain_put (hr.mono (by decide)) (p_v 0) (a_cons (p_v 2) (a_cons p_str a_nil)))) (x_one (x_if (p_tcmpV (x_eq hu8) (p_v 1) p_str (nomark _)) (x_one (x_meth cxOf_W MX_Plain_strike no_Plain_strike (hr.mono (by decide)) (p_v 0) (a_cons (p_v 2) (a_cons (p_v 3) a_nil)))) (x_one (x_if (p_tcmpV (x_eq hu8) (p_v 1) p_str (nomark _)) (x_one (x_meth cxOf_W MX_Plain_dress no_Plain_dress (hr.mono (by decide)) (p_v 0) (a_cons (p_v 2) (a_cons (p_v 3) (a_cons p_str a_nil))))) (x_one (x_meth cxOf_W MX_Plain_move no_Plain_move (hr.mono (by decide)) (p_v 0) (a_cons (p_v 2) (a_cons (p_v 3) (a_cons (p_v 4) a_nil)))))))))))
theorem ok__law_refused {f : Addr} {fd : FuncData} {C_Plain : Addr} {C_QuillError : Addr} {C_OutOfPlace : Addr} {C_NoStroke : Addr} {C_Decided : Addr} {C_NotYours : Addr} {C_Twice : Addr} {C_Leaned : Addr} {C_OtherText : Addr} {C_NoNote : Addr} {C_TooDeep : Addr} {C_NoPaper : Addr} {C_NoRow : Addr} (F : Fun3 K "_law_refused" "_law_refused" s__law_refused f fd) (T : Tx K mg C_Plain C_QuillError C_OutOfPlace C_NoStroke C_Decided C_NotYours C_Twice C_Leaned C_OtherText C_NoNote C_TooDeep C_NoPaper C_NoRow) (FX__law_does : FnX P w K mg base 5 "_law_does" (fun ds G Q EQ => sp__law_does C_Plain ds G Q ∨ spx__law_does C_Plain C_OutOfPlace ds G Q EQ))
    (rok : ∀ ds G Q, sp__law_refused C_Plain ds G Q → rd__law_refused C_Plain C_QuillError C_OutOfPlace C_NoStroke C_Decided C_NotYours C_Twice C_Leaned C_OtherText C_NoNote C_TooDeep C_NoPaper C_NoRow { nx := fun _ G' => Q .non G', rt := Q } (start3 ["_law_plain", "_law_word", "_law_at", "_law_to", "_law_goal", "e", "_law_other"] ds) G) (len : ∀ ds G Q, sp__law_refused C_Plain ds G Q → ds.length = 5) : FnOk P w K mg base CX0 6 f fd ["_law_plain", "_law_word", "_law_at", "_law_to", "_law_goal"] (liftSp K (sp__law_refused C_Plain)) := by
  refine Fun3.ok3 F sc__law_refused len (fun cdv A outer s H E hr => ⟨rd__law_refused C_Plain C_QuillError C_OutOfPlace C_NoStroke C_Decided C_NotYours C_Twice C_Leaned C_OtherText C_NoNote C_TooDeep C_NoPaper C_NoRow, ?_, rok⟩)
  have hu8 : (A.deeper (envOfC "_law_refused" (defScope s__law_refused) s.heap.objs.size f cdv)).units + 8 < cLine := by have := hr.units; omega
  have hu4 : (A.deeper (envOfC "_law_refused" (defScope s__law_refused) s.heap.objs.size f cdv)).units + 4 < cLine := by walk_at "o"
  unfold rd__law_refused
  exact (q_cons (q_try (ok := fun C a => C = C_OutOfPlace ∧ a = "at") FX__law_does (hr.mono (by decide)) (by rfl) (a_cons (p_v 0) (a_cons (p_v 1) (a_cons (p_v 2) (a_cons (p_v 3) (a_cons (p_v 4) a_nil))))) rfl rfl sc__law_refused.nd (i := 5) rfl rfl (by rfl) T.xm_QuillError (fun C a h => by obtain ⟨rfl, rfl⟩ := h; exact T.xe_OutOfPlace_QuillError)
      (fun C a z x o dx od h hx => by obtain ⟨rfl, rfl⟩ := h; exact (q_cons (q_set (i := 6) sc__law_refused.nd rfl (by first | exact Or.inl rfl | exact Or.inr rfl) (p_or (p_callB (b_isX hx T.xa_OutOfPlace (.inl ⟨_, rfl⟩) T.xk_NoStroke) (by rfl) T.b_isinstance boot_isinstance (a_cons (p_v 5) (a_cons (p_clsX (by rfl) T.xm_NoStroke) a_nil))) (p_or (p_callB (b_isX hx T.xa_OutOfPlace (.inl ⟨_, rfl⟩) T.xk_Decided) (by rfl) T.b_isinstance boot_isinstance (a_cons (p_v 5) (a_cons (p_clsX (by rfl) T.xm_Decided) a_nil))) (p_one (p_callB (b_isX hx T.xa_OutOfPlace (.inl ⟨_, rfl⟩) T.xk_NotYours) (by rfl) T.b_isinstance boot_isinstance (a_cons (p_v 5) (a_cons (p_clsX (by rfl) T.xm_NotYours) a_nil)))))))
      (q_cons (q_set (i := 6) sc__law_refused.nd rfl (by first | exact Or.inl rfl | exact Or.inr rfl) (p_or (p_v 6) (p_or (p_callB (b_isX hx T.xa_OutOfPlace (.inl ⟨_, rfl⟩) T.xk_Leaned) (by rfl) T.b_isinstance boot_isinstance (a_cons (p_v 5) (a_cons (p_clsX (by rfl) T.xm_Leaned) a_nil))) (p_or (p_callB (b_isX hx T.xa_OutOfPlace (.inl ⟨_, rfl⟩) T.xk_OtherText) (by rfl) T.b_isinstance boot_isinstance (a_cons (p_v 5) (a_cons (p_clsX (by rfl) T.xm_OtherText) a_nil))) (p_one (p_callB (b_isX hx T.xa_OutOfPlace (.inl ⟨_, rfl⟩) T.xk_Twice) (by rfl) T.b_isinstance boot_isinstance (a_cons (p_v 5) (a_cons (p_clsX (by rfl) T.xm_Twice) a_nil))))))))
      (q_cons (q_set (i := 6) sc__law_refused.nd rfl (by first | exact Or.inl rfl | exact Or.inr rfl) (p_or (p_v 6) (p_or (p_callB (b_isX hx T.xa_OutOfPlace (.inl ⟨_, rfl⟩) T.xk_NoNote) (by rfl) T.b_isinstance boot_isinstance (a_cons (p_v 5) (a_cons (p_clsX (by rfl) T.xm_NoNote) a_nil))) (p_or (p_callB (b_isX hx T.xa_OutOfPlace (.inl ⟨_, rfl⟩) T.xk_TooDeep) (by rfl) T.b_isinstance boot_isinstance (a_cons (p_v 5) (a_cons (p_clsX (by rfl) T.xm_TooDeep) a_nil))) (p_one (p_callB (b_isX hx T.xa_OutOfPlace (.inl ⟨_, rfl⟩) T.xk_NoPaper) (by rfl) T.b_isinstance boot_isinstance (a_cons (p_v 5) (a_cons (p_clsX (by rfl) T.xm_NoPaper) a_nil))))))))
      (q_cons (q_if (PW.pt (w_or (p_tnot (p_ttruth (p_callB (b_isX hx T.xa_OutOfPlace (.inl ⟨_, rfl⟩) T.xk_OutOfPlace) (by rfl) T.b_isinstance boot_isinstance (a_cons (p_v 5) (a_cons (p_clsX (by rfl) T.xm_OutOfPlace) a_nil))))) (w_or (p_tnot (p_ttruth (p_callB (b_isX hx T.xa_OutOfPlace (.inr ⟨_, rfl⟩) T.xk_ValueError) (by rfl) T.b_isinstance boot_isinstance (a_cons (p_v 5) (a_cons (p_ty (by rfl) T.b_ValueError boot_VE) a_nil))))) (w_or (p_ttruth (p_v 6)) (w_or1 (p_ttruth (p_callB (b_isX hx T.xa_OutOfPlace (.inl ⟨_, rfl⟩) T.xk_NoRow) (by rfl) T.b_isinstance boot_isinstance (a_cons (p_v 5) (a_cons (p_clsX (by rfl) T.xm_NoRow) a_nil))))))))) (q_one (q_ret (p_lst (a_cons p_str a_nil)))) q_nil)
      (q_one (q_ret (p_lst (a_cons (p_xat hx T.xa_OutOfPlace (p_v 5)) a_nil))))))))))
      (q_one (q_ret (p_lst a_nil))))
theorem ok_Plain_rows {f : Addr} {fd : FuncData} {C_Plain : Addr} {C_QuillError : Addr} {C_OutOfPlace : Addr} {C_NoStroke : Addr} {C_Decided : Addr} {C_NotYours : Addr} {C_Twice : Addr} {C_Leaned : Addr} {C_OtherText : Addr} {C_NoNote : Addr} {C_TooDeep : Addr} {C_NoPaper : Addr} {C_NoRow : Addr} (F : Fun3 K "rows" "Plain.rows" s_Plain_rows f fd) (T : Tx K mg C_Plain C_QuillError C_OutOfPlace C_NoStroke C_Decided C_NotYours C_Twice C_Leaned C_OtherText C_NoNote C_TooDeep C_NoPaper C_NoRow) 
    (rok : ∀ ds G Q, sp_Plain_rows C_Plain ds G Q → rd_Plain_rows C_Plain { nx := fun _ G' => Q .non G', rt := Q } (start3 ["self"] ds) G) (len : ∀ ds G Q, sp_Plain_rows C_Plain ds G Q → ds.length = 1) : FnOk P w K mg base CX0 1 f fd ["self"] (liftSp K (sp_Plain_rows C_Plain)) := by
  refine Fun3.ok3 F sc_Plain_rows len (fun cdv A outer s H E hr => ⟨rd_Plain_rows C_Plain, ?_, rok⟩)
  have hu8 : (A.deeper (envOfC "Plain.rows" (defScope s_Plain_rows) s.heap.objs.size f cdv)).units + 8 < cLine := by have := hr.units; omega
  have hu4 : (A.deeper (envOfC "Plain.rows" (defScope s_Plain_rows) s.heap.objs.size f cdv)).units + 4 < cLine := by walk_at "o"
  unfold rd_Plain_rows
  exact (q_one (q_ret (p_callTy b_list (by rfl) T.b_list PyProof.Rows.boot_list (a_cons (p_fld T.cl_Plain T.na_Plain_worn at_Plain_worn (p_v 0)) a_nil))))
theorem ok_Plain___init__ {f : Addr} {fd : FuncData} {C_Plain : Addr} {C_QuillError : Addr} {C_OutOfPlace : Addr} {C_NoStroke : Addr} {C_Decided : Addr} {C_NotYours : Addr} {C_Twice : Addr} {C_Leaned : Addr} {C_OtherText : Addr} {C_NoNote : Addr} {C_TooDeep : Addr} {C_NoPaper : Addr} {C_NoRow : Addr} (F : Fun3 K "__init__" "Plain.__init__" s_Plain___init__ f fd) (T : Tx K mg C_Plain C_QuillError C_OutOfPlace C_NoStroke C_Decided C_NotYours C_Twice C_Leaned C_OtherText C_NoNote C_TooDeep C_NoPaper C_NoRow) (F_undressed : Fn3 P w K mg base 1 "undressed" [] (sp_undressed C_Plain))
    (rok : ∀ ds G Q, sp_Plain___init__ C_Plain ds G Q → rd_Plain___init__ C_Plain { nx := fun _ G' => Q .non G', rt := Q } (start3 ["self", "text"] ds) G) (len : ∀ ds G Q, sp_Plain___init__ C_Plain ds G Q → ds.length = 2) : FnOk P w K mg base CX0 2 f fd ["self", "text"] (liftSp K (sp_Plain___init__ C_Plain)) := by
  refine Fun3.ok3 F sc_Plain___init__ len (fun cdv A outer s H E hr => ⟨rd_Plain___init__ C_Plain, ?_, rok⟩)
  have hu8 : (A.deeper (envOfC "Plain.__init__" (defScope s_Plain___init__) s.heap.objs.size f cdv)).units + 8 < cLine := by have := hr.units; omega
  have hu4 : (A.deeper (envOfC "Plain.__init__" (defScope s_Plain___init__) s.heap.objs.size f cdv)).units + 4 < cLine := by walk_at "o"
  unfold rd_Plain___init__
  exact (q_one (q_fldN (L := []) T.cl_Plain T.na_Plain_worn (by decide +kernel) (by decide) (p_v 0) (p_call F_undressed (hr.mono (by decide)) (by rfl) (a_cons (p_v 1) a_nil))))
theorem ok_law {f : Addr} {fd : FuncData} {C_Plain : Addr} {C_QuillError : Addr} {C_OutOfPlace : Addr} {C_NoStroke : Addr} {C_Decided : Addr} {C_NotYours : Addr} {C_Twice : Addr} {C_Leaned : Addr} {C_OtherText : Addr} {C_NoNote : Addr} {C_TooDeep : Addr} {C_NoPaper : Addr} {C_NoRow : Addr} (F : Fun3 K "law" "law" s_law f fd) (T : Tx K mg C_Plain C_QuillError C_OutOfPlace C_NoStroke C_Decided C_NotYours C_Twice C_Leaned C_OtherText C_NoNote C_TooDeep C_NoPaper C_NoRow) (F__law_drawn : Fn3 P w K mg base 1 "_law_drawn" [] (sp__law_drawn C_Plain)) (F__law_due : Fn3 P w K mg base 1 "_law_due" [] (sp__law_due C_Plain)) (F__law_number : Fn3 P w K mg base 2 "_law_number" [] (sp__law_number C_Plain)) (F__law_refused : Fn3 P w K mg base 6 "_law_refused" [] (sp__law_refused C_Plain)) (Mt_Plain_rows : Mt3 P w K mg base 1 C_Plain "rows" [] (sp_Plain_rows C_Plain)) (M_Plain : Mk3 P w K mg base 2 "Plain" C_Plain [] (sp_Plain___init__ C_Plain))
    (rok : ∀ ds G Q, sp_law C_Plain ds G Q → rd_law C_Plain { nx := fun _ G' => Q .non G', rt := Q } (start3 ["_law_script", "_law_cell", "_law_plain", "_law_rows", "_law_word", "_law_at", "_law_to", "_law_goal", "_law_due_here"] ds) G) (len : ∀ ds G Q, sp_law C_Plain ds G Q → ds.length = 1) : FnOk P w K mg base CX0 7 f fd ["_law_script"] (liftSp K (sp_law C_Plain)) := by
  refine Fun3.ok3 F sc_law len (fun cdv A outer s H E hr => ⟨rd_law C_Plain, ?_, rok⟩)
  have hu8 : (A.deeper (envOfC "law" (defScope s_law) s.heap.objs.size f cdv)).units + 8 < cLine := by have := hr.units; omega
  have hu4 : (A.deeper (envOfC "law" (defScope s_law) s.heap.objs.size f cdv)).units + 4 < cLine := by walk_at "o"
  unfold rd_law
  exact (q_cons (q_set (i := 1) sc_law.nd rfl (by first | exact Or.inl rfl | exact Or.inr rfl) (p_callB (b_sum rfl) (by rfl) T.b_sum boot_sum (a_cons (p_slice x_sl (p_v 0) o_none (o_some p_int)) a_nil)))
      (q_cons (q_set (i := 2) sc_law.nd rfl (by first | exact Or.inl rfl | exact Or.inr rfl) (p_make M_Plain (hr.mono (by decide)) (by rfl) (a_cons (p_op x_add (p_op x_mul (p_slice x_sl p_str o_none (o_some (p_op x_add p_int (p_op x_mod (p_op x_div (p_v 1) p_int) p_int)))) (p_op x_div (p_op x_mod (p_v 1) p_int) p_int)) (p_op x_mul p_str (p_op x_mod (p_op x_mod (p_v 1) p_int) p_int))) a_nil)))
      (q_cons (q_for PassesOwn.never rfl (i_seq (p_slice x_sl (p_v 0) (o_some p_int) (o_some p_int))) (g_name (i := 1) sc_law.nd rfl (by first | exact Or.inl rfl | exact Or.inr rfl)) (q_cons (q_set (i := 3) sc_law.nd rfl (by first | exact Or.inl rfl | exact Or.inr rfl) (p_callTy b_list (by rfl) T.b_list PyProof.Rows.boot_list (a_cons (p_meth0 Mt_Plain_rows no_Plain_rows (hr.mono (by decide)) (p_v 2)) a_nil)))
      (q_cons (q_set (i := 4) sc_law.nd rfl (by first | exact Or.inl rfl | exact Or.inr rfl) (p_ix (p_lst (a_cons p_str (a_cons p_str (a_cons p_str (a_cons p_str a_nil))))) (p_op x_mod (p_call F__law_drawn (hr.mono (by decide)) (by rfl) (a_cons (p_v 1) (a_cons p_int a_nil))) p_int)))
      (q_cons (q_set (i := 5) sc_law.nd rfl (by first | exact Or.inl rfl | exact Or.inr rfl) (p_call F__law_number (hr.mono (by decide)) (by rfl) (a_cons (p_v 1) (a_cons p_int (a_cons (p_callB b_len (by rfl) T.b_len PySem.boot_len (a_cons (p_v 3) a_nil)) a_nil)))))
      (q_cons (q_set (i := 6) sc_law.nd rfl (by first | exact Or.inl rfl | exact Or.inr rfl) (p_call F__law_number (hr.mono (by decide)) (by rfl) (a_cons (p_v 1) (a_cons p_int (a_cons (p_callB b_len (by rfl) T.b_len PySem.boot_len (a_cons (p_v 3) a_nil)) a_nil)))))
      (q_cons (q_if (p_tcmpV (x_eq hu8) (p_op x_mod (p_call F__law_drawn (hr.mono (by decide)) (by rfl) (a_cons (p_v 1) (a_cons p_int a_nil))) p_int) p_int (nomark _)) (q_one (q_set (i := 6) sc_law.nd rfl (by first | exact Or.inl rfl | exact Or.inr rfl) (p_op x_add (p_op x_add (p_v 5) p_int) (p_op x_mod (p_call F__law_drawn (hr.mono (by decide)) (by rfl) (a_cons (p_v 1) (a_cons p_int a_nil))) p_int)))) q_nil)
      (q_cons (q_set (i := 7) sc_law.nd rfl (by first | exact Or.inl rfl | exact Or.inr rfl) (p_call F__law_number (hr.mono (by decide)) (by rfl) (a_cons (p_v 1) (a_cons p_int (a_cons (p_callB b_len (by rfl) T.b_len PySem.boot_len (a_cons (p_v 3) a_nil)) a_nil)))))
      (q_cons (q_set (i := 8) sc_law.nd rfl (by first | exact Or.inl rfl | exact Or.inr rfl) (p_call F__law_due (hr.mono (by decide)) (by rfl) (a_cons (p_v 4) (a_cons (p_v 5) (a_cons (p_v 6) (a_cons (p_v 7) (a_cons (p_callB b_len (by rfl) T.b_len PySem.boot_len (a_cons (p_v 3) a_nil)) a_nil)))))))
      (q_cons (q_if (p_tcmpV (x_ne hu8) (p_call F__law_refused (hr.mono (by decide)) (by rfl) (a_cons (p_v 2) (a_cons (p_v 4) (a_cons (p_v 5) (a_cons (p_v 6) (a_cons (p_v 7) a_nil)))))) (p_v 8) (nomark _)) (q_one (q_ret p_bl)) q_nil)
      (q_cons (q_if (PW.pt (w_and (p_tcmpV (x_ne hu8) (p_v 8) (p_lst a_nil) (nomark _)) (w_and1 (p_tcmpV (x_ne hu8) (p_meth0 Mt_Plain_rows no_Plain_rows (hr.mono (by decide)) (p_v 2)) (p_v 3) (nomark _))))) (q_one (q_ret p_bl)) q_nil)
      (q_one (q_if (PW.pt (w_and (p_tcmpV (x_eq hu8) (p_v 8) (p_lst a_nil) (nomark _)) (w_and (p_tcmpV (x_ne hu8) (p_v 4) p_str (nomark _)) (w_and (p_tcmpV (x_ne hu8) (p_v 4) p_str (nomark _)) (w_and1 (p_tcmpV (x_eq hu8) (p_callB b_len (by rfl) T.b_len PySem.boot_len (a_cons (p_meth0 Mt_Plain_rows no_Plain_rows (hr.mono (by decide)) (p_v 2)) a_nil)) (p_callB b_len (by rfl) T.b_len PySem.boot_len (a_cons (p_v 3) a_nil)) (nomark _))))))) (q_one (q_ret p_bl)) q_nil))))))))))))
      (q_one (q_ret p_bl)))))
end
theorem us_1 {α : Type} : ∀ {us : List α}, us.length = 1 → ∃ a0, us = [a0]
  | [a0], _ => ⟨a0, rfl⟩
theorem us_2 {α : Type} : ∀ {us : List α}, us.length = 2 → ∃ a0 a1, us = [a0, a1]
  | [a0, a1], _ => ⟨a0, a1, rfl⟩
theorem us_3 {α : Type} : ∀ {us : List α}, us.length = 3 → ∃ a0 a1 a2, us = [a0, a1, a2]
  | [a0, a1, a2], _ => ⟨a0, a1, a2, rfl⟩
theorem us_4 {α : Type} : ∀ {us : List α}, us.length = 4 → ∃ a0 a1 a2 a3, us = [a0, a1, a2, a3]
  | [a0, a1, a2, a3], _ => ⟨a0, a1, a2, a3, rfl⟩
theorem us_5 {α : Type} : ∀ {us : List α}, us.length = 5 → ∃ a0 a1 a2 a3 a4, us = [a0, a1, a2, a3, a4]
  | [a0, a1, a2, a3, a4], _ => ⟨a0, a1, a2, a3, a4, rfl⟩
theorem lenx_check_gap (C_Plain : Addr) (C_OutOfPlace : Addr) : ∀ ds G Q EQ, spx_check_gap C_Plain C_OutOfPlace ds G Q EQ → ds.length = 2 := by
  intro ds G Q EQ h
  unfold spx_check_gap at h
  split at h
  all_goals first | rfl | exact h.elim
theorem lenx_Plain_put (C_Plain : Addr) (C_OutOfPlace : Addr) : ∀ ds G Q EQ, spx_Plain_put C_Plain C_OutOfPlace ds G Q EQ → ds.length = 3 := by
  intro ds G Q EQ h
  unfold spx_Plain_put at h
  split at h
  all_goals first | rfl | exact h.elim
theorem lenx_check_stretch (C_Plain : Addr) (C_OutOfPlace : Addr) : ∀ ds G Q EQ, spx_check_stretch C_Plain C_OutOfPlace ds G Q EQ → ds.length = 3 := by
  intro ds G Q EQ h
  unfold spx_check_stretch at h
  split at h
  all_goals first | rfl | exact h.elim
theorem lenx_Plain_strike (C_Plain : Addr) (C_OutOfPlace : Addr) : ∀ ds G Q EQ, spx_Plain_strike C_Plain C_OutOfPlace ds G Q EQ → ds.length = 3 := by
  intro ds G Q EQ h
  unfold spx_Plain_strike at h
  split at h
  all_goals first | rfl | exact h.elim
theorem lenx_Plain_dress (C_Plain : Addr) (C_OutOfPlace : Addr) : ∀ ds G Q EQ, spx_Plain_dress C_Plain C_OutOfPlace ds G Q EQ → ds.length = 4 := by
  intro ds G Q EQ h
  unfold spx_Plain_dress at h
  split at h
  all_goals first | rfl | exact h.elim
theorem lenx_Plain_move (C_Plain : Addr) (C_OutOfPlace : Addr) : ∀ ds G Q EQ, spx_Plain_move C_Plain C_OutOfPlace ds G Q EQ → ds.length = 4 := by
  intro ds G Q EQ h
  unfold spx_Plain_move at h
  split at h
  all_goals first | rfl | exact h.elim
theorem lenx__law_does (C_Plain : Addr) (C_OutOfPlace : Addr) : ∀ ds G Q EQ, spx__law_does C_Plain C_OutOfPlace ds G Q EQ → ds.length = 5 := by
  intro ds G Q EQ h
  unfold spx__law_does at h
  split at h
  all_goals first | rfl | exact h.elim
theorem len__law_drawn (C_Plain : Addr) : ∀ ds G Q, sp__law_drawn C_Plain ds G Q → ds.length = 2 := by
  intro ds G Q h
  unfold sp__law_drawn at h
  split at h
  all_goals first | rfl | exact h.elim
theorem len__law_number (C_Plain : Addr) : ∀ ds G Q, sp__law_number C_Plain ds G Q → ds.length = 3 := by
  intro ds G Q h
  unfold sp__law_number at h
  split at h
  all_goals first | rfl | exact h.elim
theorem len__law_due (C_Plain : Addr) : ∀ ds G Q, sp__law_due C_Plain ds G Q → ds.length = 5 := by
  intro ds G Q h
  unfold sp__law_due at h
  split at h
  all_goals first | rfl | exact h.elim
theorem len_check_gap (C_Plain : Addr) : ∀ ds G Q, sp_check_gap C_Plain ds G Q → ds.length = 2 := by
  intro ds G Q h
  unfold sp_check_gap at h
  split at h
  all_goals first | rfl | exact h.elim
theorem len_undressed (C_Plain : Addr) : ∀ ds G Q, sp_undressed C_Plain ds G Q → ds.length = 1 := by
  intro ds G Q h
  unfold sp_undressed at h
  split at h
  all_goals first | rfl | exact h.elim
theorem len_Plain_put (C_Plain : Addr) : ∀ ds G Q, sp_Plain_put C_Plain ds G Q → ds.length = 3 := by
  intro ds G Q h
  unfold sp_Plain_put at h
  split at h
  all_goals first | rfl | exact h.elim
theorem len_check_stretch (C_Plain : Addr) : ∀ ds G Q, sp_check_stretch C_Plain ds G Q → ds.length = 3 := by
  intro ds G Q h
  unfold sp_check_stretch at h
  split at h
  all_goals first | rfl | exact h.elim
theorem len_Plain_strike (C_Plain : Addr) : ∀ ds G Q, sp_Plain_strike C_Plain ds G Q → ds.length = 3 := by
  intro ds G Q h
  unfold sp_Plain_strike at h
  split at h
  all_goals first | rfl | exact h.elim
theorem len_Plain_dress (C_Plain : Addr) : ∀ ds G Q, sp_Plain_dress C_Plain ds G Q → ds.length = 4 := by
  intro ds G Q h
  unfold sp_Plain_dress at h
  split at h
  all_goals first | rfl | exact h.elim
theorem len_Plain_move (C_Plain : Addr) : ∀ ds G Q, sp_Plain_move C_Plain ds G Q → ds.length = 4 := by
  intro ds G Q h
  unfold sp_Plain_move at h
  split at h
  all_goals first | rfl | exact h.elim
theorem len__law_does (C_Plain : Addr) : ∀ ds G Q, sp__law_does C_Plain ds G Q → ds.length = 5 := by
  intro ds G Q h
  unfold sp__law_does at h
  split at h
  all_goals first | rfl | exact h.elim
theorem len__law_refused (C_Plain : Addr) : ∀ ds G Q, sp__law_refused C_Plain ds G Q → ds.length = 5 := by
  intro ds G Q h
  unfold sp__law_refused at h
  split at h
  all_goals first | rfl | exact h.elim
theorem len_Plain_rows (C_Plain : Addr) : ∀ ds G Q, sp_Plain_rows C_Plain ds G Q → ds.length = 1 := by
  intro ds G Q h
  unfold sp_Plain_rows at h
  split at h
  all_goals first | rfl | exact h.elim
theorem len_Plain___init__ (C_Plain : Addr) : ∀ ds G Q, sp_Plain___init__ C_Plain ds G Q → ds.length = 2 := by
  intro ds G Q h
  unfold sp_Plain___init__ at h
  split at h
  all_goals first | rfl | exact h.elim
theorem len_law (C_Plain : Addr) : ∀ ds G Q, sp_law C_Plain ds G Q → ds.length = 1 := by
  intro ds G Q h
  unfold sp_law at h
  split at h
  all_goals first | rfl | exact h.elim
theorem all_mk {P : Program} {w : World} {K : PySem.W.Frag} {h : Heap} {mg : Str → Option Value} {fa : Addr} {C_Plain C_QuillError C_OutOfPlace C_NoStroke C_Decided C_NotYours C_Twice C_Leaned C_OtherText C_NoNote C_TooDeep C_NoPaper C_NoRow e0f e0N f0 f1 f2 f3 f4 f5 f6 f7 f8 t8 f9 f10 f11 f12 f13 f14 : Addr} {e0od e0an e0dd od0 an0 od1 an1 od2 an2 od3 an3 od4 an4 od5 an5 od6 an6 od7 an7 od8 an8 odt8 od9 an9 od10 an10 od11 an11 od12 an12 od13 an13 od14 an14 : Option Addr} {e0sl sl0 sl1 sl2 sl3 sl4 sl5 sl6 sl7 sl8 slt8 sl9 sl10 sl11 sl12 sl13 sl14 : Array (Option Value)} {e0oc e0kV e0dc e0pm e0cd e0ct oc0 kV0 dc0 pm0 cd0 ct0 oc1 kV1 dc1 pm1 cd1 ct1 oc2 kV2 dc2 pm2 cd2 ct2 oc3 kV3 dc3 pm3 cd3 ct3 oc4 kV4 dc4 pm4 cd4 ct4 oc5 kV5 dc5 pm5 cd5 ct5 oc6 kV6 dc6 pm6 cd6 ct6 oc7 kV7 dc7 pm7 cd7 ct7 oc8 kV8 dc8 pm8 cd8 ct8 oct8 oc9 kV9 dc9 pm9 cd9 ct9 oc10 kV10 dc10 pm10 cd10 ct10 oc11 kV11 dc11 pm11 cd11 ct11 oc12 kV12 dc12 pm12 cd12 ct12 oc13 kV13 dc13 pm13 cd13 ct13 oc14 kV14 dc14 pm14 cd14 ct14 : Value} {tk8_0 : Tok} {nt8 : Nat} {e0nm e0q : Str} {e0bs e0bm e0sub : List Value} {e0hd e0ab : Bool} {e0sn : List Str} {e0col : Option Bool} {e0k0 e0k1 e0k2 e0k3 e0k5 : Option Value} {e0cls : ClassData} (X : K.In h) (G : h.Ns mainGlobals mg) (hfa : mg "law" = some (.ref fa))
    (c0a : PySem.W.nsIn K mainGlobals "Plain" = some (some (.ref C_Plain)))
    (x0a : PySem.W.nsIn K mainGlobals "QuillError" = some (some (.ref C_QuillError)))
    (x1a : PySem.W.nsIn K mainGlobals "OutOfPlace" = some (some (.ref C_OutOfPlace)))
    (x2a : PySem.W.nsIn K mainGlobals "NoStroke" = some (some (.ref C_NoStroke)))
    (x3a : PySem.W.nsIn K mainGlobals "Decided" = some (some (.ref C_Decided)))
    (x4a : PySem.W.nsIn K mainGlobals "NotYours" = some (some (.ref C_NotYours)))
    (x5a : PySem.W.nsIn K mainGlobals "Twice" = some (some (.ref C_Twice)))
    (x6a : PySem.W.nsIn K mainGlobals "Leaned" = some (some (.ref C_Leaned)))
    (x7a : PySem.W.nsIn K mainGlobals "OtherText" = some (some (.ref C_OtherText)))
    (x8a : PySem.W.nsIn K mainGlobals "NoNote" = some (some (.ref C_NoNote)))
    (x9a : PySem.W.nsIn K mainGlobals "TooDeep" = some (some (.ref C_TooDeep)))
    (x10a : PySem.W.nsIn K mainGlobals "NoPaper" = some (some (.ref C_NoPaper)))
    (x11a : PySem.W.nsIn K mainGlobals "NoRow" = some (some (.ref C_NoRow)))
    (e0hxl : K.lookup C_OutOfPlace = some (PySem.excClassObj e0nm e0q C_OutOfPlace e0N e0bs e0bm e0hd e0sn e0sub e0ab e0col e0dd e0k0 e0k1 e0k2 e0k3 e0k5 "ValueError.__new__"))
    (e0hxt : PySem.W.tailIn K L2.veMro e0bm = true)
    (e0hxb : e0bm.contains (.type "BaseException") = true)
    (e0hxi : PySem.W.findIn K (.ref C_OutOfPlace) "__init__" = some (some (.ref e0f)))
    (e0hxfn : PySem.W.typeIn K (.ref e0f) = some (.type "function"))
    (e0hxkp : PySem.W.keepIn K (.ref C_OutOfPlace) = true)
    (e0hxsa : PySem.W.findIn K (.ref C_OutOfPlace) "__setattr__" = some (some (.builtin "object.__setattr__")))
    (e0hxc : PySem.W.clsIn K C_OutOfPlace = some e0cls)
    (e0hxc1 : e0cls.hasDict = true)
    (e0hxc2 : ∀ x, PySem.refuseLoop (.ref x) "__setattr__" e0cls.mro = pure ())
    (e0hxc3 : e0cls.mro.contains (.type "object") = true)
    (e0hxc4 : e0cls.mro.isEmpty = false)
    (e0hxtk : PySem.W.takerIn K C_OutOfPlace "at" = some none)
    (e0hl : K.lookup e0f = some ⟨e0oc, e0od, .func (PySem.W.fnOf "__init__" "OutOfPlace.__init__" (defArgs s_OutOfPlace___init__) (defBody s_OutOfPlace___init__) (defScope s_OutOfPlace___init__) .none e0kV e0dc e0pm e0an e0cd e0ct), e0sl⟩)
    (e0hc : PySem.W.codeIn K e0cd "OutOfPlace.__init__" = true)
    (e0hga : PySem.W.findIn K (.ref C_OutOfPlace) "__getattribute__" = some (some (.builtin "BaseException.__getattribute__")))
    (e0hgt : PySem.W.findIn K (.ref C_OutOfPlace) "__getattr__" = some none)
    (e0hbe : PySem.W.mroIn K C_OutOfPlace (.type "BaseException") = some true)
    (e0hhdi : PySem.W.hasDictIn K C_OutOfPlace = true)
    (e0hca : PySem.W.findIn K (.ref C_OutOfPlace) "__class__" = some (some (.builtin "object.__class__")))
    (e0hgs : PySem.W.specialIn K (.builtin "object.__class__") "__get__" = some (some (.builtin "getset_descriptor.__get__")))
    (e0htt : PySem.W.takesIn K (.builtin "object.__class__") = some true)
    (e0hmo : PySem.W.mroIn K C_OutOfPlace (.type "object") = some true)
    (e0hfa : PySem.W.findIn K (.ref C_OutOfPlace) "at" = some none)
    (e0hxe : PySem.W.exmOne K (.ref C_OutOfPlace) (.ref C_QuillError) = some true)
    (xk_Decided : PySem.W.kitOne K (.ref C_OutOfPlace) (.ref C_Decided) = some false)
    (xk_Leaned : PySem.W.kitOne K (.ref C_OutOfPlace) (.ref C_Leaned) = some false)
    (xk_NoNote : PySem.W.kitOne K (.ref C_OutOfPlace) (.ref C_NoNote) = some false)
    (xk_NoPaper : PySem.W.kitOne K (.ref C_OutOfPlace) (.ref C_NoPaper) = some false)
    (xk_NoRow : PySem.W.kitOne K (.ref C_OutOfPlace) (.ref C_NoRow) = some false)
    (xk_NoStroke : PySem.W.kitOne K (.ref C_OutOfPlace) (.ref C_NoStroke) = some false)
    (xk_NotYours : PySem.W.kitOne K (.ref C_OutOfPlace) (.ref C_NotYours) = some false)
    (xk_OtherText : PySem.W.kitOne K (.ref C_OutOfPlace) (.ref C_OtherText) = some false)
    (xk_OutOfPlace : PySem.W.kitOne K (.ref C_OutOfPlace) (.ref C_OutOfPlace) = some true)
    (xk_TooDeep : PySem.W.kitOne K (.ref C_OutOfPlace) (.ref C_TooDeep) = some false)
    (xk_Twice : PySem.W.kitOne K (.ref C_OutOfPlace) (.ref C_Twice) = some false)
    (xk_ValueError : PySem.W.kitOne K (.ref C_OutOfPlace) (.type "ValueError") = some true)
    (a0 : PySem.W.nsIn K mainGlobals "_law_drawn" = some (some (.ref f0)))
    (l0 : K.lookup f0 = some ⟨oc0, od0, .func (PySem.W.fnOf "_law_drawn" "_law_drawn" (defArgs s__law_drawn) (defBody s__law_drawn) (defScope s__law_drawn) .none kV0 dc0 pm0 an0 cd0 ct0), sl0⟩)
    (c0' : PySem.W.codeIn K cd0 "_law_drawn" = true)
    (k0 : PySem.W.keepIn K (.ref f0) = true)
    (a1 : PySem.W.nsIn K mainGlobals "_law_number" = some (some (.ref f1)))
    (l1 : K.lookup f1 = some ⟨oc1, od1, .func (PySem.W.fnOf "_law_number" "_law_number" (defArgs s__law_number) (defBody s__law_number) (defScope s__law_number) .none kV1 dc1 pm1 an1 cd1 ct1), sl1⟩)
    (c1' : PySem.W.codeIn K cd1 "_law_number" = true)
    (k1 : PySem.W.keepIn K (.ref f1) = true)
    (a2 : PySem.W.nsIn K mainGlobals "_law_due" = some (some (.ref f2)))
    (l2 : K.lookup f2 = some ⟨oc2, od2, .func (PySem.W.fnOf "_law_due" "_law_due" (defArgs s__law_due) (defBody s__law_due) (defScope s__law_due) .none kV2 dc2 pm2 an2 cd2 ct2), sl2⟩)
    (c2' : PySem.W.codeIn K cd2 "_law_due" = true)
    (k2 : PySem.W.keepIn K (.ref f2) = true)
    (a3 : PySem.W.nsIn K mainGlobals "check_gap" = some (some (.ref f3)))
    (l3 : K.lookup f3 = some ⟨oc3, od3, .func (PySem.W.fnOf "check_gap" "check_gap" (defArgs s_check_gap) (defBody s_check_gap) (defScope s_check_gap) .none kV3 dc3 pm3 an3 cd3 ct3), sl3⟩)
    (c3' : PySem.W.codeIn K cd3 "check_gap" = true)
    (k3 : PySem.W.keepIn K (.ref f3) = true)
    (a4 : PySem.W.nsIn K mainGlobals "undressed" = some (some (.ref f4)))
    (l4 : K.lookup f4 = some ⟨oc4, od4, .func (PySem.W.fnOf "undressed" "undressed" (defArgs s_undressed) (defBody s_undressed) (defScope s_undressed) .none kV4 dc4 pm4 an4 cd4 ct4), sl4⟩)
    (c4' : PySem.W.codeIn K cd4 "undressed" = true)
    (k4 : PySem.W.keepIn K (.ref f4) = true)
    (a5 : PySem.W.findIn K (.ref C_Plain) "put" = some (some (.ref f5)))
    (i5 : PySem.W.isFn K (.ref f5) = true)
    (l5 : K.lookup f5 = some ⟨oc5, od5, .func (PySem.W.fnOf "put" "Plain.put" (defArgs s_Plain_put) (defBody s_Plain_put) (defScope s_Plain_put) .none kV5 dc5 pm5 an5 cd5 ct5), sl5⟩)
    (c5' : PySem.W.codeIn K cd5 "Plain.put" = true)
    (k5 : PySem.W.keepIn K (.ref f5) = true)
    (a6 : PySem.W.nsIn K mainGlobals "check_stretch" = some (some (.ref f6)))
    (l6 : K.lookup f6 = some ⟨oc6, od6, .func (PySem.W.fnOf "check_stretch" "check_stretch" (defArgs s_check_stretch) (defBody s_check_stretch) (defScope s_check_stretch) .none kV6 dc6 pm6 an6 cd6 ct6), sl6⟩)
    (c6' : PySem.W.codeIn K cd6 "check_stretch" = true)
    (k6 : PySem.W.keepIn K (.ref f6) = true)
    (a7 : PySem.W.findIn K (.ref C_Plain) "strike" = some (some (.ref f7)))
    (i7 : PySem.W.isFn K (.ref f7) = true)
    (l7 : K.lookup f7 = some ⟨oc7, od7, .func (PySem.W.fnOf "strike" "Plain.strike" (defArgs s_Plain_strike) (defBody s_Plain_strike) (defScope s_Plain_strike) .none kV7 dc7 pm7 an7 cd7 ct7), sl7⟩)
    (c7' : PySem.W.codeIn K cd7 "Plain.strike" = true)
    (k7 : PySem.W.keepIn K (.ref f7) = true)
    (a8 : PySem.W.findIn K (.ref C_Plain) "dress" = some (some (.ref f8)))
    (i8 : PySem.W.isFn K (.ref f8) = true)
    (l8 : K.lookup f8 = some ⟨oc8, od8, .func (PySem.W.fnOf "dress" "Plain.dress" (defArgs s_Plain_dress) (defBody s_Plain_dress) (defScope s_Plain_dress) (.ref t8) kV8 dc8 pm8 an8 cd8 ct8), sl8⟩)
    (c8' : PySem.W.codeIn K cd8 "Plain.dress" = true)
    (k8 : PySem.W.keepIn K (.ref f8) = true)
    (d8 : K.lookup t8 = some ⟨oct8, odt8, .seq #[.str "" tk8_0] nt8, slt8⟩)
    (a9 : PySem.W.findIn K (.ref C_Plain) "move" = some (some (.ref f9)))
    (i9 : PySem.W.isFn K (.ref f9) = true)
    (l9 : K.lookup f9 = some ⟨oc9, od9, .func (PySem.W.fnOf "move" "Plain.move" (defArgs s_Plain_move) (defBody s_Plain_move) (defScope s_Plain_move) .none kV9 dc9 pm9 an9 cd9 ct9), sl9⟩)
    (c9' : PySem.W.codeIn K cd9 "Plain.move" = true)
    (k9 : PySem.W.keepIn K (.ref f9) = true)
    (a10 : PySem.W.nsIn K mainGlobals "_law_does" = some (some (.ref f10)))
    (l10 : K.lookup f10 = some ⟨oc10, od10, .func (PySem.W.fnOf "_law_does" "_law_does" (defArgs s__law_does) (defBody s__law_does) (defScope s__law_does) .none kV10 dc10 pm10 an10 cd10 ct10), sl10⟩)
    (c10' : PySem.W.codeIn K cd10 "_law_does" = true)
    (k10 : PySem.W.keepIn K (.ref f10) = true)
    (a11 : PySem.W.nsIn K mainGlobals "_law_refused" = some (some (.ref f11)))
    (l11 : K.lookup f11 = some ⟨oc11, od11, .func (PySem.W.fnOf "_law_refused" "_law_refused" (defArgs s__law_refused) (defBody s__law_refused) (defScope s__law_refused) .none kV11 dc11 pm11 an11 cd11 ct11), sl11⟩)
    (c11' : PySem.W.codeIn K cd11 "_law_refused" = true)
    (k11 : PySem.W.keepIn K (.ref f11) = true)
    (a12 : PySem.W.findIn K (.ref C_Plain) "rows" = some (some (.ref f12)))
    (i12 : PySem.W.isFn K (.ref f12) = true)
    (l12 : K.lookup f12 = some ⟨oc12, od12, .func (PySem.W.fnOf "rows" "Plain.rows" (defArgs s_Plain_rows) (defBody s_Plain_rows) (defScope s_Plain_rows) .none kV12 dc12 pm12 an12 cd12 ct12), sl12⟩)
    (c12' : PySem.W.codeIn K cd12 "Plain.rows" = true)
    (k12 : PySem.W.keepIn K (.ref f12) = true)
    (a13 : PySem.W.findIn K (.ref C_Plain) "__init__" = some (some (.ref f13)))
    (i13 : PySem.W.isFn K (.ref f13) = true)
    (l13 : K.lookup f13 = some ⟨oc13, od13, .func (PySem.W.fnOf "__init__" "Plain.__init__" (defArgs s_Plain___init__) (defBody s_Plain___init__) (defScope s_Plain___init__) .none kV13 dc13 pm13 an13 cd13 ct13), sl13⟩)
    (c13' : PySem.W.codeIn K cd13 "Plain.__init__" = true)
    (k13 : PySem.W.keepIn K (.ref f13) = true)
    (a14 : PySem.W.nsIn K mainGlobals "law" = some (some (.ref f14)))
    (l14 : K.lookup f14 = some ⟨oc14, od14, .func (PySem.W.fnOf "law" "law" (defArgs s_law) (defBody s_law) (defScope s_law) .none kV14 dc14 pm14 an14 cd14 ct14), sl14⟩)
    (c14' : PySem.W.codeIn K cd14 "law" = true)
    (k14 : PySem.W.keepIn K (.ref f14) = true)
    (c0pg : PySem.W.plainGet K C_Plain Str.empty = true)
    (c0hd : PySem.W.hasDictIn K C_Plain = true)
    (c0po : PySem.W.plainOver K C_Plain = true)
    (c0sa : PySem.W.findIn K (.ref C_Plain) "__setattr__" = some (some (.builtin "object.__setattr__")))
    (c0mk : PySem.W.makesIn K C_Plain = true)
    (c0kc : PySem.W.keepIn K (.ref C_Plain) = true)
    (c0n0 : PySem.W.findIn K (.ref C_Plain) "worn" = some none)
    (b_ValueError : PySem.W.nsIn K mainGlobals "ValueError" = some none)
    (b_isinstance : PySem.W.nsIn K mainGlobals "isinstance" = some none)
    (b_len : PySem.W.nsIn K mainGlobals "len" = some none)
    (b_list : PySem.W.nsIn K mainGlobals "list" = some none)
    (b_max : PySem.W.nsIn K mainGlobals "max" = some none)
    (b_min : PySem.W.nsIn K mainGlobals "min" = some none)
    (b_sum : PySem.W.nsIn K mainGlobals "sum" = some none) :
    ∃ fd : FuncData, (∀ (s : Shared) (v : Value), BindsTo s fd ⟨[v], []⟩ [("_law_script", v)]) ∧ ∀ base : Heap, K.In base → base.Ns mainGlobals mg → FnOk P w K mg base CX0 7 fa fd ["_law_script"] (liftSp K spLaw3) := by
  have e := hfa.symm.trans (PySem.W.mg_of X G a14)
  cases e
  have T : Tx K mg C_Plain C_QuillError C_OutOfPlace C_NoStroke C_Decided C_NotYours C_Twice C_Leaned C_OtherText C_NoNote C_TooDeep C_NoPaper C_NoRow := ⟨⟨c0pg, c0hd, c0po, c0sa⟩, c0n0, PySem.W.mg_none_of X G b_ValueError, PySem.W.mg_none_of X G b_isinstance, PySem.W.mg_none_of X G b_len, PySem.W.mg_none_of X G b_list, PySem.W.mg_none_of X G b_max, PySem.W.mg_none_of X G b_min, PySem.W.mg_none_of X G b_sum, PySem.W.mg_of X G x0a, PySem.W.mg_of X G x1a, PySem.W.mg_of X G x2a, PySem.W.mg_of X G x3a, PySem.W.mg_of X G x4a, PySem.W.mg_of X G x5a, PySem.W.mg_of X G x6a, PySem.W.mg_of X G x7a, PySem.W.mg_of X G x8a, PySem.W.mg_of X G x9a, PySem.W.mg_of X G x10a, PySem.W.mg_of X G x11a, ⟨⟨e0hga, e0hgt, e0hbe, e0hhdi⟩, e0hca, e0hgs, e0htt, e0hmo, e0hfa⟩, e0hxe, xk_Decided, xk_Leaned, xk_NoNote, xk_NoPaper, xk_NoRow, xk_NoStroke, xk_NotYours, xk_OtherText, xk_OutOfPlace, xk_TooDeep, xk_Twice, xk_ValueError⟩
  have F0 := fun3_mk (st := s__law_drawn) l0 c0'
  have F1 := fun3_mk (st := s__law_number) l1 c1'
  have F2 := fun3_mk (st := s__law_due) l2 c2'
  have F3 := fun3_mk (st := s_check_gap) l3 c3'
  have F4 := fun3_mk (st := s_undressed) l4 c4'
  have F5 := fun3_mk (st := s_Plain_put) l5 c5'
  have F6 := fun3_mk (st := s_check_stretch) l6 c6'
  have F7 := fun3_mk (st := s_Plain_strike) l7 c7'
  have F8 := fun3_mk (st := s_Plain_dress) l8 c8'
  have F9 := fun3_mk (st := s_Plain_move) l9 c9'
  have F10 := fun3_mk (st := s__law_does) l10 c10'
  have F11 := fun3_mk (st := s__law_refused) l11 c11'
  have F12 := fun3_mk (st := s_Plain_rows) l12 c12'
  have F13 := fun3_mk (st := s_Plain___init__) l13 c13'
  have F14 := fun3_mk (st := s_law) l14 c14'
  refine ⟨PySem.W.fnOf "law" "law" (defArgs s_law) (defBody s_law) (defScope s_law) .none kV14 dc14 pm14 an14 cd14 ct14, fun s v => .of_eq rfl, fun base _ _ => ?_⟩
  have O0 : FnOk P w K mg base CX0 1 f0 _ ["_law_cell", "_law_place"] (liftSp K (sp__law_drawn C_Plain)) := ok__law_drawn F0 T  (rok__law_drawn C_Plain) (len__law_drawn C_Plain)
  have F__law_drawn : Fn3 P w K mg base 1 "_law_drawn" [] (sp__law_drawn C_Plain) := ⟨_, _, _, [], [], O0, PySem.W.mg_of X G a0, k0, (.all fun us hl => by obtain ⟨_, _, rfl⟩ := us_2 (us := us) hl; rfl), .nil, fun _ => RDs.nil⟩
  have O1 : FnOk P w K mg base CX0 2 f1 _ ["_law_cell", "_law_place", "_law_many"] (liftSp K (sp__law_number C_Plain)) := ok__law_number F1 T F__law_drawn (rok__law_number C_Plain) (len__law_number C_Plain)
  have F__law_number : Fn3 P w K mg base 2 "_law_number" [] (sp__law_number C_Plain) := ⟨_, _, _, [], [], O1, PySem.W.mg_of X G a1, k1, (.all fun us hl => by obtain ⟨_, _, _, rfl⟩ := us_3 (us := us) hl; rfl), .nil, fun _ => RDs.nil⟩
  have O2 : FnOk P w K mg base CX0 1 f2 _ ["_law_word", "_law_at", "_law_to", "_law_goal", "_law_many"] (liftSp K (sp__law_due C_Plain)) := ok__law_due F2 T  (rok__law_due C_Plain) (len__law_due C_Plain)
  have F__law_due : Fn3 P w K mg base 1 "_law_due" [] (sp__law_due C_Plain) := ⟨_, _, _, [], [], O2, PySem.W.mg_of X G a2, k2, (.all fun us hl => by obtain ⟨_, _, _, _, _, rfl⟩ := us_5 (us := us) hl; rfl), .nil, fun _ => RDs.nil⟩
  have O3 : FnOk P w K mg base CX0 1 f3 _ ["at", "length"] (liftSp K (sp_check_gap C_Plain)) := ok_check_gap F3 T  (rok_check_gap C_Plain) (len_check_gap C_Plain)
  have F_check_gap : Fn3 P w K mg base 1 "check_gap" [] (sp_check_gap C_Plain) := ⟨_, _, _, [], [], O3, PySem.W.mg_of X G a3, k3, (.all fun us hl => by obtain ⟨_, _, rfl⟩ := us_2 (us := us) hl; rfl), .nil, fun _ => RDs.nil⟩
  have O4 : FnOk P w K mg base CX0 1 f4 _ ["signs"] (liftSp K (sp_undressed C_Plain)) := ok_undressed F4 T  (rok_undressed C_Plain) (len_undressed C_Plain)
  have F_undressed : Fn3 P w K mg base 1 "undressed" [] (sp_undressed C_Plain) := ⟨_, _, _, [], [], O4, PySem.W.mg_of X G a4, k4, (.all fun us hl => by obtain ⟨_, rfl⟩ := us_1 (us := us) hl; rfl), .nil, fun _ => RDs.nil⟩
  have O5 : FnOk P w K mg base CX0 2 f5 _ ["self", "at", "signs"] (liftSp K (sp_Plain_put C_Plain)) := ok_Plain_put F5 T F_check_gap F_undressed (rok_Plain_put C_Plain) (len_Plain_put C_Plain)
  have Mt_Plain_put : Mt3 P w K mg base 2 C_Plain "put" [] (sp_Plain_put C_Plain) := ⟨T.cl_Plain, _, _, _, [], [], O5, ⟨a5, i5, k5⟩, (.all fun us hl => by obtain ⟨_, _, _, rfl⟩ := us_3 (us := us) hl; rfl), .nil, fun _ => RDs.nil⟩
  have O6 : FnOk P w K mg base CX0 1 f6 _ ["at", "to", "length"] (liftSp K (sp_check_stretch C_Plain)) := ok_check_stretch F6 T  (rok_check_stretch C_Plain) (len_check_stretch C_Plain)
  have F_check_stretch : Fn3 P w K mg base 1 "check_stretch" [] (sp_check_stretch C_Plain) := ⟨_, _, _, [], [], O6, PySem.W.mg_of X G a6, k6, (.all fun us hl => by obtain ⟨_, _, _, rfl⟩ := us_3 (us := us) hl; rfl), .nil, fun _ => RDs.nil⟩
  have O7 : FnOk P w K mg base CX0 2 f7 _ ["self", "at", "to"] (liftSp K (sp_Plain_strike C_Plain)) := ok_Plain_strike F7 T F_check_stretch (rok_Plain_strike C_Plain) (len_Plain_strike C_Plain)
  have Mt_Plain_strike : Mt3 P w K mg base 2 C_Plain "strike" [] (sp_Plain_strike C_Plain) := ⟨T.cl_Plain, _, _, _, [], [], O7, ⟨a7, i7, k7⟩, (.all fun us hl => by obtain ⟨_, _, _, rfl⟩ := us_3 (us := us) hl; rfl), .nil, fun _ => RDs.nil⟩
  have O8 : FnOk P w K mg base CX0 2 f8 _ ["self", "at", "to", "word"] (liftSp K (sp_Plain_dress C_Plain)) := ok_Plain_dress F8 T F_check_stretch (rok_Plain_dress C_Plain) (len_Plain_dress C_Plain)
  have Mt_Plain_dress : Mt3 P w K mg base 2 C_Plain "dress" [] (sp_Plain_dress C_Plain) := ⟨T.cl_Plain, _, _, _, [], [], O8, ⟨a8, i8, k8⟩, (fun s us X hl => (fun (hl' : us.length = 4) => match us, hl' with | [_, _, _, _], _ => PySem.W.binds_K X rfl d8 rfl rfl rfl) (by simpa using hl)), .nil, fun _ => RDs.nil⟩
  have O9 : FnOk P w K mg base CX0 2 f9 _ ["self", "at", "to", "goal"] (liftSp K (sp_Plain_move C_Plain)) := ok_Plain_move F9 T F_check_gap F_check_stretch (rok_Plain_move C_Plain) (len_Plain_move C_Plain)
  have Mt_Plain_move : Mt3 P w K mg base 2 C_Plain "move" [] (sp_Plain_move C_Plain) := ⟨T.cl_Plain, _, _, _, [], [], O9, ⟨a9, i9, k9⟩, (.all fun us hl => by obtain ⟨_, _, _, _, rfl⟩ := us_4 (us := us) hl; rfl), .nil, fun _ => RDs.nil⟩
  have O10 : FnOk P w K mg base CX0 3 f10 _ ["_law_plain", "_law_word", "_law_at", "_law_to", "_law_goal"] (liftSp K (sp__law_does C_Plain)) := ok__law_does F10 T Mt_Plain_dress Mt_Plain_move Mt_Plain_put Mt_Plain_strike (rok__law_does C_Plain) (len__law_does C_Plain)
  have F__law_does : Fn3 P w K mg base 3 "_law_does" [] (sp__law_does C_Plain) := ⟨_, _, _, [], [], O10, PySem.W.mg_of X G a10, k10, (.all fun us hl => by obtain ⟨_, _, _, _, _, rfl⟩ := us_5 (us := us) hl; rfl), .nil, fun _ => RDs.nil⟩
  have MX0 : L2.XMk K C_OutOfPlace e0f "at" := ⟨⟨_, _, _, _, _, _, _, _, _, _, _, _, _, _, _, _, e0hxl, e0hxt, e0hxb⟩, e0hxi, e0hxfn, e0hxkp, e0hxsa, ⟨_, e0hxc, e0hxc1, e0hxc2, e0hxc3, e0hxc4⟩, e0hxtk⟩
  have ER_OutOfPlace : ErX P w K mg base 1 "OutOfPlace" C_OutOfPlace "at" := ⟨_, _, _, MX0, PySem.W.mg_of X G x1a, init_ok (fun3_mk (st := s_OutOfPlace___init__) e0hl e0hc) sc_OutOfPlace___init__ MX0 rfl (Or.inl rfl) (Or.inl rfl), (.all fun us hl => by obtain ⟨_, _, rfl⟩ := us_2 (us := us) hl; rfl)⟩
  have OX3 : FnOk P w K mg base (CXW P w) 3 f3 _ ["at", "length"] (liftSpX K (spx_check_gap C_Plain C_OutOfPlace)) := okx_check_gap F3 T ER_OutOfPlace (rokx_check_gap C_Plain C_OutOfPlace) (lenx_check_gap C_Plain C_OutOfPlace)
  have FX_check_gap : FnX P w K mg base 3 "check_gap" (spx_check_gap C_Plain C_OutOfPlace) := ⟨_, _, _, OX3, PySem.W.mg_of X G a3, k3, (.all fun us hl => by obtain ⟨_, _, rfl⟩ := us_2 (us := us) hl; rfl)⟩
  have OX5 : FnOk P w K mg base (CXW P w) 4 f5 _ ["self", "at", "signs"] (liftSpX K (spx_Plain_put C_Plain C_OutOfPlace)) := okx_Plain_put F5 T ER_OutOfPlace FX_check_gap (rokx_Plain_put C_Plain C_OutOfPlace) (lenx_Plain_put C_Plain C_OutOfPlace)
  have MX_Plain_put : MtX P w K mg base 4 C_Plain "put" (spx_Plain_put C_Plain C_OutOfPlace) := ⟨T.cl_Plain, _, _, _, OX5, ⟨a5, i5, k5⟩, (.all fun us hl => by obtain ⟨_, _, _, rfl⟩ := us_3 (us := us) hl; rfl)⟩
  have OX6 : FnOk P w K mg base (CXW P w) 3 f6 _ ["at", "to", "length"] (liftSpX K (spx_check_stretch C_Plain C_OutOfPlace)) := okx_check_stretch F6 T ER_OutOfPlace (rokx_check_stretch C_Plain C_OutOfPlace) (lenx_check_stretch C_Plain C_OutOfPlace)
  have FX_check_stretch : FnX P w K mg base 3 "check_stretch" (spx_check_stretch C_Plain C_OutOfPlace) := ⟨_, _, _, OX6, PySem.W.mg_of X G a6, k6, (.all fun us hl => by obtain ⟨_, _, _, rfl⟩ := us_3 (us := us) hl; rfl)⟩
  have OX7 : FnOk P w K mg base (CXW P w) 4 f7 _ ["self", "at", "to"] (liftSpX K (spx_Plain_strike C_Plain C_OutOfPlace)) := okx_Plain_strike F7 T ER_OutOfPlace FX_check_stretch (rokx_Plain_strike C_Plain C_OutOfPlace) (lenx_Plain_strike C_Plain C_OutOfPlace)
  have MX_Plain_strike : MtX P w K mg base 4 C_Plain "strike" (spx_Plain_strike C_Plain C_OutOfPlace) := ⟨T.cl_Plain, _, _, _, OX7, ⟨a7, i7, k7⟩, (.all fun us hl => by obtain ⟨_, _, _, rfl⟩ := us_3 (us := us) hl; rfl)⟩
  have OX8 : FnOk P w K mg base (CXW P w) 4 f8 _ ["self", "at", "to", "word"] (liftSpX K (spx_Plain_dress C_Plain C_OutOfPlace)) := okx_Plain_dress F8 T ER_OutOfPlace FX_check_stretch (rokx_Plain_dress C_Plain C_OutOfPlace) (lenx_Plain_dress C_Plain C_OutOfPlace)
  have MX_Plain_dress : MtX P w K mg base 4 C_Plain "dress" (spx_Plain_dress C_Plain C_OutOfPlace) := ⟨T.cl_Plain, _, _, _, OX8, ⟨a8, i8, k8⟩, (fun s us X hl => (fun (hl' : us.length = 4) => match us, hl' with | [_, _, _, _], _ => PySem.W.binds_K X rfl d8 rfl rfl rfl) (by simpa using hl))⟩
  have OX9 : FnOk P w K mg base (CXW P w) 4 f9 _ ["self", "at", "to", "goal"] (liftSpX K (spx_Plain_move C_Plain C_OutOfPlace)) := okx_Plain_move F9 T ER_OutOfPlace FX_check_gap FX_check_stretch (rokx_Plain_move C_Plain C_OutOfPlace) (lenx_Plain_move C_Plain C_OutOfPlace)
  have MX_Plain_move : MtX P w K mg base 4 C_Plain "move" (spx_Plain_move C_Plain C_OutOfPlace) := ⟨T.cl_Plain, _, _, _, OX9, ⟨a9, i9, k9⟩, (.all fun us hl => by obtain ⟨_, _, _, _, rfl⟩ := us_4 (us := us) hl; rfl)⟩
  have OX10 : FnOk P w K mg base (CXW P w) 5 f10 _ ["_law_plain", "_law_word", "_law_at", "_law_to", "_law_goal"] (liftSpX K (spx__law_does C_Plain C_OutOfPlace)) := okx__law_does F10 T ER_OutOfPlace MX_Plain_dress MX_Plain_move MX_Plain_put MX_Plain_strike (rokx__law_does C_Plain C_OutOfPlace) (lenx__law_does C_Plain C_OutOfPlace)
  have FX__law_does : FnX P w K mg base 5 "_law_does" (fun ds G Q EQ => sp__law_does C_Plain ds G Q ∨ spx__law_does C_Plain C_OutOfPlace ds G Q EQ) := ⟨_, _, _, fnx_or O10 OX10 (by decide) (by decide), PySem.W.mg_of X G a10, k10, (.all fun us hl => by obtain ⟨_, _, _, _, _, rfl⟩ := us_5 (us := us) hl; rfl)⟩
  have O11 : FnOk P w K mg base CX0 6 f11 _ ["_law_plain", "_law_word", "_law_at", "_law_to", "_law_goal"] (liftSp K (sp__law_refused C_Plain)) := ok__law_refused F11 T FX__law_does (rok__law_refused C_Plain C_QuillError C_OutOfPlace C_NoStroke C_Decided C_NotYours C_Twice C_Leaned C_OtherText C_NoNote C_TooDeep C_NoPaper C_NoRow) (len__law_refused C_Plain)
  have F__law_refused : Fn3 P w K mg base 6 "_law_refused" [] (sp__law_refused C_Plain) := ⟨_, _, _, [], [], O11, PySem.W.mg_of X G a11, k11, (.all fun us hl => by obtain ⟨_, _, _, _, _, rfl⟩ := us_5 (us := us) hl; rfl), .nil, fun _ => RDs.nil⟩
  have O12 : FnOk P w K mg base CX0 1 f12 _ ["self"] (liftSp K (sp_Plain_rows C_Plain)) := ok_Plain_rows F12 T  (rok_Plain_rows C_Plain) (len_Plain_rows C_Plain)
  have Mt_Plain_rows : Mt3 P w K mg base 1 C_Plain "rows" [] (sp_Plain_rows C_Plain) := ⟨T.cl_Plain, _, _, _, [], [], O12, ⟨a12, i12, k12⟩, (.all fun us hl => by obtain ⟨_, rfl⟩ := us_1 (us := us) hl; rfl), .nil, fun _ => RDs.nil⟩
  have O13 : FnOk P w K mg base CX0 2 f13 _ ["self", "text"] (liftSp K (sp_Plain___init__ C_Plain)) := ok_Plain___init__ F13 T F_undressed (rok_Plain___init__ C_Plain) (len_Plain___init__ C_Plain)
  have M_Plain : Mk3 P w K mg base 2 "Plain" C_Plain [] (sp_Plain___init__ C_Plain) := ⟨_, _, _, [], [], ⟨c0mk, a13, i13, c0kc⟩, PySem.W.mg_of X G c0a, O13, (.all fun us hl => by obtain ⟨_, _, rfl⟩ := us_2 (us := us) hl; rfl), .nil, fun _ => RDs.nil⟩
  exact ok_law F14 T F__law_drawn F__law_due F__law_number F__law_refused Mt_Plain_rows M_Plain (rok_law C_Plain) (len_law C_Plain)
end RQ
open PySem PySem.W PyProof.Rows
set_option maxRecDepth 100000 in
set_option maxHeartbeats 0 in
theorem PySem.Challenge.cw_redquill_k14_out_of_place_holds : PySem.Challenge.rw_redquill_k14_out_of_place.Holds := by
  w_on; o_law; k_head; (case hw => w_witness2)
  k_fill
  refine L3.walk3 (l := PySem.Challenge.rw_redquill_k14_out_of_place) (k := 7) (x := "_law_script") rfl rfl ⟨rfl, by decide, by decide⟩ (fun w h Y => PySem.W.kIn_of Y) ?F
  case F =>
    intro w mg fa h KX G hmg
    refine' RQ.all_mk KX G hmg ?c0a ?x0a ?x1a ?x2a ?x3a ?x4a ?x5a ?x6a ?x7a ?x8a ?x9a ?x10a ?x11a ?e0hxl ?e0hxt ?e0hxb ?e0hxi ?e0hxfn ?e0hxkp ?e0hxsa ?e0hxc ?e0hxc1 ?e0hxc2 ?e0hxc3 ?e0hxc4 ?e0hxtk ?e0hl ?e0hc ?e0hga ?e0hgt ?e0hbe ?e0hhdi ?e0hca ?e0hgs ?e0htt ?e0hmo ?e0hfa ?e0hxe ?xk_Decided ?xk_Leaned ?xk_NoNote ?xk_NoPaper ?xk_NoRow ?xk_NoStroke ?xk_NotYours ?xk_OtherText ?xk_OutOfPlace ?xk_TooDeep ?xk_Twice ?xk_ValueError ?a0 ?l0 ?c0' ?k0 ?a1 ?l1 ?c1' ?k1 ?a2 ?l2 ?c2' ?k2 ?a3 ?l3 ?c3' ?k3 ?a4 ?l4 ?c4' ?k4 ?a5 ?i5 ?l5 ?c5' ?k5 ?a6 ?l6 ?c6' ?k6 ?a7 ?i7 ?l7 ?c7' ?k7 ?a8 ?i8 ?l8 ?c8' ?k8 ?d8 ?a9 ?i9 ?l9 ?c9' ?k9 ?a10 ?l10 ?c10' ?k10 ?a11 ?l11 ?c11' ?k11 ?a12 ?i12 ?l12 ?c12' ?k12 ?a13 ?i13 ?l13 ?c13' ?k13 ?a14 ?l14 ?c14' ?k14 ?c0pg ?c0hd ?c0po ?c0sa ?c0mk ?c0kc ?c0n0 ?b_ValueError ?b_isinstance ?b_len ?b_list ?b_max ?b_min ?b_sum
    (case c0a => k_is)
    (case x0a => k_is)
    (case x1a => k_is)
    (case x2a => k_is)
    (case x3a => k_is)
    (case x4a => k_is)
    (case x5a => k_is)
    (case x6a => k_is)
    (case x7a => k_is)
    (case x8a => k_is)
    (case x9a => k_is)
    (case x10a => k_is)
    (case x11a => k_is)
    (case e0hxl => k_is)
    (case e0hxt => kernel_rfl)
    (case e0hxb => kernel_rfl)
    (case e0hxi => k_is)
    (case e0hxfn => k_is)
    (case e0hxkp => k_is)
    (case e0hxsa => k_is)
    (case e0hxc => k_is)
    (case e0hxc1 => kernel_rfl)
    (case e0hxc2 => intro _; kernel_rfl)
    (case e0hxc3 => kernel_rfl)
    (case e0hxc4 => kernel_rfl)
    (case e0hxtk => k_is)
    (case e0hl => k_is)
    (case e0hc => k_is)
    (case e0hga => k_is)
    (case e0hgt => k_is)
    (case e0hbe => k_is)
    (case e0hhdi => k_is)
    (case e0hca => k_is)
    (case e0hgs => k_is)
    (case e0htt => k_is)
    (case e0hmo => k_is)
    (case e0hfa => k_is)
    (case e0hxe => kernel_rfl)
    (case xk_Decided => kernel_rfl)
    (case xk_Leaned => kernel_rfl)
    (case xk_NoNote => kernel_rfl)
    (case xk_NoPaper => kernel_rfl)
    (case xk_NoRow => kernel_rfl)
    (case xk_NoStroke => kernel_rfl)
    (case xk_NotYours => kernel_rfl)
    (case xk_OtherText => kernel_rfl)
    (case xk_OutOfPlace => kernel_rfl)
    (case xk_TooDeep => kernel_rfl)
    (case xk_Twice => kernel_rfl)
    (case xk_ValueError => kernel_rfl)
    (case a0 => k_is)
    (case l0 => k_is)
    (case c0' => k_is)
    (case k0 => k_is)
    (case a1 => k_is)
    (case l1 => k_is)
    (case c1' => k_is)
    (case k1 => k_is)
    (case a2 => k_is)
    (case l2 => k_is)
    (case c2' => k_is)
    (case k2 => k_is)
    (case a3 => k_is)
    (case l3 => k_is)
    (case c3' => k_is)
    (case k3 => k_is)
    (case a4 => k_is)
    (case l4 => k_is)
    (case c4' => k_is)
    (case k4 => k_is)
    (case a5 => k_is)
    (case i5 => k_is)
    (case l5 => k_is)
    (case c5' => k_is)
    (case k5 => k_is)
    (case a6 => k_is)
    (case l6 => k_is)
    (case c6' => k_is)
    (case k6 => k_is)
    (case a7 => k_is)
    (case i7 => k_is)
    (case l7 => k_is)
    (case c7' => k_is)
    (case k7 => k_is)
    (case a8 => k_is)
    (case i8 => k_is)
    (case l8 => k_is)
    (case c8' => k_is)
    (case k8 => k_is)
    (case d8 => k_is)
    (case a9 => k_is)
    (case i9 => k_is)
    (case l9 => k_is)
    (case c9' => k_is)
    (case k9 => k_is)
    (case a10 => k_is)
    (case l10 => k_is)
    (case c10' => k_is)
    (case k10 => k_is)
    (case a11 => k_is)
    (case l11 => k_is)
    (case c11' => k_is)
    (case k11 => k_is)
    (case a12 => k_is)
    (case i12 => k_is)
    (case l12 => k_is)
    (case c12' => k_is)
    (case k12 => k_is)
    (case a13 => k_is)
    (case i13 => k_is)
    (case l13 => k_is)
    (case c13' => k_is)
    (case k13 => k_is)
    (case a14 => k_is)
    (case l14 => k_is)
    (case c14' => k_is)
    (case k14 => k_is)
    (case c0pg => k_is)
    (case c0hd => k_is)
    (case c0po => k_is)
    (case c0sa => k_is)
    (case c0mk => k_is)
    (case c0kc => k_is)
    (case c0n0 => k_is)
    (case b_ValueError => k_is)
    (case b_isinstance => k_is)
    (case b_len => k_is)
    (case b_list => k_is)
    (case b_max => k_is)
    (case b_min => k_is)
    (case b_sum => k_is)
