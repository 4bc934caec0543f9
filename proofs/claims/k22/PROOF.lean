import PyProof.Rows.All
import Wide.All
import OpenK.AllK
import Wide.FinOn
import Lean
import PyProof.EqAt
import PyProof.EqKinds
import PyProof.TupleCall
import PySem.Challenge.RW_redquill_k22_the_row_whatever_stands
set_option Elab.async false
set_option linter.all false
set_option maxRecDepth 100000
set_option maxHeartbeats 4000000
noncomputable section
open PySem.W (instObj methodObj Frag lookIn plainGet hasDictIn findIn plainGet_of isFn plainOver takerIn makesIn emptyDict keepIn specialIn kitOne kia_one kitx_list callWith_K fnOf codeIn readsIn findCls nsIn mg_of mg_none_of)
open List (mem_filter mem_range mem_cons_self mem_cons_of_mem mem_cons mem_append mem_append_left mem_append_right size_toArray any_eq_false length_cons map_cons length_map append_nil nodup_cons length_take getElem?_map mem_of_getElem? length_append length_drop map_nil find?_cons any_cons length_nil take_zero drop_zero length_eq_zero_iff forIn_cons lookup_cons take_add_one take_length getD_eq_getElem?_getD getElem?_eq_getElem drop_eq_getElem_cons map_congr_left foldl_cons flatten_cons nil_append cons_append mem_map map_map countP_cons zip_cons_cons getElem?_eq_none mem_singleton pairwise_append append_assoc mem_iff_getElem getElem_drop getElem_take take_append_drop pairwise_iff_getElem mem_of_mem_take getElem_mem pairwise_map not_mem_nil map_append getElem?_cons_zero getElem?_cons_succ set_cons_zero set_cons_succ getElem_map)
open Nat (le_trans le_of_lt lt_of_lt_of_le lt_of_le_of_lt add_le_add_left ne_of_lt le_refl le_of_eq zero_le le_succ le_of_not_lt min_eq_left lt_or_ge le_antisymm lt_of_not_ge le_of_lt_succ sub_le add_lt_add_left le_add_right lt_of_succ_lt lt_of_le_of_ne le_succ_of_le le_zero sub_lt one_pos le_pred_of_lt succ_le_succ le_max_right pos_of_ne_zero zero_add add_assoc)
local macro_rules | `(tactic| walk_at "o") => `(tactic| first | assumption | exact le_trans (by decide) $(Lean.mkIdent `hs) | exact le_of_lt (by assumption) | exact le_trans (by assumption) (by assumption) | exact lt_of_lt_of_le (by assumption) (by assumption) | exact lt_of_le_of_lt (by assumption) (by assumption) | exact le_trans (by assumption) (le_trans (by decide) $(Lean.mkIdent `hs)) | exact lt_of_le_of_lt (add_le_add_left (by decide) _) (by assumption) | lia | omega)
local macro_rules | `(tactic| walk_at "oo") => `(tactic| first | lia | omega)
namespace L2
open PySem PySem.Spec PyProof.Rows
abbrev Key := Sum Int Str
noncomputable def keyIs : Key -> Value -> Bool
 | .inl k, v => Value.isInt k v
 | .inr x, v => Value.isStrOf x v
noncomputable def keyH (w : World) : Key -> Int
 | .inl k => hashInt k
 | .inr x => hashStr w x
theorem keyIs_shape : ∀ {k : Key} {v : Value}, keyIs k v = true -> (∃ i t, k = Sum.inl i /\ v = Value.int i t) \/ (∃ x t, k = Sum.inr x /\ v = Value.str x t)
 | .inl i, v, h => by
  obtain ⟨t, e⟩ := Value.isInt_shape (k := i) (v := v) h;exact .inl ⟨i, t, rfl, e⟩
 | .inr x, v, h => by
  obtain ⟨t, e⟩ := Value.isStrOf_shape (x := x) (v := v) h;exact .inr ⟨x, t, rfl, e⟩
theorem keyIs_int (i : Int) (t : Tok) : keyIs (.inl i) (.int i t) = true := by simp [keyIs, Value.isInt]
theorem keyIs_str (x : Str) (t : Tok) : keyIs (.inr x) (.str x t) = true := by simp [keyIs, Value.isStrOf]
theorem key_ll (a b : Int) : decide ((Sum.inl a : Key) = Sum.inl b) = (a == b) := by
 by_cases e : a = b
 ·subst e; simp
 ·have h : ¬ (Sum.inl a : Key) = Sum.inl b := fun q => e (Sum.inl.inj q);rw [decide_eq_false h];exact (beq_eq_false_iff_ne.mpr e).symm
theorem key_rr (a b : Str) : decide ((Sum.inr a : Key) = Sum.inr b) = decide (a = b) := by
 by_cases e : a = b
 ·subst e; simp
 ·have h : ¬ (Sum.inr a : Key) = Sum.inr b := fun q => e (Sum.inr.inj q);rw [decide_eq_false h, decide_eq_false e]
theorem key_lr (a : Int) (b : Str) : decide ((Sum.inl a : Key) = Sum.inr b) = false := decide_eq_false (fun q => nomatch q)
theorem key_rl (a : Str) (b : Int) : decide ((Sum.inr a : Key) = Sum.inl b) = false := decide_eq_false (fun q => nomatch q)
noncomputable def mixKind (prog : Program) (w : World) : PySem.KeyKind prog w Key where
 is := keyIs
 hash := keyH w
 inj := fun v a b ha hb => by
  rcases keyIs_shape ha with ⟨i, t, rfl, rfl⟩ | ⟨x, t, rfl, rfl⟩
  ·rcases keyIs_shape hb with ⟨j, u, rfl, e⟩ | ⟨y, u, rfl, e⟩
   ·injection e with e1 _; rw [e1]
   ·exact nomatch e
  ·rcases keyIs_shape hb with ⟨j, u, rfl, e⟩ | ⟨y, u, rfl, e⟩
   ·exact nomatch e
   ·injection e with e1 _; rw [e1]
 byValue := fun k v h => by
  rcases keyIs_shape h with ⟨i, t, rfl, rfl⟩ | ⟨x, t, rfl, rfl⟩ <;> rfl
 pyHash := fun hv h => by
  rcases keyIs_shape hv with ⟨i, t, rfl, rfl⟩ | ⟨x, t, rfl, rfl⟩
  ·exact wpAny_pyHash_int h
  ·exact wpAny_pyHash_str h
 eqBool := fun hu hv h => by
  rcases keyIs_shape hu with ⟨i, t, rfl, rfl⟩ | ⟨x, t, rfl, rfl⟩
  ·rcases keyIs_shape hv with ⟨j, u, rfl, rfl⟩ | ⟨y, u, rfl, rfl⟩
   ·rw [key_ll] at h; exact wpAny_eqBool_int h
   ·rw [key_lr] at h; exact SeqAt.EqAt.int_str i t y u _ _ _ _ h
  ·rcases keyIs_shape hv with ⟨j, u, rfl, rfl⟩ | ⟨y, u, rfl, rfl⟩
   ·rw [key_rl] at h; exact SeqAt.EqAt.str_int x t j u _ _ _ _ h
   ·rw [key_rr] at h; exact wpAny_eqBool_str h
 «strs» := fun k x t v h => by
  rcases keyIs_shape h with ⟨i, u, rfl, e⟩ | ⟨y, u, rfl, e⟩
  ·exact nomatch e
  ·injection e with e1 _
   subst e1;cases v <;> rfl
theorem mixKind_int (prog : Program) (w : World) (i : Int) (t : Tok) : (mixKind prog w).is (.inl i) (.int i t) = true := keyIs_int i t
theorem mixKind_str (prog : Program) (w : World) (x : Str) (t : Tok) : (mixKind prog w).is (.inr x) (.str x t) = true := keyIs_str x t
set_option genInjectivity false in
inductive V where
 | non | bl (b : Bool) | int (i : Int) | str (x : Str) | byt (b : Array UInt8) | flt (b : UInt64) | ref (a : Addr) | ty (n : String)
noncomputable def RelV : V -> Value -> Prop
 | .non, u => u = Value.none
 | .bl b, u => u = Value.bool b
 | .int i, u => ∃ t, u = Value.int i t
 | .str x, u => ∃ t, u = Value.str x t
 | .byt b, u => ∃ t, u = Value.bytes b t
 | .flt b, u => ∃ t, u = Value.float b t
 | .ref a, u => u = Value.ref a
 | .ty n, u => u = Value.type n
abbrev Vals : List V -> List Value -> Prop := Paired RelV
theorem Vals.length {xs : List V} {us : List Value} (r : Vals xs us) : xs.length = us.length := Paired.length r
theorem Vals.get : ∀ {xs : List V} {us : List Value} {i : Nat} {x : V}, Vals xs us -> xs[i]? = some x -> ∃ u, us[i]? = some u /\ RelV x u
 | _, _, _, _, .nil, e => by simp at e
 | _, _, 0, _, .cons r _, e => by simp at e; subst e; exact ⟨_, rfl, r⟩
 | _, _, i + 1, x, .cons _ t, e => by
  obtain ⟨u, h1, h2⟩ := Vals.get (i := i) (x := x) t (by simpa using e)
  exact ⟨u, by simpa using h1, h2⟩
theorem Vals.set {x : V} {u : Value} (r : RelV x u) : ∀ {xs : List V} {us : List Value} (i : Nat), Vals xs us -> Vals (xs.set i x) (us.set i u)
 | _, _, _, .nil => .nil
 | _, _, 0, .cons _ t => .cons r t
 | _, _, i + 1, .cons q t => .cons q (Vals.set r i t)
theorem Vals.append : ∀ {xs ys : List V} {us ws : List Value}, Vals xs us -> Vals ys ws -> Vals (xs ++ ys) (us ++ ws)
 | _, _, _, _, .nil, s => s
 | _, _, _, _, .cons r t, s => .cons r (Vals.append t s)
theorem Vals.take : ∀ {xs : List V} {us : List Value} (n : Nat), Vals xs us -> Vals (xs.take n) (us.take n)
 | _, _, 0, _ => .nil
 | _, _, _ + 1, .nil => .nil
 | _, _, n + 1, .cons r t => .cons r (Vals.take n t)
theorem Vals.drop : ∀ {xs : List V} {us : List Value} (n : Nat), Vals xs us -> Vals (xs.drop n) (us.drop n)
 | _, _, 0, r => r
 | _, _, _ + 1, .nil => .nil
 | _, _, n + 1, .cons _ t => Vals.drop n t
noncomputable def RelO : Option V -> Option Value -> Prop
 | some v, some u => RelV v u
 | none, none => True
 | _, _ => False
noncomputable def KV {κ : Type} : List (κ × V) -> List (κ × Value) -> Prop := Paired fun (p : κ × V) (q : κ × Value) => p.1 = q.1 /\ RelV p.2 q.2
noncomputable def kV : Key -> V
 | .inl i => .int i
 | .inr x => .str x
set_option genInjectivity false in
inductive HO where
 | lst (xs : List V)
 | tup (xs : List V)
 | dK (kvs : List (Key × V)) | dT (kvs : List (List Key × V))
 | set (S : Int -> Bool) (n : Nat)
 | ins (C dx : Addr) (fs : List (Str × V))
 | own (x : Addr)
 | xd (fs : List (Str × V))
 | met (f x : Addr)
 | rng (lo hi : Int)
 | frz (o : Obj) (u : HO)
 | tbl (ps : Array Value)
 | ext (φ : Heap -> Prop)
abbrev Hp := Addr -> Option HO
noncomputable def upd (H : Hp) (a : Addr) (o : HO) : Hp := fun b => if b = a then some o else H b
theorem upd_same {H : Hp} {a : Addr} {o : HO} : upd H a o a = some o := by unfold upd; rw [if_pos rfl]
theorem upd_ne {H : Hp} {a b : Addr} {o : HO} (h : b ≠ a) : upd H a o b = H b := by unfold upd; rw [if_neg h]
theorem ne_of {H : Hp} {a b : Addr} {o u : HO} (h : H a = some o) (h' : H b = some u) (d : o ≠ u) : a ≠ b := by
 intro e; subst e; rw [h] at h'; exact d (Option.some.inj h')
theorem ne_of_none {H : Hp} {a b : Addr} {o : HO} (h : H a = some o) (h' : H b = none) : a ≠ b := by
 intro e; subst e; rw [h] at h'; cases h'
section
variable (P : Program) (w : World)
noncomputable def ObjOk (H : Hp) (h : Heap) (a : Addr) : HO -> Prop
 | .lst xs => xs.length <= sizeLine /\ ∃ (its : List Value) (n : Nat), Vals xs its /\ h.get? a = some { cls := .type "list", data := .seq its.toArray n }
 | .tup xs => xs.length <= sizeLine /\ ∃ its : List Value, Vals xs its /\ IsTup h a its.toArray
 | .dK kvs => kvs.length <= sizeLine /\ (a == sysModules) = false /\ ∃ vs, KV kvs vs /\ h.DictOf (mixKind P w) a vs
 | .dT kvs => kvs.length <= sizeLine /\ (a == sysModules) = false /\ ∃ xs : List (List Key × Addr × Value),
   Paired (fun (p : List Key × V) (q : List Key × Addr × Value) => p.1 = q.1 /\ H q.2.1 = some (.tup (p.1.map kV)) /\ RelV p.2 q.2.2) kvs xs /\
   ∃ o es ep, h.get? a = some o /\ o.ExactDict /\ o.data = .dict es ep /\ es.toList = xs.map (entryOfKey (tupleKind (mixKind P w))) /\ (xs.map (·.1)).Nodup
 | .set S n => h.SetOf (intKind P w) a S n
 | .ins C dx fs => H dx = some (.own a) /\ fs.length <= 1000 /\ dx ≠ a /\ h.get? a = some (instObj C dx) /\
   ∃ mA, h.Ns1 dx mA /\ (∀ f, RelO (fs.lookup f) (mA f)) /\ PySem.Within mA (fs.map (·.1))
 | .own _ => ∃ o, h.get? a = some o
 | .xd fs => ∃ mA, h.Ns1 a mA /\ ∀ f, RelO (fs.lookup f) (mA f)
 | .rng lo hi => ∃ t u v, h.get? a = some { cls := .type "range", data := .fields #[.int lo t, .int hi u, .int 1 v] }
 | .frz o u => h.get? a = some o /\ ObjOk H h a u
 | .tbl ps => h.get? a = some { cls := .none, data := .fields ps }
 | .met f x => h.get? a = some (methodObj (.ref f) (.ref x))
 | .ext φ => φ h /\ (∃ o, h.get? a = some o) /\ ∀ h1 h2 : Heap, φ h1 -> (∀ o, h1.get? a = some o -> h2.get? a = some o) -> φ h2
noncomputable def HOk (H : Hp) (h : Heap) : Prop := ∀ a o, H a = some o -> ObjOk P w H h a o
end
section
variable {P : Program} {w : World} {H H' : Hp} {h h' : Heap} {a : Addr} {o : HO}
theorem ObjOk.lt (x : ObjOk P w H h a o) : a < h.objs.size := by
 cases o with
 | lst xs => obtain ⟨_, _, _, _, e⟩ := x; exact Heap.lt_size e
 | tup xs => obtain ⟨_, _, _, p⟩ := x; exact p.lt
 | dK kvs => obtain ⟨_, _, _, _, o, _, _, e, _⟩ := x; exact Heap.lt_size e
 | dT kvs => obtain ⟨_, _, _, _, o, _, _, e, _⟩ := x; exact Heap.lt_size e
 | set S n => obtain ⟨o, _, _, _, e, _⟩ := x; exact Heap.lt_size e
 | ins C dx fs => obtain ⟨_, _, _, e, _⟩ := x; exact Heap.lt_size e
 | own y => obtain ⟨_, e⟩ := x; exact Heap.lt_size e
 | xd fs => obtain ⟨_, ⟨_, _, _, e, _⟩, _⟩ := x; exact Heap.lt_size e
 | rng lo hi => obtain ⟨_, _, _, e⟩ := x; exact Heap.lt_size e
 | frz ob u => obtain ⟨e, _⟩ := x; exact Heap.lt_size e
 | tbl ps => exact Heap.lt_size (show h.get? a = some _ from x)
 | met f y => exact Heap.lt_size (show h.get? a = some _ from x)
 | ext φ => obtain ⟨_, ⟨_, e⟩, _⟩ := x; exact Heap.lt_size e
theorem Paired.mapP {α β : Type} {F G : α -> β -> Prop} : ∀ {l₁ : List α} {l₂ : List β}, Paired F l₁ l₂ -> (∀ a b, F a b -> G a b) -> Paired G l₁ l₂
 | _, _, .nil, _ => .nil
 | _, _, .cons r t, f => .cons (f _ _ r) (Paired.mapP t f)
theorem ObjOk.stay (x : ObjOk P w H h a o) (k : ∀ b u, (b = a \/ H b = some (.own a)) -> h.get? b = some u -> h'.get? b = some u)
  (ho : ∀ b, H b = some (.own a) -> H' b = some (.own a)) (ht : ∀ b xs, H b = some (.tup xs) -> H' b = some (.tup xs)) : ObjOk P w H' h' a o := by
 induction o with
 | lst xs => obtain ⟨z, its, n, r, e⟩ := x; exact ⟨z, its, n, r, k _ _ (.inl rfl) e⟩
 | tup xs => obtain ⟨z, its, r, ob, e, c⟩ := x; exact ⟨z, its, r, ob, k _ _ (.inl rfl) e, c⟩
 | dK kvs => obtain ⟨z, y, vs, r, ob, es, ep, e, c⟩ := x; exact ⟨z, y, vs, r, ob, es, ep, k _ _ (.inl rfl) e, c⟩
 | dT kvs =>
  obtain ⟨z, y, xs, r, ob, es, ep, e, c⟩ := x;exact ⟨z, y, xs, Paired.mapP r fun p q z => ⟨z.1, ht _ _ z.2.1, z.2.2⟩, ob, es, ep, k _ _ (.inl rfl) e, c⟩
 | set S n => obtain ⟨ob, es, ep, t, e, c⟩ := x; exact ⟨ob, es, ep, t, k _ _ (.inl rfl) e, c⟩
 | ins C dx fs =>
  obtain ⟨d, z, ne, e, mA, ⟨od, es, ep, e2, c⟩, r⟩ := x;exact ⟨ho _ d, z, ne, k _ _ (.inl rfl) e, mA, ⟨od, es, ep, k _ _ (.inr d) e2, c⟩, r⟩
 | own y => obtain ⟨ob, e⟩ := x; exact ⟨ob, k _ _ (.inl rfl) e⟩
 | xd fs => obtain ⟨mA, ⟨od, es, ep, e, c⟩, r⟩ := x; exact ⟨mA, ⟨od, es, ep, k _ _ (.inl rfl) e, c⟩, r⟩
 | rng lo hi => obtain ⟨t, u, v, e⟩ := x; exact ⟨t, u, v, k _ _ (.inl rfl) e⟩
 | frz ob u ih => obtain ⟨e, q⟩ := x; exact ⟨k _ _ (.inl rfl) e, ih q⟩
 | tbl ps =>
  have e : h.get? a = some { cls := .none, data := .fields ps } := x;show h'.get? a = some { cls := .none, data := .fields ps }
  exact k a _ (.inl rfl) e
 | met f y =>
  have e : h.get? a = some (methodObj (.ref f) (.ref y)) := x;show h'.get? a = some (methodObj (.ref f) (.ref y))
  exact k a _ (.inl rfl) e
 | ext φ => obtain ⟨p, ⟨o, e⟩, st⟩ := x; exact ⟨st _ _ p fun o q => k _ _ (.inl rfl) q, ⟨o, k _ _ (.inl rfl) e⟩, st⟩
theorem HOk.lt (x : HOk P w H h) (e : H a = some o) : a < h.objs.size := (x a o e).lt
theorem HOk.fresh (x : HOk P w H h) (e : h.objs.size <= a) : H a = none := by
 cases q : H a with
 | none => rfl
 | some u => exact absurd (lt_of_lt_of_le (x.lt q) e) (Nat.lt_irrefl _)
theorem HOk.kept (x : HOk P w H h) (k : ∀ b u, h.get? b = some u -> h'.get? b = some u) : HOk P w H h' := fun a o e =>
 (x a o e).stay (fun b u _ q => k b u q) (fun _ q => q) fun _ _ q => q
theorem HOk.laid (x : HOk P w H h) (k : ∀ b u, h.get? b = some u -> h'.get? b = some u) (hp : h.objs.size <= a) (new : ObjOk P w (upd H a o) h' a o) : HOk P w (upd H a o) h' := fun b u e => by
 have hn := x.fresh hp
 by_cases hb : b = a
 ·subst hb; rw [upd_same] at e; cases e; exact new
 ·rw [upd_ne hb] at e;exact (x b u e).stay (fun c v _ q => k c v q) (fun c q => by rw [upd_ne (ne_of_none q hn)]; exact q) fun c xs q => by rw [upd_ne (ne_of_none q hn)]; exact q
end
noncomputable def Rd (H : Hp) (a : Addr) (u : HO) : Prop := H a = some u \/ ∃ o, H a = some (.frz o u)
theorem Rd.ok {P : Program} {w : World} {H : Hp} {h : Heap} {a : Addr} {u : HO} (r : Rd H a u) (x : HOk P w H h) : ObjOk P w H h a u := by
 rcases r with r | ⟨o, r⟩
 ·exact x a u r
 ·obtain ⟨_, q⟩ := x a _ r;exact q
noncomputable def Mut : Option HO -> Prop
 | some (.lst _) => True
 | some (.dK _) => True
 | some (.dT _) => True
 | some (.set _ _) => True
 | some (.ins _ _ _) => True
 | some (.ext _) => True
 | _ => False
section
variable {P : Program} {w : World} {H : Hp} {h h' : Heap} {x e : Addr} {o' : HO}
theorem HOk.write (ok : HOk P w H h) (mu : Mut (H x)) (he : e = x \/ H e = some (.own x)) (k : ∀ b u, b ≠ e -> h.get? b = some u -> h'.get? b = some u) (heo : ∃ u, h'.get? e = some u)
  (new : ObjOk P w (upd H x o') h' x o') : HOk P w (upd H x o') h' := fun b u q => by
 have nown : ∀ c y, H c = some (.own y) -> c ≠ x := fun c y r z => by subst z; rw [r] at mu; exact mu
 have ntup : ∀ c xs, H c = some (.tup xs) -> c ≠ x := fun c xs r z => by subst z; rw [r] at mu; exact mu
 by_cases hb : b = x
 ·subst hb; rw [upd_same] at q; cases q; exact new
 ·rw [upd_ne hb] at q
  by_cases hbe : b = e
  ·have q' : H b = some (.own x) := by
    rcases he with z | z
    ·exact absurd (hbe.trans z) hb
    ·rw [hbe]; exact z
   rw [q] at q'; cases q';obtain ⟨v, hv⟩ := heo;exact ⟨v, by rw [hbe]; exact hv⟩
  ·refine (ok b u q).stay (fun c v hc r => k c v ?_ r) (fun c r => by rw [upd_ne (nown c b r)]; exact r) fun c xs r => by rw [upd_ne (ntup c xs r)]; exact r
   rcases hc with rfl | hc
   ·exact hbe
   ·rintro rfl
    rcases he with z | z
    ·exact nown c b hc z
    ·rw [hc] at z; cases z; exact hb rfl
end
structure Un (fs ex : List Addr) (H H' : Hp) (h h' : Heap) : Prop where
 keep : ∀ b o, h.get? b = some o -> H b = none -> b ∉ fs -> b ∉ ex -> h'.get? b = some o
 slot : ∀ b o, h.get? b = some o -> H b = none -> b ∈ fs -> b ∉ ex -> ∃ sl, h'.get? b = some { o with slots := sl }
 free : ∀ b o, h.get? b = some o -> H b = none -> b ∉ ex -> H' b = none
 there : ∀ b o, h.get? b = some o -> b ∉ ex -> ∃ o', h'.get? b = some o'
 tups : ∀ b xs, H b = some (.tup xs) -> H' b = some (.tup xs)
 frzs : ∀ b o u, H b = some (.frz o u) -> H' b = some (.frz o u)
 tbls : ∀ b ps, H b = some (.tbl ps) -> ∃ more, H' b = some (.tbl (ps ++ more))
section
variable {fs fs' ex ex' : List Addr} {H H1 H2 : Hp} {h h1 h2 h' : Heap} {a x e : Addr} {o : HO}
theorem Un.any (u : Un fs ex H H1 h h1) {b : Addr} {ob : Obj} (q : h.get? b = some ob) (n : H b = none) (hx : b ∉ ex) : ∃ sl, h1.get? b = some { ob with slots := sl } := by
 by_cases hb : b ∈ fs
 ·exact u.slot b ob q n hb hx
 ·exact ⟨ob.slots, u.keep b ob q n hb hx⟩
theorem Un.kept (k : ∀ b u, h.get? b = some u -> h'.get? b = some u) : Un fs ex H H h h' :=
 ⟨fun b ob q _ _ _ => k b ob q, fun b ob q _ _ _ => ⟨ob.slots, k b ob q⟩, fun _ _ _ n _ => n, fun b ob q _ => ⟨ob, k b ob q⟩, fun _ _ q => q, fun _ _ _ q => q, fun _ ps q => ⟨#[], by rw [q]; simp⟩⟩
theorem Un.refl : Un fs ex H H h h := Un.kept fun _ _ q => q
theorem Un.laid (k : ∀ b u, h.get? b = some u -> h'.get? b = some u) (hp : h.objs.size <= a) (hn : H a = none) : Un fs ex H (upd H a o) h h' where
 keep := fun b u q _ _ _ => k b u q
 slot := fun b u q _ _ _ => ⟨u.slots, k b u q⟩
 free := fun b u q n _ => by rw [upd_ne (ne_of_lt (lt_of_lt_of_le (Heap.lt_size q) hp))]; exact n
 there := fun b u q _ => ⟨u, k b u q⟩
 tups := fun b xs q => by rw [upd_ne (ne_of_none q hn)]; exact q
 frzs := fun b u xs q => by rw [upd_ne (ne_of_none q hn)]; exact q
 tbls := fun b ps q => ⟨#[], by rw [upd_ne (ne_of_none q hn), q]; simp⟩
theorem Un.write (mu : Mut (H x)) (he : e = x \/ H e = some (.own x)) (k : ∀ b u, b ≠ e -> h.get? b = some u -> h'.get? b = some u) (heo : ∃ u, h'.get? e = some u) : Un fs ex H (upd H x o) h h' := by
 have hx : ∀ b, H b = none -> b ≠ x := fun b n z => by subst z; rw [n] at mu; exact mu
 have hb : ∀ b, H b = none -> b ≠ e := fun b n z => by
  subst z;rcases he with r | r
  ·exact hx b n r
  ·rw [n] at r; cases r
 have hm : ∀ b u, H b = some u -> ¬ Mut (some u) -> b ≠ x := fun b u q nm z => by subst z; rw [q] at mu; exact nm mu
 refine ⟨fun b u q n _ _ => k b u (hb b n) q, fun b u q n _ _ => ⟨u.slots, k b u (hb b n) q⟩, fun b u q n _ => by rw [upd_ne (hx b n)]; exact n, fun b u q _ => ?_,
  fun b xs q => by rw [upd_ne (hm b _ q fun z => z)]; exact q, fun b u xs q => by rw [upd_ne (hm b _ q fun z => z)]; exact q, fun b ps q => ⟨#[], by rw [upd_ne (hm b _ q fun z => z), q]; simp⟩⟩
 by_cases hbe : b = e
 ·subst hbe; exact heo
 ·exact ⟨u, k b u hbe q⟩
end
noncomputable def trk (h : Heap) (H : Hp) : List Addr := (List.range h.objs.size).filter fun a => (H a).isSome
noncomputable def hidT (h : Heap) (H : Hp) : Heap := PySem.W.hideAll h (trk h H)
theorem hidT_size (h : Heap) (H : Hp) : (hidT h H).objs.size = h.objs.size := PySem.W.hideAll_size _ _
theorem hidT_get {h : Heap} {H : Hp} {b : Addr} {o : Obj} (e : h.get? b = some o) (n : H b = none) : (hidT h H).get? b = some o :=
 PySem.W.hideAll_get _ e fun hm => by
  have q : (H b).isSome = true := (mem_filter.mp hm).2;rw [n] at q; simp at q
theorem of_hidT {h : Heap} {H : Hp} {b : Addr} {o : Obj} (e : (hidT h H).get? b = some o) : h.get? b = some o /\ H b = none := by
 have e' : h.get? b = some o := PySem.W.of_hideAll (trk h H) e;refine ⟨e', ?_⟩;cases q : H b with
 | none => rfl
 | some x =>
  have hm : b ∈ trk h H := mem_filter.mpr ⟨mem_range.mpr (Heap.lt_size e'), by simp [q]⟩
  have z : (hidT h H).get? b = none := PySem.W.hideAll_none (trk h H) hm;rw [z] at e; cases e
noncomputable def allNews (g h : Heap) (L : Addr) : List (Addr × Obj) := (List.range h.objs.size).filterMap fun a => if a = L \/ (g.get? a).isSome = true then none else (h.get? a).map fun o => (a, o)
noncomputable def rest (g h : Heap) (L d : Addr) : List (Addr × Obj) := (allNews g h L).filter fun p => decide (p.1 ≠ d)
structure Mod (K : Frag) (mg : Str -> Option Value) (base : Heap) : Prop where
 kin : K.In base
 glob : base.Ns mainGlobals mg
 blt : ∃ mb, base.Ns builtinsNs mb /\ ∀ x : Str, x ≠ "__name__" -> mb x = bootBuiltins x
 nolimit : base.NoLimit
set_option genInjectivity false in
structure Cx where
 prog : Program
 w : World
 K : Frag
 mg : Str -> Option Value
 base : Heap
 A : Around
 N : List Str
 s₀ : Shared
 H₀ : Hp
 env : Env
 outer : List Env
 stack : List Env
 ex : List Addr
 fn : Str -> Bool
 calm : Bool
 pn : List (Addr × Obj)
 xe : Value -> Shared -> Prop
noncomputable def frs (l : List Env) : List Addr := l.filterMap (·.frame)
abbrev Cx.fs (X : Cx) : List Addr := frs X.outer
noncomputable def Vis (sc : Scope) (x : Str) : Prop := sc.names.lookup x = some .local \/ sc.names.lookup x = some .cell \/ sc.names.lookup x = some .free
noncomputable def Loc (sc : Scope) (x : Str) : Prop := sc.names.lookup x = some .local \/ sc.names.lookup x = some .cell
noncomputable def Look (env : Env) (h : Heap) (m : Str -> Option Value) (x : Str) (u : Value) : Prop :=
 (env.kindOf x = some .local /\ m x = some u) \/ ((env.kindOf x = some .cell \/ env.kindOf x = some .free) /\ ∃ c, env.cells.lookup x = some c /\ h.IsCell c (some u))
structure Cx.Ok (X : Cx) : Prop where
 mod : Mod X.K X.mg X.base
 kind : X.env.scope.kind = .function
 glob : X.env.globals = mainGlobals
 blt : X.env.builtins = builtinsNs
 above : X.s₀.heap.objs.size <= X.env.locals
 inj : ∀ x y c, X.env.cells.lookup x = some c -> X.env.cells.lookup y = some c -> x = y
 has : ∀ x, (X.env.kindOf x = some .cell \/ X.env.kindOf x = some .free) -> ∃ c, X.env.cells.lookup x = some c
 cab : ∀ x c, X.fn x = true -> X.env.cells.lookup x = some c -> X.s₀.heap.objs.size <= c
 hd : X.calm = true -> X.A.handled = none
 frames : X.A.frames = some X.stack
 stk : X.stack = X.outer \/ (X.stack = X.env :: X.outer /\ X.env.frame = some X.env.locals)
 exf : ∀ b ∈ X.ex, b ≠ X.env.locals /\ ∀ x c, X.env.cells.lookup x = some c -> c ≠ b
 bs : ∀ b o, X.base.get? b = some o -> X.s₀.heap.get? b = some o /\ X.H₀ b = none
 bsz : X.base.objs.size <= X.s₀.heap.objs.size
 noex : ∀ b o, X.base.get? b = some o -> b ∉ X.ex
 exfs : ∀ b ∈ X.ex, b ∉ X.fs
 funs : X.s₀.heap.FunFrames X.base X.outer
 frf : ∀ b ∈ X.fs, X.H₀ b = none
structure Inv (X : Cx) (pins : List (Addr × Obj)) (σ : List (Option V)) (H : Hp) (s : Shared) : Prop where
 ok : X.Ok
 os : s.os = X.s₀.os
 bare : AllBare s.gens
 base : Un X.fs X.ex X.H₀ H X.s₀.heap s.heap
 loc : ∃ m, s.heap.Ns X.env.locals m /\ ∀ (i : Nat) (x : Str) (v : V), X.N[i]? = some x -> σ[i]? = some (some v) -> Vis X.env.scope x -> ∃ u, RelV v u /\ Look X.env s.heap m x u
 cell : ∀ x c, X.env.cells.lookup x = some c -> ∃ v, s.heap.IsCell c v
 free : H X.env.locals = none
 freeC : ∀ x c, X.env.cells.lookup x = some c -> H c = none
 pin : ∀ p ∈ X.pn ++ pins, s.heap.get? p.1 = some p.2 /\ H p.1 = none /\ p.1 ≠ X.env.locals /\ p.1 ∉ X.fs /\ ∀ v, p.2.data ≠ .cell v
 hok : HOk X.prog X.w H s.heap
 len : σ.length = X.N.length
section
variable {X : Cx} {pins : List (Addr × Obj)} {σ : List (Option V)} {H H' : Hp} {s : Shared} {h' : Heap}
theorem Cx.Ok.nofr (ok : X.Ok) {b : Addr} {o : Obj} (e : X.base.get? b = some o) : b ∉ X.fs := fun hb => by
 have := (ok.funs.mem hb).1;rw [e] at this; cases this
theorem Inv.bs (I : Inv X pins σ H s) : ∀ b o, X.base.get? b = some o -> s.heap.get? b = some o /\ H b = none := fun b o e =>
 ⟨I.base.keep b o (I.ok.bs b o e).1 (I.ok.bs b o e).2 (I.ok.nofr e) (I.ok.noex b o e), I.base.free b o (I.ok.bs b o e).1 (I.ok.bs b o e).2 (I.ok.noex b o e)⟩
theorem Inv.bk (I : Inv X pins σ H s) : ∀ b o, X.base.get? b = some o -> s.heap.get? b = some o := fun b o e => (I.bs b o e).1
theorem Inv.mod (I : Inv X pins σ H s) : Mod X.K X.mg X.base := I.ok.mod
theorem Inv.kIn (I : Inv X pins σ H s) : X.K.In s.heap := I.ok.mod.kin.keeps I.bk
theorem Inv.lt (I : Inv X pins σ H s) : X.env.locals < s.heap.objs.size := let ⟨_, hn, _⟩ := I.loc; hn.lt
theorem Inv.sz (I : Inv X pins σ H s) : X.s₀.heap.objs.size <= s.heap.objs.size := le_trans I.ok.above (le_of_lt I.lt)
theorem Inv.nofs (I : Inv X pins σ H s) {a : Addr} (h : s.heap.objs.size <= a) : a ∉ X.fs := fun hb => by
 obtain ⟨_, o, ho, _⟩ := I.ok.funs.mem hb;exact absurd (lt_of_lt_of_le (Heap.lt_size ho) (le_trans I.sz h)) (Nat.lt_irrefl _)
theorem Inv.cne (I : Inv X pins σ H s) : ∀ x c, X.env.cells.lookup x = some c -> c ≠ X.env.locals := fun x c e z => by
 obtain ⟨v, o, ho, hd⟩ := I.cell x c e;obtain ⟨m, ⟨o', es, ep, ho', hd', _⟩, _⟩ := I.loc;rw [z, ho'] at ho; cases ho; rw [hd'] at hd; cases hd
theorem Inv.funs (I : Inv X pins σ H s) : s.heap.FunFrames X.base X.outer := by
 have all : ∀ (l : List Env), (∀ b ∈ frs l, b ∈ X.fs) -> X.s₀.heap.FunFrames X.base l -> s.heap.FunFrames X.base l := by
  intro l
  induction l with
  | nil => intro _ _; trivial
  | cons env r ih =>
   intro hs hl;obtain ⟨hk, ⟨L, o, hf, hn, ho, hd⟩, hr⟩ := hl;have hL : L ∈ X.fs := hs L (by unfold frs; rw [List.filterMap_cons, hf]; exact mem_cons_self)
   obtain ⟨sl, e⟩ := I.base.slot L o ho (I.ok.frf L hL) hL fun z => I.ok.exfs L z hL;exact ⟨hk, ⟨L, _, hf, hn, e, hd⟩, ih (fun b hb => hs b (by unfold frs; rw [List.filterMap_cons, hf]; exact mem_cons_of_mem _ hb)) hr⟩
 exact all X.outer (fun _ hb => hb) I.ok.funs
theorem Inv.stack (I : Inv X pins σ H s) : s.heap.FunFrames X.base X.stack := by
 rcases I.ok.stk with e | ⟨e, hf⟩
 ·rw [e]; exact I.funs
 ·rw [e];obtain ⟨m, hn, _⟩ := I.loc;refine .cons (by rw [I.ok.kind]; decide) hf hn ?_ I.funs
  exact Heap.get?_none_of_le (le_trans I.ok.bsz I.ok.above)
theorem Inv.stkSub (I : Inv X pins σ H s) : ∀ b ∈ frs X.stack, b ∈ X.env.locals :: X.fs := fun b hb => by
 rcases I.ok.stk with e | ⟨e, hf⟩
 ·rw [e] at hb; exact mem_cons_of_mem _ hb
 ·rw [e] at hb;unfold frs at hb;rw [List.filterMap_cons, hf] at hb;exact hb
theorem Inv.stkFree (I : Inv X pins σ H s) : ∀ b ∈ frs X.stack, H b = none := fun b hb => by
 rcases mem_cons.mp (I.stkSub b hb) with e | hb
 ·rw [e]; exact I.free
 ·obtain ⟨_, o, ho, _⟩ := I.ok.funs.mem hb;exact I.base.free b o ho (I.ok.frf b hb) fun z => I.ok.exfs b z hb
theorem Inv.step {g' : Array GenState} {t' : Nat} {d' : Drawn} {ch : List Addr} (I : Inv X pins σ H s)
  (hch : ∀ b ∈ ch, (b ∈ X.ex \/ X.s₀.heap.objs.size <= b) /\ b ≠ X.env.locals /\ (∀ x c, X.env.cells.lookup x = some c -> c ≠ b) /\ ∀ p ∈ X.pn ++ pins, p.1 ≠ b)
  (keep : ∀ b o, b ≠ X.env.locals -> b ∉ X.fs -> b ∉ ch -> s.heap.get? b = some o -> H b = none -> h'.get? b = some o)
  (slot : ∀ b o, b ≠ X.env.locals -> b ∈ X.fs -> b ∉ ch -> s.heap.get? b = some o -> H b = none -> ∃ sl, h'.get? b = some { o with slots := sl }) (free : ∀ b o, b ∉ ch -> s.heap.get? b = some o -> H b = none -> H' b = none)
  (there : ∀ b o, b ∉ ch -> s.heap.get? b = some o -> ∃ o', h'.get? b = some o')
  (tups : ∀ b xs, H b = some (.tup xs) -> H' b = some (.tup xs)) (frzs : ∀ b o u, H b = some (.frz o u) -> H' b = some (.frz o u)) (tbls : ∀ b ps, H b = some (.tbl ps) -> ∃ more, H' b = some (.tbl (ps ++ more)))
  (ns : ∀ m, s.heap.Ns X.env.locals m -> h'.Ns X.env.locals m) (hok : HOk X.prog X.w H' h') (hg : AllBare g') :
  Inv X pins σ H' { s with heap := h', gens := g', drawn := d', toks := t' } := by
 have neL : ∀ b o, X.s₀.heap.get? b = some o -> b ≠ X.env.locals := fun b o e => ne_of_lt (lt_of_lt_of_le (Heap.lt_size e) I.ok.above);have neC : ∀ b o, X.s₀.heap.get? b = some o -> b ∉ X.ex -> b ∉ ch := fun b o e hx hb => by
  rcases (hch b hb).1 with z | z
  ·exact hx z
  ·exact absurd (lt_of_lt_of_le (Heap.lt_size e) z) (Nat.lt_irrefl _)
 have cellK : ∀ x c, X.env.cells.lookup x = some c -> ∀ v, s.heap.IsCell c v -> h'.IsCell c v := fun x c e v zz => by
  obtain ⟨o, ho, hd⟩ := zz;have nch : c ∉ ch := fun z => (hch c z).2.2.1 x c e rfl
  by_cases hc : c ∈ X.fs
  ·obtain ⟨sl, q⟩ := slot c o (I.cne x c e) hc nch ho (I.freeC x c e);exact ⟨_, q, hd⟩
  ·exact ⟨o, keep c o (I.cne x c e) hc nch ho (I.freeC x c e), hd⟩
 refine ⟨I.ok, I.os, hg, ⟨fun b o e n hb hx => ?_, fun b o e n hb hx => ?_, fun b o e n hx => ?_, fun b o e hx => ?_, fun b xs e => tups b xs (I.base.tups b xs e), fun b o xs e => frzs b o xs (I.base.frzs b o xs e), fun b ps e => ?_⟩, ?_, fun x c e => ?_, ?_, fun x c e => ?_, fun p hp => ?_, hok, I.len⟩
 ·exact keep b o (neL b o e) hb (neC b o e hx) (I.base.keep b o e n hb hx) (I.base.free b o e n hx)
 ·obtain ⟨sl, e1⟩ := I.base.slot b o e n hb hx;obtain ⟨sl', e2⟩ := slot b _ (neL b o e) hb (neC b o e hx) e1 (I.base.free b o e n hx);exact ⟨sl', e2⟩
 ·obtain ⟨o', e1⟩ := I.base.there b o e hx;exact free b o' (neC b o e hx) e1 (I.base.free b o e n hx)
 ·obtain ⟨o', e1⟩ := I.base.there b o e hx;exact there b o' (neC b o e hx) e1
 ·obtain ⟨m1, e1⟩ := I.base.tbls b ps e;obtain ⟨m2, e2⟩ := tbls b _ e1;exact ⟨m1 ++ m2, by rw [e2, Array.append_assoc]⟩
 ·obtain ⟨m, hn, hl⟩ := I.loc;refine ⟨m, ns m hn, fun i x v e1 e2 e3 => ?_⟩;obtain ⟨u, r, l⟩ := hl i x v e1 e2 e3;refine ⟨u, r, ?_⟩;rcases l with l | ⟨k, c, e, z⟩
  ·exact .inl l
  ·exact .inr ⟨k, c, e, cellK x c e _ z⟩
 ·obtain ⟨v, z⟩ := I.cell x c e;exact ⟨v, cellK x c e v z⟩
 ·obtain ⟨m, ⟨o, _, _, ho, _⟩, _⟩ := I.loc;exact free _ o (fun z => (hch _ z).2.1 rfl) ho I.free
 ·obtain ⟨v, o, ho, hd⟩ := I.cell x c e;exact free c o (fun z => (hch c z).2.2.1 x c e rfl) ho (I.freeC x c e)
 ·obtain ⟨e, n, ne, nf, d⟩ := I.pin p hp;have nch : p.1 ∉ ch := fun z => (hch p.1 z).2.2.2 p hp rfl;exact ⟨keep p.1 p.2 ne nf nch e n, free p.1 p.2 nch e n, ne, nf, d⟩
theorem Inv.un {t' : Nat} (I : Inv X pins σ H s) (u : Un X.fs [] H H' s.heap h') (hok : HOk X.prog X.w H' h') : Inv X pins σ H' { s with heap := h', toks := t' } := by
 obtain ⟨m, ⟨o, es, ep, ho, r⟩, _⟩ := id I.loc;obtain ⟨sl, hL⟩ := u.any ho I.free (by simp)
 exact I.step (g' := s.gens) (d' := s.drawn) (ch := []) (fun _ z => nomatch z) (fun b o _ hb _ e n => u.keep b o e n hb (by simp)) (fun b o _ hb _ e n => u.slot b o e n hb (by simp)) (fun b o _ e n => u.free b o e n (by simp)) (fun b o _ e => u.there b o e (by simp)) u.tups u.frzs u.tbls (fun m' hm => by
  obtain ⟨o', es', ep', ho', r'⟩ := hm;rw [ho] at ho'; cases ho';exact ⟨_, es', ep', hL, r'⟩) hok I.bare
theorem Inv.call {g' : Array GenState} {t' : Nat} {d' : Drawn} {ch : List Addr} (I : Inv X pins σ H s) (u : Un (frs X.stack) ch H H' s.heap h') (hok : HOk X.prog X.w H' h') (hg : AllBare g')
  (hch : ∀ b ∈ ch, (b ∈ X.ex \/ X.s₀.heap.objs.size <= b) /\ b ≠ X.env.locals /\ (∀ x c, X.env.cells.lookup x = some c -> c ≠ b) /\ ∀ p ∈ X.pn ++ pins, p.1 ≠ b) :
  Inv X pins σ H' { s with heap := h', gens := g', drawn := d', toks := t' } := by
 obtain ⟨m, ⟨o, es, ep, ho, r⟩, _⟩ := id I.loc;obtain ⟨sl, hL⟩ := u.any ho I.free fun z => (hch _ z).2.1 rfl;exact I.step (ch := ch) hch (fun b o hL hb hc e n => u.keep b o e n (fun z => (mem_cons.mp (I.stkSub b z)).elim hL hb) hc) (fun b o _ _ hc e n => u.any e n hc) (fun b o hc e n => u.free b o e n hc) (fun b o hc e => u.there b o e hc) u.tups u.frzs u.tbls (fun m' hm => by
  obtain ⟨o', es', ep', ho', r'⟩ := hm;rw [ho] at ho'; cases ho';exact ⟨_, es', ep', hL, r'⟩) hok hg
theorem Inv.turned {t' : Nat} {it : Addr} (I : Inv X pins σ H s) (k : ∀ b o, b ≠ it -> s.heap.get? b = some o -> h'.get? b = some o) (hn : H it = none) (hL : it ≠ X.env.locals)
  (h1 : it ∈ X.ex \/ X.s₀.heap.objs.size <= it) (h2 : ∀ x c, X.env.cells.lookup x = some c -> c ≠ it) (h3 : ∀ p ∈ X.pn ++ pins, p.1 ≠ it) : Inv X pins σ H { s with heap := h', toks := t' } := by
 have nit : ∀ b u, H b = some u -> b ≠ it := fun b u e z => by rw [z, hn] at e; cases e
 refine I.step (g' := s.gens) (d' := s.drawn) (ch := [it]) (fun b hb => ?_) (fun b o _ _ hc e _ => k b o (fun z => hc (by simp [z])) e) (fun b o _ _ hc e _ => ⟨o.slots, k b o (fun z => hc (by simp [z])) e⟩) (fun _ _ _ _ n => n)
  (fun b o hc e => ⟨o, k b o (fun z => hc (by simp [z])) e⟩) (fun _ _ e => e) (fun _ _ _ e => e) (fun b ps e => ⟨#[], by rw [e]; simp⟩) (fun m hm => ?_) (fun b u e => ?_) I.bare
 ·have e : b = it := by simpa using hb
  subst e;exact ⟨h1, hL, h2, h3⟩
 ·obtain ⟨o, es, ep, ho, r⟩ := hm;exact ⟨o, es, ep, k _ o (Ne.symm hL) ho, r⟩
 ·refine (I.hok b u e).stay (fun c v hc q => k c v ?_ q) (fun _ q => q) fun _ _ q => q;rcases hc with z | z
  ·rw [z]; exact nit b u e
  ·exact nit c _ z
theorem Inv.tok (I : Inv X pins σ H s) (t : Nat) : Inv X pins σ H { s with toks := t } := I.un (h' := s.heap) (t' := t) Un.refl I.hok
theorem Inv.kept {t' : Nat} (I : Inv X pins σ H s) (k : ∀ b u, s.heap.get? b = some u -> h'.get? b = some u) : Inv X pins σ H { s with heap := h', toks := t' } := I.un (Un.kept k) (I.hok.kept k)
theorem Inv.laid {a : Addr} {o : HO} {t' : Nat} (I : Inv X pins σ H s) (k : ∀ b u, s.heap.get? b = some u -> h'.get? b = some u) (hp : s.heap.objs.size <= a) (new : ObjOk X.prog X.w (upd H a o) h' a o) :
  Inv X pins σ (upd H a o) { s with heap := h', toks := t' } := I.un (Un.laid k hp (I.hok.fresh hp)) (I.hok.laid k hp new)
theorem Inv.write {x e : Addr} {o : HO} {t' : Nat} (I : Inv X pins σ H s) (mu : Mut (H x)) (he : e = x \/ H e = some (.own x)) (k : ∀ b u, b ≠ e -> s.heap.get? b = some u -> h'.get? b = some u) (heo : ∃ u, h'.get? e = some u)
  (new : ObjOk X.prog X.w (upd H x o) h' x o) : Inv X pins σ (upd H x o) { s with heap := h', toks := t' } := I.un (Un.write mu he k heo) (I.hok.write mu he k heo new)
theorem Inv.pins_of {pins' : List (Addr × Obj)} (I : Inv X pins σ H s) (h : ∀ p ∈ pins', s.heap.get? p.1 = some p.2 /\ H p.1 = none /\ p.1 ≠ X.env.locals /\ p.1 ∉ X.fs /\ ∀ v, p.2.data ≠ .cell v) : Inv X pins' σ H s :=
 ⟨I.ok, I.os, I.bare, I.base, I.loc, I.cell, I.free, I.freeC, fun p hp => (mem_append.mp hp).elim (fun z => I.pin p (mem_append_left _ z)) (h p), I.hok, I.len⟩
theorem nodup_ix {N : List Str} (hN : N.Nodup) {i j : Nat} {x : Str} (a : N[i]? = some x) (b : N[j]? = some x) : i = j := by
 obtain ⟨h1, e1⟩ := List.getElem?_eq_some_iff.mp a;obtain ⟨h2, e2⟩ := List.getElem?_eq_some_iff.mp b;exact (List.getElem_inj hN).mp (e1.trans e2.symm)
theorem store_ok2 {M : Model} {A : Around} {E : Value -> Shared -> Prop} {i : Nat} {x : Str} {v : V} {u : Value} {Q : Unit -> Shared -> Prop} (I : Inv X pins σ H s) (hN : X.N.Nodup) (hi : X.N[i]? = some x) (hx : Loc X.env.scope x) (r : RelV v u)
  (h : ∀ s', Inv X pins (σ.set i (some v)) H s' -> (∃ a, Heap.SameBut a s.heap s'.heap /\ (a = X.env.locals \/ X.env.cells.lookup x = some a)) -> Q () s') (hf : X.fn x = true \/ X.env.scope.names.lookup x = some .local := by first | exact .inl rfl | exact .inr rfl | assumption) : wpAny M A (storeName X.env x u) Q E s := by
 obtain ⟨m, hn, hl⟩ := id I.loc;have hcls : (X.env.scope.kind == .class || (X.env.scope.kind == .module && X.env.locals != X.env.globals)) = false := by rw [I.ok.kind]; rfl
 have hiσ : i < σ.length := by rw [I.len]; exact (List.getElem?_eq_some_iff.mp hi).1
 have cne := I.cne;have tracked : ∀ {a : Addr} {h' : Heap}, (∃ o, s.heap.get? a = some o /\ H a = none) -> Heap.SameBut a s.heap h' -> HOk X.prog X.w H h' := fun {a h'} ha hs b ob e => by
  obtain ⟨_, _, hfree⟩ := ha;refine (I.hok b ob e).stay (fun c w' hc q => (hs.2 c ?_).trans q) (fun _ q => q) fun _ _ q => q
  rintro rfl
  rcases hc with rfl | hc
  ·rw [hfree] at e; cases e
  ·rw [hfree] at hc; cases hc
 rcases hx with hk | hk
 ·refine wpAny_storeName_local hk hn (fun h' hn' hs => ?_) hcls;obtain ⟨oL, _, _, hoL, _⟩ := id hn;refine h _ ⟨I.ok, I.os, I.bare, ⟨fun b o e n hb hx => ?_, fun b o e n hb hx => ?_, I.base.free, fun b o e hx => ?_, I.base.tups, I.base.frzs, I.base.tbls⟩, ⟨_, hn', fun j y v' e1 e2 e3 => ?_⟩, fun y c e => ?_, I.free, I.freeC, fun p hp => ?_, tracked ⟨oL, hoL, I.free⟩ hs, by simpa using I.len⟩ ⟨_, hs, .inl rfl⟩
  ·exact (hs.2 b (ne_of_lt (lt_of_lt_of_le (Heap.lt_size e) I.ok.above))).trans (I.base.keep b o e n hb hx)
  ·obtain ⟨sl, e1⟩ := I.base.slot b o e n hb hx;exact ⟨sl, (hs.2 b (ne_of_lt (lt_of_lt_of_le (Heap.lt_size e) I.ok.above))).trans e1⟩
  ·obtain ⟨o', e1⟩ := I.base.there b o e hx;exact ⟨o', (hs.2 b (ne_of_lt (lt_of_lt_of_le (Heap.lt_size e) I.ok.above))).trans e1⟩
  ·by_cases hj : j = i
   ·subst hj;rw [hi] at e1; cases e1;rw [List.getElem?_set_self hiσ] at e2;cases e2;exact ⟨u, r, .inl ⟨hk, by simp⟩⟩
   ·rw [List.getElem?_set_ne (Ne.symm hj)] at e2;obtain ⟨u', r', q⟩ := hl j y v' e1 e2 e3;refine ⟨u', r', ?_⟩;rcases q with ⟨k, e⟩ | ⟨k, c, e, z⟩
    ·refine .inl ⟨k, ?_⟩;have : y ≠ x := fun e => hj (nodup_ix hN e1 (e ▸ hi));simp [this, e]
    ·exact .inr ⟨k, c, e, z.sameBut hs (cne y c e)⟩
  ·obtain ⟨w', z⟩ := I.cell y c e;exact ⟨w', z.sameBut hs (cne y c e)⟩
  ·obtain ⟨e, n, ne, nf, d⟩ := I.pin p hp;exact ⟨(hs.2 p.1 ne).trans e, n, ne, nf, d⟩
 ·have hfn : X.fn x = true := by
   rcases hf with z | z
   ·exact z
   ·rw [z] at hk; cases hk
  obtain ⟨c, hc⟩ := I.ok.has x (.inl hk);obtain ⟨w', z⟩ := I.cell x c hc;refine wpAny_storeName_cell I.ok.kind hk hc z (fun h' hc' hs => ?_);obtain ⟨oc, hoc, hocd⟩ := id z;refine h { s with heap := h' } ⟨I.ok, I.os, I.bare, ⟨fun b o e n hb hx => ?_, fun b o e n hb hx => ?_, I.base.free, fun b o e hx => ?_, I.base.tups, I.base.frzs, I.base.tbls⟩, ⟨m, hn.sameBut hs (Ne.symm (cne x c hc)), fun j y v' e1 e2 e3 => ?_⟩, fun y c' e => ?_, I.free, I.freeC, fun p hp => ?_, tracked ⟨oc, hoc, I.freeC x c hc⟩ hs, by simpa using I.len⟩ ⟨c, hs, .inr hc⟩
  ·exact (hs.2 b (ne_of_lt (lt_of_lt_of_le (Heap.lt_size e) (I.ok.cab x c hfn hc)))).trans (I.base.keep b o e n hb hx)
  ·obtain ⟨sl, e1⟩ := I.base.slot b o e n hb hx;exact ⟨sl, (hs.2 b (ne_of_lt (lt_of_lt_of_le (Heap.lt_size e) (I.ok.cab x c hfn hc)))).trans e1⟩
  ·obtain ⟨o', e1⟩ := I.base.there b o e hx;exact ⟨o', (hs.2 b (ne_of_lt (lt_of_lt_of_le (Heap.lt_size e) (I.ok.cab x c hfn hc)))).trans e1⟩
  ·by_cases hj : j = i
   ·subst hj;rw [hi] at e1; cases e1;rw [List.getElem?_set_self hiσ] at e2;cases e2;exact ⟨u, r, .inr ⟨.inl hk, c, hc, hc'⟩⟩
   ·rw [List.getElem?_set_ne (Ne.symm hj)] at e2;obtain ⟨u', r', q⟩ := hl j y v' e1 e2 e3;refine ⟨u', r', ?_⟩;rcases q with q | ⟨k, c', e, z'⟩
    ·exact .inl q
    ·refine .inr ⟨k, c', e, z'.sameBut hs ?_⟩
     rintro rfl
     exact hj (nodup_ix hN e1 (I.ok.inj _ _ _ e hc ▸ hi))
  ·by_cases hcc : c' = c
   ·subst hcc; exact ⟨_, hc'⟩
   ·obtain ⟨w2, z2⟩ := I.cell y c' e;exact ⟨w2, z2.sameBut hs hcc⟩
  ·obtain ⟨e, n, ne, nf, d⟩ := I.pin p hp;refine ⟨(hs.2 p.1 ?_).trans e, n, ne, nf, d⟩;intro q;rw [q, hoc] at e;have q' : oc = p.2 := Option.some.inj e;exact d w' (by rw [<- q']; exact hocd)
theorem store_ok {M : Model} {A : Around} {E : Value -> Shared -> Prop} {i : Nat} {x : Str} {v : V} {u : Value} {Q : Unit -> Shared -> Prop} (I : Inv X pins σ H s) (hN : X.N.Nodup) (hi : X.N[i]? = some x) (hx : Loc X.env.scope x) (r : RelV v u)
  (h : ∀ s', Inv X pins (σ.set i (some v)) H s' -> Q () s') (hf : X.fn x = true \/ X.env.scope.names.lookup x = some .local := by first | exact .inl rfl | exact .inr rfl | assumption) : wpAny M A (storeName X.env x u) Q E s :=
 store_ok2 I hN hi hx r (fun s' I' _ => h s' I') hf
theorem Inv.call' {s' : Shared} {ch : List Addr} (I : Inv X pins σ H s) (ho : s'.os = s.os) (u : Un (frs X.stack) ch H H' s.heap s'.heap) (hok : HOk X.prog X.w H' s'.heap) (hg : AllBare s'.gens)
  (hch : ∀ b ∈ ch, (b ∈ X.ex \/ X.s₀.heap.objs.size <= b) /\ b ≠ X.env.locals /\ (∀ x c, X.env.cells.lookup x = some c -> c ≠ b) /\ ∀ p ∈ X.pn ++ pins, p.1 ≠ b) : Inv X pins σ H' s' := by
 obtain ⟨h', g', d', t', o'⟩ := s';have e : o' = s.os := ho;subst e;exact I.call (g' := g') (t' := t') (d' := d') u hok hg hch
end
abbrev XK := Value -> Option Addr -> Hp -> Prop
abbrev St := List (Option V)
abbrev VK := V -> Hp -> Prop
abbrev TE := St -> Hp -> VK -> Prop
abbrev TT := St -> Hp -> (Bool -> Hp -> Prop) -> Prop
abbrev TA := St -> Hp -> (List V -> Hp -> Prop) -> Prop
set_option genInjectivity false in
structure Ends where
 nx : St -> Hp -> Prop
 rt : VK
 bk : St -> Hp -> Prop := fun _ _ => False
 ct : St -> Hp -> Prop := fun _ _ => False
abbrev TS := Ends -> St -> Hp -> Prop
noncomputable def EP (X : Cx) (pins : List (Addr × Obj)) (σ : St) (Q : VK) (u : Value) (s' : Shared) : Prop := ∃ v H', Inv X pins σ H' s' /\ RelV v u /\ Q v H'
noncomputable def TP (X : Cx) (pins : List (Addr × Obj)) (σ : St) (Q : Bool -> Hp -> Prop) (b : Bool) (s' : Shared) : Prop := ∃ H', Inv X pins σ H' s' /\ Q b H'
noncomputable def AP (X : Cx) (pins : List (Addr × Obj)) (σ : St) (Q : List V -> Hp -> Prop) (us : List Value) (s' : Shared) : Prop := ∃ vs H', Inv X pins σ H' s' /\ Vals vs us /\ Q vs H'
noncomputable def SP (X : Cx) (pins : List (Addr × Obj)) (D : Ends) (f : Flow) (s' : Shared) : Prop :=
 match f with
 | .next => ∃ σ' H', Inv X pins σ' H' s' /\ D.nx σ' H'
 | .brk => ∃ σ' H', Inv X pins σ' H' s' /\ D.bk σ' H'
 | .cont => ∃ σ' H', Inv X pins σ' H' s' /\ D.ct σ' H'
 | .ret u => ∃ v σ' H', Inv X pins σ' H' s' /\ RelV v u /\ D.rt v H'
noncomputable def PE (X : Cx) (e : Expr) (t : TE) : Prop :=
 ∀ (pins : List (Addr × Obj)) (s : Shared) (σ : St) (H : Hp) (Q : VK), Inv X pins σ H s -> t σ H Q -> wpAny (model X.prog X.w) X.A (eval e X.env) (EP X pins σ Q) X.xe s
noncomputable def PT (X : Cx) (e : Expr) (t : TT) : Prop :=
 ∀ (pins : List (Addr × Obj)) (s : Shared) (σ : St) (H : Hp) (Q : Bool -> Hp -> Prop), Inv X pins σ H s -> t σ H Q -> wpAny (model X.prog X.w) X.A (isTrue e X.env (eval e X.env)) (TP X pins σ Q) X.xe s
noncomputable def PW (X : Cx) (e : Expr) (t : TT) : Prop :=
 ∀ (whole : Sem Value) (pins : List (Addr × Obj)) (s : Shared) (σ : St) (H : Hp) (Q : Bool -> Hp -> Prop), Inv X pins σ H s -> t σ H Q -> wpAny (model X.prog X.w) X.A (isTrue e X.env whole) (TP X pins σ Q) X.xe s
theorem PW.pt {X : Cx} {e : Expr} {t : TT} (h : PW X e t) : PT X e t := h _
noncomputable def PA (X : Cx) (es : List Expr) (t : TA) : Prop :=
 ∀ (pos : Pos) (pins : List (Addr × Obj)) (s : Shared) (σ : St) (H : Hp) (Q : List V -> Hp -> Prop), Inv X pins σ H s -> t σ H Q -> wpAny (model X.prog X.w) X.A (spliced (backTo pos (starEach es X.env))) (AP X pins σ Q) X.xe s
noncomputable def PS (X : Cx) (st : Stmt) (t : TS) : Prop :=
 ∀ (pins : List (Addr × Obj)) (s : Shared) (σ : St) (H : Hp) (D : Ends), Inv X pins σ H s -> t D σ H -> wpAny (model X.prog X.w) X.A (exec st X.env) (SP X pins D) X.xe s
noncomputable def PSs (X : Cx) (st : List Stmt) (t : TS) : Prop :=
 ∀ (pins : List (Addr × Obj)) (s : Shared) (σ : St) (H : Hp) (D : Ends), Inv X pins σ H s -> t D σ H -> wpAny (model X.prog X.w) X.A (execs st X.env) (SP X pins D) X.xe s
theorem thn {α : Type} {t : Sem α} {Q Q' : α -> Shared -> Prop} {M : Model} {A : Around} {E : Value -> Shared -> Prop} {s : Shared} (h : wpAny M A t Q E s) (hQ : ∀ a s, Q a s -> Q' a s) : wpAny M A t Q' E s := wpAny_mono h hQ fun _ _ x => x
section
variable {X : Cx}
noncomputable def tVar (i : Nat) : TE := fun σ H Q => ∃ v, σ[i]? = some (some v) /\ Q v H
noncomputable def tC (v : V) : TE := fun _ H Q => Q v H
theorem pe_var {i : Nat} {x : Str} {pos : Pos} (hN : X.N[i]? = some x) (hv : Vis X.env.scope x) (hd : (x == ("__debug__" : Str)) = false := by decide) (hcd : (x == ("__classdict__" : Str)) = false := by decide) : PE X (.Name x pos) (tVar i) := by
 intro pins s σ H Q I h;obtain ⟨v, e, h⟩ := h;obtain ⟨m, hn, hl⟩ := I.loc;obtain ⟨u, r, l⟩ := hl i x v hN e hv;have fin : EP X pins σ Q u s := ⟨v, H, I, r, h⟩;rcases l with ⟨hk, hm⟩ | ⟨hk, c, hc, hcell⟩
 ·exact wpAny_Name (wpAny_loadName_local I.ok.kind hk hn hm fin) hd
 ·rcases hk with hk | hk
  ·exact wpAny_Name (wpAny_loadName_cell I.ok.kind hk hc hcell fin) hd
  ·exact wpAny_Name (wpAny_loadName_free I.ok.kind hk hc hcell fin hcd) hd
theorem pe_int {i j pos} : PE X (.Constant (.int i) j pos) (tC (.int i)) := fun _ _ _ H _ I h => wpAny_Constant_int ⟨.int i, H, I.tok _, ⟨_, rfl⟩, h⟩
theorem pe_bl {b j pos} : PE X (.Constant (.bool b) j pos) (tC (.bl b)) := fun _ _ _ H _ I h => Constant_bool ⟨.bl b, H, I, rfl, h⟩
theorem pe_non {j pos} : PE X (.Constant .none j pos) (tC .non) := fun _ _ _ H _ I h => Constant_none ⟨.non, H, I, rfl, h⟩
theorem pe_str {x j pos} : PE X (.Constant (.str x) j pos) (tC (.str x)) := fun _ _ _ H _ I h => Calls.Constant_str ⟨.str x, H, I.tok _, ⟨_, rfl⟩, h⟩
noncomputable def Gl (X : Cx) (x : Str) : Prop := X.env.kindOf x = some .globalImplicit
theorem ld_glob {E : Value -> Shared -> Prop} {pins : List (Addr × Obj)} {s : Shared} {σ : St} {H : Hp} {x : Str} {u : Value} {pos : Pos} {Q : Value -> Shared -> Prop} (I : Inv X pins σ H s) (hg : Gl X x) (hm : X.mg x = some u) (h : Q u s)
  (hd : (x == ("__debug__" : Str)) = false := by decide) : wpAny (model X.prog X.w) X.A (eval (.Name x pos) X.env) Q E s :=
 Calls.Name_function_global I.ok.kind hg (Calls.loadGlobal_global (by rw [I.ok.glob]; exact I.mod.glob.keeps I.bk) hm h) hd
theorem ld_blt {E : Value -> Shared -> Prop} {pins : List (Addr × Obj)} {s : Shared} {σ : St} {H : Hp} {x : Str} {u : Value} {pos : Pos} {Q : Value -> Shared -> Prop} (I : Inv X pins σ H s) (hg : Gl X x) (hm : X.mg x = none) (hv : bootBuiltins x = some u) (h : Q u s)
  (hn : x ≠ "__name__" := by decide) (hd : (x == ("__debug__" : Str)) = false := by decide) : wpAny (model X.prog X.w) X.A (eval (.Name x pos) X.env) Q E s := by
 obtain ⟨mb, h1, h2⟩ := I.mod.blt;exact Calls.Name_function_global I.ok.kind hg (Calls.loadGlobal_builtin (by rw [I.ok.glob]; exact I.mod.glob.keeps I.bk) hm (by rw [I.ok.blt]; exact h1.keeps I.bk) ((h2 x hn).trans hv) h) hd
theorem pe_glob {x : Str} {v : V} {u : Value} {pos : Pos} (hg : Gl X x) (hm : X.mg x = some u) (r : RelV v u) (hd : (x == ("__debug__" : Str)) = false := by decide) : PE X (.Name x pos) (tC v) :=
 fun _ _ _ H _ I h => ld_glob I hg hm ⟨v, H, I, r, h⟩ hd
theorem pe_bltn {x : Str} {v : V} {u : Value} {pos : Pos} (hg : Gl X x) (hm : X.mg x = none) (hv : bootBuiltins x = some u) (r : RelV v u) (hn : x ≠ "__name__" := by decide) (hd : (x == ("__debug__" : Str)) = false := by decide) : PE X (.Name x pos) (tC v) :=
 fun _ _ _ H _ I h => ld_blt I hg hm hv ⟨v, H, I, r, h⟩ hn hd
variable {a b : Expr} {ta tb : TE} {pos : Pos}
noncomputable def PC (X : Cx) (op : CmpOp) (a b : Expr) (t : TE) : Prop :=
 ∀ (pins : List (Addr × Obj)) (s : Shared) (σ : St) (H : Hp) (Q : VK), Inv X pins σ H s -> t σ H Q ->
  wpAny (model X.prog X.w) X.A (eval a X.env) (fun v s₁ => wpAny (model X.prog X.w) X.A (eval b X.env) (fun u s₂ => wpAny (model X.prog X.w) X.A (compareOp op v u) (EP X pins σ Q) X.xe s₂) X.xe s₁) X.xe s
noncomputable def tB (t : TE) : TT := fun σ H Q => t σ H fun x H1 => ∃ c, x = .bl c /\ Q c H1
theorem pt_cmp {op : CmpOp} {t : TE} (h : PC X op a b t) (h1 : behindInMarks op b = false := by first | exact nobehind _ (by decide) (by decide) | rfl) : PT X (.Compare a [op] [b] pos) (tB t) := by
 intro pins s σ H Q I hw;refine wpAny_isTrue_Compare1 (thn (h pins s σ H _ I hw) fun v s1 h1 => thn h1 fun u s2 h2 => thn h2 fun c s3 zz => ?_) h1;obtain ⟨x, H1, I1, r1, q1⟩ := zz;obtain ⟨d, rfl, q⟩ := q1;cases r1;exact wpAny_truthy_bool ⟨H1, I1, q⟩
variable {tA tB' : TT} {rest : List Expr}
noncomputable def tAnd (t u : TT) : TT := fun σ H Q => t σ H fun c H1 => if c = true then u σ H1 Q else Q false H1
noncomputable def tOr (t u : TT) : TT := fun σ H Q => t σ H fun c H1 => if c = true then Q true H1 else u σ H1 Q
noncomputable def tNot (t : TT) : TT := fun σ H Q => t σ H fun c H1 => Q (!c) H1
theorem pw_and1 (ha : PT X a tA) : PW X (.BoolOp .And [a] pos) tA := by
 intro wh pins s σ H Q I h;refine isTrue_and (thn (ha pins s σ H Q I h) fun c s1 e => ?_);cases c with
 | true => exact isTrue_and_nil e
 | false => exact e
theorem pw_or1 (ha : PT X a tA) : PW X (.BoolOp .Or [a] pos) tA := by
 intro wh pins s σ H Q I h;refine isTrue_or (thn (ha pins s σ H Q I h) fun c s1 e => ?_);cases c with
 | false => exact isTrue_or_nil e
 | true => exact e
theorem pw_and (ha : PT X a tA) (hb : PW X (.BoolOp .And (b :: rest) pos) tB') : PW X (.BoolOp .And (a :: b :: rest) pos) (tAnd tA tB') := by
 intro wh pins s σ H Q I h;refine isTrue_and (thn (ha pins s σ H _ I h) fun c s1 zz => ?_);obtain ⟨H1, I1, q1⟩ := zz;cases c with
 | true => exact hb wh pins s1 σ H1 Q I1 q1
 | false => exact ⟨H1, I1, q1⟩
theorem pw_or (ha : PT X a tA) (hb : PW X (.BoolOp .Or (b :: rest) pos) tB') : PW X (.BoolOp .Or (a :: b :: rest) pos) (tOr tA tB') := by
 intro wh pins s σ H Q I h;refine isTrue_or (thn (ha pins s σ H _ I h) fun c s1 zz => ?_);obtain ⟨H1, I1, q1⟩ := zz;cases c with
 | true => exact ⟨H1, I1, q1⟩
 | false => exact hb wh pins s1 σ H1 Q I1 q1
theorem pt_not (ha : PT X a tA) : PT X (.UnaryOp .Not a pos) (tNot tA) := by
 intro pins s σ H Q I h;exact isTrue_not (ha pins s σ H (fun c H1 => Q (!c) H1) I h)
noncomputable def tAndV (ta tb : TE) : TE := fun σ H Q => ta σ H fun x H1 => ∃ c, x = .bl c /\ if c = true then tb σ H1 Q else Q (.bl false) H1
theorem pe_one {op} {t : TE} (h : PE X a t) : PE X (.BoolOp op [a] pos) t := fun pins s σ H Q I hw => BoolOp_one (h pins s σ H Q I hw)
theorem pe_and (ha : PE X a ta) (hb : PE X (.BoolOp .And (b :: rest) pos) tb) : PE X (.BoolOp .And (a :: b :: rest) pos) (tAndV ta tb) := by
 intro pins s σ H Q I h;refine BoolOp_and (thn (ha pins s σ H _ I h) fun v s1 zz => ?_);obtain ⟨x, H1, I1, r1, q1⟩ := zz;obtain ⟨c, rfl, q1⟩ := q1;cases r1;refine wpAny_truthy_bool ?_;cases c with
 | true => exact hb pins s1 σ H1 Q I1 q1
 | false => exact ⟨.bl false, H1, I1, rfl, q1⟩
end
noncomputable def SqL (K : Frag) (H : Hp) (a : Addr) (xs : List V) : Prop :=
 Rd H a (.lst xs) \/
  ∃ (o : Obj) (its : Array Value) (n : Nat), K.lookup a = some o /\ o.cls = .type "list" /\ o.dict = none /\ o.data = .seq its n /\ its.size <= sizeLine /\ Vals xs its.toList
noncomputable def SqT (K : Frag) (H : Hp) (a : Addr) (xs : List V) : Prop :=
 Rd H a (.tup xs) \/
  ∃ (o : Obj) (its : Array Value) (n : Nat), K.lookup a = some o /\ o.cls = .type "tuple" /\ o.data = .seq its n /\ its.size <= sizeLine /\ Vals xs its.toList
noncomputable def absV : Value -> Option V
 | .none => some .non
 | .bool b => some (.bl b)
 | .int i _ => some (.int i)
 | .str x _ => some (.str x)
 | .bytes b _ => some (.byt b)
 | .float b _ => some (.flt b)
 | .ref a => some (.ref a)
 | .type n => some (.ty n)
 | _ => none
theorem RelV.abs {x : V} {u : Value} (r : RelV x u) : absV u = some x := by
 cases x with
 | non => cases r; rfl
 | bl _ => cases r; rfl
 | int _ => obtain ⟨t, rfl⟩ := r; rfl
 | str _ => obtain ⟨t, rfl⟩ := r; rfl
 | byt _ => obtain ⟨t, rfl⟩ := r; rfl
 | flt _ => obtain ⟨t, rfl⟩ := r; rfl
 | ref _ => cases r; rfl
 | ty _ => cases r; rfl
theorem RelV.inj {x y : V} {u : Value} (r : RelV x u) (q : RelV y u) : x = y := Option.some.inj (r.abs.symm.trans q.abs)
theorem Vals.inj : ∀ {xs ys : List V} {us : List Value}, Vals xs us -> Vals ys us -> xs = ys
 | _, _, _, .nil, .nil => rfl
 | _, _, _, .cons r t, .cons r' t' => by rw [r.inj r', Vals.inj t t']
section
variable {X : Cx} {pins : List (Addr × Obj)} {σ : St} {H : Hp} {s : Shared} {a : Addr} {xs ys : List V}
theorem SqL.of {K : Frag} (h : H a = some (.lst xs)) : SqL K H a xs := .inl (.inl h)
theorem SqT.of {K : Frag} (h : H a = some (.tup xs)) : SqT K H a xs := .inl (.inl h)
theorem Inv.list (I : Inv X pins σ H s) (h : SqL X.K H a xs) : ∃ its : List Value, Vals xs its /\ PlainL s.heap a its.toArray /\ xs.length <= sizeLine := by
 rcases h with h | ⟨o, its, n, hk, hc, hd, hs, hz, r⟩
 ·obtain ⟨z, its, n, r, e⟩ := h.ok I.hok;exact ⟨its, r, ⟨_, n, e, rfl, rfl, rfl⟩, z⟩
 ·refine ⟨its.toList, r, ⟨o, n, I.kIn a o hk, hc, hd, by simpa using hs⟩, ?_⟩
  have e := r.length;simp only [Array.length_toList] at e;walk_at "oo"
theorem Inv.tuple (I : Inv X pins σ H s) (h : SqT X.K H a xs) : ∃ its : List Value, Vals xs its /\ IsTup s.heap a its.toArray /\ xs.length <= sizeLine := by
 rcases h with h | ⟨o, its, n, hk, hc, hs, hz, r⟩
 ·obtain ⟨z, its, r, p⟩ := h.ok I.hok;exact ⟨its, r, p, z⟩
 ·refine ⟨its.toList, r, ⟨o, I.kIn a o hk, hc, n, by simpa using hs⟩, ?_⟩
  have e := r.length;simp only [Array.length_toList] at e;walk_at "oo"
theorem Inv.list_inj (I : Inv X pins σ H s) (h : SqL X.K H a xs) (h' : SqL X.K H a ys) : xs = ys := by
 obtain ⟨its, r, ⟨o, n, e, _, _, d⟩, _⟩ := I.list h;obtain ⟨its', r', ⟨o', n', e', _, _, d'⟩, _⟩ := I.list h';rw [e] at e'; cases e';rw [d] at d';injection d' with d1 _
 have : its = its' := by simpa using congrArg Array.toList d1
 subst this;exact r.inj r'
theorem Inv.tuple_inj (I : Inv X pins σ H s) (h : SqT X.K H a xs) (h' : SqT X.K H a ys) : xs = ys := by
 obtain ⟨its, r, ⟨o, e, _, n, d⟩, _⟩ := I.tuple h;obtain ⟨its', r', ⟨o', e', _, n', d'⟩, _⟩ := I.tuple h';rw [e] at e'; cases e';rw [d] at d';injection d' with d1 _
 have : its = its' := by simpa using congrArg Array.toList d1
 subst this;exact r.inj r'
end
abbrev Cx.wish (X : Cx) (E : Value -> Shared -> Prop) : Cx := { X with xe := E }
abbrev Cx.nox (X : Cx) : Cx := X.wish fun _ _ => False
theorem Cx.Ok.wish {X : Cx} (ok : X.Ok) (E : Value -> Shared -> Prop) : (X.wish E).Ok :=
 ⟨ok.mod, ok.kind, ok.glob, ok.blt, ok.above, ok.inj, ok.has, ok.cab, ok.hd, ok.frames, ok.stk, ok.exf, ok.bs, ok.bsz, ok.noex, ok.exfs, ok.funs, ok.frf⟩
theorem Cx.Ok.unwish {X : Cx} {E : Value -> Shared -> Prop} (ok : (X.wish E).Ok) : X.Ok :=
 ⟨ok.mod, ok.kind, ok.glob, ok.blt, ok.above, ok.inj, ok.has, ok.cab, ok.hd, ok.frames, ok.stk, ok.exf, ok.bs, ok.bsz, ok.noex, ok.exfs, ok.funs, ok.frf⟩
section
variable {X : Cx} {pins : List (Addr × Obj)} {σ : St} {H : Hp} {s : Shared} {E : Value -> Shared -> Prop}
theorem Inv.wish (I : Inv X pins σ H s) (E : Value -> Shared -> Prop) : Inv (X.wish E) pins σ H s := ⟨I.ok.wish E, I.os, I.bare, I.base, I.loc, I.cell, I.free, I.freeC, I.pin, I.hok, I.len⟩
theorem Inv.unwish (I : Inv (X.wish E) pins σ H s) : Inv X pins σ H s := ⟨I.ok.unwish, I.os, I.bare, I.base, I.loc, I.cell, I.free, I.freeC, I.pin, I.hok, I.len⟩
theorem SP.unwish {D : Ends} {f : Flow} {s' : Shared} (h : SP (X.wish E) pins D f s') : SP X pins D f s' := by
 cases f with
 | next => obtain ⟨σ', H', I, q⟩ := h; exact ⟨σ', H', I.unwish, q⟩
 | brk => obtain ⟨σ', H', I, q⟩ := h; exact ⟨σ', H', I.unwish, q⟩
 | cont => obtain ⟨σ', H', I, q⟩ := h; exact ⟨σ', H', I.unwish, q⟩
 | ret u => obtain ⟨v, σ', H', I, r, q⟩ := h; exact ⟨v, σ', H', I.unwish, r, q⟩
theorem PSs.nox {st : List Stmt} {t : TS} (h : PSs X.nox st t) : PSs X st t := fun pins s σ H D I hw =>
 wpAny_mono (h pins s σ H D (I.wish _) hw) (fun _ _ q => q.unwish) fun _ _ z => False.elim z
end
section
variable {X : Cx} {st : Stmt} {rest : List Stmt} {t u : TS} {e : Expr} {te : TE} {pos : Pos}
noncomputable def tNext : TS := fun D σ H => D.nx σ H
noncomputable def tSeq (t u : TS) : TS := fun D σ H => t { D with nx := u D } σ H
theorem pss_nil : PSs X [] tNext := fun _ _ σ H _ I h => wpAny_execs_nil ⟨σ, H, I, h⟩
theorem pss_cons (h1 : PS X st t) (h2 : PSs X rest u) : PSs X (st :: rest) (tSeq t u) := by
 intro pins s σ H D I h;refine wpAny_execs_cons (thn (h1 pins s σ H { D with nx := u D } I h) fun f s1 q => ?_)
 cases f with
 | next =>
  obtain ⟨σ', H', I', q⟩ := q;exact h2 pins s1 σ' H' D I' q
 | ret v => exact q
 | brk => exact q
 | cont => exact q
theorem pss_one (h1 : PS X st t) : PSs X [st] t := by
 intro pins s σ H D I h;refine wpAny_execs_cons (thn (h1 pins s σ H D I h) fun f s1 q => ?_);cases f with
 | next => exact wpAny_execs_nil q
 | ret v => exact q
 | brk => exact q
 | cont => exact q
theorem Inv.quiet {pins : List (Addr × Obj)} {σ : St} {H : Hp} {s : Shared} (I : Inv X pins σ H s) : interactive X.env = false := by simp [interactive, I.ok.kind]
noncomputable def tDrop (te : TE) : TS := fun D σ H => te σ H fun _ H1 => D.nx σ H1
theorem ps_expr (he : PE X e te) (hs : swapsWith e none pos.line X.env = pure false := by rfl) : PS X (.Expr e pos) (tDrop te) := by
 intro pins s σ H D I h;exact wpAny_Expr_any (thn (he pins s σ H _ I h) fun v s1 ⟨x, H1, I1, r1, q1⟩ => ⟨σ, H1, I1, q1⟩) I.quiet hs
noncomputable def tRet (te : TE) : TS := fun D σ H => te σ H D.rt
theorem ps_ret (he : PE X e te) : PS X (.Return (some e) pos) (tRet te) := by
 intro pins s σ H D I h;exact wpAny_Return_some (thn (he pins s σ H _ I h) fun v s1 ⟨x, H1, I1, r1, q1⟩ => ⟨x, σ, H1, I1, r1, q1⟩)
noncomputable def tIfS (c : TT) (t u : TS) : TS := fun D σ H => c σ H fun b H1 => if b = true then t D σ H1 else u D σ H1
theorem ps_if {c : Expr} {a b : List Stmt} {tc : TT} (hc : PT X c tc) (ha : PSs X a t) (hb : PSs X b u) : PS X (.If c a b pos) (tIfS tc t u) := by
 intro pins s σ H D I h;refine wpAny_If (thn (hc pins s σ H _ I h) fun d s1 zz => ?_);obtain ⟨H1, I1, q1⟩ := zz;cases d with
 | true => exact ha pins s1 σ H1 D I1 q1
 | false => exact hb pins s1 σ H1 D I1 q1
end
abbrev TG := V -> St -> Hp -> (St -> Hp -> Prop) -> Prop
abbrev TGs := List V -> St -> Hp -> (St -> Hp -> Prop) -> Prop
noncomputable def PG (X : Cx) (target : Expr) (t : TG) : Prop :=
 ∀ (pins : List (Addr × Obj)) (s : Shared) (σ : St) (H : Hp) (v : V) (u : Value) (Q : St -> Hp -> Prop), Inv X pins σ H s -> RelV v u -> t v σ H Q ->
  wpAny (model X.prog X.w) X.A (assign target X.env u) (fun _ s' => ∃ σ' H', Inv X pins σ' H' s' /\ Q σ' H') X.xe s
noncomputable def PGs (X : Cx) (ts : List Expr) (t : TGs) : Prop :=
 ∀ (pins : List (Addr × Obj)) (s : Shared) (σ : St) (H : Hp) (vs : List V) (us : List Value) (Q : St -> Hp -> Prop), Inv X pins σ H s -> Vals vs us -> t vs σ H Q ->
  wpAny (model X.prog X.w) X.A (assignInOrder ((assignEach ts X.env).map (·.2)) us) (fun _ s' => ∃ σ' H', Inv X pins σ' H' s' /\ Q σ' H') X.xe s
abbrev TSet := V -> V -> V -> Hp -> (Hp -> Prop) -> Prop
noncomputable def PSet (X : Cx) (t : TSet) : Prop :=
 ∀ (pins : List (Addr × Obj)) (s : Shared) (σ : St) (H : Hp) (o i v : V) (ov iv u : Value) (Q : Hp -> Prop), Inv X pins σ H s -> RelV o ov -> RelV i iv -> RelV v u -> t o i v H Q ->
  wpAny (model X.prog X.w) X.A (setItem ov iv u) (fun _ s' => ∃ H', Inv X pins σ H' s' /\ Q H') X.xe s
section
variable {X : Cx} {pos : Pos}
noncomputable def gName (i : Nat) : TG := fun v σ H Q => Q (σ.set i (some v)) H
theorem pg_name {i : Nat} {x : Str} (hN : X.N.Nodup) (hi : X.N[i]? = some x) (hx : Loc X.env.scope x) (hf : X.fn x = true \/ X.env.scope.names.lookup x = some .local := by first | exact .inl rfl | exact .inr rfl | assumption) : PG X (.Name x pos) (gName i) := by
 intro pins s σ H v u Q I r h;exact wpAny_assign_Name (store_ok I hN hi hx r (fun s' I' => ⟨_, H, I', h⟩) hf)
noncomputable def gNil : TGs := fun vs σ H Q => vs = [] /\ Q σ H
noncomputable def gCons (t : TG) (u : TGs) : TGs := fun vs σ H Q => ∃ v r, vs = v :: r /\ t v σ H fun σ' H' => u r σ' H' Q
theorem pgs_nil : PGs X [] gNil := by
 intro pins s σ H vs us Q I r h;obtain ⟨e, h⟩ := h;subst e;cases r;exact assignInOrder_nil ⟨σ, H, I, h⟩
theorem pgs_cons {e : Expr} {es : List Expr} {t : TG} {u : TGs} (h1 : PG X e t) (h2 : PGs X es u)
  (hs : (assignEach (e :: es) X.env).map (·.2) = assign e X.env :: (assignEach es X.env).map (·.2) := by rfl) : PGs X (e :: es) (gCons t u) := by
 intro pins s σ H vs us Q I r h;obtain ⟨v, vr, e1, h⟩ := h;subst e1;cases r with
 | cons r rr =>
  rw [hs];refine assignInOrder_cons (thn (h1 pins s σ H _ _ _ I r h) fun _ s1 zz => ?_);obtain ⟨σ1, H1, I1, q1⟩ := zz;exact h2 pins s1 σ1 H1 _ _ Q I1 rr q1
noncomputable def gTup (K : Frag) (n : Nat) (t : TGs) : TG := fun v σ H Q => ∃ a xs, v = .ref a /\ SqT K H a xs /\ xs.length = n /\ t xs σ H Q
theorem pg_tup {es : List Expr} {k : Nat} {t : TGs} {n : Nat} (hc : X.calm = true) (h : PGs X es t)
  (hn : (assignEach es X.env).length = n := by rfl) (hst : (assignEach es X.env).findIdx? (·.1) = none := by rfl) : PG X (.Tuple es k pos) (gTup X.K n t) := by
 intro pins s σ H v u Q I r hw;obtain ⟨a, xs, e1, hq, hl, hw⟩ := hw;subst e1;cases r;obtain ⟨its, rv, ht, hz⟩ := I.tuple hq;refine assign_Tuple_tuple (I.ok.hd hc) ht (by simp [hn, <- hl, rv.length]) hst fun h' hx => ?_
 have I1 : Inv X pins σ H { s with heap := h' } := I.kept (t' := s.toks) fun b o e => hx b o (ne_of_lt (Heap.lt_size e)) e
 exact h pins _ σ H xs _ Q I1 (by simpa using rv) hw
noncomputable def gSub (to ti : TE) (t : TSet) : TG := fun v σ H Q => to σ H fun o H1 => ti σ H1 fun i H2 => t o i v H2 fun H3 => Q σ H3
theorem pg_sub {o i : Expr} {to ti : TE} {t : TSet} (ho : PE X o to) (hi : PE X i ti) (hs : PSet X t)
  (ha : ∀ v, assign (.Subscript o i pos) X.env v = (do
   let ov <- holding [v] (eval o X.env)
   let iv <- holding [v, ov] (eval i X.env)
   standAt pos
   holding [v, ov, iv] (setItem ov iv v)
   release [v, ov, iv] []) := by intro _; rfl) : PG X (.Subscript o i pos) (gSub to ti t) := by
 intro pins s σ H v u Q I r h;rw [ha];refine wpAny_bind (wpAny_holding (thn (ho pins s σ H _ I h) fun ov s1 zz => ?_));obtain ⟨x, H1, I1, r1, q1⟩ := zz;refine wpAny_bind (wpAny_holding (thn (hi pins s1 σ H1 _ I1 q1) fun iv s2 zz => ?_));obtain ⟨y, H2, I2, r2, q2⟩ := zz;refine wpAny_bind (wpAny_standAt (wpAny_bind (wpAny_holding (thn (hs pins s2 σ H2 x y v ov iv u _ I2 r1 r2 r q2) fun _ s3 zz => ?_))));obtain ⟨H3, I3, q3⟩ := zz;exact wpAny_release ⟨σ, H3, I3, q3⟩
noncomputable def tAsg (te : TE) (g : TG) : TS := fun D σ H => te σ H fun x H1 => g x σ H1 D.nx
theorem ps_asg {tg e : Expr} {te : TE} {g : TG} (he : PE X e te) (hg : PG X tg g) (hs : swapsWithSole [tg] e pos.line X.env = pure false := by rfl) (hw : swappedStores [tg] e X.env = pure none := by rfl)
  (h1 : (assignEach [tg] X.env).map (·.2) = [assign tg X.env] := by rfl) : PS X (.Assign [tg] e pos) (tAsg te g) := by
 intro pins s σ H D I h;refine wpAny_Assign_stores (thn (he pins s σ H _ I h) fun v s1 zz => ?_) hs hw;obtain ⟨x, H1, I1, r1, q1⟩ := zz;rw [h1];exact thn (hg pins s1 σ H1 x v _ I1 r1 q1) fun _ s2 q => q
theorem ps_set {i : Nat} {x : Str} {e : Expr} {te : TE} {pos' : Pos} (hN : X.N.Nodup) (hi : X.N[i]? = some x) (hx : Loc X.env.scope x) (he : PE X e te) (hs : swapsWith e (some (.Name x pos')) pos.line X.env = pure false := by rfl) (hf : X.fn x = true \/ X.env.scope.names.lookup x = some .local := by first | exact .inl rfl | exact .inr rfl | assumption) :
  PS X (.Assign [.Name x pos'] e pos) (tAsg te (gName i)) := by
 intro pins s σ H D I h;refine wpAny_Assign_Name (thn (he pins s σ H _ I h) fun v s1 zz => ?_) hs;obtain ⟨y, H1, I1, r1, q1⟩ := zz;exact store_ok I1 hN hi hx r1 (fun s2 I2 => ⟨_, H1, I2, q1⟩) hf
noncomputable def tWhile (c : TT) (tb : TS) : TS := fun D σ H => ∃ W : Nat -> St -> Hp -> Prop, (∃ m, W m σ H) /\ ∀ m σ H, W m σ H ->
 c σ H fun b H1 => if b = true then ∃ N : St -> Hp -> Prop, (∀ σ' H', N σ' H' -> ∃ m', m' < m /\ W m' σ' H') /\ tb { D with nx := N, ct := N, bk := D.nx } σ H1 else D.nx σ H1
theorem ps_while {c : Expr} {body : List Stmt} {tc : TT} {tb : TS} (hp : PassesOwn (model X.prog X.w) X.A X.env X.xe) (hc : PT X c tc) (hb : PSs X body tb) : PS X (.While c body [] pos) (tWhile tc tb) := by
 intro pins s σ H D I h;obtain ⟨W, ⟨m0, w0⟩, turn⟩ := h;refine wpAny_While (codeAny_whileLoop (fun n s' => ∃ σ' H', Inv X pins σ' H' s' /\ W n σ' H') ?_ m0 ⟨σ, H, I, w0⟩)
 rintro n s1 ⟨σ1, H1, I1, w1⟩
 refine wpAny_passesOwn hp (thn (hc pins s1 σ1 H1 _ I1 (turn n σ1 H1 w1)) fun b s2 zz => ?_);obtain ⟨H2, I2, q2⟩ := zz;cases b with
 | true =>
  obtain ⟨N, hN, q2⟩ := q2;rw [if_pos rfl];refine wpAny_passesOwn hp (thn (hb pins s2 σ1 H2 _ I2 q2) fun f s3 q3 => ?_);cases f with
  | next =>
   obtain ⟨σ3, H3, I3, n3⟩ := q3;obtain ⟨m', hm, w3⟩ := hN σ3 H3 n3;exact ⟨m', hm, σ3, H3, I3, w3⟩
  | cont =>
   obtain ⟨σ3, H3, I3, n3⟩ := q3;obtain ⟨m', hm, w3⟩ := hN σ3 H3 n3;exact ⟨m', hm, σ3, H3, I3, w3⟩
  | brk => exact q3
  | ret v => exact q3
 | false =>
  rw [if_neg Bool.false_ne_true];exact wpAny_execs_nil ⟨σ1, H2, I2, q2⟩
end
set_option genInjectivity false in
structure It where
 go : Nat -> Hp -> Prop
 yld : Nat -> Hp -> V -> Hp -> Prop
 stop : Nat -> Hp -> Prop
noncomputable def FpOk (X : Cx) (pins : List (Addr × Obj)) (H : Hp) (b : Addr) : Prop :=
 H b = none /\ b ≠ X.env.locals /\ b ∉ X.fs /\ (b ∈ X.ex \/ X.s₀.heap.objs.size <= b) /\ (∀ x c, X.env.cells.lookup x = some c -> c ≠ b) /\ ∀ p ∈ X.pn ++ pins, p.1 ≠ b
theorem Inv.fpOk {X : Cx} {pins : List (Addr × Obj)} {σ : St} {H H' : Hp} {s : Shared} {b : Addr} (I : Inv X pins σ H s) (hb : s.heap.objs.size <= b) (hn : H' b = none) : FpOk X pins H' b := by
 refine ⟨hn, Nat.ne_of_gt (lt_of_lt_of_le I.lt hb), I.nofs hb, .inr (le_trans I.sz hb), fun x c e z => ?_, fun p hp z => ?_⟩
 ·obtain ⟨v, q⟩ := I.cell x c e;exact absurd (lt_of_lt_of_le q.lt (by rw [z]; exact hb)) (Nat.lt_irrefl _)
 ·exact absurd (lt_of_lt_of_le (Heap.lt_size (I.pin p hp).1) (by rw [z]; exact hb)) (Nat.lt_irrefl _)
structure Turn (P : Program) (w : World) (K : Frag) (tg : Expr) (J : It) (fp : List Addr) (it : Addr) (tn : Nat -> Heap -> Prop) : Prop where
 mem : it ∈ fp
 obj : ∀ i h, tn i h -> ∀ b ∈ fp, ∃ o, h.get? b = some o /\ ∀ v, o.data ≠ .cell v
 keep : ∀ i h h', tn i h -> (∀ b ∈ fp, ∀ o, h.get? b = some o -> h'.get? b = some o) -> tn i h'
 item : ∀ (X : Cx), X.prog = P -> X.w = w -> X.K = K -> X.calm = true -> ∀ (i : Nat) (pins : List (Addr × Obj)) (s : Shared) (σ : St) (H : Hp) (E : Value -> Shared -> Prop), Inv X pins σ H s -> (∀ b ∈ fp, FpOk X pins H b) -> tn i s.heap -> J.go i H ->
  wpAny (model P w) X.A (pyNext (.ref it)) (fun r s1 => ∃ u, r = some u /\
   wpAny (model P w) X.A (letOwnedTupleGo tg (.ref it) u) (fun _ s2 => ∃ x H', Inv X pins σ H' s2 /\ RelV x u /\ J.yld i H x H' /\ tn (i + 1) s2.heap /\ ∀ b ∈ fp, H' b = none) E s1) E s
 done : ∀ (X : Cx), X.prog = P -> X.w = w -> X.K = K -> X.calm = true -> ∀ (i : Nat) (pins : List (Addr × Obj)) (s : Shared) (σ : St) (H : Hp) (E : Value -> Shared -> Prop), Inv X pins σ H s -> (∀ b ∈ fp, FpOk X pins H b) -> tn i s.heap -> J.stop i H ->
  wpAny (model P w) X.A (pyNext (.ref it)) (fun r s1 => r = none /\ Inv X pins σ H s1) E s
 self : ∀ (A : Around) (i : Nat) (s : Shared) (Q : Value -> Shared -> Prop) (E : Value -> Shared -> Prop), tn i s.heap -> Q (.ref it) s -> wpAny (model P w) A (pyIter (.ref it)) Q E s
abbrev TI := St -> Hp -> (It -> Hp -> Prop) -> Prop
noncomputable def PIE (X : Cx) (pins : List (Addr × Obj)) (σ : St) (tg : Expr) (R : It -> Hp -> Prop) (itv : Value) (s2 : Shared) : Prop :=
 ∃ (it : Addr) (fp : List Addr) (tn : Nat -> Heap -> Prop) (J : It) (H' : Hp), itv = .ref it /\ Inv X pins σ H' s2 /\ Turn X.prog X.w X.K tg J fp it tn /\ tn 0 s2.heap /\ (∀ b ∈ fp, FpOk X pins H' b) /\ R J H'
noncomputable def PI (X : Cx) (tg iter : Expr) (wi : TI) : Prop :=
 ∀ (pins : List (Addr × Obj)) (s : Shared) (σ : St) (H : Hp) (R : It -> Hp -> Prop), Inv X pins σ H s -> wi σ H R ->
  wpAny (model X.prog X.w) X.A (eval iter X.env) (fun v s1 => wpAny (model X.prog X.w) X.A (pyIter v) (PIE X pins σ tg R) X.xe s1) X.xe s
theorem go_of {M : Model} {A : Around} {E : Value -> Shared -> Prop} {s : Shared} {tg : Expr} {it : Addr} {u : Value} {o : Obj} {n : String} {vs : Array Value} {Q : Unit -> Shared -> Prop} (ho : s.heap.get? it = some o) (hc : o.cls = .type n) (hd : o.data = .fields vs)
  (hn : ["enumerate", "zip", "dict_itemiterator", "dict_reverseitemiterator", "odict_iterator", "itertools.zip_longest", "itertools.pairwise"].contains n = false) (hQ : Q () s) : wpAny M A (letOwnedTupleGo tg (.ref it) u) Q E s := by
 unfold letOwnedTupleGo;cases tg <;> first
  | exact wpAny_pure hQ
  | (cases u <;> first
    | exact wpAny_pure hQ
    | (refine wpAny_bind (wpAny_load ho ?_)
       rw [hc, hd];show wpAny M A (if (["enumerate", "zip", "dict_itemiterator", "dict_reverseitemiterator", "odict_iterator", "itertools.zip_longest", "itertools.pairwise"].contains n && vs[0]? == some (rawInt _)) = true then _ else _) Q E s
       rw [if_neg (by intro h; rw [hn, Bool.false_and] at h; cases h)]
       exact wpAny_pure hQ))
noncomputable def Itl (K : Frag) (a : Addr) : It :=
 ⟨fun i H => ∃ xs x, SqL K H a xs /\ xs[i]? = some x, fun i H x H' => H' = H /\ ∀ xs, SqL K H a xs -> xs[i]? = some x, fun i H => ∃ xs, SqL K H a xs /\ xs.length <= i⟩
noncomputable def Itt (K : Frag) (a : Addr) : It :=
 ⟨fun i H => ∃ xs x, SqT K H a xs /\ xs[i]? = some x, fun i H x H' => H' = H /\ ∀ xs, SqT K H a xs -> xs[i]? = some x, fun i H => ∃ xs, SqT K H a xs /\ xs.length <= i⟩
noncomputable def Itr (lo : Int) (n : Nat) : It := ⟨fun i _ => i < n, fun i H x H' => H' = H /\ x = .int (lo + i), fun i _ => n <= i⟩
theorem turn_list {P : Program} {w : World} {K : Frag} {tg : Expr} (a it : Addr) : Turn P w K tg (Itl K a) [it] it (fun i h => h.IsListIter it a i) where
 mem := by simp
 obj := fun i h st b hb => by
  have e : b = it := by simpa using hb
  subst e;obtain ⟨o, e, c, d⟩ := st;exact ⟨o, e, fun v z => by rw [d] at z; cases z⟩
 keep := fun i h h' st k => st.at fun o e => k it (by simp) o e
 item := by
  intro X hP hw hK hc i pins s σ H E I hf st hg;subst hP hw hK;obtain ⟨xs, x, hq, hx⟩ := hg;obtain ⟨its, rv, p, hz⟩ := I.list hq;obtain ⟨u, hu, ru⟩ := rv.get hx;obtain ⟨f0, f1, f2, f3, f4, f5⟩ := hf it (by simp)
  refine wpAny_pyNext_list_item st p.isList (x := u) (by simpa using hu) fun h' st' sb => ?_
  have I1 : Inv X pins σ H { s with heap := h' } := I.turned (t' := s.toks) (fun b o hb e => (sb.2 b hb).trans e) f0 f1 f3 f4 f5
  obtain ⟨o, e, c, d⟩ := id st';exact ⟨u, rfl, go_of (s := { s with heap := h' }) e c d (by decide) ⟨x, H, I1, ru, ⟨rfl, fun ys hy => by rw [I.list_inj hy hq]; exact hx⟩, st', fun b hb => (hf b hb).1⟩⟩
 done := by
  intro X hP hw hK hc i pins s σ H E I hf st hg;subst hP hw hK;obtain ⟨xs, hq, hx⟩ := hg;obtain ⟨its, rv, p, hz⟩ := I.list hq;obtain ⟨f0, f1, f2, f3, f4, f5⟩ := hf it (by simp)
  have hl := rv.length;exact wpAny_pyNext_list_end (I.ok.hd hc) st p.isList (by simp; walk_at "oo") fun h' eb => ⟨rfl, I.turned (t' := s.toks) (fun b o hb e => eb b o hb e) f0 f1 f3 f4 f5⟩
 self := fun _ _ _ _ _ st h => wpAny_pyIter_listiter st h
theorem turn_tuple {P : Program} {w : World} {K : Frag} {tg : Expr} (a it : Addr) : Turn P w K tg (Itt K a) [it] it (fun i h => h.IsTupleIter it a i) where
 mem := by simp
 obj := fun i h st b hb => by
  have e : b = it := by simpa using hb
  subst e;obtain ⟨o, e, c, d⟩ := st;exact ⟨o, e, fun v z => by rw [d] at z; cases z⟩
 keep := fun i h h' st k => st.at fun o e => k it (by simp) o e
 item := by
  intro X hP hw hK hc i pins s σ H E I hf st hg;subst hP hw hK;obtain ⟨xs, x, hq, hx⟩ := hg;obtain ⟨its, rv, p, hz⟩ := I.tuple hq;obtain ⟨u, hu, ru⟩ := rv.get hx;obtain ⟨f0, f1, f2, f3, f4, f5⟩ := hf it (by simp)
  refine wpAny_pyNext_tuple_item st (show s.heap.IsTuple a its.toArray from p) (x := u) (by simpa using hu) fun h' st' sb => ?_
  have I1 : Inv X pins σ H { s with heap := h' } := I.turned (t' := s.toks) (fun b o hb e => (sb.2 b hb).trans e) f0 f1 f3 f4 f5
  obtain ⟨o, e, c, d⟩ := id st';exact ⟨u, rfl, go_of (s := { s with heap := h' }) e c d (by decide) ⟨x, H, I1, ru, ⟨rfl, fun ys hy => by rw [I.tuple_inj hy hq]; exact hx⟩, st', fun b hb => (hf b hb).1⟩⟩
 done := by
  intro X hP hw hK hc i pins s σ H E I hf st hg;subst hP hw hK;obtain ⟨xs, hq, hx⟩ := hg;obtain ⟨its, rv, p, hz⟩ := I.tuple hq;obtain ⟨f0, f1, f2, f3, f4, f5⟩ := hf it (by simp)
  have hl := rv.length;exact wpAny_pyNext_tuple_end (I.ok.hd hc) st (show s.heap.IsTuple a its.toArray from p) (by simp; walk_at "oo") fun h' eb => ⟨rfl, I.turned (t' := s.toks) (fun b o hb e => eb b o hb e) f0 f1 f3 f4 f5⟩
 self := fun _ _ _ _ _ st h => wpAny_pyIter_tupleiter st h
theorem turn_range {P : Program} {w : World} {K : Frag} {tg : Expr} (it : Addr) (lo : Int) (n : Nat) : Turn P w K tg (Itr lo n) [it] it (fun i h => IsRangeIter h it (lo + (i : Nat) * 1) ((n : Int) - (i : Nat)) 1) where
 mem := by simp
 obj := fun i h st b hb => by
  have e : b = it := by simpa using hb
  subst e;exact ⟨_, st, fun v z => by
   have z' : Data.fields _ = Data.cell v := z;cases z'⟩
 keep := fun i h h' st k => k it (by simp) _ st
 item := by
  intro X hP hw hK hc i pins s σ H E I hf st hg;subst hP hw hK;obtain ⟨f0, f1, f2, f3, f4, f5⟩ := hf it (by simp)
  have W := Walks.range (prog := X.prog) (w := X.w) (I.ok.hd hc) it lo 1 n;refine W.item i s _ _ hg st fun v h' tk hv st' kk => ?_;obtain ⟨t, rfl⟩ := hv;have I1 : Inv X pins σ H { s with heap := h', toks := tk } := I.turned (fun b o hb e => kk b o (by simpa using hb) e) f0 f1 f3 f4 f5
  refine ⟨_, rfl, go_of (s := { s with heap := h', toks := tk }) (n := "range_iterator") st' rfl rfl (by decide) ⟨.int (lo + i), H, I1, ⟨t, ?_⟩, ⟨rfl, rfl⟩, st', fun b hb => (hf b hb).1⟩⟩
  rw [Int.mul_one]
 done := by
  intro X hP hw hK hc i pins s σ H E I hf st hg;subst hP hw hK;obtain ⟨f0, f1, f2, f3, f4, f5⟩ := hf it (by simp)
  exact wpAny_pyNext_range_end (I.ok.hd hc) st (by have : n <= i := hg; walk_at "oo") fun h' eb => ⟨rfl, I.turned (t' := s.toks) (fun b o hb e => eb b o hb e) f0 f1 f3 f4 f5⟩
 self := fun _ _ _ _ _ st h => wpAny_pyIter_rangeiter st h
section
variable {X : Cx} {tg : Expr}
theorem range_it {pins : List (Addr × Obj)} {σ : St} {H : Hp} {s : Shared} {R : It -> Hp -> Prop} {E : Value -> Shared -> Prop} {lo hi : Int} {t u v : Tok} {tk : Nat} (I : Inv X pins σ H s) (h1 : -(2 ^ 62) <= lo) (h2 : lo < 2 ^ 62) (h3 : -(2 ^ 62) <= hi) (h4 : hi < 2 ^ 62)
  (q : R (Itr lo (hi - lo).toNat) H) : wpAny (model X.prog X.w) X.A (pyIter (.ref s.heap.objs.size)) (PIE X pins σ tg R) E { s with heap := s.heap.push { cls := .type "range", data := .fields #[.int lo t, .int hi u, .int 1 v] }, toks := tk } := by
 refine wpAny_pyIter_range (IsRange.new ..) (small_one h1 h2 h3 h4) ?_;have I1 : Inv X pins σ H { s with heap := s.heap.push { cls := .type "range", data := .fields #[.int lo t, .int hi u, .int 1 v] }, toks := tk } := I.kept fun b o e => Heap.get?_push_of_some _ e
 refine ⟨(s.heap.push { cls := .type "range", data := .fields #[.int lo t, .int hi u, .int 1 v] }).objs.size, [(s.heap.push { cls := .type "range", data := .fields #[.int lo t, .int hi u, .int 1 v] }).objs.size], _, _, H, rfl,
  I1.kept (t' := tk) fun b o e => Heap.get?_push_of_some _ e, turn_range _ lo (hi - lo).toNat, ?_, fun b hb => ?_, q⟩
 ·have e1 : lo + ((0 : Nat) : Int) * 1 = lo := by simp
  have e2 : (((hi - lo).toNat : Nat) : Int) - ((0 : Nat) : Int) = Builtin.Range.rangeSize lo hi 1 := by rw [rangeSize_one]; split <;> walk_at "oo"
  show IsRangeIter _ _ (lo + ((0 : Nat) : Int) * 1) ((((hi - lo).toNat : Nat) : Int) - ((0 : Nat) : Int)) 1
  rw [e1, e2];exact Heap.get?_push_size _ rfl
 ·have e : b = (s.heap.push { cls := .type "range", data := .fields #[.int lo t, .int hi u, .int 1 v] }).objs.size := by simpa using hb
  subst e;exact I1.fpOk (le_refl _) (I1.hok.fresh (le_refl _))
noncomputable def iRng1 (ta : TA) : TI := fun σ H R => ta σ H fun vs H1 => ∃ j : Int, vs = [.int j] /\ -(2 ^ 62) <= j /\ j < 2 ^ 62 /\ R (Itr 0 j.toNat) H1
noncomputable def iRng2 (ta : TA) : TI := fun σ H R => ta σ H fun vs H1 => ∃ i j : Int, vs = [.int i, .int j] /\ (-(2 ^ 62) <= i /\ i < 2 ^ 62 /\ -(2 ^ 62) <= j /\ j < 2 ^ 62) /\ R (Itr i (j - i).toNat) H1
theorem pi_range1 {a : Expr} {ta : TA} {p pos : Pos} (hg : Gl X "range") (hm : X.mg "range" = none) (ha : PA X [a] ta) (hs : starEach [a] X.env = [(false, eval a X.env)] := by rfl) : PI X tg (.Call (.Name "range" p) [a] [] pos) (iRng1 ta) := by
 intro pins s σ H R I h;refine Call_ (ld_blt I hg hm boot_range (PyProof.Rows.callWith_type1 (thn (ha pos pins s σ H _ I h) fun us s1 ⟨vs, H1, I1, r1, q1⟩ => ?_) hs rfl));obtain ⟨j, e, q1, q2, q⟩ := q1;subst e;cases r1 with
 | cons r rr =>
  cases rr;obtain ⟨t, rfl⟩ := r;exact call_range_1 (range_it I1 (by walk_at "o") (by walk_at "o") q1 q2 (by simpa using q))
theorem pi_range2 {a b : Expr} {ta : TA} {p pos : Pos} (hg : Gl X "range") (hm : X.mg "range" = none) (ha : PA X [a, b] ta) (hs : starEach [a, b] X.env = [(false, eval a X.env), (false, eval b X.env)] := by rfl) (hs2 : starEach [b] X.env = [(false, eval b X.env)] := by rfl) :
  PI X tg (.Call (.Name "range" p) [a, b] [] pos) (iRng2 ta) := by
 intro pins s σ H R I h;refine Call_ (ld_blt I hg hm boot_range (PyProof.Rows.callWith_type1 (thn (ha pos pins s σ H _ I h) fun us s1 ⟨vs, H1, I1, r1, q1⟩ => ?_) (by rw [hs, hs2]) (by rw [hs2]; rfl)))
 obtain ⟨i, j, e, ⟨q1, q2, q3, q4⟩, q⟩ := q1;subst e;cases r1 with
 | cons r rr =>
  cases rr with
  | cons r' rr =>
   cases rr;obtain ⟨t, rfl⟩ := r;obtain ⟨t', rfl⟩ := r';exact call_range_2 (range_it I1 q1 q2 q3 q4 q)
noncomputable def tFor (wi : TI) (g : TG) (tb : TS) : TS := fun D σ H => wi σ H fun J H1 => ∃ W : Nat -> Nat -> St -> Hp -> Prop, (∃ m, W 0 m σ H1) /\ ∀ i m σ H, W i m σ H ->
 (J.stop i H /\ D.nx σ H) \/ (J.go i H /\ ∃ N : St -> Hp -> Prop, (∀ σ' H', N σ' H' -> ∃ m', m' < m /\ W (i + 1) m' σ' H') /\ ∀ x H', J.yld i H x H' -> g x σ H' fun σ2 H2 => tb { D with nx := N, ct := N, bk := D.nx } σ2 H2)
noncomputable def pinsAt (fp : List Addr) (h : Heap) : List (Addr × Obj) := fp.filterMap fun b => (h.get? b).map fun o => (b, o)
theorem mem_pinsAt {fp : List Addr} {h : Heap} {b : Addr} {o : Obj} (hb : b ∈ fp) (e : h.get? b = some o) : (b, o) ∈ pinsAt fp h := List.mem_filterMap.mpr ⟨b, hb, by rw [e]; rfl⟩
theorem of_pinsAt {fp : List Addr} {h : Heap} {p : Addr × Obj} (hp : p ∈ pinsAt fp h) : p.1 ∈ fp /\ h.get? p.1 = some p.2 := by
 obtain ⟨b, hb, e⟩ := List.mem_filterMap.mp hp;cases q : h.get? b with
 | none => rw [q] at e; cases e
 | some o =>
  rw [q] at e;have e' : (b, o) = p := Option.some.inj e;subst e';exact ⟨hb, q⟩
theorem Inv.pinned {pins : List (Addr × Obj)} {σ : St} {H : Hp} {s : Shared} {fp : List Addr} (I : Inv X pins σ H s) (hf : ∀ b ∈ fp, FpOk X pins H b) (ho : ∀ b ∈ fp, ∃ o, s.heap.get? b = some o /\ ∀ v, o.data ≠ .cell v) : Inv X (pins ++ pinsAt fp s.heap) σ H s :=
 I.pins_of fun p hp => (mem_append.mp hp).elim (fun z => I.pin p (mem_append_right _ z)) fun z => by
  obtain ⟨hb, e⟩ := of_pinsAt z;obtain ⟨f0, f1, f2, _⟩ := hf p.1 hb;obtain ⟨o, e', d⟩ := ho p.1 hb;rw [e] at e'; cases e';exact ⟨e, f0, f1, f2, d⟩
theorem Inv.unpinned {pins pl : List (Addr × Obj)} {σ : St} {H : Hp} {s : Shared} (I : Inv X (pins ++ pl) σ H s) : Inv X pins σ H s := I.pins_of fun p hp => I.pin p (mem_append_right _ (mem_append_left _ hp))
theorem ps_for {iter : Expr} {body : List Stmt} {wi : TI} {g : TG} {tb : TS} {pos : Pos} (hp : PassesOwn (model X.prog X.w) X.A X.env X.xe) (hc : X.calm = true) (hi : PI X tg iter wi) (hg : PG X tg g) (hb : PSs X body tb)
  (hs : ∀ x, foldedSetIterable iter X.env x = pure x := by intro _; rfl) : PS X (.For tg iter body [] pos) (tFor wi g tb) := by
 intro pins s σ H D I h;refine wpAny_For (thn (hi pins s σ H _ I h) fun v s1 h1 => thn h1 fun itv s2 h2 => ?_) hs;obtain ⟨it, fp, tn, J, H2, e, I2, T, st2, f2, W, ⟨m0, w0⟩, turn⟩ := h2;subst e;have stat : ∀ {H' : Hp}, (∀ b ∈ fp, H' b = none) -> ∀ b ∈ fp, FpOk X pins H' b := fun hn b hb => ⟨hn b hb, (f2 b hb).2⟩;refine codeAny_forLoop_any (fun n s' => ∃ i σ' H', Inv X pins σ' H' s' /\ tn i s'.heap /\ (∀ b ∈ fp, H' b = none) /\ W i n σ' H') ?_ m0 ⟨0, σ, H2, I2, st2, fun b hb => (f2 b hb).1, w0⟩
 rintro n s3 ⟨i, σ3, H3, I3, st3, fr3, w3⟩
 rcases turn i n σ3 H3 w3 with ⟨stop, qn⟩ | ⟨go, N, hN, step⟩
 ·refine wpAny_passesOwn hp (thn (T.done X rfl rfl rfl hc i pins s3 σ3 H3 X.xe I3 (stat fr3) st3 stop) fun r s4 zz => ?_);obtain ⟨hr, I4⟩ := zz;subst hr;exact wpAny_execs_nil ⟨σ3, H3, I4, qn⟩
 ·refine wpAny_passesOwn hp (thn (T.item X rfl rfl rfl hc i pins s3 σ3 H3 X.xe I3 (stat fr3) st3 go) fun r s4 zz => ?_);obtain ⟨u, hr, h4⟩ := zz;subst hr;refine wpAny_passesOwn hp (thn h4 fun _ s5 zz => ?_);obtain ⟨x, H5, I5, r5, y5, st5, fr5⟩ := zz;have I5' := I5.pinned (stat fr5) (T.obj _ _ st5);refine wpAny_passesOwn hp (thn (hg _ s5 σ3 H5 x u _ I5' r5 (step x H5 y5)) fun _ s6 zz => ?_);obtain ⟨σ6, H6, I6, q6⟩ := zz;refine wpAny_passesOwn hp (thn (hb _ s6 σ6 H6 _ I6 q6) fun f s7 q7 => ?_);have again : ∀ {σ7 : St} {H7 : Hp}, Inv X (pins ++ pinsAt fp s5.heap) σ7 H7 s7 -> N σ7 H7 -> ∃ m, m < n /\ ∃ i σ' H', Inv X pins σ' H' s7 /\ tn i s7.heap /\ (∀ b ∈ fp, H' b = none) /\ W i m σ' H' := fun {σ7 H7} I7 n7 => by
   obtain ⟨m', hm, w7⟩ := hN σ7 H7 n7;refine ⟨m', hm, i + 1, σ7, H7, I7.unpinned, T.keep _ _ _ st5 fun b hb o e => (I7.pin (b, o) (mem_append_right _ (mem_append_right _ (mem_pinsAt hb e)))).1, fun b hb => ?_, w7⟩;obtain ⟨o, e, d⟩ := T.obj _ _ st5 b hb;exact (I7.pin (b, o) (mem_append_right _ (mem_append_right _ (mem_pinsAt hb e)))).2.1
  cases f with
  | next => obtain ⟨σ7, H7, I7, n7⟩ := q7; exact again I7 n7
  | cont => obtain ⟨σ7, H7, I7, n7⟩ := q7; exact again I7 n7
  | brk => obtain ⟨σ7, H7, I7, q7⟩ := q7; exact ⟨σ7, H7, I7.unpinned, q7⟩
  | ret v => obtain ⟨x7, σ7, H7, I7, r7, q7⟩ := q7; exact ⟨x7, σ7, H7, I7.unpinned, r7, q7⟩
end
abbrev R2 := V -> V -> Hp -> VK -> Prop
noncomputable def OpR (X : Cx) (f : Value -> Value -> Sem Value) (r : R2) : Prop :=
 ∀ (pins : List (Addr × Obj)) (s : Shared) (σ : St) (H : Hp) (x y : V) (v u : Value) (Q : VK), Inv X pins σ H s -> RelV x v -> RelV y u -> r x y H Q ->
  wpAny (model X.prog X.w) X.A (f v u) (EP X pins σ Q) X.xe s
noncomputable def UnR (X : Cx) (f : Value -> Sem Value) (r : V -> Hp -> VK -> Prop) : Prop :=
 ∀ (pins : List (Addr × Obj)) (s : Shared) (σ : St) (H : Hp) (x : V) (v : Value) (Q : VK), Inv X pins σ H s -> RelV x v -> r x H Q ->
  wpAny (model X.prog X.w) X.A (f v) (EP X pins σ Q) X.xe s
noncomputable def CallR (X : Cx) (f : Value) (r : List V -> Hp -> VK -> Prop) : Prop :=
 ∀ (pins : List (Addr × Obj)) (s : Shared) (σ : St) (H : Hp) (xs : List V) (us : List Value) (Q : VK), Inv X pins σ H s -> Vals xs us -> r xs H Q ->
  wpAny (model X.prog X.w) X.A (call f us) (EP X pins σ Q) X.xe s
noncomputable def TruR (X : Cx) (r : V -> Hp -> (Bool -> Hp -> Prop) -> Prop) : Prop :=
 ∀ (pins : List (Addr × Obj)) (s : Shared) (σ : St) (H : Hp) (x : V) (v : Value) (Q : Bool -> Hp -> Prop), Inv X pins σ H s -> RelV x v -> r x H Q ->
  wpAny (model X.prog X.w) X.A (truthy v) (TP X pins σ Q) X.xe s
noncomputable def tOp (r : R2) (ta tb : TE) : TE := fun σ H Q => ta σ H fun x H1 => tb σ H1 fun y H2 => r x y H2 Q
noncomputable def tUn (r : V -> Hp -> VK -> Prop) (ta : TE) : TE := fun σ H Q => ta σ H fun x H1 => r x H1 Q
noncomputable def rI (C : Int -> Int -> Prop) (g : Int -> Int -> V) : R2 := fun x y H Q => ∃ i j, x = .int i /\ y = .int j /\ C i j /\ Q (g i j) H
noncomputable def rI0 (g : Int -> Int -> V) : R2 := fun x y H Q => ∃ i j, x = .int i /\ y = .int j /\ Q (g i j) H
noncomputable def rU (g : Int -> V) : V -> Hp -> VK -> Prop := fun x H Q => ∃ i, x = .int i /\ Q (g i) H
section
variable {X : Cx} {a b c : Expr} {ta tb tc : TE} {pos : Pos}
theorem binT (ha : PE X a ta) (hb : PE X b tb) {pins : List (Addr × Obj)} {s : Shared} {σ : St} {H : Hp} {R : V -> V -> Hp -> Prop} (I : Inv X pins σ H s)
  (h : ta σ H fun x H1 => tb σ H1 fun y H2 => R x y H2) {Q : Value -> Shared -> Prop} {f : Value -> Value -> Sem Value}
  (hf : ∀ v u s2 x y H2, Inv X pins σ H2 s2 -> RelV x v -> RelV y u -> R x y H2 -> wpAny (model X.prog X.w) X.A (f v u) Q X.xe s2) :
  wpAny (model X.prog X.w) X.A (eval a X.env) (fun v s₁ => wpAny (model X.prog X.w) X.A (eval b X.env) (fun u s₂ => wpAny (model X.prog X.w) X.A (f v u) Q X.xe s₂) X.xe s₁) X.xe s := by
 refine thn (ha pins s σ H _ I h) fun v s1 zz => ?_;obtain ⟨x, H1, I1, r1, q1⟩ := zz;refine thn (hb pins s1 σ H1 _ I1 q1) fun u s2 zz => ?_;obtain ⟨y, H2, I2, r2, q2⟩ := zz;exact hf v u s2 x y H2 I2 r1 r2 q2
theorem pe_op {op : Operator} {r : R2} (ho : OpR X (binaryOp op) r) (ha : PE X a ta) (hb : PE X b tb) : PE X (.BinOp a op b pos) (tOp r ta tb) := by
 intro pins s σ H Q I h;exact wpAny_BinOp (binT ha hb I h fun v u s2 x y H2 I2 rx ry q => ho pins s2 σ H2 x y v u Q I2 rx ry q)
theorem pe_un {op : UnaryOp} {r : V -> Hp -> VK -> Prop} (ho : UnR X (unaryOp op) r) (ha : PE X a ta) : PE X (.UnaryOp op a pos) (tUn r ta) := by
 intro pins s σ H Q I h;exact UnaryOp_ (thn (ha pins s σ H _ I h) fun v s1 ⟨x, H1, I1, r1, q1⟩ => ho pins s1 σ H1 x v Q I1 r1 q1)
theorem opI {f : Value -> Value -> Sem Value} {C : Int -> Int -> Prop} {g : Int -> Int -> Int}
  (rule : ∀ (i j : Int) (t u : Tok) (s : Shared) (Q : Value -> Shared -> Prop) (E : Value -> Shared -> Prop), C i j -> Q (.int (g i j) s.toks) { s with toks := s.toks + 1 } -> wpAny (model X.prog X.w) X.A (f (.int i t) (.int j u)) Q E s) :
  OpR X f (rI C fun i j => .int (g i j)) := by
 intro pins s σ H x y v u Q I rx ry h;obtain ⟨i, j, rfl, rfl, hc, q⟩ := h;obtain ⟨t, rfl⟩ := rx;obtain ⟨t', rfl⟩ := ry;exact rule i j t t' s _ _ hc ⟨.int (g i j), H, I.tok _, ⟨_, rfl⟩, q⟩
theorem opI0 {f : Value -> Value -> Sem Value} {g : Int -> Int -> Int}
  (rule : ∀ (i j : Int) (t u : Tok) (s : Shared) (Q : Value -> Shared -> Prop) (E : Value -> Shared -> Prop), Q (.int (g i j) s.toks) { s with toks := s.toks + 1 } -> wpAny (model X.prog X.w) X.A (f (.int i t) (.int j u)) Q E s) :
  OpR X f (rI0 fun i j => .int (g i j)) := by
 intro pins s σ H x y v u Q I rx ry h;obtain ⟨i, j, rfl, rfl, q⟩ := h;obtain ⟨t, rfl⟩ := rx;obtain ⟨t', rfl⟩ := ry;exact rule i j t t' s _ _ ⟨.int (g i j), H, I.tok _, ⟨_, rfl⟩, q⟩
theorem opB0 {f : Value -> Value -> Sem Value} {g : Int -> Int -> Bool}
  (rule : ∀ (i j : Int) (t u : Tok) (s : Shared) (Q : Value -> Shared -> Prop) (E : Value -> Shared -> Prop), Q (.bool (g i j)) s -> wpAny (model X.prog X.w) X.A (f (.int i t) (.int j u)) Q E s) :
  OpR X f (rI0 fun i j => .bl (g i j)) := by
 intro pins s σ H x y v u Q I rx ry h;obtain ⟨i, j, rfl, rfl, q⟩ := h;obtain ⟨t, rfl⟩ := rx;obtain ⟨t', rfl⟩ := ry;exact rule i j t t' s _ _ ⟨.bl (g i j), H, I, rfl, q⟩
noncomputable def CDiv (i j : Int) : Prop := 0 < j /\ j < 1073741824
noncomputable def CPow (i j : Int) : Prop := 0 <= j /\ j <= 1000000 /\ i.natAbs < 2 ^ 64
noncomputable def CMul (i j : Int) : Prop := (-(2 ^ 64) < i /\ i < 2 ^ 64) \/ (-(2 ^ 64) < j /\ j < 2 ^ 64)
theorem CMul.ok {i j : Int} (h : CMul i j) : IntMulOk i j := by
 rcases h with ⟨h1, h2⟩ | ⟨h1, h2⟩
 ·exact .of_left (intBits_le_64 h1 h2)
 ·exact .of_right (intBits_le_64 h1 h2)
theorem op_add : OpR X (binaryOp .Add) (rI0 fun i j => .int (i + j)) := opI0 fun _ _ _ _ _ _ _ q => add_int q
theorem op_mul : OpR X (binaryOp .Mult) (rI CMul fun i j => .int (i * j)) := opI fun _ _ _ _ _ _ _ hc q => mul_int q hc.ok
theorem op_fdiv : OpR X (binaryOp .FloorDiv) (rI CDiv fun i j => .int (i / j)) := opI fun i j _ _ _ _ _ hc q => by
 have h1 : (0 : Int) < j := hc.1;have h2 : j < 1073741824 := hc.2;exact floordiv_int (by walk_at "o") (by rw [Int.fdiv_eq_ediv_of_nonneg i (by walk_at "o")]; exact q) (.inl (PyProof.noPylong_small (by walk_at "o")))
theorem op_mod : OpR X (binaryOp .Mod) (rI (fun _ j => 0 < j) fun i j => .int (i % j)) := opI fun i j _ _ _ _ _ hc q => by
 have h1 : (0 : Int) < j := hc;exact mod_int' (by walk_at "o") (by rw [Int.fmod_eq_emod_of_nonneg i (by walk_at "o")]; exact q)
theorem unI {f : Value -> Sem Value} {g : Int -> Int}
  (rule : ∀ (i : Int) (t : Tok) (s : Shared) (Q : Value -> Shared -> Prop) (E : Value -> Shared -> Prop), Q (.int (g i) s.toks) { s with toks := s.toks + 1 } -> wpAny (model X.prog X.w) X.A (f (.int i t)) Q E s) :
  UnR X f (rU fun i => .int (g i)) := by
 intro pins s σ H x v Q I rx h;obtain ⟨i, rfl, q⟩ := h;obtain ⟨t, rfl⟩ := rx;exact rule i t s _ _ ⟨.int (g i), H, I.tok _, ⟨_, rfl⟩, q⟩
theorem un_neg : UnR X (unaryOp .USub) (rU fun i => .int (-i)) := unI fun _ _ _ _ _ q => neg_int q
theorem op_lt : OpR X (compareOp .Lt) (rI0 fun i j => .bl (decide (i < j))) := opB0 fun _ _ _ _ _ _ _ q => lt_int q
theorem OpR.or {f : Value -> Value -> Sem Value} {r r' : R2} (h : OpR X f r) (h' : OpR X f r') : OpR X f (fun x y H Q => r x y H Q \/ r' x y H Q) := by
 intro pins s σ H x y v u Q I rx ry q;rcases q with q | q
 ·exact h pins s σ H x y v u Q I rx ry q
 ·exact h' pins s σ H x y v u Q I rx ry q
theorem nomark (b : Expr) {op : CmpOp} (h : op ≠ .In := by decide) (h2 : op ≠ .NotIn := by decide) : behindInMarks op b = false := by
 have e1 : (op == CmpOp.In) = false := by cases op <;> first | rfl | exact absurd rfl h
 have e2 : (op == CmpOp.NotIn) = false := by cases op <;> first | rfl | exact absurd rfl h2
 cases b <;> simp [behindInMarks, e1, e2]
theorem pe_cmpR {op : CmpOp} {r : R2} (ho : OpR X (compareOp op) r) (ha : PE X a ta) (hb : PE X b tb) (hm : behindInMarks op b = false) : PE X (.Compare a [op] [b] pos) (tOp r ta tb) := by
 intro pins s σ H Q I h;exact wpAny_Compare1 (binT ha hb I h fun v u s2 x y H2 I2 rx ry q => ho pins s2 σ H2 x y v u Q I2 rx ry q) hm
noncomputable def tTest (t : TE) : TT := fun σ H Q => t σ H fun x H' => ∃ k, x = .bl k /\ Q k H'
theorem pt_cmpR {op : CmpOp} {r : R2} (ho : OpR X (compareOp op) r) (ha : PE X a ta) (hb : PE X b tb) (hm : behindInMarks op b = false) : PT X (.Compare a [op] [b] pos) (tTest (tOp r ta tb)) := by
 intro pins s σ H Q I h;refine wpAny_isTrue_Compare1 (thn (ha pins s σ H _ I h) fun v s1 zz => ?_) hm;obtain ⟨x, H1, I1, r1, q1⟩ := zz;refine thn (hb pins s1 σ H1 _ I1 q1) fun u s2 zz => ?_;obtain ⟨y, H2, I2, r2, q2⟩ := zz;refine thn (ho pins s2 σ H2 x y v u _ I2 r1 r2 q2) fun c s3 zz => ?_;obtain ⟨z, H3, I3, r3, k, e, q3⟩ := zz;subst e;cases r3;exact wpAny_truthy_bool ⟨H3, I3, q3⟩
noncomputable def TruV (K : Frag) (x : V) (H : Hp) (k : Bool) : Prop :=
 match x with
 | .non => k = false
 | .bl b => k = b
 | .int i => k = (i != 0)
 | .str y => y.length <= sizeLine /\ k = ((y.length : Int) != 0)
 | .byt y => y.size <= sizeLine /\ k = ((y.size : Int) != 0)
 | .ref p => (∃ xs, SqL K H p xs /\ k = !xs.isEmpty) \/ (∃ xs, SqT K H p xs /\ k = !xs.isEmpty) \/ ∃ kvs, H p = some (.dK kvs) /\ k = !kvs.isEmpty
 | _ => False
theorem isEmpty_kv {κ : Type} {kvs : List (κ × V)} {vs : List (κ × Value)} (r : KV kvs vs) : (!vs.isEmpty) = !kvs.isEmpty := by
 cases r <;> rfl
theorem isEmpty_of {xs : List V} {its : List Value} (r : Vals xs its) : (!its.toArray.isEmpty) = !xs.isEmpty := by
 cases r <;> simp
theorem line63 : (sizeLine : Nat) < 2 ^ 63 := by rw [sizeLine_eq]; decide
theorem tru_ok : TruR X (fun x H Q => ∃ k, TruV X.K x H k /\ Q k H) := by
 intro pins s σ H x v Q I rx h;obtain ⟨k, e, q⟩ := h;have hl := line63;have hs : sizeLine = 16777216 := sizeLine_eq;cases x with
 | non =>
  cases rx;have e' : k = false := e;subst e';exact truthy_none ⟨H, I, q⟩
 | bl b =>
  cases rx;have e' : k = b := e;subst e';exact wpAny_truthy_bool ⟨H, I, q⟩
 | int i =>
  obtain ⟨t, rfl⟩ := rx;have e' : k = (i != 0) := e;subst e';exact PySem.P.truthy_int ⟨H, I, q⟩
 | str y =>
  obtain ⟨t, rfl⟩ := rx;obtain ⟨hy, e'⟩ : y.length <= sizeLine /\ k = ((y.length : Int) != 0) := e;subst e';exact PySem.P.truthy_str (by walk_at "o") ⟨H, I.tok _, q⟩
 | byt y =>
  obtain ⟨t, rfl⟩ := rx;obtain ⟨hy, e'⟩ : y.size <= sizeLine /\ k = ((y.size : Int) != 0) := e;subst e';exact PySem.W.truthy_bytes (by walk_at "o") ⟨H, I.tok _, q⟩
 | ref p =>
  cases rx;have e' : (∃ xs, SqL X.K H p xs /\ k = !xs.isEmpty) \/ (∃ xs, SqT X.K H p xs /\ k = !xs.isEmpty) \/ ∃ kvs, H p = some (.dK kvs) /\ k = !kvs.isEmpty := e;rcases e' with ⟨xs, hx, e'⟩ | ⟨xs, hx, e'⟩ | ⟨kvs, hx, e'⟩
  ·subst e';obtain ⟨its, r, pl, hz⟩ := I.list hx;have hlen := r.length;exact wpAny_truthy_list pl.isList (by simp only [size_toArray]; walk_at "oo") ⟨H, I.tok _, by rw [isEmpty_of r]; exact q⟩
  ·subst e';obtain ⟨its, r, pl, hz⟩ := I.tuple hx;have hlen := r.length;exact truthy_tuple pl (by simp only [size_toArray]; walk_at "oo") ⟨H, I.tok _, by rw [isEmpty_of r]; exact q⟩
  ·subst e';obtain ⟨hz, hS, vs, r, m⟩ : kvs.length <= sizeLine /\ (p == sysModules) = false /\ ∃ vs, KV kvs vs /\ s.heap.DictOf (mixKind X.prog X.w) p vs := I.hok p _ hx;have hlen : kvs.length = vs.length := Paired.length r;exact wpAny_truthy_dict hS m (by walk_at "o") ⟨H, I.tok _, by rw [isEmpty_kv r]; exact q⟩
 | _ => exact (show False from e).elim
theorem pt_truth (ha : PE X a ta) (he : ∀ whole, isTrue a X.env whole = (do let v <- whole; standAt a.pos; holding [v] (truthy v))) :
  PT X a (fun σ H Q => ta σ H fun x H' => ∃ k, TruV X.K x H' k /\ Q k H') := by
 intro pins s σ H Q I h;exact isTrue_plain (thn (ha pins s σ H _ I h) fun v s1 ⟨x, H1, I1, r1, q1⟩ => tru_ok pins s1 σ H1 x v Q I1 r1 q1) (he _)
theorem op_add_str : OpR X (binaryOp .Add) (fun x y H Q => ∃ i j, x = .str i /\ y = .str j /\ i.length + j.length <= sizeLine /\ Q (.str (i ++ j)) H) := by
 intro pins s σ H x y v u Q I rx ry h;obtain ⟨i, j, rfl, rfl, hz, q⟩ := h;obtain ⟨t, rfl⟩ := rx;obtain ⟨t', rfl⟩ := ry;exact add_str (fun t' tk => ⟨.str (i ++ j), H, I.tok _, ⟨_, rfl⟩, q⟩) hz
theorem vals1 {x : V} {us : List Value} (r : Vals [x] us) : ∃ u, us = [u] /\ RelV x u := by
 cases r with
 | cons r1 r2 => cases r2; exact ⟨_, rfl, r1⟩
theorem vals2 {x y : V} {us : List Value} (r : Vals [x, y] us) : ∃ u w', us = [u, w'] /\ RelV x u /\ RelV y w' := by
 cases r with
 | cons r1 r2 =>
  cases r2 with
  | cons r3 r4 => cases r4; exact ⟨_, _, rfl, r1, r3⟩
end
structure ObjM (h : Heap) (x dx C : Addr) (mA : Str -> Option Value) : Prop where
 obj : h.get? x = some (instObj C dx)
 ns : h.Ns1 dx mA
 ne : dx ≠ x
theorem lookIn_ns {h : Heap} {dx : Addr} {mA : Str -> Option Value} (n : h.Ns1 dx mA) : ∃ od, h.get? dx = some od /\ ∀ name, lookIn name od = some (mA name) := by
 obtain ⟨o, es, ep, ho, hd, hk, _, hm⟩ := n;refine ⟨o, ho, fun name => ?_⟩;have e := hm name;unfold nsFind findBy at e;rw [<- Array.find?_toList] at e;unfold lookIn;rw [hd];dsimp only;split
 ·rename_i y q;rw [q] at e;exact congrArg some e
 ·rename_i q;rw [q] at e;have a : es.toList.any (·.refKey) = false := by
   rw [any_eq_false];intro y hy;obtain ⟨z, t, hkey⟩ := hk y (Array.mem_toList_iff.mp hy);simp [DictEntry.refKey, hkey]
  have a' : ¬ es.toList.any (·.refKey) = true := by rw [a]; exact Bool.false_ne_true
  rw [if_neg a'];exact congrArg some e
theorem ObjM.look {h : Heap} {x dx C : Addr} {mA : Str -> Option Value} (I : ObjM h x dx C mA) : ∃ od, PySem.W.InstAt h x (instObj C dx) C (some od) /\ ∀ name, lookIn name od = some (mA name) :=
 let ⟨od, ho, hl⟩ := lookIn_ns I.ns
 ⟨od, ⟨I.obj, rfl, rfl, ho⟩, hl⟩
section
variable {prog : Program} {w : World} {A : Around} {E : Value -> Shared -> Prop} {s : Shared} {K : Frag} {x dx C f : Addr} {mA : Str -> Option Value} {name : Str} {v : Value}
theorem get_map {expr : Bool} {Q : Value -> Shared -> Prop} (X : K.In s.heap) (I : ObjM s.heap x dx C mA) (hg : plainGet K C name = true) (hh : hasDictIn K C = true)
  (ha : findIn K (.ref C) name = some none) (hv : mA name = some v) (hv' : PySem.W.handedIn v = true) (h : Q v { s with toks := s.toks + 1 }) :
  wpAny (model prog w) A (getAttr (.ref x) name expr) Q E s := by
 obtain ⟨od, J, hl⟩ := I.look;exact PySem.W.get_value X J (plainGet_of hg).1 (PySem.W.findObj_own hh ha rfl (by rw [hl, hv])) hv' h
theorem get_meth {pl : Sem Bool} {Q : Value × List Value -> Shared -> Prop} (X : K.In s.heap) (I : ObjM s.heap x dx C mA) (hg : plainGet K C name = true)
  (hf : findIn K (.ref C) name = some (some (.ref f))) (ht : isFn K (.ref f) = true) (hv : mA name = none) (h : Q (.ref f, [.ref x]) s) :
  wpAny (model prog w) A (getMethod (.ref x) name pl) Q E s := by
 obtain ⟨od, J, hl⟩ := I.look;exact PySem.W.method_fn X J (plainGet_of hg).1 (plainGet_of hg).2 hf (beq_iff_eq.mp ht) (by show (lookIn name od).map (·.isSome) = some false; rw [hl, hv]; rfl) h
theorem set_map {ns : List Str} {Q : Unit -> Shared -> Prop} (X : K.In s.heap) (I : ObjM s.heap x dx C mA)
  (hs : findIn K (.ref C) "__setattr__" = some (some (.builtin "object.__setattr__"))) (hp : plainOver K C = true) (ht : takerIn K C name = some none) (hh : hasDictIn K C = true)
  (hw : PySem.Within mA ns) (hsz : ns.length <= sizeLine)
  (h : ∀ h', ObjM h' x dx C (fun y => if y = name then some v else mA y) -> Heap.SameBut dx s.heap h' -> Q () { s with heap := h', toks := s.toks + 2 }) :
  wpAny (model prog w) A (setAttr (.ref x) name v) Q E s := by
 obtain ⟨od, J, hl⟩ := I.look;refine PySem.W.set_plain X J hs (PySem.W.osa_open (s := { s with toks := s.toks + 1 }) (r := none) X J hp ht fun b => ?_)
 obtain ⟨cd, hc, hd'⟩ := PySem.W.any_some hh;have hx : s.heap.get? x = some ⟨.ref C, some dx, .plain, #[]⟩ := I.obj;refine wpAny_bind (wpAny_pure (wpAny_bind (wpAny_bind (wpAny_loadPart hx (wpAny_bind (PySem.W.Looks.here (s := { s with toks := s.toks + 1 }) (PySem.W.looks_clsIn X hc) ?_))))))
 rw [hd'];refine wpAny_pure (a := some dx) (wpAny_bind (wpAny_pure (wpAny_bind ?_)));refine wpAny_nsSet1 (s := { s with toks := s.toks + 1 }) I.ns fun h' hn2 hs2 => ?_
 obtain ⟨oD, esD, epD, hoD, hdD, hcD⟩ := hn2.count (PySem.Within.cons name v hw);refine wpAny_bind (wpAny_lookBehind hoD (by rw [hdD]; exact pastItsLine_dict (le_trans hcD (by rw [length_cons]; walk_at "oo"))) ?_)
 exact wpAny_pure (h _ ⟨(hs2.2 _ (Ne.symm I.ne)).trans I.obj, hn2, I.ne⟩ hs2)
theorem make_map {R : Result -> Shared -> Prop} {vs : List Value} {kw : List (Str × Value)} (X : K.In s.heap) (hm : makesIn K C = true)
  (hi : findIn K (.ref C) "__init__" = some (some (.ref f))) (hf : PySem.W.typeIn K (.ref f) = some (.type "function"))
  (h : codeAny (model prog w) (A.under (.builtin "type.__call__" ⟨.ref C :: vs, kw⟩)) (.call (.ref f) ⟨.ref (s.heap.objs.size + 1) :: vs, kw⟩) (PySem.W.InitBack (s.heap.objs.size + 1) R)
   { s with heap := (s.heap.push emptyDict).push (instObj C s.heap.objs.size) }) :
  codeAny (model prog w) A (.call (.ref C) ⟨vs, kw⟩) R s := by
 obtain ⟨hh, g, d, t, os⟩ := s;exact PySem.W.make_core (PySem.W.makes_of X hm) (PySem.W.looks_findIn X hi) (fun self => PySem.W.bind_fn X self hf) (.inl rfl) h
end
noncomputable def putF (f : Str) (v : V) : List (Str × V) -> List (Str × V)
 | [] => [(f, v)]
 | (g, x) :: r => if g = f then (g, v) :: r else (g, x) :: putF f v r
theorem lookup_putF (f g : Str) (v : V) : ∀ fs : List (Str × V), (putF f v fs).lookup g = if g = f then some v else fs.lookup g
 | [] => by
  show List.lookup g [(f, v)] = _
  by_cases h : g = f
  ·have hb : (g == f) = true := beq_iff_eq.mpr h;simp only [List.lookup, hb, if_pos h]
  ·have hb : (g == f) = false := beq_eq_false_iff_ne.mpr h;simp only [List.lookup, hb, if_neg h]
 | (k, x) :: r => by
  have ih := lookup_putF f g v r;rw [show putF f v ((k, x) :: r) = (if k = f then (k, v) :: r else (k, x) :: putF f v r) from rfl]
  by_cases hk : k = f
  ·rw [if_pos hk]
   by_cases h : g = k
   ·have hb : (g == k) = true := beq_iff_eq.mpr h;simp only [List.lookup, hb, if_pos (h.trans hk)]
   ·have hb : (g == k) = false := beq_eq_false_iff_ne.mpr h;simp only [List.lookup, hb, if_neg (fun e : g = f => h (e.trans hk.symm))]
  ·rw [if_neg hk]
   by_cases h : g = k
   ·have hb : (g == k) = true := beq_iff_eq.mpr h;simp only [List.lookup, hb, if_neg (fun e : g = f => hk (h.symm.trans e))]
   ·have hb : (g == k) = false := beq_eq_false_iff_ne.mpr h;simp only [List.lookup, hb];exact ih
theorem keys_putF (f : Str) (v : V) : ∀ fs : List (Str × V), f ∈ (putF f v fs).map (·.1) /\ ∀ g, g ∈ fs.map (·.1) -> g ∈ (putF f v fs).map (·.1)
 | [] => ⟨by simp [putF], fun g h => by simp at h⟩
 | (k, x) :: r => by
  obtain ⟨i1, i2⟩ := keys_putF f v r;rw [show putF f v ((k, x) :: r) = (if k = f then (k, v) :: r else (k, x) :: putF f v r) from rfl]
  by_cases hk : k = f
  ·rw [if_pos hk];subst hk;exact ⟨by simp, fun g h => by simpa using h⟩
  ·rw [if_neg hk];refine ⟨?_, fun g h => ?_⟩
   ·rw [map_cons];exact mem_cons_of_mem _ i1
   ·rw [map_cons] at h ⊢;rcases mem_cons.mp h with e | e
    ·exact mem_cons.mpr (.inl e)
    ·exact mem_cons_of_mem _ (i2 g e)
theorem length_putF (f : Str) (v : V) : ∀ fs : List (Str × V), (putF f v fs).length <= fs.length + 1
 | [] => by simp [putF]
 | (k, x) :: r => by
  have ih := length_putF f v r;rw [show putF f v ((k, x) :: r) = (if k = f then (k, v) :: r else (k, x) :: putF f v r) from rfl]
  by_cases hk : k = f
  ·rw [if_pos hk, length_cons, length_cons]; walk_at "oo"
  ·rw [if_neg hk, length_cons, length_cons]; walk_at "oo"
theorem RelO.some_of {v : V} {o : Option Value} (r : RelO (some v) o) : ∃ u, o = some u /\ RelV v u := by
 cases o with
 | none => exact (show False from r).elim
 | some u => exact ⟨u, rfl, r⟩
theorem RelO.none_of {o : Option Value} (r : RelO none o) : o = none := by
 cases o with
 | none => rfl
 | some u => exact (show False from r).elim
theorem handed_of {v : V} {u : Value} (r : RelV v u) : PySem.W.handedIn u = true := by
 cases v with
 | non => cases (show u = Value.none from r); rfl
 | bl b => cases (show u = Value.bool b from r); rfl
 | int i => obtain ⟨t, e⟩ := (show ∃ t, u = Value.int i t from r); cases e; rfl
 | str x => obtain ⟨t, e⟩ := (show ∃ t, u = Value.str x t from r); cases e; rfl
 | byt b => obtain ⟨t, e⟩ := (show ∃ t, u = Value.bytes b t from r); cases e; rfl
 | flt b => obtain ⟨t, e⟩ := (show ∃ t, u = Value.float b t from r); cases e; rfl
 | ref a => cases (show u = Value.ref a from r); rfl
 | ty n => cases (show u = Value.type n from r); rfl
section
variable {P : Program} {w : World} {H H' : Hp} {h h' : Heap} {a C dx : Addr} {fs fs' : List (Str × V)}
theorem ins_get (hok : HOk P w H h) (e : H a = some (.ins C dx fs)) : ∃ mA, ObjM h a dx C mA /\ (∀ f, RelO (fs.lookup f) (mA f)) /\ PySem.Within mA (fs.map (·.1)) /\ fs.length <= 1000 /\ H dx = some (.own a) := by
 obtain ⟨d, z, ne, ob, mA, n, r, q⟩ := (show ObjOk P w H h a (.ins C dx fs) from hok a _ e)
 exact ⟨mA, ⟨ob, n, ne⟩, r, q, z, d⟩
end
structure Cls (K : Frag) (C : Addr) : Prop where
 pg : plainGet K C Str.empty = true
 hd : hasDictIn K C = true
 po : plainOver K C = true
 sa : findIn K (.ref C) "__setattr__" = some (some (.builtin "object.__setattr__"))
theorem Cls.get {K : Frag} {C : Addr} (c : Cls K C) (f : Str) : plainGet K C f = true := c.pg
noncomputable def NoAttr (K : Frag) (C : Addr) (f : Str) : Prop := findIn K (.ref C) f = some none
theorem NoAttr.taker {K : Frag} {C : Addr} {f : Str} (n : NoAttr K C f) : takerIn K C f = some none := by
 unfold takerIn;rw [show findIn K (.ref C) f = some none from n]
 rfl
structure Meth (K : Frag) (C : Addr) (m : Str) (f : Addr) : Prop where
 at_ : findIn K (.ref C) m = some (some (.ref f))
 fn : isFn K (.ref f) = true
 kp : keepIn K (.ref f) = true
section
variable {X : Cx} {pins : List (Addr × Obj)} {σ : St} {H : Hp} {s : Shared} {a C dx : Addr} {fs : List (Str × V)} {f : Str} {v : V} {A : Around} {E : Value -> Shared -> Prop}
theorem getattr_ok {b : Bool} {Q : Value -> Shared -> Prop} (I : Inv X pins σ H s) (e : H a = some (.ins C dx fs)) (c : Cls X.K C) (n : NoAttr X.K C f) (l : fs.lookup f = some v)
  (h : ∀ u s', Inv X pins σ H s' -> RelV v u -> Q u s') : wpAny (model X.prog X.w) A (getAttr (.ref a) f b) Q E s := by
 obtain ⟨mA, O, r, _, _, _⟩ := ins_get I.hok e;obtain ⟨u, hu, ru⟩ := RelO.some_of (v := v) (o := mA f) (by rw [<- l]; exact r f)
 exact get_map I.kIn O (c.get f) c.hd n hu (handed_of ru) (h u _ (I.tok _) ru)
theorem getmeth_ok {m : Str} {g : Addr} {pl : Sem Bool} {Q : Value × List Value -> Shared -> Prop} (I : Inv X pins σ H s) (e : H a = some (.ins C dx fs)) (c : Cls X.K C) (k : Meth X.K C m g) (l : fs.lookup m = none)
  (h : Q (.ref g, [.ref a]) s) : wpAny (model X.prog X.w) A (getMethod (.ref a) m pl) Q E s := by
 obtain ⟨mA, O, r, _, _, _⟩ := ins_get I.hok e;have hn : mA m = none := RelO.none_of (by rw [<- l]; exact r m)
 exact get_meth I.kIn O (c.get m) k.at_ k.fn hn h
theorem setattr_ok {y : V} {u : Value} {Q : Unit -> Shared -> Prop} (I : Inv X pins σ H s) (e : H a = some (.ins C dx fs)) (c : Cls X.K C) (n : NoAttr X.K C f) (hl : fs.length < 1000) (ry : RelV y u)
  (h : ∀ s', Inv X pins σ (upd H a (.ins C dx (putF f y fs))) s' -> Q () s') : wpAny (model X.prog X.w) A (setAttr (.ref a) f u) Q E s := by
 obtain ⟨mA, O, r, wi, _, ho⟩ := ins_get I.hok e;have hz : (fs.map (·.1)).length <= sizeLine := by rw [length_map, sizeLine_eq]; walk_at "oo"
 refine set_map I.kIn O c.sa c.po n.taker c.hd wi hz fun h' O' sb => h _ ?_;have hd : ∃ o, h'.get? dx = some o := let ⟨o, _, _, e', _⟩ := O'.ns; ⟨o, e'⟩;refine I.write (x := a) (e := dx) (by rw [e]; exact True.intro) (.inr ho) (fun b q hb z => (sb.2 b hb).trans z) hd ?_
 refine ⟨by rw [upd_ne O.ne]; exact ho, ?_, O.ne, O'.obj, _, O'.ns, fun g => ?_, fun g hg => ?_⟩
 ·have := length_putF f y fs; walk_at "oo"
 ·show RelO ((putF f y fs).lookup g) (if g = f then some u else mA g)
  rw [lookup_putF]
  by_cases q : g = f
  ·rw [if_pos q, if_pos q]; exact ry
  ·rw [if_neg q, if_neg q]; exact r g
 ·by_cases q : g = f
  ·rw [q]; exact (keys_putF f y fs).1
  ·refine (keys_putF f y fs).2 g (wi g fun z => hg ?_);show (if g = f then some u else mA g) = none
   rw [if_neg q]; exact z
theorem Inv.made (I : Inv X pins σ H s) : Inv X pins σ (upd (upd H s.heap.objs.size (.own (s.heap.objs.size + 1))) (s.heap.objs.size + 1) (.ins C s.heap.objs.size []))
  { s with heap := (s.heap.push emptyDict).push (instObj C s.heap.objs.size) } := by
 have e1 : (s.heap.push emptyDict).get? s.heap.objs.size = some emptyDict := Heap.get?_push_size s.heap rfl;have e2 : ((s.heap.push emptyDict).push (instObj C s.heap.objs.size)).get? (s.heap.objs.size + 1) = some (instObj C s.heap.objs.size) := by
  have := Heap.get?_push_size (s.heap.push emptyDict) (o := instObj C s.heap.objs.size) rfl;rwa [Heap.size_push] at this
 have e3 : (s.heap.push emptyDict).Ns s.heap.objs.size (fun _ => none) := ⟨emptyDict, #[], _, e1, rfl, (fun e he => absurd he (by simp)), fun _ => rfl⟩
 have I1 := I.laid (a := s.heap.objs.size) (o := .own (s.heap.objs.size + 1)) (h' := s.heap.push emptyDict) (t' := s.toks) (fun b u q => Heap.get?_push_of_some _ q) (le_refl _) ⟨_, e1⟩;refine I1.laid (a := s.heap.objs.size + 1) (o := .ins C s.heap.objs.size []) (t' := s.toks) (fun b u q => Heap.get?_push_of_some _ q) (le_of_eq (Heap.size_push _ _)) ?_;have ne : s.heap.objs.size ≠ s.heap.objs.size + 1 := ne_of_lt (Nat.lt_succ_self _);refine ⟨by rw [upd_ne ne, upd_same], zero_le _, ne, e2, fun _ => none, (Heap.Ns1.of_empty e3).at fun o q => Heap.get?_push_of_some _ q, fun _ => True.intro, fun y hy => absurd rfl hy⟩
theorem attr_of {prog : Program} {w : World} {env : Env} {e : Expr} {f : Str} {pos : Pos} {s : Shared} {Q : Value -> Shared -> Prop} (hb : attributeBase e f env (eval e env) = eval e env)
  (h : wpAny (model prog w) A (eval e env) (fun o s₁ => wpAny (model prog w) A (getAttr o f true) Q E s₁) E s) : wpAny (model prog w) A (eval (.Attribute e f pos) env) Q E s :=
 Attribute_any_ h (by rw [arm_eval_Attribute, hb])
end
noncomputable def tFld (K : Frag) (ta : TE) (f : Str) : TE := fun σ H Q => ta σ H fun x H1 => ∃ a C dx fs v, x = .ref a /\ H1 a = some (.ins C dx fs) /\ Cls K C /\ NoAttr K C f /\ fs.lookup f = some v /\ Q v H1
noncomputable def sFld (K : Frag) (ta tv : TE) (f : Str) : TS := fun D σ H => tv σ H fun y H1 => ta σ H1 fun x H2 => ∃ a C dx fs, x = .ref a /\ H2 a = some (.ins C dx fs) /\ Cls K C /\ NoAttr K C f /\ fs.length < 1000 /\
 D.nx σ (upd H2 a (.ins C dx (putF f y fs)))
section
variable {X : Cx} {o e value : Expr} {f : Str} {pos pos' tpos : Pos} {ta tv : TE}
theorem pe_fld (he : PE X e ta) (hb : attributeBase e f X.env (eval e X.env) = eval e X.env) : PE X (.Attribute e f pos) (tFld X.K ta f) := by
 intro pins s σ H Q I h;refine attr_of hb (thn (he pins s σ H _ I h) fun u s1 zz => ?_);obtain ⟨x, H1, I1, rx, a, C, dx, fs, v, ex, ea, c, n, l, q⟩ := zz;subst ex;obtain rfl : u = Value.ref a := rx;exact getattr_ok I1 ea c n l fun u' s2 I2 ru => ⟨v, H1, I2, ru, q⟩
theorem ps_fld (ha : PE X o ta) (hv : PE X value tv) (hs : swapsWith value (some (.Attribute o f pos')) pos.line X.env = pure false) : PS X (.Assign [.Attribute o f pos'] value pos) (sFld X.K ta tv f) := by
 intro pins s σ H D I h;refine plainObj_wpAny_Assign_Attribute (thn (hv pins s σ H _ I h) fun u s1 zz => ?_) hs;obtain ⟨y, H1, I1, ry, q⟩ := zz;refine thn (ha pins s1 σ H1 _ I1 q) fun ov s2 zz => ?_;obtain ⟨x, H2, I2, rx, a, C, dx, fs, ex, ea, c, n, l, q2⟩ := zz;subst ex;obtain rfl : ov = Value.ref a := rx;exact setattr_ok I2 ea c n l ry fun s3 I3 => ⟨σ, _, I3, q2⟩
end
section
variable {X : Cx} {pins : List (Addr × Obj)} {σ : St} {H : Hp} {s : Shared} {A : Around} {E : Value -> Shared -> Prop} {Q : Value -> Shared -> Prop} {c : Value} {b : Bool}
inductive TyOf (K : Frag) (H : Hp) : V -> Value -> Prop where
 | non : TyOf K H .non (.type "NoneType")
 | bl (x : Bool) : TyOf K H (.bl x) (.type "bool")
 | int (i : Int) : TyOf K H (.int i) (.type "int")
 | str (x : Str) : TyOf K H (.str x) (.type "str")
 | flt (x : UInt64) : TyOf K H (.flt x) (.type "float")
 | lst {a : Addr} {xs : List V} (e : H a = some (.lst xs)) : TyOf K H (.ref a) (.type "list")
 | frz {a : Addr} {o : Obj} {xs : List V} (e : H a = some (.frz o (.lst xs))) : TyOf K H (.ref a) (.type "list")
 | tup {a : Addr} {xs : List V} (e : H a = some (.tup xs)) : TyOf K H (.ref a) (.type "tuple")
 | dK {a : Addr} {kvs : List (Key × V)} (e : H a = some (.dK kvs)) : TyOf K H (.ref a) (.type "dict")
 | dT {a : Addr} {kvs : List (List Key × V)} (e : H a = some (.dT kvs)) : TyOf K H (.ref a) (.type "dict")
 | ins {a C dx : Addr} {fs : List (Str × V)} (e : H a = some (.ins C dx fs)) (cl : Cls K C) (ha : findIn K (.ref C) "__class__" = some (some (.builtin "object.__class__")))
   (hn : specialIn K (.builtin "object.__class__") "__get__" = some (some (.builtin "getset_descriptor.__get__"))) (htk : PySem.W.takesIn K (.builtin "object.__class__") = some true)
   (hm : PySem.W.mroIn K C (.type "object") = some true) : TyOf K H (.ref a) (.ref C)
theorem isinst_ok {x : V} {u t : Value} (I : Inv X pins σ H s) (rx : RelV x u) (ty : TyOf X.K H x t) (e : kitOne X.K t c = some b) (h : ∀ tk, Q (.bool b) { s with toks := tk }) :
  wpAny (model X.prog X.w) A (call (.builtin "isinstance") [u, c]) Q E s := by
 cases ty with
 | non => cases (show u = Value.none from rx); exact kia_one PySem.W.kitx_none I.kIn True.intro e (fun z => nomatch z) h
 | bl y => cases (show u = Value.bool y from rx); exact kia_one PySem.W.kitx_bool I.kIn True.intro e (fun z => nomatch z) h
 | int i => obtain ⟨t, q⟩ := (show ∃ t, u = Value.int i t from rx); cases q; exact kia_one PySem.W.kitx_int I.kIn True.intro e (fun z => nomatch z) h
 | str y => obtain ⟨t, q⟩ := (show ∃ t, u = Value.str y t from rx); cases q; exact kia_one PySem.W.kitx_str I.kIn True.intro e (fun z => nomatch z) h
 | flt y => obtain ⟨t, q⟩ := (show ∃ t, u = Value.float y t from rx); cases q; exact kia_one PySem.W.kitx_float I.kIn True.intro e (fun z => nomatch z) h
 | @lst a xs ea =>
  cases (show u = Value.ref a from rx)
  obtain ⟨_, _, n, _, h1⟩ := (show ObjOk X.prog X.w H s.heap a (.lst xs) from I.hok a _ ea)
  exact kia_one kitx_list I.kIn ⟨_, h1, rfl⟩ e (fun z => nomatch z) h
 | @frz a ob xs ea =>
  cases (show u = Value.ref a from rx)
  obtain ⟨_, _, _, n, _, h1⟩ := (show ObjOk X.prog X.w H s.heap a (.frz ob (.lst xs)) from I.hok a _ ea)
  exact kia_one kitx_list I.kIn ⟨_, h1, rfl⟩ e (fun z => nomatch z) h
 | @tup a xs ea =>
  cases (show u = Value.ref a from rx)
  obtain ⟨_, _, _, p⟩ := (show ObjOk X.prog X.w H s.heap a (.tup xs) from I.hok a _ ea)
  obtain ⟨o, h1, h2, _⟩ := p;exact kia_one PySem.W.kitx_tuple I.kIn ⟨o, h1, h2⟩ e (fun z => nomatch z) h
 | @dK a kvs ea =>
  cases (show u = Value.ref a from rx)
  obtain ⟨_, _, vs, _, p⟩ := (show ObjOk X.prog X.w H s.heap a (.dK kvs) from I.hok a _ ea)
  obtain ⟨o, es, ep, h1, h2, _⟩ := p;exact kia_one PySem.W.kitx_dict I.kIn ⟨o, h1, h2.1⟩ e (fun z => nomatch z) h
 | @dT a kvs ea =>
  cases (show u = Value.ref a from rx)
  obtain ⟨_, _, xs, _, o, es, ep, h1, h2, _⟩ := (show ObjOk X.prog X.w H s.heap a (.dT kvs) from I.hok a _ ea)
  exact kia_one PySem.W.kitx_dict I.kIn ⟨o, h1, h2.1⟩ e (fun z => nomatch z) h
 | @ins a C dx fs ea cl ha hn htk hm =>
  cases (show u = Value.ref a from rx)
  obtain ⟨mA, O, _⟩ := ins_get I.hok ea;obtain ⟨od, J, _⟩ := O.look;exact kia_one (PySem.W.kitx_own (cl.get _) cl.hd ha hn htk hm) I.kIn J e (fun z => nomatch z) h
end
structure Room (k : Nat) (A : Around) : Prop where
 hd : A.handled = none
 dp : A.depth + 3 * k + 5 < recursionLimit
 un : A.units + 16 * k + 200 < cLine
theorem Room.mono {j k : Nat} {A : Around} (r : Room k A) (h : j <= k) : Room j A := ⟨r.hd, by have := r.dp; walk_at "oo", by have := r.un; walk_at "oo"⟩
theorem Room.deeper {k : Nat} {A : Around} (r : Room (k + 1) A) (env : Env) : Room k (A.deeper env) :=
 ⟨r.hd, by have := r.dp; show A.depth + 1 + 3 * k + 5 < _; walk_at "oo", by have := r.un; show A.units + 3 + 16 * k + 200 < _; walk_at "oo"⟩
theorem Room.in1 {k : Nat} {A : Around} (r : Room (k + 1) A) : Room k A.in1 :=
 ⟨r.hd, by have := r.dp; show A.depth + 3 * k + 5 < _; walk_at "oo", by have := r.un; show A.units + 1 + 16 * k + 200 < _; walk_at "oo"⟩
theorem make_depth {A : Around} {C : Addr} {us : List Value} {kw : List (Str × Value)} : (A.under (.builtin "type.__call__" ⟨.ref C :: us, kw⟩)).depth = A.depth + 1 := by
 first | rfl | simp [Around.under, Code.weight, Code.isCreation, Code.isGuard, Code.isCaller, Code.frames, Code.isFrame, guardIds]
theorem make_units {A : Around} {C : Addr} {us : List Value} {kw : List (Str × Value)} : (A.under (.builtin "type.__call__" ⟨.ref C :: us, kw⟩)).units = A.units + 1 := by
 first | rfl | simp [Around.under, Code.cUnits, Code.frames, Code.isFrame]
theorem Room.make {k : Nat} {A : Around} (r : Room (k + 1) A) (C : Addr) (us : List Value) (kw : List (Str × Value)) : Room k (A.under (.builtin "type.__call__" ⟨.ref C :: us, kw⟩)) :=
 ⟨r.hd, by have := r.dp; rw [make_depth]; walk_at "oo", by have := r.un; rw [make_units]; walk_at "oo"⟩
theorem Room.depth {k : Nat} {A : Around} (r : Room k A) : A.depth < recursionLimit := by have := r.dp; walk_at "oo"
theorem Room.units {k : Nat} {A : Around} (r : Room k A) : A.units + 64 < cLine := by have := r.un; walk_at "oo"
noncomputable def tNil : TA := fun _ H Q => Q [] H
noncomputable def tCons (ta : TE) (tr : TA) : TA := fun σ H Q => ta σ H fun x H1 => tr σ H1 fun xs H2 => Q (x :: xs) H2
section
variable {X : Cx} {e : Expr} {es : List Expr} {te : TE} {t : TA} {pos : Pos}
theorem pa_nil : PA X [] tNil := fun _ _ _ _ H Q I h => Calls.spliced_nil ⟨[], H, I, .nil, h⟩
theorem pa_cons (ha : PE X e te) (hr : PA X es t) (hs : starEach (e :: es) X.env = (false, eval e X.env) :: starEach es X.env := by rfl) : PA X (e :: es) (tCons te t) := by
 intro pos pins s σ H Q I h;rw [hs];show wpAny _ _ (spliced ((false, eval e X.env) :: backTo pos (starEach es X.env))) _ _ s
 refine Calls.spliced_cons (thn (ha pins s σ H _ I h) fun u s1 zz => ?_);obtain ⟨x, H1, I1, r1, q1⟩ := zz;exact thn (hr pos pins s1 σ H1 _ I1 q1) fun us s2 ⟨xs, H2, I2, r2, q2⟩ => ⟨x :: xs, H2, I2, .cons r1 r2, q2⟩
noncomputable def tTup (t : TA) : TE := fun σ H Q => t σ H fun xs H1 => xs.length <= sizeLine /\ ∀ p, H1 p = none -> Q (.ref p) (upd H1 p (.tup xs))
noncomputable def tLst (t : TA) : TE := fun σ H Q => t σ H fun xs H1 => xs.length <= sizeLine /\ ∀ p, H1 p = none -> Q (.ref p) (upd H1 p (.lst xs))
theorem pe_tup {x1} (h : PA X es t) : PE X (.Tuple es x1 pos) (tTup t) := by
 intro pins s σ H Q I hq;refine wpAny_Tuple_spliced (thn (h pos pins s σ H _ I hq) fun us s1 ⟨xs, H1, I1, r, z, q⟩ => ⟨by rw [<- r.length]; exact z, ?_⟩)
 have hf : H1 s1.heap.objs.size = none := I1.hok.fresh (le_refl _);refine ⟨.ref s1.heap.objs.size, upd H1 s1.heap.objs.size (.tup xs), I1.laid (t' := s1.toks) (fun b u e => Heap.get?_push_of_some _ e) (le_refl _) ?_, rfl, q _ hf⟩;exact ⟨z, us, r, ⟨_, Heap.get?_push_size _ rfl, rfl, _, rfl⟩⟩
theorem pe_lst (h : PA X es t) : PE X (.List es pos) (tLst t) := by
 intro pins s σ H Q I hq;refine wpAny_List_spliced (thn (h pos pins s σ H _ I hq) fun us s1 ⟨xs, H1, I1, r, z, q⟩ => ⟨by rw [<- r.length]; exact z, ?_⟩)
 have hf : H1 s1.heap.objs.size = none := I1.hok.fresh (le_refl _);refine ⟨.ref s1.heap.objs.size, upd H1 s1.heap.objs.size (.lst xs), I1.laid (t' := s1.toks) (fun b u e => Heap.get?_push_of_some _ e) (le_refl _) ?_, rfl, q _ hf⟩;exact ⟨z, us, 0, r, Heap.get?_push_size _ rfl⟩
end
abbrev Sp := List V -> Hp -> VK -> XK -> Prop
abbrev CXT := List Env -> Hp -> Shared -> XK -> Value -> Shared -> Prop
structure Env0 (P : Program) (w : World) (K : Frag) (mg : Str -> Option Value) (base : Heap) (A : Around) (outer : List Env) (s : Shared) (H : Hp) : Prop where
 frames : A.frames = some outer
 mod : Mod K mg base
 bs : ∀ b o, base.get? b = some o -> s.heap.get? b = some o /\ H b = none
 bsz : base.objs.size <= s.heap.objs.size
 funs : s.heap.FunFrames base outer
 frf : ∀ b ∈ frs outer, H b = none
 hok : HOk P w H s.heap
 bare : AllBare s.gens
noncomputable def CE (outer : List Env) (P : Program) (w : World) (H : Hp) (s : Shared) (Q : VK) (u : Value) (s' : Shared) : Prop :=
 ∃ v H', s'.os = s.os /\ AllBare s'.gens /\ Un (frs outer) [] H H' s.heap s'.heap /\ HOk P w H' s'.heap /\ RelV v u /\ Q v H'
noncomputable def CR (CX : CXT) (outer : List Env) (P : Program) (w : World) (H : Hp) (s : Shared) (Q : VK) (E : XK) (r : Result) (s' : Shared) : Prop :=
 match r with
 | .ok (.ret u) => CE outer P w H s Q u s'
 | .ok _ => False
 | .error e => CX outer H s E e s'
structure FnOk (P : Program) (w : World) (K : Frag) (mg : Str -> Option Value) (base : Heap) (CX : CXT) (k : Nat) (f : Addr) (fd : FuncData) (ps : List Str) (sp : Sp) : Prop where
 len : ∀ vs H Q E, sp vs H Q E -> vs.length = ps.length
 run : ∀ (A : Around) (outer : List Env) (s : Shared) (H : Hp) (args : Args) (us : List Value) (vs : List V) (Q : VK) (E : XK), Room k A -> Env0 P w K mg base A outer s H -> BindsTo s fd args (ps.zip us) -> Vals vs us -> sp vs H Q E ->
  codeAny (model P w) A (.call (.ref f) args) (CR CX outer P w H s Q E) s
theorem Env0.make {P : Program} {w : World} {K : Frag} {mg : Str -> Option Value} {base : Heap} {A : Around} {outer : List Env} {s : Shared} {H : Hp} (e : Env0 P w K mg base A outer s H) (C : Addr) (us : List Value) (kw : List (Str × Value)) :
  Env0 P w K mg base (A.under (.builtin "type.__call__" ⟨.ref C :: us, kw⟩)) outer s H := ⟨by first | exact e.frames | (simpa [Around.under, Code.envs, Code.isFrame, pushEnvs] using e.frames), e.mod, e.bs, e.bsz, e.funs, e.frf, e.hok, e.bare⟩
theorem Env0.in1 {P : Program} {w : World} {K : Frag} {mg : Str -> Option Value} {base : Heap} {A : Around} {outer : List Env} {s : Shared} {H : Hp} (e : Env0 P w K mg base A outer s H) :
  Env0 P w K mg base A.in1 outer s H := ⟨e.frames, e.mod, e.bs, e.bsz, e.funs, e.frf, e.hok, e.bare⟩
section
variable {X : Cx} {pins : List (Addr × Obj)} {σ : St} {H : Hp} {s s' : Shared}
theorem Inv.env0 (I : Inv X pins σ H s) : Env0 X.prog X.w X.K X.mg X.base X.A X.stack s H :=
 ⟨I.ok.frames, I.ok.mod, I.bs, le_trans I.ok.bsz I.sz, I.stack, I.stkFree, I.hok, I.bare⟩
theorem Inv.after {Q : VK} {u : Value} (I : Inv X pins σ H s) (h : CE X.stack X.prog X.w H s Q u s') : EP X pins σ Q u s' := by
 obtain ⟨v, H', os, bare, un, hok, r, q⟩ := h;obtain ⟨hh, g, d, t, os'⟩ := s';obtain rfl : os' = s.os := os;exact ⟨v, H', I.call (h' := hh) (g' := g) (d' := d) (t' := t) (ch := []) un hok bare (fun b z => absurd z (by simp)), r, q⟩
end
noncomputable def tCall (sp : Sp) (dvs : List V) (E : XK) (t : TA) : TE := fun σ H Q => t σ H fun vs H1 => sp (vs ++ dvs) H1 Q E
noncomputable def tMake (C : Addr) (sp : Sp) (dvs : List V) (E : XK) (t : TA) : TE := fun σ H Q => t σ H fun vs H1 => ∀ x dx, H1 x = none -> H1 dx = none -> dx ≠ x ->
 sp (.ref x :: (vs ++ dvs)) (upd (upd H1 dx (.own x)) x (.ins C dx [])) (fun v H2 => v = .non /\ Q (.ref x) H2) E
noncomputable def Binds (K : Frag) (fd : FuncData) (ps : List Str) (ds : List Value) : Prop :=
 ∀ (s : Shared) (us : List Value), K.In s.heap -> (us ++ ds).length = ps.length -> BindsTo s fd ⟨us, []⟩ (ps.zip (us ++ ds))
theorem Binds.all {K : Frag} {fd : FuncData} {ps : List Str} (h : ∀ us : List Value, us.length = ps.length -> bindArgs fd ⟨us, []⟩ = pure (ps.zip us)) : Binds K fd ps [] := fun s us _ hl => by
 rw [append_nil] at hl ⊢;exact .of_eq (h us hl)
noncomputable def Passes (CX : CXT) (X : Cx) (E : XK) : Prop := ∀ (pins : List (Addr × Obj)) (σ : St) (H : Hp) (s : Shared) (e : Value) (s' : Shared), Inv X pins σ H s -> CX X.stack H s E e s' -> X.xe e s'
section
variable {X : Cx} {CX : CXT} {k : Nat} {f C : Addr} {fd : FuncData} {ps : List Str} {sp : Sp} {dvs : List V} {ds : List Value} {E : XK} {x m : Str} {p pos apos : Pos} {e o : Expr} {es : List Expr} {ta : TE} {t : TA}
theorem run_fn {pins : List (Addr × Obj)} {σ : St} {H : Hp} {s : Shared} {Q : VK} {us : List Value} {vs : List V} (F : FnOk X.prog X.w X.K X.mg X.base CX k f fd ps sp) (hr : Room k X.A) (hb : Binds X.K fd ps ds) (hd : Vals dvs ds) (hx : Passes CX X E)
  (I : Inv X pins σ H s) (r : Vals vs us) (h : sp (vs ++ dvs) H Q E) : wpAny (model X.prog X.w) X.A (call (.ref f) us) (EP X pins σ Q) X.xe s := by
 have r2 : Vals (vs ++ dvs) (us ++ ds) := r.append hd;have hl : (us ++ ds).length = ps.length := by rw [<- r2.length]; exact F.len _ _ _ _ h
 refine wpAny_call (codeAny_mono (F.run X.A X.stack s H ⟨us, []⟩ (us ++ ds) (vs ++ dvs) Q E hr I.env0 (hb s us I.kIn hl) r2 h) fun r s' hq => ?_);cases r with
 | error e => exact hx pins σ H s e s' I hq
 | ok fl =>
  cases fl with
  | ret u => exact I.after hq
  | next => exact False.elim hq
  | brk => exact False.elim hq
  | cont => exact False.elim hq
theorem pe_call (F : FnOk X.prog X.w X.K X.mg X.base CX k f fd ps sp) (hr : Room k X.A) (hg : Gl X x) (hm : X.mg x = some (.ref f)) (hk : keepIn X.K (.ref f) = true) (hb : Binds X.K fd ps ds) (hd : Vals dvs ds) (hx : Passes CX X E)
  (ha : PA X (e :: es) t) (hdb : (x == ("__debug__" : Str)) = false := by decide) (he : starEach (e :: es) X.env = (false, eval e X.env) :: starEach es X.env := by rfl) (hpl : (backTo pos (starEach es X.env)).any (·.1) = false := by rfl) :
  PE X (.Call (.Name x p) (e :: es) [] pos) (tCall sp dvs E t) := by
 intro pins s σ H Q I h;refine wpAny_Call_Name_kw (ld_glob I hg hm ?_ hdb);refine callWith_K (h₀ := X.base) I.ok.mod.kin hk (thn (ha pos pins s σ H _ I h) fun us s1 ⟨vs, H1, I1, r, q⟩ => ⟨I1.kIn, ?_⟩) he hpl;exact run_fn F hr hb hd hx I1 r q
structure Mk (K : Frag) (C f : Addr) : Prop where
 makes : makesIn K C = true
 init : findIn K (.ref C) "__init__" = some (some (.ref f))
 fn : isFn K (.ref f) = true
 kp : keepIn K (.ref C) = true
theorem run_make {pins : List (Addr × Obj)} {σ : St} {H : Hp} {s : Shared} {Q : VK} {us : List Value} {vs : List V} (M : Mk X.K C f) (F : FnOk X.prog X.w X.K X.mg X.base CX k f fd ps sp) (hr : Room (k + 1) X.A) (hb : Binds X.K fd ps ds) (hd : Vals dvs ds)
  (hx : Passes CX X E) (I : Inv X pins σ H s) (r : Vals vs us)
  (h : ∀ x dx, H x = none -> H dx = none -> dx ≠ x -> sp (.ref x :: (vs ++ dvs)) (upd (upd H dx (.own x)) x (.ins C dx [])) (fun v H2 => v = .non /\ Q (.ref x) H2) E) :
  wpAny (model X.prog X.w) X.A (call (.ref C) us) (EP X pins σ Q) X.xe s := by
 have hq := h (s.heap.objs.size + 1) s.heap.objs.size (I.hok.fresh (le_succ _)) (I.hok.fresh (le_refl _)) (ne_of_lt (Nat.lt_succ_self _));have I2 := Inv.made (C := C) I;have r2 : Vals (V.ref (s.heap.objs.size + 1) :: (vs ++ dvs)) (Value.ref (s.heap.objs.size + 1) :: (us ++ ds)) := .cons rfl (r.append hd);have hl : (Value.ref (s.heap.objs.size + 1) :: us ++ ds).length = ps.length := by
  have e := r2.length;rw [F.len _ _ _ _ hq] at e;exact e.symm
 refine wpAny_call (make_map (f := f) I.kIn M.makes M.init (beq_iff_eq.mp M.fn) (codeAny_mono (F.run _ X.stack _ _ ⟨Value.ref (s.heap.objs.size + 1) :: us, []⟩ (Value.ref (s.heap.objs.size + 1) :: (us ++ ds)) _ _ E (hr.make C us [])
  (I2.env0.make C us []) (hb _ (Value.ref (s.heap.objs.size + 1) :: us) I2.kIn hl) r2 hq) fun r s' hq' => ?_))
 cases r with
 | error e => exact hx pins σ _ _ e s' I2 hq'
 | ok fl =>
  cases fl with
  | ret u =>
   obtain ⟨v, H', I3, rv, ev, q3⟩ := I2.after hq';subst ev;exact ⟨rv, ⟨V.ref (s.heap.objs.size + 1), H', I3, rfl, q3⟩⟩
  | next => exact False.elim hq'
  | brk => exact False.elim hq'
  | cont => exact False.elim hq'
theorem pe_make (M : Mk X.K C f) (F : FnOk X.prog X.w X.K X.mg X.base CX k f fd ps sp) (hr : Room (k + 1) X.A) (hg : Gl X x) (hm : X.mg x = some (.ref C)) (hb : Binds X.K fd ps ds) (hd : Vals dvs ds) (hx : Passes CX X E)
  (ha : PA X (e :: es) t) (hdb : (x == ("__debug__" : Str)) = false := by decide) (he : starEach (e :: es) X.env = (false, eval e X.env) :: starEach es X.env := by rfl) (hpl : (backTo pos (starEach es X.env)).any (·.1) = false := by rfl) :
  PE X (.Call (.Name x p) (e :: es) [] pos) (tMake C sp dvs E t) := by
 intro pins s σ H Q I h;refine wpAny_Call_Name_kw (ld_glob I hg hm ?_ hdb);refine callWith_K (h₀ := X.base) I.ok.mod.kin M.kp (thn (ha pos pins s σ H _ I h) fun us s1 ⟨vs, H1, I1, r, q⟩ => ⟨I1.kIn, ?_⟩) he hpl;exact run_make M F hr hb hd hx I1 r q
end
structure FnScope (N P : List Str) (sc : Scope) : Prop where
 kind : sc.kind = .function
 co : sc.isCoroutine = false
 gen : sc.isGenerator = false
 nd : N.Nodup
 pre : N.take P.length = P
 par : ∀ x ∈ P, sc.names.lookup x = some .local \/ sc.names.lookup x = some .cell
 nofree : ∀ y ∈ sc.names, y.2 ≠ .free
theorem bindL_out {kindOf : Str -> Option NameKind} {x : Str} : ∀ {binds : List (Str × Value)} {m : Str -> Option Value}, (∀ v, (x, v) ∉ binds) -> bindL kindOf binds m x = m x
 | [], _, _ => rfl
 | (n, v) :: r, m, h => by
  unfold bindL;rw [bindL_out fun w hw => h w (mem_cons_of_mem _ hw)];split
  ·have : x ≠ n := by rintro rfl; exact h v mem_cons_self
   simp [this]
  ·rfl
theorem bindC_out {kindOf : Str -> Option NameKind} {x : Str} : ∀ {binds : List (Str × Value)} {m : Str -> Option Value}, (∀ v, (x, v) ∉ binds) -> bindC kindOf binds m x = m x
 | [], _, _ => rfl
 | (n, v) :: r, m, h => by
  unfold bindC;rw [bindC_out fun w hw => h w (mem_cons_of_mem _ hw)];split
  ·rfl
  ·have : x ≠ n := by rintro rfl; exact h v mem_cons_self
   simp [this]
theorem bindL_get {kindOf : Str -> Option NameKind} {x : Str} {v : Value} : ∀ {P : List Str} {vs : List Value} {i : Nat} {m : Str -> Option Value}, P.Nodup -> P[i]? = some x -> vs[i]? = some v -> kindOf x = some .local ->
  bindL kindOf (P.zip vs) m x = some v
 | [], _, _, _, _, h, _, _ => by simp at h
 | _ :: _, [], _, _, _, _, h, _ => by simp at h
 | p :: P, w :: vs, 0, m, nd, h1, h2, hk => by
  simp at h1 h2; subst h1; subst h2;show bindL kindOf ((p, w) :: P.zip vs) m p = _
  unfold bindL;rw [bindL_out fun v hv => (nodup_cons.mp nd).1 (List.of_mem_zip hv).1, if_pos hk];simp
 | p :: P, w :: vs, i + 1, m, nd, h1, h2, hk => by
  show bindL kindOf ((p, w) :: P.zip vs) m x = _
  unfold bindL;exact bindL_get (i := i) (nodup_cons.mp nd).2 (by simpa using h1) (by simpa using h2) hk
theorem bindC_get {kindOf : Str -> Option NameKind} {x : Str} {v : Value} : ∀ {P : List Str} {vs : List Value} {i : Nat} {m : Str -> Option Value}, P.Nodup -> P[i]? = some x -> vs[i]? = some v -> kindOf x ≠ some .local ->
  bindC kindOf (P.zip vs) m x = some v
 | [], _, _, _, _, h, _, _ => by simp at h
 | _ :: _, [], _, _, _, _, h, _ => by simp at h
 | p :: P, w :: vs, 0, m, nd, h1, h2, hk => by
  simp at h1 h2; subst h1; subst h2;show bindC kindOf ((p, w) :: P.zip vs) m p = _
  unfold bindC;rw [bindC_out fun v hv => (nodup_cons.mp nd).1 (List.of_mem_zip hv).1, if_neg hk];simp
 | p :: P, w :: vs, i + 1, m, nd, h1, h2, hk => by
  show bindC kindOf ((p, w) :: P.zip vs) m x = _
  unfold bindC;exact bindC_get (i := i) (nodup_cons.mp nd).2 (by simpa using h1) (by simpa using h2) hk
noncomputable def start (N : List Str) (vs : List V) : St := vs.map some ++ List.replicate (N.length - vs.length) none
noncomputable def cxOf (CX : CXT) (P : Program) (w : World) (K : Frag) (mg : Str -> Option Value) (base : Heap) (N : List Str) (qual : Str) (scope : Scope) (f : Addr) (cd : Value) (A : Around) (outer : List Env) (s : Shared) (H : Hp) (E : XK) : Cx where
 prog := P
 w := w
 K := K
 mg := mg
 base := base
 A := A.deeper (envOfC qual scope s.heap.objs.size f cd)
 N := N
 s₀ := s
 H₀ := H
 env := envOfC qual scope s.heap.objs.size f cd
 outer := outer
 stack := envOfC qual scope s.heap.objs.size f cd :: outer
 ex := []
 calm := true
 fn := fun _ => true
 pn := []
 xe := fun e s' => wpAny (model P w) (A.deeper (envOfC qual scope s.heap.objs.size f cd)) (leaving (envOfC qual scope s.heap.objs.size f cd) e) (fun _ s'' => CX outer H s E e s'') (fun e' s'' => CX outer H s E e' s'') s'
theorem cell_has {sc : Scope} {n : Nat} {x : Str} (h : sc.names.lookup x = some .cell) : ∃ c, (cellsFrom n sc.names []).lookup x = some c := by
 have q := PySem.W.cellsFrom_some sc.names n [] (.inl h);exact Option.isSome_iff_exists.mp q
theorem inv_start {CX : CXT} {P : Program} {w : World} {K : Frag} {mg : Str -> Option Value} {base : Heap} {N ps : List Str} {qual : Str} {scope : Scope} {f : Addr} {cd : Value} {A : Around} {outer : List Env} {s s1 : Shared} {H : Hp} {E : XK} {us : List Value} {vs : List V}
  (S : FnScope N ps scope) (hd : A.handled = none) (e0 : Env0 P w K mg base A outer s H) (hl : vs.length = ps.length) (r : Vals vs us)
  (x : InCallC s s.heap.objs.size (bindL (envOfC qual scope s.heap.objs.size f cd).kindOf (ps.zip us) fun _ => none) (cellsFrom (s.heap.objs.size + 1) scope.names []) (bindC (envOfC qual scope s.heap.objs.size f cd).kindOf (ps.zip us) fun _ => none) s1) :
  Inv (cxOf CX P w K mg base N qual scope f cd A outer s H E) [] (start N vs) H s1 := by
 have hpl : ps.length <= N.length := by have := congrArg List.length S.pre; rw [length_take] at this; walk_at "oo"
 obtain ⟨h1, tk, rfl, hk⟩ := x.done;have noA : ∀ b : Addr, b ∉ (cxOf CX P w K mg base N qual scope f cd A outer s H E).ex := fun b z => absurd (show b ∈ ([] : List Addr) from z) (by simp)
 refine ⟨⟨e0.mod, S.kind, rfl, rfl, le_refl _, fun y z c h1 h2 => ?_, fun y hy => ?_, fun y c _ h => ?_, fun _ => hd, Around.frames_deeper e0.frames, .inr ⟨rfl, rfl⟩, fun b z => absurd z (noA b), e0.bs, e0.bsz, fun b _ _ => noA b, fun b z => absurd z (noA b), e0.funs, e0.frf⟩,
  rfl, e0.bare, Un.kept hk, ⟨_, x.toInCall.ns, fun i y v h1 h2 h3 => ?_⟩, fun y c h => ⟨_, x.cell y c h⟩, e0.hok.fresh (le_refl _), fun y c h => ?_, fun p hp => absurd (show p ∈ ([] : List (Addr × Obj)) from hp) (by simp), e0.hok.kept hk, ?_⟩
 ·exact name_of_addr x.apart (PySem.mem_of_lookup h1) (PySem.mem_of_lookup h2)
 ·have hy : scope.names.lookup y = some .cell \/ scope.names.lookup y = some .free := hy;rcases hy with hy | hy
  ·exact cell_has hy
  ·exact absurd rfl (S.nofree _ (PySem.mem_of_lookup hy))
 ·exact le_of_lt (x.above y c (PySem.mem_of_lookup h))
 ·have hi : i < vs.length := by
   unfold start at h2
   by_cases hi : i < vs.length
   ·exact hi
   ·rw [List.getElem?_append_right (by simpa using hi)] at h2
    rw [List.getElem?_replicate] at h2;split at h2 <;> cases h2
  have ha : vs[i]? = some v := by
   unfold start at h2;rw [List.getElem?_append_left (by simpa using hi), getElem?_map] at h2
   cases e : vs[i]? with
   | none => rw [e] at h2; cases h2
   | some a => rw [e] at h2; cases h2; rfl
  obtain ⟨u, hu, rv⟩ := r.get ha;have hp : ps[i]? = some y := by
   rw [<- S.pre, List.getElem?_take_of_lt (by walk_at "o")]; exact h1
  have ndP : ps.Nodup := by rw [<- S.pre]; exact S.nd.sublist (List.take_sublist _ _)
  refine ⟨u, rv, ?_⟩;rcases S.par y (mem_of_getElem? hp) with k | k
  ·exact .inl ⟨k, bindL_get ndP hp hu k⟩
  ·obtain ⟨c, e⟩ := cell_has (n := s.heap.objs.size + 1) k;refine .inr ⟨.inl k, c, e, ?_⟩;have q := x.cell y c e;rw [bindC_get ndP hp hu (by show scope.names.lookup y ≠ _; rw [k]; decide)] at q
   exact q
 ·exact e0.hok.fresh (le_of_lt (x.above y c (PySem.mem_of_lookup h)))
 ·unfold start;show _ = N.length
  rw [length_append, length_map, List.length_replicate];walk_at "oo"
theorem fn_of {CX : CXT} {P : Program} {w : World} {K : Frag} {mg : Str -> Option Value} {base : Heap} {k : Nat} {f : Addr} {name qual : Str} {params : Arguments} {body : List Stmt} {scope : Scope} {dV kV doc pm cdv ct oc : Value} {an od : Option Addr}
  {osl : Array (Option Value)} {N ps : List Str} {sp : Sp} (lk : K.lookup f = some ⟨oc, od, .func (fnOf name qual params body scope dV kV doc pm an cdv ct), osl⟩) (hcd : codeIn K cdv qual = true) (S : FnScope N ps scope)
  (len : ∀ vs H Q E, sp vs H Q E -> vs.length = ps.length)
  (hbody : ∀ (A : Around) (outer : List Env) (s : Shared) (H : Hp) (vs : List V) (Q : VK) (E : XK), Room k (A.deeper (envOfC qual scope s.heap.objs.size f cdv)) -> sp vs H Q E ->
   ∃ t, PSs (cxOf CX P w K mg base N qual scope f cdv A outer s H E) body t /\ t { nx := fun _ H' => Q .non H', rt := Q } (start N vs) H) :
  FnOk P w K mg base CX (k + 1) f (fnOf name qual params body scope dV kV doc pm an cdv ct) ps sp := by
 refine ⟨len, fun A outer s H args us vs Q E hr e0 hb r hsp => ?_⟩;have hl := len _ _ _ _ hsp;have KX : K.In s.heap := e0.mod.kin.keeps fun b o e => (e0.bs b o e).1;have lim : s.heap.NoLimit := e0.mod.nolimit.keeps fun b o e => (e0.bs b o e).1;have hkind : ∀ y ∈ ps.zip us, scope.names.lookup y.1 = some .local \/ (scope.names.lookup y.1 = some .cell /\ ((cellsFrom (s.heap.objs.size + 1) scope.names []).lookup y.1).isSome = true) := fun ⟨n, v⟩ hy => by
  rcases S.par n (List.of_mem_zip hy).1 with q | q
  ·exact .inl q
  ·exact .inr ⟨q, PySem.W.cellsFrom_some _ _ _ (.inl q)⟩
 refine codeAny_call_function hr.depth (KX _ _ lk) rfl S.co S.gen rfl (PySem.W.codeRec_of KX hcd) (hb _ _ _ _ ?_);refine wpAny_newFunctionEnv_cells S.kind hkind fun env he s1 x => ?_;subst he;refine ⟨lim.keeps x.toInCall.keep, codeAny_func ?_⟩;obtain ⟨t, ht, hq⟩ := hbody A outer s H vs Q E (hr.deeper _) hsp;have I : Inv (cxOf CX P w K mg base N qual scope f cdv A outer s H E) [] (start N vs) H s1 := inv_start S hr.hd e0 hl r x;refine wpAny_mono (ht [] s1 (start N vs) H _ I hq) (fun fl s' hs => ?_) fun e s' hs => hs;have fin : ∀ {σ' : St} {H' : Hp} {v : V} {u : Value}, Inv (cxOf CX P w K mg base N qual scope f cdv A outer s H E) [] σ' H' s' -> RelV v u -> Q v H' -> CE outer P w H s Q u s' :=
  fun {σ' H' v u} J rv q => ⟨v, H', J.os, J.bare, J.base, J.hok, rv, q⟩
 cases fl with
 | ret u =>
  obtain ⟨v, σ', H', J, rv, q⟩ := hs;exact fin J rv q
 | next =>
  obtain ⟨σ', H', J, q⟩ := hs;exact fin (v := V.non) (u := Value.none) J rfl q
 | brk =>
  obtain ⟨_, _, _, q⟩ := hs;exact False.elim q
 | cont =>
  obtain ⟨_, _, _, q⟩ := hs;exact False.elim q
section
variable {X : Cx} {x : Str} {p pos : Pos} {e : Expr} {es : List Expr} {t : TA} {id T : String} {r : List V -> Hp -> VK -> Prop}
noncomputable def tCB (r : List V -> Hp -> VK -> Prop) (t : TA) : TE := fun σ H Q => t σ H fun vs H1 => r vs H1 Q
theorem pe_callB (hc : CallR X (.builtin id) r) (hg : Gl X x) (hm : X.mg x = none) (hv : bootBuiltins x = some (.builtin id)) (ha : PA X (e :: es) t) (hn : x ≠ "__name__" := by decide) (hdb : (x == ("__debug__" : Str)) = false := by decide)
  (he : starEach (e :: es) X.env = (false, eval e X.env) :: starEach es X.env := by rfl) (hpl : (backTo pos (starEach es X.env)).any (·.1) = false := by rfl) : PE X (.Call (.Name x p) (e :: es) [] pos) (tCB r t) := by
 intro pins s σ H Q I h;refine wpAny_Call_Name_kw (ld_blt I hg hm hv ?_ hn hdb);exact PyProof.Rows.callWith_builtin1 (thn (ha pos pins s σ H _ I h) fun us s1 ⟨vs, H1, I1, r1, q1⟩ => hc pins s1 σ H1 vs us Q I1 r1 q1) he hpl
theorem pe_callTy (hc : CallR X (.type T) r) (hg : Gl X x) (hm : X.mg x = none) (hv : bootBuiltins x = some (.type T)) (ha : PA X (e :: es) t) (hn : x ≠ "__name__" := by decide) (hdb : (x == ("__debug__" : Str)) = false := by decide)
  (he : starEach (e :: es) X.env = (false, eval e X.env) :: starEach es X.env := by rfl) (hpl : (backTo pos (starEach es X.env)).any (·.1) = false := by rfl) : PE X (.Call (.Name x p) (e :: es) [] pos) (tCB r t) := by
 intro pins s σ H Q I h;refine wpAny_Call_Name_kw (ld_blt I hg hm hv ?_ hn hdb);exact PyProof.Rows.callWith_type1 (thn (ha pos pins s σ H _ I h) fun us s1 ⟨vs, H1, I1, r1, q1⟩ => hc pins s1 σ H1 vs us Q I1 r1 q1) he hpl
end
end L2
namespace HT
open PySem PyProof.Rows
section
open PySem.SeqAt
open PySem.AutoSeq1 (wpAny_loadPart')
open PySem.MeetsSeq PySem.MeetsSeq2 PySem.MeetsSeq3
end
section
variable {prog : Program} {w : World} {A : Around} {E : Value -> Shared -> Prop} {s : Shared}
theorem cat_tup {t b : Addr} {vs ws : List Value} {Q : Value -> Shared -> Prop} (ht : IsTup s.heap t vs.toArray) (hb : IsTup s.heap b ws.toArray) (hv : vs ≠ [])
  (h1 : ws = [] -> Q (.ref t) s) (h2 : ws ≠ [] -> Q (.ref s.heap.objs.size) { s with heap := s.heap.push { cls := .type "tuple", data := .seq (vs ++ ws).toArray } })
  (hsz : vs.length + ws.length <= sizeLine) : wpAny (model prog w) A (binaryOp .Add (.ref t) (.ref b)) Q E s := by
 obtain ⟨⟨cls, dd, data, sl⟩, ho, hc, n, hd⟩ := id ht;obtain ⟨⟨cls2, dd2, data2, sl2⟩, ho2, hc2, n2, hd2⟩ := id hb;simp only at hc hd hc2 hd2;subst hc hd hc2 hd2;have e : vs.toArray ++ ws.toArray = (vs ++ ws).toArray := by simp
 by_cases hw : ws = []
 ·exact concat_meets ⟨_, ho, rfl⟩ ⟨_, ho2, rfl⟩ noFill_tuple_add seq_tuple_add PySem.F.slot_tuple_add PySem.F.entry_tuple_add (PySem.F.args_tuple_add_2 _ _)
   (tuple_addW1 t b vs.toArray ws.toArray n n2 dd dd2 sl sl2 (by simpa using hv) (by simp [hw])) ⟨ho, ho2, h1 hw⟩
 ·refine concat_meets ⟨_, ho, rfl⟩ ⟨_, ho2, rfl⟩ noFill_tuple_add seq_tuple_add PySem.F.slot_tuple_add PySem.F.entry_tuple_add (PySem.F.args_tuple_add_2 _ _)
   (tuple_addW2 t b vs.toArray ws.toArray n n2 dd dd2 sl sl2 (by simpa using hv) (by simpa using hw) (by rw [size_toArray, size_toArray]; exact hsz)) ⟨ho, ho2, ?_⟩
  rw [e];exact h2 hw
noncomputable def sIx (n d : Nat) : Option Int -> Nat
 | none => d
 | some v => if v < 0 then (v + (n : Int)).toNat else min v.toNat n
theorem sIx_le (n d : Nat) (hd : d <= n) (o : Option Int) : sIx n d o <= n := by
 cases o with
 | none => exact hd
 | some v =>
  show (if v < 0 then (v + (n : Int)).toNat else min v.toNat n) <= n
  by_cases hv : v < 0
  ·rw [if_pos hv]; walk_at "oo"
  ·rw [if_neg hv]; exact Nat.min_le_right _ _
theorem clip_eq (v : Int) (n d : Nat) : (if v < 0 then max (v + (n : Int)) 0 else min v (n : Int)) = ((sIx n d (some v) : Nat) : Int) := by
 show (if v < 0 then max (v + (n : Int)) 0 else min v (n : Int)) = (((if v < 0 then (v + (n : Int)).toNat else min v.toNat n) : Nat) : Int)
 by_cases hv : v < 0
 ·simp only [if_pos hv]; walk_at "oo"
 ·simp only [if_neg hv]; walk_at "oo"
theorem adjust_gen (lo hi : Option Int) (n : Nat) : Builtin.Slice.sliceAdjust lo hi 1 (n : Int) = (((sIx n 0 lo : Nat) : Int), ((sIx n n hi : Nat) : Int)) := by
 have h1 : ¬ ((1 : Int) < 0) := by walk_at "o"
 unfold Builtin.Slice.sliceAdjust;simp only [h1, if_false];refine Prod.ext ?_ ?_
 ·cases lo with
  | none => rfl
  | some v => exact clip_eq v n 0
 ·cases hi with
  | none => rfl
  | some v => exact clip_eq v n n
theorem places_gen (i j : Nat) : Builtin.Slice.slicePlaces (i : Int) (j : Int) 1 = j - i := by
 unfold Builtin.Slice.slicePlaces;have h1 : (1 : Int) > 0 := by walk_at "o"
 simp only [h1, if_true, Int.ediv_one];split <;> walk_at "oo"
theorem slicePart_ {v : Value} {o : Option Int} {Q : Option Int -> Shared -> Prop} (p : IsPart v o) (h : Q o s) : wpAny (model prog w) A (Builtin.Slice.slicePartIndex v) Q E s := by
 cases p with
 | none => exact slicePart_none h
 | int i t => exact slicePart_int h
theorem sliceApplied_gen {sl : Addr} {vl vu : Value} {lo hi : Option Int} {n : Nat} {Q : Int × Int × Nat -> Shared -> Prop} (hs : s.heap.IsSliceOf sl vl vu .none) (pl : IsPart vl lo) (pu : IsPart vu hi)
  (h : Q (((sIx n 0 lo : Nat) : Int), 1, sIx n n hi - sIx n 0 lo) s) : wpAny (model prog w) A (Builtin.Slice.sliceApplied (.ref sl) (pure (n : Int))) Q E s := by
 obtain ⟨os, hos, hcs, hds⟩ := id hs;unfold Builtin.Slice.sliceApplied Builtin.Slice.sliceFields;refine wpAny_bind (wpAny_bind (wpAny_field hos hds (x := vl) rfl (wpAny_bind (wpAny_field hos hds (x := vu) rfl (wpAny_bind (wpAny_field hos hds (x := .none) rfl (wpAny_pure ?_)))))));refine wpAny_bind (slicePart_none ?_);show wpAny _ _ (if ((1 : Int) == 0) = true then _ else _) _ _ s
 rw [if_neg (by decide)]
 refine wpAny_bind (slicePart_ pl (wpAny_bind (slicePart_ pu (wpAny_bind (wpAny_pure ?_)))));show wpAny _ _ (match Builtin.Slice.sliceAdjust lo hi 1 (n : Int) with | (lo, hi) => pure (lo, (1 : Int), Builtin.Slice.slicePlaces lo hi 1)) _ _ s
 rw [adjust_gen lo hi n];show wpAny _ _ (pure (((sIx n 0 lo : Nat) : Int), (1 : Int), Builtin.Slice.slicePlaces ((sIx n 0 lo : Nat) : Int) ((sIx n n hi : Nat) : Int) 1)) _ _ s
 rw [places_gen];exact wpAny_pure h
theorem pick_gen (xs : Array Value) (i k : Nat) : ((List.range k).filterMap fun (m : Nat) => xs[((i : Int) + (m : Int) * 1).toNat]?).toArray = ((xs.toList.drop i).take k).toArray := by
 have e : (fun (m : Nat) => xs[((i : Int) + (m : Int) * 1).toNat]?) = fun m => xs[i + m]? := by
  funext m;have : ((i : Int) + (m : Int) * 1).toNat = i + m := by walk_at "o"
  rw [this]
 rw [e];have := pick_run xs i k;rw [List.filterMap_map] at this;have e2 : ((fun x => xs[x]?) ∘ fun x => i + x) = fun m => xs[i + m]? := rfl;rw [e2] at this;rw [this]
theorem getItem_tuple_cut {t sl : Addr} {items : Array Value} {vl vu : Value} {lo hi : Option Int} {Q : Value -> Shared -> Prop} (ht : IsTup s.heap t items) (hs : s.heap.IsSliceOf sl vl vu .none) (pl : IsPart vl lo) (pu : IsPart vu hi)
  (hw : ¬ (sIx items.size 0 lo = 0 /\ sIx items.size items.size hi = items.size))
  (h : Q (.ref s.heap.objs.size) { s with heap := s.heap.push { cls := .type "tuple", data := .seq ((items.toList.drop (sIx items.size 0 lo)).take (sIx items.size items.size hi - sIx items.size 0 lo)).toArray } })
  (hsz : items.size <= sizeLine) : wpAny (model prog w) A (getItem (.ref t) (.ref sl)) Q E s := by
 have htake : sizeOk (.seq ((items.toList.drop (sIx items.size 0 lo)).take (sIx items.size items.size hi - sIx items.size 0 lo)).toArray) := by
  show ((items.toList.drop (sIx items.size 0 lo)).take (sIx items.size items.size hi - sIx items.size 0 lo)).toArray.size <= sizeLine
  rw [size_toArray, length_take, length_drop, Array.length_toList];walk_at "oo"
 have hj : sIx items.size items.size hi <= items.size := sIx_le _ _ (le_refl _) hi;obtain ⟨os, hos, hcs, hds⟩ := id hs;have hTs : s.TypeIs (.ref sl) "slice" := ⟨os, hos, hcs⟩;unfold getItem
 try with_reducible refine wpAny_holding ?_
 first | refine wpAny_bind (wpAny_pure ?_) | skip
 refine wpAny_bind (wpAny_sequenceKey ht.typeIs (by decide) ?_)
 refine wpAny_bind (wpAny_callSpecial?_slot (name := Str.ofString "__getitem__") ht.typeIs PyProof.Rows.slot_tuple_getitem
  (wpAny_call_entry PyProof.Rows.slot_tuple_getitem ht.typeIs entry_tuple_getitem ?_ (args_tuple_getitem _ _)))
 show wpAny _ _ (Builtin.Tuple.tupleItemsOf (.ref t) >>= _) _ _ s
 refine wpAny_bind (tupleItemsOf_ ht ?_);refine wpAny_bind (wpAny_typeOf hTs ?_);rw [if_pos (by decide)]
 refine wpAny_bind (sliceApplied_gen hs pl pu ?_);have hno : ¬ ((((sIx items.size 0 lo : Nat) : Int) == 0 && (1 : Int) == 1 && (sIx items.size items.size hi - sIx items.size 0 lo) == items.size) = true) := by
  intro q;rw [Bool.and_eq_true, Bool.and_eq_true] at q;have q1 : ((sIx items.size 0 lo : Nat) : Int) = 0 := eq_of_beq q.1.1;have q2 : sIx items.size items.size hi - sIx items.size 0 lo = items.size := eq_of_beq q.2;exact hw ⟨by walk_at "o", by walk_at "o"⟩
 show wpAny _ _ (if (((sIx items.size 0 lo : Nat) : Int) == 0 && (1 : Int) == 1 && (sIx items.size items.size hi - sIx items.size 0 lo) == items.size) = true then _ else _) _ _ s
 rw [if_neg hno, pick_gen]
 first
  | exact wpAny_bind (m := Builtin.Tuple.tupleExact _) (wpAny_newObj_type (wpAny_pure ⟨_, rfl, wpAny_pure h⟩) htake)
  | exact wpAny_bind (m := Builtin.Tuple.tupleExact _) (wpAny_newObj_type (wpAny_bind (wpAny_pure (wpAny_pure ⟨_, rfl, wpAny_pure h⟩))) htake)
  | exact wpAny_bind (wpAny_bind (m := Builtin.Tuple.tupleExact _) (wpAny_newObj_type (wpAny_pure (wpAny_pure ⟨_, rfl, wpAny_pure h⟩)) htake))
  | exact wpAny_bind (wpAny_bind (m := Builtin.Tuple.tupleExact _) (wpAny_newObj_type (wpAny_pure ⟨_, rfl, wpAny_pure h⟩) htake))
end
end HT
namespace L2
open PySem PySem.Spec PyProof.Rows
abbrev TO := St -> Hp -> (Option Int -> Hp -> Prop) -> Prop
noncomputable def PO (X : Cx) (e : Option Expr) (t : TO) : Prop :=
 ∀ (pins : List (Addr × Obj)) (s : Shared) (σ : St) (H : Hp) (Q : Option Int -> Hp -> Prop), Inv X pins σ H s -> t σ H Q ->
  wpAny (model X.prog X.w) X.A (evalPart e X.env) (fun u s' => ∃ o H', Inv X pins σ H' s' /\ IsPart u o /\ Q o H') X.xe s
noncomputable def tNoPart : TO := fun _ H Q => Q none H
noncomputable def tPart (t : TE) : TO := fun σ H Q => t σ H fun x H1 => ∃ i, x = .int i /\ Q (some i) H1
section
variable {X : Cx} {e : Expr} {te : TE} {lo hi : Option Expr} {tl th : TO} {pos p2 : Pos}
theorem po_none : PO X none tNoPart := by
 intro pins s σ H Q I h;rw [evalPart_none];exact wpAny_pure ⟨none, H, I, .none, h⟩
theorem po_some (h : PE X e te) : PO X (some e) (tPart te) := by
 intro pins s σ H Q I hw;rw [evalPart_some];refine thn (h pins s σ H _ I hw) fun u s1 zz => ?_;obtain ⟨x, H1, I1, r1, q1⟩ := zz;obtain ⟨i, rfl, q⟩ := q1;obtain ⟨t, rfl⟩ := r1;exact ⟨some i, H1, I1, .int i t, q⟩
noncomputable def SlR (X : Cx) (r : V -> Option Int -> Option Int -> Hp -> VK -> Prop) : Prop :=
 ∀ (pins : List (Addr × Obj)) (s : Shared) (σ : St) (H : Hp) (x : V) (v vl vu : Value) (lo hi : Option Int) (sl : Addr) (Q : VK), Inv X pins σ H s -> RelV x v -> s.heap.IsSliceOf sl vl vu .none -> IsPart vl lo -> IsPart vu hi -> r x lo hi H Q ->
  ∃ T id, typeLookup (.type T) "__getitem__" = pure (some (.builtin id)) /\ s.TypeIs v T /\ wpAny (model X.prog X.w) X.A (getItem v (.ref sl)) (EP X pins σ Q) X.xe s
theorem SlR.or {r r' : V -> Option Int -> Option Int -> Hp -> VK -> Prop} (h : SlR X r) (h' : SlR X r') : SlR X (fun x lo hi H Q => r x lo hi H Q \/ r' x lo hi H Q) := by
 intro pins s σ H x v vl vu lo hi sl Q I rx hs pl pu q;rcases q with q | q
 ·exact h pins s σ H x v vl vu lo hi sl Q I rx hs pl pu q
 ·exact h' pins s σ H x v vl vu lo hi sl Q I rx hs pl pu q
noncomputable def tSl (r : V -> Option Int -> Option Int -> Hp -> VK -> Prop) (te : TE) (tl th : TO) : TE := fun σ H Q => te σ H fun x H1 => tl σ H1 fun l H2 => th σ H2 fun u H3 => r x l u H3 Q
theorem pe_slice {r : V -> Option Int -> Option Int -> Hp -> VK -> Prop} (hr : SlR X r) (he : PE X e te) (hl : PO X lo tl) (hu : PO X hi th) : PE X (.Subscript e (.Slice lo hi none p2) pos) (tSl r te tl th) := by
 intro pins s σ H Q I h;refine Subscript_ (thn (he pins s σ H _ I h) fun v s1 zz => ?_);obtain ⟨x, H1, I1, r1, q1⟩ := zz;refine wpAny_Slice (thn (hl pins s1 σ H1 _ I1 q1) fun vl s2 zz => ?_);obtain ⟨l, H2, I2, pl, q2⟩ := zz;refine thn (hu pins s2 σ H2 _ I2 q2) fun vu s3 zz => ?_;obtain ⟨u, H3, I3, pu, q3⟩ := zz;rw [evalPart_none];refine wpAny_pure ?_;have I4 : Inv X pins σ H3 { s3 with heap := s3.heap.push { cls := .type "slice", data := .fields #[vl, vu, .none] } } := I3.kept (t' := s3.toks) fun b ob q => Heap.get?_push_of_some _ q
 obtain ⟨T, id, hT, ht, hg⟩ := hr pins { s3 with heap := s3.heap.push { cls := .type "slice", data := .fields #[vl, vu, .none] } } σ H3 x v vl vu l u s3.heap.objs.size Q I4 r1 (Heap.IsSliceOf.new ..) pl pu q3
 show wpAny (model X.prog X.w) X.A (subscriptTail e (.Slice lo hi none p2) v (.ref s3.heap.objs.size)) (EP X pins σ Q) X.xe { s3 with heap := s3.heap.push { cls := .type "slice", data := .fields #[vl, vu, .none] } }
 exact tail_any (ops := [.ref s3.heap.objs.size, v]) ht hT hg (by with_unfolding_all rfl)
noncomputable def cutV (xs : List V) (lo hi : Option Int) : List V := (xs.drop (HT.sIx xs.length 0 lo)).take (HT.sIx xs.length xs.length hi - HT.sIx xs.length 0 lo)
theorem cutV_length (xs : List V) (lo hi : Option Int) : (cutV xs lo hi).length <= xs.length := by
 unfold cutV;rw [length_take, length_drop];walk_at "oo"
noncomputable def rSlT (K : Frag) : V -> Option Int -> Option Int -> Hp -> VK -> Prop := fun x lo hi H Q => ∃ a xs, x = .ref a /\ SqT K H a xs /\
 ¬ (HT.sIx xs.length 0 lo = 0 /\ HT.sIx xs.length xs.length hi = xs.length) /\ ∀ p, H p = none -> Q (.ref p) (upd H p (.tup (cutV xs lo hi)))
theorem sl_tup : SlR X (rSlT X.K) := by
 intro pins s σ H x v vl vu lo hi sl Q I rx hs pl pu h;obtain ⟨a, xs, rfl, hx, hw, q⟩ := h;cases rx;obtain ⟨its, r, ht, hz⟩ := I.tuple hx;have hlen : its.toArray.size = xs.length := by rw [size_toArray]; exact r.length.symm
 refine ⟨"tuple", _, PyProof.Rows.slot_tuple_getitem.lookup, ht.typeIs, ?_⟩;refine HT.getItem_tuple_cut ht hs pl pu (by rw [hlen]; exact hw) ?_ (by rw [hlen]; exact hz)
 rw [hlen];refine ⟨.ref s.heap.objs.size, _, I.laid (t' := s.toks) (o := .tup (cutV xs lo hi)) (fun b ob q => Heap.get?_push_of_some _ q) (le_refl _) ?_, rfl, q _ (I.hok.fresh (le_refl _))⟩;exact ⟨le_trans (cutV_length xs lo hi) hz, _, (r.drop (HT.sIx xs.length 0 lo)).take (HT.sIx xs.length xs.length hi - HT.sIx xs.length 0 lo), IsTup.new _ _⟩
noncomputable def rCatT (K : Frag) : R2 := fun x y H Q => ∃ a b xs ys, x = .ref a /\ y = .ref b /\ SqT K H a xs /\ SqT K H b ys /\ xs ≠ [] /\ xs.length + ys.length <= sizeLine /\
 (ys = [] -> Q (.ref a) H) /\ (ys ≠ [] -> ∀ p, H p = none -> Q (.ref p) (upd H p (.tup (xs ++ ys))))
theorem Vals.nil_iff {xs : List V} {us : List Value} (r : Vals xs us) : us = [] ↔ xs = [] := by
 cases r with
 | nil => simp
 | cons _ _ => simp
theorem op_catT : OpR X (binaryOp .Add) (rCatT X.K) := by
 intro pins s σ H x y v u Q I rx ry h;obtain ⟨a, b, xs, ys, rfl, rfl, ha, hb, hx, hz, q1, q2⟩ := h;cases rx;cases ry;obtain ⟨its, r1, p1, _⟩ := I.tuple ha;obtain ⟨its2, r2, p2, _⟩ := I.tuple hb;refine HT.cat_tup p1 p2 (fun z => hx (r1.nil_iff.mp z)) (fun z => ⟨.ref a, H, I, rfl, q1 (r2.nil_iff.mp z)⟩) (fun z => ?_) (by rw [<- r1.length, <- r2.length]; exact hz)
 refine ⟨.ref s.heap.objs.size, _, I.laid (t' := s.toks) (o := .tup (xs ++ ys)) (fun b ob q => Heap.get?_push_of_some _ q) (le_refl _) ?_, rfl, q2 (fun w => z (r2.nil_iff.mpr w)) _ (I.hok.fresh (le_refl _))⟩;exact ⟨by rw [length_append]; exact hz, _, r1.append r2, IsTup.new _ _⟩
end
noncomputable def ixN (n : Nat) (i : Int) : Option Nat := if 0 <= i then (if i < n then some i.toNat else none) else if -(n : Int) <= i then some (i + n).toNat else none
noncomputable def atI {α : Type} (xs : List α) (i : Int) : Option α := (ixN xs.length i).bind fun j => xs[j]?
theorem ixN_seq {n : Nat} {i : Int} {j : Nat} (h : ixN n i = some j) : seqIndex? i n = some j /\ j < n /\ -(n : Int) <= i /\ i < n := by
 unfold ixN at h
 by_cases h0 : 0 <= i
 ·rw [if_pos h0] at h
  by_cases h1 : i < n
  ·rw [if_pos h1] at h;have e : i.toNat = j := Option.some.inj h;exact ⟨by rw [seqIndex_of h0 h1, e], by walk_at "o", by walk_at "o", h1⟩
  ·rw [if_neg h1] at h; cases h
 ·rw [if_neg h0] at h
  by_cases h1 : -(n : Int) <= i
  ·rw [if_pos h1] at h;have e : (i + n).toNat = j := Option.some.inj h;exact ⟨by rw [seqIndex_neg (by walk_at "o") h1, e], by walk_at "o", h1, by walk_at "o"⟩
  ·rw [if_neg h1] at h; cases h
theorem atI_get {α : Type} {xs : List α} {i : Int} {v : α} (h : atI xs i = some v) : ∃ j, seqIndex? i xs.length = some j /\ xs[j]? = some v /\ j < xs.length /\ -(xs.length : Int) <= i /\ i < xs.length := by
 unfold atI at h;cases e : ixN xs.length i with
 | none => rw [e] at h; cases h
 | some j =>
  rw [e] at h;obtain ⟨h1, h2, h3, h4⟩ := ixN_seq e;exact ⟨j, h1, h, h2, h3, h4⟩
noncomputable def PlainIx (b : Expr) : Prop := ∀ o i, subscripted b false o i = operate [o, i] (getItem o i)
noncomputable def IxR (X : Cx) (r : R2) : Prop :=
 ∀ (value slice : Expr) (pins : List (Addr × Obj)) (s : Shared) (σ : St) (H : Hp) (x y : V) (v u : Value) (Q : VK), Inv X pins σ H s -> RelV x v -> RelV y u -> r x y H Q ->
  subscripted slice false v u = operate [v, u] (getItem v u) -> wpAny (model X.prog X.w) X.A (subscriptTail value slice v u) (EP X pins σ Q) X.xe s
noncomputable def MtR (X : Cx) (id : String) (r : V -> List V -> Hp -> VK -> Prop) : Prop :=
 ∀ (pins : List (Addr × Obj)) (s : Shared) (σ : St) (H : Hp) (x : V) (xs : List V) (v : Value) (us : List Value) (Q : VK), Inv X pins σ H s -> RelV x v -> Vals xs us -> r x xs H Q ->
  wpAny (model X.prog X.w) X.A (call (.builtin id) (v :: us)) (EP X pins σ Q) X.xe s
section
variable {X : Cx} {a b : Expr} {ta tb : TE} {pos : Pos}
theorem IxR.or {r r' : R2} (h : IxR X r) (h' : IxR X r') : IxR X (fun x y H Q => r x y H Q \/ r' x y H Q) := by
 intro value slice pins s σ H x y v u Q I rx ry q hs;rcases q with q | q
 ·exact h value slice pins s σ H x y v u Q I rx ry q hs
 ·exact h' value slice pins s σ H x y v u Q I rx ry q hs
theorem pe_ix {r : R2} (hr : IxR X r) (ha : PE X a ta) (hb : PE X b tb) (hs : PlainIx b) : PE X (.Subscript a b pos) (tOp r ta tb) := by
 intro pins s σ H Q I h;exact Subscript_ (binT ha hb I h fun v u s2 x y H2 I2 rx ry q => hr a b pins s2 σ H2 x y v u Q I2 rx ry q (hs _ _))
noncomputable def rIxL (K : Frag) : R2 := fun x y H Q => ∃ p xs i v, x = .ref p /\ y = .int i /\ SqL K H p xs /\ atI xs i = some v /\ Q v H
noncomputable def rIxT (K : Frag) : R2 := fun x y H Q => ∃ p xs i v, x = .ref p /\ y = .int i /\ SqT K H p xs /\ atI xs i = some v /\ Q v H
noncomputable def rIxS : R2 := fun x y H Q => ∃ z i c, x = .str z /\ y = .int i /\ z.length <= sizeLine /\ atI z.cps.toList i = some c /\ Q (.str ⟨#[c]⟩) H
theorem ix_list : IxR X (rIxL X.K) := by
 intro value slice pins s σ H x y v u Q I rx ry h hs;obtain ⟨p, xs, i, z, rfl, rfl, hq, he, q⟩ := h;cases rx;obtain ⟨t, rfl⟩ := ry;obtain ⟨its, r, pl, hz⟩ := I.list hq;obtain ⟨j, h1, h2, h3, h4, h5⟩ := atI_get he;obtain ⟨w, ew, rw'⟩ := r.get h2;have hl := r.length;have hn := line63;have fin : EP X pins σ Q w s := ⟨z, H, I, rw', q⟩
 by_cases h0 : 0 <= i
 ·have hj : i.toNat = j := by
   rw [seqIndex_of h0 h5] at h1;exact Option.some.inj h1
  exact item_listR pl.isList h0 (by walk_at "o") (by rw [hj]; simpa using ew) fin hs
 ·have hj : (i + (its.toArray.size : Int)).toNat = j := by
   rw [seqIndex_neg (by walk_at "o") h4] at h1
   rw [size_toArray, <- hl];exact Option.some.inj h1
  exact subscriptTail_builtinR (x := w) pl.isList.typeIs slot_list_getitem.lookup
   (wpAny_getItem_list_neg (Q := fun r s' => r = w /\ EP X pins σ Q r s') pl.isList (by walk_at "o") (by rw [size_toArray] <;> walk_at "oo") (by walk_at "o") (by rw [hj]; simpa using ew) ⟨rfl, fin⟩) hs
theorem ix_tup : IxR X (rIxT X.K) := by
 intro value slice pins s σ H x y v u Q I rx ry h hs;obtain ⟨p, xs, i, z, rfl, rfl, hq, he, q⟩ := h;cases rx;obtain ⟨t, rfl⟩ := ry;obtain ⟨its, r, pl, hz⟩ := I.tuple hq;obtain ⟨j, h1, h2, h3, h4, h5⟩ := atI_get he;obtain ⟨w, ew, rw'⟩ := r.get h2;have hl := r.length;have hn := line63;have fin : EP X pins σ Q w s := ⟨z, H, I, rw', q⟩;exact subscriptTail_builtinR (x := w) pl.typeIs slot_tuple_getitem.lookup
  (getItem_tuple (j := j) (Q := fun r s' => r = w /\ EP X pins σ Q r s') pl (by walk_at "o") (by walk_at "o") (by rw [size_toArray, <- hl]; exact h1) (by simpa using ew) ⟨rfl, fin⟩) hs
theorem ix_str : IxR X rIxS := by
 intro value slice pins s σ H x y v u Q I rx ry h hs;obtain ⟨z, i, c, rfl, rfl, hz, he, q⟩ := h;obtain ⟨t, rfl⟩ := rx;obtain ⟨t', rfl⟩ := ry;obtain ⟨j, h1, h2, h3, h4, h5⟩ := atI_get he;have hl : z.cps.toList.length = z.length := by simp [Str.length]
 rw [hl] at h1 h4 h5;have hn := line63;exact tail_any (typeIs_str s z t) slot_str_getitem.lookup (getItem_str (c := c) (by
  have e1 : decide (i < -(2 ^ 63 : Int)) = false := decide_eq_false (by walk_at "o")
  have e2 : decide (i >= 2 ^ 63) = false := decide_eq_false (by walk_at "o")
  rw [e1, e2, Bool.or_false]) (by rw [h1]; simpa using h2) ⟨.str ⟨#[c]⟩, H, I.tok _, ⟨_, rfl⟩, q⟩) hs
noncomputable def rIx (K : Frag) : R2 := fun x y H Q => rIxL K x y H Q \/ rIxT K x y H Q \/ rIxS x y H Q
theorem ix_seq : IxR X (rIx X.K) := ix_list.or (ix_tup.or ix_str)
theorem mapSeq_set (its : List Value) (n j : Nat) (u : Value) : Obj.mapSeq (·.setIfInBounds j u) { cls := .type "list", data := .seq its.toArray n } = { cls := .type "list", data := .seq (its.set j u).toArray n } := by
 simp [Obj.mapSeq]
theorem Inv.lst {pins : List (Addr × Obj)} {σ : St} {H : Hp} {s : Shared} {p : Addr} {xs : List V} (I : Inv X pins σ H s) (h : H p = some (.lst xs)) :
  ∃ (its : List Value) (n : Nat), Vals xs its /\ s.heap.get? p = some { cls := .type "list", data := .seq its.toArray n } /\ xs.length <= sizeLine := by
 obtain ⟨z, its, n, r, e⟩ := I.hok p _ h;exact ⟨its, n, r, e, z⟩
theorem Inv.lstUpd {pins : List (Addr × Obj)} {σ : St} {H : Hp} {s : Shared} {p : Addr} {xs ys : List V} {its its' : List Value} {n n' : Nat} {f : Obj -> Obj} (I : Inv X pins σ H s) (h : H p = some (.lst xs))
  (ho : s.heap.get? p = some { cls := .type "list", data := .seq its.toArray n }) (hf : f { cls := .type "list", data := .seq its.toArray n } = { cls := .type "list", data := .seq its'.toArray n' }) (r : Vals ys its') (hz : ys.length <= sizeLine) (t : Nat) :
  Inv X pins σ (upd H p (.lst ys)) { s with heap := s.heap.update p f, toks := t } := by
 have e : (s.heap.update p f).get? p = some { cls := .type "list", data := .seq its'.toArray n' } := by
  rw [Heap.get?_update_self f ho (by rw [hf] <;> rfl), hf]
 refine I.write (x := p) (e := p) (by rw [h]; trivial) (.inl rfl) (fun b u hb q => (Heap.get?_update_other _ _ (Ne.symm hb)).trans q) ⟨_, e⟩ ?_
 exact ⟨hz, its', n', r, e⟩
noncomputable def rSetL : V -> V -> V -> Hp -> (Hp -> Prop) -> Prop := fun o i v H Q => ∃ p xs k j, o = .ref p /\ i = .int k /\ H p = some (.lst xs) /\ ixN xs.length k = some j /\ Q (upd H p (.lst (xs.set j v)))
theorem set_list : PSet X rSetL := by
 intro pins s σ H o i v ov iv u Q I ro ri rv h;obtain ⟨p, xs, k, j, rfl, rfl, hp, hj, q⟩ := h;cases ro;obtain ⟨t, rfl⟩ := ri;obtain ⟨its, n, r, ho, hz⟩ := I.lst hp;obtain ⟨h1, h2, h3, h4⟩ := ixN_seq hj;have hl := r.length;have hn := line63;have I' : Inv X pins σ (upd H p (.lst (xs.set j v))) { s with heap := s.heap.update p (Obj.mapSeq (·.setIfInBounds j u)) } :=
  I.lstUpd hp ho (mapSeq_set its n j u) (r.set rv j) (by rw [List.length_set]; exact hz) s.toks
 by_cases h0 : 0 <= k
 ·have hk : k.toNat = j := by
   rw [seqIndex_of h0 h4] at h1;exact Option.some.inj h1
  exact PySem.W.ki_setAt ho h0 (by walk_at "o") (by rw [size_toArray, <- hl]; exact h4) (by rw [hk]; exact ⟨_, I', q⟩)
 ·have hk : (k + (its.toArray.size : Int)).toNat = j := by
   rw [seqIndex_neg (by walk_at "o") h3] at h1
   rw [size_toArray, <- hl];exact Option.some.inj h1
  exact PySem.W.ki_setBack ho (by walk_at "o") (by rw [size_toArray, <- hl]; exact h3) (by walk_at "o") (by rw [hk]; exact ⟨_, I', q⟩)
theorem slice_bounds (lo hi : Option Int) (n : Nat) : (sliceBounds lo hi none n).1 = ((HT.sIx n 0 lo : Nat) : Int) /\ (sliceBounds lo hi none n).2.1 = ((HT.sIx n n hi : Nat) : Int) /\ (sliceBounds lo hi none n).2.2 = 1 := by
 refine ⟨?_, ?_, rfl⟩
 ·cases lo with
  | none => simp [sliceBounds, HT.sIx]
  | some i =>
   simp only [sliceBounds, HT.sIx, Option.getD_none, show (1 : Int) > 0 by decide, if_true]
   by_cases h : i < 0
   ·simp only [h, if_true] <;> walk_at "oo"
   ·simp only [h, if_false] <;> walk_at "oo"
 ·cases hi with
  | none => simp [sliceBounds, HT.sIx]
  | some i =>
   simp only [sliceBounds, HT.sIx, Option.getD_none, show (1 : Int) > 0 by decide, if_true]
   by_cases h : i < 0
   ·simp only [h, if_true] <;> walk_at "oo"
   ·simp only [h, if_false] <;> walk_at "oo"
theorem slicePick_cut (its : List Value) (lo hi : Option Int) : slicePick its.toArray lo hi none = ((its.drop (HT.sIx its.length 0 lo)).take (HT.sIx its.length its.length hi - HT.sIx its.length 0 lo)).toArray := by
 obtain ⟨h1, h2, h3⟩ := slice_bounds lo hi its.toArray.size;unfold slicePick;rw [h1, h2, h3];simp only [sliceRange_one, pick_run, size_toArray] <;> rfl
noncomputable def rSlL (K : Frag) : V -> Option Int -> Option Int -> Hp -> VK -> Prop := fun x lo hi H Q => ∃ a xs, x = .ref a /\ SqL K H a xs /\ ∀ p, H p = none -> Q (.ref p) (upd H p (.lst (cutV xs lo hi)))
theorem sl_list : SlR X (rSlL X.K) := by
 intro pins s σ H x v vl vu lo hi sl Q I rx hs pl pu h;obtain ⟨a, xs, rfl, hx, q⟩ := h;cases rx;obtain ⟨its, r, ht, hz⟩ := I.list hx;have hlen := r.length;refine ⟨"list", _, slot_list_getitem.lookup, ht.isList.typeIs, ?_⟩;refine wpAny_getItem_list_slice ht.isList hs pl pu .none (by simp) ?_ (by rw [size_toArray] <;> walk_at "oo")
 rw [slicePick_cut, <- hlen];refine ⟨.ref s.heap.objs.size, _, I.laid (t' := s.toks) (o := .lst (cutV xs lo hi)) (fun b ob q => Heap.get?_push_of_some _ q) (le_refl _) ?_, rfl, q _ (I.hok.fresh (le_refl _))⟩;exact ⟨le_trans (cutV_length xs lo hi) hz, _, 0, (r.drop (HT.sIx xs.length 0 lo)).take (HT.sIx xs.length xs.length hi - HT.sIx xs.length 0 lo), Heap.get?_push_size _ rfl⟩
theorem call_len_seq : CallR X (.builtin "len") (fun xs H Q => ∃ p ys, xs = [.ref p] /\ (SqL X.K H p ys \/ SqT X.K H p ys) /\ Q (.int ys.length) H) := by
 intro pins s σ H xs us Q I r h;obtain ⟨p, ys, rfl, hq, q⟩ := h;obtain ⟨u, rfl, rx⟩ := vals1 r;cases rx;have hn := line63;rcases hq with hq | hq
 ·obtain ⟨its, r', pl, hz⟩ := I.list hq;have hlen := r'.length;exact Calls.call_len_list pl.isList (by simp only [size_toArray] <;> walk_at "oo") ⟨.int ys.length, H, I.tok _, ⟨s.toks + 1, by rw [size_toArray, hlen]⟩, q⟩
 ·obtain ⟨its, r', pl, hz⟩ := I.tuple hq;have hlen := r'.length;exact len_tuple pl (by simp only [size_toArray] <;> walk_at "oo") ⟨.int ys.length, H, I.tok _, ⟨s.toks + 1, by rw [size_toArray, hlen]⟩, q⟩
theorem call_len_str : CallR X (.builtin "len") (fun xs H Q => ∃ z, xs = [.str z] /\ z.length <= sizeLine /\ Q (.int z.length) H) := by
 intro pins s σ H xs us Q I r h;obtain ⟨z, rfl, hz, q⟩ := h;obtain ⟨u, rfl, t, rfl⟩ := vals1 r;have hn := line63;exact len_str (by walk_at "o") ⟨.int z.length, H, I.tok _, ⟨_, rfl⟩, q⟩
theorem CallR.or {f : Value} {r r' : List V -> Hp -> VK -> Prop} (h : CallR X f r) (h' : CallR X f r') : CallR X f (fun xs H Q => r xs H Q \/ r' xs H Q) := by
 intro pins s σ H xs us Q I rs q;rcases q with q | q
 ·exact h pins s σ H xs us Q I rs q
 ·exact h' pins s σ H xs us Q I rs q
theorem call_list_of : CallR X (.type "list") (fun xs H Q => ∃ p ys, xs = [.ref p] /\ (SqL X.K H p ys \/ SqT X.K H p ys) /\ ∀ l, H l = none -> Q (.ref l) (upd H l (.lst ys))) := by
 intro pins s σ H xs us Q I r h;obtain ⟨p, ys, rfl, hq, q⟩ := h;obtain ⟨u, rfl, rx⟩ := vals1 r;cases rx;have fin : ∀ (its : List Value), Vals ys its -> ys.length <= sizeLine -> ∀ (h' : Heap) (c' : Nat), (∀ b o', s.heap.get? b = some o' -> h'.get? b = some o') ->
   h'.get? s.heap.objs.size = some { cls := .type "list", dict := none, data := .seq its.toArray c', slots := #[] } -> EP X pins σ Q (.ref s.heap.objs.size) { s with heap := h' } := fun its r' hz h' c' kp e =>
  ⟨.ref s.heap.objs.size, _, I.laid (t' := s.toks) kp (le_refl _) (show ObjOk X.prog X.w _ h' _ (.lst ys) from ⟨hz, its, c', r', e⟩), rfl, q _ (I.hok.fresh (le_refl _))⟩
 rcases hq with hq | hq
 ·obtain ⟨its, r', pl, hz⟩ := I.list hq;have hlen := r'.length;obtain ⟨o, ho, hc, n, hd⟩ := pl.isList;exact call_list_seq p (.inl rfl) ho hc hd (fun h' c' kp e => fin its r' hz h' c' kp e) (by simp only [size_toArray] <;> walk_at "oo")
 ·obtain ⟨its, r', pl, hz⟩ := I.tuple hq;have hlen := r'.length;obtain ⟨o, ho, hc, n, hd⟩ := pl;exact call_list_seq p (.inr rfl) ho hc hd (fun h' c' kp e => fin its r' hz h' c' kp e) (by simp only [size_toArray] <;> walk_at "oo")
theorem call_tuple_of : CallR X (.type "tuple") (fun xs H Q => ∃ p ys, xs = [.ref p] /\ ((SqL X.K H p ys /\ ∀ l, H l = none -> Q (.ref l) (upd H l (.tup ys))) \/ (SqT X.K H p ys /\ Q (.ref p) H))) := by
 intro pins s σ H xs us Q I r h;obtain ⟨p, ys, rfl, h⟩ := h;obtain ⟨u, rfl, rx⟩ := vals1 r;cases rx;rcases h with ⟨hq, q⟩ | ⟨hq, q⟩
 ·obtain ⟨its, r', pl, hz⟩ := I.list hq;have hlen := r'.length;refine call_tuple_list pl.isList (fun h' kp => ?_) (by simp only [size_toArray] <;> walk_at "oo")
  have I1 : Inv X pins σ H { s with heap := h' } := I.kept (t' := s.toks) kp
  have I2 : Inv X pins σ (upd H h'.objs.size (.tup ys)) { s with heap := h'.push { cls := .type "tuple", data := .seq its.toArray } } :=
   I1.laid (t' := s.toks) (fun b o e => Heap.get?_push_of_some _ e) (le_refl _) (show ObjOk X.prog X.w _ _ _ (.tup ys) from ⟨hz, its, r', IsTup.new _ _⟩)
  exact ⟨.ref h'.objs.size, _, I2, rfl, q _ (I1.hok.fresh (le_refl _))⟩
 ·obtain ⟨its, r', pl, hz⟩ := I.tuple hq;exact call_tuple_same pl ⟨.ref p, H, I, rfl, q⟩
noncomputable def tyV (K : Frag) (T : String) (x : V) (H : Hp) : Prop := match x with
 | .str _ => T = "str"
 | .int _ => T = "int"
 | .ref p => (T = "list" /\ ∃ xs, SqL K H p xs) \/ (T = "tuple" /\ ∃ o, K.lookup p = some o /\ o.cls = .type "tuple" /\ o.dict = none) \/
   (T = "dict" /\ ((∃ kvs, H p = some (.dK kvs)) \/ ∃ kvs, H p = some (.dT kvs))) \/ (T = "set" /\ ∃ S n, H p = some (.set S n))
 | _ => False
theorem tyV_is {pins : List (Addr × Obj)} {σ : St} {H : Hp} {s : Shared} {T : String} {x : V} {v : Value} (I : Inv X pins σ H s) (r : RelV x v) (ty : tyV X.K T x H) :
  s.TypeIs v T /\ ∀ a, v = .ref a -> ∃ ob, s.heap.get? a = some ob /\ ob.dict = none := by
 cases x with
 | str z =>
  obtain ⟨t, rfl⟩ := r;cases (show T = "str" from ty)
  exact ⟨typeIs_str s z t, fun _ e => nomatch e⟩
 | int i =>
  obtain ⟨t, rfl⟩ := r;cases (show T = "int" from ty)
  exact ⟨typeIs_int s i t, fun _ e => nomatch e⟩
 | ref p =>
  cases r;rcases ty with ⟨rfl, xs, hq⟩ | ⟨rfl, o, hk, hc, hd⟩ | ⟨rfl, hk⟩ | ⟨rfl, S, n, hk⟩
  ·obtain ⟨its, _, pl, _⟩ := I.list hq;refine ⟨pl.isList.typeIs, fun a e => ?_⟩;cases e;obtain ⟨o, n, e, c, hd, _⟩ := pl;exact ⟨o, e, hd⟩
  ·refine ⟨⟨o, I.kIn p o hk, hc⟩, fun a e => ?_⟩;cases e;exact ⟨o, I.kIn _ o hk, hd⟩
  ·have z : ∃ o, s.heap.get? p = some o /\ o.ExactDict := by
    rcases hk with ⟨kvs, hk⟩ | ⟨kvs, hk⟩
    ·obtain ⟨_, _, _, _, o, _, _, e, ex, _⟩ := I.hok p _ hk;exact ⟨o, e, ex⟩
    ·obtain ⟨_, _, _, _, o, _, _, e, ex, _⟩ := I.hok p _ hk;exact ⟨o, e, ex⟩
   obtain ⟨o, e, ex⟩ := z;refine ⟨⟨o, e, ex.1⟩, fun a e2 => ?_⟩;cases e2;exact ⟨o, e, ex.2.1⟩
  ·obtain ⟨o, _, _, _, e, ex, _⟩ := I.hok p _ hk;refine ⟨⟨o, e, ex.1⟩, fun a e2 => ?_⟩;cases e2;exact ⟨o, e, ex.2.1⟩
 | _ => exact False.elim ty
noncomputable def tBM0 (K : Frag) (T : String) (r : V -> List V -> Hp -> VK -> Prop) (to : TE) : TE := fun σ H Q => to σ H fun x H1 => tyV K T x H1 /\ r x [] H1 Q
noncomputable def tBM (K : Frag) (T : String) (r : V -> List V -> Hp -> VK -> Prop) (to : TE) (t : TA) : TE := fun σ H Q => to σ H fun x H1 => tyV K T x H1 /\ t σ H1 fun xs H2 => r x xs H2 Q
variable {o e : Expr} {es : List Expr} {to : TE} {t : TA} {name : Str} {apos cpos : Pos} {T id : String} {r : V -> List V -> Hp -> VK -> Prop}
theorem pe_bm0 (pa : PlainAttrs T) (slot : Slot T name id) (hty : typeOf (.builtin id) = pure (.type "method_descriptor")) (hm : MtR X id r) (ho : PE X o to)
  (hbase : attributeBase o name X.env (eval o X.env) = eval o X.env := by rfl) (hline : (apos.endLine == cpos.line) = true := by rfl) : PE X (.Call (.Attribute o name apos) [] [] cpos) (tBM0 X.K T r to) := by
 intro pins s σ H Q I h;refine wpAny_Call_method0_late hbase hline (thn (ho pins s σ H _ I h) fun v s1 zz => ?_);obtain ⟨x, H1, I1, r1, ty, q1⟩ := zz;obtain ⟨h1, h2⟩ := tyV_is I1 r1 ty;exact ⟨T, id, pa, slot, hty, h1, h2, Calls.callWith_builtin rfl (PySem.evalArgs_none (hm pins s1 σ H1 x [] v [] Q I1 r1 .nil q1))⟩
theorem pe_bm (pa : PlainAttrs T) (slot : Slot T name id) (hty : typeOf (.builtin id) = pure (.type "method_descriptor")) (hm : MtR X id r) (ho : PE X o to) (ha : PA X (e :: es) t)
  (hbase : attributeBase o name X.env (eval o X.env) = eval o X.env := by rfl)
  (hfew : ((backTo cpos (starEach (e :: es) X.env)).all (fun x => !x.1) && (backToKw cpos (keywordEach [] X.env)).all (fun x => x.1.isSome)
   && decide ((e :: es).length + ([] : List Keyword).length + (if ([] : List Keyword).isEmpty then 0 else 1) < 30)) = true := by rfl)
  (hline : (apos.endLine == cpos.line) = true := by rfl) (hs : starEach (e :: es) X.env = (false, eval e X.env) :: starEach es X.env := by rfl) (hplain : (backTo cpos (starEach es X.env)).any (·.1) = false := by rfl) :
  PE X (.Call (.Attribute o name apos) (e :: es) [] cpos) (tBM X.K T r to t) := by
 intro pins s σ H Q I h;refine wpAny_Call_method_late hbase hfew hline rfl (thn (ho pins s σ H _ I h) fun v s1 zz => ?_);obtain ⟨x, H1, I1, r1, ty, q1⟩ := zz;obtain ⟨h1, h2⟩ := tyV_is I1 r1 ty;refine ⟨T, id, pa, slot, hty, h1, h2, ?_⟩;have hA := ha cpos pins s1 σ H1 _ I1 q1;rw [hs] at hA ⊢;refine Calls.callWith_builtin (by show (false || (backTo cpos (starEach es X.env)).any (·.1)) = false; rw [hplain] <;> rfl) (Calls.evalArgs_plain ?_)
 exact thn hA fun us s2 ⟨vs, H2, I2, r2, q2⟩ => hm pins s2 σ H2 x vs v us Q I2 r1 r2 q2
end
noncomputable def MtM (X : Cx) (id : String) (r : V -> List V -> Hp -> VK -> Prop) : Prop :=
 ∀ (pins : List (Addr × Obj)) (s : Shared) (σ : St) (H : Hp) (x : V) (xs : List V) (v : Value) (us : List Value) (Q : VK), Inv X pins σ H s -> RelV x v -> Vals xs us -> r x xs H Q ->
  wpAny (model X.prog X.w) X.A (call (.builtin id) (v :: us)) (EP X pins σ Q) X.xe s
theorem Vals.one : ∀ {x : V} {us : List Value}, Vals [x] us -> ∃ u, us = [u] /\ RelV x u
 | _, _, .cons r .nil => ⟨_, rfl, r⟩
theorem Vals.zero : ∀ {us : List Value}, Vals [] us -> us = []
 | _, .nil => rfl
theorem Vals.reverse {xs : List V} {us : List Value} (h : Vals xs us) : Vals xs.reverse us.reverse := by
 induction h with
 | nil => exact .nil
 | cons r t ih => rw [List.reverse_cons, List.reverse_cons]; exact Vals.append ih (.cons r .nil)
section
variable {X : Cx} {pins : List (Addr × Obj)} {σ : St} {H : Hp} {s : Shared} {l b : Addr} {xs ys zs : List V}
theorem Inv.lset {its its' : List Value} {n : Nat} {f : Array Value -> Array Value} {t' : Nat} (I : Inv X pins σ H s) (hH : H l = some (.lst xs))
  (e : s.heap.get? l = some { cls := .type "list", data := .seq its.toArray n }) (hf : f its.toArray = its'.toArray) (hv : Vals ys its') (hz : ys.length <= sizeLine) :
  Inv X pins σ (upd H l (.lst ys)) { s with heap := s.heap.update l (Obj.mapSeq f), toks := t' } := by
 have q := PySem.IsL.update e f;rw [hf] at q;refine I.write (x := l) (e := l) (by rw [hH]; exact trivial) (.inl rfl) (fun b' u hb hu => (Heap.get?_update_other s.heap (Obj.mapSeq f) (Ne.symm hb)).trans hu) ⟨_, q⟩ ?_
 exact ⟨hz, its', _, hv, q⟩
theorem Inv.lnew {its : List Value} {t' : Nat} (I : Inv X pins σ H s) (hv : Vals ys its) (hz : ys.length <= sizeLine) :
  Inv X pins σ (upd H s.heap.objs.size (.lst ys)) { s with heap := s.heap.push { cls := .type "list", data := .seq its.toArray }, toks := t' } :=
 I.laid (fun _ _ q => Heap.get?_push_of_some _ q) (le_refl _) ⟨hz, its, 0, hv, Heap.get?_push_size _ rfl⟩
theorem Inv.fresh (I : Inv X pins σ H s) : H s.heap.objs.size = none := I.hok.fresh (le_refl _)
theorem Inv.lstM (I : Inv X pins σ H s) (hH : H l = some (.lst xs)) : xs.length <= sizeLine /\ ∃ (its : List Value) (n : Nat), Vals xs its /\ xs.length = its.length /\ s.heap.get? l = some { cls := .type "list", data := .seq its.toArray n } := by
 obtain ⟨z, its, n, r, e⟩ := I.hok l _ hH;exact ⟨z, its, n, r, r.length, e⟩
end
section
variable {X : Cx}
noncomputable def rAppend : V -> List V -> Hp -> VK -> Prop := fun x vs H Q => ∃ l xs y, x = .ref l /\ vs = [y] /\ H l = some (.lst xs) /\ xs.length < sizeLine /\ Q .non (upd H l (.lst (xs ++ [y])))
theorem mt_append : MtM X "list.append" rAppend := by
 intro pins s σ H x vs v us Q I rx rv h;obtain ⟨l, xs, y, rfl, rfl, hH, hz, q⟩ := h;cases rx;obtain ⟨u, rfl, ru⟩ := rv.one;obtain ⟨z, its, n, r, hl, e⟩ := I.lstM hH;refine call_meets F.slot_list_append ⟨_, e, rfl⟩ F.entry_list_append (F.args_list_append_2 _ _) (PySem.list_append l its.toArray n u (by rw [size_toArray]; walk_at "oo")) ⟨e, ?_⟩
 refine ⟨.non, _, I.lset (its' := its ++ [u]) hH e (by simp) (r.append (.cons ru .nil)) ?_, rfl, q⟩
 rw [length_append, List.length_singleton];walk_at "oo"
noncomputable def rClear : V -> List V -> Hp -> VK -> Prop := fun x vs H Q => ∃ l xs, x = .ref l /\ vs = [] /\ H l = some (.lst xs) /\ Q .non (upd H l (.lst []))
theorem mt_clear : MtM X "list.clear" rClear := by
 intro pins s σ H x vs v us Q I rx rv h;obtain ⟨l, xs, rfl, rfl, hH, q⟩ := h;cases rx;have hus := rv.zero;subst hus;obtain ⟨z, its, n, r, hl, e⟩ := I.lstM hH;refine call_meets F.slot_list_clear ⟨_, e, rfl⟩ F.entry_list_clear (F.args_list_clear_1 _) (AutoSeq1.list_clear_list_0 l its.toArray n (by rw [size_toArray]; walk_at "oo")) ⟨e, ?_⟩
 exact ⟨.non, _, I.lset (its' := []) (ys := []) hH e rfl .nil (zero_le _), rfl, q⟩
end
end L2
namespace Att
open PySem PySem.W PySem.Calls PyProof.Rows
theorem ints_of_wellAll {P : Params} {h : Heap} : ∀ (ns : List Int) (vs : List Value), WellAll P h vs (ns.map WData.int) -> IntsAre vs ns := by
 intro ns
 induction ns with
 | nil =>
  intro vs w;rw [map_nil] at w;cases w;exact .nil
 | cons n ns ih =>
  intro vs w;rw [map_cons] at w;cases w with
  | cons a b =>
   cases a;exact .cons _ _ (ih _ b)
theorem script_of {l : OpenLaw} {n : Nat} (hn : l.most = some n) {P : Params} {h : Heap} {args : List WData} {vals : List Value}
  (hpre : l.row.toRowW.claim.pre args = true) (hwl : WellAll P h vals args) :
  ∃ a vs ns, vals = [Value.ref a] /\ args = [WData.list (ns.map WData.int)] /\ h.get? a = some { cls := .type "list", data := .seq vs.toArray } /\ IntsAre vs ns /\ ns.length <= n := by
 have hsh : WShape.hasAll [] args [.list .int] = true := (pre_splitW hpre).1;have hc : l.pre.holds [] { args := args } = true := (pre_splitW hpre).2;obtain ⟨d, r, rfl, h1, h2⟩ := hasAllW_cons hsh;obtain rfl := hasAllW_nil h2;obtain ⟨xs, rfl, h3⟩ := hasW_list h1;obtain ⟨ns, rfl⟩ := items_int h3;have hlen : ns.length <= n := by
  unfold OpenLaw.pre at hc;have h4 : (WTm.not (.lt (.lit (.int (n : Int))) (.len (.arg 0)))).holds [] { args := [.list (ns.map .int)] } = true := by
   have h4 := (holds_andW hc).1;rw [hn] at h4;exact h4
  have h5 := condW_of h4 (w_not (w_lt w_lit (w_len_list (w_arg rfl))));rw [length_map] at h5;refine le_of_not_lt fun q => ?_;have q' : (n : Int) < ((ns.length : Nat) : Int) := by walk_at "o"
  first
   | (rw [decide_eq_true q'] at h5; exact absurd h5 (by decide))
   | (simp at h5; walk_at "oo")
 cases hwl with
 | cons w1 w2 =>
  cases w2;cases w1 with
  | list ho hall => exact ⟨_, _, ns, rfl, rfl, ho, ints_of_wellAll ns _ hall, hlen⟩
theorem post_true (l : OpenLaw) (args : List WData) : l.row.toRowW.claim.post args (.bool true) args = true :=
 postW_of (r := l.row.toRowW) (X := (true == true))
  (show WShape.has [] (.bool true) .bool = true by first | rfl | decide | simp [WShape.has, WShape.arms, WShape.armsAll])
  (show (WTm.eq .res (.lit (.bool true))).value [] { args := args, res := some (.bool true), after := args } = some (.bool (true == true)) from w_eq_bool (w_res rfl) w_lit) rfl
theorem attach_call {l : OpenLaw} {n : Nat} {q : Program} {loose : List Str} {XP : (Str -> Option Value) -> Heap -> Prop} {YP : World -> Heap -> Prop} {d : DefRec}
  (hn : l.most = some n) (hdf : d.params.defaults = [])
  (call : ∀ (w : World) (s₀ s₁ : Shared) (mg mb : Str -> Option Value) (fa : Addr) (o : Obj) (pm cd doc : Value) (a : Addr) (vs : List Value) (ns : List Int),
   Ground q loose [] XP w s₀ mg mb s₁.heap -> YP w s₁.heap ->
   s₁.heap.get? fa = some o -> o.data = .func (docDef d.name d.params d.body d.scope pm cd doc) -> s₁.heap.CodeRec cd d.name -> mg d.name = some (.ref fa) ->
   s₁.heap.get? a = some { cls := .type "list", data := .seq vs.toArray } -> IntsAre vs ns -> ns.length <= n -> s₁.gens = #[] ->
   codeAny (model l.prog w) callerA (.call (.ref fa) ⟨[.ref a], []⟩) (fun r s' => r = .ok (.ret (.bool true)) /\ OldK s₁.heap s'.heap /\ s'.os = s₁.os /\ AllBare s'.gens) s₁) :
  WalkO q loose XP YP l.row.toRowW d [] (fun f vs => PySem.call f vs) := by
 intro w s₀ s₁ mg mb G Y fa o pm cd doc dV kV ho hd hcd hD hmg hg args vals as hpre hlay hrd hwl hlo;obtain rfl : dV = .none := Dflts.none hD hdf;obtain rfl : kV = .none := Dflts.noKw hD;obtain ⟨a, vs, ns, rfl, rfl, hobj, hints, hlen⟩ := script_of hn hpre hwl;refine enter_call (codeAny_mono (call w s₀ s₁ mg mb fa o pm cd doc a vs ns G Y ho (fd_plain hd) hcd hmg hobj hints hlen hg) fun r s' hq => ?_);obtain ⟨rfl, h2, h3, h4⟩ := hq;exact ⟨.inl ⟨.bool true, .bool true, [], rfl, fun _ => rfl, .bool true, post_true l _, fun _ => ⟨List.Pairwise.nil, fun _ hm => (nomatch hm)⟩⟩, h2, h3, h4⟩
end Att
namespace L2
open PySem PySem.Spec PyProof.Rows
theorem vals_ints : ∀ {vs : List Value} {ns : List Int}, IntsAre vs ns -> Vals (ns.map V.int) vs
 | _, _, .nil => .nil
 | _, _, .cons n t h => .cons ⟨t, rfl⟩ (vals_ints h)
noncomputable def Only (H : Hp) : Prop := ∀ b, H b = none \/ ∃ o xs, H b = some (.frz o (.lst xs))
theorem law_call {P : Program} {w : World} {K : Frag} {mg mb : Str -> Option Value} {CX : CXT} {k : Nat} {fa a : Addr} {fd : FuncData} {x : Str} {sp : Sp} {s₁ : Shared} {vs : List Value} {ns : List Int}
  (KX : K.In s₁.heap) (hns : s₁.heap.Ns mainGlobals mg) (hb : s₁.heap.Ns builtinsNs mb) (hbb : ∀ x : Str, x ≠ "__name__" -> mb x = bootBuiltins x) (hlim : s₁.heap.NoLimit) (hg : s₁.gens = #[])
  (ha : s₁.heap.get? a = some { cls := .type "list", data := .seq vs.toArray }) (hi : IntsAre vs ns) (hl : ns.length <= sizeLine) (hr : Room k callerA)
  (F : ∀ base : Heap, K.In base -> base.Ns mainGlobals mg -> FnOk P w K mg base CX k fa fd [x] sp) (hbind : ∀ (s : Shared) (u : Value), BindsTo s fd ⟨[u], []⟩ [(x, u)])
  (hsp : ∀ H : Hp, Only H -> SqL K H a (ns.map V.int) -> sp [.ref a] H (fun v _ => v = .bl true) fun _ _ _ => False)
  (hCX : ∀ H e s', CX [] H s₁ (fun _ _ _ => False) e s' -> False) :
  codeAny (model P w) callerA (.call (.ref fa) ⟨[.ref a], []⟩) (fun r s' => r = .ok (.ret (.bool true)) /\ OldK s₁.heap s'.heap /\ s'.os = s₁.os /\ AllBare s'.gens) s₁ := by
 have rv := vals_ints hi;have lenV := hi.length;have core : ∀ H : Hp, Only H -> SqL K H a (ns.map V.int) -> HOk P w H s₁.heap -> (∀ b, H b ≠ none -> b = a) -> (H a ≠ none -> K.lookup a = none) ->
   codeAny (model P w) callerA (.call (.ref fa) ⟨[.ref a], []⟩) (fun r s' => r = .ok (.ret (.bool true)) /\ OldK s₁.heap s'.heap /\ s'.os = s₁.os /\ AllBare s'.gens) s₁ := by
  intro H hO hS hok hA hK;have base_of : ∀ {b : Addr} {o : Obj}, s₁.heap.get? b = some o -> H b = none -> (hidT s₁.heap H).get? b = some o := fun e n => hidT_get e n;have noA : ∀ {b : Addr} {o : Obj} {es : Array DictEntry} {ep : Nat}, s₁.heap.get? b = some o -> o.data = .dict es ep -> H b = none := fun {b o es ep} e d => by
   cases q : H b with
   | none => rfl
   | some u =>
    have e' : b = a := hA b (by rw [q]; simp)
    subst e';rw [ha] at e; cases e;have d' : Data.seq vs.toArray _ = Data.dict es ep := d;cases d'
  have nsK : ∀ {b : Addr} {m : Str -> Option Value}, s₁.heap.Ns b m -> (hidT s₁.heap H).Ns b m := fun {b m} ⟨o, es, ep, e, d, r⟩ => ⟨o, es, ep, base_of e (noA e d), d, r⟩;have hKb : K.In (hidT s₁.heap H) := fun b o e => base_of (KX b o e) (by
   cases q : H b with
   | none => rfl
   | some u =>
    have e' : b = a := hA b (by rw [q]; simp)
    subst e';rw [hK (by rw [q]; simp)] at e; cases e)
  have hM : Mod K mg (hidT s₁.heap H) := ⟨hKb, nsK hns, ⟨mb, nsK hb, hbb⟩, let ⟨mc, h1, h2⟩ := hlim; ⟨mc, nsK h1, h2⟩⟩;have e0 : Env0 P w K mg (hidT s₁.heap H) callerA [] s₁ H := ⟨rfl, hM, fun b o e => of_hidT e, le_of_eq (hidT_size _ _), trivial, fun b hb => absurd (show b ∈ ([] : List Addr) from hb) (by simp), hok, .of_eq hg⟩
  refine codeAny_mono ((F _ hKb (nsK hns)).run callerA [] s₁ H ⟨[.ref a], []⟩ [.ref a] [.ref a] _ _ hr e0 (hbind s₁ (.ref a)) (.cons rfl .nil) (hsp H hO hS)) fun r s' h => ?_;cases r with
  | error e => exact (hCX H e s' h).elim
  | ok fl =>
   cases fl with
   | next => exact False.elim h
   | brk => exact False.elim h
   | cont => exact False.elim h
   | ret u =>
    obtain ⟨v, H', os, bare, un, hok', r', q⟩ := h;have q' : v = .bl true := q;subst q';obtain rfl : u = Value.bool true := r';refine ⟨rfl, OldK.of_keep fun b o e => ?_, os, bare⟩;cases q : H b with
    | none => exact un.keep b o e q (by intro z; exact absurd (show b ∈ ([] : List Addr) from z) (by simp)) (by simp)
    | some u =>
     rcases hO b with z | ⟨ob, xs, z⟩
     ·rw [q] at z; cases z
     ·have z2 := un.frzs b ob _ z;obtain ⟨e1, _⟩ := hok b _ z;obtain ⟨e2, _⟩ := hok' b _ z2;rw [e] at e1; cases e1;exact e2
 cases hk : K.lookup a with
 | some o =>
  have e := KX a o hk;rw [ha] at e;cases e;refine core (fun _ => none) (fun _ => .inl rfl) (.inr ⟨_, vs.toArray, _, hk, rfl, rfl, rfl, by rw [size_toArray, lenV]; exact hl, by simpa using rv⟩) (fun b u z => by have z' : (none : Option HO) = some u := z; cases z') (fun b z => absurd rfl z) fun z => absurd rfl z
 | none =>
  refine core (fun b => if b = a then some (.frz { cls := .type "list", data := .seq vs.toArray } (.lst (ns.map V.int))) else none) (fun b => ?_) (.inl (.inr ⟨{ cls := .type "list", data := .seq vs.toArray }, if_pos rfl⟩)) (fun b u z => ?_) (fun b z => ?_) fun _ => hk
  ·by_cases hb : b = a
   ·exact .inr ⟨_, _, if_pos hb⟩
   ·exact .inl (if_neg hb)
  ·by_cases hb : b = a
   ·have z' := (if_pos hb).symm.trans z;cases z';subst hb;exact ⟨ha, by rw [length_map]; exact hl, vs, _, rv, ha⟩
   ·have z' := (if_neg hb).symm.trans z;cases z'
  ·by_cases hb : b = a
   ·exact hb
   ·exact absurd (if_neg hb) z
abbrev KOf {K : Frag} {h : Heap} (_ : K.In h) : Frag := K
theorem walk_of {l : PySem.W.OpenLaw} {n k : Nat} {q : Program} {loose : List Str} {XP : (Str -> Option Value) -> Heap -> Prop} {YP : World -> Heap -> Prop} {d : DefRec} {K : Params -> Frag} {CX : World -> CXT} {sp : World -> Sp} {x : Str}
  (hn : l.most = some n) (hn2 : n <= sizeLine) (hdf : d.params.defaults = []) (hr : Room k callerA)
  (hY : ∀ (w : World) (h : Heap), YP w h -> (K w.params).In h)
  (F : ∀ (w : World) (mg : Str -> Option Value) (fa : Addr) (h : Heap), (K w.params).In h -> h.Ns mainGlobals mg -> mg d.name = some (.ref fa) ->
   ∃ fd : FuncData, (∀ (s : Shared) (u : Value), BindsTo s fd ⟨[u], []⟩ [(x, u)]) /\
    ∀ base : Heap, (K w.params).In base -> base.Ns mainGlobals mg -> FnOk l.prog w (K w.params) mg base (CX w) k fa fd [x] (sp w))
  (hsp : ∀ (w : World) (H : Hp) (a : Addr) (ns : List Int), ns.length <= n -> Only H -> SqL (K w.params) H a (ns.map V.int) -> sp w [.ref a] H (fun v _ => v = .bl true) fun _ _ _ => False)
  (hCX : ∀ (w : World) (H : Hp) (s : Shared) (e : Value) (s' : Shared), CX w [] H s (fun _ _ _ => False) e s' -> False) :
  PySem.W.WalkO q loose XP YP l.row.toRowW d [] (fun f vs => PySem.call f vs) := by
 refine Att.attach_call hn hdf fun w s₀ s₁ mg mb fa o pm cd doc a vs ns G Y ho hd hcd hmg hobj hints hlen hg => ?_;have KX := hY w _ Y;obtain ⟨fd, hb, hF⟩ := F w mg fa _ KX G.T.g hmg;exact law_call KX G.T.g G.T.b G.T.builtins G.T.nolimit hg hobj hints (le_trans hlen hn2) hr hF hb (fun H hO hS => hsp w H a ns hlen hO hS) fun H e s' => hCX w H s₁ e s'
end L2
namespace L2
open PySem PySem.Spec PyProof.Rows
noncomputable def inClass (s : Stmt) (j : Nat) : Stmt := match s with
 | .ClassDef _ _ _ body _ _ _ _ _ _ _ => body.getD j (.Pass ⟨0, 0, 0, 0⟩)
 | _ => .Pass ⟨0, 0, 0, 0⟩
noncomputable def defArgs (s : Stmt) : Arguments := match s with
 | .FunctionDef _ a _ _ _ _ _ _ _ _ => a
 | _ => { posonlyargs := [], args := [], vararg := none, kwonlyargs := [], kw_defaults := [], kwarg := none, defaults := [] }
noncomputable def defBody (s : Stmt) : List Stmt := match s with
 | .FunctionDef _ _ b _ _ _ _ _ _ _ => b
 | _ => []
noncomputable def defScope (s : Stmt) : Scope := match s with
 | .FunctionDef _ _ _ _ _ _ sc _ _ _ => sc
 | _ => { kind := .function, names := [], isGenerator := false, isCoroutine := false }
abbrev CX0 : CXT := fun _ _ _ _ _ _ => False
abbrev E0 : XK := fun _ _ _ => False
theorem pass0 {X : Cx} : Passes CX0 X E0 := fun _ _ _ _ _ _ _ h => h.elim
theorem iteF {A B : Prop} (h : B) : if false = true then A else B := by
 rw [if_neg Bool.false_ne_true];exact h
theorem iteT {A B : Prop} (h : A) : if true = true then A else B := by
 rw [if_pos rfl];exact h
section
variable {κ : Type} [DecidableEq κ]
noncomputable def valV (kvs : List (κ × V)) (k : κ) : Option V := (kvs.find? fun kv => decide (kv.1 = k)).map (·.2)
noncomputable def putK (kvs : List (κ × V)) (k : κ) (v : V) : List (κ × V) :=
 if (kvs.any fun kv => decide (kv.1 = k)) = true then kvs.map (fun kv => if kv.1 = k then (kv.1, v) else kv) else kvs ++ [(k, v)]
noncomputable def dropK (kvs : List (κ × V)) (k : κ) : List (κ × V) := kvs.filter fun kv => decide (kv.1 ≠ k)
theorem valV_pos {p : κ × V} {r : List (κ × V)} {k : κ} (e : p.1 = k) : valV (p :: r) k = some p.2 := by simp [valV, find?_cons, e]
theorem valV_neg {p : κ × V} {r : List (κ × V)} {k : κ} (e : ¬ p.1 = k) : valV (p :: r) k = valV r k := by simp [valV, find?_cons, e]
theorem valV_any (k : κ) : ∀ kvs : List (κ × V), (kvs.any fun kv => decide (kv.1 = k)) = (valV kvs k).isSome
 | [] => rfl
 | p :: r => by
  rw [any_cons]
  by_cases e : p.1 = k
  ·simp only [valV_pos e, decide_eq_true e, Bool.true_or, Option.isSome_some]
  ·rw [valV_neg e, decide_eq_false e, Bool.false_or]; exact valV_any k r
theorem length_putK (kvs : List (κ × V)) (k : κ) (v : V) : (putK kvs k v).length <= kvs.length + 1 := by
 unfold putK;split
 ·rw [length_map]; walk_at "oo"
 ·rw [length_append, length_cons, length_nil]; walk_at "oo"
theorem RelO.isSome_eq {o : Option V} {u : Option Value} (r : RelO o u) : o.isSome = u.isSome := by
 cases o with
 | none => cases u with
  | none => rfl
  | some _ => exact (show False from r).elim
 | some _ => cases u with
  | none => exact (show False from r).elim
  | some _ => rfl
theorem RelO.getD {o : Option V} {u : Option Value} {d : V} {d' : Value} (r : RelO o u) (rd : RelV d d') : RelV (o.getD d) (u.getD d') := by
 cases o with
 | none => cases u with
  | none => exact rd
  | some _ => exact (show False from r).elim
 | some _ => cases u with
  | none => exact (show False from r).elim
  | some _ => exact r
theorem KV.val {kvs : List (κ × V)} {vs : List (κ × Value)} (r : KV kvs vs) (k : κ) : RelO (valV kvs k) (valueAt vs k) := by
 unfold KV at r
 induction r with
 | nil => exact True.intro
 | @cons p q ps qs h t ih =>
  obtain ⟨h1, h2⟩ := h
  by_cases e : p.1 = k
  ·have e' : q.1 = k := h1.symm.trans e;have b : valueAt (q :: qs) k = some q.2 := by simp [valueAt, find?_cons, e']
   rw [valV_pos e, b]; exact h2
  ·have e' : ¬ q.1 = k := fun z => e (h1.trans z);have b : valueAt (q :: qs) k = valueAt qs k := by simp [valueAt, find?_cons, e']
   rw [valV_neg e, b]; exact ih
theorem KV.any {kvs : List (κ × V)} {vs : List (κ × Value)} (r : KV kvs vs) (k : κ) : (kvs.any fun kv => decide (kv.1 = k)) = vs.any fun kv => decide (kv.1 = k) := by
 unfold KV at r
 induction r with
 | nil => rfl
 | cons h t ih => rw [any_cons, any_cons, ih, h.1]
theorem KV.repl {kvs : List (κ × V)} {vs : List (κ × Value)} (r : KV kvs vs) (k : κ) {y : V} {u : Value} (ry : RelV y u) :
  KV (kvs.map fun kv => if kv.1 = k then (kv.1, y) else kv) (vs.map fun kv => if kv.1 = k then (kv.1, u) else kv) := by
 unfold KV at r ⊢
 induction r with
 | nil => exact .nil
 | @cons p q ps qs h t ih =>
  rw [map_cons, map_cons];refine .cons ?_ ih;obtain ⟨h1, h2⟩ := h
  by_cases e : p.1 = k
  ·rw [if_pos e, if_pos (h1.symm.trans e)]; exact ⟨h1, ry⟩
  ·rw [if_neg e, if_neg (fun z => e (h1.trans z))]; exact ⟨h1, h2⟩
theorem KV.put {kvs : List (κ × V)} {vs : List (κ × Value)} (r : KV kvs vs) (k : κ) {y : V} {u : Value} (ry : RelV y u) : KV (putK kvs k y) (stored vs k u) := by
 unfold putK stored;rw [r.any k]
 by_cases e : (vs.any fun kv => decide (kv.1 = k)) = true
 ·rw [if_pos e, if_pos e]; exact r.repl k ry
 ·rw [if_neg e, if_neg e]; exact Paired.snoc r ⟨rfl, ry⟩
theorem KV.length {kvs : List (κ × V)} {vs : List (κ × Value)} (r : KV kvs vs) : kvs.length = vs.length := Paired.length r
end
theorem kV_is {P : Program} {w : World} {k : Key} {u : Value} (r : RelV (kV k) u) : (mixKind P w).is k u = true := by
 cases k with
 | inl i => obtain ⟨t, e⟩ := (show ∃ t, u = Value.int i t from r); subst e; exact mixKind_int P w i t
 | inr x => obtain ⟨t, e⟩ := (show ∃ t, u = Value.str x t from r); subst e; exact mixKind_str P w x t
theorem items_are {P : Program} {w : World} : ∀ {ks : List Key} {us : List Value}, Vals (ks.map kV) us -> ItemsAre (mixKind P w) ks us
 | [], _, r => by rw [map_nil] at r; cases r; exact .nil
 | k :: ks, _, r => by
  rw [map_cons] at r;cases r with
  | cons h t => exact .cons (kV_is h) (items_are t)
abbrev KT (H : Hp) : List (List Key × V) -> List (List Key × Addr × Value) -> Prop := Paired fun p q => p.1 = q.1 /\ H q.2.1 = some (.tup (p.1.map kV)) /\ RelV p.2 q.2.2
theorem KT.val {H : Hp} {kvs : List (List Key × V)} {xs : List (List Key × Addr × Value)} (r : KT H kvs xs) (k : List Key) : RelO (valV kvs k) ((atKey xs k).map (·.2)) := by
 induction r with
 | nil => exact True.intro
 | @cons p q ps qs h t ih =>
  obtain ⟨h1, _, h2⟩ := h
  by_cases e : p.1 = k
  ·have e' : q.1 = k := h1.symm.trans e;have b : atKey (q :: qs) k = some q.2 := by simp [atKey, find?_cons, e']
   rw [valV_pos e, b]; exact h2
  ·have e' : ¬ q.1 = k := fun z => e (h1.trans z);have b : atKey (q :: qs) k = atKey qs k := by simp [atKey, find?_cons, e']
   rw [valV_neg e, b]; exact ih
theorem KT.repl {H : Hp} {kvs : List (List Key × V)} {xs : List (List Key × Addr × Value)} (r : KT H kvs xs) (k : List Key) {y : V} {u : Value} (ry : RelV y u) :
  KT H (kvs.map fun kv => if kv.1 = k then (kv.1, y) else kv) (xs.map (putAt k u)) := by
 induction r with
 | nil => exact .nil
 | @cons p q ps qs h t ih =>
  rw [map_cons, map_cons];refine .cons ?_ ih;obtain ⟨h1, h2, h3⟩ := h;unfold putAt
  by_cases e : p.1 = k
  ·rw [if_pos e, if_pos (h1.symm.trans e)]; exact ⟨h1, h2, ry⟩
  ·rw [if_neg e, if_neg (fun z => e (h1.trans z))]; exact ⟨h1, h2, h3⟩
theorem KT.put {H : Hp} {kvs : List (List Key × V)} {xs : List (List Key × Addr × Value)} (r : KT H kvs xs) (k : List Key) {b : Addr} {y : V} {u : Value} (hb : H b = some (.tup (k.map kV))) (ry : RelV y u) :
  KT H (putK kvs k y) (storedH xs k b u) := by
 have e : (kvs.any fun kv => decide (kv.1 = k)) = (atKey xs k).isSome := by
  rw [valV_any, (r.val k).isSome_eq, Option.isSome_map]
 unfold putK storedH;rw [e]
 by_cases q : (atKey xs k).isSome = true
 ·rw [if_pos q, if_pos q]; exact r.repl k ry
 ·rw [if_neg q, if_neg q]; exact Paired.snoc r ⟨rfl, hb, ry⟩
theorem KT.keeps {H H' : Hp} {kvs : List (List Key × V)} {xs : List (List Key × Addr × Value)} (r : KT H kvs xs) (ht : ∀ b ys, H b = some (.tup ys) -> H' b = some (.tup ys)) : KT H' kvs xs :=
 Paired.mapP r fun _ _ z => ⟨z.1, ht _ _ z.2.1, z.2.2⟩
section
variable {P : Program} {w : World} {H : Hp} {h : Heap} {a : Addr}
theorem rd_of {u : HO} (ok : HOk P w H h) (e : Rd H a u) : ObjOk P w H h a u := e.ok ok
theorem dk_rd {kvs : List (Key × V)} (ok : HOk P w H h) (e : Rd H a (.dK kvs)) : kvs.length <= sizeLine /\ (a == sysModules) = false /\ ∃ vs, KV kvs vs /\ h.DictOf (mixKind P w) a vs :=
 show ObjOk P w H h a (.dK kvs) from rd_of ok e
theorem dk_of {kvs : List (Key × V)} (ok : HOk P w H h) (e : H a = some (.dK kvs)) : kvs.length <= sizeLine /\ (a == sysModules) = false /\ ∃ vs, KV kvs vs /\ h.DictOf (mixKind P w) a vs := dk_rd ok (.inl e)
theorem key_of {ks : List Key} (ok : HOk P w H h) (e : H a = some (.tup (ks.map kV))) : (tupleKind (mixKind P w)).is h ks a := by
 obtain ⟨_, its, r, o, h1, h2, n, h3⟩ := (show ObjOk P w H h a (.tup (ks.map kV)) from ok a _ e)
 exact ⟨o, its.toArray, n, h1, h2, h3, by simpa using items_are r⟩
theorem dt_rd {kvs : List (List Key × V)} (ok : HOk P w H h) (e : Rd H a (.dT kvs)) : kvs.length <= sizeLine /\ (a == sysModules) = false /\
  ∃ xs, KT H kvs xs /\ h.DictOfH (tupleKind (mixKind P w)) a xs := by
 obtain ⟨z, y, xs, r, o, es, ep, h1, h2, h3, h4, h5⟩ := (show ObjOk P w H h a (.dT kvs) from rd_of ok e)
 refine ⟨z, y, xs, r, o, es, ep, h1, h2, h3, h4, fun x hx => ?_, h5⟩;have all : ∀ {l : List (List Key × V)} {m : List (List Key × Addr × Value)}, KT H l m -> ∀ x ∈ m, (tupleKind (mixKind P w)).is h x.1 x.2.1 := by
  intro l m q
  induction q with
  | nil => intro x hx; exact nomatch hx
  | @cons p q ps qs hq t ih =>
   intro x hx;rcases mem_cons.mp hx with e | hx
   ·subst e;exact key_of ok (by rw [<- hq.1]; exact hq.2.1)
   ·exact ih x hx
 exact all r x hx
theorem dt_of {kvs : List (List Key × V)} (ok : HOk P w H h) (e : H a = some (.dT kvs)) : kvs.length <= sizeLine /\ (a == sysModules) = false /\
  ∃ xs, KT H kvs xs /\ h.DictOfH (tupleKind (mixKind P w)) a xs := dt_rd ok (.inl e)
end
noncomputable def DGet (H : Hp) (a : Addr) (y : V) (r : Option V) : Prop :=
 (∃ kvs k, Rd H a (.dK kvs) /\ y = kV k /\ r = valV kvs k) \/ ∃ kvs k b, Rd H a (.dT kvs) /\ y = .ref b /\ H b = some (.tup (k.map kV)) /\ r = valV kvs k
noncomputable def DPut (H : Hp) (a : Addr) (y v : V) (H' : Hp) : Prop :=
 (∃ kvs k, H a = some (.dK kvs) /\ y = kV k /\ kvs.length < sizeLine /\ H' = upd H a (.dK (putK kvs k v))) \/
 ∃ kvs k b, H a = some (.dT kvs) /\ y = .ref b /\ H b = some (.tup (k.map kV)) /\ kvs.length < sizeLine /\ H' = upd H a (.dT (putK kvs k v))
theorem DGet.k {H : Hp} {a : Addr} {kvs : List (Key × V)} {k : Key} (e : H a = some (.dK kvs)) : DGet H a (kV k) (valV kvs k) := .inl ⟨kvs, k, .inl e, rfl, rfl⟩
theorem DPut.k {H : Hp} {a : Addr} {kvs : List (Key × V)} {k : Key} {v : V} (e : H a = some (.dK kvs)) (hl : kvs.length < sizeLine) : DPut H a (kV k) v (upd H a (.dK (putK kvs k v))) := .inl ⟨kvs, k, e, rfl, hl, rfl⟩
section
variable {X : Cx} {pins : List (Addr × Obj)} {σ : St} {H : Hp} {s : Shared} {a : Addr} {y v : V} {u r : Value} {o : Option V} {A : Around} {E : Value -> Shared -> Prop}
theorem Inv.big (I : Inv X pins σ H s) : sysModules < s.heap.objs.size := by
 have h : mainGlobals < s.heap.objs.size := (I.mod.glob.keeps I.bk).lt;exact Nat.lt_trans (by decide) h
theorem d_getItem {Q : Value -> Shared -> Prop} (hu : A.units + 1 < cLine) (I : Inv X pins σ H s) (g : DGet H a y (some v)) (ry : RelV y u) (h : ∀ w' s', Inv X pins σ H s' -> RelV v w' -> Q w' s') :
  wpAny (model X.prog X.w) A (getItem (.ref a) u) Q E s := by
 rcases g with ⟨kvs, k, e, ey, l⟩ | ⟨kvs, k, b, e, ey, eb, l⟩
 ·subst ey;obtain ⟨z, hd, vs, rel, dd⟩ := dk_rd I.hok e;obtain ⟨w', hw, rw'⟩ := RelO.some_of (v := v) (o := valueAt vs k) (by rw [l]; exact rel.val k)
  exact wpAny_getItem_of (kV_is ry) dd.mapOf hw (h w' _ (I.tok _) rw')
 ·subst ey;cases (show u = Value.ref b from ry)
  obtain ⟨z, hd, xs, rel, dd⟩ := dt_rd I.hok e;obtain ⟨w', hw, rw'⟩ := RelO.some_of (v := v) (o := (atKey xs k).map (·.2)) (by rw [l]; exact rel.val k)
  obtain ⟨p, hp, hp2⟩ := Option.map_eq_some_iff.mp hw;refine wpAny_getItem_heap (tupleKind_room_in1 hu) (key_of I.hok eb) dd hp ?_;rw [hp2];exact h w' _ (I.tok _) rw'
theorem d_in {Q : Value -> Shared -> Prop} (hu : A.units + 1 < cLine) (I : Inv X pins σ H s) (g : DGet H a y o) (ry : RelV y u) (h : ∀ s', Inv X pins σ H s' -> Q (.bool o.isSome) s') :
  wpAny (model X.prog X.w) A (compareOp .In u (.ref a)) Q E s := by
 rcases g with ⟨kvs, k, e, ey, l⟩ | ⟨kvs, k, b, e, ey, eb, l⟩
 ·subst ey;obtain ⟨z, hd, vs, rel, dd⟩ := dk_rd I.hok e;refine wpAny_in_of (kV_is ry) hd dd.mapOf ?_;rw [<- (rel.val k).isSome_eq, <- l];exact h _ (I.tok _)
 ·subst ey;cases (show u = Value.ref b from ry)
  obtain ⟨z, hd, xs, rel, dd⟩ := dt_rd I.hok e;refine wpAny_in_heap (tupleKind_room_in1 hu) (key_of I.hok eb) hd dd ?_;have q := (rel.val k).isSome_eq;rw [Option.isSome_map] at q;rw [<- q, <- l];exact h _ (I.tok _)
theorem d_write {h' : Heap} {t' : Nat} {ob : HO} (I : Inv X pins σ H s) (mu : Mut (H a)) (hs : Heap.SameBut a s.heap h') (he : ∃ q, h'.get? a = some q) (new : ObjOk X.prog X.w (upd H a ob) h' a ob) :
  Inv X pins σ (upd H a ob) { s with heap := h', toks := t' } :=
 I.write (x := a) (e := a) mu (.inl rfl) (fun b q hb z => (hs.2 b hb).trans z) he new
theorem dk_new {P : Program} {w : World} {H' : Hp} {h' : Heap} {kvs : List (Key × V)} {vs : List (Key × Value)} (z : kvs.length <= sizeLine) (hd : (a == sysModules) = false) (rel : KV kvs vs) (dd : h'.DictOf (mixKind P w) a vs) :
  ObjOk P w H' h' a (.dK kvs) := ⟨z, hd, vs, rel, dd⟩
theorem d_setItem {H' : Hp} {Q : Unit -> Shared -> Prop} (hu : A.units + 1 < cLine) (I : Inv X pins σ H s) (g : DPut H a y v H') (ry : RelV y u) (rv : RelV v r) (h : ∀ s', Inv X pins σ H' s' -> Q () s') :
  wpAny (model X.prog X.w) A (setItem (.ref a) u r) Q E s := by
 rcases g with ⟨kvs, k, e, ey, l, eH⟩ | ⟨kvs, k, b, e, ey, eb, l, eH⟩
 ·subst ey eH;obtain ⟨z, hd, vs, rel, dd⟩ := dk_of I.hok e;have hz : vs.length <= sizeLine := by rw [<- rel.length]; exact z
  have hl : (putK kvs k v).length <= sizeLine := by have := length_putK kvs k v; walk_at "oo"
  refine wpAny_setItem_pairs (hsz := hz) (kV_is ry) dd fun h' dd' hs => h _ ?_;have he : ∃ q, h'.get? a = some q := let ⟨q, _, _, hq, _⟩ := dd'; ⟨q, hq⟩;exact d_write I (by rw [e]; exact True.intro) hs he (dk_new hl hd (rel.put k rv) dd')
 ·subst ey eH;cases (show u = Value.ref b from ry)
  obtain ⟨z, hd, xs, rel, dd⟩ := dt_of I.hok e;have hz : xs.length <= sizeLine := by rw [<- Paired.length rel]; exact z
  have hl : (putK kvs k v).length <= sizeLine := by have := length_putK kvs k v; walk_at "oo"
  refine wpAny_setItem_heap (hsz := hz) (tupleKind_room_in1 hu) (key_of I.hok eb) dd fun h' dd' hs => h _ ?_;obtain ⟨q, es, ep, hq, h2, h3, h4, _, h5⟩ := dd';refine d_write I (by rw [e]; exact True.intro) hs ⟨q, hq⟩ ⟨hl, hd, _, (rel.put k eb rv).keeps fun c ys ec => ?_, q, es, ep, hq, h2, h3, h4, h5⟩
  rw [upd_ne (ne_of ec e (fun z => nomatch z))];exact ec
end
noncomputable def NoSl (i : Expr) : Prop := ∀ ov iv, subscripted i false ov iv = operate [ov, iv] (getItem ov iv)
theorem subD_of {prog : Program} {w : World} {A : Around} {E : Value -> Shared -> Prop} {s : Shared} {env : Env} {value slice : Expr} {pos : Pos} {T id : String} {Q : Value -> Shared -> Prop}
  (hl : typeLookup (.type T) "__getitem__" = pure (some (.builtin id))) (hs : NoSl slice)
  (h : wpAny (model prog w) A (eval value env) (fun o s₁ => wpAny (model prog w) A (eval slice env) (fun i s₂ => s₂.TypeIs o T /\ wpAny (model prog w) A (getItem o i) Q E s₂) E s₁) E s) :
  wpAny (model prog w) A (eval (.Subscript value slice pos) env) Q E s := by
 refine Subscript_ (wpAny_mono h (fun o s₁ h₁ => wpAny_mono h₁ (fun i s₂ h₂ => ?_) fun _ _ x => x) fun _ _ x => x);obtain ⟨hT, h₂⟩ := h₂;unfold subscriptTail;refine wpAny_bind ?_;rw [getitemInPython_of_ne hT.not_modules];refine wpAny_bind (wpAny_specialOf hT hl ?_);have fin : wpAny (model prog w) A (subscripted slice false o i) (fun r s₃ => wpAny (model prog w) A (letTemporaryGo value o r >>= fun _ => pure r) Q E s₃) E s₂ := by
  rw [hs o i];exact wpAny_operating (wpAny_mono h₂ (fun r s₃ h₃ => wpAny_bind (wpAny_letTemporaryGo (wpAny_pure h₃))) fun _ _ x => x)
 first
  | exact wpAny_pure (wpAny_bind fin)
  | exact wpAny_bind (wpAny_pure (wpAny_bind fin))
  | exact wpAny_bind fin
theorem dk_empty {P : Program} {w : World} {H : Hp} (h : Heap) (hb : sysModules < h.objs.size) : ObjOk P w H (h.push { cls := .type "dict", data := .dict #[] }) h.objs.size (.dK []) :=
 ⟨zero_le _, beq_eq_false_iff_ne.mpr (Ne.symm (ne_of_lt hb)), [], .nil, Heap.DictOf.new h⟩
noncomputable def tDNewK : TE := fun _ H Q => ∀ p, H p = none -> Q (.ref p) (upd H p (.dK []))
section
variable {X : Cx} {pos : Pos}
theorem pe_dnewK : PE X (.Dict [] [] pos) tDNewK := fun pins s σ H Q I h =>
 wpAny_Dict_empty ⟨.ref s.heap.objs.size, _, I.laid (a := s.heap.objs.size) (o := .dK []) (t' := s.toks) (fun _ _ q => Heap.get?_push_of_some _ q) (le_refl _) (dk_empty s.heap I.big), rfl, h _ (I.hok.fresh (le_refl _))⟩
end
structure M2 (X : Cx) (o : Expr) (m : Str) (apos : Pos) (e f : Expr) (cpos : Pos) : Prop where
 base : attributeBase o m X.env (eval o X.env) = eval o X.env
 few : ((backTo cpos (starEach [e, f] X.env)).all (fun x => !x.1) && (backToKw cpos (keywordEach [] X.env)).all (fun x => x.1.isSome)
  && decide (([e, f] : List Expr).length + ([] : List Keyword).length + (if ([] : List Keyword).isEmpty then 0 else 1) < 30)) = true
 line : (apos.endLine == cpos.line) = true
 trees : backTo cpos (starEach [e, f] X.env) = [(false, eval e X.env), (false, eval f X.env)]
noncomputable def IsD (H : Hp) (a : Addr) : Prop := (∃ kvs, Rd H a (.dK kvs)) \/ ∃ kvs, Rd H a (.dT kvs)
theorem isD_at {X : Cx} {pins : List (Addr × Obj)} {σ : St} {H : Hp} {s : Shared} {a : Addr} (I : Inv X pins σ H s) (d : IsD H a) :
  s.TypeIs (.ref a) "dict" /\ (∀ b, Value.ref a = .ref b -> ∃ ob, s.heap.get? b = some ob /\ ob.dict = none) /\ (a == sysModules) = false := by
 rcases d with ⟨kvs, e⟩ | ⟨kvs, e⟩
 ·obtain ⟨_, hd, vs, _, dd⟩ := dk_rd I.hok e;refine ⟨dd.typeIs, fun b q => ?_, hd⟩;cases q;obtain ⟨ob, _, _, h1, h2, _⟩ := dd;exact ⟨ob, h1, h2.2.1⟩
 ·obtain ⟨_, hd, xs, _, dd⟩ := dt_rd I.hok e;refine ⟨dd.typeIs, fun b q => ?_, hd⟩;cases q;obtain ⟨ob, _, _, h1, h2, _⟩ := dd;exact ⟨ob, h1, h2.2.1⟩
section
variable {X : Cx} {pins : List (Addr × Obj)} {σ : St} {H : Hp} {s : Shared} {a : Addr} {y d : V} {u r : Value} {o : Option V} {A : Around} {E : Value -> Shared -> Prop}
theorem d_get2 {Q : Value -> Shared -> Prop} (hu : A.units + 1 < cLine) (I : Inv X pins σ H s) (g : DGet H a y o) (ry : RelV y u) (rd : RelV d r) (h : ∀ w' s', Inv X pins σ H s' -> RelV (o.getD d) w' -> Q w' s') :
  wpAny (model X.prog X.w) A (call (.builtin "dict.get") [.ref a, u, r]) Q E s := by
 rcases g with ⟨kvs, k, e, ey, l⟩ | ⟨kvs, k, b, e, ey, eb, l⟩
 ·subst ey;obtain ⟨z, hd, vs, rel, dd⟩ := dk_rd I.hok e;refine call_meetsIn PySem.F.slot_dict_get dd.typeIs PySem.F.entry_dict_get (PySem.F.args_dict_get_3 _ _ _) (meets_dict_get_default (mixKind X.prog X.w) a (kV_is ry) hd r) ⟨_, dd.mapOf, h _ _ (I.tok _) ?_⟩;rw [l];exact (rel.val k).getD rd
 ·subst ey;cases (show u = Value.ref b from ry)
  obtain ⟨z, hd, xs, rel, dd⟩ := dt_rd I.hok e;refine call_meetsIn PySem.F.slot_dict_get dd.typeIs PySem.F.entry_dict_get (PySem.F.args_dict_get_3 _ _ _) (meetsH_dict_get_default (tupleKind (mixKind X.prog X.w)) a b hd r) ⟨tupleKind_room_in1 hu, k, xs, key_of I.hok eb, dd, h _ _ (I.tok _) ?_⟩;rw [l];exact (rel.val k).getD rd
end
end L2
namespace L3
open PySem PySem.Spec PyProof.Rows L2
abbrev St := L2.St
inductive D where
 | non | bl (b : Bool) | int (i : Int) | str (x : Str) | tup (ds : List D) | lst (ds : List D) | fl (ds : List D) | ref (a : Addr) | ty (n : String)
inductive GO where
 | lst (ds : List D)
 | ins (C : Addr) (L : List Str) (ds : List D)
 | dK (kvs : List (Key × D))
 | dT (hw : List Key -> Int) (kvs : List (List Key × D))
abbrev Gp := Addr -> Option GO
noncomputable def gset (G : Gp) (a : Addr) (o : GO) : Gp := fun b => if b = a then some o else G b
noncomputable def gdel (G : Gp) (a : Addr) : Gp := fun b => if b = a then none else G b
theorem gset_same {G : Gp} {a : Addr} {o : GO} : gset G a o a = some o := by unfold gset; rw [if_pos rfl]
theorem gset_ne {G : Gp} {a b : Addr} {o : GO} (h : b ≠ a) : gset G a o b = G b := by unfold gset; rw [if_neg h]
theorem gset_gset {G : Gp} {a : Addr} {o u : GO} : gset (gset G a o) a u = gset G a u := by
 funext b; unfold gset; split <;> rfl
theorem gdel_same {G : Gp} {a : Addr} : gdel G a a = none := by unfold gdel; rw [if_pos rfl]
theorem gdel_ne {G : Gp} {a b : Addr} (h : b ≠ a) : gdel G a b = G b := by unfold gdel; rw [if_neg h]
noncomputable def FzL (K : Frag) (H : Hp) (a : Addr) (xs : List V) : Prop :=
 (∃ o, H a = some (.frz o (.lst xs))) \/
  ∃ (o : Obj) (its : Array Value) (n : Nat), K.lookup a = some o /\ o.cls = .type "list" /\ o.dict = none /\ o.data = .seq its n /\ its.size <= sizeLine /\ Vals xs its.toList
theorem FzL.sq {K : Frag} {H : Hp} {a : Addr} {xs : List V} (h : FzL K H a xs) : SqL K H a xs := by
 rcases h with ⟨o, e⟩ | h
 ·exact .inl (.inr ⟨o, e⟩)
 ·exact .inr h
mutual
noncomputable def RD (K : Frag) (H : Hp) : D -> V -> Prop
 | .non, v => v = .non
 | .bl b, v => v = .bl b
 | .int i, v => v = .int i
 | .str x, v => v = .str x
 | .ref a, v => v = .ref a
 | .ty n, v => v = .ty n
 | .fl _, _ => False
 | .tup ds, v => ∃ a xs, v = .ref a /\ SqT K H a xs /\ RDs K H ds xs
 | .lst ds, v => ∃ a xs, v = .ref a /\ FzL K H a xs /\ RDs K H ds xs
noncomputable def RDs (K : Frag) (H : Hp) : List D -> List V -> Prop
 | [], xs => xs = []
 | d :: ds, xs => ∃ x r, xs = x :: r /\ RD K H d x /\ RDs K H ds r
end
structure Stb (K : Frag) (H H' : Hp) : Prop where
 t : ∀ a xs, SqT K H a xs -> SqT K H' a xs
 l : ∀ a xs, FzL K H a xs -> FzL K H' a xs
mutual
theorem RD.mono {K : Frag} {H H' : Hp} (s : Stb K H H') : ∀ (d : D) (v : V), RD K H d v -> RD K H' d v
 | .non, v, h => by simp only [RD] at h ⊢; exact h
 | .bl b, v, h => by simp only [RD] at h ⊢; exact h
 | .int i, v, h => by simp only [RD] at h ⊢; exact h
 | .str x, v, h => by simp only [RD] at h ⊢; exact h
 | .ref a, v, h => by simp only [RD] at h ⊢; exact h
 | .ty n, v, h => by simp only [RD] at h ⊢; exact h
 | .fl _, v, h => by simp only [RD] at h
 | .tup ds, v, h => by
  simp only [RD] at h ⊢;obtain ⟨a, xs, e, q, r⟩ := h;exact ⟨a, xs, e, s.t _ _ q, RDs.mono s ds xs r⟩
 | .lst ds, v, h => by
  simp only [RD] at h ⊢;obtain ⟨a, xs, e, q, r⟩ := h;exact ⟨a, xs, e, s.l _ _ q, RDs.mono s ds xs r⟩
theorem RDs.mono {K : Frag} {H H' : Hp} (s : Stb K H H') : ∀ (ds : List D) (xs : List V), RDs K H ds xs -> RDs K H' ds xs
 | [], xs, h => by simp only [RDs] at h ⊢; exact h
 | d :: ds, xs, h => by
  simp only [RDs] at h ⊢;obtain ⟨x, r, e, h1, h2⟩ := h;exact ⟨x, r, e, RD.mono s d x h1, RDs.mono s ds r h2⟩
end
section
variable {K : Frag} {H : Hp}
theorem RDs.nil : RDs K H [] [] := by simp only [RDs]
theorem RDs.cons {d : D} {x : V} {ds : List D} {xs : List V} (h : RD K H d x) (t : RDs K H ds xs) : RDs K H (d :: ds) (x :: xs) := by
 simp only [RDs]; exact ⟨x, xs, rfl, h, t⟩
theorem RDs.inv_nil {xs : List V} (h : RDs K H [] xs) : xs = [] := by simpa only [RDs] using h
theorem RDs.inv_cons {d : D} {ds : List D} {xs : List V} (h : RDs K H (d :: ds) xs) : ∃ x r, xs = x :: r /\ RD K H d x /\ RDs K H ds r := by simpa only [RDs] using h
theorem RDs.length : ∀ {ds : List D} {xs : List V}, RDs K H ds xs -> ds.length = xs.length
 | [], xs, h => by rw [h.inv_nil]; rfl
 | d :: ds, xs, h => by
  obtain ⟨x, r, e, _, h2⟩ := h.inv_cons;subst e;simp [RDs.length h2]
theorem RDs.get : ∀ {ds : List D} {xs : List V} {i : Nat} {d : D}, RDs K H ds xs -> ds[i]? = some d -> ∃ x, xs[i]? = some x /\ RD K H d x
 | [], xs, i, d, h, e => by simp at e
 | c :: ds, xs, 0, d, h, e => by
  obtain ⟨x, r, e1, h1, h2⟩ := h.inv_cons;subst e1;simp at e; subst e;exact ⟨x, rfl, h1⟩
 | c :: ds, xs, i + 1, d, h, e => by
  obtain ⟨x, r, e1, h1, h2⟩ := h.inv_cons;subst e1;obtain ⟨y, q1, q2⟩ := RDs.get (i := i) (d := d) h2 (by simpa using e)
  exact ⟨y, by simpa using q1, q2⟩
theorem RDs.append : ∀ {ds es : List D} {xs ys : List V}, RDs K H ds xs -> RDs K H es ys -> RDs K H (ds ++ es) (xs ++ ys)
 | [], es, xs, ys, h, h' => by rw [h.inv_nil]; exact h'
 | d :: ds, es, xs, ys, h, h' => by
  obtain ⟨x, r, e, h1, h2⟩ := h.inv_cons;subst e;exact RDs.cons h1 (RDs.append h2 h')
theorem RDs.take : ∀ {ds : List D} {xs : List V} (n : Nat), RDs K H ds xs -> RDs K H (ds.take n) (xs.take n)
 | _, _, 0, _ => by simp only [take_zero]; exact RDs.nil
 | [], xs, n + 1, h => by rw [h.inv_nil]; simp only [List.take_nil]; exact RDs.nil
 | d :: ds, xs, n + 1, h => by
  obtain ⟨x, r, e, h1, h2⟩ := h.inv_cons;subst e;exact RDs.cons h1 (RDs.take n h2)
theorem RDs.drop : ∀ {ds : List D} {xs : List V} (n : Nat), RDs K H ds xs -> RDs K H (ds.drop n) (xs.drop n)
 | _, _, 0, h => by simpa only [drop_zero] using h
 | [], xs, n + 1, h => by rw [h.inv_nil]; simp only [List.drop_nil]; exact RDs.nil
 | d :: ds, xs, n + 1, h => by
  obtain ⟨x, r, e, h1, h2⟩ := h.inv_cons;subst e;exact RDs.drop n h2
theorem RDs.set : ∀ {ds : List D} {xs : List V} {d : D} {x : V} (n : Nat), RDs K H ds xs -> RD K H d x -> RDs K H (ds.set n d) (xs.set n x)
 | [], xs, d, x, n, h, _ => by rw [h.inv_nil]; simp only [List.set_nil]; exact RDs.nil
 | c :: ds, xs, d, x, 0, h, h' => by
  obtain ⟨y, r, e, h1, h2⟩ := h.inv_cons;subst e;exact RDs.cons h' h2
 | c :: ds, xs, d, x, n + 1, h, h' => by
  obtain ⟨y, r, e, h1, h2⟩ := h.inv_cons;subst e;exact RDs.cons h1 (RDs.set n h2 h')
theorem RDs.reverse : ∀ {ds : List D} {xs : List V}, RDs K H ds xs -> RDs K H ds.reverse xs.reverse
 | [], xs, h => by rw [h.inv_nil]; exact RDs.nil
 | d :: ds, xs, h => by
  obtain ⟨x, r, e, h1, h2⟩ := h.inv_cons;subst e;rw [List.reverse_cons, List.reverse_cons];exact RDs.append (RDs.reverse h2) (RDs.cons h1 RDs.nil)
theorem RDs.ints : ∀ ns : List Int, RDs K H (ns.map D.int) (ns.map V.int)
 | [] => RDs.nil
 | n :: r => RDs.cons (by simp only [RD]) (RDs.ints r)
theorem RDs.strs : ∀ ns : List Str, RDs K H (ns.map D.str) (ns.map V.str)
 | [] => RDs.nil
 | n :: r => RDs.cons (by simp only [RD]) (RDs.strs r)
end
noncomputable def DTf (hw : List Key -> Int) (a : Addr) (xs : List (List Key × Addr × Value)) : Heap -> Prop := fun h => (a == sysModules) = false /\ ∃ o es ep, h.get? a = some o /\ o.ExactDict /\ o.data = .dict es ep /\ es.toList = xs.map fun x => (⟨hw x.1, .ref x.2.1, x.2.2⟩ : DictEntry)
noncomputable def RTs (K : Frag) (H : Hp) : List (List Key × D) -> List (List Key × Addr × Value) -> Prop := Paired fun p q => p.1 = q.1 /\ SqT K H q.2.1 (p.1.map kV) /\ ∃ v, RD K H p.2 v /\ RelV v q.2.2
noncomputable def RKs (K : Frag) (H : Hp) : List (Key × D) -> List (Key × V) -> Prop := Paired fun p q => p.1 = q.1 /\ RD K H p.2 q.2
noncomputable def RO (K : Frag) (H : Hp) (a : Addr) : GO -> HO -> Prop
 | .lst ds, .lst xs => RDs K H ds xs
 | .ins C L ds, .ins C' _ gs => C' = C /\ gs.map (·.1) = L /\ RDs K H ds (gs.map (·.2))
 | .dK kvs, .dK hs => RKs K H kvs hs
 | .dT hw kvs, .ext φ => ∃ xs, φ = DTf hw a xs /\ RTs K H kvs xs /\ (kvs.map (·.1)).Nodup /\ kvs.length <= sizeLine
 | _, _ => False
noncomputable def RG (K : Frag) (H : Hp) (G : Gp) : Prop := ∀ a o, G a = some o -> ∃ h, H a = some h /\ RO K H a o h
noncomputable def Kp (G : Gp) (H : Hp) (G' : Gp) (H' : Hp) : Prop := ∀ a h, H a = some h -> G a = none -> H' a = some h /\ G' a = none
noncomputable def Fr3 (G : Gp) (H : Hp) (p : Addr) : Prop := ∀ h, H p = some h -> G p ≠ none
section
variable {K : Frag} {H H' H1 H2 : Hp} {G G' G1 G2 : Gp} {p : Addr}
theorem RTs.mono (s : Stb K H H') {kvs : List (List Key × D)} {xs : List (List Key × Addr × Value)} (r : RTs K H kvs xs) : RTs K H' kvs xs := Paired.mapP r fun _ _ zz => by
 obtain ⟨a, b, v, c, d⟩ := zz;exact (
  ⟨a, s.t _ _ b, v, RD.mono s _ _ c, d⟩)
theorem RKs.mono (s : Stb K H H') {kvs : List (Key × D)} {xs : List (Key × V)} (r : RKs K H kvs xs) : RKs K H' kvs xs := Paired.mapP r fun _ _ zz => by
 obtain ⟨a, b⟩ := zz;exact (
  ⟨a, RD.mono s _ _ b⟩)
theorem RO.mono (s : Stb K H H') {a : Addr} {o : GO} {h : HO} (r : RO K H a o h) : RO K H' a o h := by
 cases o <;> cases h <;> first
  | exact r.elim
  | exact RDs.mono s _ _ r
  | exact ⟨r.1, r.2.1, RDs.mono s _ _ r.2.2⟩
  | exact RKs.mono s r
  | (obtain ⟨xs, e, q, n⟩ := r; exact ⟨xs, e, q.mono s, n⟩)
theorem RG.none_of (rg : RG K H G) {a : Addr} {h : HO} (e : H a = some h) (n : ∀ o, ¬ RO K H a o h) : G a = none := by
 cases q : G a with
 | none => rfl
 | some o =>
  obtain ⟨h', e', r⟩ := rg a o q;rw [e] at e'; cases e';exact absurd r (n o)
theorem RG.free (rg : RG K H G) (e : H p = none) : G p = none := by
 cases q : G p with
 | none => rfl
 | some o =>
  obtain ⟨h', e', r⟩ := rg p o q;rw [e] at e'; cases e'
theorem no_tup {a : Addr} (o : GO) (xs : List V) : ¬ RO K H a o (.tup xs) := by cases o <;> exact id
theorem no_frz {a : Addr} (o : GO) (ob : Obj) (u : HO) : ¬ RO K H a o (.frz ob u) := by cases o <;> exact id
theorem Kp.refl : Kp G H G H := fun _ _ e n => ⟨e, n⟩
theorem Kp.trans (a : Kp G H G1 H1) (b : Kp G1 H1 G2 H2) : Kp G H G2 H2 := fun x h e n => b x h (a x h e n).1 (a x h e n).2
theorem Kp.stb (k : Kp G H G' H') (rg : RG K H G) : Stb K H H' where
 t := fun a xs q => by
  rcases q with (q | ⟨o, q⟩) | q
  ·exact .inl (.inl (k a _ q (rg.none_of q fun o => no_tup o xs)).1)
  ·exact .inl (.inr ⟨o, (k a _ q (rg.none_of q fun o' => no_frz o' o _)).1⟩)
  ·exact .inr q
 l := fun a xs q => by
  rcases q with ⟨o, q⟩ | q
  ·exact .inl ⟨o, (k a _ q (rg.none_of q fun o' => no_frz o' o _)).1⟩
  ·exact .inr q
theorem Kp.fr (k : Kp G H G1 H1) (f : Fr3 G1 H1 p) : Fr3 G H p := fun h e n => f h (k p h e n).1 (k p h e n).2
theorem fr_none (e : H p = none) : Fr3 G H p := fun h q => by rw [e] at q; cases q
theorem Kp.laid {o : HO} (e : H p = none) : Kp G H G (upd H p o) := fun a h q n => ⟨by rw [upd_ne (ne_of_none q e)]; exact q, n⟩
theorem RG.laid {o : HO} (rg : RG K H G) (e : H p = none) : RG K (upd H p o) G := fun a o' q => by
 obtain ⟨h, e1, r⟩ := rg a o' q;exact ⟨h, by rw [upd_ne (ne_of_none e1 e)]; exact e1, r.mono ((Kp.laid (G := G) e).stb rg)⟩
end
abbrev St3 := List (Option D)
noncomputable def RSo (K : Frag) (H : Hp) : Option D -> Option V -> Prop
 | some d, some v => RD K H d v
 | none, _ => True
 | some _, none => False
noncomputable def RS (K : Frag) (H : Hp) (σ : St3) (τ : St) : Prop := Paired (RSo K H) σ τ
section
variable {K : Frag} {H H' : Hp}
theorem RSo.mono (s : Stb K H H') : ∀ {a : Option D} {b : Option V}, RSo K H a b -> RSo K H' a b
 | some d, some v, r => RD.mono s d v r
 | none, _, _ => trivial
 | some _, none, r => r.elim
theorem RS.mono (s : Stb K H H') {σ : St3} {τ : St} (r : RS K H σ τ) : RS K H' σ τ := Paired.mapP r fun _ _ q => q.mono s
theorem RS.get : ∀ {σ : St3} {τ : St} {i : Nat} {d : D}, RS K H σ τ -> σ[i]? = some (some d) -> ∃ v, τ[i]? = some (some v) /\ RD K H d v
 | _, _, _, _, .nil, e => by simp at e
 | _, _, 0, d, .cons (b := b) r _, e => by
  simp at e; subst e;cases b with
  | none => exact r.elim
  | some v => exact ⟨v, rfl, r⟩
 | _, _, i + 1, d, .cons _ t, e => by
  obtain ⟨v, h1, h2⟩ := RS.get (i := i) (d := d) t (by simpa using e)
  exact ⟨v, by simpa using h1, h2⟩
theorem RS.set {d : D} {v : V} (r : RD K H d v) : ∀ {σ : St3} {τ : St} (i : Nat), RS K H σ τ -> RS K H (σ.set i (some d)) (τ.set i (some v))
 | _, _, _, .nil => .nil
 | _, _, 0, .cons _ t => .cons (show RSo K H (some d) (some v) from r) t
 | _, _, i + 1, .cons q t => .cons q (RS.set r i t)
end
noncomputable def RE (K : Frag) (G : Gp) (H : Hp) (G' : Gp) (H' : Hp) (d : D) (v : V) : Prop :=
 (∃ ds p xs, d = .fl ds /\ v = .ref p /\ H' p = some (.lst xs) /\ G' p = none /\ RDs K H' ds xs /\ Fr3 G H p) \/ RD K H' d v
section
variable {K : Frag} {H H' H1 H2 : Hp} {G G' G1 G2 : Gp} {d : D} {v : V}
theorem RE.of (r : RD K H' d v) : RE K G H G' H' d v := .inr r
theorem RE.wait (r : RE K G H G1 H1 d v) (k : Kp G1 H1 G2 H2) (rg : RG K H1 G1) : RE K G H G2 H2 d v := by
 rcases r with ⟨ds, p, xs, e1, e2, e3, e4, e5, e6⟩ | r
 ·exact .inl ⟨ds, p, xs, e1, e2, (k p _ e3 e4).1, (k p _ e3 e4).2, RDs.mono (k.stb rg) _ _ e5, e6⟩
 ·exact .inr (RD.mono (k.stb rg) _ _ r)
theorem RE.base (r : RE K G1 H1 G2 H2 d v) (k : Kp G H G1 H1) : RE K G H G2 H2 d v := by
 rcases r with ⟨ds, p, xs, e1, e2, e3, e4, e5, e6⟩ | r
 ·exact .inl ⟨ds, p, xs, e1, e2, e3, e4, e5, k.fr e6⟩
 ·exact .inr r
theorem RE.rd (r : RE K G H G' H' d v) (h : ∀ ds, d ≠ .fl ds) : RD K H' d v := by
 rcases r with ⟨ds, p, xs, e1, _⟩ | r
 ·exact absurd e1 (h ds)
 ·exact r
theorem RE.int {i : Int} (r : RE K G H G' H' (.int i) v) : v = .int i := by
 have := r.rd (by intro ds h; cases h); simpa only [RD] using this
theorem RE.str {i : Str} (r : RE K G H G' H' (.str i) v) : v = .str i := by
 have := r.rd (by intro ds h; cases h); simpa only [RD] using this
theorem RE.bl {i : Bool} (r : RE K G H G' H' (.bl i) v) : v = .bl i := by
 have := r.rd (by intro ds h; cases h); simpa only [RD] using this
theorem RE.non (r : RE K G H G' H' .non v) : v = .non := by
 have := r.rd (by intro ds h; cases h); simpa only [RD] using this
theorem RE.ref {a : Addr} (r : RE K G H G' H' (.ref a) v) : v = .ref a := by
 have := r.rd (by intro ds h; cases h); simpa only [RD] using this
theorem RE.tup {ds : List D} (r : RE K G H G' H' (.tup ds) v) : ∃ a xs, v = .ref a /\ SqT K H' a xs /\ RDs K H' ds xs := by
 have := r.rd (by intro ds h; cases h); simpa only [RD] using this
theorem RE.lst {ds : List D} (r : RE K G H G' H' (.lst ds) v) : ∃ a xs, v = .ref a /\ FzL K H' a xs /\ RDs K H' ds xs := by
 have := r.rd (by intro ds h; cases h); simpa only [RD] using this
theorem RE.fl {ds : List D} (r : RE K G H G' H' (.fl ds) v) : ∃ p xs, v = .ref p /\ H' p = some (.lst xs) /\ G' p = none /\ RDs K H' ds xs /\ Fr3 G H p := by
 rcases r with ⟨ds', p, xs, e1, e2, e3, e4, e5, e6⟩ | r
 ·cases e1; exact ⟨p, xs, e2, e3, e4, e5, e6⟩
 ·simp only [RD] at r
theorem rd_int {i : Int} : RD K H (.int i) (.int i) := by simp only [RD]
theorem rd_str {i : Str} : RD K H (.str i) (.str i) := by simp only [RD]
theorem rd_bl {i : Bool} : RD K H (.bl i) (.bl i) := by simp only [RD]
theorem rd_non : RD K H .non .non := by simp only [RD]
theorem rd_ref {a : Addr} : RD K H (.ref a) (.ref a) := by simp only [RD]
theorem rd_tup {ds : List D} {xs : List V} {a : Addr} (h : SqT K H a xs) (r : RDs K H ds xs) : RD K H (.tup ds) (.ref a) := by
 simp only [RD]; exact ⟨a, xs, rfl, h, r⟩
theorem rd_lst {ds : List D} {xs : List V} {a : Addr} (h : FzL K H a xs) (r : RDs K H ds xs) : RD K H (.lst ds) (.ref a) := by
 simp only [RD]; exact ⟨a, xs, rfl, h, r⟩
end
noncomputable def asL (G : Gp) : D -> Option (List D)
 | .lst ds => some ds
 | .fl ds => some ds
 | .ref a => match G a with
  | some (.lst ds) => some ds
  | _ => none
 | _ => none
noncomputable def asQ (G : Gp) : D -> Option (List D)
 | .tup ds => some ds
 | d => asL G d
section
variable {K : Frag} {H H' : Hp} {G G' : Gp} {d : D} {v : V} {ds : List D}
theorem asL_sq (h : asL G' d = some ds) (r : RE K G H G' H' d v) (rg : RG K H' G') : ∃ a xs, v = .ref a /\ SqL K H' a xs /\ RDs K H' ds xs := by
 cases d with
 | lst es =>
  obtain ⟨a, xs, e, f, q⟩ := r.lst;simp only [asL, Option.some.injEq] at h;subst h;exact ⟨a, xs, e, f.sq, q⟩
 | fl es =>
  obtain ⟨a, xs, e, f, _, q, _⟩ := r.fl;simp only [asL, Option.some.injEq] at h;subst h;exact ⟨a, xs, e, SqL.of f, q⟩
 | ref a =>
  have e := r.ref;simp only [asL] at h;cases q : G' a with
  | none => rw [q] at h; cases h
  | some o =>
   rw [q] at h;cases o with
   | ins _ _ _ => cases h
   | dK _ => cases h
   | dT _ _ => cases h
   | lst es =>
    simp only [Option.some.injEq] at h;subst h;obtain ⟨ho, e1, e2⟩ := rg a _ q;cases ho with
    | lst xs => exact ⟨a, xs, e, SqL.of e1, e2⟩
    | _ => exact e2.elim
 | _ => simp [asL] at h
theorem asQ_sq (h : asQ G' d = some ds) (r : RE K G H G' H' d v) (rg : RG K H' G') : ∃ a xs, v = .ref a /\ (SqL K H' a xs \/ SqT K H' a xs) /\ RDs K H' ds xs := by
 cases d with
 | tup es =>
  obtain ⟨a, xs, e, f, q⟩ := r.tup;simp only [asQ, Option.some.injEq] at h;subst h;exact ⟨a, xs, e, .inr f, q⟩
 | _ =>
  obtain ⟨a, xs, e, f, q⟩ := asL_sq (by simpa only [asQ] using h) r rg
  exact ⟨a, xs, e, .inl f, q⟩
theorem fl_new {xs : List V} {p : Addr} (rg : RG K H G) (e : H p = none) (r : RDs K H ds xs) : RE K G H G (upd H p (.lst xs)) (.fl ds) (.ref p) :=
 .inl ⟨ds, p, xs, rfl, rfl, upd_same, rg.free e, RDs.mono ((Kp.laid (G := G) e).stb rg) _ _ r, fr_none e⟩
theorem tup_new {xs : List V} {p : Addr} (rg : RG K H G) (e : H p = none) (r : RDs K H ds xs) : RD K (upd H p (.tup xs)) (.tup ds) (.ref p) :=
 rd_tup (SqT.of upd_same) (RDs.mono ((Kp.laid (G := G) e).stb rg) _ _ r)
end
end L3
namespace L2
open PySem PySem.Spec PyProof.Rows
section
variable {X : Cx}
theorem PE.imp {e : Expr} {t t' : TE} (h : PE X e t) (i : ∀ σ H Q, t' σ H Q -> t σ H Q) : PE X e t' := fun pins s σ H Q I q => h pins s σ H Q I (i σ H Q q)
theorem PT.imp {e : Expr} {t t' : TT} (h : PT X e t) (i : ∀ σ H Q, t' σ H Q -> t σ H Q) : PT X e t' := fun pins s σ H Q I q => h pins s σ H Q I (i σ H Q q)
theorem PW.imp {e : Expr} {t t' : TT} (h : PW X e t) (i : ∀ σ H Q, t' σ H Q -> t σ H Q) : PW X e t' := fun wh pins s σ H Q I q => h wh pins s σ H Q I (i σ H Q q)
theorem PA.imp {es : List Expr} {t t' : TA} (h : PA X es t) (i : ∀ σ H Q, t' σ H Q -> t σ H Q) : PA X es t' := fun pos pins s σ H Q I q => h pos pins s σ H Q I (i σ H Q q)
theorem PS.imp {e : Stmt} {t t' : TS} (h : PS X e t) (i : ∀ D σ H, t' D σ H -> t D σ H) : PS X e t' := fun pins s σ H D I q => h pins s σ H D I (i D σ H q)
theorem PSs.imp {e : List Stmt} {t t' : TS} (h : PSs X e t) (i : ∀ D σ H, t' D σ H -> t D σ H) : PSs X e t' := fun pins s σ H D I q => h pins s σ H D I (i D σ H q)
theorem OpR.imp {f : Value -> Value -> Sem Value} {r r' : R2} (h : OpR X f r) (i : ∀ x y H Q, r' x y H Q -> r x y H Q) : OpR X f r' := fun pins s σ H x y v u Q I rx ry q => h pins s σ H x y v u Q I rx ry (i x y H Q q)
theorem CallR.imp {f : Value} {r r' : List V -> Hp -> VK -> Prop} (h : CallR X f r) (i : ∀ xs H Q, r' xs H Q -> r xs H Q) : CallR X f r' := fun pins s σ H xs us Q I r q => h pins s σ H xs us Q I r (i xs H Q q)
theorem SlR.imp {r r' : V -> Option Int -> Option Int -> Hp -> VK -> Prop} (h : SlR X r) (i : ∀ x lo hi H Q, r' x lo hi H Q -> r x lo hi H Q) : SlR X r' := fun pins s σ H x v vl vu lo hi sl Q I rx hs pl pu q => h pins s σ H x v vl vu lo hi sl Q I rx hs pl pu (i x lo hi H Q q)
theorem IxR.imp {r r' : R2} (h : IxR X r) (i : ∀ x y H Q, r' x y H Q -> r x y H Q) : IxR X r' := fun value slice pins s σ H x y v u Q I rx ry q hs => h value slice pins s σ H x y v u Q I rx ry (i x y H Q q) hs
theorem Inv.freeze {pins : List (Addr × Obj)} {σ : St} {H : Hp} {s : Shared} {p : Addr} {xs : List V} (I : Inv X pins σ H s) (e : H p = some (.lst xs)) : ∃ o, Inv X pins σ (upd H p (.frz o (.lst xs))) s := by
 obtain ⟨its, n, rv, ho, hz⟩ := I.lst e;have stay : ∀ b, H b = none -> (upd H p (.frz { cls := .type "list", data := .seq its.toArray n } (.lst xs))) b = none := fun b hb => by
  rw [upd_ne (fun z => by subst z; rw [hb] at e; cases e)]; exact hb
 refine ⟨{ cls := .type "list", data := .seq its.toArray n }, ⟨I.ok, I.os, I.bare, ⟨I.base.keep, I.base.slot, fun b o h1 h2 h3 => stay b (I.base.free b o h1 h2 h3), I.base.there, fun b ys q => ?_, fun b o u q => ?_, fun b ps q => ?_⟩, I.loc, I.cell, stay _ I.free, fun x c hc => stay c (I.freeC x c hc), fun q hq => ?_, fun b u q => ?_, I.len⟩⟩
 ·have q' := I.base.tups b ys q;rw [upd_ne (fun z => by subst z; rw [e] at q'; cases q')]; exact q'
 ·have q' := I.base.frzs b o u q;rw [upd_ne (fun z => by subst z; rw [e] at q'; cases q')]; exact q'
 ·obtain ⟨more, q'⟩ := I.base.tbls b ps q;exact ⟨more, by rw [upd_ne (fun z => by subst z; rw [e] at q'; cases q')]; exact q'⟩
 ·obtain ⟨h1, h2, h3⟩ := I.pin q hq;exact ⟨h1, stay _ h2, h3⟩
 ·by_cases hb : b = p
  ·subst hb;rw [upd_same] at q; cases q;exact ⟨ho, hz, its, n, rv, ho⟩
  ·rw [upd_ne hb] at q;refine (I.hok b u q).stay (fun _ _ _ z => z) (fun c z => ?_) fun c ys z => ?_
   ·rw [upd_ne (fun y => by subst y; rw [e] at z; cases z)]; exact z
   ·rw [upd_ne (fun y => by subst y; rw [e] at z; cases z)]; exact z
noncomputable def gh (t : TE) : TE := fun σ H Q => t σ H fun v H1 => Q v H1 \/ ∃ p xs, v = .ref p /\ H1 p = some (.lst xs) /\ ∀ o, Q v (upd H1 p (.frz o (.lst xs)))
theorem pe_gh {e : Expr} {t : TE} (h : PE X e t) : PE X e (gh t) := fun pins s σ H Q I q =>
 thn (h pins s σ H _ I q) fun u s' zz => by
  obtain ⟨v, H', I', r, q'⟩ := zz;rcases q' with q' | ⟨p, xs, rfl, e, q'⟩
  ·exact ⟨v, H', I', r, q'⟩
  ·obtain ⟨o, I2⟩ := I'.freeze e;exact ⟨.ref p, _, I2, r, q' o⟩
end
end L2
namespace L3
open PySem PySem.Spec PyProof.Rows L2
abbrev VK3 := D -> Gp -> Prop
abbrev TE3 := St3 -> Gp -> VK3 -> Prop
abbrev TT3 := St3 -> Gp -> (Bool -> Gp -> Prop) -> Prop
abbrev TA3 := St3 -> Gp -> (List D -> Gp -> Prop) -> Prop
set_option genInjectivity false in
structure Ends3 where
 nx : St3 -> Gp -> Prop
 rt : VK3
 bk : St3 -> Gp -> Prop := fun _ _ => False
 ct : St3 -> Gp -> Prop := fun _ _ => False
abbrev TS3 := Ends3 -> St3 -> Gp -> Prop
noncomputable def Fin3 (K : Frag) (G : Gp) (H : Hp) (Q3 : VK3) (Q : VK) : Prop := ∀ d G' v H', Q3 d G' -> Kp G H G' H' -> RG K H' G' -> RE K G H G' H' d v -> Q v H'
noncomputable def lift (K : Frag) (t : TE3) : TE := fun τ H Q => ∃ σ G Q3, RS K H σ τ /\ RG K H G /\ t σ G Q3 /\ Fin3 K G H Q3 Q
noncomputable def liftT (K : Frag) (t : TT3) : TT := fun τ H Q => ∃ σ G Q3, RS K H σ τ /\ RG K H G /\ t σ G Q3 /\ ∀ b G' H', Q3 b G' -> Kp G H G' H' -> RG K H' G' -> Q b H'
noncomputable def liftA (K : Frag) (t : TA3) : TA := fun τ H Q => ∃ σ G Q3, RS K H σ τ /\ RG K H G /\ t σ G Q3 /\ ∀ ds G' vs H', Q3 ds G' -> Kp G H G' H' -> RG K H' G' -> RDs K H' ds vs -> Q vs H'
structure EndsOk (K : Frag) (G : Gp) (H : Hp) (D3 : Ends3) (D : Ends) : Prop where
 nx : ∀ σ G' τ H', D3.nx σ G' -> Kp G H G' H' -> RG K H' G' -> RS K H' σ τ -> D.nx τ H'
 rt : Fin3 K G H D3.rt D.rt
 bk : ∀ σ G' τ H', D3.bk σ G' -> Kp G H G' H' -> RG K H' G' -> RS K H' σ τ -> D.bk τ H'
 ct : ∀ σ G' τ H', D3.ct σ G' -> Kp G H G' H' -> RG K H' G' -> RS K H' σ τ -> D.ct τ H'
noncomputable def liftS (K : Frag) (t : TS3) : TS := fun D τ H => ∃ σ G D3, RS K H σ τ /\ RG K H G /\ t D3 σ G /\ EndsOk K G H D3 D
theorem Fin3.base {K : Frag} {G G1 : Gp} {H H1 : Hp} {Q3 : VK3} {Q : VK} (f : Fin3 K G H Q3 Q) (k : Kp G H G1 H1) : Fin3 K G1 H1 Q3 Q :=
 fun d G' v H' q k' rg re => f d G' v H' q (k.trans k') rg (re.base k)
theorem EndsOk.base {K : Frag} {G G1 : Gp} {H H1 : Hp} {D3 : Ends3} {D : Ends} (f : EndsOk K G H D3 D) (k : Kp G H G1 H1) : EndsOk K G1 H1 D3 D :=
 ⟨fun σ G' τ H' q k' => f.nx σ G' τ H' q (k.trans k'), f.rt.base k, fun σ G' τ H' q k' => f.bk σ G' τ H' q (k.trans k'), fun σ G' τ H' q k' => f.ct σ G' τ H' q (k.trans k')⟩
noncomputable def val : D -> D
 | .fl ds => .lst ds
 | d => d
noncomputable def liftV (K : Frag) (t : TE3) : TE := fun τ H Q => ∃ σ G Q3, RS K H σ τ /\ RG K H G /\ t σ G Q3 /\ ∀ d G' v H', Q3 d G' -> Kp G H G' H' -> RG K H' G' -> RD K H' (val d) v -> Q v H'
section
variable {X : Cx} {e : Expr} {t : TE3}
theorem frz_kp {K : Frag} {G G' : Gp} {H H' : Hp} {p : Addr} {o : HO} (k : Kp G H G' H') (f : Fr3 G H p) : Kp G H G' (upd H' p o) := fun a h e n => by
 have : a ≠ p := fun z => by subst z; exact f h e n
 exact ⟨by rw [upd_ne this]; exact (k a h e n).1, (k a h e n).2⟩
theorem frz_rg {K : Frag} {G' : Gp} {H' : Hp} {p : Addr} {xs : List V} {o : Obj} (rg : RG K H' G') (e : H' p = some (.lst xs)) (n : G' p = none) : RG K (upd H' p (.frz o (.lst xs))) G' /\ Stb K H' (upd H' p (.frz o (.lst xs))) := by
 have st : Stb K H' (upd H' p (.frz o (.lst xs))) := by
  constructor
  ·intro a ys q;rcases q with (q | ⟨ob, q⟩) | q
   ·exact .inl (.inl (by rw [upd_ne (fun z => by subst z; rw [e] at q; cases q)]; exact q))
   ·exact .inl (.inr ⟨ob, by rw [upd_ne (fun z => by subst z; rw [e] at q; cases q)]; exact q⟩)
   ·exact .inr q
  ·intro a ys q;rcases q with ⟨ob, q⟩ | q
   ·exact .inl ⟨ob, by rw [upd_ne (fun z => by subst z; rw [e] at q; cases q)]; exact q⟩
   ·exact .inr q
 refine ⟨fun a o' q => ?_, st⟩;obtain ⟨h, e1, r⟩ := rg a o' q;exact ⟨h, by rw [upd_ne (fun z => by subst z; rw [n] at q; cases q)]; exact e1, r.mono st⟩
theorem pe_val (h : PE X e (lift X.K t)) : PE X e (liftV X.K t) := (pe_gh h).imp fun τ H Q zz => by
 obtain ⟨σ, G, Q3, rs, rg, ht, hk⟩ := zz;refine ⟨σ, G, Q3, rs, rg, ht, fun d G' v H' q k rg' re => ?_⟩;cases d with
 | fl ds =>
  obtain ⟨p, xs, rfl, e1, e2, e3, e4⟩ := re.fl;refine .inr ⟨p, xs, rfl, e1, fun o => ?_⟩;obtain ⟨rg2, st⟩ := frz_rg (o := o) rg' e1 e2;exact hk _ G' _ _ q (frz_kp (K := X.K) k e4) rg2 (rd_lst (.inl ⟨o, upd_same⟩) (RDs.mono st _ _ e3))
 | _ => exact .inl (hk _ G' v H' q k rg' (re.rd (by intro ds z; cases z)))
end
noncomputable def sNil : TS3 := fun D σ G => D.nx σ G
noncomputable def sSeq (t u : TS3) : TS3 := fun D σ G => t { D with nx := u D } σ G
section
variable {X : Cx} {st : Stmt} {rest : List Stmt} {t u : TS3} {e : Expr} {te : TE3} {pos : Pos}
theorem q_nil : PSs X [] (liftS X.K sNil) := pss_nil.imp fun D τ H zz => by
 obtain ⟨σ, G, D3, rs, rg, h, k⟩ := zz;exact (
  k.nx σ G τ H h Kp.refl rg rs)
theorem q_cons (h1 : PS X st (liftS X.K t)) (h2 : PSs X rest (liftS X.K u)) : PSs X (st :: rest) (liftS X.K (sSeq t u)) := (pss_cons h1 h2).imp fun D τ H zz => by
 obtain ⟨σ, G, D3, rs, rg, h, k⟩ := zz;exact (
   ⟨σ, G, { D3 with nx := u D3 }, rs, rg, h, ⟨fun σ' G' τ' H' q k' rg' rs' => ⟨σ', G', D3, rs', rg', q, k.base k'⟩, k.rt, k.bk, k.ct⟩⟩)
theorem q_one (h1 : PS X st (liftS X.K t)) : PSs X [st] (liftS X.K t) := pss_one h1
noncomputable def sDrop (te : TE3) : TS3 := fun D σ G => te σ G fun _ G' => D.nx σ G'
theorem q_expr (he : PE X e (lift X.K te)) (hs : swapsWith e none pos.line X.env = pure false := by rfl) : PS X (.Expr e pos) (liftS X.K (sDrop te)) := (ps_expr he hs).imp fun D τ H zz => by
 obtain ⟨σ, G, D3, rs, rg, h, k⟩ := zz;exact (
   ⟨σ, G, fun _ G' => D3.nx σ G', rs, rg, h, fun d G' v H' q k' rg' _ => k.nx σ G' τ H' q k' rg' (rs.mono (k'.stb rg))⟩)
noncomputable def sRet (te : TE3) : TS3 := fun D σ G => te σ G D.rt
theorem q_ret (he : PE X e (lift X.K te)) : PS X (.Return (some e) pos) (liftS X.K (sRet te)) := (ps_ret he).imp fun D τ H zz => by
 obtain ⟨σ, G, D3, rs, rg, h, k⟩ := zz;exact (
  ⟨σ, G, D3.rt, rs, rg, h, k.rt⟩)
noncomputable def sRetN : TS3 := fun D _ G => D.rt .non G
noncomputable def sBreak : TS3 := fun D σ G => D.bk σ G
noncomputable def sCont : TS3 := fun D σ G => D.ct σ G
noncomputable def sIf (c : TT3) (t u : TS3) : TS3 := fun D σ G => c σ G fun b G' => if b = true then t D σ G' else u D σ G'
theorem q_if {c : Expr} {a b : List Stmt} {tc : TT3} (hc : PT X c (liftT X.K tc)) (ha : PSs X a (liftS X.K t)) (hb : PSs X b (liftS X.K u)) : PS X (.If c a b pos) (liftS X.K (sIf tc t u)) :=
 (ps_if hc ha hb).imp fun D τ H zz => by
 obtain ⟨σ, G, D3, rs, rg, h, k⟩ := zz;exact (
  ⟨σ, G, _, rs, rg, h, fun b G' H' q k' rg' => by
    cases b with
    | true => exact ⟨σ, G', D3, rs.mono (k'.stb rg), rg', q, k.base k'⟩
    | false => exact ⟨σ, G', D3, rs.mono (k'.stb rg), rg', q, k.base k'⟩⟩)
noncomputable def sNever : TS3 := fun _ _ _ => False
noncomputable def sSet (i : Nat) (te : TE3) : TS3 := fun D σ G => te σ G fun d G' => D.nx (σ.set i (some (val d))) G'
theorem q_set {i : Nat} {x : Str} {pos' : Pos} (hN : X.N.Nodup) (hi : X.N[i]? = some x) (hx : Loc X.env.scope x) (he : PE X e (lift X.K te)) (hs : swapsWith e (some (.Name x pos')) pos.line X.env = pure false := by rfl)
  (hf : X.fn x = true \/ X.env.scope.names.lookup x = some .local := by first | exact .inl rfl | exact .inr rfl | assumption) : PS X (.Assign [.Name x pos'] e pos) (liftS X.K (sSet i te)) :=
 (ps_set hN hi hx (pe_val he) hs hf).imp fun D τ H zz => by
 obtain ⟨σ, G, D3, rs, rg, h, k⟩ := zz;exact (
  ⟨σ, G, _, rs, rg, h, fun d G' v H' q k' rg' rd => k.nx _ G' _ H' q k' rg' ((rs.mono (k'.stb rg)).set rd i)⟩)
noncomputable def sOwn (i : Nat) (te : TE3) : TS3 := fun D σ G => te σ G fun d G' => ∃ ds, d = .fl ds /\ ∀ p, G' p = none -> D.nx (σ.set i (some (.ref p))) (gset G' p (.lst ds))
theorem own_rg {K : Frag} {G : Gp} {H : Hp} {p : Addr} {xs : List V} {ds : List D} (rg : RG K H G) (e : H p = some (.lst xs)) (r : RDs K H ds xs) : RG K H (gset G p (.lst ds)) := fun a o q => by
 by_cases ha : a = p
 ·subst ha;rw [gset_same] at q; cases q;exact ⟨_, e, r⟩
 ·rw [gset_ne ha] at q;exact rg a o q
theorem own_kp {G G' : Gp} {H H' : Hp} {p : Addr} {o : GO} (k : Kp G H G' H') (f : Fr3 G H p) : Kp G H (gset G' p o) H' := fun a h e n => by
 have : a ≠ p := fun z => by subst z; exact f h e n
 exact ⟨(k a h e n).1, by rw [gset_ne this]; exact (k a h e n).2⟩
theorem q_own {i : Nat} {x : Str} {pos' : Pos} (hN : X.N.Nodup) (hi : X.N[i]? = some x) (hx : Loc X.env.scope x) (he : PE X e (lift X.K te)) (hs : swapsWith e (some (.Name x pos')) pos.line X.env = pure false := by rfl)
  (hf : X.fn x = true \/ X.env.scope.names.lookup x = some .local := by first | exact .inl rfl | exact .inr rfl | assumption) : PS X (.Assign [.Name x pos'] e pos) (liftS X.K (sOwn i te)) :=
 (ps_set hN hi hx he hs hf).imp fun D τ H zz => by
 obtain ⟨σ, G, D3, rs, rg, h, k⟩ := zz;exact (
  ⟨σ, G, _, rs, rg, h, fun d G' v H' q k' rg' re => by
    obtain ⟨ds, rfl, q⟩ := q;obtain ⟨p, xs, rfl, e1, e2, e3, e4⟩ := re.fl;exact k.nx _ _ _ H' (q p e2) (own_kp k' e4) (own_rg rg' e1 e3) ((rs.mono (k'.stb rg)).set rd_ref i)⟩)
noncomputable def sRetOwn (i : Nat) : TS3 := fun D σ G => match σ[i]? with
 | some (some (.ref p)) => match G p with
  | some (.lst ds) => D.rt (.fl ds) (gdel G p)
  | _ => False
 | _ => False
theorem q_retOwn {i : Nat} {x : Str} {pos' : Pos} (hN : X.N[i]? = some x) (hv : Vis X.env.scope x) (hd : (x == ("__debug__" : Str)) = false := by decide) (hcd : (x == ("__classdict__" : Str)) = false := by decide) :
  PS X (.Return (some (.Name x pos')) pos) (liftS X.K (sRetOwn i)) := (ps_ret (pe_var hN hv hd hcd)).imp fun D τ H zz => by
 obtain ⟨σ, G, D3, rs, rg, h, k⟩ := zz;unfold sRetOwn at h;split at h
 ·rename_i p hp;split at h
  ·rename_i ds hg;obtain ⟨v, e1, r⟩ := rs.get hp;simp only [RD] at r;subst r;obtain ⟨ho, e2, ro⟩ := rg p _ hg;refine ⟨_, e1, ?_⟩;cases ho with
   | lst xs =>
    have rg2 : RG X.K H (gdel G p) := fun a o q => by
     by_cases ha : a = p
     ·subst ha; rw [gdel_same] at q; cases q
     ·rw [gdel_ne ha] at q; exact rg a o q
    refine k.rt _ _ _ H h (fun a ha e n => ⟨e, ?_⟩) rg2 (.inl ⟨ds, p, xs, rfl, rfl, e2, gdel_same, ro, fun h' _ => by rw [hg]; exact fun z => nomatch z⟩)
    by_cases hap : a = p
    ·subst hap; exact gdel_same
    ·rw [gdel_ne hap]; exact n
   | _ => exact ro.elim
  ·exact h.elim
 ·exact h.elim
end
noncomputable def eVar (i : Nat) : TE3 := fun σ G Q => match σ[i]? with
 | some (some d) => Q d G
 | _ => False
noncomputable def eC (d : D) : TE3 := fun _ G Q => Q d G
section
variable {X : Cx} {pos : Pos} {j : Nat}
theorem p_var {i : Nat} {x : Str} (hN : X.N[i]? = some x) (hv : Vis X.env.scope x) (hd : (x == ("__debug__" : Str)) = false := by decide) (hcd : (x == ("__classdict__" : Str)) = false := by decide) : PE X (.Name x pos) (lift X.K (eVar i)) :=
 (pe_var hN hv hd hcd).imp fun τ H Q zz => by
  obtain ⟨σ, G, Q3, rs, rg, h, k⟩ := zz;unfold eVar at h;split at h
  ·rename_i d hp;obtain ⟨v, e1, r⟩ := rs.get hp;exact ⟨v, e1, k d G v H h Kp.refl rg (.of r)⟩
  ·exact h.elim
theorem p_v (i : Nat) {x : Str} (hN : X.N[i]? = some x := by rfl) (hv : Vis X.env.scope x := by first | exact Or.inl rfl | exact Or.inr (Or.inl rfl) | exact Or.inr (Or.inr rfl)) (hd : (x == ("__debug__" : Str)) = false := by decide)
  (hcd : (x == ("__classdict__" : Str)) = false := by decide) : PE X (.Name x pos) (lift X.K (eVar i)) := p_var hN hv hd hcd
theorem p_c {e : Expr} {d : D} {v : V} (h : PE X e (tC v)) (r : ∀ H, RD X.K H d v) : PE X e (lift X.K (eC d)) := h.imp fun τ H Q zz => by
 obtain ⟨σ, G, Q3, rs, rg, hq, k⟩ := zz;exact (
  k d G v H hq Kp.refl rg (.of (r H)))
theorem p_int {i : Int} : PE X (.Constant (.int i) j pos) (lift X.K (eC (.int i))) := p_c pe_int fun _ => rd_int
theorem p_bl {b : Bool} : PE X (.Constant (.bool b) j pos) (lift X.K (eC (.bl b))) := p_c pe_bl fun _ => rd_bl
theorem p_non : PE X (.Constant .none j pos) (lift X.K (eC .non)) := p_c pe_non fun _ => rd_non
theorem p_str {x : Str} : PE X (.Constant (.str x) j pos) (lift X.K (eC (.str x))) := p_c pe_str fun _ => rd_str
end
abbrev R3 := D -> D -> Gp -> VK3 -> Prop
noncomputable def liftOp (K : Frag) (r3 : R3) : R2 := fun v u H Q => ∃ x y G0 H0 G Q3, RE K G0 H0 G H x v /\ RE K G0 H0 G H y u /\ RG K H G /\ r3 x y G Q3 /\ Fin3 K G H Q3 Q
noncomputable def eOp (r : R3) (ta tb : TE3) : TE3 := fun σ G Q => ta σ G fun x G1 => tb σ G1 fun y G2 => r x y G2 Q
section
variable {X : Cx} {a b c : Expr} {ta tb tc : TE3} {pos : Pos} {r r' : R3}
theorem two {K : Frag} {r2 : R2} {Q : VK} {τ : St} {H : Hp} (hr : r2 = liftOp K r) (h : lift K (eOp r ta tb) τ H Q) : tOp r2 (lift K ta) (lift K tb) τ H Q := by
 subst hr;obtain ⟨σ, G, Q3, rs, rg, h, k⟩ := h;refine ⟨σ, G, fun x G1 => tb σ G1 fun y G2 => r x y G2 Q3, rs, rg, h, fun x G1 v H1 h1 k1 rg1 re1 => ⟨σ, G1, fun y G2 => r x y G2 Q3, rs.mono (k1.stb rg), rg1, h1, fun y G2 u H2 h2 k2 rg2 re2 => ?_⟩⟩;exact ⟨x, y, G, H, G2, Q3, re1.wait k2 rg1, re2.base k1, rg2, h2, k.base (k1.trans k2)⟩
theorem p_op {op : Operator} (ho : OpR X (binaryOp op) (liftOp X.K r)) (ha : PE X a (lift X.K ta)) (hb : PE X b (lift X.K tb)) : PE X (.BinOp a op b pos) (lift X.K (eOp r ta tb)) :=
 (pe_op ho ha hb).imp fun _ _ _ h => two rfl h
noncomputable def tTru (t : TE3) : TT3 := fun σ G Q => t σ G fun d G' => match d with
 | .bl b => Q b G'
 | _ => False
theorem tru_of {K : Frag} {t : TE3} {τ : St} {H : Hp} {Q : Bool -> Hp -> Prop} (h : liftT K (tTru t) τ H Q) : tTest (lift K t) τ H Q := by
 obtain ⟨σ, G, Q3, rs, rg, h, k⟩ := h;refine ⟨σ, G, _, rs, rg, h, fun d G' v H' q k' rg' re => ?_⟩;cases d with
 | bl b => exact ⟨b, re.bl, k b G' H' q k' rg'⟩
 | _ => exact q.elim
theorem p_tcmp {op : CmpOp} (ho : OpR X (compareOp op) (liftOp X.K r)) (ha : PE X a (lift X.K ta)) (hb : PE X b (lift X.K tb)) (hm : behindInMarks op b = false) : PT X (.Compare a [op] [b] pos) (liftT X.K (tTru (eOp r ta tb))) :=
 (pt_cmpR ho ha hb hm).imp fun _ _ _ h => two rfl (tru_of h)
noncomputable def eChain (r r' : R3) (ta tb tc : TE3) : TE3 := fun σ G Q => ta σ G fun x G1 => tb σ G1 fun y G2 => r x y G2 fun z G3 => match z with
 | .bl k => if k = true then tc σ G3 fun w G4 => r' y w G4 Q else Q (.bl false) G3
 | _ => False
noncomputable def tAnd3 (t u : TT3) : TT3 := fun σ G Q => t σ G fun c G1 => if c = true then u σ G1 Q else Q false G1
noncomputable def tOr3 (t u : TT3) : TT3 := fun σ G Q => t σ G fun c G1 => if c = true then Q true G1 else u σ G1 Q
noncomputable def tNot3 (t : TT3) : TT3 := fun σ G Q => t σ G fun c G1 => Q (!c) G1
variable {tA tB : TT3} {es : List Expr}
theorem w_and1 (ha : PT X a (liftT X.K tA)) : PW X (.BoolOp .And [a] pos) (liftT X.K tA) := pw_and1 ha
theorem w_or1 (ha : PT X a (liftT X.K tA)) : PW X (.BoolOp .Or [a] pos) (liftT X.K tA) := pw_or1 ha
theorem w_and (ha : PT X a (liftT X.K tA)) (hb : PW X (.BoolOp .And (b :: es) pos) (liftT X.K tB)) : PW X (.BoolOp .And (a :: b :: es) pos) (liftT X.K (tAnd3 tA tB)) := (pw_and ha hb).imp fun τ H Q zz => by
 obtain ⟨σ, G, Q3, rs, rg, h, k⟩ := zz;exact (
   ⟨σ, G, _, rs, rg, h, fun c G1 H1 q k1 rg1 => by
    cases c with
    | true => exact iteT ⟨σ, G1, Q3, rs.mono (k1.stb rg), rg1, q, fun b' G' H' q' k' rg' => k b' G' H' q' (k1.trans k') rg'⟩
    | false => exact iteF (k false G1 H1 q k1 rg1)⟩)
theorem w_or (ha : PT X a (liftT X.K tA)) (hb : PW X (.BoolOp .Or (b :: es) pos) (liftT X.K tB)) : PW X (.BoolOp .Or (a :: b :: es) pos) (liftT X.K (tOr3 tA tB)) := (pw_or ha hb).imp fun τ H Q zz => by
 obtain ⟨σ, G, Q3, rs, rg, h, k⟩ := zz;exact (
   ⟨σ, G, _, rs, rg, h, fun c G1 H1 q k1 rg1 => by
    cases c with
    | false => exact iteF ⟨σ, G1, Q3, rs.mono (k1.stb rg), rg1, q, fun b' G' H' q' k' rg' => k b' G' H' q' (k1.trans k') rg'⟩
    | true => exact iteT (k true G1 H1 q k1 rg1)⟩)
theorem p_tnot (ha : PT X a (liftT X.K tA)) : PT X (.UnaryOp .Not a pos) (liftT X.K (tNot3 tA)) := (pt_not ha).imp fun τ H Q zz => by
 obtain ⟨σ, G, Q3, rs, rg, h, k⟩ := zz;exact (
  ⟨σ, G, _, rs, rg, h, fun c G1 H1 q k1 rg1 => k (!c) G1 H1 q k1 rg1⟩)
noncomputable def eAnd (ta tb : TE3) : TE3 := fun σ G Q => ta σ G fun x G1 => match x with
 | .bl c => if c = true then tb σ G1 Q else Q (.bl false) G1
 | _ => False
noncomputable def eOr (ta tb : TE3) : TE3 := fun σ G Q => ta σ G fun x G1 => match x with
 | .bl c => if c = true then Q (.bl true) G1 else tb σ G1 Q
 | _ => False
theorem p_one {op} (h : PE X a (lift X.K ta)) : PE X (.BoolOp op [a] pos) (lift X.K ta) := pe_one h
theorem p_and (ha : PE X a (lift X.K ta)) (hb : PE X (.BoolOp .And (b :: es) pos) (lift X.K tb)) : PE X (.BoolOp .And (a :: b :: es) pos) (lift X.K (eAnd ta tb)) := (pe_and ha hb).imp fun τ H Q zz => by
 obtain ⟨σ, G, Q3, rs, rg, h, k⟩ := zz;exact (
   ⟨σ, G, _, rs, rg, h, fun x G1 v H1 q k1 rg1 re => by
    cases x with
    | bl c =>
     refine ⟨c, re.bl, ?_⟩;cases c with
     | true => exact iteT ⟨σ, G1, Q3, rs.mono (k1.stb rg), rg1, q, k.base k1⟩
     | false => exact iteF (k _ G1 _ H1 q k1 rg1 (.of rd_bl))
    | _ => exact q.elim⟩)
noncomputable def eNotV (ta : TE3) : TE3 := fun σ G Q => ta σ G fun x G1 => match x with
 | .bl c => Q (.bl (!c)) G1
 | _ => False
noncomputable def eIf (c : TT3) (ta tb : TE3) : TE3 := fun σ G Q => c σ G fun b G1 => if b = true then ta σ G1 Q else tb σ G1 Q
noncomputable def truD (G : Gp) : D -> Option Bool
 | .non => some false
 | .bl b => some b
 | .int i => some (i != 0)
 | .str y => some ((y.length : Int) != 0)
 | d => (asQ G d).map fun ds => !ds.isEmpty
noncomputable def tAny (t : TE3) : TT3 := fun σ G Q => t σ G fun d G' => match truD G' d with
 | some b => (match d with | .str y => y.length <= sizeLine | _ => True) /\ Q b G'
 | none => False
theorem p_ttruth (ha : PE X a (lift X.K ta)) (he : ∀ whole, isTrue a X.env whole = (do let v <- whole; standAt a.pos; holding [v] (truthy v)) := by intro _; rfl) : PT X a (liftT X.K (tAny ta)) :=
 (pt_truth ha he).imp fun τ H Q zz => by
 obtain ⟨σ, G, Q3, rs, rg, h, k⟩ := zz;exact (
  ⟨σ, G, _, rs, rg, h, fun d G' v H' q k' rg' re => by
    cases d with
    | non => rw [re.non]; exact ⟨false, rfl, k _ G' H' q.2 k' rg'⟩
    | bl b => rw [re.bl]; exact ⟨b, rfl, k _ G' H' q.2 k' rg'⟩
    | int i => rw [re.int]; exact ⟨_, rfl, k _ G' H' q.2 k' rg'⟩
    | str y => rw [re.str]; exact ⟨_, ⟨q.1, rfl⟩, k _ G' H' q.2 k' rg'⟩
    | ty n => exact q.elim
    | _ =>
     split at q
     ·rename_i b hb;simp only [truD, Option.map_eq_some_iff] at hb;obtain ⟨ds, hq, rfl⟩ := hb;obtain ⟨a, xs, rfl, s, r⟩ := asQ_sq hq re rg';have el : (!ds.isEmpty) = !xs.isEmpty := by
       have := r.length;cases ds <;> cases xs <;> simp_all
      refine ⟨!xs.isEmpty, ?_, k _ G' H' (by rw [<- el]; exact q.2) k' rg'⟩
      rcases s with s | s
      ·exact .inl ⟨xs, s, rfl⟩
      ·exact .inr (.inl ⟨xs, s, rfl⟩)
     ·exact q.elim⟩)
end
end L3
namespace L2
open PySem PySem.Spec PyProof.Rows
section
variable {X : Cx}
noncomputable def rCatS (K : Frag) : R2 := fun x y H Q => ∃ l b xs zs, x = .ref l /\ y = .ref b /\ SqL K H l xs /\ SqL K H b zs /\ xs.length + zs.length <= sizeLine /\ ∀ p, H p = none -> Q (.ref p) (upd H p (.lst (xs ++ zs)))
theorem op_catS : OpR X (binaryOp .Add) (rCatS X.K) := by
 intro pins s σ H x y v u Q I rx ry h;obtain ⟨l, b, xs, zs, rfl, rfl, hH, hB, hz, q⟩ := h;cases rx;cases ry;obtain ⟨its, r, pl, z⟩ := I.list hH;obtain ⟨its2, r2, pl2, z2⟩ := I.list hB;obtain ⟨⟨cls, dd, data, sl⟩, ho, hc, n, hd⟩ := pl.isList;obtain ⟨⟨cls2, dd2, data2, sl2⟩, ho2, hc2, n2, hd2⟩ := pl2.isList;simp only at hc hd hc2 hd2;subst hc hd hc2 hd2;have hl := r.length;have hl2 := r2.length;have e : its.toArray ++ its2.toArray = (its ++ its2).toArray := by simp
 refine concat_meets ⟨_, ho, rfl⟩ ⟨_, ho2, rfl⟩ noFill_list_add seq_list_add PySem.F.slot_list_add PySem.F.entry_list_add (PySem.F.args_list_add_2 _ _) (list_addW l b its.toArray its2.toArray n n2 dd dd2 sl sl2 (by simp only [size_toArray]; walk_at "oo")) ⟨ho, ho2, ?_⟩
 rw [e];exact ⟨.ref _, _, I.lnew (t' := s.toks) (r.append r2) (by rw [length_append]; walk_at "oo"), rfl, q _ I.fresh⟩
end
end L2
namespace L3
open PySem PySem.Spec PyProof.Rows L2
section
variable {X : Cx}
noncomputable def oAdd : R3 := fun x y G Q => match x, y with
 | .int i, .int j => Q (.int (i + j)) G
 | .str i, .str j => i.length + j.length <= sizeLine /\ Q (.str (i ++ j)) G
 | .tup xs, .tup ys => xs ≠ [] /\ xs.length + ys.length <= sizeLine /\ Q (.tup (xs ++ ys)) G
 | x, y => match asL G x, asL G y with
  | some xs, some ys => xs.length + ys.length <= sizeLine /\ Q (.fl (xs ++ ys)) G
  | _, _ => False
theorem x_add : OpR X (binaryOp .Add) (liftOp X.K oAdd) := by
 refine ((op_add (X := X)).or ((op_add_str (X := X)).or ((op_catT (X := X)).or (op_catS (X := X))))).imp fun v u H Q zz => ?_;obtain ⟨x, y, G0, H0, G, Q3, rx, ry, rg, h, k⟩ := zz;unfold oAdd at h;split at h
 ·rename_i i j;exact .inl ⟨i, j, rx.int, ry.int, k _ G _ H h Kp.refl rg (.of rd_int)⟩
 ·rename_i i j;exact .inr (.inl ⟨i, j, rx.str, ry.str, h.1, k _ G _ H h.2 Kp.refl rg (.of rd_str)⟩)
 ·rename_i ds es;obtain ⟨a, xs, rfl, s1, r1⟩ := rx.tup;obtain ⟨b, ys, rfl, s2, r2⟩ := ry.tup;have l1 := r1.length;have l2 := r2.length;refine .inr (.inr (.inl ⟨a, b, xs, ys, rfl, rfl, s1, s2, fun z => h.1 ?_, by have := h.2.1; walk_at "oo", fun z => ?_, fun _ p hp => ?_⟩))
  ·subst z; exact length_eq_zero_iff.mp l1
  ·subst z;have : es = [] := length_eq_zero_iff.mp l2;subst this;have hh := h.2.2;rw [append_nil] at hh;exact k _ G _ H hh Kp.refl rg (.of (rd_tup s1 r1))
  ·exact k _ G _ _ h.2.2 (Kp.laid hp) (rg.laid hp) (.of (tup_new rg hp (r1.append r2)))
 ·split at h
  ·rename_i ds es hx hy;obtain ⟨a, xs, rfl, s1, r1⟩ := asL_sq hx rx rg;obtain ⟨b, ys, rfl, s2, r2⟩ := asL_sq hy ry rg;have l1 := r1.length;have l2 := r2.length;exact .inr (.inr (.inr ⟨a, b, xs, ys, rfl, rfl, s1, s2, by have := h.1; walk_at "oo", fun p hp => k _ G _ _ h.2 (Kp.laid hp) (rg.laid hp) (fl_new rg hp (r1.append r2))⟩))
  ·exact h.elim
noncomputable def oI (C : Int -> Int -> Prop) (g : Int -> Int -> D) : R3 := fun x y G Q => match x, y with
 | .int i, .int j => C i j /\ Q (g i j) G
 | _, _ => False
noncomputable def oI0 (g : Int -> Int -> D) : R3 := fun x y G Q => match x, y with
 | .int i, .int j => Q (g i j) G
 | _, _ => False
theorem x_I {f : Value -> Value -> Sem Value} {C : Int -> Int -> Prop} {g : Int -> Int -> V} {g3 : Int -> Int -> D} (h : OpR X f (rI C g)) (r : ∀ i j H, RD X.K H (g3 i j) (g i j)) : OpR X f (liftOp X.K (oI C g3)) :=
 h.imp fun v u H Q zz => by
  obtain ⟨x, y, G0, H0, G, Q3, rx, ry, rg, h, k⟩ := zz;unfold oI at h;split at h
  ·rename_i i j;exact ⟨i, j, rx.int, ry.int, h.1, k _ G _ H h.2 Kp.refl rg (.of (r i j H))⟩
  ·exact h.elim
theorem x_I0 {f : Value -> Value -> Sem Value} {g : Int -> Int -> V} {g3 : Int -> Int -> D} (h : OpR X f (rI0 g)) (r : ∀ i j H, RD X.K H (g3 i j) (g i j)) : OpR X f (liftOp X.K (oI0 g3)) :=
 h.imp fun v u H Q zz => by
  obtain ⟨x, y, G0, H0, G, Q3, rx, ry, rg, h, k⟩ := zz;unfold oI0 at h;split at h
  ·rename_i i j;exact ⟨i, j, rx.int, ry.int, k _ G _ H h Kp.refl rg (.of (r i j H))⟩
  ·exact h.elim
noncomputable def oSub : R3 := oI0 fun i j => .int (i - j)
noncomputable def oMod : R3 := oI (fun _ j => 0 < j) fun i j => .int (i % j)
theorem x_mod : OpR X (binaryOp .Mod) (liftOp X.K oMod) := x_I op_mod fun _ _ _ => rd_int
noncomputable def oDiv : R3 := oI CDiv fun i j => .int (i / j)
theorem x_div : OpR X (binaryOp .FloorDiv) (liftOp X.K oDiv) := x_I op_fdiv fun _ _ _ => rd_int
noncomputable def oPow : R3 := oI CPow fun i j => .int (i ^ j.toNat)
noncomputable def oLt : R3 := oI0 fun i j => .bl (decide (i < j))
theorem x_lt : OpR X (compareOp .Lt) (liftOp X.K oLt) := x_I0 op_lt fun _ _ _ => rd_bl
noncomputable def oLe : R3 := oI0 fun i j => .bl (decide (i <= j))
noncomputable def oGt : R3 := oI0 fun i j => .bl (decide (j < i))
noncomputable def oGe : R3 := oI0 fun i j => .bl (decide (j <= i))
noncomputable def aNil : TA3 := fun _ G Q => Q [] G
noncomputable def aCons (ta : TE3) (tr : TA3) : TA3 := fun σ G Q => ta σ G fun x G1 => tr σ G1 fun xs G2 => Q (val x :: xs) G2
variable {e : Expr} {es : List Expr} {te : TE3} {t : TA3} {pos : Pos}
theorem a_nil : PA X [] (liftA X.K aNil) := pa_nil.imp fun τ H Q zz => by
 obtain ⟨σ, G, Q3, rs, rg, h, k⟩ := zz;exact (
  k [] G [] H h Kp.refl rg RDs.nil)
theorem a_cons (ha : PE X e (lift X.K te)) (hr : PA X es (liftA X.K t)) (hs : starEach (e :: es) X.env = (false, eval e X.env) :: starEach es X.env := by rfl) : PA X (e :: es) (liftA X.K (aCons te t)) :=
 (pa_cons (pe_val ha) hr hs).imp fun τ H Q zz => by
 obtain ⟨σ, G, Q3, rs, rg, h, k⟩ := zz;exact (
  ⟨σ, G, _, rs, rg, h, fun x G1 v H1 q k1 rg1 rd => ⟨σ, G1, _, rs.mono (k1.stb rg), rg1, q, fun ds G2 vs H2 q2 k2 rg2 rds =>
    k _ G2 _ H2 q2 (k1.trans k2) rg2 (RDs.cons (RD.mono (k2.stb rg1) _ _ rd) rds)⟩⟩)
noncomputable def eTup (t : TA3) : TE3 := fun σ G Q => t σ G fun ds G1 => ds.length <= sizeLine /\ Q (.tup ds) G1
noncomputable def eLst (t : TA3) : TE3 := fun σ G Q => t σ G fun ds G1 => ds.length <= sizeLine /\ Q (.fl ds) G1
theorem p_tup {x1} (h : PA X es (liftA X.K t)) : PE X (.Tuple es x1 pos) (lift X.K (eTup t)) := (pe_tup h).imp fun τ H Q zz => by
 obtain ⟨σ, G, Q3, rs, rg, h, k⟩ := zz;exact (
  ⟨σ, G, _, rs, rg, h, fun ds G1 vs H1 q k1 rg1 rds =>
   ⟨by rw [<- rds.length]; exact q.1, fun p hp => k _ G1 _ _ q.2 (k1.trans (Kp.laid hp)) (rg1.laid hp) (.of (tup_new rg1 hp rds))⟩⟩)
theorem p_lst (h : PA X es (liftA X.K t)) : PE X (.List es pos) (lift X.K (eLst t)) := (pe_lst h).imp fun τ H Q zz => by
 obtain ⟨σ, G, Q3, rs, rg, h, k⟩ := zz;exact (
  ⟨σ, G, _, rs, rg, h, fun ds G1 vs H1 q k1 rg1 rds =>
   ⟨by rw [<- rds.length]; exact q.1, fun p hp => k _ G1 _ _ q.2 (k1.trans (Kp.laid hp)) (rg1.laid hp) ((fl_new rg1 hp rds).base k1)⟩⟩)
noncomputable def strAt (x : Str) (i : Int) : Option D := (atI x.cps.toList i).map fun c => .str ⟨#[c]⟩
noncomputable def oIx : R3 := fun x y G Q => match x, y with
 | .str z, .int i => z.length <= sizeLine /\ match strAt z i with
  | some d => Q d G
  | none => False
 | x, .int i => match asQ G x with
  | some ds => match atI ds i with
   | some d => Q d G
   | none => False
  | none => False
 | _, _ => False
theorem atI_rds {K : Frag} {H : Hp} {ds : List D} {xs : List V} {i : Int} {d : D} (r : RDs K H ds xs) (h : atI ds i = some d) : ∃ v, atI xs i = some v /\ RD K H d v := by
 unfold atI at h ⊢;rw [<- r.length];cases e : ixN ds.length i with
 | none => rw [e] at h; cases h
 | some j =>
  rw [e] at h;exact r.get h
theorem x_ix : IxR X (liftOp X.K oIx) := (ix_seq (X := X)).imp fun v u H Q zz => by
 obtain ⟨x, y, G0, H0, G, Q3, rx, ry, rg, h, k⟩ := zz;unfold oIx at h;split at h
 ·rename_i z i;obtain ⟨h1, h2⟩ := h;split at h2
  ·rename_i d hd;unfold strAt at hd;rw [Option.map_eq_some_iff] at hd;obtain ⟨c, hc, rfl⟩ := hd;exact .inr (.inr ⟨z, i, c, rx.str, ry.int, h1, hc, k _ G _ H h2 Kp.refl rg (.of rd_str)⟩)
  ·exact h2.elim
 ·rename_i i _;split at h
  ·rename_i ds hds;split at h
   ·rename_i d hd;obtain ⟨a, xs, rfl, s, r⟩ := asQ_sq hds rx rg;obtain ⟨w, hw, rd⟩ := atI_rds r hd;have fin := k _ G _ H h Kp.refl rg (.of rd);rcases s with s | s
    ·exact .inl ⟨a, xs, i, w, rfl, ry.int, s, hw, fin⟩
    ·exact .inr (.inl ⟨a, xs, i, w, rfl, ry.int, s, hw, fin⟩)
   ·exact h.elim
  ·exact h.elim
 ·exact h.elim
variable {a b : Expr} {ta tb : TE3}
theorem p_ix (ha : PE X a (lift X.K ta)) (hb : PE X b (lift X.K tb)) (hs : PlainIx b := by exact fun _ _ => rfl) : PE X (.Subscript a b pos) (lift X.K (eOp oIx ta tb)) := (pe_ix x_ix ha hb hs).imp fun _ _ _ h => two rfl h
abbrev TO3 := St3 -> Gp -> (Option Int -> Gp -> Prop) -> Prop
noncomputable def liftO (K : Frag) (t : TO3) : TO := fun τ H Q => ∃ σ G Q3, RS K H σ τ /\ RG K H G /\ t σ G Q3 /\ ∀ o G' H', Q3 o G' -> Kp G H G' H' -> RG K H' G' -> Q o H'
theorem PO.imp {e : Option Expr} {t t' : TO} (h : PO X e t) (i : ∀ σ H Q, t' σ H Q -> t σ H Q) : PO X e t' := fun pins s σ H Q I q => h pins s σ H Q I (i σ H Q q)
noncomputable def oNo : TO3 := fun _ G Q => Q none G
noncomputable def oSome (t : TE3) : TO3 := fun σ G Q => t σ G fun x G1 => match x with
 | .int i => Q (some i) G1
 | _ => False
theorem o_none : PO X none (liftO X.K oNo) := PO.imp po_none fun τ H Q zz => by
 obtain ⟨σ, G, Q3, rs, rg, h, k⟩ := zz;exact (
  k none G H h Kp.refl rg)
theorem o_some (h : PE X e (lift X.K te)) : PO X (some e) (liftO X.K (oSome te)) := PO.imp (po_some h) fun τ H Q ⟨σ, G, Q3, rs, rg, h, k⟩ => ⟨σ, G, _, rs, rg, h, fun d G1 v H1 q k1 rg1 re => by
 cases d with
 | int i => exact ⟨i, re.int, k _ G1 H1 q k1 rg1⟩
 | _ => exact q.elim⟩
abbrev RSl := D -> Option Int -> Option Int -> Gp -> VK3 -> Prop
noncomputable def liftSl (K : Frag) (r : RSl) : V -> Option Int -> Option Int -> Hp -> VK -> Prop := fun v lo hi H Q => ∃ x G0 H0 G Q3, RE K G0 H0 G H x v /\ RG K H G /\ r x lo hi G Q3 /\ Fin3 K G H Q3 Q
noncomputable def eSl (r : RSl) (te : TE3) (tl th : TO3) : TE3 := fun σ G Q => te σ G fun x G1 => tl σ G1 fun l G2 => th σ G2 fun u G3 => r x l u G3 Q
theorem p_slice {r : RSl} {lo hi : Option Expr} {tl th : TO3} {p2 : Pos} (hr : SlR X (liftSl X.K r)) (he : PE X e (lift X.K te)) (hl : PO X lo (liftO X.K tl)) (hu : PO X hi (liftO X.K th)) : PE X (.Subscript e (.Slice lo hi none p2) pos) (lift X.K (eSl r te tl th)) :=
 (pe_slice hr he hl hu).imp fun τ H Q zz => by
 obtain ⟨σ, G, Q3, rs, rg, h, k⟩ := zz;exact (
  ⟨σ, G, _, rs, rg, h, fun x G1 v H1 q1 k1 rg1 re => ⟨σ, G1, _, rs.mono (k1.stb rg), rg1, q1, fun l G2 H2 q2 k2 rg2 =>
    ⟨σ, G2, _, rs.mono ((k1.trans k2).stb rg), rg2, q2, fun u G3 H3 q3 k3 rg3 => ⟨x, G, H, G3, Q3, re.wait (k2.trans k3) rg1, rg3, q3, k.base (k1.trans (k2.trans k3))⟩⟩⟩⟩)
noncomputable def cutD (ds : List D) (lo hi : Option Int) : List D := (ds.drop (HT.sIx ds.length 0 lo)).take (HT.sIx ds.length ds.length hi - HT.sIx ds.length 0 lo)
theorem cut_rds {K : Frag} {H : Hp} {ds : List D} {xs : List V} (r : RDs K H ds xs) (lo hi : Option Int) : RDs K H (cutD ds lo hi) (cutV xs lo hi) := by
 unfold cutD cutV;rw [r.length];exact (r.drop _).take _
end
end L3
namespace L2
open PySem PySem.Spec PyProof.Rows
noncomputable def Its (xs : List V) : It := ⟨fun i _ => i < xs.length, fun i H x H' => H' = H /\ xs[i]? = some x, fun i _ => i = xs.length⟩
noncomputable def signsV (x : Str) : List V := x.cps.toList.map fun c => V.str ⟨#[c]⟩
theorem signsV_length (x : Str) : (signsV x).length = x.cps.size := by simp [signsV]
theorem turn_str {P : Program} {w : World} {K : Frag} {tg : Expr} (it : Addr) (x : Str) (t : Tok) (ty : String) (hty : ty = "str_ascii_iterator" \/ ty = "str_iterator") :
  Turn P w K tg (Its (signsV x)) [it] it (fun i h => h.IsStrIter it ty x t i) where
 mem := by simp
 obj := fun i h st b hb => by
  have e : b = it := by simpa using hb
  subst e;obtain ⟨o, e, c, d⟩ := st;exact ⟨o, e, fun v z => by rw [d] at z; cases z⟩
 keep := fun i h h' st k => let ⟨o, ho, r⟩ := st; ⟨o, k it (by simp) o ho, r⟩
 item := by
  intro X hP hw hK hc i pins s σ H E I hf st hg;subst hP hw hK;obtain ⟨f0, f1, f2, f3, f4, f5⟩ := hf it (by simp)
  have W : Walks X.prog X.w X.A it [it] [it] x.cps.size (SignAt x) (fun i h => h.IsStrIter it ty x t i) := by
   rcases hty with rfl | rfl
   ·exact Walks.strAscii (I.ok.hd hc) it x t
   ·exact Walks.strWide (I.ok.hd hc) it x t
  refine W.item i s _ _ (by have : i < (signsV x).length := hg; rw [signsV_length] at this; exact this) st fun v h' tk hv st' kk => ?_
  obtain ⟨c, u, hc', rfl⟩ := hv;have I1 : Inv X pins σ H { s with heap := h', toks := tk } := I.turned (fun b o hb e => kk b o (by simpa using hb) e) f0 f1 f3 f4 f5
  obtain ⟨o, e, c1, d⟩ := id st';refine ⟨_, rfl, go_of (s := { s with heap := h', toks := tk }) e c1 d (by rcases hty with rfl | rfl <;> decide) ⟨.str ⟨#[c]⟩, H, I1, ⟨u, rfl⟩, ⟨rfl, ?_⟩, st', fun b hb => (hf b hb).1⟩⟩
  simp only [signsV, getElem?_map, Array.getElem?_toList, hc', Option.map_some]
 done := by
  intro X hP hw hK hc i pins s σ H E I hf st hg;subst hP hw hK;obtain ⟨f0, f1, f2, f3, f4, f5⟩ := hf it (by simp)
  have W : Walks X.prog X.w X.A it [it] [it] x.cps.size (SignAt x) (fun i h => h.IsStrIter it ty x t i) := by
   rcases hty with rfl | rfl
   ·exact Walks.strAscii (I.ok.hd hc) it x t
   ·exact Walks.strWide (I.ok.hd hc) it x t
  have e : i = x.cps.size := by have : i = (signsV x).length := hg; rw [signsV_length] at this; exact this
  subst e;exact W.done s _ _ st fun h' tk kk => ⟨rfl, I.turned (fun b o hb e => kk b o (by simpa using hb) e) f0 f1 f3 f4 f5⟩
 self := fun A i s Q E st h => by
  rcases hty with rfl | rfl
  ·exact wpAny_pyIter_striter_ascii st h
  ·exact wpAny_pyIter_striter_wide st h
section
variable {X : Cx} {tg : Expr}
theorem closure_of {env : Env} : ∀ (names : List (Str × NameKind)) (sc : Scope), sc.names = names -> (∀ x ∈ names, x.2 = .free -> ∃ c, env.cells.lookup x.1 = some c) ->
  ∃ cl, closureFor sc env = pure cl /\ (∀ x c, cl.lookup x = some c -> env.cells.lookup x = some c) /\ (∀ x ∈ names, x.2 = .free -> ∃ c, cl.lookup x.1 = some c) := by
 have loop : ∀ (names : List (Str × NameKind)) (cs : List (Str × Addr)), (∀ x ∈ names, x.2 = .free -> ∃ c, env.cells.lookup x.1 = some c) -> (∀ x c, cs.lookup x = some c -> env.cells.lookup x = some c) ->
   ∃ cl, (forIn names cs fun (x : Str × NameKind) (r : List (Str × Addr)) => (match x with
    | (name, kind) => if (kind == NameKind.free) = true then (do let a <- cellOf env name; pure (ForInStep.yield ((name, a) :: r))) else pure (ForInStep.yield r) : Sem (ForInStep (List (Str × Addr))))) = (pure cl : Sem (List (Str × Addr))) /\
    (∀ x c, cl.lookup x = some c -> env.cells.lookup x = some c) /\ (∀ x, (∃ c, cs.lookup x = some c) -> ∃ c, cl.lookup x = some c) /\ (∀ x ∈ names, x.2 = .free -> ∃ c, cl.lookup x.1 = some c) := by
  intro names
  induction names with
  | nil => intro cs _ h2; exact ⟨cs, rfl, h2, fun _ z => z, fun _ z => nomatch z⟩
  | cons y r ih =>
   obtain ⟨name, kind⟩ := y;intro cs h1 h2;cases hk : (kind == NameKind.free) with
   | false =>
    obtain ⟨cl, e, a, b, c⟩ := ih cs (fun x hx => h1 x (mem_cons_of_mem _ hx)) h2;refine ⟨cl, ?_, a, b, fun x hx hf => ?_⟩
    ·rw [forIn_cons];simp only [hk, Bool.false_eq_true, if_false];exact e
    ·rcases mem_cons.mp hx with rfl | hx
     ·rw [show kind = NameKind.free from hf] at hk; cases hk
     ·exact c x hx hf
   | true =>
    have hkf : kind = NameKind.free := by simpa using hk
    obtain ⟨ca, hca⟩ := h1 (name, kind) mem_cons_self hkf;have hca' : env.cells.lookup name = some ca := hca;have nx : ∀ x c, ((name, ca) :: cs).lookup x = some c -> env.cells.lookup x = some c := fun x c hx => by
     rw [lookup_cons] at hx;split at hx
     ·rename_i hb;have : x = name := by simpa using hb
      cases hx; rw [this]; exact hca'
     ·exact h2 x c hx
    obtain ⟨cl, e, a, b, c⟩ := ih ((name, ca) :: cs) (fun x hx => h1 x (mem_cons_of_mem _ hx)) nx;refine ⟨cl, ?_, a, fun x ⟨c', hx⟩ => ?_, fun x hx hf => ?_⟩
    ·rw [forIn_cons];simp only [hk, if_true];unfold cellOf;rw [hca'];exact e
    ·by_cases hxn : x = name
     ·exact b x ⟨ca, by rw [lookup_cons, hxn, beq_self_eq_true]⟩
     ·exact b x ⟨c', by rw [lookup_cons, show (x == name) = false by simpa using hxn]; exact hx⟩
    ·rcases mem_cons.mp hx with rfl | hx
     ·exact b name ⟨ca, by rw [lookup_cons, beq_self_eq_true]⟩
     ·exact c x hx hf
 intro names sc hsc h;subst hsc;obtain ⟨cl, e, a, _, c⟩ := loop sc.names [] h (fun x c z => by simp at z)
 refine ⟨cl, ?_, a, c⟩;unfold closureFor;show (forIn sc.names [] _ >>= fun r => pure r) = _
 refine Eq.trans ?_ (congrArg (fun m => m >>= fun r => (pure r : Sem (List (Str × Addr)))) e);rfl
noncomputable def compCx (X : Cx) (N' : List Str) (scope : Scope) (cl : List (Str × Addr)) (C : Addr) (s₀ : Shared) (H₀ : Hp) (fp : List Addr) : Cx :=
 { X with N := N', s₀ := s₀, H₀ := H₀, env := compEnvC scope cl C X.env, outer := X.stack, ex := fp, fn := fun _ => false, pn := [], xe := fun _ _ => False }
end
section
variable {prog : Program} {w : World} {A : Around} {R : Result -> Shared -> Prop} {s : Shared}
theorem codeAny_compLoop_gen {elt target iter : Expr} {ifs : List Expr} {scope : Scope} {pos : Pos} {it acc : Value} {env : Env} (J : Nat -> Shared -> Prop)
  (turn : ∀ n s, J n s -> wpAny (model prog w) A (pyNext it) (fun r s₁ => match r with
   | none => R (.ok .next) s₁
   | some v => wpAny (model prog w) A (letOwnedTupleGo target it v) (fun _ s₁' => wpAny (model prog w) A (assign target env v) (fun _ s₂ =>
     wpAny (model prog w) A (forIn ifs true fun c r => if r = true then do let ok <- isTrue c env (eval c env); pure (ForInStep.yield ok) else pure (ForInStep.yield r)) (fun ok s₃ =>
      if ok = true then wpAny (model prog w) A (eval elt env) (fun x s₄ =>
       wpAny (model prog w) A (call (.builtin "list.append") [acc, x]) (fun _ s₅ => ∃ m, m < n /\ J m s₅) (fun _ _ => False) s₄) (fun _ _ => False) s₃
      else ∃ m, m < n /\ J m s₃) (fun _ _ => False) s₂) (fun _ _ => False) s₁') (fun _ _ => False) s₁) (fun _ _ => False) s)
  (n : Nat) (h : J n s) : codeAny (model prog w) A (.compLoop (.ListComp elt [⟨target, iter, ifs, 0⟩] scope pos) 0 it acc env) R s := by
 refine codeAny_loop rfl J (fun n s hI => ?_) n h;show wpAny _ A ((compTurn (.ListComp elt [⟨target, iter, ifs, 0⟩] scope pos) 0 it acc env).onRaise (fun x => do noteFrame x env; theTreesLotGoes x)) _ _ s
 refine wpAny_noted ?_;rw [compTurn_list];refine wpAny_bind (wpAny_standAt (wpAny_bind (wpAny_mono (turn n s hI) (fun r s₁ h₁ => ?_) fun _ _ h' => h'.elim)));cases r with
 | none => exact wpAny_pure h₁
 | some v =>
  refine wpAny_bind (wpAny_mono h₁ (fun _ s₁' h₁' => ?_) fun _ _ h' => h'.elim);refine wpAny_bind (wpAny_mono h₁' (fun _ s₂ h₂ => wpAny_bind (wpAny_mono h₂ (fun ok s₃ h₃ => ?_) fun _ _ h' => h'.elim)) fun _ _ h' => h'.elim);cases ok with
  | false => exact wpAny_pure ⟨rfl, h₃⟩
  | true => exact wpAny_bind (wpAny_bind (wpAny_mono h₃ (fun x s₄ h₄ => wpAny_bind (wpAny_mono h₄ (fun _ s₅ h₅ => wpAny_pure (wpAny_pure ⟨rfl, h₅⟩)) fun _ _ h' => h'.elim)) fun _ _ h' => h'.elim))
end
noncomputable def PTs (X : Cx) (ifs : List Expr) (tt : TT) : Prop :=
 ∀ (pins : List (Addr × Obj)) (s : Shared) (σ : St) (H : Hp) (Q : Bool -> Hp -> Prop), Inv X pins σ H s -> tt σ H Q ->
  wpAny (model X.prog X.w) X.A (forIn ifs true fun c r => if r = true then do let ok <- isTrue c X.env (eval c X.env); pure (ForInStep.yield ok) else pure (ForInStep.yield r)) (TP X pins σ Q) X.xe s
theorem pts_nil {X : Cx} : PTs X [] (fun _ H Q => Q true H) := fun pins s σ H Q I h => wpAny_tests_nil ⟨H, I, h⟩
theorem pts_one {X : Cx} {c : Expr} {tt : TT} (h : PT X c tt) : PTs X [c] tt := fun pins s σ H Q I q => wpAny_tests_one (h pins s σ H Q I q)
noncomputable def tComp (ent : St -> St) (wi : TI) (g : TG) (tt : TT) (te : TE) : TE := fun σ H Q => wi σ H fun J H1 => ∀ D, H1 D = none -> ∃ W : Nat -> Nat -> List V -> St -> Hp -> Prop, (∃ m, W 0 m [] (ent σ) (upd H1 D (.lst []))) /\
 ∀ i m ys σ1 H2, W i m ys σ1 H2 -> H2 D = some (.lst ys) /\ ((J.stop i H2 /\ Q (.ref D) H2) \/ (J.go i H2 /\ ∃ N : List V -> St -> Hp -> Prop, (∀ ys' σ' H', N ys' σ' H' -> ∃ m', m' < m /\ W (i + 1) m' ys' σ' H') /\
  ∀ x H', J.yld i H2 x H' -> g x σ1 H' fun σ2 H3 => tt σ2 H3 fun b H4 => if b = true then te σ2 H4 fun y H5 => H5 D = some (.lst ys) /\ ys.length < sizeLine /\ N (ys ++ [y]) σ2 (upd H5 D (.lst (ys ++ [y]))) else N ys σ2 H4))
theorem relabel_free {scope : Scope} {env : Env} (hcell : ∀ y ∈ scope.names, y.2 ≠ .cell) {x : Str} (h : (relabel scope env).names.lookup x = some .cell \/ (relabel scope env).names.lookup x = some .free) : ∃ y ∈ scope.names, y.1 = x /\ y.2 = .free := by
 have go : ∀ (names : List (Str × NameKind)), (∀ y ∈ names, y.2 ≠ .cell) -> ∀ k, (names.map fun (n, k) => if (k == .free && env.scope.kind == .function && env.kindOf n == some .cell) then (n, NameKind.cell) else (n, k)).lookup x = some k -> (k = .cell \/ k = .free) -> ∃ y ∈ names, y.1 = x /\ y.2 = .free := by
  intro names
  induction names with
  | nil => intro _ k e _; simp at e
  | cons y r ih =>
   obtain ⟨n, kd⟩ := y;intro hc k e hk;rw [map_cons, lookup_cons] at e;split at e
   ·rename_i hb;cases e;have nc : kd ≠ .cell := hc (n, kd) mem_cons_self;refine ⟨(n, kd), mem_cons_self, ?_, ?_⟩
    ·split at hb
     ·simpa using (eq_of_beq hb).symm
     ·simpa using (eq_of_beq hb).symm
    ·split at hk
     ·rename_i hq;simp only [Bool.and_eq_true] at hq
      simpa using hq.1.1
     ·rcases hk with hk | hk
      ·exact absurd hk nc
      ·exact hk
   ·obtain ⟨y, hy, q⟩ := ih (fun y hy => hc y (mem_cons_of_mem _ hy)) k e hk;exact ⟨y, mem_cons_of_mem _ hy, q⟩
 rcases h with h | h
 ·exact go scope.names hcell _ h (.inl rfl)
 ·exact go scope.names hcell _ h (.inr rfl)
theorem relabel_local {scope : Scope} {env : Env} {x : Str} (h : (relabel scope env).names.lookup x = some .local) : ∃ y ∈ scope.names, y.1 = x /\ y.2 = .local := by
 have go : ∀ (names : List (Str × NameKind)), (names.map fun (n, k) => if (k == .free && env.scope.kind == .function && env.kindOf n == some .cell) then (n, NameKind.cell) else (n, k)).lookup x = some .local -> ∃ y ∈ names, y.1 = x /\ y.2 = .local := by
  intro names
  induction names with
  | nil => intro e; simp at e
  | cons y r ih =>
   obtain ⟨n, kd⟩ := y;intro e;rw [map_cons, lookup_cons] at e;split at e
   ·rename_i hb;refine ⟨(n, kd), mem_cons_self, ?_, ?_⟩
    ·split at hb
     ·simpa using (eq_of_beq hb).symm
     ·simpa using (eq_of_beq hb).symm
    ·split at e
     ·cases e
     ·simpa using e
   ·obtain ⟨y, hy, q⟩ := ih e;exact ⟨y, mem_cons_of_mem _ hy, q⟩
 exact go scope.names h
structure CompOk (X : Cx) (scope : Scope) (T M : List Str) : Prop where
 calm : X.calm = true
 kind : scope.kind = .function
 cell : ∀ y ∈ scope.names, y.2 ≠ .cell
 names : ∀ y ∈ scope.names, y.2 = .local -> scope.names.lookup y.1 = some .local
 loc : ∀ y ∈ scope.names, y.2 = .local -> y.1 ∈ ((".0" : Str) :: T)
 len : M.length = X.N.length
 sub : ∀ (i : Nat) x, M[i]? = some x -> X.N[i]? = some x \/ ∀ y ∈ scope.names, y.1 ≠ x
 off : ∀ x ∈ M, x ∉ ((".0" : Str) :: T)
 free : ∀ y ∈ scope.names, y.2 = .free -> X.env.kindOf y.1 = some .cell \/ X.env.kindOf y.1 = some .free
noncomputable def ent (T : List Str) (σ : St) : St := T.map (fun _ => none) ++ σ
section
variable {X : Cx} {pins : List (Addr × Obj)} {σ : St} {H : Hp} {s : Shared}
theorem Inv.block {scope : Scope} {T M : List Str} {fp : List Addr} {h₁ : Heap} {tk : Nat} {cl : List (Str × Addr)} (I : Inv X pins σ H s) (ok : CompOk X scope T M) (hf : ∀ b ∈ fp, FpOk X pins H b) (ho : ∀ b ∈ fp, ∃ o, s.heap.get? b = some o)
  (hc1 : ∀ x c, cl.lookup x = some c -> X.env.cells.lookup x = some c) (hc2 : ∀ x ∈ scope.names, x.2 = .free -> ∃ c, cl.lookup x.1 = some c)
  (hns : h₁.Ns s.heap.objs.size fun _ => none) (kp : ∀ b o, s.heap.get? b = some o -> h₁.get? b = some o) :
  Inv (compCx X (T ++ M) scope cl s.heap.objs.size s H fp) [] (ent T σ) H { s with heap := h₁, toks := tk } := by
 have fpC : ∀ b ∈ fp, b ≠ s.heap.objs.size := fun b hb z => by
  obtain ⟨o, e⟩ := ho b hb;exact absurd (Heap.lt_size e) (by rw [z]; exact Nat.lt_irrefl _)
 have cellsOk : ∀ x c, (compCx X (T ++ M) scope cl s.heap.objs.size s H fp).env.cells.lookup x = some c -> X.env.cells.lookup x = some c := hc1;refine ⟨⟨I.ok.mod, ok.kind, I.ok.glob, I.ok.blt, le_refl _, fun x y c h1 h2 => I.ok.inj x y c (hc1 x c h1) (hc1 y c h2), fun x hx => ?_, (fun x c h => absurd h (by show ¬ (false = true); decide)), I.ok.hd, I.ok.frames, .inl rfl, fun b hb => ⟨fpC b hb, fun x c e => (hf b hb).2.2.2.2.1 x c (hc1 x c e)⟩, I.bs, le_trans I.ok.bsz I.sz, fun b o e hb => ?_, fun b hb hs => ?_, I.stack, I.stkFree⟩,
  rfl, I.bare, Un.kept kp, ⟨_, hns, fun i x v e1 e2 e3 => ?_⟩, fun x c e => ?_, I.hok.fresh (le_refl _), fun x c e => I.freeC x c (hc1 x c e), fun p hp => absurd (show p ∈ ([] : List (Addr × Obj)) from hp) (by simp), I.hok.kept kp, ?_⟩
 ·obtain ⟨y, hy, e, hfr⟩ := relabel_free ok.cell hx;rw [<- e];exact hc2 y hy hfr
 ·rcases (hf b hb).2.2.2.1 with z | z
  ·exact I.ok.noex b o e z
  ·exact absurd (lt_of_lt_of_le (Heap.lt_size e) (le_trans I.ok.bsz z)) (Nat.lt_irrefl _)
 ·rcases mem_cons.mp (I.stkSub b hs) with z | z
  ·exact (hf b hb).2.1 z
  ·exact (hf b hb).2.2.1 z
 ·-- a name that is known: it is drawn from around
  have hi : T.length <= i := by
   refine le_of_not_lt fun hlt => ?_;unfold ent at e2;rw [List.getElem?_append_left (by simpa using hlt), getElem?_map] at e2
   cases q : T[i]? with
   | none => rw [q] at e2; cases e2
   | some z => rw [q] at e2; cases e2
  have e0' : M[i - T.length]? = some x := by
   have := e1;show M[i - T.length]? = some x
   rw [<- List.getElem?_append_right hi];exact this
  have e1' : X.N[i - T.length]? = some x := by
   rcases ok.sub _ x e0' with z | z
   ·exact z
   ·exfalso;rcases e3 with e3 | e3 | e3
    ·obtain ⟨y, hy, e, hl⟩ := relabel_local e3;exact z y hy e
    ·obtain ⟨y, hy, e, _⟩ := relabel_free ok.cell (.inl e3);exact z y hy e
    ·obtain ⟨y, hy, e, _⟩ := relabel_free ok.cell (.inr e3);exact z y hy e
  have e2' : σ[i - T.length]? = some (some v) := by
   unfold ent at e2;rw [List.getElem?_append_right (by simpa using hi), length_map] at e2
   exact e2
  have hfree : (relabel scope X.env).names.lookup x = some .cell \/ (relabel scope X.env).names.lookup x = some .free := by
   rcases e3 with e3 | e3 | e3
   ·obtain ⟨y, hy, e, hl⟩ := relabel_local e3;exact absurd (by rw [<- e]; exact ok.loc y hy hl) (ok.off x (mem_of_getElem? e0'))
   ·exact .inl e3
   ·exact .inr e3
  obtain ⟨y, hy, e, hfr⟩ := relabel_free ok.cell hfree;subst e;have hk := ok.free y hy hfr;obtain ⟨m, hn, hl⟩ := I.loc;obtain ⟨u, r, l⟩ := hl _ _ v e1' e2' (by rcases hk with hk | hk; exact .inr (.inl hk); exact .inr (.inr hk))
  refine ⟨u, r, .inr ⟨hfree, ?_⟩⟩;rcases l with ⟨l1, _⟩ | ⟨_, c, ec, z⟩
  ·rcases hk with hk | hk
   ·rw [hk] at l1; cases l1
   ·rw [hk] at l1; cases l1
  ·obtain ⟨c', ec'⟩ := hc2 y hy hfr;have := hc1 _ _ ec';rw [ec] at this; cases this;obtain ⟨o, ho', hd⟩ := z;exact ⟨c, ec', o, kp _ _ ho', hd⟩
 ·obtain ⟨v, o, ho', hd⟩ := I.cell x c (hc1 x c e);exact ⟨v, o, kp _ _ ho', hd⟩
 ·show (ent T σ).length = (T ++ M).length;unfold ent;rw [length_append, length_append, length_map, I.len, ok.len]
end
section
variable {X : Cx} {elt tg iter : Expr} {ifs : List Expr} {scope : Scope} {T M : List Str} {pos : Pos} {wi : TI} {g : TG} {tt : TT} {te : TE}
theorem comp_run {pins : List (Addr × Obj)} {s2 : Shared} {σ : St} {H1 : Hp} {Q : VK} {J : It} {it : Addr} {fp : List Addr} {tn : Nat -> Heap -> Prop} {cl : List (Str × Addr)} {RR : Value -> Addr -> Result -> Shared -> Prop} {E : Value -> Shared -> Prop} (ok : CompOk X scope T M)
  (hin : ∀ cl C s₀ H₀ fp, PG (compCx X (T ++ M) scope cl C s₀ H₀ fp) tg g /\ PTs (compCx X (T ++ M) scope cl C s₀ H₀ fp) ifs tt /\ PE (compCx X (T ++ M) scope cl C s₀ H₀ fp) elt te)
  (hc1 : ∀ x c, cl.lookup x = some c -> X.env.cells.lookup x = some c) (hc2 : ∀ x ∈ scope.names, x.2 = .free -> ∃ c, cl.lookup x.1 = some c)
  (I2 : Inv X pins σ H1 s2) (Tn : Turn X.prog X.w X.K tg J fp it tn) (st2 : tn 0 s2.heap) (f2 : ∀ b ∈ fp, FpOk X pins H1 b)
  (h : ∀ D, H1 D = none -> ∃ W : Nat -> Nat -> List V -> St -> Hp -> Prop, (∃ m, W 0 m [] (ent T σ) (upd H1 D (.lst []))) /\
   ∀ i m ys σ1 H2, W i m ys σ1 H2 -> H2 D = some (.lst ys) /\ ((J.stop i H2 /\ Q (.ref D) H2) \/ (J.go i H2 /\ ∃ N : List V -> St -> Hp -> Prop, (∀ ys' σ' H', N ys' σ' H' -> ∃ m', m' < m /\ W (i + 1) m' ys' σ' H') /\
    ∀ x H', J.yld i H2 x H' -> g x σ1 H' fun σ2 H3 => tt σ2 H3 fun b H4 => if b = true then te σ2 H4 fun y H5 => H5 D = some (.lst ys) /\ ys.length < sizeLine /\ N (ys ++ [y]) σ2 (upd H5 D (.lst (ys ++ [y]))) else N ys σ2 H4)))
  (hRR : ∀ D C H' s', Inv X pins σ H' s' -> (∃ m, s'.heap.Ns C m) -> H' C = none -> C ≠ X.env.locals -> X.s₀.heap.objs.size <= C -> (∀ x c, X.env.cells.lookup x = some c -> c ≠ C) -> (∀ p ∈ X.pn ++ pins, p.1 ≠ C) -> Q (.ref D) H' -> RR (.ref D) C (.ok .next) s') :
  wpAny (model X.prog X.w) X.A (newList []) (fun acc s₃ => wpAny (model X.prog X.w) X.A (newFunctionEnv scope X.env.globals cl [] X.env.qual none .none (some X.env)) (fun cenv s₄ =>
   codeAny (model X.prog X.w) X.A (.compStart (.ListComp elt [⟨tg, iter, ifs, 0⟩] scope pos) 0 (.ref it) acc { cenv with scope := relabel scope X.env }) (RR acc cenv.locals) s₄) E s₃) E s2 := by
 refine wpAny_newObj_type ?_;have hD : H1 s2.heap.objs.size = none := I2.hok.fresh (le_refl _);obtain ⟨W, ⟨m0, w0⟩, turn⟩ := h _ hD;have I3 : Inv X pins σ (upd H1 s2.heap.objs.size (.lst [])) { s2 with heap := s2.heap.push { cls := .type "list", data := .seq ([] : List Value).toArray } } := I2.lnew (t' := s2.toks) .nil (zero_le _)
 have f3 : ∀ b ∈ fp, FpOk X pins (upd H1 s2.heap.objs.size (.lst [])) b := fun b hb => by
  have q := f2 b hb;obtain ⟨o, e, _⟩ := Tn.obj 0 _ st2 b hb;exact ⟨by rw [upd_ne (ne_of_lt (Heap.lt_size e))]; exact q.1, q.2⟩
 have st3 : tn 0 (s2.heap.push { cls := .type "list", data := .seq ([] : List Value).toArray }) := Tn.keep _ _ _ st2 fun b _ o e => Heap.get?_push_of_some _ e;generalize hs3 : ({ s2 with heap := s2.heap.push { cls := .type "list", data := .seq ([] : List Value).toArray } } : Shared) = s3 at I3 ⊢
 have st3' : tn 0 s3.heap := by rw [<- hs3]; exact st3
 generalize hH3 : upd H1 s2.heap.objs.size (.lst []) = H3 at I3 f3 w0;generalize hDD : s2.heap.objs.size = D at *
 refine wpAny_newFunctionEnv ok.cell (by intro y hy; simp at hy) (fun h₁ hns₁ hsb₁ => ?_) ok.kind
 have kp : ∀ b o, s3.heap.get? b = some o -> h₁.get? b = some o := fun b o e => hsb₁.extBut b o (ne_of_lt (Heap.lt_size e)) (Heap.get?_push_of_some _ e);have hns : h₁.Ns s3.heap.objs.size fun _ => none := by simpa using hns₁
 have I4 : Inv (compCx X (T ++ M) scope cl s3.heap.objs.size s3 H3 fp) [] (ent T σ) H3 { s3 with heap := h₁, toks := s3.toks + ([] : List (Str × Value)).length } :=
  I3.block ok f3 (fun b hb => let ⟨o, e, _⟩ := Tn.obj 0 _ st3' b hb; ⟨o, e⟩) hc1 hc2 hns kp
 have st4 : tn 0 h₁ := Tn.keep _ _ _ st3' fun b _ o e => kp b o e;obtain ⟨hG, hT, hE⟩ := hin cl s3.heap.objs.size s3 H3 fp;have back : ∀ {pins' : List (Addr × Obj)} {σ' : St} {H' : Hp} {s' : Shared}, Inv (compCx X (T ++ M) scope cl s3.heap.objs.size s3 H3 fp) pins' σ' H' s' -> Inv X pins σ H' s' := fun {pins' σ' H' s'} I' =>
  I3.call' (ch := fp) I'.os I'.base I'.hok I'.bare fun b hb => let q := f3 b hb; ⟨q.2.2.2.1, q.2.1, q.2.2.2.2.1, q.2.2.2.2.2⟩
 have loop : ∀ s4 : Shared, Inv (compCx X (T ++ M) scope cl s3.heap.objs.size s3 H3 fp) [] (ent T σ) H3 s4 -> tn 0 s4.heap ->
   codeAny (model X.prog X.w) X.A (.compLoop (.ListComp elt [⟨tg, iter, ifs, 0⟩] scope pos) 0 (.ref it) (.ref D) (compEnvC scope cl s3.heap.objs.size X.env)) (RR (.ref D) s3.heap.objs.size) s4 := by
  intro s4 I4 st4;have fpX : ∀ {pins' : List (Addr × Obj)} {H' : Hp}, pins' = [] -> (∀ b ∈ fp, H' b = none) -> ∀ b ∈ fp, FpOk (compCx X (T ++ M) scope cl s3.heap.objs.size s3 H3 fp) pins' H' b := fun {pins' H'} ep hn b hb => by
   subst ep;refine ⟨hn b hb, (I4.ok.exf b hb).1, I4.ok.exfs b hb, .inl hb, (I4.ok.exf b hb).2, fun p hp => absurd (show p ∈ ([] : List (Addr × Obj)) from hp) (by simp)⟩
  refine codeAny_compLoop_gen (fun n s' => ∃ i ys σ' H', Inv (compCx X (T ++ M) scope cl s3.heap.objs.size s3 H3 fp) [] σ' H' s' /\ tn i s'.heap /\ (∀ b ∈ fp, H' b = none) /\ W i n ys σ' H') ?_ m0 ⟨0, [], ent T σ, H3, I4, st4, fun b hb => (f3 b hb).1, w0⟩
  rintro n s5 ⟨i, ys, σ5, H5, I5, st5, fr5, w5⟩
  obtain ⟨hDl, hstep⟩ := turn i n ys σ5 H5 w5;rcases hstep with ⟨stop, qn⟩ | ⟨go, N, hN, step⟩
  ·refine thn (Tn.done (compCx X (T ++ M) scope cl s3.heap.objs.size s3 H3 fp) rfl rfl rfl ok.calm i [] s5 _ H5 _ I5 (fpX rfl fr5) st5 stop) fun r s6 zz => ?_;obtain ⟨hr, I6⟩ := zz;subst hr;have I7 := back I6;obtain ⟨m, hm, _⟩ := I6.loc;refine hRR D s3.heap.objs.size H5 s6 I7 ⟨m, hm⟩ I6.free ?_ ?_ ?_ ?_ qn
   ·exact Nat.ne_of_gt I3.lt
   ·exact I3.sz
   ·intro x c e z;obtain ⟨v, q⟩ := I3.cell x c e;exact absurd q.lt (by rw [z]; exact Nat.lt_irrefl _)
   ·intro p hp z;exact absurd (Heap.lt_size (I3.pin p hp).1) (by rw [z]; exact Nat.lt_irrefl _)
  ·refine thn (Tn.item (compCx X (T ++ M) scope cl s3.heap.objs.size s3 H3 fp) rfl rfl rfl ok.calm i [] s5 _ H5 _ I5 (fpX rfl fr5) st5 go) fun r s6 zz => ?_;obtain ⟨u, hr, h6⟩ := zz;subst hr;refine thn h6 fun _ s7 zz => ?_;obtain ⟨x, H7, I7, r7, y7, st7, fr7⟩ := zz;have I7' := I7.pinned (fpX rfl fr7) (Tn.obj _ _ st7);refine thn (hG _ s7 _ H7 x u _ I7' r7 (step x H7 y7)) fun _ s8 zz => ?_;obtain ⟨σ8, H8, I8, q8⟩ := zz;have again : ∀ {s9 : Shared} {H9 : Hp} {ys' : List V}, Inv (compCx X (T ++ M) scope cl s3.heap.objs.size s3 H3 fp) ([] ++ pinsAt fp s7.heap) σ8 H9 s9 -> N ys' σ8 H9 ->
     ∃ m, m < n /\ ∃ i ys σ' H', Inv (compCx X (T ++ M) scope cl s3.heap.objs.size s3 H3 fp) [] σ' H' s9 /\ tn i s9.heap /\ (∀ b ∈ fp, H' b = none) /\ W i m ys σ' H' := fun {s9 H9 ys'} I9 n9 => by
    obtain ⟨m', hm, w9⟩ := hN ys' σ8 H9 n9;refine ⟨m', hm, i + 1, ys', σ8, H9, I9.unpinned, Tn.keep _ _ _ st7 fun b hb o e => (I9.pin (b, o) (mem_append_right _ (mem_append_right _ (mem_pinsAt hb e)))).1, fun b hb => ?_, w9⟩;obtain ⟨o, e, d⟩ := Tn.obj _ _ st7 b hb;exact (I9.pin (b, o) (mem_append_right _ (mem_append_right _ (mem_pinsAt hb e)))).2.1
   refine thn (hT _ s8 σ8 H8 _ I8 q8) fun b s9 zz => ?_;obtain ⟨H9, I9, q9⟩ := zz;cases b with
   | false => exact again I9 q9
   | true =>
    refine thn (hE _ s9 σ8 H9 _ I9 q9) fun u10 s10 zz => ?_;obtain ⟨y, H10, I10, r10, e10, l10, n10⟩ := zz;refine thn (mt_append (X := compCx X (T ++ M) scope cl s3.heap.objs.size s3 H3 fp) _ s10 σ8 H10 (.ref D) [y] (.ref D) [u10] (fun v H' => v = .non /\ H' = upd H10 D (.lst (ys ++ [y]))) I10 rfl (.cons r10 .nil) ⟨D, ys, y, rfl, rfl, e10, l10, rfl, rfl⟩) fun u11 s11 zz => ?_;obtain ⟨z, H11, I11, r11, _, e11⟩ := zz;subst e11;exact again I11 n10
 exact codeAny_compStart_list (loop _ I4 st4) (Tn.self _ 0 _ _ _ st4 (loop _ I4 st4))
theorem closeOk (ok : CompOk X scope T M) {pins : List (Addr × Obj)} {σ : St} {H : Hp} {s : Shared} (I : Inv X pins σ H s) : ∃ cl, closureFor scope X.env = pure cl /\ (∀ x c, cl.lookup x = some c -> X.env.cells.lookup x = some c) /\ (∀ x ∈ scope.names, x.2 = .free -> ∃ c, cl.lookup x.1 = some c) :=
 closure_of scope.names scope rfl fun x hx hf => I.ok.has x.1 (ok.free x hx hf)
theorem pe_comp (ok : CompOk X scope T M)
  (hin : ∀ cl C s₀ H₀ fp, PG (compCx X (T ++ M) scope cl C s₀ H₀ fp) tg g /\ PTs (compCx X (T ++ M) scope cl C s₀ H₀ fp) ifs tt /\ PE (compCx X (T ++ M) scope cl C s₀ H₀ fp) elt te)
  (hi : PI X tg iter wi) (hs : ∀ x, foldedSetIterable iter X.env x = pure x := by intro _; rfl) : PE X (.ListComp elt [⟨tg, iter, ifs, 0⟩] scope pos) (tComp (ent T) wi g tt te) := by
 intro pins s σ H Q I h;obtain ⟨cl, hcl, hc1, hc2⟩ := closeOk ok I;rw [eval_ListComp];refine wpAny_comprehension_free (use := none) rfl hs hcl ok.kind ok.names (thn (hi pins s σ H _ I h) fun v s1 h1 => thn h1 fun itv s2 h2 => ?_);obtain ⟨it, fp, tn, J, H2, e, I2, Tn, st2, f2, hh⟩ := h2;subst e;refine comp_run (Q := Q) (RR := fun acc C => compPost (model X.prog X.w) X.A X.xe none (EP X pins σ Q) acc C) ok hin hc1 hc2 I2 Tn st2 f2 hh ?_;intro D C H' s' I' hm hn n1 n2 n3 n4 q;obtain ⟨m, hm⟩ := hm;exact ⟨m, hm, fun h' sb => ⟨.ref D, H', I'.turned (t' := s'.toks) (fun b o hb e => (sb.2 b hb).trans e) hn (Ne.symm (Ne.symm n1)) (.inr n2) n3 n4, rfl, q⟩⟩
theorem ps_comp {i : Nat} {x : Str} {px spos : Pos} (ok : CompOk X scope T M) (hN : X.N.Nodup) (hix : X.N[i]? = some x) (hx : X.env.scope.names.lookup x = some .local)
  (hin : ∀ cl C s₀ H₀ fp, PG (compCx X (T ++ M) scope cl C s₀ H₀ fp) tg g /\ PTs (compCx X (T ++ M) scope cl C s₀ H₀ fp) ifs tt /\ PE (compCx X (T ++ M) scope cl C s₀ H₀ fp) elt te)
  (hi : PI X tg iter wi) (hsw : swapsWith (.ListComp elt [⟨tg, iter, ifs, 0⟩] scope pos) (some (.Name x px)) spos.line X.env = pure true := by rfl) (hs : ∀ x, foldedSetIterable iter X.env x = pure x := by intro _; rfl) :
  PS X (.Assign [.Name x px] (.ListComp elt [⟨tg, iter, ifs, 0⟩] scope pos) spos) (tAsg (gh (tComp (ent T) wi g tt te)) (gName i)) := by
 intro pins s σ H D3 I h;obtain ⟨cl, hcl, hc1, hc2⟩ := closeOk ok I;rw [exec_Assign_Name_used _ _ _ _ hsw];refine wpAny_bind (wpAny_standAt (wpAny_bind ?_));show wpAny _ X.A (do let _ <- comprehension (.ListComp elt [⟨tg, iter, ifs, 0⟩] scope pos) scope X.env _ (newList []) false (eval iter X.env) (some (assign (.Name x px) X.env))) _ _ s
 refine wpAny_bind (wpAny_mono (wpAny_comprehension_free (use := some (assign (.Name x px) X.env)) (Q := fun _ s' => SP X pins D3 .next s') rfl hs hcl ok.kind ok.names
  (thn (hi pins s σ H _ I h) fun v s1 h1 => thn h1 fun itv s2 h2 => ?_)) (fun _ s' hq => wpAny_pure (wpAny_pure hq)) fun _ _ e => e)
 obtain ⟨it, fp, tn, J, H2, e, I2, Tn, st2, f2, hh⟩ := h2;subst e;refine comp_run (Q := fun v H1 => gName i v σ H1 D3.nx \/ ∃ p xs, v = .ref p /\ H1 p = some (.lst xs) /\ ∀ o, gName i v σ (upd H1 p (.frz o (.lst xs))) D3.nx) (RR := fun acc C => compPost (model X.prog X.w) X.A X.xe (some (assign (.Name x px) X.env)) (fun _ s' => SP X pins D3 .next s') acc C) ok hin hc1 hc2 I2 Tn st2 f2 hh ?_;intro D C H' s' I' hm hn n1 n2 n3 n4 q;obtain ⟨m, hm⟩ := hm;have fin : ∀ {H'' : Hp}, Inv X pins σ H'' s' -> H'' C = none -> D3.nx (σ.set i (some (.ref D))) H'' ->
   wpAny (model X.prog X.w) X.A (assign (.Name x px) X.env (.ref D)) (fun _ s'' => ∃ m, s''.heap.Ns C m /\ ∀ h', Heap.SameBut C s''.heap h' -> SP X pins D3 .next { s'' with heap := h' }) X.xe s' := fun {H''} J' hn' q' => by
  refine wpAny_assign_Name (store_ok2 (v := V.ref D) J' hN hix (.inl hx) rfl (fun s'' I'' ⟨a, sb, ha⟩ => ?_) (.inr hx));have aC : C ≠ a := by
   rcases ha with z | z
   ·rw [z]; exact n1
   ·exact fun y => n3 _ _ z y.symm
  refine ⟨m, hm.sameBut sb aC, fun h' sb' => ⟨_, H'', I''.turned (t' := s''.toks) (fun b o hb e => (sb'.2 b hb).trans e) hn' n1 (.inr n2) n3 n4, q'⟩⟩
 rcases q with q | ⟨p, xs, ep, e1, q⟩
 ·exact fin I' hn q
 ·obtain ⟨o, I''⟩ := I'.freeze e1;refine fin I'' ?_ (q o);rw [upd_ne (fun z => by subst z; rw [hn] at e1; cases e1)]; exact hn
end
section
variable {X : Cx} {tg : Expr}
theorem PG.imp {e : Expr} {t t' : TG} (h : PG X e t) (i : ∀ v σ H Q, t' v σ H Q -> t v σ H Q) : PG X e t' := fun pins s σ H v u Q I r q => h pins s σ H v u Q I r (i v σ H Q q)
theorem PGs.imp {es : List Expr} {t t' : TGs} (h : PGs X es t) (i : ∀ vs σ H Q, t' vs σ H Q -> t vs σ H Q) : PGs X es t' := fun pins s σ H v u Q I r q => h pins s σ H v u Q I r (i v σ H Q q)
theorem PI.imp {e : Expr} {t t' : TI} (h : PI X tg e t) (i : ∀ σ H R, t' σ H R -> t σ H R) : PI X tg e t' := fun pins s σ H R I q => h pins s σ H R I (i σ H R q)
variable {pins : List (Addr × Obj)} {σ : St} {H : Hp} {s : Shared} {R : It -> Hp -> Prop} {E : Value -> Shared -> Prop} {a : Addr} {xs : List V}
theorem iter_list (I : Inv X pins σ H s) (hq : SqL X.K H a xs) (q : R (Itl X.K a) H) : wpAny (model X.prog X.w) X.A (pyIter (.ref a)) (PIE X pins σ tg R) E s := by
 obtain ⟨its, rv, p, hz⟩ := I.list hq;refine wpAny_pyIter_list p.isList ?_;refine ⟨s.heap.objs.size, [s.heap.objs.size], _, _, H, rfl, I.kept (t' := s.toks) fun b o e => Heap.get?_push_of_some _ e, turn_list a _, ⟨_, Heap.get?_push_size _ rfl, rfl, rfl⟩, fun b hb => ?_, q⟩;have e : b = s.heap.objs.size := by simpa using hb
 subst e;exact I.fpOk (le_refl _) (I.hok.fresh (le_refl _))
theorem iter_tup (I : Inv X pins σ H s) (hq : SqT X.K H a xs) (q : R (Itt X.K a) H) : wpAny (model X.prog X.w) X.A (pyIter (.ref a)) (PIE X pins σ tg R) E s := by
 obtain ⟨its, rv, p, hz⟩ := I.tuple hq;refine wpAny_pyIter_tuple (show s.heap.IsTuple a its.toArray from p) ?_
 refine ⟨s.heap.objs.size, [s.heap.objs.size], _, _, H, rfl, I.kept (t' := s.toks) fun b o e => Heap.get?_push_of_some _ e, turn_tuple a _, ⟨_, Heap.get?_push_size _ rfl, rfl, rfl⟩, fun b hb => ?_, q⟩;have e : b = s.heap.objs.size := by simpa using hb
 subst e;exact I.fpOk (le_refl _) (I.hok.fresh (le_refl _))
theorem iter_str {z : Str} {t : Tok} (I : Inv X pins σ H s) (q : R (Its (signsV z)) H) : wpAny (model X.prog X.w) X.A (pyIter (.str z t)) (PIE X pins σ tg R) E s := by
 have fin : ∀ (ty : String), (ty = "str_ascii_iterator" \/ ty = "str_iterator") -> PIE X pins σ tg R (.ref s.heap.objs.size) { s with heap := s.heap.push { cls := .type ty, data := .fields #[.str z t, .int 0 0] } } := fun ty hty => by
  refine ⟨s.heap.objs.size, [s.heap.objs.size], _, _, H, rfl, I.kept (t' := s.toks) fun b o e => Heap.get?_push_of_some _ e, turn_str _ z t ty hty, ⟨_, Heap.get?_push_size _ rfl, rfl, rfl⟩, fun b hb => ?_, q⟩;have e : b = s.heap.objs.size := by simpa using hb
  subst e;exact I.fpOk (le_refl _) (I.hok.fresh (le_refl _))
 cases ha : z.cps.all (· < 128)
 ·exact wpAny_pyIter_wide ha (fin _ (.inr rfl))
 ·exact wpAny_pyIter_ascii ha (fin _ (.inl rfl))
end
end L2
namespace L3
open PySem PySem.Spec PyProof.Rows L2
abbrev TG3 := D -> St3 -> Gp -> (St3 -> Gp -> Prop) -> Prop
abbrev TGs3 := List D -> St3 -> Gp -> (St3 -> Gp -> Prop) -> Prop
noncomputable def liftG (K : Frag) (g : TG3) : TG := fun v τ H Q => ∃ d σ G Q3, RD K H d v /\ RS K H σ τ /\ RG K H G /\ g d σ G Q3 /\ ∀ σ' G' τ' H', Q3 σ' G' -> Kp G H G' H' -> RG K H' G' -> RS K H' σ' τ' -> Q τ' H'
noncomputable def liftGs (K : Frag) (g : TGs3) : TGs := fun vs τ H Q => ∃ ds σ G Q3, RDs K H ds vs /\ RS K H σ τ /\ RG K H G /\ g ds σ G Q3 /\ ∀ σ' G' τ' H', Q3 σ' G' -> Kp G H G' H' -> RG K H' G' -> RS K H' σ' τ' -> Q τ' H'
noncomputable def gN (i : Nat) : TG3 := fun d σ G Q => Q (σ.set i (some d)) G
noncomputable def gNil3 : TGs3 := fun ds σ G Q => match ds with
 | [] => Q σ G
 | _ => False
noncomputable def gCons3 (t : TG3) (u : TGs3) : TGs3 := fun ds σ G Q => match ds with
 | d :: r => t d σ G fun σ' G' => u r σ' G' Q
 | [] => False
noncomputable def gTup3 (n : Nat) (t : TGs3) : TG3 := fun d σ G Q => match d with
 | .tup ds => ds.length = n /\ t ds σ G Q
 | _ => False
section
variable {X : Cx} {pos : Pos} {e : Expr} {es : List Expr} {t : TG3} {u : TGs3}
theorem g_name {i : Nat} {x : Str} (hN : X.N.Nodup) (hi : X.N[i]? = some x) (hx : Loc X.env.scope x) (hf : X.fn x = true \/ X.env.scope.names.lookup x = some .local := by first | exact .inl rfl | exact .inr rfl | assumption) : PG X (.Name x pos) (liftG X.K (gN i)) :=
 (pg_name hN hi hx hf).imp fun v τ H Q zz => by
 obtain ⟨d, σ, G, Q3, rd, rs, rg, h, k⟩ := zz;exact (
  k _ G _ H h Kp.refl rg (rs.set rd i))
theorem g_nil : PGs X [] (liftGs X.K gNil3) := pgs_nil.imp fun vs τ H Q zz => by
 obtain ⟨ds, σ, G, Q3, rd, rs, rg, h, k⟩ := zz;cases ds with
 | nil => exact ⟨rd.inv_nil, k _ G _ H h Kp.refl rg rs⟩
 | cons _ _ => exact h.elim
theorem g_cons (h1 : PG X e (liftG X.K t)) (h2 : PGs X es (liftGs X.K u)) (hs : (assignEach (e :: es) X.env).map (·.2) = assign e X.env :: (assignEach es X.env).map (·.2) := by rfl) : PGs X (e :: es) (liftGs X.K (gCons3 t u)) :=
 (pgs_cons h1 h2 hs).imp fun vs τ H Q zz => by
  obtain ⟨ds, σ, G, Q3, rd, rs, rg, h, k⟩ := zz;cases ds with
  | nil => exact h.elim
  | cons d r =>
   obtain ⟨x, xs, e1, r1, r2⟩ := rd.inv_cons;refine ⟨x, xs, e1, d, σ, G, _, r1, rs, rg, h, fun σ' G' τ' H' q k' rg' rs' => ⟨r, σ', G', Q3, RDs.mono (k'.stb rg) _ _ r2, rs', rg', q, fun σ2 G2 τ2 H2 q2 k2 => k σ2 G2 τ2 H2 q2 (k'.trans k2)⟩⟩
theorem g_tup {k : Nat} {n : Nat} (hc : X.calm = true) (h : PGs X es (liftGs X.K u)) (hn : (assignEach es X.env).length = n := by rfl) (hst : (assignEach es X.env).findIdx? (·.1) = none := by rfl) : PG X (.Tuple es k pos) (liftG X.K (gTup3 n u)) :=
 (pg_tup hc h hn hst).imp fun v τ H Q zz => by
  obtain ⟨d, σ, G, Q3, rd, rs, rg, h, k⟩ := zz;cases d with
  | tup ds =>
   simp only [RD] at rd;obtain ⟨a, xs, e1, q, r⟩ := rd;exact ⟨a, xs, e1, q, by rw [<- r.length]; exact h.1, ds, σ, G, Q3, r, rs, rg, h.2, k⟩
  | _ => exact h.elim
end
abbrev TI3 := St3 -> Gp -> (List D -> Gp -> Prop) -> Prop
noncomputable def ItOk (K : Frag) (G0 : Gp) (H0 : Hp) (ds : List D) (J : It) : Prop := ∀ i G H, Kp G0 H0 G H -> RG K H G ->
 (i < ds.length -> J.go i H /\ ∀ x H', J.yld i H x H' -> Kp G H G H' /\ RG K H' G /\ ∃ d, ds[i]? = some d /\ RD K H' d x) /\ (i = ds.length -> J.stop i H)
noncomputable def liftI (K : Frag) (ti : TI3) : TI := fun τ H R => ∃ σ G Q3, RS K H σ τ /\ RG K H G /\ ti σ G Q3 /\ ∀ ds G' J H', Q3 ds G' -> Kp G H G' H' -> RG K H' G' -> ItOk K G' H' ds J -> R J H'
noncomputable def signs (x : Str) : List D := x.cps.toList.map fun c => D.str ⟨#[c]⟩
theorem it_same {K : Frag} {G0 : Gp} {H0 : Hp} {ds : List D} {xs : List V} (r : ∀ H, RDs K H ds xs) : ItOk K G0 H0 ds (Its xs) := fun i G H _ rg => by
 have hl := (r H).length;refine ⟨fun hi => ⟨(show i < xs.length by walk_at "o"), fun x H' y => ?_⟩, fun e => (show i = xs.length by walk_at "o")⟩
 obtain ⟨rfl, hx⟩ := y;refine ⟨Kp.refl, rg, ds[i], by simp [hi], ?_⟩
 obtain ⟨y, e, q⟩ := (r H').get (i := i) (d := ds[i]) (by simp [hi])
 rw [hx] at e; cases e;exact q
theorem it_list {K : Frag} {G0 : Gp} {H0 : Hp} {ds : List D} {xs : List V} {a : Addr} (rg0 : RG K H0 G0) (f : FzL K H0 a xs) (r : RDs K H0 ds xs) : ItOk K G0 H0 ds (Itl K a) := fun i G H k rg => by
 have hl := r.length;have f' := (k.stb rg0).l _ _ f;have r' := RDs.mono (k.stb rg0) _ _ r;refine ⟨fun hi => ⟨⟨xs, xs[i]'(by walk_at "o"), f'.sq, by simp [show i < xs.length by walk_at "o"]⟩, fun x H' y => ?_⟩, fun e => ⟨xs, f'.sq, by walk_at "o"⟩⟩
 obtain ⟨rfl, hx⟩ := y;refine ⟨Kp.refl, rg, ds[i], by simp [hi], ?_⟩
 obtain ⟨y, e, q⟩ := r'.get (i := i) (d := ds[i]) (by simp [hi])
 rw [hx xs f'.sq] at e; cases e;exact q
theorem it_tup {K : Frag} {G0 : Gp} {H0 : Hp} {ds : List D} {xs : List V} {a : Addr} (rg0 : RG K H0 G0) (f : SqT K H0 a xs) (r : RDs K H0 ds xs) : ItOk K G0 H0 ds (Itt K a) := fun i G H k rg => by
 have hl := r.length;have f' := (k.stb rg0).t _ _ f;have r' := RDs.mono (k.stb rg0) _ _ r;refine ⟨fun hi => ⟨⟨xs, xs[i]'(by walk_at "o"), f', by simp [show i < xs.length by walk_at "o"]⟩, fun x H' y => ?_⟩, fun e => ⟨xs, f', by walk_at "o"⟩⟩
 obtain ⟨rfl, hx⟩ := y;refine ⟨Kp.refl, rg, ds[i], by simp [hi], ?_⟩
 obtain ⟨y, e, q⟩ := r'.get (i := i) (d := ds[i]) (by simp [hi])
 rw [hx xs f'] at e; cases e;exact q
noncomputable def itemsOf : D -> Option (List D)
 | .lst ds => some ds
 | .fl ds => some ds
 | .tup ds => some ds
 | .str x => some (signs x)
 | _ => none
noncomputable def iSeq (te : TE3) : TI3 := fun σ G Q => te σ G fun d G' => match itemsOf d with
 | some ds => Q ds G'
 | none => False
noncomputable def rangeD (lo : Int) (n : Nat) : List D := (List.range n).map fun k => D.int (lo + (k : Nat))
theorem it_range {K : Frag} {G0 : Gp} {H0 : Hp} {lo : Int} {n : Nat} : ItOk K G0 H0 (rangeD lo n) (Itr lo n) := fun i G H _ rg => by
 have hl : (rangeD lo n).length = n := by simp [rangeD]
 rw [hl];refine ⟨fun hi => ⟨hi, fun x H' y => ?_⟩, fun e => (show n <= i by walk_at "o")⟩
 obtain ⟨rfl, rfl⟩ := y;exact ⟨Kp.refl, rg, .int (lo + (i : Nat)), by simp [rangeD, hi], rd_int⟩
noncomputable def iR1 (ta : TA3) : TI3 := fun σ G Q => ta σ G fun ds G' => match ds with
 | [.int j] => (-(2 ^ 62) <= j /\ j < 2 ^ 62) /\ Q (rangeD 0 j.toNat) G'
 | _ => False
noncomputable def iR2 (ta : TA3) : TI3 := fun σ G Q => ta σ G fun ds G' => match ds with
 | [.int i, .int j] => (-(2 ^ 62) <= i /\ i < 2 ^ 62 /\ -(2 ^ 62) <= j /\ j < 2 ^ 62) /\ Q (rangeD i (j - i).toNat) G'
 | _ => False
section
variable {X : Cx} {tg e : Expr} {te : TE3}
theorem i_seq (h : PE X e (lift X.K te)) : PI X tg e (liftI X.K (iSeq te)) := by
 intro pins s τ H R I hq;obtain ⟨σ, G, Q3, rs, rg, hq, k⟩ := hq;refine thn (pe_val h pins s τ H (fun v H1 => ∃ d G1, Kp G H G1 H1 /\ RG X.K H1 G1 /\ RD X.K H1 (val d) v /\ (match itemsOf d with | some ds => Q3 ds G1 | none => False)) I ⟨σ, G, _, rs, rg, hq, fun d G' v H' q k' rg' rd => ⟨d, G', k', rg', rd, q⟩⟩) fun u s1 zz => ?_
 obtain ⟨v, H1, I1, r1, d, G1, k1, rg1, rd, q⟩ := zz;have seq : ∀ {a : Addr} {xs : List V} {ds : List D}, FzL X.K H1 a xs -> RDs X.K H1 ds xs -> Q3 ds G1 -> wpAny (model X.prog X.w) X.A (pyIter (.ref a)) (PIE X pins τ tg R) X.xe s1 := fun f r q => iter_list I1 f.sq (k _ G1 _ H1 q k1 rg1 (it_list rg1 f r));cases d with
 | lst ds =>
  simp only [val, RD] at rd;obtain ⟨a, xs, rfl, f, r⟩ := rd;cases r1;exact seq f r q
 | fl ds =>
  simp only [val, RD] at rd;obtain ⟨a, xs, rfl, f, r⟩ := rd;cases r1;exact seq f r q
 | tup ds =>
  simp only [val, RD] at rd;obtain ⟨a, xs, rfl, f, r⟩ := rd;cases r1;exact iter_tup I1 f (k _ G1 _ H1 q k1 rg1 (it_tup rg1 f r))
 | str z =>
  simp only [val, RD] at rd;subst rd;obtain ⟨t, rfl⟩ := r1;refine iter_str I1 (k _ G1 _ H1 q k1 rg1 (it_same fun H' => ?_));have : signs z = (z.cps.toList.map fun c => (⟨#[c]⟩ : Str)).map D.str := by simp [signs]
  rw [this];have e2 : signsV z = (z.cps.toList.map fun c => (⟨#[c]⟩ : Str)).map V.str := by simp [signsV]
  rw [e2];exact RDs.strs _
 | _ => exact q.elim
theorem i_range1 {a : Expr} {ta : TA3} {p pos : Pos} (hg : Gl X "range") (hm : X.mg "range" = none) (ha : PA X [a] (liftA X.K ta)) (hs : starEach [a] X.env = [(false, eval a X.env)] := by rfl) : PI X tg (.Call (.Name "range" p) [a] [] pos) (liftI X.K (iR1 ta)) :=
 (pi_range1 hg hm ha hs).imp fun τ H R zz => by
 obtain ⟨σ, G, Q3, rs, rg, h, k⟩ := zz;exact (
  ⟨σ, G, _, rs, rg, h, fun ds G1 vs H1 q k1 rg1 rds => by
    split at q
    ·rename_i j;obtain ⟨x, r, e1, r1, r2⟩ := rds.inv_cons;have := r2.inv_nil;simp only [RD] at r1;subst e1 this r1;exact ⟨j, rfl, q.1.1, q.1.2, k _ G1 _ H1 q.2 k1 rg1 it_range⟩
    ·exact q.elim⟩)
theorem i_range2 {a b : Expr} {ta : TA3} {p pos : Pos} (hg : Gl X "range") (hm : X.mg "range" = none) (ha : PA X [a, b] (liftA X.K ta)) (hs : starEach [a, b] X.env = [(false, eval a X.env), (false, eval b X.env)] := by rfl) (hs2 : starEach [b] X.env = [(false, eval b X.env)] := by rfl) :
  PI X tg (.Call (.Name "range" p) [a, b] [] pos) (liftI X.K (iR2 ta)) :=
 (pi_range2 hg hm ha hs hs2).imp fun τ H R zz => by
 obtain ⟨σ, G, Q3, rs, rg, h, k⟩ := zz;exact (
  ⟨σ, G, _, rs, rg, h, fun ds G1 vs H1 q k1 rg1 rds => by
    split at q
    ·rename_i i j;obtain ⟨x, r, e1, r1, r2⟩ := rds.inv_cons;obtain ⟨x', r', e1', r1', r2'⟩ := r2.inv_cons;have := r2'.inv_nil;simp only [RD] at r1 r1';subst e1 e1' this r1 r1';exact ⟨i, j, rfl, q.1, k _ G1 _ H1 q.2 k1 rg1 it_range⟩
    ·exact q.elim⟩)
end
noncomputable def ForIn (g : TG3) (tb : TS3) (E : Ends3) (σ : St3) (ds : List D) (G1 : Gp) : Prop := ∃ Pv : Nat -> St3 -> Gp -> Prop, Pv 0 σ G1 /\
 (∀ (i : Nat) d σ' G', ds[i]? = some d -> Pv i σ' G' -> g d σ' G' fun σ2 G2 => tb { E with nx := Pv (i + 1), ct := Pv (i + 1), bk := E.nx } σ2 G2) /\ ∀ σ' G', Pv ds.length σ' G' -> E.nx σ' G'
noncomputable def sFor (ti : TI3) (g : TG3) (tb : TS3) : TS3 := fun D σ G => ti σ G fun ds G1 => ForIn g tb D σ ds G1
theorem q_for {X : Cx} {tg iter : Expr} {body : List Stmt} {ti : TI3} {g : TG3} {tb : TS3} {pos : Pos} (hp : PassesOwn (model X.prog X.w) X.A X.env X.xe) (hc : X.calm = true) (hi : PI X tg iter (liftI X.K ti)) (hg : PG X tg (liftG X.K g)) (hb : PSs X body (liftS X.K tb))
  (hs : ∀ x, foldedSetIterable iter X.env x = pure x := by intro _; rfl) : PS X (.For tg iter body [] pos) (liftS X.K (sFor ti g tb)) :=
 (ps_for hp hc hi hg hb hs).imp fun D τ H zz => by
 obtain ⟨σ, G, D3, rs, rg, h, k⟩ := zz;exact (
  ⟨σ, G, _, rs, rg, h, fun ds G1 J H1 q k1 rg1 it => by
    obtain ⟨Pv, p0, step, fin⟩ := q;refine ⟨fun i m τ' H' => m = ds.length - i /\ i <= ds.length /\ ∃ σ' G', RS X.K H' σ' τ' /\ RG X.K H' G' /\ Pv i σ' G' /\ Kp G1 H1 G' H', ⟨ds.length, rfl, zero_le _, σ, G1, rs.mono (k1.stb rg), rg1, p0, Kp.refl⟩, ?_⟩
    rintro i m τ' H' ⟨rfl, hi', σ', G', rs', rg', pv, k'⟩
    obtain ⟨hgo, hstop⟩ := it i G' H' k' rg'
    by_cases hlt : i < ds.length
    ·obtain ⟨go, yld⟩ := hgo hlt;refine .inr ⟨go, fun τ2 H2 => ∃ σ2 G2, RS X.K H2 σ2 τ2 /\ RG X.K H2 G2 /\ Pv (i + 1) σ2 G2 /\ Kp G1 H1 G2 H2, fun τ2 H2 ⟨σ2, G2, a, b, c, d⟩ => ⟨ds.length - (i + 1), by walk_at "o", rfl, hlt, σ2, G2, a, b, c, d⟩, fun x H2 y => ?_⟩
     obtain ⟨ky, rgy, d, hd, rd⟩ := yld x H2 y;refine ⟨d, σ', G', _, rd, rs'.mono (ky.stb rg'), rgy, step i d σ' G' hd pv, fun σ3 G3 τ3 H3 q3 k3 rg3 rs3 => ?_⟩;have kk : Kp G1 H1 G3 H3 := k'.trans (ky.trans k3);have kG : Kp G H G3 H3 := k1.trans kk;refine ⟨σ3, G3, _, rs3, rg3, q3, ⟨fun σ4 G4 τ4 H4 q4 k4 rg4 rs4 => ⟨σ4, G4, rs4, rg4, q4, kk.trans k4⟩, k.rt.base kG, fun σ4 G4 τ4 H4 q4 k4 => k.nx σ4 G4 τ4 H4 q4 (kG.trans k4), fun σ4 G4 τ4 H4 q4 k4 rg4 rs4 => ⟨σ4, G4, rs4, rg4, q4, kk.trans k4⟩⟩⟩
    ·have e : i = ds.length := by walk_at "o"
     refine .inl ⟨hstop e, k.nx σ' G' τ' H' (fin σ' G' (by rw [<- e]; exact pv)) (k1.trans k') rg' rs'⟩⟩)
noncomputable def tTrue : TT3 := fun _ G Q => Q true G
noncomputable def CompIn (k : Nat) (g : TG3) (tt : TT3) (te : TE3) (σ : St3) (ds : List D) (G1 : Gp) (Q : VK3) : Prop := ds.length <= sizeLine /\ ∃ Pv : Nat -> List D -> Gp -> Prop, Pv 0 [] G1 /\
 (∀ (i : Nat) d acc G', ds[i]? = some d -> Pv i acc G' -> g d (List.replicate k none ++ σ) G' fun σ2 G2 => (k <= σ2.length /\ σ2.drop k = σ) /\ tt σ2 G2 fun b G3 => if b = true then te σ2 G3 fun y G4 => Pv (i + 1) (acc ++ [val y]) G4 else Pv (i + 1) acc G3) /\
 ∀ acc G', Pv ds.length acc G' -> Q (.fl acc) G'
noncomputable def eComp (k : Nat) (ti : TI3) (g : TG3) (tt : TT3) (te : TE3) : TE3 := fun σ G Q => ti σ G fun ds G1 => CompIn k g tt te σ ds G1 Q
theorem comp_map {k : Nat} {g : TG3} {te : TE3} {σ : St3} {ds : List D} {G1 : Gp} {Q : VK3} (f : D -> D) (hl : ds.length <= sizeLine)
  (he : ∀ d ∈ ds, ∀ P : VK3, (∀ y, val y = f d -> P y G1) -> g d (List.replicate k none ++ σ) G1 fun σ2 G2 => (k <= σ2.length /\ σ2.drop k = σ) /\ te σ2 G2 P) (hq : Q (.fl (ds.map f)) G1) : CompIn k g tTrue te σ ds G1 Q := by
 refine ⟨hl, fun i acc G' => acc = (ds.take i).map f /\ G' = G1, ⟨by simp, rfl⟩, fun i d acc G' hd ⟨ha, hG⟩ => ?_, fun acc G' ⟨ha, hG⟩ => ?_⟩
 ·subst hG;exact he d (mem_of_getElem? hd) (fun y G4 => acc ++ [val y] = (ds.take (i + 1)).map f /\ G4 = G') fun y hy => ⟨by rw [ha, hy, take_add_one, hd]; simp, rfl⟩
 ·subst hG;rw [ha, take_length];exact hq
theorem comp_filter {k : Nat} {g : TG3} {tt : TT3} {te : TE3} {σ : St3} {ds : List D} {G1 : Gp} {Q : VK3} (p : D -> Bool) (f : D -> D) (hl : ds.length <= sizeLine)
  (he : ∀ d ∈ ds, ∀ (P : VK3) (R : Gp -> Prop), (p d = true -> ∀ y, val y = f d -> P y G1) -> (p d = false -> R G1) -> g d (List.replicate k none ++ σ) G1 fun σ2 G2 => (k <= σ2.length /\ σ2.drop k = σ) /\ tt σ2 G2 fun b G3 => if b = true then te σ2 G3 P else R G3)
  (hq : Q (.fl ((ds.filter p).map f)) G1) : CompIn k g tt te σ ds G1 Q := by
 refine ⟨hl, fun i acc G' => acc = ((ds.take i).filter p).map f /\ G' = G1, ⟨by simp, rfl⟩, fun i d acc G' hd ⟨ha, hG⟩ => ?_, fun acc G' ⟨ha, hG⟩ => ?_⟩
 ·subst hG;have e : (ds.take (i + 1)).filter p = (ds.take i).filter p ++ (if p d = true then [d] else []) := by
   rw [take_add_one, hd, List.filter_append];cases hp : p d <;> simp [hp]
  refine he d (mem_of_getElem? hd) (fun y G4 => acc ++ [val y] = ((ds.take (i + 1)).filter p).map f /\ G4 = G') (fun G4 => acc = ((ds.take (i + 1)).filter p).map f /\ G4 = G') (fun hp y hy => ⟨?_, rfl⟩) fun hp => ⟨?_, rfl⟩
  ·rw [e, hp, ha, hy]; simp
  ·rw [e, hp, ha]; simp
 ·subst hG;rw [ha, take_length];exact hq
section
variable {X : Cx} {elt tg iter : Expr} {ifs : List Expr} {scope : Scope} {T M : List Str} {pos : Pos} {ti : TI3} {g : TG3} {tt : TT3} {te : TE3}
theorem rs_ent {K : Frag} {H : Hp} {σ : St3} {τ : St} (T : List Str) (r : RS K H σ τ) : RS K H (List.replicate T.length none ++ σ) (ent T τ) := by
 unfold ent
 induction T with
 | nil => exact r
 | cons a t ih => exact .cons (show RSo K H none none from trivial) ih
theorem rs_forget {K : Frag} {H : Hp} : ∀ (k : Nat) {σ : St3} {τ : St}, k <= σ.length -> RS K H σ τ -> RS K H (List.replicate k none ++ σ.drop k) τ
 | 0, _, _, _, r => r
 | k + 1, [], _, h, _ => absurd h (by simp)
 | k + 1, a :: t, _, h, .cons _ r => .cons (show RSo K H none _ from trivial) (rs_forget k (by simpa using h) r)
theorem comp_read {K : Frag} {τ : St} {H : Hp} {Q : VK} (h : lift K (eComp T.length ti g tt te) τ H Q) :
  tComp (ent T) (liftI K ti) (liftG K g) (liftT K tt) (liftV K te) τ H Q := by
 obtain ⟨σ, G, Q3, rs, rg, h, k⟩ := h;refine ⟨σ, G, _, rs, rg, h, fun ds G1 J H1 q k1 rg1 it Da hD => ?_⟩;obtain ⟨hsz, Pv, p0, step, fin⟩ := q;have kD : Kp G1 H1 G1 (upd H1 Da (.lst [])) := Kp.laid hD;have rgD : RG K (upd H1 Da (.lst [])) G1 := rg1.laid hD;have gD : G1 Da = none := rg1.free hD;refine ⟨fun i m ys τ2 H2 => m = ds.length - i /\ i <= ds.length /\ ∃ acc G2, H2 Da = some (.lst ys) /\ G2 Da = none /\ RG K H2 G2 /\ RS K H2 (List.replicate T.length none ++ σ) τ2 /\ RDs K H2 acc ys /\ acc.length <= i /\ Pv i acc G2 /\ (∀ a h, a ≠ Da -> H1 a = some h -> G1 a = none -> H2 a = some h /\ G2 a = none),
  ⟨ds.length, rfl, zero_le _, [], G1, upd_same, gD, rgD, rs_ent T (rs.mono ((k1.trans kD).stb rg)), RDs.nil, le_refl _, p0, fun a h ha e n => ⟨by rw [upd_ne ha]; exact e, n⟩⟩, ?_⟩
 rintro i m ys τ2 H2 ⟨rfl, hi', acc, G2, eD, nD, rg2, rs2, ra, la, pv, k2⟩
 have k2' : Kp G1 H1 G2 H2 := fun a h e n => k2 a h (ne_of_none e hD) e n;refine ⟨eD, ?_⟩;obtain ⟨hgo, hstop⟩ := it i G2 H2 k2' rg2
 by_cases hlt : i < ds.length
 ·obtain ⟨go, yld⟩ := hgo hlt;refine .inr ⟨go, fun ys' τ' H' => ∃ acc G', H' Da = some (.lst ys') /\ G' Da = none /\ RG K H' G' /\ RS K H' (List.replicate T.length none ++ σ) τ' /\ RDs K H' acc ys' /\ acc.length <= i + 1 /\ Pv (i + 1) acc G' /\ (∀ a h, a ≠ Da -> H1 a = some h -> G1 a = none -> H' a = some h /\ G' a = none),
   fun ys' τ' H' q' => ⟨ds.length - (i + 1), by walk_at "o", rfl, hlt, q'⟩, fun x H3 y => ?_⟩
  obtain ⟨ky, rgy, d, hd, rd⟩ := yld x H3 y;refine ⟨d, List.replicate T.length none ++ σ, G2, _, rd, rs2.mono (ky.stb rg2), rgy, step i d acc G2 hd pv, fun σ4 G4 τ4 H4 q4 k4 rg4 rs4 => ?_⟩;obtain ⟨⟨hlen, hdrop⟩, q4⟩ := q4;have rs4' : RS K H4 (List.replicate T.length none ++ σ) τ4 := by
   have := rs_forget T.length hlen rs4;rw [hdrop] at this;exact this
  refine ⟨σ4, G4, _, rs4, rg4, q4, fun b G5 H5 q5 k5 rg5 => ?_⟩;have e3 : H3 Da = some (.lst ys) := (ky Da _ eD nD).1;have e4 := k4 Da _ e3 nD;have e5 := k5 Da _ e4.1 e4.2;have kk : ∀ {G6 : Gp} {H6 : Hp}, Kp G5 H5 G6 H6 -> ∀ a h, a ≠ Da -> H1 a = some h -> G1 a = none -> H6 a = some h /\ G6 a = none := fun k6 a h ha e n => ((((Kp.trans k2' ky).trans k4).trans k5).trans k6) a h e n;cases b with
  | false =>
   refine iteF ⟨acc, G5, e5.1, e5.2, rg5, rs4'.mono (k5.stb rg4), RDs.mono (((ky.trans k4).trans k5).stb rg2) _ _ ra, by walk_at "o", q5, kk Kp.refl⟩
  | true =>
   refine iteT ⟨σ4, G5, _, rs4.mono (k5.stb rg4), rg5, q5, fun yv G6 v H6 q6 k6 rg6 rd6 => ?_⟩;have e6 := k6 Da _ e5.1 e5.2;have la' := ra.length;have st : Stb K H6 (upd H6 Da (.lst (ys ++ [v]))) := by
    constructor
    ·intro a zs q;rcases q with (q | ⟨o, q⟩) | q
     ·exact .inl (.inl (by rw [upd_ne (fun z => by subst z; rw [e6.1] at q; cases q)]; exact q))
     ·exact .inl (.inr ⟨o, by rw [upd_ne (fun z => by subst z; rw [e6.1] at q; cases q)]; exact q⟩)
     ·exact .inr q
    ·intro a zs q;rcases q with ⟨o, q⟩ | q
     ·exact .inl ⟨o, by rw [upd_ne (fun z => by subst z; rw [e6.1] at q; cases q)]; exact q⟩
     ·exact .inr q
   refine ⟨e6.1, by walk_at "o", acc ++ [val yv], G6, upd_same, e6.2, fun a o q => ?_, (rs4'.mono ((k5.trans k6).stb rg4)).mono st, ?_, by simp; walk_at "oo", q6, fun a h ha e n => ?_⟩
   ·obtain ⟨h', q1, q2⟩ := rg6 a o q;exact ⟨h', by rw [upd_ne (fun z => by subst z; rw [e6.2] at q; cases q)]; exact q1, q2.mono st⟩
   ·exact RDs.append (RDs.mono st _ _ (RDs.mono ((((ky.trans k4).trans k5).trans k6).stb rg2) _ _ ra)) (RDs.cons (RD.mono st _ _ rd6) RDs.nil)
   ·rw [upd_ne ha]; exact kk k6 a h ha e n
 ·have e : i = ds.length := by walk_at "o"
  refine .inl ⟨hstop e, k _ G2 _ H2 (fin acc G2 (by rw [<- e]; exact pv)) (k1.trans k2') rg2 (.inl ⟨acc, Da, ys, rfl, rfl, eD, nD, ra, ?_⟩)⟩
  exact k1.fr (fr_none hD)
theorem ts_nil : PTs X [] (liftT X.K tTrue) := fun pins s τ H Q I h => by
 obtain ⟨σ, G, Q3, rs, rg, h, k⟩ := h;exact pts_nil pins s τ H Q I (k true G H h Kp.refl rg)
theorem ts_one {c : Expr} {tc : TT3} (h : PT X c (liftT X.K tc)) : PTs X [c] (liftT X.K tc) := pts_one h
theorem p_comp (ok : CompOk X scope T M)
  (hin : ∀ cl C s₀ H₀ fp, PG (compCx X (T ++ M) scope cl C s₀ H₀ fp) tg (liftG X.K g) /\ PTs (compCx X (T ++ M) scope cl C s₀ H₀ fp) ifs (liftT X.K tt) /\ PE (compCx X (T ++ M) scope cl C s₀ H₀ fp) elt (lift X.K te))
  (hi : PI X tg iter (liftI X.K ti)) (hs : ∀ x, foldedSetIterable iter X.env x = pure x := by intro _; rfl) : PE X (.ListComp elt [⟨tg, iter, ifs, 0⟩] scope pos) (lift X.K (eComp T.length ti g tt te)) :=
 (pe_comp ok (fun cl C s₀ H₀ fp => let ⟨a, b, c⟩ := hin cl C s₀ H₀ fp; ⟨a, b, pe_val c⟩) hi hs).imp fun _ _ _ h => comp_read h
theorem q_comp {i : Nat} {x : Str} {px spos : Pos} (ok : CompOk X scope T M) (hN : X.N.Nodup) (hix : X.N[i]? = some x) (hx : X.env.scope.names.lookup x = some .local)
  (hin : ∀ cl C s₀ H₀ fp, PG (compCx X (T ++ M) scope cl C s₀ H₀ fp) tg (liftG X.K g) /\ PTs (compCx X (T ++ M) scope cl C s₀ H₀ fp) ifs (liftT X.K tt) /\ PE (compCx X (T ++ M) scope cl C s₀ H₀ fp) elt (lift X.K te))
  (hi : PI X tg iter (liftI X.K ti)) (hsw : swapsWith (.ListComp elt [⟨tg, iter, ifs, 0⟩] scope pos) (some (.Name x px)) spos.line X.env = pure true := by rfl) (hs : ∀ x, foldedSetIterable iter X.env x = pure x := by intro _; rfl) :
  PS X (.Assign [.Name x px] (.ListComp elt [⟨tg, iter, ifs, 0⟩] scope pos) spos) (liftS X.K (sSet i (eComp T.length ti g tt te))) :=
 (ps_comp ok hN hix hx (fun cl C s₀ H₀ fp => let ⟨a, b, c⟩ := hin cl C s₀ H₀ fp; ⟨a, b, pe_val c⟩) hi hsw hs).imp fun D τ H zz => by
  obtain ⟨σ, G, D3, rs, rg, h, k⟩ := zz;refine comp_read (Q := fun v H1 => D.nx (τ.set i (some v)) H1 \/ ∃ p xs, v = .ref p /\ H1 p = some (.lst xs) /\ ∀ o, D.nx (τ.set i (some v)) (upd H1 p (.frz o (.lst xs)))) ⟨σ, G, _, rs, rg, h, fun d G' v H' q k' rg' re => ?_⟩;cases d with
  | fl ds =>
   obtain ⟨p, xs, rfl, e1, e2, e3, e4⟩ := re.fl;refine .inr ⟨p, xs, rfl, e1, fun o => ?_⟩;obtain ⟨rg2, st⟩ := frz_rg (o := o) rg' e1 e2;exact k.nx _ G' _ _ q (frz_kp (K := X.K) k' e4) rg2 (((rs.mono (k'.stb rg)).mono st).set (rd_lst (.inl ⟨o, upd_same⟩) (RDs.mono st _ _ e3)) i)
  | _ => exact .inl (k.nx _ G' _ H' q k' rg' ((rs.mono (k'.stb rg)).set (re.rd (by intro ds z; cases z)) i))
end
open PySem PySem.Spec PyProof.Rows L2 PySem.SeqAt
noncomputable def eqb (x y : D) : Bool := @decide (x = y) (Classical.propDecidable _)
theorem eqb_iff {x y : D} : eqb x y = true ↔ x = y := by unfold eqb; exact @decide_eq_true_iff _ (Classical.propDecidable _)
theorem eqb_self (x : D) : eqb x x = true := eqb_iff.mpr rfl
theorem eqb_of {x y : D} (h : x = y) : eqb x y = true := eqb_iff.mpr h
theorem eqb_no {x y : D} (h : x ≠ y) : eqb x y = false := by
 cases e : eqb x y with
 | false => rfl
 | true => exact absurd (eqb_iff.mp e) h
theorem eqb_bool {x y : D} {b : Bool} (h : (b = true) ↔ x = y) : eqb x y = b := by
 cases b with
 | true => exact eqb_of (h.mp rfl)
 | false => exact eqb_no fun e => nomatch h.mpr e
noncomputable def pl : Nat -> D -> Prop
 | _, .non => True
 | _, .int _ => True
 | _, .str _ => True
 | n + 1, .tup ds => ∀ d ∈ ds, pl n d
 | n + 1, .lst ds => ∀ d ∈ ds, pl n d
 | _, _ => False
section
variable {X : Cx} {pins : List (Addr × Obj)} {σ : St} {H : Hp} {s : Shared}
theorem no_both (I : Inv X pins σ H s) {a : Addr} {xs ys : List V} (h1 : SqT X.K H a xs) (h2 : SqL X.K H a ys) : False := by
 obtain ⟨_, _, ⟨o, e, c, _⟩, _⟩ := I.tuple h1;obtain ⟨_, _, p, _⟩ := I.list h2;obtain ⟨o', e', c', _⟩ := p.isList;rw [e] at e'; cases e';rw [c] at c';injection c' with z
 exact absurd z (by decide)
theorem rd_inj (I : Inv X pins σ H s) : ∀ (n : Nat) {x y : D} {v : V}, pl n x -> pl n y -> RD X.K H x v -> RD X.K H y v -> x = y := by
 intro n
 induction n with
 | zero =>
  intro x y v px py rx ry;cases x <;> first | exact px.elim | (cases y <;> first | exact py.elim | (simp only [RD] at rx ry; subst rx; first | rfl | (cases ry; rfl) | cases ry))
 | succ n ih =>
  have seq : ∀ {ds es : List D} {xs : List V}, (∀ d ∈ ds, pl n d) -> (∀ d ∈ es, pl n d) -> RDs X.K H ds xs -> RDs X.K H es xs -> ds = es := by
   intro ds
   induction ds with
   | nil =>
    intro es xs _ _ r1 r2;have := r1.inv_nil;subst this;cases es with
    | nil => rfl
    | cons e t => have := r2.length; simp at this
   | cons d t ihd =>
    intro es xs p1 p2 r1 r2;obtain ⟨v, vs, e1, a1, b1⟩ := r1.inv_cons;subst e1;cases es with
    | nil => have := r2.length; simp at this
    | cons e u =>
     obtain ⟨v', vs', e2, a2, b2⟩ := r2.inv_cons;cases e2;rw [ih (p1 d mem_cons_self) (p2 e mem_cons_self) a1 a2, ihd (fun z hz => p1 z (mem_cons_of_mem _ hz)) (fun z hz => p2 z (mem_cons_of_mem _ hz)) b1 b2]
  intro x y v px py rx ry;cases x with
  | tup ds =>
   simp only [RD] at rx;obtain ⟨a, xs, rfl, s1, r1⟩ := rx;cases y with
   | tup es =>
    simp only [RD] at ry;obtain ⟨b, ys, e, s2, r2⟩ := ry;cases e;have := I.tuple_inj s1 s2;subst this;rw [seq px py r1 r2]
   | lst es =>
    simp only [RD] at ry;obtain ⟨b, ys, e, s2, r2⟩ := ry;cases e;exact (no_both I s1 s2.sq).elim
   | _ => first | exact py.elim | (simp only [RD] at ry; cases ry)
  | lst ds =>
   simp only [RD] at rx;obtain ⟨a, xs, rfl, s1, r1⟩ := rx;cases y with
   | lst es =>
    simp only [RD] at ry;obtain ⟨b, ys, e, s2, r2⟩ := ry;cases e;have := I.list_inj s1.sq s2.sq;subst this;rw [seq px py r1 r2]
   | tup es =>
    simp only [RD] at ry;obtain ⟨b, ys, e, s2, r2⟩ := ry;cases e;exact (no_both I s2 s1.sq).elim
   | _ => first | exact py.elim | (simp only [RD] at ry; cases ry)
  | _ => first | exact px.elim | (cases y with
   | tup es => simp only [RD] at rx ry; obtain ⟨b, ys, e, _⟩ := ry; rw [rx] at e; cases e
   | lst es => simp only [RD] at rx ry; obtain ⟨b, ys, e, _⟩ := ry; rw [rx] at e; cases e
   | _ => first | exact py.elim | (simp only [RD] at rx ry; subst rx; first | rfl | (cases ry; rfl) | cases ry))
structure Cmp3 (A : Around) (s : Shared) (v u : Value) (b : Bool) : Prop where
 eq : EqAt A s v u b
 rc : RcAt A s v u b
 ne : RcNeAt A s v u (!b)
theorem all_eqb {ds es : List D} (n : Nat) (hn : n = min ds.length es.length) : ((List.range n).all (fun j => eqb (ds.getD j .non) (es.getD j .non)) && ds.length == es.length) = eqb (.tup ds) (.tup es) := by
 symm;refine eqb_bool ?_;rw [Bool.and_eq_true, List.all_eq_true, beq_iff_eq];constructor
 ·rintro ⟨h1, h2⟩
  congr 1;refine List.ext_getElem h2 fun i hi hj => ?_;have := eqb_iff.mp (h1 i (mem_range.mpr (by walk_at "o")))
  rw [getD_eq_getElem?_getD, getD_eq_getElem?_getD, getElem?_eq_getElem hi, getElem?_eq_getElem hj] at this
  simpa using this
 ·intro h;cases h;exact ⟨fun i _ => eqb_self _, rfl⟩
theorem eqb_lst {ds es : List D} : eqb (.lst ds) (.lst es) = eqb (.tup ds) (.tup es) := eqb_bool (by rw [eqb_iff]; constructor <;> (intro h; cases h; rfl))
theorem Vals.getV : ∀ {xs : List V} {us : List Value} {i : Nat} {u : Value}, Vals xs us -> us[i]? = some u -> ∃ x, xs[i]? = some x /\ RelV x u
 | _, _, _, _, .nil, e => by simp at e
 | _, _, 0, _, .cons r _, e => by simp at e; subst e; exact ⟨_, rfl, r⟩
 | _, _, i + 1, u, .cons _ t, e => by
  obtain ⟨x, h1, h2⟩ := Vals.getV (i := i) (u := u) t (by simpa using e)
  exact ⟨x, by simpa using h1, h2⟩
theorem RDs.getV {K : Frag} {H : Hp} : ∀ {ds : List D} {xs : List V} {i : Nat} {x : V}, RDs K H ds xs -> xs[i]? = some x -> ∃ d, ds[i]? = some d /\ RD K H d x
 | [], xs, i, x, h, e => by rw [h.inv_nil] at e; simp at e
 | d :: ds, xs, i, x, h, e => by
  obtain ⟨y, r, e1, h1, h2⟩ := h.inv_cons;subst e1;cases i with
  | zero => simp at e; subst e; exact ⟨d, rfl, h1⟩
  | succ i =>
   obtain ⟨z, q1, q2⟩ := RDs.getV (i := i) (x := x) h2 (by simpa using e)
   exact ⟨z, by simpa using q1, q2⟩
noncomputable def sc : D -> Prop
 | .non => True
 | .int _ => True
 | .str _ => True
 | _ => False
theorem cmp_ni {j : Int} {t : Tok} {A : Around} : Cmp3 A s .none (.int j t) (eqb .non (.int j)) := by rw [eqb_no (by intro z; cases z)]; exact ⟨EqAt.none_int _ _, RcAt.none_int _ _, RcNeAt.none_int _ _⟩
theorem cmp_ns {j : Str} {t : Tok} {A : Around} : Cmp3 A s .none (.str j t) (eqb .non (.str j)) := by rw [eqb_no (by intro z; cases z)]; exact ⟨EqAt.none_str _ _, RcAt.none_str _ _, RcNeAt.none_str _ _⟩
theorem cmp_in {j : Int} {t : Tok} {A : Around} : Cmp3 A s (.int j t) .none (eqb (.int j) .non) := by rw [eqb_no (by intro z; cases z)]; exact ⟨EqAt.int_none _ _, RcAt.int_none _ _, RcNeAt.int_none _ _⟩
theorem cmp_sn {j : Str} {t : Tok} {A : Around} : Cmp3 A s (.str j t) .none (eqb (.str j) .non) := by rw [eqb_no (by intro z; cases z)]; exact ⟨EqAt.str_none _ _, RcAt.str_none _ _, RcNeAt.str_none _ _⟩
theorem cmp_is {i : Int} {j : Str} {t u : Tok} {A : Around} : Cmp3 A s (.int i t) (.str j u) (eqb (.int i) (.str j)) := by rw [eqb_no (by intro z; cases z)]; exact ⟨EqAt.int_str _ _ _ _, RcAt.int_str _ _ _ _, RcNeAt.int_str _ _ _ _⟩
theorem cmp_si {i : Str} {j : Int} {t u : Tok} {A : Around} : Cmp3 A s (.str i t) (.int j u) (eqb (.str i) (.int j)) := by rw [eqb_no (by intro z; cases z)]; exact ⟨EqAt.str_int _ _ _ _, RcAt.str_int _ _ _ _, RcNeAt.str_int _ _ _ _⟩
theorem cmp_ii {i j : Int} {t u : Tok} {A : Around} : Cmp3 A s (.int i t) (.int j u) (eqb (.int i) (.int j)) := by
 have e : eqb (.int i) (.int j) = (i == j) := eqb_bool (by rw [beq_iff_eq]; exact ⟨fun z => by rw [z], fun z => by cases z; rfl⟩)
 rw [e]; exact ⟨EqAt.int_int _ _ _ _, RcAt.int_int _ _ _ _, RcNeAt.int_int _ _ _ _⟩
theorem cmp_ss {i j : Str} {t u : Tok} {A : Around} : Cmp3 A s (.str i t) (.str j u) (eqb (.str i) (.str j)) := by
 have e : eqb (.str i) (.str j) = (i == j) := eqb_bool (by rw [beq_iff_eq]; exact ⟨fun z => by rw [z], fun z => by cases z; rfl⟩)
 rw [e]; exact ⟨EqAt.str_str _ _ _ _, RcAt.str_str _ _ _ _, RcNeAt.str_str _ _ _ _⟩
theorem cmp_nn {A : Around} : Cmp3 A s .none .none (eqb .non .non) := by rw [eqb_self]; exact ⟨EqAt.same _, RcAt.none_none, RcNeAt.none_none⟩
theorem sc_rel {K : Frag} {x : D} {v : V} {v' : Value} (h : sc x) (r : RD K H x v) (l : RelV v v') : (x = .non /\ v' = .none) \/ (∃ i t, x = .int i /\ v' = .int i t) \/ (∃ i t, x = .str i /\ v' = .str i t) := by
 cases x with
 | non => simp only [RD] at r; subst r; exact .inl ⟨rfl, l⟩
 | int i => simp only [RD] at r; subst r; obtain ⟨t, e⟩ := l; exact .inr (.inl ⟨i, t, rfl, e⟩)
 | str i => simp only [RD] at r; subst r; obtain ⟨t, e⟩ := l; exact .inr (.inr ⟨i, t, rfl, e⟩)
 | _ => exact h.elim
theorem cmp_sc {K : Frag} {A : Around} {x y : D} {v u : V} {v' u' : Value} (h1 : sc x) (h2 : sc y) (rx : RD K H x v) (ry : RD K H y u) (lx : RelV v v') (ly : RelV u u') : Cmp3 A s v' u' (eqb x y) := by
 rcases sc_rel h1 rx lx with ⟨rfl, rfl⟩ | ⟨i, t, rfl, rfl⟩ | ⟨i, t, rfl, rfl⟩
 ·rcases sc_rel h2 ry ly with ⟨rfl, rfl⟩ | ⟨j, u, rfl, rfl⟩ | ⟨j, u, rfl, rfl⟩
  ·exact cmp_nn
  ·exact cmp_ni
  ·exact cmp_ns
 ·rcases sc_rel h2 ry ly with ⟨rfl, rfl⟩ | ⟨j, u, rfl, rfl⟩ | ⟨j, u, rfl, rfl⟩
  ·exact cmp_in
  ·exact cmp_ii
  ·exact cmp_is
 ·rcases sc_rel h2 ry ly with ⟨rfl, rfl⟩ | ⟨j, u, rfl, rfl⟩ | ⟨j, u, rfl, rfl⟩
  ·exact cmp_sn
  ·exact cmp_si
  ·exact cmp_ss
theorem sc_of {n : Nat} {x : D} (p : pl n x) : sc x \/ (∃ m ds, n = m + 1 /\ x = .tup ds /\ ∀ d ∈ ds, pl m d) \/ (∃ m ds, n = m + 1 /\ x = .lst ds /\ ∀ d ∈ ds, pl m d) := by
 cases x with
 | non => exact .inl trivial
 | int _ => exact .inl trivial
 | str _ => exact .inl trivial
 | tup ds => cases n with
  | zero => exact p.elim
  | succ m => exact .inr (.inl ⟨m, ds, rfl, rfl, p⟩)
 | lst ds => cases n with
  | zero => exact p.elim
  | succ m => exact .inr (.inr ⟨m, ds, rfl, rfl, p⟩)
 | bl _ => cases n <;> exact p.elim
 | fl _ => cases n <;> exact p.elim
 | ref _ => cases n <;> exact p.elim
 | ty _ => cases n <;> exact p.elim
theorem cmp_st {K : Frag} {A : Around} {b : Addr} {its : Array Value} {es : List D} (hu0 : A.units < cLine) (t2 : s.heap.IsTuple b its) {x : D} {v : V} {v' : Value} (h : sc x) (rx : RD K H x v) (lx : RelV v v') : Cmp3 A s v' (.ref b) (eqb x (.tup es)) /\ Cmp3 A s (.ref b) v' (eqb (.tup es) x) := by
 rcases sc_rel h rx lx with ⟨rfl, rfl⟩ | ⟨i, t, rfl, rfl⟩ | ⟨i, t, rfl, rfl⟩
 ·rw [eqb_no (by intro z; cases z), eqb_no (by intro z; cases z)]
  exact ⟨⟨EqAt.none_tuple t2 hu0, RcAt.none_tuple t2 hu0, RcNeAt.none_tuple t2 hu0⟩, ⟨EqAt.tuple_none t2 hu0, RcAt.tuple_none t2 hu0, RcNeAt.tuple_none t2 hu0⟩⟩
 ·rw [eqb_no (by intro z; cases z), eqb_no (by intro z; cases z)]
  exact ⟨⟨EqAt.int_tuple _ _ t2 hu0, RcAt.int_tuple _ _ t2 hu0, RcNeAt.int_tuple _ _ t2 hu0⟩, ⟨EqAt.tuple_int _ _ t2 hu0, RcAt.tuple_int _ _ t2 hu0, RcNeAt.tuple_int _ _ t2 hu0⟩⟩
 ·rw [eqb_no (by intro z; cases z), eqb_no (by intro z; cases z)]
  exact ⟨⟨EqAt.str_tuple _ _ t2 hu0, RcAt.str_tuple _ _ t2 hu0, RcNeAt.str_tuple _ _ t2 hu0⟩, ⟨EqAt.tuple_str _ _ t2 hu0, RcAt.tuple_str _ _ t2 hu0, RcNeAt.tuple_str _ _ t2 hu0⟩⟩
theorem cmp_sl {K : Frag} {A : Around} {b : Addr} {its : Array Value} {es : List D} (hu0 : A.units < cLine) (t2 : s.heap.IsList b its) {x : D} {v : V} {v' : Value} (h : sc x) (rx : RD K H x v) (lx : RelV v v') : Cmp3 A s v' (.ref b) (eqb x (.lst es)) /\ Cmp3 A s (.ref b) v' (eqb (.lst es) x) := by
 rcases sc_rel h rx lx with ⟨rfl, rfl⟩ | ⟨i, t, rfl, rfl⟩ | ⟨i, t, rfl, rfl⟩
 ·rw [eqb_no (by intro z; cases z), eqb_no (by intro z; cases z)]
  exact ⟨⟨EqAt.none_list t2 hu0, RcAt.none_list t2 hu0, RcNeAt.none_list t2 hu0⟩, ⟨EqAt.list_none t2 hu0, RcAt.list_none t2 hu0, RcNeAt.list_none t2 hu0⟩⟩
 ·rw [eqb_no (by intro z; cases z), eqb_no (by intro z; cases z)]
  exact ⟨⟨EqAt.int_list _ _ t2 hu0, RcAt.int_list _ _ t2 hu0, RcNeAt.int_list _ _ t2 hu0⟩, ⟨EqAt.list_int _ _ t2 hu0, RcAt.list_int _ _ t2 hu0, RcNeAt.list_int _ _ t2 hu0⟩⟩
 ·rw [eqb_no (by intro z; cases z), eqb_no (by intro z; cases z)]
  exact ⟨⟨EqAt.str_list _ _ t2 hu0, RcAt.str_list _ _ t2 hu0, RcNeAt.str_list _ _ t2 hu0⟩, ⟨EqAt.list_str _ _ t2 hu0, RcAt.list_str _ _ t2 hu0, RcNeAt.list_str _ _ t2 hu0⟩⟩
theorem cmp_D (I : Inv X pins σ H s) : ∀ (n : Nat) {x y : D} {v u : V} {v' u' : Value} {A : Around}, pl n x -> pl n y -> RD X.K H x v -> RD X.K H y u -> RelV v v' -> RelV u u' -> A.units + n < cLine -> Cmp3 A s v' u' (eqb x y) := by
 intro n
 induction n with
 | zero =>
  intro x y v u v' u' A px py rx ry lx ly hu;rcases sc_of px with h1 | ⟨m, _, e, _⟩ | ⟨m, _, e, _⟩
  ·rcases sc_of py with h2 | ⟨m, _, e, _⟩ | ⟨m, _, e, _⟩
   ·exact cmp_sc h1 h2 rx ry lx ly
   ·cases e
   ·cases e
  ·cases e
  ·cases e
 | succ n ih =>
  intro x y v u v' u' A px py rx ry lx ly hu;have hu0 : A.units < cLine := by walk_at "o"
  have hu1 : A.in1.units + n < cLine := by show A.units + 1 + n < cLine; walk_at "oo"
  have items : ∀ {ds es : List D} {xs ys : List V} {its its2 : List Value}, (∀ d ∈ ds, pl n d) -> (∀ d ∈ es, pl n d) -> RDs X.K H ds xs -> RDs X.K H es ys -> Vals xs its -> Vals ys its2 ->
    ∀ j (h1 : j < its.toArray.size) (h2 : j < its2.toArray.size), EqAt A.in1 s its.toArray[j] its2.toArray[j] (eqb (ds.getD j .non) (es.getD j .non)) := by
   intro ds es xs ys its its2 p1 p2 r1 r2 w1 w2 j h1 h2;obtain ⟨x1, e1, q1⟩ := Vals.getV (i := j) (u := its.toArray[j]) w1 (by simp at h1; simp [h1])
   obtain ⟨x2, e2, q2⟩ := Vals.getV (i := j) (u := its2.toArray[j]) w2 (by simp at h2; simp [h2])
   obtain ⟨d1, f1, g1⟩ := RDs.getV r1 e1;obtain ⟨d2, f2, g2⟩ := RDs.getV r2 e2;have := (ih (A := A.in1) (p1 d1 (mem_of_getElem? f1)) (p2 d2 (mem_of_getElem? f2)) g1 g2 q1 q2 hu1).eq;rw [getD_eq_getElem?_getD, getD_eq_getElem?_getD, f1, f2];exact this
  rcases sc_of px with h1 | ⟨m, ds, e1, rfl, p1⟩ | ⟨m, ds, e1, rfl, p1⟩
  ·rcases sc_of py with h2 | ⟨m, es, e2, rfl, p2⟩ | ⟨m, es, e2, rfl, p2⟩
   ·exact cmp_sc h1 h2 rx ry lx ly
   ·simp only [RD] at ry;obtain ⟨b, ys, rfl, s2, r2⟩ := ry;cases ly;obtain ⟨its2, w2, t2, z2⟩ := I.tuple s2;exact (cmp_st hu0 t2 h1 rx lx).1
   ·simp only [RD] at ry;obtain ⟨b, ys, rfl, s2, r2⟩ := ry;cases ly;obtain ⟨its2, w2, t2, z2⟩ := I.list s2.sq;exact (cmp_sl hu0 t2.isList h1 rx lx).1
  ·cases e1;simp only [RD] at rx;obtain ⟨a, xs, rfl, s1, r1⟩ := rx;cases lx;obtain ⟨its, w1, t1, z1⟩ := I.tuple s1;have l1 := w1.length;have l1' := r1.length;rcases sc_of py with h2 | ⟨m, es, e2, rfl, p2⟩ | ⟨m, es, e2, rfl, p2⟩
   ·exact (cmp_st hu0 t1 h2 ry ly).2
   ·cases e2;simp only [RD] at ry;obtain ⟨b, ys, rfl, s2, r2⟩ := ry;cases ly;obtain ⟨its2, w2, t2, z2⟩ := I.tuple s2;have l2 := w2.length;have l2' := r2.length;have he := items p1 p2 r1 r2 w1 w2;have hsz : its.toArray.size = ds.length := by simp only [size_toArray]; walk_at "oo"
    have hsz2 : its2.toArray.size = es.length := by simp only [size_toArray]; walk_at "oo"
    have rc := RcAt.tuples (A := A) t1 t2 hu0 he;have rn := RcNeAt.tuples (A := A) t1 t2 hu0 he;rw [hsz, hsz2, all_eqb _ rfl] at rc;rw [hsz, hsz2, all_eqb _ rfl] at rn;refine ⟨?_, rc, rn⟩
    by_cases hab : a = b
    ·subst hab;have : D.tup ds = D.tup es := rd_inj I (n + 1) (v := .ref a) px py (rd_tup s1 r1) (rd_tup s2 r2);rw [this, eqb_self];exact EqAt.same _
    ·exact EqAt.of_refs hab rc
   ·simp only [RD] at ry;obtain ⟨b, ys, rfl, s2, r2⟩ := ry;cases ly;obtain ⟨its2, w2, t2, z2⟩ := I.list s2.sq;rw [eqb_no (by intro z; cases z)]
    exact ⟨EqAt.tuple_list t1 t2.isList hu0, RcAt.tuple_list t1 t2.isList hu0, RcNeAt.tuple_list t1 t2.isList hu0⟩
  ·cases e1;simp only [RD] at rx;obtain ⟨a, xs, rfl, s1, r1⟩ := rx;cases lx;obtain ⟨its, w1, t1, z1⟩ := I.list s1.sq;have l1 := w1.length;have l1' := r1.length;rcases sc_of py with h2 | ⟨m, es, e2, rfl, p2⟩ | ⟨m, es, e2, rfl, p2⟩
   ·exact (cmp_sl hu0 t1.isList h2 ry ly).2
   ·simp only [RD] at ry;obtain ⟨b, ys, rfl, s2, r2⟩ := ry;cases ly;obtain ⟨its2, w2, t2, z2⟩ := I.tuple s2;rw [eqb_no (by intro z; cases z)]
    exact ⟨EqAt.list_tuple t1.isList t2 hu0, RcAt.list_tuple t1.isList t2 hu0, RcNeAt.list_tuple t1.isList t2 hu0⟩
   ·cases e2;simp only [RD] at ry;obtain ⟨b, ys, rfl, s2, r2⟩ := ry;cases ly;obtain ⟨its2, w2, t2, z2⟩ := I.list s2.sq;have l2 := w2.length;have l2' := r2.length;have he := items p1 p2 r1 r2 w1 w2;have hsz : its.toArray.size = ds.length := by simp only [size_toArray]; walk_at "oo"
    have hsz2 : its2.toArray.size = es.length := by simp only [size_toArray]; walk_at "oo"
    have rc : RcAt A s (.ref a) (.ref b) (eqb (.lst ds) (.lst es)) /\ RcNeAt A s (.ref a) (.ref b) (!eqb (.lst ds) (.lst es)) := by
     rw [eqb_lst]
     by_cases hl : ds.length = es.length
     ·have rc := RcAt.lists (A := A) t1.isList t2.isList (by walk_at "o") hu0 he
      have rn := RcNeAt.lists (A := A) t1.isList t2.isList (by walk_at "o") hu0 he
      have e := all_eqb (ds := ds) (es := es) its.toArray.size (by walk_at "o")
      rw [hl, beq_self_eq_true, Bool.and_true] at e;rw [e] at rc rn;exact ⟨rc, rn⟩
     ·rw [eqb_no (by intro z; cases z; exact hl rfl)]
      exact ⟨RcAt.lists_lengths t1.isList t2.isList (by rw [hsz, hsz2]; simpa using hl) hu0, RcNeAt.lists_lengths t1.isList t2.isList (by rw [hsz, hsz2]; simpa using hl) hu0⟩
    refine ⟨?_, rc.1, rc.2⟩
    by_cases hab : a = b
    ·subst hab;have : D.lst ds = D.lst es := rd_inj I (n + 1) (v := .ref a) px py (rd_lst s1 r1) (rd_lst s2 r2);rw [this, eqb_self];exact EqAt.same _
    ·exact EqAt.of_refs hab rc.1
end
end L3
namespace L2
open PySem PySem.Spec PyProof.Rows
noncomputable def cutC (cs : List Nat) (lo hi : Option Int) : List Nat := (cs.drop (HT.sIx cs.length 0 lo)).take (HT.sIx cs.length cs.length hi - HT.sIx cs.length 0 lo)
theorem pick_cps (cs : Array Nat) (i k : Nat) : (List.range k).filterMap (fun m => cs[i + m]?) = (cs.toList.drop i).take k := by
 induction k generalizing i with
 | zero => simp
 | succ k ih =>
  rw [List.range_succ_eq_map, List.filterMap_cons, List.filterMap_map];have e : (fun m => cs[i + m]?) ∘ Nat.succ = fun m => cs[(i + 1) + m]? := by funext m; simp [Nat.succ_eq_add_one]; congr 1; walk_at "oo"
  rw [e, ih (i + 1)];cases h : cs.toList.drop i with
  | nil =>
   have hl : cs.toList.length <= i := List.drop_eq_nil_iff.mp h;have h1 : cs[i + 0]? = none := by simp at hl; simp [hl]
   have h2 : cs.toList.drop (i + 1) = [] := List.drop_eq_nil_iff.mpr (by walk_at "o")
   rw [h1, h2];simp
  | cons c r =>
   have hlt : i < cs.toList.length := by
    refine Nat.lt_of_not_le fun hle => ?_;rw [List.drop_eq_nil_iff.mpr hle] at h; cases h
   have h0 := drop_eq_getElem_cons hlt;rw [h] at h0;cases h0;have h1 : cs[i + 0]? = some cs.toList[i] := by simp at hlt; simp [hlt]
   rw [h1, List.take_succ_cons]
theorem clip_sIx (n : Nat) (o : Option Int) (d : Nat) (hd : d <= n) : (match o with
  | none => (d : Int)
  | some i => max 0 (min (if i < 0 then i + (n : Int) else i) (n : Int))) = ((HT.sIx n d o : Nat) : Int) := by
 cases o with
 | none => rfl
 | some i =>
  simp only [HT.sIx]
  by_cases h : i < 0
  ·simp only [h, if_true]; walk_at "oo"
  ·simp only [h, if_false]; walk_at "oo"
theorem indices_eq (lo hi : Option Int) (n : Nat) : Builtin.Str.strSliceIndices lo hi 1 n = (List.range (HT.sIx n n hi - HT.sIx n 0 lo)).map fun m => HT.sIx n 0 lo + m := by
 have h1 := clip_sIx n lo 0 (zero_le _);have h2 := clip_sIx n hi n (le_refl _);have e : Builtin.Str.strSliceIndices lo hi 1 n = sliceRange ((HT.sIx n 0 lo : Nat) : Int) ((HT.sIx n n hi : Nat) : Int) 1 := by
  rw [<- h1, <- h2];unfold Builtin.Str.strSliceIndices;cases lo <;> cases hi <;> simp
 rw [e];unfold sliceRange;simp only [show (1 : Int) > 0 by decide, if_true]
 have c : (if ((HT.sIx n 0 lo : Nat) : Int) < ((HT.sIx n n hi : Nat) : Int) then (((HT.sIx n n hi : Nat) : Int) - ((HT.sIx n 0 lo : Nat) : Int) + 1 - 1) / 1 else 0).toNat = HT.sIx n n hi - HT.sIx n 0 lo := by
  rw [Int.ediv_one];split <;> walk_at "oo"
 rw [c];refine map_congr_left fun k _ => ?_;walk_at "oo"
theorem cutC_length_le (cs : List Nat) (lo hi : Option Int) : (cutC cs lo hi).length <= cs.length := by
 unfold cutC;rw [length_take, length_drop];walk_at "oo"
theorem slice_cut (x : Str) (lo hi : Option Int) : Txt.slice x lo hi = ⟨(cutC x.cps.toList lo hi).toArray⟩ := by
 have hn : x.length = x.cps.toList.length := by simp [Str.length]
 have key : (Builtin.Str.strSliceIndices lo hi 1 x.length).filterMap (x.cps[·]?) = cutC x.cps.toList lo hi := by
  rw [indices_eq, List.filterMap_map];unfold cutC;rw [<- hn, <- pick_cps];rfl
 unfold Txt.slice;split
 ·rename_i h;rw [Bool.and_eq_true] at h;have hl : (Builtin.Str.strSliceIndices lo hi 1 x.length).length = x.length := by simpa using h.2
  rw [indices_eq, length_map, List.length_range] at hl;have b1 : HT.sIx x.length x.length hi <= x.length := HT.sIx_le _ _ (le_refl _) _;have h0 : HT.sIx x.length 0 lo = 0 \/ x.length = 0 := by walk_at "o"
  have e : cutC x.cps.toList lo hi = x.cps.toList := by
   unfold cutC;rw [<- hn];rcases h0 with h0 | h0
   ·have h3 : HT.sIx x.length x.length hi = x.length := by walk_at "o"
    rw [h0, h3, drop_zero, Nat.sub_zero, hn, take_length]
   ·have : x.cps.toList = [] := length_eq_zero_iff.mp (by walk_at "o")
    rw [this]; simp
  rw [e]
 ·rw [key]
section
variable {X : Cx}
noncomputable def repS (x : Str) (k : Nat) : Str := ⟨(List.replicate k x.cps.toList).flatten.toArray⟩
theorem foldl_cps (x : Array Nat) : ∀ (k : Nat) (acc : List Nat), (List.replicate k x).foldl (· ++ ·) acc.toArray = (acc ++ (List.replicate k x.toList).flatten).toArray
 | 0, acc => by simp
 | k + 1, acc => by
  rw [List.replicate_succ, foldl_cons, List.replicate_succ, flatten_cons];have : acc.toArray ++ x = (acc ++ x.toList).toArray := by simp
  rw [this, foldl_cps x k];simp
theorem op_mul_str : OpR X (binaryOp .Mult) (fun x y H Q => ∃ z n, x = .str z /\ y = .int n /\ -(2 ^ 63) <= n /\ n < 2 ^ 63 /\ z.length * n.toNat <= sizeLine /\ Q (.str (repS z n.toNat)) H) := by
 intro pins s σ H x y v u Q I rx ry h;obtain ⟨z, n, rfl, rfl, h1, h2, hl, q⟩ := h;obtain ⟨t, rfl⟩ := rx;obtain ⟨t', rfl⟩ := ry;have hn := line63;have len_rep : (repS z n.toNat).length = z.length * n.toNat := by
  simp [repS, Str.length, Nat.mul_comm]
 have bound : ¬ n < 1 -> (z.length : Int) <= (2 ^ 63 - 1) / n := fun h => by
  rw [Int.le_ediv_iff_mul_le (by walk_at "o")]
  have e : (z.length : Int) * n = ((z.length * n.toNat : Nat) : Int) := by
   rw [Int.natCast_mul, Int.toNat_of_nonneg (by walk_at "o")]
  rw [e];walk_at "oo"
 refine PySem.P.mul_str (by rw [decide_eq_false (by walk_at "o"), decide_eq_false (by walk_at "o")]; rfl) (fun h _ => by have := bound h; walk_at "oo") (fun h _ => ?_) ?_
 ·unfold Builtin.Str.tooLong;exact decide_eq_false (by walk_at "o")
 ·have fin : ∀ tk s', Inv X pins σ H s' -> ∀ w, w = repS z n.toNat -> EP X pins σ Q (.str w tk) s' := fun tk s' I' w e => ⟨.str (repS z n.toNat), H, I', ⟨tk, by rw [e]⟩, q⟩
  split
  ·rename_i hlt;have : n.toNat = 0 := by walk_at "o"
   exact ⟨by decide, fin _ _ (I.tok _) _ (by rw [this]; rfl)⟩
  ·split
   ·rename_i hlt he;refine fin _ _ I _ ?_;rw [Bool.or_eq_true] at he;rcases he with he | he
    ·have : n = 1 := by simpa using he
     subst this;simp [repS]
    ·have hz : z.length = 0 := by simpa using he
     have hz' : z.cps = #[] := Array.eq_empty_of_size_eq_zero hz;cases z;simp only at hz';subst hz';simp [repS]
   ·refine ⟨?_, fin _ _ (I.tok _) _ ?_⟩
    ·show (⟨_⟩ : Str).length <= sizeLine;have e := foldl_cps z.cps n.toNat [];simp only [nil_append] at e;rw [show (#[] : Array Nat) = [].toArray from rfl, e]
     exact le_trans (le_of_eq len_rep) hl
    ·have e := foldl_cps z.cps n.toNat [];simp only [nil_append] at e;rw [show (#[] : Array Nat) = [].toArray from rfl, e]
     rfl
theorem sl_str : SlR X (fun x lo hi H Q => ∃ z, x = .str z /\ z.length <= sizeLine /\ Q (.str ⟨(cutC z.cps.toList lo hi).toArray⟩) H) := by
 intro pins s σ H x v vl vu lo hi sl Q I rx hs pl pu h;obtain ⟨z, rfl, hz, q⟩ := h;obtain ⟨t, rfl⟩ := rx;refine ⟨"str", _, PySem.F.slot_str_getitem.lookup, typeIs_str _ _ _, ?_⟩;have part : ∀ {v : Value} {o : Option Int}, IsPart v o -> ∃ p : Option (Int × Tok), v = partValue p /\ p.map (·.1) = o := by
  intro v o h;cases h with
  | none => exact ⟨none, rfl, rfl⟩
  | int i t => exact ⟨some (i, t), rfl, rfl⟩
 obtain ⟨pl', e1, f1⟩ := part pl;obtain ⟨pu', e2, f2⟩ := part pu;subst e1 e2;refine wpAny_getItem_str_slice (l := pl') (u := pu') (st := none) ?_ rfl ?_
 ·obtain ⟨o, a, b, c⟩ := hs;exact ⟨o, a, b, c⟩
 ·unfold sliceMade;subst f1 f2;have e : (if (((none : Option (Int × Tok)).map (·.1)).getD 1 == 1 && (slicePicked z pl' pu' none).length == z.length) = true then z else ⟨((slicePicked z pl' pu' none).filterMap (z.cps[·]?)).toArray⟩) = (⟨(cutC z.cps.toList (pl'.map (·.1)) (pu'.map (·.1))).toArray⟩ : Str) := by
   rw [<- slice_cut];rfl
  refine post_val_or_str ⟨?_, fun t' k => ?_⟩
  ·rw [e];show (cutC z.cps.toList (pl'.map (·.1)) (pu'.map (·.1))).toArray.size <= sizeLine
   rw [size_toArray];refine le_trans (cutC_length_le _ _ _) ?_
   simpa [Str.length] using hz
  ·rw [e];exact ⟨.str _, H, I.tok k, ⟨t', rfl⟩, q⟩
end
end L2
namespace L3
open PySem PySem.Spec PyProof.Rows L2
noncomputable def liftOpV (K : Frag) (r3 : R3) : R2 := fun v u H Q => ∃ x y G Q3, RD K H x v /\ RD K H y u /\ RG K H G /\ r3 x y G Q3 /\ Fin3 K G H Q3 Q
noncomputable def eOpV (r : R3) (ta tb : TE3) : TE3 := fun σ G Q => ta σ G fun x G1 => tb σ G1 fun y G2 => r (val x) (val y) G2 Q
section
variable {X : Cx} {a b c : Expr} {ta tb tc : TE3} {pos : Pos} {r : R3}
theorem twoV {K : Frag} {Q : VK} {τ : St} {H : Hp} (h : lift K (eOpV r ta tb) τ H Q) : tOp (liftOpV K r) (liftV K ta) (liftV K tb) τ H Q := by
 obtain ⟨σ, G, Q3, rs, rg, h, k⟩ := h;refine ⟨σ, G, _, rs, rg, h, fun x G1 v H1 h1 k1 rg1 re1 => ⟨σ, G1, _, rs.mono (k1.stb rg), rg1, h1, fun y G2 u H2 h2 k2 rg2 re2 => ?_⟩⟩;exact ⟨val x, val y, G2, Q3, RD.mono (k2.stb rg1) _ _ re1, re2, rg2, h2, k.base (k1.trans k2)⟩
theorem p_cmpV {op : CmpOp} (ho : OpR X (compareOp op) (liftOpV X.K r)) (ha : PE X a (lift X.K ta)) (hb : PE X b (lift X.K tb)) (hm : behindInMarks op b = false) : PE X (.Compare a [op] [b] pos) (lift X.K (eOpV r ta tb)) :=
 (pe_cmpR ho (pe_val ha) (pe_val hb) hm).imp fun _ _ _ h => twoV h
theorem p_tcmpV {op : CmpOp} (ho : OpR X (compareOp op) (liftOpV X.K r)) (ha : PE X a (lift X.K ta)) (hb : PE X b (lift X.K tb)) (hm : behindInMarks op b = false) : PT X (.Compare a [op] [b] pos) (liftT X.K (tTru (eOpV r ta tb))) :=
 (pt_cmpR ho (pe_val ha) (pe_val hb) hm).imp fun _ _ _ h => twoV (tru_of h)
noncomputable def oEq : R3 := fun x y G Q => match x, y with
 | .bl a, .bl b => Q (.bl (a == b)) G
 | x, y => pl 8 x /\ pl 8 y /\ Q (.bl (eqb x y)) G
noncomputable def oNe : R3 := fun x y G Q => match x, y with
 | .bl a, .bl b => Q (.bl (!(a == b))) G
 | x, y => pl 8 x /\ pl 8 y /\ Q (.bl (!eqb x y)) G
theorem x_eq (hu : X.A.units + 8 < cLine) : OpR X (compareOp .Eq) (liftOpV X.K oEq) := by
 rintro pins s σ H v u v' u' Q I rv ru ⟨x, y, G, Q3, rx, ry, rg, h, k⟩
 unfold oEq at h;split at h
 ·rename_i a b;simp only [RD] at rx ry;subst rx ry;cases rv; cases ru;exact SeqAt.RcAt.bool_bool a b X.prog X.w X.xe _ ⟨.bl (a == b), H, I, rfl, k _ G _ H h Kp.refl rg (.of rd_bl)⟩
 ·obtain ⟨p1, p2, q⟩ := h;exact (cmp_D I 8 p1 p2 rx ry rv ru hu).rc X.prog X.w X.xe _ ⟨.bl _, H, I, rfl, k _ G _ H q Kp.refl rg (.of rd_bl)⟩
theorem x_ne (hu : X.A.units + 8 < cLine) : OpR X (compareOp .NotEq) (liftOpV X.K oNe) := by
 rintro pins s σ H v u v' u' Q I rv ru ⟨x, y, G, Q3, rx, ry, rg, h, k⟩
 unfold oNe at h;split at h
 ·rename_i a b;simp only [RD] at rx ry;subst rx ry;cases rv; cases ru;exact SeqAt.RcNeAt.bool_bool a b X.prog X.w X.xe _ ⟨.bl (!(a == b)), H, I, rfl, k _ G _ H h Kp.refl rg (.of rd_bl)⟩
 ·obtain ⟨p1, p2, q⟩ := h;exact (cmp_D I 8 p1 p2 rx ry rv ru hu).ne X.prog X.w X.xe _ ⟨.bl _, H, I, rfl, k _ G _ H q Kp.refl rg (.of rd_bl)⟩
abbrev Sp3 := List D -> Gp -> VK3 -> Prop
noncomputable def liftSp (K : Frag) (sp : Sp3) : Sp := fun vs H Q _ => ∃ ds G Q3, RDs K H ds vs /\ RG K H G /\ sp ds G Q3 /\ Fin3 K G H Q3 Q
noncomputable def start3 (N : List Str) (ds : List D) : St3 := ds.map some ++ List.replicate (N.length - ds.length) none
theorem rs_start {K : Frag} {H : Hp} {N : List Str} {ds : List D} {vs : List V} (r : RDs K H ds vs) : RS K H (start3 N ds) (L2.start N vs) := by
 unfold start3 L2.start;have hl := r.length;rw [hl];have rep : ∀ n : Nat, Paired (RSo K H) (List.replicate n none) (List.replicate n none) := fun n => by
  induction n with
  | zero => exact .nil
  | succ n ih => exact .cons (show RSo K H none none from trivial) ih
 have go : ∀ {ds : List D} {vs : List V} {σ : St3} {τ : St}, RDs K H ds vs -> Paired (RSo K H) σ τ -> Paired (RSo K H) (ds.map some ++ σ) (vs.map some ++ τ) := by
  intro ds
  induction ds with
  | nil => intro vs σ τ r q; rw [r.inv_nil]; exact q
  | cons d t ih =>
   intro vs σ τ r q;obtain ⟨x, xs, e, h1, h2⟩ := r.inv_cons;subst e;exact .cons (show RSo K H (some d) (some x) from h1) (ih h2 q)
 exact go r (rep _)
variable {P : Program} {w : World} {K : Frag} {mg : Str -> Option Value} {base : Heap}
structure Fn3 (P : Program) (w : World) (K : Frag) (mg : Str -> Option Value) (base : Heap) (k : Nat) (x : Str) (dds : List D) (sp : Sp3) : Prop where
 ex : ∃ f fd ps ds dvs, FnOk P w K mg base CX0 k f fd ps (liftSp K sp) /\ mg x = some (.ref f) /\ keepIn K (.ref f) = true /\ Binds K fd ps ds /\ Vals dvs ds /\ ∀ H, RDs K H dds dvs
structure Mt3 (P : Program) (w : World) (K : Frag) (mg : Str -> Option Value) (base : Heap) (k : Nat) (C : Addr) (m : Str) (dds : List D) (sp : Sp3) : Prop where
 cl : Cls K C
 ex : ∃ f fd ps ds dvs, FnOk P w K mg base CX0 k f fd ps (liftSp K sp) /\ Meth K C m f /\ Binds K fd ps ds /\ Vals dvs ds /\ ∀ H, RDs K H dds dvs
structure Mk3 (P : Program) (w : World) (K : Frag) (mg : Str -> Option Value) (base : Heap) (k : Nat) (x : Str) (C : Addr) (dds : List D) (sp : Sp3) : Prop where
 ex : ∃ f fd ps ds dvs, Mk K C f /\ mg x = some (.ref C) /\ FnOk P w K mg base CX0 k f fd ps (liftSp K sp) /\ Binds K fd ps ds /\ Vals dvs ds /\ ∀ H, RDs K H dds dvs
noncomputable def eCall (sp : Sp3) (dds : List D) (ta : TA3) : TE3 := fun σ G Q => ta σ G fun ds G1 => sp (ds ++ dds) G1 Q
noncomputable def eMeth (C : Addr) (L : List Str) (sp : Sp3) (dds : List D) (to : TE3) (ta : TA3) : TE3 := fun σ G Q => to σ G fun x G1 => match x with
 | .ref a => match G1 a with
  | some (.ins C' L' _) => (C' = C /\ L' = L) /\ ta σ G1 fun ds G2 => sp (.ref a :: (ds ++ dds)) G2 Q
  | _ => False
 | _ => False
noncomputable def eMake (C : Addr) (sp : Sp3) (dds : List D) (ta : TA3) : TE3 := fun σ G Q => ta σ G fun ds G1 => ∀ a, G1 a = none -> sp (.ref a :: (ds ++ dds)) (gset G1 a (.ins C [] [])) fun d G2 => d = .non /\ Q (.ref a) G2
variable {e o : Expr} {es : List Expr} {t : TA3} {te to : TE3} {k : Nat} {x m : Str} {p apos : Pos} {dds : List D} {sp : Sp3} {C : Addr}
theorem call_read {Q : VK} {τ : St} {H : Hp} {dvs : List V} (hd : ∀ H, RDs K H dds dvs) (h : lift K (eCall sp dds t) τ H Q) (E : XK) : tCall (liftSp K sp) dvs E (liftA K t) τ H Q := by
 obtain ⟨σ, G, Q3, rs, rg, h, kk⟩ := h;exact ⟨σ, G, _, rs, rg, h, fun ds G1 vs H1 q k1 rg1 rds => ⟨ds ++ dds, G1, Q3, rds.append (hd H1), rg1, q, kk.base k1⟩⟩
theorem p_call (F : Fn3 X.prog X.w X.K X.mg X.base k x dds sp) (hr : Room k X.A) (hg : Gl X x) (ha : PA X (e :: es) (liftA X.K t)) (hdb : (x == ("__debug__" : Str)) = false := by decide) (he : starEach (e :: es) X.env = (false, eval e X.env) :: starEach es X.env := by rfl)
  (hpl : (backTo pos (starEach es X.env)).any (·.1) = false := by rfl) : PE X (.Call (.Name x p) (e :: es) [] pos) (lift X.K (eCall sp dds t)) := by
 obtain ⟨f, fd, ps, ds, dvs, ok, hm, hk, hb, hv, hd⟩ := F.ex;exact (pe_call ok hr hg hm hk hb hv pass0 ha hdb he hpl).imp fun _ _ _ h => call_read hd h E0
theorem look_none {K : Frag} {gs : List (Str × V)} {L : List Str} {m : Str} (h : gs.map (·.1) = L) (n : m ∉ L) : gs.lookup m = none := by
 subst h
 induction gs with
 | nil => rfl
 | cons g r ih =>
  obtain ⟨y, v⟩ := g;rw [map_cons, mem_cons, not_or] at n;rw [lookup_cons, show (m == y) = false by simpa using n.1]
  exact ih n.2
theorem make_read {Q : VK} {τ : St} {H : Hp} {dvs : List V} (hd : ∀ H, RDs K H dds dvs) (h : lift K (eMake C sp dds t) τ H Q) (E : XK) : tMake C (liftSp K sp) dvs E (liftA K t) τ H Q := by
 obtain ⟨σ, G, Q3, rs, rg, h, kk⟩ := h;refine ⟨σ, G, _, rs, rg, h, fun ds G1 vs H1 q k1 rg1 rds a dx na nd ne => ?_⟩;have kd : Kp G1 H1 G1 (upd H1 dx (.own a)) := Kp.laid nd;have rgd : RG K (upd H1 dx (.own a)) G1 := rg1.laid nd;have na' : upd H1 dx (.own a) a = none := by rw [upd_ne (Ne.symm ne)]; exact na
 have ka : Kp G1 H1 (gset G1 a (.ins C [] [])) (upd (upd H1 dx (.own a)) a (.ins C dx [])) := fun b h' e n => by
  have : b ≠ a := ne_of_none e na;exact ⟨by rw [upd_ne this, upd_ne (ne_of_none e nd)]; exact e, by rw [gset_ne this]; exact n⟩
 have st : Stb K H1 (upd (upd H1 dx (.own a)) a (.ins C dx [])) := ka.stb rg1;have rga : RG K (upd (upd H1 dx (.own a)) a (.ins C dx [])) (gset G1 a (.ins C [] [])) := fun b o q => by
  by_cases hb : b = a
  ·subst hb;rw [gset_same] at q; cases q;exact ⟨_, upd_same, rfl, rfl, RDs.nil⟩
  ·rw [gset_ne hb] at q;obtain ⟨h', e1, r⟩ := rg1 b o q;exact ⟨h', by rw [upd_ne hb, upd_ne (ne_of_none e1 nd)]; exact e1, r.mono st⟩
 refine ⟨.ref a :: (ds ++ dds), _, _, RDs.cons rd_ref (RDs.append (RDs.mono st _ _ rds) (hd _)), rga, q a (rg1.free na), fun d G2 v H2 q2 k2 rg2 re => ?_⟩;obtain ⟨rfl, q2⟩ := q2;exact ⟨re.non, kk _ G2 _ H2 q2 (k1.trans (ka.trans k2)) rg2 (.of rd_ref)⟩
theorem p_make (F : Mk3 X.prog X.w X.K X.mg X.base k x C dds sp) (hr : Room (k + 1) X.A) (hg : Gl X x) (ha : PA X (e :: es) (liftA X.K t)) (hdb : (x == ("__debug__" : Str)) = false := by decide) (he : starEach (e :: es) X.env = (false, eval e X.env) :: starEach es X.env := by rfl)
  (hpl : (backTo pos (starEach es X.env)).any (·.1) = false := by rfl) : PE X (.Call (.Name x p) (e :: es) [] pos) (lift X.K (eMake C sp dds t)) := by
 obtain ⟨f, fd, ps, ds, dvs, M, hm, ok, hb, hv, hd⟩ := F.ex;exact (pe_make M ok hr hg hm hb hv pass0 ha hdb he hpl).imp fun _ _ _ h => make_read hd h E0
noncomputable def eFld (C : Addr) (L : List Str) (i : Nat) (to : TE3) : TE3 := fun σ G Q => to σ G fun x G1 => match x with
 | .ref a => match G1 a with
  | some (.ins C' L' ds) => (C' = C /\ L' = L) /\ match ds[i]? with
   | some d => Q d G1
   | none => False
  | _ => False
 | _ => False
theorem put_new : ∀ {gs : List (Str × V)} {f : Str} (v : V), f ∉ gs.map (·.1) -> putF f v gs = gs ++ [(f, v)]
 | [], f, v, h => rfl
 | (g, u) :: r, f, v, h => by
  rw [map_cons, mem_cons, not_or] at h;simp only [putF, if_neg (Ne.symm h.1), put_new v h.2, cons_append]
noncomputable def sFld3 (C : Addr) (L : List Str) (i : Nat) (to tv : TE3) : TS3 := fun D σ G => tv σ G fun d G1 => to σ G1 fun x G2 => match x with
 | .ref a => match G2 a with
  | some (.ins C' L' ds) => (C' = C /\ L' = L) /\ D.nx σ (gset G2 a (.ins C L (ds.set i (val d))))
  | _ => False
 | _ => False
noncomputable def sFldN (C : Addr) (L : List Str) (f : Str) (to tv : TE3) : TS3 := fun D σ G => tv σ G fun d G1 => to σ G1 fun x G2 => match x with
 | .ref a => match G2 a with
  | some (.ins C' L' ds) => (C' = C /\ L' = L) /\ D.nx σ (gset G2 a (.ins C (L ++ [f]) (ds ++ [val d])))
  | _ => False
 | _ => False
theorem put_ok {H : Hp} {G : Gp} {a : Addr} {C2 dx : Addr} {gs gs' : List (Str × V)} {L' : List Str} {ds' : List D} (rg : RG K H G) (e1 : H a = some (.ins C2 dx gs)) (r1 : gs'.map (·.1) = L') (r2 : RDs K H ds' (gs'.map (·.2))) (hg : G a ≠ none) :
  Kp G H (gset G a (.ins C2 L' ds')) (upd H a (.ins C2 dx gs')) /\ RG K (upd H a (.ins C2 dx gs')) (gset G a (.ins C2 L' ds')) := by
 have kp : Kp G H (gset G a (.ins C2 L' ds')) (upd H a (.ins C2 dx gs')) := fun b h e n => by
  have : b ≠ a := fun z => by subst z; exact hg n
  exact ⟨by rw [upd_ne this]; exact e, by rw [gset_ne this]; exact n⟩
 have st := kp.stb rg;refine ⟨kp, fun b o q => ?_⟩
 by_cases hb : b = a
 ·subst hb;rw [gset_same] at q; cases q;exact ⟨_, upd_same, rfl, r1, RDs.mono st _ _ r2⟩
 ·rw [gset_ne hb] at q;obtain ⟨h', e2, r⟩ := rg b o q;exact ⟨h', by rw [upd_ne hb]; exact e2, r.mono st⟩
noncomputable def sAsg (te : TE3) (g : TG3) : TS3 := fun D σ G => te σ G fun d G' => g (val d) σ G' D.nx
theorem q_asg {tg : Expr} {g : TG3} (he : PE X e (lift X.K te)) (hg : PG X tg (liftG X.K g)) (hs : swapsWithSole [tg] e pos.line X.env = pure false := by rfl) (hw : swappedStores [tg] e X.env = pure none := by rfl)
  (h1 : (assignEach [tg] X.env).map (·.2) = [assign tg X.env] := by rfl) : PS X (.Assign [tg] e pos) (liftS X.K (sAsg te g)) :=
 (ps_asg (pe_val he) hg hs hw h1).imp fun D τ H zz => by
 obtain ⟨σ, G, D3, rs, rg, h, kk⟩ := zz;exact (
  ⟨σ, G, _, rs, rg, h, fun d G1 v H1 q k1 rg1 rd => ⟨val d, σ, G1, _, rd, rs.mono (k1.stb rg), rg1, q, fun σ' G' τ' H' q' k' => kk.nx σ' G' τ' H' q' (k1.trans k')⟩⟩)
abbrev RC3 := List D -> Gp -> VK3 -> Prop
noncomputable def liftC (K : Frag) (r3 : RC3) : List V -> Hp -> VK -> Prop := fun vs H Q => ∃ ds G Q3, RDs K H ds vs /\ RG K H G /\ r3 ds G Q3 /\ Fin3 K G H Q3 Q
noncomputable def eB (r : RC3) (ta : TA3) : TE3 := fun σ G Q => ta σ G fun ds G1 => r ds G1 Q
variable {id T : String} {r3 : RC3}
theorem bread {Q : VK} {τ : St} {H : Hp} (h : lift K (eB r3 t) τ H Q) : tCB (liftC K r3) (liftA K t) τ H Q := by
 obtain ⟨σ, G, Q3, rs, rg, h, kk⟩ := h;exact ⟨σ, G, _, rs, rg, h, fun ds G1 vs H1 q k1 rg1 rds => ⟨ds, G1, Q3, rds, rg1, q, kk.base k1⟩⟩
theorem p_callB (hc : CallR X (.builtin id) (liftC X.K r3)) (hg : Gl X x) (hm : X.mg x = none) (hv : bootBuiltins x = some (.builtin id)) (ha : PA X (e :: es) (liftA X.K t)) (hn : x ≠ "__name__" := by decide) (hdb : (x == ("__debug__" : Str)) = false := by decide)
  (he : starEach (e :: es) X.env = (false, eval e X.env) :: starEach es X.env := by rfl) (hpl : (backTo pos (starEach es X.env)).any (·.1) = false := by rfl) : PE X (.Call (.Name x p) (e :: es) [] pos) (lift X.K (eB r3 t)) :=
 (pe_callB hc hg hm hv ha hn hdb he hpl).imp fun _ _ _ h => bread h
theorem p_callTy (hc : CallR X (.type T) (liftC X.K r3)) (hg : Gl X x) (hm : X.mg x = none) (hv : bootBuiltins x = some (.type T)) (ha : PA X (e :: es) (liftA X.K t)) (hn : x ≠ "__name__" := by decide) (hdb : (x == ("__debug__" : Str)) = false := by decide)
  (he : starEach (e :: es) X.env = (false, eval e X.env) :: starEach es X.env := by rfl) (hpl : (backTo pos (starEach es X.env)).any (·.1) = false := by rfl) : PE X (.Call (.Name x p) (e :: es) [] pos) (lift X.K (eB r3 t)) :=
 (pe_callTy hc hg hm hv ha hn hdb he hpl).imp fun _ _ _ h => bread h
noncomputable def bLen : RC3 := fun ds G Q => match ds with
 | [.str z] => z.length <= sizeLine /\ Q (.int z.length) G
 | [d] => match asQ G d with
  | some es => Q (.int es.length) G
  | none => False
 | _ => False
theorem one_inv {H : Hp} {d : D} {vs : List V} (r : RDs K H [d] vs) : ∃ v, vs = [v] /\ RD K H d v := by
 obtain ⟨v, t, e, h1, h2⟩ := r.inv_cons;have := h2.inv_nil;subst this;exact ⟨v, e, h1⟩
theorem b_len : CallR X (.builtin "len") (liftC X.K bLen) := ((call_len_str (X := X)).or (call_len_seq (X := X))).imp fun vs H Q zz => by
 obtain ⟨ds, G, Q3, rds, rg, h, kk⟩ := zz;unfold bLen at h;split at h
 ·rename_i z;obtain ⟨v, rfl, rd⟩ := one_inv rds;simp only [RD] at rd;subst rd;exact .inl ⟨z, rfl, h.1, kk _ G _ H h.2 Kp.refl rg (.of rd_int)⟩
 ·rename_i d _;obtain ⟨v, rfl, rd⟩ := one_inv rds;split at h
  ·rename_i es he;obtain ⟨a, xs, rfl, s, r⟩ := asQ_sq (G := G) (H := H) he (.of rd) rg;exact .inr ⟨a, xs, rfl, s, by rw [<- r.length]; exact kk _ G _ H h Kp.refl rg (.of rd_int)⟩
  ·exact h.elim
 ·exact h.elim
noncomputable def bList : RC3 := fun ds G Q => match ds with
 | [d] => match asQ G d with
  | some es => Q (.fl es) G
  | none => False
 | _ => False
theorem b_list : CallR X (.type "list") (liftC X.K bList) := (call_list_of (X := X)).imp fun vs H Q zz => by
 obtain ⟨ds, G, Q3, rds, rg, h, kk⟩ := zz;unfold bList at h;split at h
 ·rename_i d;obtain ⟨v, rfl, rd⟩ := one_inv rds;split at h
  ·rename_i es he;obtain ⟨a, xs, rfl, s, r⟩ := asQ_sq (G := G) (H := H) he (.of rd) rg;exact ⟨a, xs, rfl, s, fun p hp => kk _ G _ _ h (Kp.laid hp) (rg.laid hp) (fl_new rg hp r)⟩
  ·exact h.elim
 ·exact h.elim
noncomputable def bTuple : RC3 := fun ds G Q => match ds with
 | [d] => match asQ G d with
  | some es => Q (.tup es) G
  | none => False
 | _ => False
theorem b_tuple : CallR X (.type "tuple") (liftC X.K bTuple) := (call_tuple_of (X := X)).imp fun vs H Q zz => by
 obtain ⟨ds, G, Q3, rds, rg, h, kk⟩ := zz;unfold bTuple at h;split at h
 ·rename_i d;obtain ⟨v, rfl, rd⟩ := one_inv rds;split at h
  ·rename_i es he;obtain ⟨a, xs, rfl, s, r⟩ := asQ_sq (G := G) (H := H) he (.of rd) rg;refine ⟨a, xs, rfl, ?_⟩;rcases s with s | s
   ·exact .inl ⟨s, fun p hp => kk _ G _ _ h (Kp.laid hp) (rg.laid hp) (.of (tup_new rg hp r))⟩
   ·exact .inr ⟨s, kk _ G _ H h Kp.refl rg (.of (rd_tup s r))⟩
  ·exact h.elim
 ·exact h.elim
noncomputable def bSum : RC3 := fun ds G Q => match ds with
 | [d] => ∃ ns : List Int, asL G d = some (ns.map D.int) /\ Q (.int ns.sum) G
 | _ => False
noncomputable def bMin : RC3 := fun ds G Q => match ds with
 | [.int i, .int j] => Q (.int (if j < i then j else i)) G
 | _ => False
noncomputable def bMax : RC3 := fun ds G Q => match ds with
 | [.int i, .int j] => Q (.int (if j > i then j else i)) G
 | _ => False
end
section
variable {X : Cx}
noncomputable def oMul : R3 := fun x y G Q => match x, y with
 | .int i, .int j => CMul i j /\ Q (.int (i * j)) G
 | .str z, .int n => (-(2 ^ 63) <= n /\ n < 2 ^ 63 /\ z.length * n.toNat <= sizeLine) /\ Q (.str (repS z n.toNat)) G
 | _, _ => False
theorem x_mul : OpR X (binaryOp .Mult) (liftOp X.K oMul) := ((op_mul (X := X)).or (op_mul_str (X := X))).imp fun v u H Q zz => by
 obtain ⟨x, y, G0, H0, G, Q3, rx, ry, rg, h, k⟩ := zz;unfold oMul at h;split at h
 ·rename_i i j;exact .inl ⟨i, j, rx.int, ry.int, h.1, k _ G _ H h.2 Kp.refl rg (.of rd_int)⟩
 ·rename_i z n;exact .inr ⟨z, n, rx.str, ry.int, h.1.1, h.1.2.1, h.1.2.2, k _ G _ H h.2 Kp.refl rg (.of rd_str)⟩
 ·exact h.elim
noncomputable def slA : RSl := fun x lo hi G Q => match x with
 | .str z => z.length <= sizeLine /\ Q (.str ⟨(cutC z.cps.toList lo hi).toArray⟩) G
 | .tup ds => ¬ (HT.sIx ds.length 0 lo = 0 /\ HT.sIx ds.length ds.length hi = ds.length) /\ Q (.tup (cutD ds lo hi)) G
 | x => match asL G x with
  | some ds => Q (.fl (cutD ds lo hi)) G
  | none => False
theorem x_sl : SlR X (liftSl X.K slA) := ((sl_str (X := X)).or ((sl_tup (X := X)).or (sl_list (X := X)))).imp fun v lo hi H Q zz => by
 obtain ⟨x, G0, H0, G, Q3, rx, rg, h, k⟩ := zz;unfold slA at h;split at h
 ·rename_i z;exact .inl ⟨z, rx.str, h.1, k _ G _ H h.2 Kp.refl rg (.of rd_str)⟩
 ·rename_i ds;obtain ⟨a, xs, rfl, s, r⟩ := rx.tup;refine .inr (.inl ⟨a, xs, rfl, s, by rw [<- r.length]; exact h.1, fun p hp => k _ G _ _ h.2 (Kp.laid hp) (rg.laid hp) (.of (tup_new rg hp (cut_rds r lo hi)))⟩)
 ·split at h
  ·rename_i ds hds;obtain ⟨a, xs, rfl, s, r⟩ := asL_sq hds rx rg;exact .inr (.inr ⟨a, xs, rfl, s, fun p hp => k _ G _ _ h (Kp.laid hp) (rg.laid hp) (fl_new rg hp (cut_rds r lo hi))⟩)
  ·exact h.elim
noncomputable def eJoin (to : TE3) (ta : TA3) : TE3 := fun σ G Q => to σ G fun x G1 => match x with
 | .str z => ta σ G1 fun ds G2 => match ds with
  | [d] => ∃ ys : List Str, asL G2 d = some (ys.map D.str) /\ (ys.map (·.length)).sum + ys.length * z.length <= 16777216 /\ Q (.str (Txt.join z ys)) G2
  | _ => False
 | _ => False
variable {o e : Expr} {es : List Expr} {to te : TE3} {t : TA3} {apos cpos pos p : Pos}
noncomputable def eAppend (to : TE3) (ta : TA3) : TE3 := fun σ G Q => to σ G fun x G1 => match x with
 | .ref a => (∃ ds, G1 a = some (.lst ds)) /\ ta σ G1 fun es G2 => match es with
  | [d] => match G2 a with
   | some (.lst ds) => ds.length < sizeLine /\ Q .non (gset G2 a (.lst (ds ++ [d])))
   | _ => False
  | _ => False
 | _ => False
theorem lset_ok {K : Frag} {H : Hp} {G : Gp} {a : Addr} {xs ys : List V} {ds' : List D} (rg : RG K H G) (e1 : H a = some (.lst xs)) (r2 : RDs K H ds' ys) (hg : G a ≠ none) :
  Kp G H (gset G a (.lst ds')) (upd H a (.lst ys)) /\ RG K (upd H a (.lst ys)) (gset G a (.lst ds')) := by
 have kp : Kp G H (gset G a (.lst ds')) (upd H a (.lst ys)) := fun b h e n => by
  have : b ≠ a := fun z => by subst z; exact hg n
  exact ⟨by rw [upd_ne this]; exact e, by rw [gset_ne this]; exact n⟩
 have st := kp.stb rg;refine ⟨kp, fun b o q => ?_⟩
 by_cases hb : b = a
 ·subst hb;rw [gset_same] at q; cases q;exact ⟨_, upd_same, RDs.mono st _ _ r2⟩
 ·rw [gset_ne hb] at q;obtain ⟨h', e2, r⟩ := rg b o q;exact ⟨h', by rw [upd_ne hb]; exact e2, r.mono st⟩
theorem lst_at {K : Frag} {H : Hp} {G : Gp} {a : Addr} {ds : List D} (rg : RG K H G) (e : G a = some (.lst ds)) : ∃ xs, H a = some (.lst xs) /\ RDs K H ds xs := by
 obtain ⟨ho, e1, ro⟩ := rg a _ e;cases ho with
 | lst xs => exact ⟨xs, e1, ro⟩
 | _ => exact ro.elim
theorem p_append (ho : PE X o (lift X.K to)) (ha : PA X [e] (liftA X.K t)) (hbase : attributeBase o "append" X.env (eval o X.env) = eval o X.env := by rfl)
  (hfew : ((backTo cpos (starEach [e] X.env)).all (fun x => !x.1) && (backToKw cpos (keywordEach [] X.env)).all (fun x => x.1.isSome)
   && decide (([e] : List Expr).length + ([] : List Keyword).length + (if ([] : List Keyword).isEmpty then 0 else 1) < 30)) = true := by rfl)
  (hline : (apos.endLine == cpos.line) = true := by rfl) (hs : starEach [e] X.env = (false, eval e X.env) :: starEach [] X.env := by rfl) (hplain : (backTo cpos (starEach [] X.env)).any (·.1) = false := by rfl) :
  PE X (.Call (.Attribute o "append" apos) [e] [] cpos) (lift X.K (eAppend to t)) :=
 (pe_bm PySem.F.plainAttrs_list PySem.F.slot_list_append PySem.F.type_list_append mt_append ho ha hbase hfew hline hs hplain).imp fun τ H Q zz => by
 obtain ⟨σ, G, Q3, rs, rg, h, k⟩ := zz;exact (
  ⟨σ, G, _, rs, rg, h, fun d G1 v H1 q k1 rg1 re => by
    cases d with
    | ref a =>
     rw [re.ref];obtain ⟨⟨ds, hg⟩, q⟩ := q;obtain ⟨xs, e1, r1⟩ := lst_at rg1 hg;refine ⟨.inl ⟨rfl, xs, SqL.of e1⟩, σ, G1, _, rs.mono (k1.stb rg), rg1, q, fun es G2 vs H2 q2 k2 rg2 rds => ?_⟩;split at q2
     ·rename_i d;obtain ⟨v2, rfl, rd⟩ := one_inv rds;split at q2
      ·rename_i ds2 hg2;obtain ⟨xs2, e2, r2⟩ := lst_at rg2 hg2;have rr : RDs X.K H2 (ds2 ++ [d]) (xs2 ++ [v2]) := r2.append (RDs.cons rd RDs.nil);obtain ⟨kp, rg3⟩ := lset_ok rg2 e2 rr (by rw [hg2]; exact fun z => nomatch z)
       exact ⟨a, xs2, v2, rfl, rfl, e2, by rw [<- r2.length]; exact q2.1, k _ _ _ _ q2.2 ((k1.trans k2).trans kp) rg3 (.of rd_non)⟩
      ·exact q2.elim
     ·exact q2.elim
    | _ => exact q.elim⟩)
noncomputable def kindOf3 (G : Gp) : D -> Option String
 | .int _ => some "int"
 | .str _ => some "str"
 | .bl _ => some "bool"
 | .tup _ => some "tuple"
 | d => (asL G d).map fun _ => "list"
noncomputable def bIsT : RC3 := fun ds G Q => match ds with
 | [d, .ty T] => kindOf3 G d = some T /\ Q (.bl true) G
 | _ => False
theorem b_isT : CallR X (.builtin "isinstance") (liftC X.K bIsT) := by
 rintro pins s σ H vs us Q I rv ⟨ds, G, Q3, rds, rg, h, kk⟩
 unfold bIsT at h;split at h
 ·rename_i d T;obtain ⟨v, t, e, h1, h2⟩ := rds.inv_cons;obtain ⟨u2, e2, h3⟩ := one_inv h2;simp only [RD] at h3;subst e e2 h3;obtain ⟨u, w', rfl, ru, rw'⟩ := vals2 rv;cases rw';have fin : ∀ tk, EP X pins σ Q (.bool true) { s with toks := tk } := fun tk => ⟨.bl true, H, I.tok tk, rfl, kk _ G _ H h.2 Kp.refl rg (.of rd_bl)⟩
  have one : ∀ T' : String, kitOne X.K (.type T') (.type T') = some true := fun T' => by
   unfold kitOne;rw [if_pos (beq_self_eq_true _)]
  have hk := h.1;cases d with
  | int i =>
   simp only [kindOf3, Option.some.injEq] at hk; subst hk;simp only [RD] at h1; subst h1; obtain ⟨t, rfl⟩ := ru;exact isinst_ok (x := V.int i) I ⟨t, rfl⟩ (TyOf.int i) (one _) fin
  | str i =>
   simp only [kindOf3, Option.some.injEq] at hk; subst hk;simp only [RD] at h1; subst h1; obtain ⟨t, rfl⟩ := ru;exact isinst_ok (x := V.str i) I ⟨t, rfl⟩ (TyOf.str i) (one _) fin
  | bl i =>
   simp only [kindOf3, Option.some.injEq] at hk; subst hk;simp only [RD] at h1; subst h1; cases ru;exact isinst_ok (x := V.bl i) I rfl (TyOf.bl i) (one _) fin
  | tup es =>
   simp only [kindOf3, Option.some.injEq] at hk; subst hk;simp only [RD] at h1;obtain ⟨a, xs, rfl, sq, r⟩ := h1;cases ru;obtain ⟨_, _, ⟨o, e1, c, _⟩, _⟩ := I.tuple sq;exact kia_one PySem.W.kitx_tuple I.kIn ⟨o, e1, c⟩ (one _) (fun z => nomatch z) fin
  | _ =>
   simp only [kindOf3, Option.map_eq_some_iff] at hk;obtain ⟨es, he, rfl⟩ := hk;obtain ⟨a, xs, rfl, sq, r⟩ := asL_sq (G := G) (H := H) he (.of h1) rg;cases ru;obtain ⟨_, _, p, _⟩ := I.list sq;obtain ⟨o, e1, c, _⟩ := p.isList;exact kia_one kitx_list I.kIn ⟨o, e1, c⟩ (one _) (fun z => nomatch z) fin
 ·exact h.elim
theorem p_ty {x : Str} {T : String} (hg : Gl X x) (hm : X.mg x = none) (hv : bootBuiltins x = some (.type T)) (hn : x ≠ "__name__" := by decide) (hd : (x == ("__debug__" : Str)) = false := by decide) : PE X (.Name x pos) (lift X.K (eC (.ty T))) :=
 p_c (pe_bltn (v := .ty T) hg hm hv rfl hn hd) fun _ => by simp only [RD]
theorem p_const {x : Str} {d : D} {v : V} {u : Value} (hg : Gl X x) (hm : X.mg x = some u) (r : RelV v u) (rd : ∀ H, RD X.K H d v) (hd : (x == ("__debug__" : Str)) = false := by decide) : PE X (.Name x pos) (lift X.K (eC d)) := p_c (pe_glob hg hm r hd) rd
noncomputable def eNeg (te : TE3) : TE3 := fun σ G Q => te σ G fun x G1 => match x with
 | .int i => Q (.int (-i)) G1
 | _ => False
theorem p_neg (he : PE X e (lift X.K te)) : PE X (.UnaryOp .USub e pos) (lift X.K (eNeg te)) := (pe_un un_neg he).imp fun τ H Q ⟨σ, G, Q3, rs, rg, h, k⟩ => ⟨σ, G, _, rs, rg, h, fun d G1 v H1 q k1 rg1 re => by
 cases d with
 | int i => exact ⟨i, re.int, k _ G1 _ H1 q k1 rg1 (.of rd_int)⟩
 | _ => exact q.elim⟩
end
noncomputable def compChk (N : List Str) (osc scope : Scope) (T M : List Str) : Bool :=
 decide (scope.kind = .function) && scope.names.all (fun y => decide (y.2 ≠ .cell) && (decide (y.2 ≠ .local) || (decide (scope.names.lookup y.1 = some .local) && ((".0" : Str) :: T).contains y.1)) &&
  (decide (y.2 ≠ .free) || (decide (osc.names.lookup y.1 = some .cell) || decide (osc.names.lookup y.1 = some .free)))) && (M.all fun x => !((".0" : Str) :: T).contains x) && decide (M.length = N.length) &&
  ((M.zip N).all fun p => decide (p.1 = p.2) || scope.names.all fun y => decide (y.1 ≠ p.1))
theorem compOk_of {X : Cx} {scope : Scope} {T M : List Str} (hc : X.calm = true) (h : compChk X.N X.env.scope scope T M = true) : CompOk X scope T M := by
 unfold compChk at h;rw [Bool.and_eq_true, Bool.and_eq_true, Bool.and_eq_true] at h;obtain ⟨⟨⟨h12, h3⟩, h4⟩, h5⟩ := h;have hlen : M.length = X.N.length := of_decide_eq_true h4;simp only [Bool.and_eq_true, List.all_eq_true, Bool.or_eq_true, decide_eq_true_eq, Bool.not_eq_true', List.contains_eq_mem] at h12 h3 h5;obtain ⟨h1, h2⟩ := h12;refine ⟨hc, h1, fun y hy => (h2 y hy).1.1, fun y hy hl => ?_, fun y hy hl => ?_, hlen, fun i x hx => ?_, fun x hx => ?_, fun y hy hf => ?_⟩
 ·rcases (h2 y hy).1.2 with z | z
  ·exact absurd hl z
  ·exact z.1
 ·rcases (h2 y hy).1.2 with z | z
  ·exact absurd hl z
  ·simpa using z.2
 ·have hi : i < M.length := (List.getElem?_eq_some_iff.mp hx).1;have hi2 : i < X.N.length := by walk_at "o"
  have hm : (x, X.N[i]) ∈ M.zip X.N := by
   refine mem_of_getElem? (i := i) ?_;rw [List.getElem?_zip_eq_some];exact ⟨hx, getElem?_eq_getElem hi2⟩
  rcases h5 _ hm with z | z
  ·left;rw [getElem?_eq_getElem hi2];exact congrArg some (show x = X.N[i] from z).symm
  ·exact .inr fun y hy => z y hy
 ·simpa using h3 x hx
 ·rcases (h2 y hy).2 with z | z
  ·exact absurd hf z
  ·exact z
structure Fun3 (K : Frag) (x qual : Str) (st : Stmt) (f : Addr) (fd : FuncData) : Prop where
 ex : ∃ (oc : Value) (od : Option Addr) (dV kV doc pm : Value) (an : Option Addr) (cdv ct : Value) (osl : Array (Option Value)),
  fd = fnOf x qual (defArgs st) (defBody st) (defScope st) dV kV doc pm an cdv ct /\ K.lookup f = some ⟨oc, od, .func fd, osl⟩ /\ codeIn K cdv qual = true
section
variable {P : Program} {w : World} {K : Frag} {mg : Str -> Option Value} {base : Heap}
theorem Fun3.ok3 {x qual : Str} {st : Stmt} {f : Addr} {fd : FuncData} {N ps : List Str} {k : Nat} {sp : Sp3} (F : Fun3 K x qual st f fd) (S : FnScope N ps (defScope st)) (len : ∀ ds G Q, sp ds G Q -> ds.length = ps.length)
  (hbody : ∀ (cdv : Value) (A : Around) (outer : List Env) (s : Shared) (H : Hp) (E : XK), Room k (A.deeper (envOfC qual (defScope st) s.heap.objs.size f cdv)) ->
   ∃ t : TS3, PSs (cxOf CX0 P w K mg base N qual (defScope st) f cdv A outer s H E).nox (defBody st) (liftS K t) /\ ∀ ds G Q, sp ds G Q -> t { nx := fun _ G' => Q .non G', rt := Q } (start3 N ds) G) : FnOk P w K mg base CX0 (k + 1) f fd ps (liftSp K sp) := by
 obtain ⟨oc, od, dV, kV, doc, pm, an, cdv, ct, osl, rfl, lk, hcd⟩ := F.ex;refine fn_of lk hcd S (fun vs H Q E ⟨ds, G, Q3, rds, rg, h, kk⟩ => by rw [<- rds.length]; exact len ds G Q3 h) fun A outer s H vs Q E hr hsp => ?_
 obtain ⟨ds, G, Q3, rds, rg, h, kk⟩ := hsp;obtain ⟨t, ht, hq⟩ := hbody cdv A outer s H E hr;refine ⟨liftS K t, ht.nox, start3 N ds, G, { nx := fun _ G' => Q3 .non G', rt := Q3 }, rs_start rds, rg, hq ds G Q3 h, ⟨fun σ' G' τ' H' q k' rg' rs' => kk _ G' _ H' q k' rg' (.of rd_non), kk, fun _ _ _ _ q => q.elim, fun _ _ _ _ q => q.elim⟩⟩
theorem fun3_mk {x qual : Str} {st : Stmt} {f : Addr} {oc : Value} {od an : Option Addr} {osl : Array (Option Value)} {dV kV doc pm cdv ct : Value} (l : K.lookup f = some ⟨oc, od, .func (fnOf x qual (defArgs st) (defBody st) (defScope st) dV kV doc pm an cdv ct), osl⟩)
  (c : codeIn K cdv qual = true) : Fun3 K x qual st f (fnOf x qual (defArgs st) (defBody st) (defScope st) dV kV doc pm an cdv ct) := ⟨⟨oc, od, dV, kV, doc, pm, an, cdv, ct, osl, rfl, l, c⟩⟩
end
theorem sSeq_def {t u : TS3} {D : Ends3} {σ : St3} {G : Gp} : sSeq t u D σ G = t { D with nx := u D } σ G := rfl
theorem cutD_to {ds : List D} {i : Int} (h : 0 <= i) : cutD ds none (some i) = ds.take i.toNat := by
 have : HT.sIx ds.length ds.length (some i) = min i.toNat ds.length := by simp only [HT.sIx]; rw [if_neg (by walk_at "o")]
 unfold cutD;rw [this];simp only [HT.sIx, drop_zero, Nat.sub_zero];rw [List.take_eq_take_iff]; walk_at "oo"
theorem cutD_mid {ds : List D} {i j : Int} (h : 0 <= i) (h2 : 0 <= j) : cutD ds (some i) (some j) = (ds.drop i.toNat).take (j.toNat - i.toNat) := by
 have e1 : HT.sIx ds.length 0 (some i) = min i.toNat ds.length := by simp only [HT.sIx]; rw [if_neg (by walk_at "o")]
 have e2 : HT.sIx ds.length ds.length (some j) = min j.toNat ds.length := by simp only [HT.sIx]; rw [if_neg (by walk_at "o")]
 unfold cutD;rw [e1, e2]
 by_cases hi : i.toNat <= ds.length
 ·rw [min_eq_left hi, List.take_eq_take_iff, length_drop]
  by_cases hj : j.toNat <= ds.length
  ·rw [min_eq_left hj]
  ·have hj' := Nat.le_of_not_le hj;rw [Nat.min_eq_right hj', Nat.min_self, Nat.min_eq_right (Nat.sub_le_sub_right hj' _)]
 ·rw [Nat.min_eq_right (Nat.le_of_not_le hi), List.drop_length, List.drop_eq_nil_of_le (le_of_lt (Nat.lt_of_not_le hi))]; simp
theorem cutC_to {cs : List Nat} {i : Int} (h : 0 <= i) : cutC cs none (some i) = cs.take i.toNat := by
 have : HT.sIx cs.length cs.length (some i) = min i.toNat cs.length := by simp only [HT.sIx]; rw [if_neg (by walk_at "o")]
 unfold cutC;rw [this];simp only [HT.sIx, drop_zero, Nat.sub_zero];rw [List.take_eq_take_iff]; walk_at "oo"
noncomputable def S (cs : List Nat) : Str := ⟨cs.toArray⟩
theorem atI_some {ds : List D} {i : Int} (h0 : 0 <= i) (h : i < ds.length) : atI ds i = some (ds[i.toNat]'(by walk_at "o")) := by
 unfold atI ixN;rw [if_pos h0, if_pos h];simp [show i.toNat < ds.length by walk_at "o"]
theorem sizeLine_ge : 1000000 <= sizeLine := by decide
theorem rangeD_length (lo : Int) (n : Nat) : (rangeD lo n).length = n := by simp [rangeD]
theorem rangeD_get {lo : Int} {n i : Nat} {d : D} (h : (rangeD lo n)[i]? = some d) : i < n /\ d = .int (lo + (i : Nat)) := by
 have hl : i < (rangeD lo n).length := (List.getElem?_eq_some_iff.mp h).1;rw [rangeD_length] at hl;refine ⟨hl, ?_⟩;rw [rangeD, getElem?_map, List.getElem?_range hl] at h
 simpa using h.symm
noncomputable def spLaw3 : Sp3 := fun vs _ Q => match vs with
 | [.lst ds] => ∃ ns : List Int, ds = ns.map D.int /\ ns.length <= 63 /\ ∀ G', Q (.bl true) G'
 | _ => False
theorem law_start {K : Frag} {H : Hp} {a : Addr} {ns : List Int} (hl : ns.length <= 63) (hO : Only H) (hS : SqL K H a (ns.map V.int)) (E : XK) : liftSp K spLaw3 [.ref a] H (fun v _ => v = .bl true) E := by
 have hF : FzL K H a (ns.map V.int) := by
  rcases hS with (h | ⟨o, h⟩) | h
  ·rcases hO a with e | ⟨o, xs, e⟩
   ·rw [h] at e; cases e
   ·rw [h] at e; cases e
  ·exact .inl ⟨o, h⟩
  ·exact .inr h
 refine ⟨[.lst (ns.map D.int)], fun _ => none, fun d _ => d = .bl true, RDs.cons (rd_lst hF (RDs.ints ns)) RDs.nil, (fun b o q => nomatch q), ⟨ns, rfl, hl, fun _ => rfl⟩, fun d G' v H' q _ _ re => ?_⟩;subst q;exact re.bl
theorem walk3 {l : PySem.W.OpenLaw} {q : Program} {loose : List Str} {XP : (Str -> Option Value) -> Heap -> Prop} {YP : World -> Heap -> Prop} {d : DefRec} {K : Params -> Frag} {k : Nat} {x : Str} (hn : l.most = some 63) (hdf : d.params.defaults = []) (hr : Room k callerA)
  (hY : ∀ (w : World) (h : Heap), YP w h -> (K w.params).In h)
  (F : ∀ (w : World) (mg : Str -> Option Value) (fa : Addr) (h : Heap), (K w.params).In h -> h.Ns mainGlobals mg -> mg d.name = some (.ref fa) ->
   ∃ fd : FuncData, (∀ (s : Shared) (u : Value), BindsTo s fd ⟨[u], []⟩ [(x, u)]) /\ ∀ base : Heap, (K w.params).In base -> base.Ns mainGlobals mg -> FnOk l.prog w (K w.params) mg base CX0 k fa fd [x] (liftSp (K w.params) spLaw3)) :
  PySem.W.WalkO q loose XP YP l.row.toRowW d [] (fun f vs => PySem.call f vs) :=
 L2.walk_of (n := 63) (k := k) (x := x) (CX := fun _ => CX0) (sp := fun w => liftSp (K w.params) spLaw3) hn (by decide) hdf hr hY F (fun _ _ _ _ hl hO hS => law_start hl hO hS _) fun _ _ _ _ _ z => z
end L3
namespace L2
open PySem PySem.Spec PyProof.Rows
end L2
namespace L3
open PySem PySem.Spec PyProof.Rows L2
noncomputable def sFrz (i : Nat) (t : TS3) : TS3 := fun D σ G => match σ[i]? with
 | some (some (.ref p)) => match G p with
  | some (.lst ds) => t D (σ.set i (some (.lst ds))) (gdel G p)
  | _ => False
 | some (some (.lst _)) => t D σ G
 | _ => False
noncomputable def iRev (ta : TA3) : TI3 := fun σ G Q => ta σ G fun ds G' => match ds with
 | [.lst es] => Q es.reverse G'
 | _ => False
theorem at1_0 {a : D} : atI [a] 0 = some a := rfl
theorem at2_0 {a b : D} : atI [a, b] 0 = some a := rfl
theorem at2_1 {a b : D} : atI [a, b] 1 = some b := rfl
theorem at3_0 {a b c : D} : atI [a, b, c] 0 = some a := rfl
theorem at3_1 {a b c : D} : atI [a, b, c] 1 = some b := rfl
theorem at3_2 {a b c : D} : atI [a, b, c] 2 = some c := rfl
theorem at4_0 {a b c d : D} : atI [a, b, c, d] 0 = some a := rfl
theorem at4_1 {a b c d : D} : atI [a, b, c, d] 1 = some b := rfl
theorem at4_2 {a b c d : D} : atI [a, b, c, d] 2 = some c := rfl
theorem at4_3 {a b c d : D} : atI [a, b, c, d] 3 = some d := rfl
theorem at5_0 {a b c d e : D} : atI [a, b, c, d, e] 0 = some a := rfl
theorem at5_1 {a b c d e : D} : atI [a, b, c, d, e] 1 = some b := rfl
theorem at5_2 {a b c d e : D} : atI [a, b, c, d, e] 2 = some c := rfl
theorem at5_3 {a b c d e : D} : atI [a, b, c, d, e] 3 = some d := rfl
theorem at5_4 {a b c d e : D} : atI [a, b, c, d, e] 4 = some e := rfl
theorem sIf_by {c : TT3} {t u : TS3} {E : Ends3} {σ : St3} {G : Gp} (b : Bool) (hc : ∀ K : Bool -> Gp -> Prop, K b G -> c σ G K) (h : if b = true then t E σ G else u E σ G) : sIf c t u E σ G := hc _ h
theorem seq_of {t u : TS3} {E : Ends3} {σ : St3} {G : Gp} {NX : St3 -> Gp -> Prop} (h2 : ∀ σ' G', NX σ' G' -> u E σ' G') (h1 : ∀ NX' : St3 -> Gp -> Prop, (∀ σ' G', NX σ' G' -> NX' σ' G') -> t { E with nx := NX' } σ G) : sSeq t u E σ G := h1 (u E) h2
open PySem PySem.Spec PyProof.Rows L2 PySem.SeqAt
noncomputable def memB (x : D) (ds : List D) : Bool := ds.any fun d => eqb d x
noncomputable def oNotIn : R3 := fun x y G Q => match asQ G y with
 | some ds => (pl 7 x /\ ∀ d ∈ ds, pl 7 d) /\ Q (.bl (!memB x ds)) G
 | none => False
section
variable {κ : Type} [DecidableEq κ]
noncomputable def atD (kvs : List (κ × D)) (k : κ) : Option D := (kvs.find? fun kv => decide (kv.1 = k)).map (·.2)
noncomputable def putD (kvs : List (κ × D)) (k : κ) (v : D) : List (κ × D) :=
 if (kvs.any fun kv => decide (kv.1 = k)) = true then kvs.map (fun kv => if kv.1 = k then (kv.1, v) else kv) else kvs ++ [(k, v)]
theorem atD_any (k : κ) : ∀ kvs : List (κ × D), (kvs.any fun kv => decide (kv.1 = k)) = (atD kvs k).isSome
 | [] => rfl
 | p :: r => by
  by_cases e : p.1 = k
  ·simp [atD, find?_cons, e]
  ·have ih := atD_any k r;simp only [any_cons, e, decide_false, Bool.false_or, ih];simp [atD, find?_cons, e]
theorem putD_length (kvs : List (κ × D)) (k : κ) (v : D) : (putD kvs k v).length <= kvs.length + 1 := by
 unfold putD; split <;> simp
theorem putD_keys (kvs : List (κ × D)) (k : κ) (v : D) : (putD kvs k v).map (·.1) = if k ∈ kvs.map (·.1) then kvs.map (·.1) else kvs.map (·.1) ++ [k] := by
 unfold putD;have e : ((kvs.any fun kv => decide (kv.1 = k)) = true) ↔ k ∈ kvs.map (·.1) := by
  rw [List.any_eq_true, mem_map];constructor
  ·rintro ⟨p, hp, q⟩; exact ⟨p, hp, of_decide_eq_true q⟩
  ·rintro ⟨p, hp, rfl⟩; exact ⟨p, hp, decide_eq_true rfl⟩
 by_cases h : k ∈ kvs.map (·.1)
 ·rw [if_pos (e.mpr h), if_pos h, map_map];refine map_congr_left fun p _ => ?_;simp only [Function.comp_apply];split <;> rfl
 ·rw [if_neg (fun z => h (e.mp z)), if_neg h]; simp
theorem putD_nodup {kvs : List (κ × D)} (k : κ) (v : D) (h : (kvs.map (·.1)).Nodup) : ((putD kvs k v).map (·.1)).Nodup := by
 rw [putD_keys];split
 ·exact h
 ·rename_i hk;rw [List.nodup_append];refine ⟨h, by simp, fun a ha b hb => ?_⟩
  have : b = k := by simpa using hb
  subst this;exact fun z => hk (z ▸ ha)
end
noncomputable def kOf : D -> Option Key
 | .int i => some (.inl i)
 | .str x => some (.inr x)
 | _ => none
noncomputable def kD : Key -> D
 | .inl i => .int i
 | .inr x => .str x
noncomputable def ksOf : List D -> Option (List Key)
 | [] => some []
 | d :: r => match kOf d, ksOf r with
  | some k, some ks => some (k :: ks)
  | _, _ => none
noncomputable def keyT : D -> Option (List Key)
 | .tup ds => ksOf ds
 | _ => none
section
variable {K : Frag} {H : Hp}
theorem kOf_rd {d : D} {k : Key} {v : V} (h : kOf d = some k) (r : RD K H d v) : v = kV k := by
 cases d with
 | int i => simp only [kOf, Option.some.injEq] at h; subst h; simp only [RD] at r; exact r
 | str i => simp only [kOf, Option.some.injEq] at h; subst h; simp only [RD] at r; exact r
 | _ => simp [kOf] at h
theorem ksOf_rds : ∀ {ds : List D} {ks : List Key} {vs : List V}, ksOf ds = some ks -> RDs K H ds vs -> vs = ks.map kV
 | [], ks, vs, h, r => by
  simp only [ksOf, Option.some.injEq] at h;subst h;exact r.inv_nil
 | d :: t, ks, vs, h, r => by
  obtain ⟨x, u, e, h1, h2⟩ := r.inv_cons;subst e;simp only [ksOf] at h;split at h
  ·rename_i k kr e1 e2;simp only [Option.some.injEq] at h;subst h;rw [kOf_rd e1 h1, ksOf_rds e2 h2];rfl
  ·cases h
theorem keyT_rd {d : D} {ks : List Key} {v : V} (h : keyT d = some ks) (r : RD K H d v) : ∃ b, v = .ref b /\ SqT K H b (ks.map kV) := by
 cases d with
 | tup ds =>
  simp only [RD] at r;obtain ⟨a, xs, e, q, rr⟩ := r;exact ⟨a, e, by rw [<- ksOf_rds h rr]; exact q⟩
 | _ => simp [keyT] at h
theorem RTs.keys {kvs : List (List Key × D)} {xs : List (List Key × Addr × Value)} (r : RTs K H kvs xs) : kvs.map (·.1) = xs.map (·.1) := by
 unfold RTs at r
 induction r with
 | nil => rfl
 | cons h _ ih => rw [map_cons, map_cons, h.1, ih]
theorem RTs.val {kvs : List (List Key × D)} {xs : List (List Key × Addr × Value)} (r : RTs K H kvs xs) (k : List Key) :
  (atD kvs k = none /\ atKey xs k = none) \/ ∃ d b u v, atD kvs k = some d /\ atKey xs k = some (b, u) /\ RD K H d v /\ RelV v u := by
 unfold RTs at r
 induction r with
 | nil => exact .inl ⟨rfl, rfl⟩
 | @cons p q ps qs h t ih =>
  obtain ⟨h1, _, v, h2, h3⟩ := h
  by_cases e : p.1 = k
  ·have e' : q.1 = k := h1.symm.trans e;exact .inr ⟨p.2, q.2.1, q.2.2, v, by simp [atD, find?_cons, e], by simp [atKey, find?_cons, e'], h2, h3⟩
  ·have e' : ¬ q.1 = k := fun z => e (h1.trans z);have a1 : atD (p :: ps) k = atD ps k := by simp [atD, find?_cons, e]
   have a2 : atKey (q :: qs) k = atKey qs k := by simp [atKey, find?_cons, e']
   rw [a1, a2];exact ih
theorem RTs.put {kvs : List (List Key × D)} {xs : List (List Key × Addr × Value)} (r : RTs K H kvs xs) (k : List Key) {b : Addr} {d : D} {v : V} {u : Value} (hb : SqT K H b (k.map kV)) (hd : RD K H d v) (hu : RelV v u) : RTs K H (putD kvs k d) (storedH xs k b u) := by
 have e : (kvs.any fun kv => decide (kv.1 = k)) = (atKey xs k).isSome := by
  rw [atD_any];rcases r.val k with ⟨a, b⟩ | ⟨_, _, _, _, a, b, _⟩ <;> rw [a, b] <;> rfl
 unfold putD storedH;rw [e]
 by_cases q : (atKey xs k).isSome = true
 ·rw [if_pos q, if_pos q];unfold RTs at r ⊢;clear e q
  induction r with
  | nil => exact .nil
  | @cons p q ps qs h t ih =>
   rw [map_cons, map_cons];refine .cons ?_ ih;obtain ⟨h1, h2, v', h3, h4⟩ := h;unfold putAt
   by_cases e : p.1 = k
   ·rw [if_pos e, if_pos (h1.symm.trans e)]; exact ⟨h1, h2, v, hd, hu⟩
   ·rw [if_neg e, if_neg (fun z => e (h1.trans z))]; exact ⟨h1, h2, v', h3, h4⟩
 ·rw [if_neg q, if_neg q];exact Paired.snoc r ⟨rfl, hb, v, hd, hu⟩
theorem RKs.val {kvs : List (Key × D)} {xs : List (Key × V)} (r : RKs K H kvs xs) (k : Key) : (atD kvs k = none /\ valV xs k = none) \/ ∃ d v, atD kvs k = some d /\ valV xs k = some v /\ RD K H d v := by
 unfold RKs at r
 induction r with
 | nil => exact .inl ⟨rfl, rfl⟩
 | @cons p q ps qs h t ih =>
  obtain ⟨h1, h2⟩ := h
  by_cases e : p.1 = k
  ·have e' : q.1 = k := h1.symm.trans e;exact .inr ⟨p.2, q.2, by simp [atD, find?_cons, e], valV_pos e', h2⟩
  ·have e' : ¬ q.1 = k := fun z => e (h1.trans z);have a1 : atD (p :: ps) k = atD ps k := by simp [atD, find?_cons, e]
   rw [a1, valV_neg e'];exact ih
theorem RKs.put {kvs : List (Key × D)} {xs : List (Key × V)} (r : RKs K H kvs xs) (k : Key) {d : D} {v : V} (hd : RD K H d v) : RKs K H (putD kvs k d) (putK xs k v) := by
 have e : (kvs.any fun kv => decide (kv.1 = k)) = (xs.any fun kv => decide (kv.1 = k)) := by
  rw [atD_any, valV_any];rcases r.val k with ⟨a, b⟩ | ⟨_, _, a, b, _⟩ <;> rw [a, b] <;> rfl
 unfold putD putK;rw [e]
 by_cases q : (xs.any fun kv => decide (kv.1 = k)) = true
 ·rw [if_pos q, if_pos q];unfold RKs at r ⊢;clear e q
  induction r with
  | nil => exact .nil
  | @cons p q ps qs h t ih =>
   rw [map_cons, map_cons];refine .cons ?_ ih;obtain ⟨h1, h2⟩ := h
   by_cases e : p.1 = k
   ·rw [if_pos e, if_pos (h1.symm.trans e)]; exact ⟨h1, hd⟩
   ·rw [if_neg e, if_neg (fun z => e (h1.trans z))]; exact ⟨h1, h2⟩
 ·rw [if_neg q, if_neg q];exact Paired.snoc r ⟨rfl, hd⟩
theorem RKs.length {kvs : List (Key × D)} {xs : List (Key × V)} (r : RKs K H kvs xs) : kvs.length = xs.length := Paired.length r
theorem RTs.length {kvs : List (List Key × D)} {xs : List (List Key × Addr × Value)} (r : RTs K H kvs xs) : kvs.length = xs.length := Paired.length r
end
noncomputable def hwOf (P : Program) (w : World) : List Key -> Int := tupleKeyHash (mixKind P w)
section
variable {X : Cx} {pins : List (Addr × Obj)} {σ : St} {H : Hp} {s : Shared} {a : Addr}
theorem key_at (I : Inv X pins σ H s) {b : Addr} {ks : List Key} (h : SqT X.K H b (ks.map kV)) : (tupleKind (mixKind X.prog X.w)).is s.heap ks b := by
 obtain ⟨its, r, ⟨o, h1, h2, n, h3⟩, _⟩ := I.tuple h;exact ⟨o, its.toArray, n, h1, h2, h3, by simpa using items_are r⟩
theorem dict_at (I : Inv X pins σ H s) {kvs : List (List Key × D)} {xs : List (List Key × Addr × Value)} (e : H a = some (.ext (DTf (hwOf X.prog X.w) a xs))) (r : RTs X.K H kvs xs) (nd : (kvs.map (·.1)).Nodup) :
  (a == sysModules) = false /\ s.heap.DictOfH (tupleKind (mixKind X.prog X.w)) a xs := by
 obtain ⟨hd, o, es, ep, h1, h2, h3, h4⟩ := (show ObjOk X.prog X.w H s.heap a (.ext (DTf (hwOf X.prog X.w) a xs)) from I.hok a _ e).1
 refine ⟨hd, o, es, ep, h1, h2, h3, h4, ?_, by rw [<- r.keys]; exact nd⟩
 unfold RTs at r;clear h4 e nd
 induction r with
 | nil => intro x hx; exact nomatch hx
 | @cons p q ps qs hq t ih =>
  intro x hx;rcases mem_cons.mp hx with e | hx
  ·subst e;exact key_at I (by rw [<- hq.1]; exact hq.2.1)
  ·exact ih x hx
theorem dtf_ok {P : Program} {w : World} {H' : Hp} {h : Heap} {hw : List Key -> Int} {xs : List (List Key × Addr × Value)} (h1 : DTf hw a xs h) : ObjOk P w H' h a (.ext (DTf hw a xs)) := by
 obtain ⟨hd, o, es, ep, e, r⟩ := h1;exact ⟨⟨hd, o, es, ep, e, r⟩, ⟨o, e⟩, fun h1 h2 ⟨hd, o, es, ep, e, r⟩ k => ⟨hd, o, es, ep, k o e, r⟩⟩
end
section
variable {K : Frag} {H : Hp} {G : Gp}
theorem gnew {p : Addr} {o : GO} {ho : HO} (rg : RG K H G) (e : H p = none) (ro : ∀ H' : Hp, Stb K H H' -> RO K H' p o ho) : Kp G H (gset G p o) (upd H p ho) /\ RG K (upd H p ho) (gset G p o) := by
 have kp : Kp G H (gset G p o) (upd H p ho) := fun b h q n => by
  have : b ≠ p := ne_of_none q e;exact ⟨by rw [upd_ne this]; exact q, by rw [gset_ne this]; exact n⟩
 refine ⟨kp, fun b u q => ?_⟩
 by_cases hb : b = p
 ·subst hb;rw [gset_same] at q; cases q;exact ⟨_, upd_same, ro _ (kp.stb rg)⟩
 ·rw [gset_ne hb] at q;obtain ⟨h, q1, q2⟩ := rg b u q;exact ⟨h, by rw [upd_ne hb]; exact q1, q2.mono (kp.stb rg)⟩
theorem gwrite {a : Addr} {o : GO} {ho : HO} (rg : RG K H G) (hg : G a ≠ none) (ro : ∀ H' : Hp, Stb K H H' -> RO K H' a o ho) : Kp G H (gset G a o) (upd H a ho) /\ RG K (upd H a ho) (gset G a o) := by
 have kp : Kp G H (gset G a o) (upd H a ho) := fun b h e n => by
  have : b ≠ a := fun z => by subst z; exact hg n
  exact ⟨by rw [upd_ne this]; exact e, by rw [gset_ne this]; exact n⟩
 refine ⟨kp, fun b u q => ?_⟩
 by_cases hb : b = a
 ·subst hb;rw [gset_same] at q; cases q;exact ⟨_, upd_same, ro _ (kp.stb rg)⟩
 ·rw [gset_ne hb] at q;obtain ⟨h, q1, q2⟩ := rg b u q;exact ⟨h, by rw [upd_ne hb]; exact q1, q2.mono (kp.stb rg)⟩
end
noncomputable def eDctT (hw : List Key -> Int) : TE3 := fun _ G Q => ∀ p, G p = none -> Q (.ref p) (gset G p (.dT hw []))
noncomputable def eDctK : TE3 := fun _ G Q => ∀ p, G p = none -> Q (.ref p) (gset G p (.dK []))
section
variable {X : Cx} {pos : Pos}
theorem p_dctT : PE X (.Dict [] [] pos) (lift X.K (eDctT (hwOf X.prog X.w))) := fun pins s τ H Q I zz => by
 obtain ⟨σ, G, Q3, rs, rg, h, k⟩ := zz;have hf : H s.heap.objs.size = none := I.hok.fresh (le_refl _);obtain ⟨kp, rg2⟩ := gnew (o := .dT (hwOf X.prog X.w) []) (ho := .ext (DTf (hwOf X.prog X.w) s.heap.objs.size [])) rg hf fun H' _ => ⟨[], rfl, .nil, List.nodup_nil, zero_le _⟩;have hd : (s.heap.objs.size == sysModules) = false := beq_eq_false_iff_ne.mpr (Ne.symm (ne_of_lt I.big));exact wpAny_Dict_empty ⟨.ref s.heap.objs.size, _, I.laid (a := s.heap.objs.size) (t' := s.toks) (fun _ _ q => Heap.get?_push_of_some _ q) (le_refl _) (dtf_ok ⟨hd, _, #[], 0, Heap.get?_push_size _ rfl, ⟨rfl, rfl, rfl⟩, rfl, rfl⟩), rfl,
  k _ _ _ _ (h _ (rg.free hf)) kp rg2 (.of rd_ref)⟩
theorem p_dctK : PE X (.Dict [] [] pos) (lift X.K eDctK) := pe_dnewK.imp fun τ H Q ⟨σ, G, Q3, rs, rg, h, k⟩ p hp => by
 obtain ⟨kp, rg2⟩ := gnew (o := .dK []) (ho := .dK []) rg hp fun H' _ => (show RKs X.K H' [] [] from .nil)
 exact k _ _ _ _ (h _ (rg.free hp)) kp rg2 (.of rd_ref)
end
noncomputable def oSetI (hw : List Key -> Int) : D -> D -> D -> Gp -> (Gp -> Prop) -> Prop := fun o i v G Q => match o with
 | .ref a => match G a with
  | some (.dT hw' kvs) => hw' = hw /\ ∃ ks, keyT i = some ks /\ kvs.length < sizeLine /\ Q (gset G a (.dT hw (putD kvs ks v)))
  | some (.dK kvs) => ∃ k, kOf i = some k /\ kvs.length < sizeLine /\ Q (gset G a (.dK (putD kvs k v)))
  | some (.lst ds) => match i with
   | .int j => ∃ m, ixN ds.length j = some m /\ Q (gset G a (.lst (ds.set m v)))
   | _ => False
  | _ => False
 | _ => False
noncomputable def liftSet (K : Frag) (r : D -> D -> D -> Gp -> (Gp -> Prop) -> Prop) : TSet := fun o i v H Q => ∃ x y z G Q3, RD K H x o /\ RD K H y i /\ RD K H z v /\ RG K H G /\ r x y z G Q3 /\ ∀ G' H', Q3 G' -> Kp G H G' H' -> RG K H' G' -> Q H'
noncomputable def sSetI (hw : List Key -> Int) (to ti te : TE3) : TS3 := fun E σ G => te σ G fun v G1 => to σ G1 fun o G2 => ti σ G2 fun i G3 => oSetI hw (val o) (val i) (val v) G3 fun G4 => E.nx σ G4
section
variable {X : Cx}
theorem x_setI (hu : X.A.units + 8 < cLine) : PSet X (liftSet X.K (oSetI (hwOf X.prog X.w))) := by
 rintro pins s σ H o i v ov iv u Q I ro ri rv ⟨x, y, z, G, Q3, rx, ry, rz, rg, h, k⟩
 unfold oSetI at h;split at h
 ·rename_i a;simp only [RD] at rx;subst rx;cases ro;split at h
  ·rename_i hw' kvs hg;obtain ⟨rfl, ks, hk, hl, h⟩ := h;obtain ⟨b, rfl, sq⟩ := keyT_rd hk ry;cases ri;obtain ⟨ho, e, r⟩ := rg a _ hg;cases ho with
   | ext φ =>
    obtain ⟨xs, rfl, rt, nd, _⟩ := r;obtain ⟨hd, dd⟩ := dict_at I e rt nd;have hz : xs.length <= sizeLine := by rw [<- rt.length]; walk_at "oo"
    refine wpAny_setItem_heap (hsz := hz) (tupleKind_room_in1 (show X.A.units + 1 < cLine by walk_at "o")) (key_at I sq) dd fun h' dd' hs => ?_
    obtain ⟨q, es, ep, hq, h2, h3, h4, _, h5⟩ := dd';obtain ⟨kp, rg2⟩ := gwrite (a := a) (o := .dT (hwOf X.prog X.w) (putD kvs ks z)) (ho := .ext (DTf (hwOf X.prog X.w) a (storedH xs ks b u))) rg (by rw [hg]; exact fun z => nomatch z)
     fun H' st => ⟨_, rfl, (rt.put ks sq rz rv).mono st, putD_nodup ks z nd, by have := putD_length kvs ks z; walk_at "oo"⟩
    exact ⟨_, d_write I (by rw [e]; exact True.intro) hs ⟨q, hq⟩ (dtf_ok ⟨hd, q, es, ep, hq, h2, h3, h4⟩), k _ _ h kp rg2⟩
   | _ => exact r.elim
  ·rename_i kvs hg;obtain ⟨kk, hk, hl, h⟩ := h;have ei := kOf_rd hk ry;subst ei;obtain ⟨ho, e, r⟩ := rg a _ hg;cases ho with
   | dK xs =>
    have r' : RKs X.K H kvs xs := r;obtain ⟨kp, rg2⟩ := gwrite (a := a) (o := .dK (putD kvs kk z)) (ho := .dK (putK xs kk v)) rg (by rw [hg]; exact fun z => nomatch z) fun H' st => (r'.put kk rz).mono st
    exact d_setItem (by walk_at "o") I (DPut.k e (by rw [<- r'.length]; exact hl)) ri rv fun s' I' => ⟨_, I', k _ _ h kp rg2⟩
   | _ => exact r.elim
  ·rename_i ds hg;split at h
   ·rename_i j;obtain ⟨m, hm, h⟩ := h;simp only [RD] at ry;subst ry;obtain ⟨ho, e, r⟩ := rg a _ hg;cases ho with
    | lst xs =>
     have r' : RDs X.K H ds xs := r;obtain ⟨kp, rg2⟩ := gwrite (a := a) (o := .lst (ds.set m z)) (ho := .lst (xs.set m v)) rg (by rw [hg]; exact fun z => nomatch z) fun H' st => RDs.mono st _ _ (r'.set m rz)
     exact set_list pins s σ H (.ref a) _ _ _ _ _ _ I rfl ri rv ⟨a, xs, j, m, rfl, rfl, e, by rw [<- r'.length]; exact hm, k _ _ h kp rg2⟩
    | _ => exact r.elim
   ·exact h.elim
  ·exact h.elim
 ·exact h.elim
theorem q_setI {o i e : Expr} {to ti te : TE3} {pos pos' : Pos} (hu : X.A.units + 8 < cLine) (ho : PE X o (lift X.K to)) (hi : PE X i (lift X.K ti)) (he : PE X e (lift X.K te))
  (hs : swapsWithSole [.Subscript o i pos'] e pos.line X.env = pure false := by rfl) (hw : swappedStores [.Subscript o i pos'] e X.env = pure none := by rfl) (h1 : (assignEach [.Subscript o i pos'] X.env).map (·.2) = [assign (.Subscript o i pos') X.env] := by rfl)
  (ha : ∀ v, assign (.Subscript o i pos') X.env v = (do
   let ov <- holding [v] (eval o X.env)
   let iv <- holding [v, ov] (eval i X.env)
   standAt pos'
   holding [v, ov, iv] (setItem ov iv v)
   release [v, ov, iv] []) := by intro _; rfl) : PS X (.Assign [.Subscript o i pos'] e pos) (liftS X.K (sSetI (hwOf X.prog X.w) to ti te)) :=
 (ps_asg (pe_val he) (pg_sub (pe_val ho) (pe_val hi) (x_setI hu) ha) hs hw h1).imp fun E τ H zz => by
 obtain ⟨σ, G, E3, rs, rg, h, k⟩ := zz;exact (
  ⟨σ, G, _, rs, rg, h, fun v G1 u H1 q1 k1 rg1 rd1 =>
    ⟨σ, G1, _, rs.mono (k1.stb rg), rg1, q1, fun o G2 u2 H2 q2 k2 rg2 rd2 => ⟨σ, G2, _, rs.mono ((k1.trans k2).stb rg), rg2, q2, fun i G3 u3 H3 q3 k3 rg3 rd3 =>
     ⟨val o, val i, val v, G3, _, RD.mono (k3.stb rg2) _ _ rd2, rd3, RD.mono ((k2.trans k3).stb rg1) _ _ rd1, rg3, q3, fun G4 H4 q4 k4 rg4 => k.nx σ G4 τ H4 q4 (k1.trans (k2.trans (k3.trans k4))) rg4 (rs.mono ((k1.trans (k2.trans (k3.trans k4))).stb rg))⟩⟩⟩⟩)
end
noncomputable def dLook (hw : List Key -> Int) (G : Gp) (o i : D) (r : Option D) : Prop := match o with
 | .ref a => match G a with
  | some (.dT hw' kvs) => hw' = hw /\ ∃ ks, keyT i = some ks /\ r = atD kvs ks
  | some (.dK kvs) => ∃ k, kOf i = some k /\ r = atD kvs k
  | _ => False
 | _ => False
noncomputable def isDct (G : Gp) (o : D) : Prop := match o with
 | .ref a => match G a with
  | some (.dT _ _) => True
  | some (.dK _) => True
  | _ => False
 | _ => False
section
variable {X : Cx} {pins : List (Addr × Obj)} {σ : St} {H : Hp} {s : Shared} {G : Gp} {A : Around} {E : Value -> Shared -> Prop} {x y d z : D} {o i zv : V} {ov iv zu : Value} {r : Option D}
theorem dLook.split (h : dLook (hwOf X.prog X.w) G x y r) (I : Inv X pins σ H s) (rg : RG X.K H G) (rx : RD X.K H x o) (ro : RelV o ov) (ry : RD X.K H y i) (ri : RelV i iv) :
  ∃ a, ov = .ref a /\ ((∃ hs k, H a = some (.dK hs) /\ i = kV k /\ ((r = none /\ valV hs k = none) \/ ∃ d v, r = some d /\ valV hs k = some v /\ RD X.K H d v)) \/
   ∃ xs ks b, (a == sysModules) = false /\ s.heap.DictOfH (tupleKind (mixKind X.prog X.w)) a xs /\ iv = .ref b /\ (tupleKind (mixKind X.prog X.w)).is s.heap ks b /\
    ((r = none /\ atKey xs ks = none) \/ ∃ d b' u v, r = some d /\ atKey xs ks = some (b', u) /\ RD X.K H d v /\ RelV v u)) := by
 unfold dLook at h;split at h
 ·rename_i a;simp only [RD] at rx;subst rx;cases ro;refine ⟨a, rfl, ?_⟩;split at h
  ·rename_i hw' kvs hg;obtain ⟨rfl, ks, hk, rfl⟩ := h;obtain ⟨b, rfl, sq⟩ := keyT_rd hk ry;cases ri;obtain ⟨ho, e, q⟩ := rg a _ hg;cases ho with
   | ext φ =>
    obtain ⟨xs, rfl, rt, nd, _⟩ := q;obtain ⟨hd, dd⟩ := dict_at I e rt nd;exact .inr ⟨xs, ks, b, hd, dd, rfl, key_at I sq, rt.val ks⟩
   | _ => exact q.elim
  ·rename_i kvs hg;obtain ⟨k, hk, rfl⟩ := h;obtain ⟨ho, e, q⟩ := rg a _ hg;cases ho with
   | dK hs =>
    have q' : RKs X.K H kvs hs := q;exact .inl ⟨hs, k, e, kOf_rd hk ry, q'.val k⟩
   | _ => exact q.elim
  ·exact h.elim
 ·exact h.elim
theorem isDct.at (h : isDct G x) (I : Inv X pins σ H s) (rg : RG X.K H G) (rx : RD X.K H x o) (ro : RelV o ov) :
  s.TypeIs ov "dict" /\ (∀ b, ov = .ref b -> ∃ ob, s.heap.get? b = some ob /\ ob.dict = none) := by
 unfold isDct at h;split at h
 ·rename_i a;simp only [RD] at rx;subst rx;cases ro;split at h
  ·rename_i hw' kvs hg;obtain ⟨ho, e, q⟩ := rg a _ hg;cases ho with
   | ext φ =>
    obtain ⟨xs, rfl, rt, nd, _⟩ := q;obtain ⟨hd, ob, es, ep, h1, h2, h3, h4⟩ := (show ObjOk X.prog X.w H s.heap a (.ext (DTf hw' a xs)) from I.hok a _ e).1
    refine ⟨⟨ob, h1, h2.1⟩, fun b hb => ?_⟩;cases hb;exact ⟨ob, h1, h2.2.1⟩
   | _ => exact q.elim
  ·rename_i kvs hg;obtain ⟨ho, e, q⟩ := rg a _ hg;cases ho with
   | dK hs =>
    obtain ⟨t1, t2, _⟩ := isD_at I (.inl ⟨hs, .inl e⟩);exact ⟨t1, t2⟩
   | _ => exact q.elim
  ·exact h.elim
 ·exact h.elim
theorem dLook.dct {hw : List Key -> Int} (h : dLook hw G x y r) : isDct G x := by
 unfold dLook at h;unfold isDct;split at h
 ·split at h
  ·rename_i e; simp only [e]
  ·rename_i e; simp only [e]
  ·exact h.elim
 ·exact h.elim
theorem d3_item {Q : Value -> Shared -> Prop} (hu : A.units + 1 < cLine) (I : Inv X pins σ H s) (rg : RG X.K H G) (h : dLook (hwOf X.prog X.w) G x y (some d)) (rx : RD X.K H x o) (ro : RelV o ov) (ry : RD X.K H y i) (ri : RelV i iv)
  (q : ∀ v u s', Inv X pins σ H s' -> RD X.K H d v -> RelV v u -> Q u s') : wpAny (model X.prog X.w) A (getItem ov iv) Q E s := by
 obtain ⟨a, rfl, ⟨hs, k, e, rfl, r⟩ | ⟨xs, ks, b, hd, dd, rfl, hk, r⟩⟩ := h.split I rg rx ro ry ri
 ·rcases r with ⟨z, _⟩ | ⟨d', v, e1, e2, rd⟩
  ·cases z
  ·cases e1;exact d_getItem hu I (.inl ⟨hs, k, .inl e, rfl, e2.symm⟩) ri fun u s' I' rv => q v u s' I' rd rv
 ·rcases r with ⟨z, _⟩ | ⟨d', b', u, v, e1, e2, rd, rv⟩
  ·cases z
  ·cases e1;exact wpAny_getItem_heap (tupleKind_room_in1 hu) hk dd e2 (q v u _ (I.tok _) rd rv)
theorem d3_in {Q : Value -> Shared -> Prop} (hu : A.units + 1 < cLine) (I : Inv X pins σ H s) (rg : RG X.K H G) (h : dLook (hwOf X.prog X.w) G x y r) (rx : RD X.K H x o) (ro : RelV o ov) (ry : RD X.K H y i) (ri : RelV i iv)
  (q : ∀ s', Inv X pins σ H s' -> Q (.bool r.isSome) s') : wpAny (model X.prog X.w) A (compareOp .In iv ov) Q E s := by
 obtain ⟨a, rfl, ⟨hs, k, e, rfl, l⟩ | ⟨xs, ks, b, hd, dd, rfl, hk, l⟩⟩ := h.split I rg rx ro ry ri
 ·refine d_in hu I (DGet.k e) ri fun s' I' => ?_;rcases l with ⟨rfl, e2⟩ | ⟨d, v, rfl, e2, _⟩ <;> rw [e2] <;> exact q s' I'
 ·refine wpAny_in_heap (tupleKind_room_in1 hu) hk hd dd ?_;rcases l with ⟨rfl, e2⟩ | ⟨d, b', u, v, rfl, e2, _⟩ <;> rw [e2] <;> exact q _ (I.tok _)
theorem d3_get2 {Q : Value -> Shared -> Prop} (hu : A.units + 1 < cLine) (I : Inv X pins σ H s) (rg : RG X.K H G) (h : dLook (hwOf X.prog X.w) G x y r) (rx : RD X.K H x o) (ro : RelV o ov) (ry : RD X.K H y i) (ri : RelV i iv) (rz : RD X.K H z zv) (rzu : RelV zv zu)
  (q : ∀ v u s', Inv X pins σ H s' -> RD X.K H (r.getD z) v -> RelV v u -> Q u s') : wpAny (model X.prog X.w) A (call (.builtin "dict.get") [ov, iv, zu]) Q E s := by
 obtain ⟨a, rfl, ⟨hs, k, e, rfl, l⟩ | ⟨xs, ks, b, hd, dd, rfl, hk, l⟩⟩ := h.split I rg rx ro ry ri
 ·refine d_get2 hu I (DGet.k e) ri rzu fun u s' I' rv => ?_;rcases l with ⟨rfl, e2⟩ | ⟨d, v, rfl, e2, rd⟩ <;> rw [e2] at rv
  ·exact q _ u s' I' rz rv
  ·exact q _ u s' I' rd rv
 ·refine call_meetsIn PySem.F.slot_dict_get dd.typeIs PySem.F.entry_dict_get (PySem.F.args_dict_get_3 _ _ _) (meetsH_dict_get_default (tupleKind (mixKind X.prog X.w)) a b hd zu) ⟨tupleKind_room_in1 hu, ks, xs, hk, dd, ?_⟩;rcases l with ⟨rfl, e2⟩ | ⟨d, b', u, v, rfl, e2, rd, rv⟩ <;> rw [e2]
  ·exact q zv _ _ (I.tok _) rz rzu
  ·exact q v _ _ (I.tok _) rd rv
end
noncomputable def eDIx (hw : List Key -> Int) (to ti : TE3) : TE3 := fun σ G Q => to σ G fun x G1 => ti σ G1 fun y G2 => ∃ d, dLook hw G2 (val x) (val y) (some d) /\ Q d G2
noncomputable def eDIn (hw : List Key -> Int) (ti to : TE3) : TE3 := fun σ G Q => ti σ G fun y G1 => to σ G1 fun x G2 => ∃ r, dLook hw G2 (val x) (val y) r /\ Q (.bl r.isSome) G2
noncomputable def eDNotIn (hw : List Key -> Int) (ti to : TE3) : TE3 := fun σ G Q => ti σ G fun y G1 => to σ G1 fun x G2 => ∃ r, dLook hw G2 (val x) (val y) r /\ Q (.bl (!r.isSome)) G2
noncomputable def eDGet2 (hw : List Key -> Int) (to ti tz : TE3) : TE3 := fun σ G Q => to σ G fun x G1 => isDct G1 (val x) /\ ti σ G1 fun y G2 => tz σ G2 fun z G3 => ∃ r, dLook hw G3 (val x) (val y) r /\ Q (r.getD (val z)) G3
section
variable {X : Cx} {o i e f : Expr} {to ti tz : TE3} {pos apos cpos : Pos}
theorem pe_got {t : TE3} {e : Expr} (h : PE X e (lift X.K t)) {pins : List (Addr × Obj)} {s : Shared} {τ : St} {H : Hp} {σ : St3} {G : Gp} {Q3 : VK3} (I : Inv X pins τ H s) (rs : RS X.K H σ τ) (rg : RG X.K H G) (ht : t σ G Q3) :
  wpAny (model X.prog X.w) X.A (eval e X.env) (EP X pins τ fun v H1 => ∃ d G1, Q3 d G1 /\ Kp G H G1 H1 /\ RG X.K H1 G1 /\ RD X.K H1 (val d) v) X.xe s :=
 pe_val h pins s τ H _ I ⟨σ, G, Q3, rs, rg, ht, fun d G' v H' q k rg' rd => ⟨d, G', q, k, rg', rd⟩⟩
theorem p_dix (hu : X.A.units + 8 < cLine) (ho : PE X o (lift X.K to)) (hi : PE X i (lift X.K ti)) (hs : NoSl i := by exact fun _ _ => rfl) : PE X (.Subscript o i pos) (lift X.K (eDIx (hwOf X.prog X.w) to ti)) := by
 rintro pins s τ H Q I ⟨σ, G, Q3, rs, rg, h, k⟩
 refine subD_of PySem.F.slot_dict_getitem.lookup hs (thn (pe_got ho I rs rg h) fun ov s1 zz => ?_);obtain ⟨ox, H1, I1, rox, x, G1, q1, k1, rg1, rd1⟩ := zz;refine thn (pe_got hi I1 (rs.mono (k1.stb rg)) rg1 q1) fun iv s2 zz => ?_;obtain ⟨iy, H2, I2, riy, y, G2, q2, k2, rg2, rd2⟩ := zz;obtain ⟨d, l, q2⟩ := q2;have rx := RD.mono (k2.stb rg1) _ _ rd1;exact ⟨(l.dct.at I2 rg2 rx rox).1, d3_item (by walk_at "o") I2 rg2 l rx rox rd2 riy fun v u s3 I3 rd rv => ⟨v, H2, I3, rv, k _ G2 _ H2 q2 (k1.trans k2) rg2 (.of rd)⟩⟩
theorem p_dget2 (hu : X.A.units + 8 < cLine) (ho : PE X o (lift X.K to)) (he : PE X e (lift X.K ti)) (hf : PE X f (lift X.K tz)) (m : M2 X o "get" apos e f cpos := by exact ⟨rfl, rfl, rfl, rfl⟩) : PE X (.Call (.Attribute o "get" apos) [e, f] [] cpos) (lift X.K (eDGet2 (hwOf X.prog X.w) to ti tz)) := by
 rintro pins s τ H Q I ⟨σ, G, Q3, rs, rg, h, k⟩
 refine wpAny_Call_method m.base m.few m.line PySem.F.plainAttrs_dict PySem.F.slot_dict_get PySem.F.type_dict_get (thn (pe_got ho I rs rg h) fun ov s1 zz => ?_);obtain ⟨ox, H1, I1, rox, x, G1, q1, k1, rg1, rd1⟩ := zz;obtain ⟨t1, t2⟩ := q1.1.at I1 rg1 rd1 rox;refine ⟨t1, t2, ?_⟩;rw [m.trees];refine Calls.callWith_builtin rfl (Calls.evalArgs_plain (Calls.spliced_cons (thn (pe_got he I1 (rs.mono (k1.stb rg)) rg1 q1.2) fun iv s2 ⟨iy, H2, I2, riy, y, G2, q2, k2, rg2, rd2⟩ => Calls.spliced_cons (thn (pe_got hf I2 (rs.mono ((k1.trans k2).stb rg)) rg2 q2) fun fv s3 zz => ?_))));obtain ⟨fz, H3, I3, rfz, z, G3, q3, k3, rg3, rd3⟩ := zz;refine Calls.spliced_nil ?_;obtain ⟨r, l, q3⟩ := q3;exact d3_get2 (by walk_at "o") I3 rg3 l (RD.mono ((k2.trans k3).stb rg1) _ _ rd1) rox (RD.mono (k3.stb rg2) _ _ rd2) riy rd3 rfz fun v u s4 I4 rd rv => ⟨v, H3, I4, rv, k _ G3 _ H3 q3 (k1.trans (k2.trans k3)) rg3 (.of rd)⟩
end
end L3
namespace PySem.W
open PySem PyProof.Rows
noncomputable def KasT.run {α : Type} (lt : Nat -> Nat -> Bool) : KasT α -> α
 | .ret a => a
 | .ask i j k => (k (lt i j)).run lt
section
variable (r : Nat -> Nat)
noncomputable def RR (p : Array Nat) (i : Nat) : Nat := r (p.getD i 0)
noncomputable def DecTo (p : Array Nat) (n : Nat) : Prop := ∀ i, i + 1 < n -> RR r p (i + 1) <= RR r p i
end
section
variable {κ : Type} (blt : κ -> κ -> Bool)
structure SWO : Prop where
 irrefl : ∀ a, blt a a = false
 trans : ∀ a b c, blt a b = true -> blt b c = true -> blt a c = true
 neg : ∀ a b c, blt a c = true -> blt a b = true \/ blt b c = true
noncomputable def rankIn (ks : List κ) (a : κ) : Nat := ks.countP fun k => blt k a
end
section
variable {κ : Type} {blt : κ -> κ -> Bool}
theorem countP_le {p q : κ -> Bool} (ks : List κ) (h : ∀ x, p x = true -> q x = true) : ks.countP p <= ks.countP q := by
 induction ks with
 | nil => exact le_refl _
 | cons x r ih =>
  rw [countP_cons, countP_cons];cases hp : p x with
  | false => simp; split <;> walk_at "oo"
  | true => rw [h x hp]; simp; walk_at "oo"
theorem countP_lt {p q : κ -> Bool} {ks : List κ} (h : ∀ x, p x = true -> q x = true) {y : κ} (hy : y ∈ ks) (h1 : p y = false) (h2 : q y = true) : ks.countP p < ks.countP q := by
 induction ks with
 | nil => simp at hy
 | cons x r ih =>
  rw [countP_cons, countP_cons];rcases mem_cons.mp hy with rfl | hy
  ·have := countP_le r h;rw [h1, h2]; simp; walk_at "oo"
  ·have := ih hy;cases hp : p x with
   | false => simp; split <;> walk_at "oo"
   | true => rw [h x hp]; simp; walk_at "oo"
theorem rank_lt (o : SWO blt) {ks : List κ} {a b : κ} (ha : a ∈ ks) : blt a b = decide (rankIn blt ks a < rankIn blt ks b) := by
 cases e : blt a b with
 | true =>
  symm;rw [decide_eq_true_iff];exact countP_lt (fun x hx => o.trans _ _ _ hx e) ha (o.irrefl a) e
 | false =>
  symm;rw [decide_eq_false_iff_not, Nat.not_lt];refine countP_le ks fun x hx => ?_;rcases o.neg x a b hx with h | h
  ·exact h
  ·rw [e] at h; cases h
end
section
variable {α : Type} (blt : α -> α -> Bool)
structure STO : Prop where
 irrefl : ∀ a, blt a a = false
 trans : ∀ a b c, blt a b = true -> blt b c = true -> blt a c = true
 tot : ∀ a b, blt a b = false -> blt b a = false -> a = b
noncomputable def lexB [DecidableEq α] : List α -> List α -> Bool
 | [], [] => false
 | [], _ :: _ => true
 | _ :: _, [] => false
 | a :: r, b :: t => if a = b then lexB r t else blt a b
end
section
variable {α : Type} {blt : α -> α -> Bool}
theorem STO.neg (o : STO blt) (a b c : α) (h : blt a c = true) : blt a b = true \/ blt b c = true := by
 cases e : blt a b with
 | true => exact .inl rfl
 | false =>
  cases e2 : blt b c with
  | true => exact .inr rfl
  | false =>
   cases e3 : blt b a with
   | true => have := o.trans _ _ _ e3 h; rw [e2] at this; cases this
   | false =>
    have := o.tot _ _ e e3;subst this;rw [h] at e2; cases e2
theorem STO.swo (o : STO blt) : SWO blt := ⟨o.irrefl, o.trans, o.neg⟩
variable [DecidableEq α]
theorem lexB_cons (a b : α) (r t : List α) : lexB blt (a :: r) (b :: t) = if a = b then lexB blt r t else blt a b := rfl
theorem lex_sto (o : STO blt) : STO (lexB blt) where
 irrefl := by
  intro a
  induction a with
  | nil => rfl
  | cons x r ih => rw [lexB_cons, if_pos rfl, ih]
 trans := by
  intro a
  induction a with
  | nil =>
   intro b c h1 h2;cases c with
   | nil => cases b <;> cases h2
   | cons _ _ => rfl
  | cons x r ih =>
   intro b c h1 h2;cases b with
   | nil => cases h1
   | cons y t =>
    cases c with
    | nil => cases h2
    | cons z u =>
     rw [lexB_cons] at h1 h2 ⊢
     by_cases e1 : x = y
     ·subst e1;rw [if_pos rfl] at h1
      by_cases e2 : x = z
      ·subst e2;rw [if_pos rfl] at h2 ⊢;exact ih t u h1 h2
      ·rw [if_neg e2] at h2 ⊢;exact h2
     ·rw [if_neg e1] at h1
      by_cases e2 : y = z
      ·subst e2;rw [if_neg e1]; exact h1
      ·rw [if_neg e2] at h2;have h3 := o.trans _ _ _ h1 h2;rw [if_neg (fun e => by subst e; rw [o.irrefl] at h3; cases h3)]
       exact h3
 tot := by
  intro a
  induction a with
  | nil =>
   intro b h1 h2;cases b with
   | nil => rfl
   | cons _ _ => cases h1
  | cons x r ih =>
   intro b h1 h2;cases b with
   | nil => cases h2
   | cons y t =>
    rw [lexB_cons] at h1 h2
    by_cases e1 : x = y
    ·subst e1;rw [if_pos rfl] at h1 h2;rw [ih t h1 h2]
    ·rw [if_neg e1] at h1;rw [if_neg (Ne.symm e1)] at h2;exact absurd (o.tot _ _ h1 h2) e1
end
noncomputable def natB (a b : Nat) : Bool := decide (a < b)
theorem nat_sto : STO natB := ⟨fun a => by simp [natB], fun a b c h1 h2 => by simp only [natB, decide_eq_true_eq] at *; walk_at "oo", fun a b h1 h2 => by simp only [natB, decide_eq_false_iff_not] at *; walk_at "oo"⟩
noncomputable def intB (a b : Int) : Bool := decide (a < b)
theorem int_sto : STO intB := ⟨fun a => by simp [intB], fun a b c h1 h2 => by simp only [intB, decide_eq_true_eq] at *; walk_at "oo", fun a b h1 h2 => by simp only [intB, decide_eq_false_iff_not] at *; walk_at "oo"⟩
theorem lexB_nat : ∀ a b : List Nat, lexB natB a b = decide (a < b)
 | [], [] => by simp [lexB]
 | [], b :: t => by simp [lexB]
 | a :: r, [] => by simp [lexB]
 | a :: r, b :: t => by
  rw [lexB_cons]
  by_cases e : a = b
  ·subst e;rw [if_pos rfl, lexB_nat r t];simp
  ·rw [if_neg e];simp [natB, List.cons_lt_cons_iff, e]
end PySem.W
namespace L3
open PySem PySem.Spec PyProof.Rows L2 PySem.SeqAt
open PySem.AutoSeq1 (wpAny_loadPart')
open PySem.MeetsSeq PySem.MeetsSeq2 PySem.MeetsSeq3
noncomputable def lexE (blt : D -> D -> Bool) : List D -> List D -> Bool
 | [], [] => false
 | [], _ :: _ => true
 | _ :: _, [] => false
 | a :: r, b :: t => if eqb a b = true then lexE blt r t else blt a b
noncomputable def ltD : Nat -> D -> D -> Bool
 | _, .int a, .int b => decide (a < b)
 | _, .str x, .str y => decide (x.cps.toList < y.cps.toList)
 | n + 1, .tup xs, .tup ys => lexE (ltD n) xs ys
 | _, _, _ => false
noncomputable def cpL (n : Nat) (P : D -> D -> Prop) : List D -> List D -> Prop
 | a :: r, b :: t => (pl n a /\ pl n b) /\ (a ≠ b -> P a b) /\ cpL n P r t
 | _, _ => True
noncomputable def cpD : Nat -> D -> D -> Prop
 | _, .int _, .int _ => True
 | _, .str _, .str _ => True
 | n + 1, .tup xs, .tup ys => cpL n (cpD n) xs ys
 | _, _, _ => False
noncomputable def RcOp (op : CmpOp) (A : Around) (s : Shared) (v u : Value) (b : Bool) : Prop :=
 ∀ (prog : Program) (w : World) (E : Value -> Shared -> Prop) (Q : Value -> Shared -> Prop), Q (.bool b) s -> wpAny (model prog w) A (richCompare op v u) Q E s
noncomputable def LexAt (op : CmpOp) (fin : Bool) (A : Around) (s : Shared) : List Value -> List Value -> Bool -> Prop
 | v :: vs, u :: us, out => ∃ e, EqAt A s v u e /\ (e = true -> LexAt op fin A s vs us out) /\ (e = false -> RcOp op A s v u out)
 | _, _, out => out = fin
theorem lexAt_end {op : CmpOp} {fin out : Bool} {A : Around} {s : Shared} : ∀ {vs us : List Value}, LexAt op fin A s vs us out -> vs.zip us = [] -> out = fin
 | [], _, h, _ => h
 | _ :: _, [], h, _ => h
 | _ :: _, _ :: _, _, e => by rw [zip_cons_cons] at e; cases e
theorem tuple_ltAt (l b : Addr) (items items2 : Array Value) (n n2 : Nat) (dd dd2 : Option Addr) (sl sl2 : Array (Option Value)) (out : Bool) :
  Meets (Builtin.«tuple.__lt__» ⟨[.ref l, .ref b], []⟩)
   (fun A R s => s.heap.get? l = some { cls := .type "tuple", dict := dd, data := .seq items n, slots := sl } /\ s.heap.get? b = some { cls := .type "tuple", dict := dd2, data := .seq items2 n2, slots := sl2 } /\
    LexAt .Lt (decide (items.size < items2.size)) A.in1 s items.toList items2.toList out /\ R (.ok (.ret (.bool out))) s) :=
 .of_wp fun prog w A R s h => by
  obtain ⟨hp, g, d, tk, os⟩ := s; obtain ⟨hl, hb, hx, h⟩ := h;have f2 := AutoSeq1.sub_tuple_tuple
  wp_walk using wpAny_loadPart' hl, wpAny_loadPart' hb, wpAny_forIn_list _ (fun rest b s' => b.1 = none /\ s' = ⟨hp, g, d, tk, os⟩ /\ ∃ vs ws, rest = vs.zip ws /\ LexAt .Lt (decide (items.size < items2.size)) A.in1 ⟨hp, g, d, tk, os⟩ vs ws out) _
  case turn =>
   rintro ⟨y, x⟩ rest b s' ⟨hb', rfl, vs, ws, hz, lx⟩
   cases vs with
   | nil => rw [List.zip_nil_left] at hz; cases hz
   | cons v vs =>
    cases ws with
    | nil => rw [List.zip_nil_right] at hz; cases hz
    | cons u ws =>
     rw [zip_cons_cons] at hz;injection hz with hyx hrest
     injection hyx with hy hx'
     subst hy hx';obtain ⟨e, he, l1, l2⟩ := lx;refine wpAny_bind (he prog w _ _ ?_);cases e with
     | true =>
      wp_walk
      exact ⟨rfl, rfl, _, _, hrest, l1 rfl⟩
     | false =>
      have hri := l2 rfl prog w
      wp_walk using hri
      exact ⟨_, rfl, by simpa using h⟩
  case fin =>
   rintro ⟨b1, b2⟩ s' ⟨hb', rfl, vs, ws, hz, lx⟩
   simp only at hb';subst hb';have hv := lexAt_end lx hz.symm;rw [hv] at h
   wp_walk
   exact ⟨_, rfl, by simpa [Builtin.Tuple.tupleCompareSizes] using h⟩
  case h =>
   exact ⟨rfl, rfl, items.toList, items2.toList, rfl, hx⟩
theorem lt_tupAt {A : Around} {s : Shared} {l b : Addr} {items items2 : Array Value} {out : Bool} (hl : s.heap.IsTuple l items) (hb : s.heap.IsTuple b items2) (hu : A.units < cLine)
  (hx : LexAt .Lt (decide (items.size < items2.size)) A.in1 s items.toList items2.toList out) : RcOp .Lt A s (.ref l) (.ref b) out := fun prog w E Q h => by
 obtain ⟨⟨cls, dd, data, sl⟩, ho, hc, n, hd⟩ := id hl;obtain ⟨⟨cls2, dd2, data2, sl2⟩, ho2, hc2, n2, hd2⟩ := id hb;simp only at hc hd hc2 hd2;subst hc hd hc2 hd2;exact richCompare_meets_room (op := .Lt) ⟨_, ho, rfl⟩ ⟨_, ho2, rfl⟩ PySem.F.slot_tuple_lt PySem.F.entry_tuple_lt (PySem.F.args_tuple_lt_2 _ _) (tuple_ltAt l b items items2 n n2 dd dd2 sl sl2 out)
  ⟨ho, ho2, hx, show Value.bool out ≠ Value.notImplemented /\ Q (.bool out) s from ⟨(fun x => nomatch x), h⟩⟩ hu
section
variable {X : Cx} {pins : List (Addr × Obj)} {σ : St} {H : Hp} {s : Shared}
theorem lexAt_lt (I : Inv X pins σ H s) {n : Nat} {A : Around} (hu : A.units + n < cLine) {N1 N2 : Nat}
  (ih : ∀ {x y : D} {v u : V} {v' u' : Value}, cpD n x y -> RD X.K H x v -> RD X.K H y u -> RelV v v' -> RelV u u' -> RcOp .Lt A s v' u' ( ltD n x y)) :
  ∀ {ds es : List D} {xs ys : List V} {us ws : List Value}, cpL n (cpD n) ds es -> RDs X.K H ds xs -> RDs X.K H es ys -> Vals xs us -> Vals ys ws -> ds.length + N2 = es.length + N1 -> LexAt .Lt (decide (N1 < N2)) A s us ws ( lexE (ltD n) ds es)
 | [], es, xs, ys, us, ws, _, r1, r2, w1, w2, hl => by
  rw [r1.inv_nil] at w1;cases w1;show ( lexE (ltD n) [] es) = decide (N1 < N2)
  cases es with
  | nil =>
   simp only [length_nil] at hl;have e1 : N2 = N1 := by walk_at "o"
   subst e1;simp [lexE]
  | cons b t =>
   simp only [length_nil, length_cons] at hl;have : N1 < N2 := by walk_at "o"
   simp [lexE]; walk_at "oo"
 | a :: r, [], xs, ys, us, ws, _, r1, r2, w1, w2, hl => by
  rw [r2.inv_nil] at w2;cases w2;obtain ⟨x1, t1, e1, _, _⟩ := r1.inv_cons;subst e1;cases w1;show ( lexE (ltD n) (a :: r) []) = decide (N1 < N2)
  simp only [length_nil, length_cons] at hl;have : N2 < N1 := by walk_at "o"
  simp [lexE]; walk_at "oo"
 | a :: r, b :: t, xs, ys, us, ws, ⟨p, c, q⟩, r1, r2, w1, w2, hl => by
  obtain ⟨x1, t1, e1, g1, g2⟩ := r1.inv_cons;subst e1;obtain ⟨x2, t2, e2, f1, f2⟩ := r2.inv_cons;subst e2;cases w1 with
  | cons k1 w1 =>
  cases w2 with
  | cons k2 w2 =>
   refine ⟨eqb a b, (cmp_D I n p.1 p.2 g1 f1 k1 k2 hu).eq, fun e => ?_, fun e => ?_⟩
   ·rw [show lexE (ltD n) (a :: r) (b :: t) = lexE (ltD n) r t by simp [lexE, e]]
    simp only [length_cons] at hl;exact lexAt_lt I hu ih q g2 f2 w1 w2 (by walk_at "o")
   ·rw [show lexE (ltD n) (a :: r) (b :: t) = ltD n a b by simp [lexE, e]]
    exact ih (c fun z => by rw [z, eqb_self] at e; cases e) g1 f1 k1 k2
theorem ord_lt (I : Inv X pins σ H s) : ∀ (n : Nat) {x y : D} {v u : V} {v' u' : Value} {A : Around}, cpD n x y -> RD X.K H x v -> RD X.K H y u -> RelV v v' -> RelV u u' -> A.units + n < cLine -> RcOp .Lt A s v' u' ( ltD n x y) := by
 intro n
 induction n with
 | zero =>
  intro x y v u v' u' A c rx ry lx ly hu;cases x <;> cases y <;> first | exact c.elim | skip
  ·simp only [RD] at rx ry;subst rx ry;obtain ⟨t, rfl⟩ := lx;obtain ⟨t', rfl⟩ := ly;intro prog w E Q h;exact (PyProof.Rows.lt_int h : wpAny (model prog w) A (compareOp .Lt (.int _ t) (.int _ t')) Q E s)
  ·simp only [RD] at rx ry;subst rx ry;obtain ⟨t, rfl⟩ := lx;obtain ⟨t', rfl⟩ := ly;intro prog w E Q h;exact (PySem.P.lt_str h : wpAny (model prog w) A (compareOp .Lt (.str _ t) (.str _ t')) Q E s)
 | succ n ih =>
  intro x y v u v' u' A c rx ry lx ly hu;cases x <;> cases y <;> first | exact c.elim | skip
  ·simp only [RD] at rx ry;subst rx ry;obtain ⟨t, rfl⟩ := lx;obtain ⟨t', rfl⟩ := ly;intro prog w E Q h;exact (PyProof.Rows.lt_int h : wpAny (model prog w) A (compareOp .Lt (.int _ t) (.int _ t')) Q E s)
  ·simp only [RD] at rx ry;subst rx ry;obtain ⟨t, rfl⟩ := lx;obtain ⟨t', rfl⟩ := ly;intro prog w E Q h;exact (PySem.P.lt_str h : wpAny (model prog w) A (compareOp .Lt (.str _ t) (.str _ t')) Q E s)
  ·rename_i ds es;simp only [RD] at rx ry;obtain ⟨a, xs, rfl, s1, r1⟩ := rx;obtain ⟨b, ys, rfl, s2, r2⟩ := ry;cases lx; cases ly;obtain ⟨its, w1, t1, z1⟩ := I.tuple s1;obtain ⟨its2, w2, t2, z2⟩ := I.tuple s2;have l1 := w1.length;have l1' := r1.length;have l2 := w2.length;have l2' := r2.length;refine lt_tupAt t1 t2 (by walk_at "o") ?_
   exact lexAt_lt I (A := A.in1) (by show A.units + 1 + n < cLine; walk_at "oo") (fun c rx ry lx ly => ih c rx ry lx ly (by show A.units + 1 + n < cLine; walk_at "oo")) c r1 r2 w1 w2 (by simp only [size_toArray]; walk_at "oo")
end
noncomputable def oTge : R3 := fun x y G Q => cpD 4 x y /\ Q (.bl (! ltD 4 x y)) G
open PySem PySem.Spec PyProof.Rows L2 PySem.W
noncomputable def DRaw (h : Heap) (d : Addr) (vs : List Value) (ep : Nat) : Prop := ∃ o es, h.get? d = some o /\ o.ExactDict /\ o.data = .dict es ep /\ es.toList.map (·.val) = vs
section
variable {prog : Program} {w : World} {A : Around} {E : Value -> Shared -> Prop} {s : Shared} {d r it : Addr} {vs : List Value} {ep i : Nat}
theorem DRaw.ty (x : DRaw s.heap d vs ep) : s.TypeIs (.ref d) "dict" := let ⟨o, _, e, z, _⟩ := x; ⟨o, e, z.1⟩
theorem DRaw.there {h : Heap} (x : DRaw h d vs ep) : d < h.objs.size := let ⟨_, _, e, _⟩ := x; Heap.lt_size e
theorem DRaw.stay {h h' : Heap} (x : DRaw h d vs ep) (k : ∀ o, h.get? d = some o -> h'.get? d = some o) : DRaw h' d vs ep := let ⟨o, es, e, z⟩ := x; ⟨o, es, k o e, z⟩
theorem raw_values (hs : (d == sysModules) = false) : MeetsIn prog w (Builtin.«dict.values» ⟨[.ref d], []⟩) (fun _ R s => (∃ vs ep, DRaw s.heap d vs ep) /\
  R (.ok (.ret (.ref s.heap.objs.size))) { s with heap := s.heap.push { cls := .type "dict_values", data := .fields #[.ref d] } }) :=
 .of_wp fun A R s zz => by
  obtain ⟨⟨vs, ep, x⟩, q⟩ := zz;refine wpAny_bind ?_; unfold Builtin.Dict.noArgs; refine wpAny_bind (wpAny_notOrdered_dict x.ty ?_);show wpAny _ _ (pure d) _ _ s; refine wpAny_pure ?_
  show wpAny _ _ (Builtin.Dict.showsAll d >>= _) _ _ s; unfold Builtin.Dict.showsAll
  rw [if_neg (fun z => by rw [hs] at z; cases z)]; refine wpAny_bind (wpAny_pure ?_)
  exact wpAny_bind (wpAny_newObj_type (wpAny_pure ⟨_, rfl, q⟩))
theorem raw_iter {Q : Value -> Shared -> Prop} (hr : s.heap.IsValuesView r d) (x : DRaw s.heap d vs ep)
  (q : Q (.ref s.heap.objs.size) { s with heap := s.heap.push { cls := .type "dict_valueiterator", data := .fields #[.ref d, .int 0 0, .int vs.length 0, .int ep 0] } }) : wpAny (model prog w) A (pyIter (.ref r)) Q E s := by
 obtain ⟨ov, e1, c1, d1⟩ := id hr;obtain ⟨o, es, e2, c2, d2, rfl⟩ := x;refine wpAny_pyIter_slot hr.typeIs F.slot_dict_values_iter (wpAny_call_entry F.slot_dict_values_iter hr.typeIs F.entry_dict_values_iter ?_ (F.args_dict_values_iter_1 _));unfold Builtin.«dict_values.__iter__»; refine wpAny_bind (wpAny_pure ?_); refine wpAny_bind ?_;unfold Builtin.Dict_items.dictOf; refine wpAny_bind (wpAny_field e1 d1 (x := .ref d) rfl (wpAny_pure ?_)); refine wpAny_bind ?_;unfold Builtin.Dict_items.newIterator; refine wpAny_bind (wpAny_dictEntries e2 d2 ?_); refine wpAny_bind (wpAny_dictEpoch e2 d2 ?_);have own : Builtin.Dict_items.ownsTuple "dict_valueiterator" = false := by decide
 simp only [own, Bool.false_eq_true, if_false];refine wpAny_newObj_type (wpAny_pure ⟨_, rfl, "dict_valueiterator", _, ⟨_, Heap.get?_push_size _ rfl, rfl⟩, F.slot_dict_valueiterator_next.lookup, ?_⟩)
 simpa [rawInt] using q
theorem raw_item {v : Value} {Q : Option Value -> Shared -> Prop} (hi : s.heap.IsValIter it d i vs.length ep) (x : DRaw s.heap d vs ep) (hv : vs[i]? = some v)
  (q : ∀ h', h'.IsValIter it d (i + 1) vs.length ep -> Heap.SameBut it s.heap h' -> Q (some v) { s with heap := h' }) : wpAny (model prog w) A (pyNext (.ref it)) Q E s := by
 obtain ⟨o, e1, c1, d1⟩ := id hi;obtain ⟨od, es, e2, c2, d2, rfl⟩ := x;unfold pyNext; refine wpAny_bind (wpAny_attempt (wpAny_callSpecial?_slot (name := Str.ofString "__next__") hi.typeIs F.slot_dict_valueiterator_next (wpAny_call_entry F.slot_dict_valueiterator_next hi.typeIs F.entry_dict_valueiterator_next ?_ (F.args_dict_valueiterator_next_1 _))));refine wpAny_bind (wpAny_pure ?_); refine wpAny_bind ?_; refine wpAny_bind ?_
 first | refine wpAny_bind (wpAny_typeNameOfWhole_valiter hi.typeIs (wpAny_pure ?_)) | refine wpAny_bind (wpAny_typeNameOf_valiter hi.typeIs (wpAny_pure ?_))
 refine wpAny_bind (wpAny_fieldsOf e1 d1 ?_);have own : Builtin.Dict_items.ownsTuple "dict_valueiterator" = false := by decide
 simp only [own, Bool.false_eq_true, if_false];show wpAny _ _ (if (Value.ref d == Value.none) = true then _ else _) _ _ s; rw [if_neg (show ¬ ((Value.ref d == Value.none) = true) from Bool.false_ne_true)]
 refine wpAny_bind (wpAny_pure ?_); refine wpAny_bind (wpAny_dictEntries e2 d2 ?_);have z : es.size = (es.toList.map (·.val)).length := by simp
 rw [if_neg (by rw [z]; simp)]; refine wpAny_bind (wpAny_pure ?_); refine wpAny_bind (wpAny_dictEpoch e2 d2 ?_)
 rw [if_neg (by simp)]; refine wpAny_pure ?_
 have lt : i < es.size := by
  rw [z];rcases lt_or_ge i (es.toList.map (·.val)).length with h | h
  ·exact h
  ·rw [getElem?_eq_none h] at hv; cases hv
 have val : es[i].val = v := by
  rw [getElem?_map] at hv
  simpa [lt] using hv
 simp only [show ¬ ((i : Int) < 0) from by walk_at "o", if_false, Int.toNat_natCast, Array.getElem?_eq_getElem lt]; refine wpAny_bind ?_
 first | refine wpAny_bind (wpAny_typeNameOfWhole_valiter hi.typeIs (wpAny_pure ?_)) | refine wpAny_bind (wpAny_typeNameOf_valiter hi.typeIs (wpAny_pure ?_))
 refine wpAny_bind (wpAny_isOneOf_valiter hi.typeIs ?_); show wpAny _ _ (setField (.ref it) 1 (rawInt ((i : Int) + 1)) >>= _) _ _ s;refine wpAny_bind (wpAny_setField e1 d1 (by simp) ?_)
 have hi' : (s.heap.update it (Obj.mapFields (·.setIfInBounds 1 (rawInt ((i : Int) + 1))))).IsValIter it d (i + 1) (es.toList.map (·.val)).length ep :=
  ⟨_, Heap.get?_update_self _ e1 (Obj.isFreed_of_fields (Obj.data_mapFields d1 _)), (Obj.cls_mapFields ..).trans c1, by rw [Obj.data_mapFields d1]; simp [rawInt]⟩
 refine wpAny_bind (wpAny_holding ?_); refine wpAny_bind (wpAny_isOneOf_valiter (s := { s with heap := s.heap.update it (Obj.mapFields (·.setIfInBounds 1 (rawInt ((i : Int) + 1)))) }) hi'.typeIs ?_)
 refine wpAny_bind (wpAny_isOneOf_valiter (s := { s with heap := s.heap.update it (Obj.mapFields (·.setIfInBounds 1 (rawInt ((i : Int) + 1)))) }) hi'.typeIs ?_); show wpAny _ _ (pure es[i].val) _ _ _
 exact wpAny_pure (wpAny_pure ⟨_, rfl, wpAny_pure (val ▸ q _ hi' (Heap.SameBut.update ..))⟩)
theorem raw_end {Q : Option Value -> Shared -> Prop} (hh : A.handled = none) (hi : s.heap.IsValIter it d i vs.length ep) (x : DRaw s.heap d vs ep) (hv : vs[i]? = none)
  (q : ∀ h', Heap.ExtBut it s.heap h' -> Q none { s with heap := h' }) : wpAny (model prog w) A (pyNext (.ref it)) Q E s := by
 obtain ⟨o, e1, c1, d1⟩ := id hi;obtain ⟨od, es, e2, c2, d2, rfl⟩ := x;unfold pyNext; refine wpAny_bind (wpAny_attempt (wpAny_callSpecial?_slot (name := Str.ofString "__next__") hi.typeIs F.slot_dict_valueiterator_next (wpAny_call_entry F.slot_dict_valueiterator_next hi.typeIs F.entry_dict_valueiterator_next ?_ (F.args_dict_valueiterator_next_1 _))));refine wpAny_bind (wpAny_pure ?_); refine wpAny_bind ?_; refine wpAny_bind ?_
 first | refine wpAny_bind (wpAny_typeNameOfWhole_valiter hi.typeIs (wpAny_pure ?_)) | refine wpAny_bind (wpAny_typeNameOf_valiter hi.typeIs (wpAny_pure ?_))
 refine wpAny_bind (wpAny_fieldsOf e1 d1 ?_);have own : Builtin.Dict_items.ownsTuple "dict_valueiterator" = false := by decide
 simp only [own, Bool.false_eq_true, if_false];show wpAny _ _ (if (Value.ref d == Value.none) = true then _ else _) _ _ s; rw [if_neg (show ¬ ((Value.ref d == Value.none) = true) from Bool.false_ne_true)]
 refine wpAny_bind (wpAny_pure ?_); refine wpAny_bind (wpAny_dictEntries e2 d2 ?_);have z : es.size = (es.toList.map (·.val)).length := by simp
 rw [if_neg (by rw [z]; simp)]; refine wpAny_bind (wpAny_pure ?_); refine wpAny_bind (wpAny_dictEpoch e2 d2 ?_)
 rw [if_neg (by simp)]; refine wpAny_pure ?_
 have ge : es.size <= i := by rw [z]; simpa using hv
 simp only [show ¬ ((i : Int) < 0) from by walk_at "o", if_false, Int.toNat_natCast, Array.getElem?_eq_none ge]; refine wpAny_bind ?_
 first | refine wpAny_bind (wpAny_typeNameOfWhole_valiter hi.typeIs (wpAny_pure ?_)) | refine wpAny_bind (wpAny_typeNameOf_valiter hi.typeIs (wpAny_pure ?_))
 show wpAny _ _ (setField (.ref it) 0 .none >>= _) _ _ s; refine wpAny_bind (wpAny_setField e1 d1 (by simp) ?_)
 show wpAny _ _ (newExc (.type "StopIteration") [] >>= _) _ _ _; refine wpAny_bind ?_
 simp only [newExc, newTuple]; refine wpAny_bind (wpAny_newObj_type ?_ (by size_fits))
 refine wpAny_bind (m := firstArgMember _ _) (wpAny_of_eq (a := Value.none) (by first | rfl | (simp only [firstArgMember]; rfl)) ?_); refine wpAny_newObj_type ?_ (by size_fits)
 simp only [raiseNew]; refine wpAny_bind (wpAny_handled ?_); rw [show A.in1.handled = none from hh]
 refine wpAny_bind (wpAny_pure (wpAny_throw ?_)); refine wpAny_bind (wpAny_isInstance (T := "StopIteration") (b := true) ⟨_, Heap.get?_push_size _ rfl, rfl⟩ isSubtype_stop ?_);exact wpAny_pure (q _ (((Heap.SameBut.update ..).extBut.push _).push _))
theorem raw_walk (hh : A.handled = none) (hne : d ≠ it) : Walks prog w A it [it, d] [it] vs.length (fun i v => vs[i]? = some v) (fun i h => h.IsValIter it d i vs.length ep /\ DRaw h d vs ep) where
 sub := fun b hb => by rw [mem_singleton.mp hb]; exact mem_cons_self
 frame := fun _ _ _ t k => ⟨t.1.at fun o e => k it mem_cons_self o e, t.2.stay fun o e => k d (mem_cons_of_mem _ mem_cons_self) o e⟩
 item := fun i s Q E hi t q => by
  obtain ⟨v, hv⟩ : ∃ v, vs[i]? = some v := ⟨vs[i], by simp [hi]⟩
  refine raw_item t.1 t.2 hv fun h' a b => ?_;exact q v h' s.toks hv ⟨a, t.2.stay fun o e => b.extBut d o hne e⟩ fun c o hc e => b.extBut c o (fun z => hc (by rw [z]; exact mem_cons_self)) e
 done := fun s Q E t q => raw_end hh t.1 t.2 (by simp) fun h' b => q h' s.toks fun c o hc e => b c o (fun z => hc (by rw [z]; exact mem_cons_self)) e
 self := fun _ _ _ _ t q => wpAny_pyIter_valiter t.1 q
theorem raw_src : KdlSrc prog w "dict_values" r d vs.length (fun i v => vs[i]? = some v) (fun h => h.IsValuesView r d /\ DRaw h d vs ep) where
 type := fun _ x => x.1.typeIs
 there := fun _ x => ⟨let ⟨_, e, _⟩ := x.1; Heap.lt_size e, x.2.there⟩
 keep := fun _ _ x k => ⟨let ⟨o, e, z⟩ := x.1; ⟨o, k r (.inl rfl) o e, z⟩, x.2.stay fun o e => k d (.inr rfl) o e⟩
 notList := by decide
 notTuple := by decide
 hint := fun _ _ _ _ x q => kdl_hint_values x.1.typeIs q
 iter := fun _ _ hh x => ⟨_, _, (fun _ _ q => raw_iter x.1 x.2 q), raw_walk hh (ne_of_lt x.2.there), ⟨⟨_, Heap.get?_push_size _ rfl, rfl, rfl⟩, x.2.stay fun o e => Heap.get?_push_of_some _ e⟩⟩
end
noncomputable def XO (a : Addr) (o : Obj) : HO := .ext fun h => h.get? a = some o
theorem xo_ok {P : Program} {w : World} {H : Hp} {h : Heap} {a : Addr} {o : Obj} (e : h.get? a = some o) : ObjOk P w H h a (XO a o) := ⟨e, ⟨o, e⟩, fun _ _ p k => k _ p⟩
section
variable {X : Cx} {pins : List (Addr × Obj)} {τ : St} {H H0 : Hp} {s : Shared} {G : Gp} {a : Addr} {o : Obj} {u : HO}
theorem inv_xo (I : Inv X pins τ H s) (e : H a = some (XO a o)) : s.heap.get? a = some o := (show ObjOk X.prog X.w H s.heap a (XO a o) from I.hok a _ e).1
theorem inv_xlaid {t' : Nat} {h' : Heap} (I : Inv X pins τ H s) (ha : s.heap.objs.size = a) (hh : h' = s.heap.push o) (hf : o.isFreed = false := by rfl) : Inv X pins τ (upd H a (XO a o)) { s with heap := h', toks := t' } := by
 subst ha hh;exact I.laid (fun _ _ e => Heap.get?_push_of_some _ e) (le_refl _) (xo_ok (Heap.get?_push_size _ hf))
theorem inv_xset {t' : Nat} {o' : Obj} {f : Obj -> Obj} (I : Inv X pins τ H s) (e : H a = some (XO a o)) (e' : (s.heap.update a f).get? a = some o') : Inv X pins τ (upd H a (XO a o')) { s with heap := s.heap.update a f, toks := t' } :=
 I.write (x := a) (e := a) (by rw [e]; exact trivial) (.inl rfl) (fun b u hb hu => (Heap.get?_update_other s.heap f (Ne.symm hb)).trans hu) ⟨_, e'⟩ (xo_ok e')
theorem stb_wr {K : Frag} (mu : Mut (H a)) : Stb K H (upd H a u) where
 t := fun b xs q => by
  rcases q with (q | ⟨z, q⟩) | q
  ·exact .inl (.inl (by rw [upd_ne (fun e => by subst e; rw [q] at mu; exact mu)]; exact q))
  ·exact .inl (.inr ⟨z, by rw [upd_ne (fun e => by subst e; rw [q] at mu; exact mu)]; exact q⟩)
  ·exact .inr q
 l := fun b xs q => by
  rcases q with ⟨z, q⟩ | q
  ·exact .inl ⟨z, by rw [upd_ne (fun e => by subst e; rw [q] at mu; exact mu)]; exact q⟩
  ·exact .inr q
theorem rg_wr {K : Frag} (rg : RG K H G) (g : G a = none) (mu : Mut (H a)) : RG K (upd H a u) G := fun b z q => by
 obtain ⟨h, e1, r⟩ := rg b z q;have hb : b ≠ a := fun e => by subst e; rw [q] at g; cases g
 exact ⟨h, by rw [upd_ne hb]; exact e1, r.mono (stb_wr mu)⟩
theorem kp_wr (k : Kp G H0 G H) (n : H0 a = none) : Kp G H0 G (upd H a u) := fun b h e g => ⟨by rw [upd_ne (ne_of_none e n)]; exact (k b h e g).1, g⟩
theorem key_run {k : Nat} {f : Addr} {fd : FuncData} {ps : List Str} {sp : Sp3} {d kd : D} {v : V} {x : Value} {A : Around} {E : Value -> Shared -> Prop} (F : FnOk X.prog X.w X.K X.mg X.base CX0 k f fd ps (liftSp X.K sp)) (hb : Binds X.K fd ps []) (hr : Room k A) (hA : Env0 X.prog X.w X.K X.mg X.base A X.stack s H)
  (I : Inv X pins τ H s) (rg : RG X.K H G) (rd : RD X.K H d v) (rv : RelV v x) (hs : sp [d] G fun z G' => z = kd /\ G' = G) (nf : ∀ l, kd ≠ .fl l) {Q : Value -> Shared -> Prop}
  (q : ∀ u v' H' s', Inv X pins τ H' s' -> Kp G H G H' -> RG X.K H' G -> RD X.K H' kd v' -> RelV v' u -> Q u s') : wpAny (model X.prog X.w) A (call (.ref f) [x]) Q E s := by
 have sp1 : liftSp X.K sp [v] H (fun v' H' => Kp G H G H' /\ RG X.K H' G /\ RD X.K H' kd v') (fun _ _ _ => False) :=
  ⟨[d], G, _, RDs.cons rd RDs.nil, rg, hs, fun z G' v' H' e k1 rg1 re => by obtain ⟨rfl, rfl⟩ := e; exact ⟨k1, rg1, re.rd nf⟩⟩
 have r2 : Vals [v] [x] := .cons rv .nil;have hl : ([x] ++ ([] : List Value)).length = ps.length := by
  have := F.len _ _ _ _ sp1
  simpa using this
 refine wpAny_call (codeAny_mono (F.run A X.stack s H ⟨[x], []⟩ ([x] ++ []) [v] _ _ hr hA (hb s [x] I.kIn hl) (by simpa using r2) sp1) fun r s' hq => ?_)
 cases r with
 | error e => exact False.elim hq
 | ok fl =>
  cases fl with
  | ret u =>
   obtain ⟨v', H', I', rv', k1, rg1, rd1⟩ := I.after hq;exact q u v' H' s' I' k1 rg1 rd1 rv'
  | next => exact False.elim hq
  | brk => exact False.elim hq
  | cont => exact False.elim hq
end
theorem keys_run {X : Cx} {pins : List (Addr × Obj)} {τ : St} {H0 : Hp} {G : Gp} {k : Nat} {f : Addr} {fd : FuncData} {ps : List Str} {sp : Sp3} {A : Around} {E : Value -> Shared -> Prop} (F : FnOk X.prog X.w X.K X.mg X.base CX0 k f fd ps (liftSp X.K sp)) (hb : Binds X.K fd ps []) (hr : Room k A)
  (hA : ∀ {s H}, Inv X pins τ H s -> Env0 X.prog X.w X.K X.mg X.base A X.stack s H) {S D0 : Addr} {oD : Obj} (nS : H0 S = none) (nD : H0 D0 = none) (gS : G S = none) (gD : G D0 = none) (hne : S ≠ D0)
  {body : Value -> PUnit -> Sem (ForInStep PUnit)}
  (hbd : ∀ x s Q, wpAny (model X.prog X.w) A (call (.ref f) [x]) (fun u s' => wpAny (model X.prog X.w) A (Builtin.List.listUpdate (.ref S) (·.push u)) (fun _ => Q (.yield ⟨⟩)) E s') (fun _ _ => False) s -> wpAny (model X.prog X.w) A (body x ⟨⟩) Q E s) :
  ∀ {ds ks : List D} {vs : List V} {us : List Value}, ks.length = ds.length -> (∀ (i : Nat) d kd, ds[i]? = some d -> ks[i]? = some kd -> (sp [d] G fun z G' => z = kd /\ G' = G) /\ ∀ l, kd ≠ .fl l) ->
   ∀ {H : Hp} {s : Shared} {done : List D} {kv : List V} {ku : List Value} {n : Nat}, Inv X pins τ H s -> Kp G H0 G H -> RG X.K H G -> RDs X.K H ds vs -> Vals vs us -> H D0 = some (XO D0 oD) -> H S = some (XO S (seqObj "list" ku.toArray n)) -> RDs X.K H done kv -> Vals kv ku -> ku.length + us.length < 64 ->
   ∀ {Q : PUnit -> Shared -> Prop}, (∀ H' s' kv' ku' n', Inv X pins τ H' s' -> Kp G H0 G H' -> RG X.K H' G -> H' D0 = some (XO D0 oD) -> H' S = some (XO S (seqObj "list" ku'.toArray n')) -> RDs X.K H' (done ++ ks) kv' -> Vals kv' ku' -> Stb X.K H H' -> Q ⟨⟩ s') ->
   wpAny (model X.prog X.w) A (forIn us PUnit.unit body) Q E s
 | [], ks, vs, us, hl, hk, H, s, done, kv, ku, n, I, kp, rg, rds, rv, eD, eS, rdk, rvk, hz, Q, q => by
  rw [rds.inv_nil] at rv;cases rv;rw [List.forIn_nil];have : ks = [] := length_eq_zero_iff.mp (by simpa using hl)
  subst this;exact wpAny_pure (q H s kv ku n I kp rg eD eS (by rw [append_nil]; exact rdk) rvk ⟨fun _ _ z => z, fun _ _ z => z⟩)
 | d :: ds, [], vs, us, hl, _, _, _, _, _, _, _, _, _, _, _, _, _, _, _, _, _, _, _ => by simp at hl
 | d :: ds, kd :: ks, vs, us, hl, hk, H, s, done, kv, ku, n, I, kp, rg, rds, rv, eD, eS, rdk, rvk, hz, Q, q => by
  obtain ⟨v, t, e, h1, h2⟩ := rds.inv_cons;subst e;cases rv with
  | @cons _ x _ us l rv =>
   rw [forIn_cons];obtain ⟨hs, nf⟩ := hk 0 d kd rfl rfl;refine wpAny_bind (hbd x s _ (key_run F hb hr (hA I) I rg h1 l hs nf fun u v' H' s' I' k1 rg1 rd1 rv1 => ?_));have eS' := (k1 S _ eS gS).1;have eD' := (k1 D0 _ eD gD).1;have st1 := k1.stb rg;have oS := inv_xo I' eS';simp only [length_cons] at hz;refine listUpdate_at oS rfl ?_ (by rw [size_toArray, sizeLine_eq]; walk_at "oo") (by rw [Array.size_push, size_toArray, sizeLine_eq]; walk_at "oo")
   have ea : ku.toArray.push u = (ku ++ [u]).toArray := by simp
   have e2 := get?_update_seq oS (·.push u);rw [ea] at e2;generalize (if ((ku ++ [u]).toArray.size == ku.toArray.size) = true then n else n + 1) = n2 at e2
   have mu : Mut (H' S) := by rw [eS']; exact trivial
   have I2 := inv_xset (t' := s'.toks) I' eS' e2;have st2 : Stb X.K H' (upd H' S (XO S (seqObj "list" (ku ++ [u]).toArray n2))) := stb_wr mu;refine keys_run F hb hr hA nS nD gS gD hne hbd (ds := ds) (ks := ks) (by simpa using hl) (fun i d' kd' a b => hk (i + 1) d' kd' (by simpa using a) (by simpa using b)) I2 (kp_wr (kp.trans k1) nS) (rg_wr rg1 gS mu)
    (RDs.mono st2 _ _ (RDs.mono st1 _ _ h2)) rv (by rw [upd_ne hne.symm]; exact eD') upd_same (done := done ++ [kd]) (kv := kv ++ [v']) (RDs.append (RDs.mono st2 _ _ (RDs.mono st1 _ _ rdk)) (RDs.cons (RD.mono st2 _ _ rd1) RDs.nil)) (rvk.append (.cons rv1 .nil)) (by simp; walk_at "oo")
    fun H3 s3 kv3 ku3 n3 I3 kp3 rg3 eD3 eS3 rd3 rv3 st3 => q H3 s3 kv3 ku3 n3 I3 kp3 rg3 eD3 eS3 (by simpa using rd3) rv3 ⟨fun b xs z => st3.t _ _ (st2.t _ _ (st1.t _ _ z)), fun b xs z => st3.l _ _ (st2.l _ _ (st1.l _ _ z))⟩
open PySem PySem.Spec PyProof.Rows L2 PySem.SeqAt PySem.W
section
variable {X : Cx} {pins : List (Addr × Obj)} {τ : St} {H H0 : Hp} {s : Shared} {G : Gp}
theorem kat_D (I : L2.Inv X pins τ H s) {n : Nat} {A : Around} (hu : A.units + n < cLine) {b : Bool} {N1 N2 : Nat} {Q : Bool -> Shared -> Prop} :
  ∀ {ds es : List D} {xs ys : List V} {us ws : List Value} {i : Nat}, (b && i == 0) = false -> cpL n (cpD n) ds es -> RDs X.K H ds xs -> RDs X.K H es ys -> Vals xs us -> Vals ys ws -> ds.length + N2 = es.length + N1 -> Q (lexE (ltD n) ds es) s ->
   KatLex X.prog X.w A b (decide (N1 < N2)) Q (us.zip ws) i s
 | [], es, xs, ys, us, ws, i, hb, c, r1, r2, w1, w2, hl, q => by
  rw [r1.inv_nil] at w1;cases w1;rw [List.zip_nil_left];refine kat_nil ?_;cases es with
  | nil =>
   simp only [length_nil] at hl;rw [decide_eq_false (by walk_at "o")]
   exact q
  | cons b t =>
   simp only [length_nil, length_cons] at hl;rw [decide_eq_true (by walk_at "o")]
   exact q
 | a :: r, [], xs, ys, us, ws, i, hb, c, r1, r2, w1, w2, hl, q => by
  rw [r2.inv_nil] at w2;cases w2;rw [List.zip_nil_right];refine kat_nil ?_;simp only [length_nil, length_cons] at hl;rw [decide_eq_false (by walk_at "o")]
  exact q
 | a :: r, b' :: t, xs, ys, us, ws, i, hb, ⟨p, c, z⟩, r1, r2, w1, w2, hl, q => by
  obtain ⟨x1, t1, e1, g1, g2⟩ := r1.inv_cons;subst e1;obtain ⟨x2, t2, e2, f1, f2⟩ := r2.inv_cons;subst e2;cases w1 with
  | cons k1 w1 =>
  cases w2 with
  | cons k2 w2 =>
   rw [zip_cons_cons];refine kat_cons ((cmp_D I n p.1 p.2 g1 f1 k1 k2 hu).eq X.prog X.w _ _ (kat_go (fun e => kat_yes ?_) fun e => kat_no ?_))
   ·rw [show lexE (ltD n) (a :: r) (b' :: t) = lexE (ltD n) r t by simp [lexE, e]] at q
    simp only [length_cons] at hl;exact kat_D I hu (by simp) z g2 f2 w1 w2 (by walk_at "o") q
   ·rw [show lexE (ltD n) (a :: r) (b' :: t) = ltD n a b' by simp [lexE, e]] at q
    rw [hb];refine kat_one _ _ ?_;exact (ord_lt I n (c fun y => by rw [y, eqb_self] at e; cases e) g1 f1 k1 k2 hu) X.prog X.w _ _ q
noncomputable def keyI (d : D) : Prop := ∃ t r, d = .tup (.int t :: r)
theorem ask_D (I : L2.Inv X pins τ H s) {A : Around} (hu : A.units + 4 < cLine) {kx ky : D} {v u : V} {v' u' : Value} (cp : cpD 4 kx ky) (hx : keyI kx) (hy : keyI ky) (rx : RD X.K H kx v) (ry : RD X.K H ky u) (lx : RelV v v') (ly : RelV u u') {C : Bool -> Shared -> Prop} {E : Value -> Shared -> Prop}
  (q : C (ltD 4 kx ky) s) : wpAny (model X.prog X.w) A (keyLt' (tuples' true) v' u') C E s := by
 obtain ⟨i, r, rfl⟩ := hx;obtain ⟨j, t, rfl⟩ := hy;simp only [RD] at rx ry;obtain ⟨a, xs, rfl, s1, r1⟩ := rx;obtain ⟨b, ys, rfl, s2, r2⟩ := ry;cases lx; cases ly;obtain ⟨its, w1, ⟨o1, h1, c1, n1, d1⟩, z1⟩ := I.tuple s1;obtain ⟨its2, w2, ⟨o2, h2, c2, n2, d2⟩, z2⟩ := I.tuple s2;refine kat_lt h1 d1 h2 d2 ?_;have l1 := w1.length;have l1' := r1.length;have l2 := w2.length;have l2' := r2.length;obtain ⟨x1, t1, e1, g1, g2⟩ := RDs.inv_cons (d := .int i) (ds := r) r1;subst e1;obtain ⟨x2, t2, e2, f1, f2⟩ := RDs.inv_cons (d := .int j) (ds := t) r2;subst e2;simp only [RD] at g1 f1;subst g1 f1;cases w1 with
 | @cons _ u1 _ m1 k1 w1 =>
 cases w2 with
 | @cons _ u2 _ m2 k2 w2 =>
  obtain ⟨tk, rfl⟩ := k1;obtain ⟨tk', rfl⟩ := k2;obtain ⟨p, c, z⟩ := (show cpL 3 (cpD 3) (.int i :: r) (.int j :: t) from cp)
  have q' : C (lexE (ltD 3) (.int i :: r) (.int j :: t)) s := q;show KatLex _ _ _ _ _ _ ((_ :: m1).zip (_ :: m2)) 0 s
  rw [zip_cons_cons];refine kat_cons ((cmp_D I 3 (x := .int i) (y := .int j) (v := .int i) (u := .int j) p.1 p.2 rd_int rd_int ⟨tk, rfl⟩ ⟨tk', rfl⟩ (by walk_at "o")).eq X.prog X.w _ _ (kat_go (fun e => kat_yes ?_) fun e => kat_no ?_))
  ·rw [show lexE (ltD 3) (.int i :: r) (.int j :: t) = lexE (ltD 3) r t by simp [lexE, e]] at q'
   simp only [length_cons] at l1 l1' l2 l2';exact kat_D I (by walk_at "o") (by simp) z g2 f2 w1 w2 (by simp only [size_toArray, length_cons]; walk_at "oo") q'
  ·rw [show lexE (ltD 3) (.int i :: r) (.int j :: t) = ltD 3 (.int i) (.int j) by simp [lexE, e]] at q'
   show wpAny _ _ (oneLt' true _ _) _ _ _
   exact oneLt_int q'
theorem kind_D (I : L2.Inv X pins τ H s) {A : Around} {E : Value -> Shared -> Prop} {Q : SortKind -> Shared -> Prop} {ks : List D} {kv : List V} {ku : List Value} (hk : ∀ d ∈ ks, keyI d) (r : RDs X.K H ks kv) (w : Vals kv ku) (hn : 0 < ks.length) (q : Q (tuples' true) s) :
  wpAny (model X.prog X.w) A (keyKind' ku.toArray) Q E s := by
 have go : ∀ {ks : List D} {kv : List V} {ku : List Value}, (∀ d ∈ ks, keyI d) -> RDs X.K H ks kv -> Vals kv ku -> ∃ fs, KatTups s.heap ku fs /\ fs.length = ks.length /\ ∀ v ∈ fs, ∃ i t, v = Value.int i t := by
  intro ks
  induction ks with
  | nil =>
   intro kv ku _ r w;rw [r.inv_nil] at w;cases w;exact ⟨[], KatTups.nil, rfl, fun v hv => by simp at hv⟩
  | cons d t ih =>
   intro kv ku hk r w;obtain ⟨x1, t1, e1, g1, g2⟩ := r.inv_cons;subst e1;cases w with
   | cons k1 w =>
    obtain ⟨fs, h1, h2, h3⟩ := ih (fun d hd => hk d (mem_cons_of_mem _ hd)) g2 w;obtain ⟨i, rr, rfl⟩ := hk d mem_cons_self;simp only [RD] at g1;obtain ⟨a, xs, rfl, s1, r1⟩ := g1;cases k1;obtain ⟨its, w1, ⟨o1, e1, c1, n1, d1⟩, z1⟩ := I.tuple s1;obtain ⟨y1, u1, e2, g3, _⟩ := RDs.inv_cons (d := .int i) (ds := rr) r1;subst e2;simp only [RD] at g3;subst g3;cases w1 with
    | cons k2 w1 =>
     obtain ⟨tk, rfl⟩ := k2;refine ⟨.int i tk :: fs, KatTups.cons e1 c1 d1 (by simp) h1, by simp [h2], fun v hv => ?_⟩
     rcases mem_cons.mp hv with rfl | hv
     ·exact ⟨i, tk, rfl⟩
     ·exact h3 v hv
 obtain ⟨fs, h1, h2, h3⟩ := go hk r w;refine kat_kind (T := .type "int") h1 (by walk_at "o") (fun v hv => ?_) (by decide) ?_
 ·obtain ⟨i, t, rfl⟩ := h3 v hv;exact Looks.of_pure rfl
 ·rw [show (Value.type "int" != Value.type "tuple") = true by decide]
  exact q
end
open PySem PyProof.Rows
section
variable {prog : Program} {w : World} {A : Around} {E : Value -> Shared -> Prop} {s : Shared} {κ : SortKind} {R : Keyed -> Nat} {S : Keyed -> Prop}
noncomputable def Ans (prog : Program) (w : World) (A : Around) (s : Shared) (κ : SortKind) (R : Keyed -> Nat) (S : Keyed -> Prop) : Prop :=
 ∀ x y, S x -> S y -> wpAny (model prog w) A (keyLt' κ x.1 y.1) (fun b s' => s' = s /\ b = decide (R x < R y)) (fun _ _ => False) s
theorem t_lt {x y : Keyed} {st : SortSt} {Q : Option Bool -> SortSt -> Prop} (an : Ans prog w A s κ R S) (hk : kindOf st = κ) (hx : S x) (hy : S y)
  (h : Q (some (decide (R x < R y))) st) : wpS (model prog w) A E s (lt' x y) Q st := by
 rw [lt'_eq];refine wpS_bind (wpS_get ?_);rw [hk];refine wpS_bind (wpS_lift (wpAny_attempt (wpAny_mono (an x y hx hy) ?_ fun _ _ f => f.elim)))
 rintro b s' ⟨rfl, rfl⟩
 exact ⟨rfl, wpS_pure h⟩
theorem t_rule {α : Type} {r : String} {m : Unit -> StateT SortSt Sem α} {st : SortSt} {Q : α -> SortSt -> Prop} (h : wpS (model prog w) A E s (m ()) Q st) : wpS (model prog w) A E s (liftM (rule r) >>= m) Q st :=
 wpS_bind (wpS_lift (wpAny_rule ⟨rfl, h⟩))
theorem t_ite {α : Type} {c : Prop} [Decidable c] {m m' : StateT SortSt Sem α} {st : SortSt} {Q : α -> SortSt -> Prop} (h1 : c -> wpS (model prog w) A E s m Q st) (h2 : ¬ c -> wpS (model prog w) A E s m' Q st) : wpS (model prog w) A E s (if c then m else m') Q st := by
 split
 ·exact h1 ‹_›
 ·exact h2 ‹_›
noncomputable def Stp {β : Type} (Q J : β -> SortSt -> Prop) : ForInStep β -> SortSt -> Prop
 | .done c, st => Q c st
 | .yield c, st => J c st
theorem t_for {β τ : Type} {a b : Nat} {f : Nat -> β -> StateT SortSt Sem (ForInStep β)} (g : τ -> β) (I : Nat -> τ -> SortSt -> Prop) (Q : β -> SortSt -> Prop) {Q' : β -> SortSt -> Prop} {t : τ} {st : SortSt} (h : I a t st)
  (hs : ∀ i t st, i < b -> I i t st -> wpS (model prog w) A E s (f i (g t)) (Stp Q fun c st' => ∃ t', c = g t' /\ I (i + 1) t' st') st)
  (he : ∀ t st, I (max a b) t st -> Q (g t) st) (hq : ∀ c st', Q c st' -> Q' c st') : wpS (model prog w) A E s (forIn [a:b] (g t) f) Q' st := by
 refine wpS_mono (wpS_forRange (I := fun i c st => ∃ t, c = g t /\ I i t st) (Q := Q) ?_ ?_ ⟨t, rfl, h⟩) hq
 ·rintro i c st' _ hi ⟨t, rfl, z⟩
  refine wpS_mono (hs i t st' hi z) fun r st'' p => ?_;cases r with
  | done c => exact p
  | yield c => exact p
 ·rintro c st' ⟨t, rfl, z⟩
  exact he t st' z
theorem t_elem {xs : Array Keyed} {i : Nat} {x : Keyed} {st : SortSt} {Q : Keyed -> SortSt -> Prop} (hx : xs[i]? = some x) (h : Q x st) : wpS (model prog w) A E s (elem' xs i) Q st := by
 rw [elem'_eq, hx];exact wpS_pure h
noncomputable def gallop' : Bool -> Keyed -> Array Keyed -> Nat -> Nat -> Nat -> StateT SortSt Sem (Option Nat) := sortPriv% PySem.Builtin.gallop
noncomputable def far' (left : Bool) (key : Keyed) (xs : Array Keyed) (base i : Nat) : StateT SortSt Sem (Option Bool) := do
 let x <- elem' xs (base + i)
 if left then lt' x key else return (<- lt' key x).map (!·)
theorem gallop'_eq (left : Bool) (key : Keyed) (xs : Array Keyed) (base n hint : Nat) : gallop' left key xs base n hint = (do
 let mut last := 0
 let mut o := 1
 let mut l := 0
 let mut h := 0
 let some right <- far' left key xs base hint | return none
 if right then
  let m := n - hint
  for _ in [0:n] do
   if o >= m then break
   let some more <- far' left key xs base (hint + o) | return none
   if !more then break
   last := o
   o := 2 * o + 1
  l := hint + last + 1
  h := hint + min o m
 else
  let m := hint + 1
  for _ in [0:n] do
   if o >= m then break
   let some found <- far' left key xs base (hint - o) | return none
   if found then break
   last := o
   o := 2 * o + 1
  l := hint + 1 - min o m
  h := hint - last
 for _ in [0:n] do
  if l >= h then break
  let m := l + (h - l) / 2
  let some more <- far' left key xs base m | return none
  if more then l := m + 1 else h := m
 return some h) := rfl
noncomputable def Far (R : Keyed -> Nat) (left : Bool) (key x : Keyed) : Bool := if left then decide (R x < R key) else !decide (R key < R x)
theorem t_far {left : Bool} {key x : Keyed} {xs : Array Keyed} {base i : Nat} {st : SortSt} {Q : Option Bool -> SortSt -> Prop} (an : Ans prog w A s κ R S) (hk : kindOf st = κ) (hx : xs[base + i]? = some x) (sx : S x) (sk : S key)
  (h : Q (some (Far R left key x)) st) : wpS (model prog w) A E s (far' left key xs base i) Q st := by
 unfold far';refine wpS_bind (t_elem hx ?_);unfold Far at h;cases left with
 | true => exact t_lt an hk sx sk h
 | false => exact wpS_bind (t_lt an hk sk sx (wpS_pure h))
theorem mid_lt {l r : Nat} (h : l < r) : l <= l + (r - l) / 2 /\ l + (r - l) / 2 < r := by walk_at "o"
theorem st_up {l r m x n : Nat} (h : r + x <= l + n) (h1 : l <= m) : r + (x + 1) <= m + 1 + n := by walk_at "o"
theorem st_dn {l r m x n : Nat} (h : r + x <= l + n) (h1 : m < r) : m + (x + 1) <= l + n := by walk_at "o"
theorem dbl_lt {x o : Nat} (h : x < o) : o < 2 * o + 1 /\ x + 1 < 2 * o + 1 := by walk_at "o"
theorem gr_ok {b o k n : Nat} (h : b < o) (h1 : k + b < n) : k + b + 1 <= k + min o (n - k) /\ k + min o (n - k) <= n := by walk_at "o"
theorem gr_no {o k n i : Nat} (h1 : k + min o (n - k) <= i) (h2 : i < n) : ¬ n - k <= o /\ k + o <= i := by walk_at "o"
theorem gl_ok {b o k : Nat} (h : b < o) (h1 : b <= k) : k + 1 - min o (k + 1) <= k - b := by walk_at "o"
theorem gl_no {o k i : Nat} (h1 : i < k + 1 - min o (k + 1)) : ¬ k + 1 <= o /\ i <= k - o := by walk_at "o"
theorem t_gallop {left : Bool} {key : Keyed} {xs : Array Keyed} {base n hint : Nat} {st : SortSt} {Q : Option Nat -> SortSt -> Prop} {pr : Nat -> Bool}
  (hint_lt : hint < n) (mo : ∀ i j, i <= j -> j < n -> pr j = true -> pr i = true)
  (q : ∀ (i : Nat) (Q' : Option Bool -> SortSt -> Prop), i < n -> Q' (some (pr i)) st -> wpS (model prog w) A E s (far' left key xs base i) Q' st)
  (h : ∀ k, k <= n -> (∀ i, i < k -> pr i = true) -> (∀ i, k <= i -> i < n -> pr i = false) -> Q (some k) st) : wpS (model prog w) A E s (gallop' left key xs base n hint) Q st := by
 have no : ∀ i j, i <= j -> j < n -> pr i = false -> pr j = false := fun i j hij hj e => by
  cases hp : pr j with
  | false => rfl
  | true => rw [mo i j hij hj hp] at e; exact e
 have fin : ∀ l h0, l <= h0 -> h0 <= n -> (∀ i, i < l -> pr i = true) -> (∀ i, h0 <= i -> i < n -> pr i = false) -> wpS (model prog w) A E s (do
   let mut l := l
   let mut h := h0
   for _ in [0:n] do
    if l >= h then break
    let m := l + (h - l) / 2
    let some more <- far' left key xs base m | return none
    if more then l := m + 1 else h := m
   return some h) Q st := by
  intro l h0 hl hh hlo hhi;refine wpS_bind (t_for (fun p : Nat × Nat => ((none, p.1, p.2) : Option (Option Nat) × Nat × Nat)) (fun x p st' => st' = st /\ p.1 <= p.2 /\ p.2 <= n /\ p.2 + x <= p.1 + n /\ (∀ i, i < p.1 -> pr i = true) /\ ∀ i, p.2 <= i -> i < n -> pr i = false)
   (fun c st' => st' = st /\ ∃ k, c = (none, k, k) /\ k <= n /\ (∀ i, i < k -> pr i = true) /\ ∀ i, k <= i -> i < n -> pr i = false) (t := (l, h0)) ⟨rfl, hl, hh, le_trans hh (Nat.le_add_left n l), hlo, hhi⟩ ?_ ?_ ?_)
  ·rintro x ⟨l, r⟩ st' _ ⟨rfl, a1, a2, a3, a4, a5⟩
   refine t_ite (fun g => ?_) fun g => ?_
   ·have e : l = r := le_antisymm a1 g;subst e;exact wpS_pure ⟨rfl, l, rfl, a2, a4, a5⟩
   obtain ⟨m1, m2⟩ := mid_lt (lt_of_not_ge g);have m3 := lt_of_lt_of_le m2 a2;refine wpS_bind (q _ _ m3 ?_);cases hp : pr (l + (r - l) / 2) with
   | true => exact wpS_pure ⟨(_, _), rfl, rfl, m2, a2, st_up a3 m1, fun i hi => mo _ _ (le_of_lt_succ hi) m3 hp, a5⟩
   | false => exact wpS_pure ⟨(_, _), rfl, rfl, m1, le_of_lt m3, st_dn a3 m2, a4, fun i h1 h2 => no _ _ h1 h2 hp⟩
  ·rintro ⟨l, r⟩ st' ⟨rfl, a1, a2, a3, a4, a5⟩
   rw [Nat.zero_max] at a3;have e := le_antisymm a1 (Nat.le_of_add_le_add_right a3);dsimp only at e a2 a4 a5 ⊢;subst e;exact ⟨rfl, l, rfl, a2, a4, a5⟩
  ·rintro c st' ⟨rfl, k, rfl, a2, a4, a5⟩
   exact wpS_pure (h _ a2 a4 a5)
 rw [gallop'_eq];refine wpS_bind (q _ _ hint_lt ?_);cases hp : pr hint with
 | true =>
  refine wpS_bind (t_for (fun p : Nat × Nat => ((none, p.1, p.2) : Option (Option Nat) × Nat × Nat)) (fun x p st' => st' = st /\ p.1 < p.2 /\ x < p.2 /\ hint + p.1 < n /\ pr (hint + p.1) = true)
   (fun c st' => st' = st /\ ∃ b o, c = (none, b, o) /\ b < o /\ hint + b < n /\ pr (hint + b) = true /\ (n - hint <= o \/ pr (hint + o) = false)) (t := (0, 1)) ⟨rfl, Nat.zero_lt_one, Nat.zero_lt_one, hint_lt, hp⟩ ?_ ?_ ?_)
  ·rintro x ⟨b, o⟩ st' _ ⟨rfl, a1, a2, a3, a4⟩
   refine t_ite (fun g => wpS_pure ⟨rfl, b, o, rfl, a1, a3, a4, .inl g⟩) fun g => ?_;have lt := Nat.add_lt_of_lt_sub' (lt_of_not_ge g);refine wpS_bind (q _ _ lt ?_);cases hq : pr (hint + o) with
   | true => exact wpS_pure ⟨(_, _), rfl, rfl, (dbl_lt a2).1, (dbl_lt a2).2, lt, hq⟩
   | false => exact wpS_pure ⟨rfl, b, o, rfl, a1, a3, a4, .inr hq⟩
  ·rintro ⟨b, o⟩ st' ⟨rfl, a1, a2, a3, a4⟩
   rw [Nat.zero_max] at a2;exact ⟨rfl, b, o, rfl, a1, a3, a4, .inl (le_trans (sub_le _ _) (le_of_lt a2))⟩
  ·rintro c st' ⟨rfl, b, o, rfl, a1, a3, a4, a5⟩
   refine fin (hint + b + 1) (hint + min o (n - hint)) (gr_ok a1 a3).1 (gr_ok a1 a3).2 (fun i hi => mo _ _ (le_of_lt_succ hi) a3 a4) fun i h1 h2 => ?_;obtain ⟨g1, g2⟩ := gr_no h1 h2;exact no _ _ g2 h2 (a5.resolve_left g1)
 | false =>
  refine wpS_bind (t_for (fun p : Nat × Nat => ((none, p.1, p.2) : Option (Option Nat) × Nat × Nat)) (fun x p st' => st' = st /\ p.1 < p.2 /\ x < p.2 /\ p.1 <= hint /\ pr (hint - p.1) = false)
   (fun c st' => st' = st /\ ∃ b o, c = (none, b, o) /\ b < o /\ b <= hint /\ pr (hint - b) = false /\ (hint + 1 <= o \/ pr (hint - o) = true)) (t := (0, 1)) ⟨rfl, Nat.zero_lt_one, Nat.zero_lt_one, zero_le _, hp⟩ ?_ ?_ ?_)
  ·rintro x ⟨b, o⟩ st' _ ⟨rfl, a1, a2, a3, a4⟩
   refine t_ite (fun g => wpS_pure ⟨rfl, b, o, rfl, a1, a3, a4, .inl g⟩) fun g => ?_;refine wpS_bind (q _ _ (lt_of_le_of_lt (sub_le _ _) hint_lt) ?_);cases hq : pr (hint - o) with
   | false => exact wpS_pure ⟨(_, _), rfl, rfl, (dbl_lt a2).1, (dbl_lt a2).2, le_of_lt_succ (lt_of_not_ge g), hq⟩
   | true => exact wpS_pure ⟨rfl, b, o, rfl, a1, a3, a4, .inr hq⟩
  ·rintro ⟨b, o⟩ st' ⟨rfl, a1, a2, a3, a4⟩
   rw [Nat.zero_max] at a2;exact ⟨rfl, b, o, rfl, a1, a3, a4, .inl (le_trans hint_lt (le_of_lt a2))⟩
  ·rintro c st' ⟨rfl, b, o, rfl, a1, a3, a4, a5⟩
   refine fin (hint + 1 - min o (hint + 1)) (hint - b) (gl_ok a1 a3) (le_of_lt (lt_of_le_of_lt (sub_le _ _) hint_lt)) (fun i hi => ?_) fun i h1 h2 => no _ _ h1 h2 a4;obtain ⟨g1, g2⟩ := gl_no hi;exact mo _ _ g2 (lt_of_le_of_lt (sub_le _ _) hint_lt) (a5.resolve_left g1)
end
section
variable {R : Keyed -> Nat} {T o a b a1 a2 b1 b2 : List Keyed}
noncomputable def Up (R : Keyed -> Nat) (l : List Keyed) : Prop := l.Pairwise fun x y => R x <= R y
structure Mg (R : Keyed -> Nat) (T o a b : List Keyed) : Prop where
 oa : Up R (o ++ a)
 ob : Up R (o ++ b)
 pm : (o ++ (a ++ b)).Perm T
theorem Mg.ta (h : Mg R T o (a1 ++ a2) b) (hx : ∀ x ∈ a1, ∀ y ∈ b, R x <= R y) : Mg R T (o ++ a1) a2 b := by
 obtain ⟨h1, h2, h3⟩ := h;have e := pairwise_append.mp h2;have e1 : Up R (o ++ a1 ++ a2) := by rw [append_assoc]; exact h1
 refine ⟨e1, ?_, ?_⟩
 ·refine pairwise_append.mpr ⟨(pairwise_append.mp e1).1, e.2.1, fun x hx1 y hy => ?_⟩;rcases mem_append.mp hx1 with g | g
  ·exact e.2.2 x g y hy
  ·exact hx x g y hy
 ·rw [append_assoc, <- append_assoc a1]; exact h3
theorem Mg.tb (h : Mg R T o a (b1 ++ b2)) (hx : ∀ x ∈ b1, ∀ y ∈ a, R x <= R y) : Mg R T (o ++ b1) a b2 := by
 obtain ⟨h1, h2, h3⟩ := h;have e := pairwise_append.mp h1;have e1 : Up R (o ++ b1 ++ b2) := by rw [append_assoc]; exact h2
 refine ⟨?_, e1, ?_⟩
 ·refine pairwise_append.mpr ⟨(pairwise_append.mp e1).1, e.2.1, fun x hx1 y hy => ?_⟩;rcases mem_append.mp hx1 with g | g
  ·exact e.2.2 x g y hy
  ·exact hx x g y hy
 ·refine List.Perm.trans ?_ h3;rw [append_assoc];refine List.Perm.append_left o ?_;simp only [<- append_assoc];exact List.Perm.append_right b2 List.perm_append_comm
theorem Mg.fin (h : Mg R T o a []) : Up R (o ++ a) /\ (o ++ a).Perm T := ⟨h.oa, by have := h.pm; rwa [append_nil] at this⟩
theorem Mg.last (h : Mg R T o a b) (hx : ∀ x ∈ b, ∀ y ∈ a, R x <= R y) : Up R (o ++ b ++ a) /\ (o ++ b ++ a).Perm T := by
 have h' : Mg R T o a (b ++ []) := by rw [append_nil]; exact h
 exact (h'.tb hx).fin
structure Mh (R : Keyed -> Nat) (T o a b : List Keyed) : Prop where
 oa : Up R (a ++ o)
 ob : Up R (b ++ o)
 pm : (a ++ b ++ o).Perm T
theorem Mh.ta (h : Mh R T o (a1 ++ a2) b) (hx : ∀ x ∈ a2, ∀ y ∈ b, R y <= R x) : Mh R T (a2 ++ o) a1 b := by
 obtain ⟨h1, h2, h3⟩ := h;have e := pairwise_append.mp h2;have e1 : Up R (a1 ++ (a2 ++ o)) := by rw [<- append_assoc]; exact h1
 refine ⟨e1, ?_, ?_⟩
 ·refine pairwise_append.mpr ⟨e.1, (pairwise_append.mp e1).2.1, fun x hx1 y hy => ?_⟩;rcases mem_append.mp hy with g | g
  ·exact hx y g x hx1
  ·exact e.2.2 x hx1 y g
 ·refine List.Perm.trans ?_ h3;rw [<- append_assoc];refine List.Perm.append_right o ?_;rw [append_assoc, append_assoc];exact List.Perm.append_left a1 List.perm_append_comm
theorem Mh.tb (h : Mh R T o a (b1 ++ b2)) (hx : ∀ x ∈ b2, ∀ y ∈ a, R y <= R x) : Mh R T (b2 ++ o) a b1 := by
 obtain ⟨h1, h2, h3⟩ := h;have e := pairwise_append.mp h1;have e1 : Up R (b1 ++ (b2 ++ o)) := by rw [<- append_assoc]; exact h2
 refine ⟨?_, e1, ?_⟩
 ·refine pairwise_append.mpr ⟨e.1, (pairwise_append.mp e1).2.1, fun x hx1 y hy => ?_⟩;rcases mem_append.mp hy with g | g
  ·exact hx y g x hx1
  ·exact e.2.2 x hx1 y g
 ·refine List.Perm.trans ?_ h3;simp only [append_assoc];exact List.Perm.refl _
theorem Mh.fin (h : Mh R T o [] b) : Up R (b ++ o) /\ (b ++ o).Perm T := ⟨h.ob, by have := h.pm; rwa [nil_append] at this⟩
theorem Mh.last (h : Mh R T o a b) (hx : ∀ x ∈ a, ∀ y ∈ b, R y <= R x) : Up R (b ++ (a ++ o)) /\ (b ++ (a ++ o)).Perm T := by
 have h' : Mh R T o ([] ++ a) b := by rw [nil_append]; exact h
 exact (h'.ta hx).fin
end
section
variable {xs : Array Keyed} {i j k n : Nat} {x : Keyed} {R : Keyed -> Nat}
noncomputable def atK (xs : Array Keyed) (i : Nat) : Keyed := xs.getD i (Value.none, Value.none)
theorem atK_get (h : i < xs.size) : xs[i]? = some (atK xs i) := by simp [atK, Array.getD, h]
theorem atK_mem (h : i < xs.size) : atK xs i ∈ xs.toList := by
 have := atK_get h;exact Array.mem_toList_iff.mpr (Array.mem_of_getElem? this)
theorem atK_list (h : i < xs.size) : xs.toList[i]'(by simpa using h) = atK xs i := by simp [atK, Array.getD, h]
theorem dropK (h : i < xs.size) : xs.toList.drop i = atK xs i :: xs.toList.drop (i + 1) := by
 rw [drop_eq_getElem_cons (by simpa using h), atK_list h]
theorem mem_drop (h : x ∈ xs.toList.drop i) : ∃ j, i <= j /\ j < xs.size /\ x = atK xs j := by
 obtain ⟨n, hn, e⟩ := mem_iff_getElem.mp h;rw [getElem_drop] at e;have hn' : i + n < xs.size := by rw [length_drop] at hn; simp at hn; walk_at "oo"
 exact ⟨i + n, by walk_at "o", hn', by rw [<- e, <- atK_list hn']⟩
theorem mem_cut (h : x ∈ (xs.toList.drop i).take k) : ∃ j, i <= j /\ j < i + k /\ j < xs.size /\ x = atK xs j := by
 obtain ⟨n, hn, e⟩ := mem_iff_getElem.mp h;rw [getElem_take, getElem_drop] at e;have hn' : i + n < xs.size /\ n < k := by rw [length_take, length_drop] at hn; simp at hn; walk_at "oo"
 exact ⟨i + n, by walk_at "o", by walk_at "o", hn'.1, by rw [<- e, <- atK_list hn'.1]⟩
theorem cutK : xs.toList.drop i = (xs.toList.drop i).take k ++ xs.toList.drop (i + k) := by
 rw [<- List.drop_drop, take_append_drop]
theorem extK : (xs.extract i (i + k)).toList = (xs.toList.drop i).take k := by
 rw [Array.toList_extract, List.extract_eq_take_drop, Nat.add_sub_cancel_left]
theorem extE : (xs.extract i xs.size).toList = xs.toList.drop i := by
 rw [Array.toList_extract, List.extract_eq_take_drop];exact List.take_of_length_le (by rw [length_drop]; simp)
theorem Up.at (h : Up R xs.toList) (hij : i <= j) (hj : j < xs.size) : R (atK xs i) <= R (atK xs j) := by
 rcases lt_or_ge i j with g | g
 ·have := pairwise_iff_getElem.mp h i j (by simp; walk_at "oo") (by simpa using hj) g
  rwa [atK_list (by walk_at "o"), atK_list hj] at this
 ·have : i = j := by walk_at "o"
  subst this;exact le_refl _
end
section
variable {prog : Program} {w : World} {A : Around} {E : Value -> Shared -> Prop} {s : Shared} {κ : SortKind} {R : Keyed -> Nat} {S : Keyed -> Prop}
noncomputable def setGal (st : SortSt) (g : Nat) : SortSt := SortSt.mk' (kindOf st) (arrOf st) (pendingOf st) g (failedOf st)
noncomputable def mergeLo' : Array Keyed -> Array Keyed -> StateT SortSt Sem (Array Keyed) := sortPriv% PySem.Builtin.mergeLo
noncomputable def mgEnd (a b out : Array Keyed) (i j : Nat) : Array Keyed := out ++ a.extract i a.size ++ b.extract j b.size
noncomputable def mgLast (a b out : Array Keyed) (i j : Nat) : Array Keyed := out ++ b.extract j b.size ++ a.extract i a.size
theorem mergeLo'_eq (a b : Array Keyed) : mergeLo' a b = (do
 rule "list.sort.merge-lo"
 let all := a.size + b.size
 let mut out : Array Keyed := #[<- elem' b 0]
 let mut i := 0
 let mut j := 1
 if j == b.size then return mgEnd a b out i j
 if i + 1 == a.size then return mgLast a b out i j
 let mut g := gallopOf (<- get)
 for _ in [0:all] do
  let mut ca := 0
  let mut cb := 0
  for _ in [0:all] do
   let some wins <- lt' (<- elem' b j) (<- elem' a i) | return mgEnd a b out i j
   if wins then
    out := out.push (<- elem' b j); j := j + 1; cb := cb + 1; ca := 0
    if j == b.size then return mgEnd a b out i j
    if cb >= g then break
   else
    out := out.push (<- elem' a i); i := i + 1; ca := ca + 1; cb := 0
    if i + 1 == a.size then return mgLast a b out i j
    if ca >= g then break
  rule "list.sort.gallop"
  g := g + 1
  for _ in [0:all] do
   if g > 1 then g := g - 1
   modify (fun st => setGal st g)
   let some k <- gallop' false (<- elem' b j) a i (a.size - i) 0 | return mgEnd a b out i j
   ca := k
   if k > 0 then
    out := out ++ a.extract i (i + k); i := i + k
    if i + 1 == a.size then return mgLast a b out i j
    if i == a.size then return mgEnd a b out i j
   out := out.push (<- elem' b j); j := j + 1
   if j == b.size then return mgEnd a b out i j
   let some k <- gallop' true (<- elem' a i) b j (b.size - j) 0 | return mgEnd a b out i j
   cb := k
   if k > 0 then
    out := out ++ b.extract j (j + k); j := j + k
    if j == b.size then return mgEnd a b out i j
   out := out.push (<- elem' a i); i := i + 1
   if i + 1 == a.size then return mgLast a b out i j
   if ca < 7 && cb < 7 then break
  g := g + 1
  modify (fun st => setGal st g)
 unsupported "internal:list.sort.merge-bound") := rfl
theorem far_t {key x : Keyed} : (Far R true key x = true ↔ R x < R key) /\ (Far R true key x = false ↔ R key <= R x) := by simp [Far]
theorem far_f {key x : Keyed} : (Far R false key x = true ↔ R x <= R key) /\ (Far R false key x = false ↔ R key < R x) := by simp [Far]
theorem t_gal {left : Bool} {key : Keyed} {xs : Array Keyed} {base n hint : Nat} {st : SortSt} {Q : Option Nat -> SortSt -> Prop} (an : Ans prog w A s κ R S) (hk : kindOf st = κ)
  (sx : ∀ i, base <= i -> i < base + n -> S (atK xs i)) (sk : S key) (hz : base + n <= xs.size) (hh : hint < n) (up : ∀ i j, base <= i -> i <= j -> j < base + n -> R (atK xs i) <= R (atK xs j))
  (h : ∀ k, k <= n -> (∀ i, base <= i -> i < base + k -> Far R left key (atK xs i) = true) -> (∀ i, base + k <= i -> i < base + n -> Far R left key (atK xs i) = false) -> Q (some k) st) :
  wpS (model prog w) A E s (gallop' left key xs base n hint) Q st := by
 have lt : ∀ {i}, i < n -> base + i < base + n := fun h => add_lt_add_left h base;refine t_gallop (pr := fun i => Far R left key (atK xs (base + i))) hh (fun i j hij hj e => ?_) (fun i Q' hi c => t_far an hk (atK_get (lt_of_lt_of_le (lt hi) hz)) (sx _ (le_add_right _ _) (lt hi)) sk c) fun k hk1 c1 c2 => ?_
 ·have u := up (base + i) (base + j) (le_add_right _ _) (add_le_add_left hij base) (lt hj);cases left with
  | true => exact far_t.1.mpr (lt_of_le_of_lt u (far_t.1.mp e))
  | false => exact far_f.1.mpr (le_trans u (far_f.1.mp e))
 ·refine h k hk1 (fun i h1 h2 => ?_) fun i h1 h2 => ?_
  ·obtain ⟨d, rfl⟩ := Nat.exists_eq_add_of_le h1;exact c1 d (Nat.lt_of_add_lt_add_left h2)
  ·obtain ⟨d, rfl⟩ := Nat.exists_eq_add_of_le (le_trans (le_add_right base k) h1);exact c2 d (Nat.le_of_add_le_add_left h1) (Nat.lt_of_add_lt_add_left h2)
structure Lo (prog : Program) (w : World) (A : Around) (s : Shared) (κ : SortKind) (R : Keyed -> Nat) (S : Keyed -> Prop) (a b : Array Keyed) : Prop where
 an : Ans prog w A s κ R S
 sa : ∀ x ∈ a.toList, S x
 sb : ∀ x ∈ b.toList, S x
 ua : Up R a.toList
 ub : Up R b.toList
 hd : ∀ x ∈ a.toList, R (atK b 0) < R x
 ls : ∀ y ∈ b.toList, R y < R (atK a (a.size - 1))
noncomputable def Gal (κ : SortKind) (st st' : SortSt) : Prop := kindOf st' = κ /\ arrOf st' = arrOf st /\ pendingOf st' = pendingOf st /\ failedOf st' = failedOf st
structure Jo (κ : SortKind) (R : Keyed -> Nat) (a b : Array Keyed) (st : SortSt) (out : Array Keyed) (i j m : Nat) (st' : SortSt) : Prop where
 g : Gal κ st st'
 hi : i + 1 < a.size
 hj : j < b.size
 hm : m <= i + j
 mg : Mg R (a.toList ++ b.toList) out.toList (a.toList.drop i) (b.toList.drop j)
noncomputable def Dn (κ : SortKind) (R : Keyed -> Nat) (a b : Array Keyed) (st : SortSt) (out : Array Keyed) (st' : SortSt) : Prop := Gal κ st st' /\ Up R out.toList /\ out.toList.Perm (a.toList ++ b.toList)
theorem mgEnd_ok {a b out : Array Keyed} {i j : Nat} {st st' : SortSt} (g : Gal κ st st') (hj : j = b.size) (mg : Mg R (a.toList ++ b.toList) out.toList (a.toList.drop i) (b.toList.drop j)) : Dn κ R a b st (mgEnd a b out i j) st' := by
 subst hj;have dz : b.toList.drop b.size = [] := List.drop_eq_nil_of_le (le_of_eq (by simp))
 rw [dz] at mg;have e : (mgEnd a b out i b.size).toList = out.toList ++ a.toList.drop i := by
  unfold mgEnd;rw [Array.toList_append, Array.toList_append, extE, extE, dz, append_nil]
 unfold Dn;rw [e];exact ⟨g, mg.fin⟩
theorem mgLast_ok {a b out : Array Keyed} {i j : Nat} {st st' : SortSt} (L : Lo prog w A s κ R S a b) (g : Gal κ st st') (hi : i + 1 = a.size) (mg : Mg R (a.toList ++ b.toList) out.toList (a.toList.drop i) (b.toList.drop j)) : Dn κ R a b st (mgLast a b out i j) st' := by
 have e : (mgLast a b out i j).toList = out.toList ++ b.toList.drop j ++ a.toList.drop i := by
  unfold mgLast;rw [Array.toList_append, Array.toList_append, extE, extE]
 unfold Dn;rw [e];refine ⟨g, mg.last fun x hx y hy => ?_⟩;obtain ⟨k, h1, h2, rfl⟩ := mem_drop hy;rw [show k = a.size - 1 by walk_at "o"]
 exact le_of_lt (L.ls x (List.mem_of_mem_drop hx))
abbrev LS := Option (Array Keyed) × Array Keyed × Nat × Nat × Nat × Nat × Nat
noncomputable def PX {τ : Type} (D : Array Keyed -> SortSt -> Prop) (J : τ -> SortSt -> Prop) : ForInStep (Option (Array Keyed) × τ) -> SortSt -> Prop
 | .done (some z, _), st => D z st
 | .done (none, c), st => J c st
 | .yield (none, c), st => J c st
 | .yield (some _, _), _ => False
theorem PX.y {τ : Type} {D : Array Keyed -> SortSt -> Prop} {J : τ -> SortSt -> Prop} {c : Option (Array Keyed) × τ} {st : SortSt} (p : PX D J (.yield c) st) : ∃ t, c = (none, t) /\ J t st := by
 obtain ⟨z, t⟩ := c;cases z with
 | some z => exact p.elim
 | none => exact ⟨t, rfl, p⟩
theorem PX.dn {τ : Type} {D : Array Keyed -> SortSt -> Prop} {J : τ -> SortSt -> Prop} {c : Option (Array Keyed) × τ} {st : SortSt} (p : PX D J (.done c) st) : (∃ z t, c = (some z, t) /\ D z st) \/ ∃ t, c = (none, t) /\ J t st := by
 obtain ⟨z, t⟩ := c;cases z with
 | some z => exact .inl ⟨z, t, rfl, p⟩
 | none => exact .inr ⟨t, rfl, p⟩
abbrev Po (κ : SortKind) (R : Keyed -> Nat) (a b : Array Keyed) (st : SortSt) (m : Nat) : ForInStep LS -> SortSt -> Prop := PX (Dn κ R a b st) fun c => Jo κ R a b st c.1 c.2.1 c.2.2.1 m
noncomputable def lo3 (a b out : Array Keyed) (i j g ca cb : Nat) : StateT SortSt Sem (ForInStep LS) := do
 let x <- elem' a i
 if (i + 1 + 1 == a.size) = true then pure (.done (some (mgLast a b (out.push x) (i + 1) j), out.push x, i + 1, j, g, ca, cb))
 else if (ca < 7 && cb < 7) = true then pure (.done (none, out.push x, i + 1, j, g, ca, cb)) else pure (.yield (none, out.push x, i + 1, j, g, ca, cb))
theorem lo3_ok {a b out : Array Keyed} {i j g ca cb m : Nat} {st st' : SortSt} (L : Lo prog w A s κ R S a b) (J : Jo κ R a b st out i j m st') (hx : ∀ y ∈ b.toList.drop j, R (atK a i) <= R y) :
  wpS (model prog w) A E s (lo3 a b out i j g ca cb) (Po κ R a b st m) st' := by
 obtain ⟨h1, h2, h3, h4, mg⟩ := J;have hi := lt_of_succ_lt h2;rw [dropK hi] at mg;have mg' : Mg R (a.toList ++ b.toList) (out.push (atK a i)).toList (a.toList.drop (i + 1)) (b.toList.drop j) := by
  rw [Array.toList_push];exact Mg.ta (a1 := [atK a i]) mg fun x hx' y hy => by rw [mem_singleton.mp hx']; exact hx y hy
 unfold lo3;refine wpS_bind (t_elem (atK_get hi) (t_ite (fun e => wpS_pure (mgLast_ok L h1 (eq_of_beq e) mg')) fun e => ?_));have J' : Jo κ R a b st (out.push (atK a i)) (i + 1) j m st' := ⟨h1, lt_of_le_of_ne h2 fun z => e (beq_iff_eq.mpr z), h3, le_trans h4 (Nat.add_le_add_right (le_succ i) j), mg'⟩;exact t_ite (fun _ => wpS_pure J') fun _ => wpS_pure J'
noncomputable def lo2 (a b out : Array Keyed) (i j g ca cb : Nat) : StateT SortSt Sem (ForInStep LS) := do
 let y <- elem' b j
 if (j + 1 == b.size) = true then pure (.done (some (mgEnd a b (out.push y) i (j + 1)), out.push y, i, j + 1, g, ca, cb))
 else
  let x <- elem' a i
  let r <- gallop' true x b (j + 1) (b.size - (j + 1)) 0
  match r with
  | some k => if k > 0 then (if (j + 1 + k == b.size) = true then pure (.done (some (mgEnd a b (out.push y ++ b.extract (j + 1) (j + 1 + k)) i (j + 1 + k)), out.push y ++ b.extract (j + 1) (j + 1 + k), i, j + 1 + k, g, ca, k))
    else lo3 a b (out.push y ++ b.extract (j + 1) (j + 1 + k)) i (j + 1 + k) g ca k) else lo3 a b (out.push y) i (j + 1) g ca k
  | _ => pure (.done (some (mgEnd a b (out.push y) i (j + 1)), out.push y, i, j + 1, g, ca, cb))
theorem lo2_ok {a b out : Array Keyed} {i j g ca cb m : Nat} {st st' : SortSt} (L : Lo prog w A s κ R S a b) (J : Jo κ R a b st out i j m st') (hx : ∀ x ∈ a.toList.drop i, R (atK b j) <= R x) :
  wpS (model prog w) A E s (lo2 a b out i j g ca cb) (Po κ R a b st m) st' := by
 obtain ⟨h1, h2, h3, h4, mg⟩ := J;have hi := lt_of_succ_lt h2;rw [dropK h3] at mg;have mg' : Mg R (a.toList ++ b.toList) (out.push (atK b j)).toList (a.toList.drop i) (b.toList.drop (j + 1)) := by
  rw [Array.toList_push];exact Mg.tb (b1 := [atK b j]) mg fun x hx' y hy => by rw [mem_singleton.mp hx']; exact hx y hy
 have hz : j + 1 + (b.size - (j + 1)) = b.size := Nat.add_sub_cancel' h3;unfold lo2;refine wpS_bind (t_elem (atK_get h3) (t_ite (fun e => wpS_pure (mgEnd_ok h1 (eq_of_beq e) mg')) fun e => ?_));have e' : j + 1 < b.size := lt_of_le_of_ne h3 fun z => e (beq_iff_eq.mpr z);refine wpS_bind (t_elem (atK_get hi) (wpS_bind (t_gal L.an h1.1 (fun n z1 z2 => L.sb _ (atK_mem (hz ▸ z2))) (L.sa _ (atK_mem hi)) (le_of_eq hz) (Nat.sub_pos_of_lt e') (fun n n' z1 z2 z3 => L.ub.at z2 (hz ▸ z3)) fun k hk c1 c2 => ?_)));have rest : ∀ y ∈ b.toList.drop (j + 1 + k), R (atK a i) <= R y := fun y hy => by
  obtain ⟨n, z1, z2, rfl⟩ := mem_drop hy;exact far_t.2.mp (c2 n z1 (hz.symm ▸ z2))
 have m1 : m <= i + (j + 1) := le_succ_of_le h4;refine t_ite (fun _ => ?_) fun hk0 => ?_
 ·have mg2 : Mg R (a.toList ++ b.toList) (out.push (atK b j) ++ b.extract (j + 1) (j + 1 + k)).toList (a.toList.drop i) (b.toList.drop (j + 1 + k)) := by
   rw [Array.toList_append, extK];rw [cutK (i := j + 1) (k := k)] at mg';refine mg'.tb fun x hx' y hy => ?_;obtain ⟨n, z1, z2, z3, rfl⟩ := mem_cut hx';obtain ⟨n', y1, y2, rfl⟩ := mem_drop hy;exact le_trans (le_of_lt (far_t.1.mp (c1 n z1 z2))) (L.ua.at y1 y2)
  exact t_ite (fun e2 => wpS_pure (mgEnd_ok h1 (eq_of_beq e2) mg2)) fun e2 =>
   lo3_ok L ⟨h1, h2, lt_of_le_of_ne (le_trans (add_le_add_left hk _) (le_of_eq hz)) fun z => e2 (beq_iff_eq.mpr z), le_trans m1 (add_le_add_left (le_add_right _ k) i), mg2⟩ rest
 ·have k0 : k = 0 := le_zero.mp (le_of_not_lt hk0);subst k0;exact lo3_ok L ⟨h1, h2, e', m1, mg'⟩ rest
noncomputable def lo1 (a b out : Array Keyed) (i j g ca cb : Nat) : StateT SortSt Sem (ForInStep LS) := do
 let y <- elem' b j
 let r <- gallop' false y a i (a.size - i) 0
 match r with
 | some k => if k > 0 then (if (i + k + 1 == a.size) = true then pure (.done (some (mgLast a b (out ++ a.extract i (i + k)) (i + k) j), out ++ a.extract i (i + k), i + k, j, g, k, cb))
    else if (i + k == a.size) = true then pure (.done (some (mgEnd a b (out ++ a.extract i (i + k)) (i + k) j), out ++ a.extract i (i + k), i + k, j, g, k, cb))
    else lo2 a b (out ++ a.extract i (i + k)) (i + k) j g k cb) else lo2 a b out i j g k cb
 | _ => pure (.done (some (mgEnd a b out i j), out, i, j, g, ca, cb))
theorem lo1_ok {a b out : Array Keyed} {i j g ca cb m : Nat} {st st' : SortSt} (L : Lo prog w A s κ R S a b) (J : Jo κ R a b st out i j m st') :
  wpS (model prog w) A E s (lo1 a b out i j g ca cb) (Po κ R a b st m) st' := by
 obtain ⟨h1, h2, h3, h4, mg⟩ := J;have hi := lt_of_succ_lt h2;have hz : i + (a.size - i) = a.size := Nat.add_sub_cancel' (le_of_lt hi);unfold lo1;refine wpS_bind (t_elem (atK_get h3) (wpS_bind (t_gal L.an h1.1 (fun n z1 z2 => L.sa _ (atK_mem (hz ▸ z2))) (L.sb _ (atK_mem h3)) (le_of_eq hz) (Nat.sub_pos_of_lt hi) (fun n n' z1 z2 z3 => L.ua.at z2 (hz ▸ z3)) fun k hk c1 c2 => ?_)));have rest : ∀ x ∈ a.toList.drop (i + k), R (atK b j) <= R x := fun y hy => by
  obtain ⟨n, z1, z2, rfl⟩ := mem_drop hy;exact le_of_lt (far_f.2.mp (c2 n z1 (hz.symm ▸ z2)))
 have lt : i + k < a.size := by
  rcases lt_or_ge (i + k) a.size with g | g
  ·exact g
  ·have z0 : a.size - 1 < a.size := sub_lt (lt_of_le_of_lt (zero_le i) hi) one_pos;exact absurd (far_f.1.mp (c1 _ (le_pred_of_lt hi) (lt_of_lt_of_le z0 g))) (Nat.not_le_of_lt (L.ls _ (atK_mem h3)))
 refine t_ite (fun _ => ?_) fun hk0 => ?_
 ·have mg2 : Mg R (a.toList ++ b.toList) (out ++ a.extract i (i + k)).toList (a.toList.drop (i + k)) (b.toList.drop j) := by
   rw [Array.toList_append, extK];rw [cutK (i := i) (k := k)] at mg;refine mg.ta fun x hx' y hy => ?_;obtain ⟨n, z1, z2, z3, rfl⟩ := mem_cut hx';obtain ⟨n', y1, y2, rfl⟩ := mem_drop hy;exact le_trans (far_f.1.mp (c1 n z1 z2)) (L.ub.at y1 y2)
  exact t_ite (fun e2 => wpS_pure (mgLast_ok L h1 (eq_of_beq e2) mg2)) fun e2 => t_ite (fun e3 => absurd (eq_of_beq e3) (ne_of_lt lt)) fun _ =>
   lo2_ok L ⟨h1, lt_of_le_of_ne lt fun z => e2 (beq_iff_eq.mpr z), h3, le_trans h4 (Nat.add_le_add_right (le_add_right i k) j), mg2⟩ rest
 ·have k0 : k = 0 := le_zero.mp (le_of_not_lt hk0);subst k0;exact lo2_ok L ⟨h1, h2, h3, h4, mg⟩ rest
abbrev AS := Option (Array Keyed) × Array Keyed × Nat × Nat × Nat × Nat
noncomputable def loA (a b : Array Keyed) (g : Nat) (out : Array Keyed) (i j ca cb : Nat) : StateT SortSt Sem (ForInStep AS) := do
 let y <- elem' b j
 let x <- elem' a i
 match <- lt' y x with
 | some wins =>
  if wins = true then do
   let y <- elem' b j
   if (j + 1 == b.size) = true then pure (.done (some (mgEnd a b (out.push y) i (j + 1)), out.push y, i, j + 1, 0, cb + 1))
   else if cb + 1 >= g then pure (.done (none, out.push y, i, j + 1, 0, cb + 1))
   else pure (.yield (none, out.push y, i, j + 1, 0, cb + 1))
  else do
   let x <- elem' a i
   if (i + 1 + 1 == a.size) = true then pure (.done (some (mgLast a b (out.push x) (i + 1) j), out.push x, i + 1, j, ca + 1, 0))
   else if ca + 1 >= g then pure (.done (none, out.push x, i + 1, j, ca + 1, 0))
   else pure (.yield (none, out.push x, i + 1, j, ca + 1, 0))
 | _ => pure (.done (some (mgEnd a b out i j), out, i, j, ca, cb))
abbrev PAl (κ : SortKind) (R : Keyed -> Nat) (a b : Array Keyed) (st : SortSt) (m : Nat) : ForInStep AS -> SortSt -> Prop := PX (Dn κ R a b st) fun c => Jo κ R a b st c.1 c.2.1 c.2.2.1 (m + 1)
theorem loA_ok {a b out : Array Keyed} {i j g ca cb m : Nat} {st st' : SortSt} (L : Lo prog w A s κ R S a b) (J : Jo κ R a b st out i j m st') : wpS (model prog w) A E s (loA a b g out i j ca cb) (PAl κ R a b st m) st' := by
 obtain ⟨h1, h2, h3, h4, mg⟩ := J;have hi : i < a.size := lt_of_succ_lt h2;unfold loA;refine wpS_bind (t_elem (atK_get h3) (wpS_bind (t_elem (atK_get hi) (wpS_bind (t_lt L.an h1.1 (L.sb _ (atK_mem h3)) (L.sa _ (atK_mem hi)) ?_)))));dsimp only
 by_cases hl : R (atK b j) < R (atK a i)
 ·rw [if_pos (decide_eq_true hl)];refine wpS_bind (t_elem (atK_get h3) ?_);have mg' : Mg R (a.toList ++ b.toList) (out.push (atK b j)).toList (a.toList.drop i) (b.toList.drop (j + 1)) := by
   rw [Array.toList_push];rw [dropK h3] at mg;refine Mg.tb (b1 := [atK b j]) mg fun x hx' y hy => ?_;rw [mem_singleton.mp hx'];obtain ⟨n, z1, z2, rfl⟩ := mem_drop hy;exact le_trans (le_of_lt hl) (L.ua.at z1 z2)
  by_cases e : (j + 1 == b.size) = true
  ·rw [if_pos e];exact wpS_pure (mgEnd_ok h1 (by simpa using e) mg')
  ·rw [if_neg e];have e' : j + 1 ≠ b.size := by simpa using e
   have J' : Jo κ R a b st (out.push (atK b j)) i (j + 1) (m + 1) st' := ⟨h1, h2, by walk_at "o", succ_le_succ h4, mg'⟩
   split
   ·exact wpS_pure J'
   ·exact wpS_pure J'
 ·rw [if_neg (by simpa using hl)]
  refine wpS_bind (t_elem (atK_get hi) ?_);have mg' : Mg R (a.toList ++ b.toList) (out.push (atK a i)).toList (a.toList.drop (i + 1)) (b.toList.drop j) := by
   rw [Array.toList_push];rw [dropK hi] at mg;refine Mg.ta (a1 := [atK a i]) mg fun x hx' y hy => ?_;rw [mem_singleton.mp hx'];obtain ⟨n, z1, z2, rfl⟩ := mem_drop hy;exact le_trans (le_of_not_lt hl) (L.ub.at z1 z2)
  by_cases e : (i + 1 + 1 == a.size) = true
  ·rw [if_pos e];exact wpS_pure (mgLast_ok L h1 (by simpa using e) mg')
  ·rw [if_neg e];have e' : i + 1 + 1 ≠ a.size := by simpa using e
   have J' : Jo κ R a b st (out.push (atK a i)) (i + 1) j (m + 1) st' := ⟨h1, by walk_at "o", h3, by walk_at "o", mg'⟩
   split
   ·exact wpS_pure J'
   ·exact wpS_pure J'
noncomputable def loC (a b out : Array Keyed) (i j g ca cb : Nat) : StateT SortSt Sem (ForInStep LS) :=
 if g > 1 then (do modify fun st => setGal st (g - 1); lo1 a b out i j (g - 1) ca cb) else (do modify fun st => setGal st g; lo1 a b out i j g ca cb)
theorem loC_ok {a b out : Array Keyed} {i j g ca cb m : Nat} {st st' : SortSt} (L : Lo prog w A s κ R S a b) (J : Jo κ R a b st out i j m st') : wpS (model prog w) A E s (loC a b out i j g ca cb) (Po κ R a b st m) st' := by
 unfold loC;split
 ·exact wpS_bind (wpS_modify (lo1_ok L { J with g := J.g }))
 ·exact wpS_bind (wpS_modify (lo1_ok L { J with g := J.g }))
theorem t_mergeLo {a b : Array Keyed} {st : SortSt} {Q : Array Keyed -> SortSt -> Prop} (L : Lo prog w A s κ R S a b) (hk : kindOf st = κ) (za : 1 <= a.size) (zb : 1 <= b.size)
  (h : ∀ out st', Dn κ R a b st out st' -> Q out st') : wpS (model prog w) A E s (mergeLo' a b) Q st := by
 rw [mergeLo'_eq];have g0 : Gal κ st st := ⟨hk, rfl, rfl, rfl⟩;have mg : Mg R (a.toList ++ b.toList) #[atK b 0].toList (a.toList.drop 0) (b.toList.drop 1) := by
  have e : b.toList = atK b 0 :: b.toList.drop 1 := dropK zb;have m0 : Mg R (a.toList ++ b.toList) [] (a.toList.drop 0) ([atK b 0] ++ b.toList.drop 1) := ⟨L.ua, by rw [nil_append, List.singleton_append, <- e]; exact L.ub, by rw [nil_append, List.singleton_append, <- e]; exact List.Perm.refl _⟩
  exact m0.tb fun x hx y hy => by rw [mem_singleton.mp hx]; exact le_of_lt (L.hd y hy)
 refine t_rule (wpS_bind (t_elem (atK_get zb) (t_ite (fun e1 => wpS_pure (h _ st (mgEnd_ok g0 (eq_of_beq e1) mg))) fun e1 => t_ite (fun e2 => wpS_pure (h _ st (mgLast_ok L g0 (eq_of_beq e2) mg))) fun e2 => wpS_bind (wpS_get (wpS_bind ?_)))));have z1 : 1 < b.size := lt_of_le_of_ne zb fun z => e1 (beq_iff_eq.mpr z);have z2 : 0 + 1 < a.size := lt_of_le_of_ne za fun z => e2 (beq_iff_eq.mpr z);clear e1 e2;refine t_for (fun p : Array Keyed × Nat × Nat × Nat => ((none, p.1, p.2.1, p.2.2.1, p.2.2.2) : Option (Array Keyed) × Array Keyed × Nat × Nat × Nat)) (fun x p st' => Jo κ R a b st p.1 p.2.1 p.2.2.1 (x + 1) st')
  (fun c st' => ∃ z c', c = (some z, c') /\ Dn κ R a b st z st') (t := (_, 0, 1, _)) ⟨g0, z2, z1, le_refl _, mg⟩ ?_ (fun p st' J => ?_) fun c st' ⟨z, c', e, d⟩ => ?_
 ·rintro x ⟨out, i, j, g⟩ st' _ J
  refine wpS_bind (t_for (fun p : Array Keyed × Nat × Nat × Nat × Nat => ((none, p.1, p.2.1, p.2.2.1, p.2.2.2.1, p.2.2.2.2) : AS)) (fun y p st' => Jo κ R a b st p.1 p.2.1 p.2.2.1 (x + 1 + y) st')
   (fun c st' => (∃ z c', c = (some z, c') /\ Dn κ R a b st z st') \/ ∃ out i j ca cb, c = (none, out, i, j, ca, cb) /\ Jo κ R a b st out i j (x + 1 + 1) st') (t := (_, _, _, 0, 0)) J (fun y p st' _ J => ?_) (fun p st' J => ?_) fun c st' hc => ?_)
  ·refine wpS_mono (loA_ok (g := g) (ca := p.2.2.2.1) (cb := p.2.2.2.2) L J) fun r st'' p => ?_;cases r with
   | done c =>
    rcases p.dn with d | ⟨_, e, J'⟩
    ·exact .inl d
    ·exact .inr ⟨_, _, _, _, _, e, { J' with hm := le_trans (add_le_add_left (succ_le_succ (zero_le y)) _) J'.hm }⟩
   | yield c =>
    obtain ⟨_, e, J'⟩ := p.y;exact ⟨(_, _, _, _, _), e, J'⟩
  ·refine .inr ⟨_, _, _, _, _, rfl, { J with hm := le_trans (add_le_add_left ?_ _) J.hm }⟩
   exact le_trans za (le_trans (le_add_right _ b.size) (le_max_right _ _))
  ·rcases hc with ⟨z, c', rfl, d⟩ | ⟨out, i, j, ca, cb, rfl, J⟩
   ·exact wpS_pure ⟨z, _, rfl, d⟩
   ·refine t_rule (wpS_bind (t_for (fun p : Array Keyed × Nat × Nat × Nat × Nat × Nat => ((none, p.1, p.2.1, p.2.2.1, p.2.2.2.1, p.2.2.2.2.1, p.2.2.2.2.2) : LS)) (fun _ p st' => Jo κ R a b st p.1 p.2.1 p.2.2.1 (x + 1 + 1) st')
     (fun c st' => (∃ z c', c = (some z, c') /\ Dn κ R a b st z st') \/ ∃ out i j c', c = (none, out, i, j, c') /\ Jo κ R a b st out i j (x + 1 + 1) st') (t := (_, _, _, _, _, _)) J (fun y p st' _ J => ?_) (fun p st' J => .inr ⟨_, _, _, _, rfl, J⟩) fun c st' hc => ?_))
    ·refine wpS_mono (loC_ok (g := p.2.2.2.1) (ca := p.2.2.2.2.1) (cb := p.2.2.2.2.2) L J) fun r st'' p => ?_;cases r with
     | done c =>
      rcases p.dn with d | ⟨_, e, J'⟩
      ·exact .inl d
      ·exact .inr ⟨_, _, _, _, e, J'⟩
     | yield c =>
      obtain ⟨_, e, J'⟩ := p.y;exact ⟨(_, _, _, _, _, _), e, J'⟩
    ·rcases hc with ⟨z, c', rfl, d⟩ | ⟨out, i, j, ⟨g, ca, cb⟩, rfl, J⟩
     ·exact wpS_pure ⟨z, _, rfl, d⟩
     ·exact wpS_bind (wpS_modify (wpS_pure ⟨(_, _, _, _), rfl, { J with g := J.g }⟩))
 ·have h1 := J.hi;have h2 := J.hj;have h3 := le_trans (succ_le_succ (le_max_right 0 (a.size + b.size))) J.hm;clear J mg h L;walk_at "oo"
 ·subst e;exact wpS_pure (h z st' d)
end
section
variable {xs : Array Keyed} {i j k n : Nat} {x : Keyed} {R : Keyed -> Nat}
theorem mem_take (h : x ∈ xs.toList.take n) : ∃ j, j < n /\ j < xs.size /\ x = atK xs j := by
 obtain ⟨j, _, h2, h3, h4⟩ := mem_cut (i := 0) (k := n) h;exact ⟨j, by walk_at "o", h3, h4⟩
theorem takeK (h : n < xs.size) : xs.toList.take (n + 1) = xs.toList.take n ++ [atK xs n] := by
 rw [List.take_succ_eq_append_getElem (by simpa using h), atK_list h]
theorem takeC (h : k <= n) : xs.toList.take n = xs.toList.take k ++ (xs.extract k n).toList := by
 rw [Array.toList_extract, List.extract_eq_take_drop]
 conv => lhs; rw [<- Nat.add_sub_cancel' h, List.take_add]
theorem extT : (xs.extract 0 n).toList = xs.toList.take n := by
 rw [Array.toList_extract, List.extract_eq_take_drop, Nat.sub_zero, drop_zero]
end
section
variable {prog : Program} {w : World} {A : Around} {E : Value -> Shared -> Prop} {s : Shared} {κ : SortKind} {R : Keyed -> Nat} {S : Keyed -> Prop}
noncomputable def mergeHi' : Array Keyed -> Array Keyed -> StateT SortSt Sem (Array Keyed) := sortPriv% PySem.Builtin.mergeHi
noncomputable def mhEnd (a b out : Array Keyed) (i j : Nat) : Array Keyed := a.extract 0 i ++ b.extract 0 j ++ out.reverse
noncomputable def mhLast (a b out : Array Keyed) (i j : Nat) : Array Keyed := b.extract 0 j ++ a.extract 0 i ++ out.reverse
theorem mergeHi'_eq (a b : Array Keyed) : mergeHi' a b = (do
 rule "list.sort.merge-hi"
 let all := a.size + b.size
 let mut i := a.size - 1
 let mut j := b.size
 let mut out : Array Keyed := #[<- elem' a i]
 if i == 0 then return mhEnd a b out i j
 if j == 1 then return mhLast a b out i j
 let mut g := gallopOf (<- get)
 for _ in [0:all] do
  let mut ca := 0
  let mut cb := 0
  for _ in [0:all] do
   let some wins <- lt' (<- elem' b (j - 1)) (<- elem' a (i - 1)) | return mhEnd a b out i j
   if wins then
    i := i - 1; out := out.push (<- elem' a i); ca := ca + 1; cb := 0
    if i == 0 then return mhEnd a b out i j
    if ca >= g then break
   else
    j := j - 1; out := out.push (<- elem' b j); cb := cb + 1; ca := 0
    if j == 1 then return mhLast a b out i j
    if cb >= g then break
  rule "list.sort.gallop"
  g := g + 1
  for _ in [0:all] do
   if g > 1 then g := g - 1
   modify (fun st => setGal st g)
   let some p <- gallop' false (<- elem' b (j - 1)) a 0 i (i - 1) | return mhEnd a b out i j
   let k := i - p
   ca := k
   if k > 0 then
    out := out ++ (a.extract p i).reverse; i := p
    if i == 0 then return mhEnd a b out i j
   j := j - 1; out := out.push (<- elem' b j)
   if j == 1 then return mhLast a b out i j
   let some p <- gallop' true (<- elem' a (i - 1)) b 0 j (j - 1) | return mhEnd a b out i j
   let k := j - p
   cb := k
   if k > 0 then
    out := out ++ (b.extract p j).reverse; j := p
    if j == 1 then return mhLast a b out i j
    if j == 0 then return mhEnd a b out i j
   i := i - 1; out := out.push (<- elem' a i)
   if i == 0 then return mhEnd a b out i j
   if ca < 7 && cb < 7 then break
  g := g + 1
  modify (fun st => setGal st g)
 unsupported "internal:list.sort.merge-bound") := rfl
structure Ho (κ : SortKind) (R : Keyed -> Nat) (a b : Array Keyed) (st : SortSt) (out : Array Keyed) (i j m : Nat) (st' : SortSt) : Prop where
 g : Gal κ st st'
 h0 : 0 < i
 hi : i <= a.size
 h1 : 1 < j
 hj : j <= b.size
 hm : i + j + m <= a.size + b.size
 mh : Mh R (a.toList ++ b.toList) out.toList.reverse (a.toList.take i) (b.toList.take j)
theorem mhEnd_ok {a b out : Array Keyed} {i j : Nat} {st st' : SortSt} (g : Gal κ st st') (hi : i = 0) (mh : Mh R (a.toList ++ b.toList) out.toList.reverse (a.toList.take i) (b.toList.take j)) : Dn κ R a b st (mhEnd a b out i j) st' := by
 subst hi;rw [take_zero] at mh;have e : (mhEnd a b out 0 j).toList = b.toList.take j ++ out.toList.reverse := by
  unfold mhEnd;rw [Array.toList_append, Array.toList_append, extT, extT, take_zero, nil_append, Array.toList_reverse]
 unfold Dn;rw [e];exact ⟨g, mh.fin⟩
theorem mhLast_ok {a b out : Array Keyed} {i j : Nat} {st st' : SortSt} (L : Lo prog w A s κ R S a b) (g : Gal κ st st') (hj : j = 1) (mh : Mh R (a.toList ++ b.toList) out.toList.reverse (a.toList.take i) (b.toList.take j)) : Dn κ R a b st (mhLast a b out i j) st' := by
 have e : (mhLast a b out i j).toList = b.toList.take j ++ (a.toList.take i ++ out.toList.reverse) := by
  unfold mhLast;rw [Array.toList_append, Array.toList_append, extT, extT, Array.toList_reverse, append_assoc]
 unfold Dn;rw [e];refine ⟨g, mh.last fun x hx y hy => ?_⟩;obtain ⟨k, h1, h2, rfl⟩ := mem_take hy;rw [show k = 0 by walk_at "o"]
 exact le_of_lt (L.hd x (mem_of_mem_take hx))
theorem Mh.one_a {a b out : Array Keyed} {i j : Nat} (h0 : 0 < i) (hi : i <= a.size) (mh : Mh R (a.toList ++ b.toList) out.toList.reverse (a.toList.take i) (b.toList.take j)) (hx : ∀ y ∈ b.toList.take j, R y <= R (atK a (i - 1))) :
  Mh R (a.toList ++ b.toList) (out.push (atK a (i - 1))).toList.reverse (a.toList.take (i - 1)) (b.toList.take j) := by
 obtain ⟨n, rfl⟩ : ∃ n, i = n + 1 := ⟨i - 1, by walk_at "o"⟩
 rw [Array.toList_push, List.reverse_append, List.reverse_singleton];rw [takeK (by walk_at "o")] at mh
 exact mh.ta fun x hx' y hy => by rw [mem_singleton.mp hx']; exact hx y hy
theorem Mh.one_b {a b out : Array Keyed} {i j : Nat} (h0 : 0 < j) (hj : j <= b.size) (mh : Mh R (a.toList ++ b.toList) out.toList.reverse (a.toList.take i) (b.toList.take j)) (hx : ∀ y ∈ a.toList.take i, R y <= R (atK b (j - 1))) :
  Mh R (a.toList ++ b.toList) (out.push (atK b (j - 1))).toList.reverse (a.toList.take i) (b.toList.take (j - 1)) := by
 obtain ⟨n, rfl⟩ : ∃ n, j = n + 1 := ⟨j - 1, by walk_at "o"⟩
 rw [Array.toList_push, List.reverse_append, List.reverse_singleton];rw [takeK (by walk_at "o")] at mh
 exact mh.tb fun x hx' y hy => by rw [mem_singleton.mp hx']; exact hx y hy
theorem mem_ext {xs : Array Keyed} {i j : Nat} {x : Keyed} (hij : i <= j) (h : x ∈ (xs.extract i j).toList) : ∃ k, i <= k /\ k < j /\ k < xs.size /\ x = atK xs k := by
 rw [<- Nat.add_sub_cancel' hij, extK] at h;obtain ⟨k, h1, h2, h3, h4⟩ := mem_cut h;exact ⟨k, h1, by walk_at "o", h3, h4⟩
theorem rev_ext {out e : Array Keyed} : (out ++ e.reverse).toList.reverse = e.toList ++ out.toList.reverse := by
 rw [Array.toList_append, List.reverse_append, Array.toList_reverse, List.reverse_reverse]
abbrev HS := Option (Array Keyed) × Nat × Nat × Array Keyed × Nat × Nat × Nat
abbrev Ph (κ : SortKind) (R : Keyed -> Nat) (a b : Array Keyed) (st : SortSt) (m : Nat) : ForInStep HS -> SortSt -> Prop := PX (Dn κ R a b st) fun c => Ho κ R a b st c.2.2.1 c.1 c.2.1 m
theorem pred_lt' {i n : Nat} (h : 0 < i) (h1 : i <= n) : i - 1 < n := by walk_at "o"
theorem one_less {i j m n : Nat} (h : 0 < i) (h1 : i + j + m <= n) : i - 1 + j + (m + 1) <= n := by walk_at "o"
theorem one_less' {i j m n : Nat} (h : 0 < j) (h1 : i + j + m <= n) : i + (j - 1) + (m + 1) <= n := by walk_at "o"
theorem pred_gt {j : Nat} (h : 1 < j) (h1 : ¬ j - 1 = 1) : 1 < j - 1 := by walk_at "o"
theorem le_i {i i' j j' m n : Nat} (h : i' <= i) (h' : j' <= j) (h1 : i + j + m <= n) : i' + j' + m <= n := by walk_at "o"
noncomputable def hi3 (a b out : Array Keyed) (i j g ca cb : Nat) : StateT SortSt Sem (ForInStep HS) := do
 let x <- elem' a (i - 1)
 if (i - 1 == 0) = true then pure (.done (some (mhEnd a b (out.push x) (i - 1) j), i - 1, j, out.push x, g, ca, cb))
 else if (ca < 7 && cb < 7) = true then pure (.done (none, i - 1, j, out.push x, g, ca, cb)) else pure (.yield (none, i - 1, j, out.push x, g, ca, cb))
theorem hi3_ok {a b out : Array Keyed} {i j g ca cb m : Nat} {st st' : SortSt} (J : Ho κ R a b st out i j m st') (hx : ∀ y ∈ b.toList.take j, R y <= R (atK a (i - 1))) :
  wpS (model prog w) A E s (hi3 a b out i j g ca cb) (Ph κ R a b st m) st' := by
 obtain ⟨h1, h2, h3, h4, h5, h6, mh⟩ := J;have mh' := mh.one_a h2 h3 hx;unfold hi3;refine wpS_bind (t_elem (atK_get (pred_lt' h2 h3)) (t_ite (fun e => wpS_pure (mhEnd_ok h1 (eq_of_beq e) mh')) fun e => ?_));have J' : Ho κ R a b st (out.push (atK a (i - 1))) (i - 1) j m st' := ⟨h1, pos_of_ne_zero fun z => e (beq_iff_eq.mpr z), le_trans (sub_le _ _) h3, h4, h5, le_i (sub_le _ _) (le_refl _) h6, mh'⟩;exact t_ite (fun _ => wpS_pure J') fun _ => wpS_pure J'
noncomputable def hi2 (a b out : Array Keyed) (i j g ca cb : Nat) : StateT SortSt Sem (ForInStep HS) := do
 let y <- elem' b (j - 1)
 if (j - 1 == 1) = true then pure (.done (some (mhLast a b (out.push y) i (j - 1)), i, j - 1, out.push y, g, ca, cb))
 else
  let x <- elem' a (i - 1)
  let r <- gallop' true x b 0 (j - 1) (j - 1 - 1)
  match r with
  | some p => if j - 1 - p > 0 then (if (p == 1) = true then pure (.done (some (mhLast a b (out.push y ++ (b.extract p (j - 1)).reverse) i p), i, p, out.push y ++ (b.extract p (j - 1)).reverse, g, ca, j - 1 - p))
    else if (p == 0) = true then pure (.done (some (mhEnd a b (out.push y ++ (b.extract p (j - 1)).reverse) i p), i, p, out.push y ++ (b.extract p (j - 1)).reverse, g, ca, j - 1 - p))
    else hi3 a b (out.push y ++ (b.extract p (j - 1)).reverse) i p g ca (j - 1 - p)) else hi3 a b (out.push y) i (j - 1) g ca (j - 1 - p)
  | _ => pure (.done (some (mhEnd a b (out.push y) i (j - 1)), i, j - 1, out.push y, g, ca, cb))
theorem hi2_ok {a b out : Array Keyed} {i j g ca cb m : Nat} {st st' : SortSt} (L : Lo prog w A s κ R S a b) (J : Ho κ R a b st out i j m st') (hx : ∀ x ∈ a.toList.take i, R x <= R (atK b (j - 1))) :
  wpS (model prog w) A E s (hi2 a b out i j g ca cb) (Ph κ R a b st m) st' := by
 obtain ⟨h1, h2, h3, h4, h5, h6, mh⟩ := J;have j0 := lt_of_succ_lt h4;have hi := pred_lt' h2 h3;have hj := pred_lt' j0 h5;have mh' := mh.one_b j0 h5 hx;unfold hi2;refine wpS_bind (t_elem (atK_get hj) (t_ite (fun e => wpS_pure (mhLast_ok L h1 (eq_of_beq e) mh')) fun e => ?_));have j1 := pred_gt h4 fun z => e (beq_iff_eq.mpr z);have up : ∀ {n}, n < 0 + (j - 1) -> n < b.size := fun z => lt_of_lt_of_le z (le_trans (le_of_eq (zero_add _)) (le_of_lt hj));refine wpS_bind (t_elem (atK_get hi) (wpS_bind (t_gal L.an h1.1 (fun n z1 z2 => L.sb _ (atK_mem (up z2))) (L.sa _ (atK_mem hi)) (le_trans (le_of_eq (zero_add _)) (le_of_lt hj)) (sub_lt (lt_of_succ_lt j1) one_pos) (fun n n' z1 z2 z3 => L.ub.at z2 (up z3)) fun p hp c1 c2 => ?_)));have rest : ∀ y ∈ b.toList.take p, R y <= R (atK a (i - 1)) := fun y hy => by
  obtain ⟨n, z1, z2, rfl⟩ := mem_take hy;exact le_of_lt (far_t.1.mp (c1 n (zero_le _) (Nat.lt_of_lt_of_eq z1 (zero_add p).symm)))
 have far : ∀ n, p <= n -> n < j - 1 -> R (atK a (i - 1)) <= R (atK b n) := fun n z1 z2 => far_t.2.mp (c2 n (le_trans (le_of_eq (zero_add p)) z1) (Nat.lt_of_lt_of_eq z2 (zero_add _).symm));refine t_ite (fun hk0 => ?_) fun hk0 => ?_
 ·have mh2 : Mh R (a.toList ++ b.toList) (out.push (atK b (j - 1)) ++ (b.extract p (j - 1)).reverse).toList.reverse (a.toList.take i) (b.toList.take p) := by
   rw [rev_ext];rw [takeC (n := j - 1) hp] at mh';refine mh'.tb fun x hx' y hy => ?_;obtain ⟨n, z1, z2, z3, rfl⟩ := mem_ext hp hx';obtain ⟨n', y1, y2, rfl⟩ := mem_take hy;exact le_trans (L.ua.at (le_pred_of_lt y1) hi) (far n z1 z2)
  have p0 : 0 < p := pos_of_ne_zero fun z => absurd (far 0 (le_of_eq z) (lt_of_succ_lt j1)) (Nat.not_le_of_lt (L.hd _ (atK_mem hi)));exact t_ite (fun e2 => wpS_pure (mhLast_ok L h1 (eq_of_beq e2) mh2)) fun e2 => t_ite (fun e3 => absurd (eq_of_beq e3) (Nat.ne_of_gt p0)) fun _ =>
   hi3_ok ⟨h1, h2, h3, lt_of_le_of_ne p0 fun z => e2 (beq_iff_eq.mpr z.symm), le_trans hp (le_of_lt hj), le_i (le_refl _) (le_trans hp (sub_le _ _)) h6, mh2⟩ rest
 ·have e0 : p = j - 1 := le_antisymm hp (Nat.le_of_sub_eq_zero (le_zero.mp (le_of_not_lt hk0)));subst e0;exact hi3_ok ⟨h1, h2, h3, j1, le_of_lt hj, le_i (le_refl _) (sub_le _ _) h6, mh'⟩ rest
noncomputable def hi1 (a b out : Array Keyed) (i j g ca cb : Nat) : StateT SortSt Sem (ForInStep HS) := do
 let y <- elem' b (j - 1)
 let r <- gallop' false y a 0 i (i - 1)
 match r with
 | some p => if i - p > 0 then (if (p == 0) = true then pure (.done (some (mhEnd a b (out ++ (a.extract p i).reverse) p j), p, j, out ++ (a.extract p i).reverse, g, i - p, cb))
    else hi2 a b (out ++ (a.extract p i).reverse) p j g (i - p) cb) else hi2 a b out i j g (i - p) cb
 | _ => pure (.done (some (mhEnd a b out i j), i, j, out, g, ca, cb))
theorem hi1_ok {a b out : Array Keyed} {i j g ca cb m : Nat} {st st' : SortSt} (L : Lo prog w A s κ R S a b) (J : Ho κ R a b st out i j m st') :
  wpS (model prog w) A E s (hi1 a b out i j g ca cb) (Ph κ R a b st m) st' := by
 obtain ⟨h1, h2, h3, h4, h5, h6, mh⟩ := J;have j0 := lt_of_succ_lt h4;have hj := pred_lt' j0 h5;have up : ∀ {n}, n < 0 + i -> n < a.size := fun z => lt_of_lt_of_le z (le_trans (le_of_eq (zero_add _)) h3);unfold hi1;refine wpS_bind (t_elem (atK_get hj) (wpS_bind (t_gal L.an h1.1 (fun n z1 z2 => L.sa _ (atK_mem (up z2))) (L.sb _ (atK_mem hj)) (le_trans (le_of_eq (zero_add _)) h3) (sub_lt h2 one_pos) (fun n n' z1 z2 z3 => L.ua.at z2 (up z3)) fun p hp c1 c2 => ?_)));have rest : ∀ y ∈ a.toList.take p, R y <= R (atK b (j - 1)) := fun y hy => by
  obtain ⟨n, z1, z2, rfl⟩ := mem_take hy;exact far_f.1.mp (c1 n (zero_le _) (Nat.lt_of_lt_of_eq z1 (zero_add p).symm))
 refine t_ite (fun _ => ?_) fun hk0 => ?_
 ·have mh2 : Mh R (a.toList ++ b.toList) (out ++ (a.extract p i).reverse).toList.reverse (a.toList.take p) (b.toList.take j) := by
   rw [rev_ext];rw [takeC (n := i) hp] at mh;refine mh.ta fun x hx' y hy => ?_;obtain ⟨n, z1, z2, z3, rfl⟩ := mem_ext hp hx';obtain ⟨n', y1, y2, rfl⟩ := mem_take hy;exact le_trans (L.ub.at (le_pred_of_lt y1) hj) (le_of_lt (far_f.2.mp (c2 n (le_trans (le_of_eq (zero_add p)) z1) (Nat.lt_of_lt_of_eq z2 (zero_add _).symm))))
  exact t_ite (fun e2 => wpS_pure (mhEnd_ok h1 (eq_of_beq e2) mh2)) fun e2 =>
   hi2_ok L ⟨h1, pos_of_ne_zero fun z => e2 (beq_iff_eq.mpr z), le_trans hp h3, h4, h5, le_i hp (le_refl _) h6, mh2⟩ rest
 ·have e0 : p = i := le_antisymm hp (Nat.le_of_sub_eq_zero (le_zero.mp (le_of_not_lt hk0)));subst e0;exact hi2_ok L ⟨h1, h2, h3, h4, h5, h6, mh⟩ rest
abbrev BS := Option (Array Keyed) × Nat × Nat × Array Keyed × Nat × Nat
noncomputable def hiA (a b : Array Keyed) (g : Nat) (out : Array Keyed) (i j ca cb : Nat) : StateT SortSt Sem (ForInStep BS) := do
 let y <- elem' b (j - 1)
 let x <- elem' a (i - 1)
 match <- lt' y x with
 | some wins =>
  if wins = true then do
   let x <- elem' a (i - 1)
   if (i - 1 == 0) = true then pure (.done (some (mhEnd a b (out.push x) (i - 1) j), i - 1, j, out.push x, ca + 1, 0))
   else if ca + 1 >= g then pure (.done (none, i - 1, j, out.push x, ca + 1, 0))
   else pure (.yield (none, i - 1, j, out.push x, ca + 1, 0))
  else do
   let y <- elem' b (j - 1)
   if (j - 1 == 1) = true then pure (.done (some (mhLast a b (out.push y) i (j - 1)), i, j - 1, out.push y, 0, cb + 1))
   else if cb + 1 >= g then pure (.done (none, i, j - 1, out.push y, 0, cb + 1))
   else pure (.yield (none, i, j - 1, out.push y, 0, cb + 1))
 | _ => pure (.done (some (mhEnd a b out i j), i, j, out, ca, cb))
abbrev PB (κ : SortKind) (R : Keyed -> Nat) (a b : Array Keyed) (st : SortSt) (m : Nat) : ForInStep BS -> SortSt -> Prop := PX (Dn κ R a b st) fun c => Ho κ R a b st c.2.2.1 c.1 c.2.1 (m + 1)
theorem hiA_ok {a b out : Array Keyed} {i j g ca cb m : Nat} {st st' : SortSt} (L : Lo prog w A s κ R S a b) (J : Ho κ R a b st out i j m st') : wpS (model prog w) A E s (hiA a b g out i j ca cb) (PB κ R a b st m) st' := by
 obtain ⟨h1, h2, h3, h4, h5, h6, mh⟩ := J;have j0 := lt_of_succ_lt h4;have hi := pred_lt' h2 h3;have hj := pred_lt' j0 h5;unfold hiA;refine wpS_bind (t_elem (atK_get hj) (wpS_bind (t_elem (atK_get hi) (wpS_bind (t_lt L.an h1.1 (L.sb _ (atK_mem hj)) (L.sa _ (atK_mem hi)) (t_ite (fun hl => ?_) fun hl => ?_))))))
 ·have hl := of_decide_eq_true hl;have mh' := mh.one_a h2 h3 fun y hy => by
   obtain ⟨n, z1, z2, rfl⟩ := mem_take hy;exact le_trans (L.ub.at (le_pred_of_lt z1) hj) (le_of_lt hl)
  refine wpS_bind (t_elem (atK_get hi) (t_ite (fun e => wpS_pure (mhEnd_ok h1 (eq_of_beq e) mh')) fun e => ?_));have J' : Ho κ R a b st (out.push (atK a (i - 1))) (i - 1) j (m + 1) st' := ⟨h1, pos_of_ne_zero fun z => e (beq_iff_eq.mpr z), le_of_lt hi, h4, h5, one_less h2 h6, mh'⟩;exact t_ite (fun _ => wpS_pure J') fun _ => wpS_pure J'
 ·have hl : ¬ R (atK b (j - 1)) < R (atK a (i - 1)) := fun z => hl (decide_eq_true z);have mh' := mh.one_b j0 h5 fun y hy => by
   obtain ⟨n, z1, z2, rfl⟩ := mem_take hy;exact le_trans (L.ua.at (le_pred_of_lt z1) hi) (le_of_not_lt hl)
  refine wpS_bind (t_elem (atK_get hj) (t_ite (fun e => wpS_pure (mhLast_ok L h1 (eq_of_beq e) mh')) fun e => ?_));have J' : Ho κ R a b st (out.push (atK b (j - 1))) i (j - 1) (m + 1) st' := ⟨h1, h2, h3, pred_gt h4 fun z => e (beq_iff_eq.mpr z), le_of_lt hj, one_less' j0 h6, mh'⟩;exact t_ite (fun _ => wpS_pure J') fun _ => wpS_pure J'
noncomputable def hiC (a b out : Array Keyed) (i j g ca cb : Nat) : StateT SortSt Sem (ForInStep HS) :=
 if g > 1 then (do modify fun st => setGal st (g - 1); hi1 a b out i j (g - 1) ca cb) else (do modify fun st => setGal st g; hi1 a b out i j g ca cb)
theorem hiC_ok {a b out : Array Keyed} {i j g ca cb m : Nat} {st st' : SortSt} (L : Lo prog w A s κ R S a b) (J : Ho κ R a b st out i j m st') : wpS (model prog w) A E s (hiC a b out i j g ca cb) (Ph κ R a b st m) st' := by
 unfold hiC;exact t_ite (fun _ => wpS_bind (wpS_modify (hi1_ok L { J with g := J.g }))) fun _ => wpS_bind (wpS_modify (hi1_ok L { J with g := J.g }))
theorem t_mergeHi {a b : Array Keyed} {st : SortSt} {Q : Array Keyed -> SortSt -> Prop} (L : Lo prog w A s κ R S a b) (hk : kindOf st = κ) (za : 1 <= a.size) (zb : 1 <= b.size)
  (h : ∀ out st', Dn κ R a b st out st' -> Q out st') : wpS (model prog w) A E s (mergeHi' a b) Q st := by
 rw [mergeHi'_eq];have g0 : Gal κ st st := ⟨hk, rfl, rfl, rfl⟩;have m0 : Mh R (a.toList ++ b.toList) #[].toList.reverse (a.toList.take a.size) (b.toList.take b.size) := by
  rw [List.take_of_length_le (le_of_eq (by simp)), List.take_of_length_le (le_of_eq (by simp))]
  exact ⟨by simpa using L.ua, by simpa using L.ub, by simp⟩
 have mh : Mh R (a.toList ++ b.toList) #[atK a (a.size - 1)].toList.reverse (a.toList.take (a.size - 1)) (b.toList.take b.size) :=
  m0.one_a za (le_refl _) fun y hy => le_of_lt (L.ls y (mem_of_mem_take hy))
 have z0 : a.size - 1 < a.size := pred_lt' za (le_refl _);refine t_rule (wpS_bind (t_elem (atK_get z0) (t_ite (fun e1 => wpS_pure (h _ st (mhEnd_ok g0 (eq_of_beq e1) mh))) fun e1 => t_ite (fun e2 => wpS_pure (h _ st (mhLast_ok L g0 (eq_of_beq e2) mh))) fun e2 => wpS_bind (wpS_get (wpS_bind ?_)))));have z1 : 1 < b.size := lt_of_le_of_ne zb fun z => e2 (beq_iff_eq.mpr z.symm);have z2 : 0 < a.size - 1 := pos_of_ne_zero fun z => e1 (beq_iff_eq.mpr z);clear e1 e2;refine t_for (fun p : Array Keyed × Nat × Nat × Nat => ((none, p.2.1, p.2.2.1, p.1, p.2.2.2) : Option (Array Keyed) × Nat × Nat × Array Keyed × Nat)) (fun x p st' => Ho κ R a b st p.1 p.2.1 p.2.2.1 (x + 1) st')
  (fun c st' => ∃ z c', c = (some z, c') /\ Dn κ R a b st z st') (t := (_, _, _, _)) ⟨g0, z2, le_of_lt z0, z1, le_refl _, ?_, mh⟩ ?_ (fun p st' J => ?_) fun c st' ⟨z, c', e, d⟩ => ?_
 ·show a.size - 1 + b.size + (0 + 1) <= a.size + b.size;clear mh m0 L h;walk_at "oo"
 ·rintro x ⟨out, i, j, g⟩ st' _ J
  refine wpS_bind (t_for (fun p : Array Keyed × Nat × Nat × Nat × Nat => ((none, p.2.1, p.2.2.1, p.1, p.2.2.2.1, p.2.2.2.2) : BS)) (fun y p st' => Ho κ R a b st p.1 p.2.1 p.2.2.1 (x + 1 + y) st')
   (fun c st' => (∃ z c', c = (some z, c') /\ Dn κ R a b st z st') \/ ∃ out i j ca cb, c = (none, i, j, out, ca, cb) /\ Ho κ R a b st out i j (x + 1 + 1) st') (t := (_, _, _, 0, 0)) J (fun y p st' _ J => ?_) (fun p st' J => ?_) fun c st' hc => ?_)
  ·refine wpS_mono (hiA_ok (g := g) (ca := p.2.2.2.1) (cb := p.2.2.2.2) L J) fun r st'' p => ?_;cases r with
   | done c =>
    rcases p.dn with d | ⟨_, e, J'⟩
    ·exact .inl d
    ·exact .inr ⟨_, _, _, _, _, e, { J' with hm := le_trans (add_le_add_left (add_le_add_left (succ_le_succ (zero_le y)) _) _) J'.hm }⟩
   | yield c =>
    obtain ⟨_, e, J'⟩ := p.y;exact ⟨(_, _, _, _, _), e, J'⟩
  ·refine .inr ⟨_, _, _, _, _, rfl, { J with hm := le_trans (add_le_add_left (add_le_add_left ?_ _) _) J.hm }⟩
   exact le_trans za (le_trans (le_add_right _ b.size) (le_max_right _ _))
  ·rcases hc with ⟨z, c', rfl, d⟩ | ⟨out, i, j, ca, cb, rfl, J⟩
   ·exact wpS_pure ⟨z, _, rfl, d⟩
   ·refine t_rule (wpS_bind (t_for (fun p : Array Keyed × Nat × Nat × Nat × Nat × Nat => ((none, p.2.1, p.2.2.1, p.1, p.2.2.2.1, p.2.2.2.2.1, p.2.2.2.2.2) : HS)) (fun _ p st' => Ho κ R a b st p.1 p.2.1 p.2.2.1 (x + 1 + 1) st')
     (fun c st' => (∃ z c', c = (some z, c') /\ Dn κ R a b st z st') \/ ∃ out i j c', c = (none, i, j, out, c') /\ Ho κ R a b st out i j (x + 1 + 1) st') (t := (_, _, _, _, _, _)) J (fun y p st' _ J => ?_) (fun p st' J => .inr ⟨_, _, _, _, rfl, J⟩) fun c st' hc => ?_))
    ·refine wpS_mono (hiC_ok (g := p.2.2.2.1) (ca := p.2.2.2.2.1) (cb := p.2.2.2.2.2) L J) fun r st'' p => ?_;cases r with
     | done c =>
      rcases p.dn with d | ⟨_, e, J'⟩
      ·exact .inl d
      ·exact .inr ⟨_, _, _, _, e, J'⟩
     | yield c =>
      obtain ⟨_, e, J'⟩ := p.y;exact ⟨(_, _, _, _, _, _), e, J'⟩
    ·rcases hc with ⟨z, c', rfl, d⟩ | ⟨out, i, j, ⟨g, ca, cb⟩, rfl, J⟩
     ·exact wpS_pure ⟨z, _, rfl, d⟩
     ·exact wpS_bind (wpS_modify (wpS_pure ⟨(_, _, _, _), rfl, { J with g := J.g }⟩))
 ·have h3 := le_trans (add_le_add_left (succ_le_succ (le_max_right 0 (a.size + b.size))) _) J.hm;have h0 := J.h0;clear J mh m0 h L;walk_at "oo"
 ·subst e;exact wpS_pure (h z st' d)
end
section
variable {R : Keyed -> Nat} {xs ys : Array Keyed} {lo n : Nat}
noncomputable def Seg (R : Keyed -> Nat) (xs : Array Keyed) (lo n : Nat) : Prop := ∀ i j, lo <= i -> i <= j -> j < lo + n -> R (atK xs i) <= R (atK xs j)
noncomputable def Dsg (R : Keyed -> Nat) (xs : Array Keyed) (lo n : Nat) : Prop := ∀ i j, lo <= i -> i <= j -> j < lo + n -> R (atK xs j) <= R (atK xs i)
theorem atK_of {i j : Nat} (h : xs[i]? = ys[j]?) : atK xs i = atK ys j := by
 unfold atK;rw [Array.getD_eq_getD_getElem?, Array.getD_eq_getD_getElem?, h]
theorem atK_bubble {src d : Nat} (hs : src < xs.size) (hd : d <= src) (k : Nat) : atK (bubble xs src d) k = if k = src - d then atK xs src else if src - d < k /\ k <= src then atK xs (k - 1) else atK xs k := by
 have be := getElem?_bubble hs d hd k
 by_cases h1 : k = src - d
 ·rw [if_pos h1] at be ⊢; exact atK_of be
 ·rw [if_neg h1] at be ⊢
  by_cases hh : src - d < k /\ k <= src
  ·rw [if_pos hh] at be ⊢; exact atK_of be
  ·rw [if_neg hh] at be ⊢; exact atK_of be
theorem atK_mirror {i j : Nat} (hj : j <= xs.size) (k : Nat) : atK (mirror xs i j ((j - i) / 2)) k = if i <= k /\ k < j then atK xs (i + j - 1 - k) else atK xs k := by
 have me := getElem?_mirror_all (i := i) hj k;split at me
 ·rename_i h; rw [if_pos h]; exact atK_of me
 ·rename_i h; rw [if_neg h]; exact atK_of me
end
section
variable {prog : Program} {w : World} {A : Around} {E : Value -> Shared -> Prop} {s : Shared} {κ : SortKind} {R : Keyed -> Nat} {S : Keyed -> Prop}
structure Bs (κ : SortKind) (st0 st : SortSt) (lo hi : Nat) : Prop where
 k : kindOf st = κ
 f : failedOf st = failedOf st0
 p : pendingOf st = pendingOf st0
 pm : (arrOf st).Perm (arrOf st0)
 out : ∀ i, i < lo \/ hi <= i -> atK (arrOf st) i = atK (arrOf st0) i
theorem Bs.z {st0 st : SortSt} {lo hi : Nat} (b : Bs κ st0 st lo hi) : (arrOf st).size = (arrOf st0).size := b.pm.size_eq
theorem Bs.sOf {st0 st : SortSt} {lo hi : Nat} (b : Bs κ st0 st lo hi) (hS : ∀ x ∈ (arrOf st0).toList, S x) {i : Nat} (hi : i < (arrOf st0).size) : S (atK (arrOf st) i) :=
 hS _ ((Array.perm_iff_toList_perm.mp b.pm).mem_iff.mp (atK_mem (by rw [b.z]; exact hi)))
theorem t_ltAt {st0 st : SortSt} {lo hi i j : Nat} {Q : Option Bool -> SortSt -> Prop} (an : Ans prog w A s κ R S) (hS : ∀ x ∈ (arrOf st0).toList, S x) (b : Bs κ st0 st lo hi) (hi' : i < (arrOf st0).size) (hj : j < (arrOf st0).size)
  (h : Q (some (decide (R (atK (arrOf st) i) < R (atK (arrOf st) j)))) st) : wpS (model prog w) A E s (ltAt' i j) Q st := by
 rw [ltAt'_eq];refine wpS_bind (wpS_get (wpS_bind (t_elem (atK_get (by rw [b.z]; exact hi')) (wpS_bind (t_elem (atK_get (by rw [b.z]; exact hj)) ?_)))))
 exact t_lt an b.k (b.sOf hS hi') (b.sOf hS hj) h
theorem mid2 {l r : Nat} (h : l < r) : l <= (l + r) / 2 /\ (l + r) / 2 < r := by walk_at "o"
theorem ins_seg {f g : Nat -> Nat} {lo k l : Nat} (hl : l <= k) (e : ∀ i, g i = if i = lo + l then f (lo + k) else if lo + l < i /\ i <= lo + k then f (i - 1) else f i) (sg : ∀ i j, lo <= i -> i <= j -> j < lo + k -> f i <= f j)
  (a4 : ∀ i, lo <= i -> i < lo + l -> f i <= f (lo + k)) (a5 : ∀ i, lo + l <= i -> i < lo + k -> f (lo + k) < f i) {i j : Nat} (h1 : lo <= i) (h2 : i <= j) (h3 : j < lo + (k + 1)) : g i <= g j := by
 have lo' : ∀ i, i < lo + l -> g i = f i := fun i h => by rw [e, if_neg (ne_of_lt h), if_neg fun z => Nat.lt_asymm z.1 h]
 have hi' : ∀ i, lo + l < i -> i < lo + (k + 1) -> g i = f (i - 1) := fun i h h' => by rw [e, if_neg (Nat.ne_of_gt h), if_pos ⟨h, le_of_lt_succ h'⟩]
 have at' : g (lo + l) = f (lo + k) := by rw [e, if_pos rfl]
 have p1 : ∀ j, lo + l < j -> j < lo + (k + 1) -> lo + l <= j - 1 /\ j - 1 < lo + k := fun j h h' => by clear e sg a4 a5 lo' hi' at'; walk_at "oo"
 rcases Nat.lt_trichotomy j (lo + l) with g2 | g2 | g2
 ·rw [lo' i (lt_of_le_of_lt h2 g2), lo' j g2];exact sg i j h1 h2 (lt_of_lt_of_le g2 (add_le_add_left hl lo))
 ·rw [g2, at'];rcases lt_or_ge i (lo + l) with g1 | g1
  ·rw [lo' i g1]; exact a4 i h1 g1
  ·rw [le_antisymm (g2 ▸ h2) g1, at'];exact le_refl _
 ·obtain ⟨q1, q2⟩ := p1 j g2 h3;rw [hi' j g2 h3];rcases Nat.lt_trichotomy i (lo + l) with g1 | g1 | g1
  ·rw [lo' i g1]; exact sg i _ h1 (le_trans (le_of_lt g1) q1) q2
  ·rw [g1, at']; exact le_of_lt (a5 _ q1 q2)
  ·rw [hi' i g1 (lt_of_le_of_lt h2 h3)];exact sg _ _ (le_trans (le_add_right lo l) (p1 i g1 (lt_of_le_of_lt h2 h3)).1) (Nat.sub_le_sub_right h2 1) q2
theorem t_move {i j : Nat} {st : SortSt} {Q : Unit -> SortSt -> Prop} (h : Q () (setArr st (bubble (arrOf st) i (i - j)))) : wpS (model prog w) A E s (moveDown' i j) Q st := by
 rw [moveDown'_eq];exact wpS_modify h
theorem t_bin {st0 st : SortSt} {lo n ok : Nat} {Q : Bool -> SortSt -> Prop} (an : Ans prog w A s κ R S) (hS : ∀ x ∈ (arrOf st0).toList, S x) (b : Bs κ st0 st lo (lo + n)) (hz : lo + n <= (arrOf st0).size) (hok : ok <= n) (sg : Seg R (arrOf st) lo ok)
  (h : ∀ st', Bs κ st0 st' lo (lo + n) -> Seg R (arrOf st') lo n -> Q true st') : wpS (model prog w) A E s (binarySort' lo n ok) Q st := by
 rw [binarySort'_eq];refine wpS_bind (t_for (fun _ : Unit => ((none, ()) : Option Bool × Unit)) (fun k _ st' => Bs κ st0 st' lo (lo + n) /\ Seg R (arrOf st') lo (min k n)) (fun c st' => c = (none, ()) /\ Bs κ st0 st' lo (lo + n) /\ Seg R (arrOf st') lo n) (t := ()) ⟨b, fun i j h1 h2 h3 => ?_⟩ ?_ (fun _ st' z => ⟨rfl, z.1, ?_⟩) fun c st' z => ?_)
 ·by_cases g : ok = 0
  ·have e : i = j := by
    subst g;clear hz hok;walk_at "oo"
   rw [e]; exact le_refl _
  ·refine sg i j h1 h2 (lt_of_lt_of_le h3 (add_le_add_left ?_ lo));exact le_trans (Nat.min_le_left _ _) (le_of_eq (Nat.max_eq_left (pos_of_ne_zero g)))
 ·rintro k _ st' k2 ⟨b', sg'⟩
  rw [min_eq_left (le_of_lt k2)] at sg';have kz : lo + k < (arrOf st0).size := lt_of_lt_of_le (add_lt_add_left k2 lo) hz;refine wpS_bind (t_for (fun p : Nat × Nat => ((none, p.1, p.2) : Option Bool × Nat × Nat)) (fun x p st'' => st'' = st' /\ p.1 <= p.2 /\ p.2 <= k /\ p.2 + x <= p.1 + k /\ (∀ i, lo <= i -> i < lo + p.1 -> R (atK (arrOf st') i) <= R (atK (arrOf st') (lo + k))) /\ ∀ i, lo + p.2 <= i -> i < lo + k -> R (atK (arrOf st') (lo + k)) < R (atK (arrOf st') i))
   (fun c st'' => st'' = st' /\ ∃ l, c = (none, l, l) /\ l <= k /\ (∀ i, lo <= i -> i < lo + l -> R (atK (arrOf st') i) <= R (atK (arrOf st') (lo + k))) /\ ∀ i, lo + l <= i -> i < lo + k -> R (atK (arrOf st') (lo + k)) < R (atK (arrOf st') i)) (t := (0, k))
   ⟨rfl, zero_le _, le_refl _, le_of_eq (Nat.add_comm _ _), fun i z1 z2 => absurd z1 (Nat.not_le_of_lt z2), fun i z1 z2 => absurd z1 (Nat.not_le_of_lt z2)⟩ ?_ ?_ ?_)
  ·rintro x ⟨l, r⟩ st'' _ ⟨rfl, a1, a2, a3, a4, a5⟩
   refine t_ite (fun g => ?_) fun g => ?_
   ·have e : l = r := le_antisymm a1 g;subst e;exact wpS_pure ⟨rfl, l, rfl, a2, a4, a5⟩
   ·obtain ⟨m1, m2⟩ := mid2 (lt_of_not_ge g);have m3 := lt_of_lt_of_le m2 a2;refine wpS_bind (t_ltAt an hS b' kz (Nat.lt_trans (add_lt_add_left m3 lo) kz) (t_ite (fun hl => ?_) fun hl => ?_))
    ·exact wpS_pure ⟨(_, _), rfl, rfl, m1, le_of_lt m3, st_dn a3 m2, a4, fun i z1 z2 => lt_of_lt_of_le (of_decide_eq_true hl) (sg' _ _ (le_add_right lo _) z1 z2)⟩
    ·exact wpS_pure ⟨(_, _), rfl, rfl, m2, a2, st_up a3 m1, fun i z1 z2 => le_trans (sg' i _ z1 (le_of_lt_succ z2) (add_lt_add_left m3 lo)) (le_of_not_lt fun z => hl (decide_eq_true z)), a5⟩
  ·rintro ⟨l, r⟩ st'' ⟨rfl, a1, a2, a3, a4, a5⟩
   rw [Nat.zero_max] at a3;have e := le_antisymm a1 (Nat.le_of_add_le_add_right a3);dsimp only at e a2 a4 a5 ⊢;subst e;exact ⟨rfl, l, rfl, a2, a4, a5⟩
  ·rintro c st'' ⟨rfl, l, rfl, a2, a4, a5⟩
   have e := atK_bubble (xs := arrOf st'') (src := lo + k) (d := lo + k - (lo + l)) (by rw [b'.z]; exact kz) (sub_le _ _)
   rw [Nat.sub_sub_self (add_le_add_left a2 lo)] at e;refine wpS_bind (t_move (wpS_pure ⟨(), rfl, ⟨b'.k, b'.f, b'.p, (bubble_perm _ _ _).trans b'.pm, fun i hi => ?_⟩, ?_⟩))
   ·refine (e i).trans ?_;have o1 : ¬ i = lo + l /\ ¬ (lo + l < i /\ i <= lo + k) := by
     clear e b' sg' a4 a5 an hS sg b h;walk_at "oo"
    rw [if_neg o1.1, if_neg o1.2];exact b'.out i hi
   ·rw [min_eq_left k2];exact fun i j z1 z2 z3 => ins_seg (f := fun i => R (atK (arrOf st'') i)) (g := fun i => R (atK (bubble (arrOf st'') (lo + k) (lo + k - (lo + l))) i)) a2 (fun i => by rw [e, apply_ite R, apply_ite R]) sg' a4 a5 z1 z2 z3
 ·have z2 := z.2;rwa [Nat.min_eq_right (le_max_right _ _)] at z2
 ·obtain ⟨rfl, b', s'⟩ := z;exact wpS_pure (h st' b' s')
noncomputable def dsc (lo n0 nrem : Nat) : StateT SortSt Sem (Option Nat) := do
 let mut n := n0
 rule ("list.sort.descending-run")
 n := n + 1
 let mut q := 0
 for _ in [n:nrem] do
  let some less <- ltAt' (lo + n) (lo + n - 1) | return none
  if less then
   if q > 0 then reverseSlice' (lo + n - (q + 1)) (lo + n)
   q := 0
  else
   let some more <- ltAt' (lo + n - 1) (lo + n) | return none
   if more then break
   q := q + 1
  n := n + 1
 if q > 0 then reverseSlice' (lo + n - (q + 1)) (lo + n)
 reverseSlice' lo (lo + n)
 for _ in [n:nrem] do
  let some less <- ltAt' (lo + n) (lo + n - 1) | return none
  if less then break
  n := n + 1
 return some n
theorem cnt_eq (lo nrem : Nat) : countRun' lo nrem = (do
 let mut n := 1
 for _ in [1:nrem] do
  let some less <- ltAt' (lo + n) (lo + n - 1) | return none
  if less then break
  n := n + 1
 if n == nrem then return (some n)
 if n > 1 then
  let some up <- ltAt' lo (lo + n - 1) | return none
  if up then return some n
  reverseSlice' lo (lo + n)
 dsc lo n nrem) := rfl
theorem t_rev {st0 st : SortSt} {lo hi i j : Nat} {Q : Unit -> SortSt -> Prop} (b : Bs κ st0 st lo hi) (h1 : lo <= i) (h2 : j <= hi) (hz : hi <= (arrOf st0).size)
  (h : ∀ st', Bs κ st0 st' lo hi -> (∀ k, atK (arrOf st') k = if i <= k /\ k < j then atK (arrOf st) (i + j - 1 - k) else atK (arrOf st) k) -> Q () st') : wpS (model prog w) A E s (reverseSlice' i j) Q st := by
 rw [reverseSlice'_eq];have e := atK_mirror (xs := arrOf st) (i := i) (j := j) (by rw [b.z]; walk_at "oo")
 refine wpS_modify (h _ ⟨b.k, b.f, b.p, (mirror_perm _ _ _ _).trans b.pm, fun k hk => ?_⟩ e);refine (e k).trans ?_;rw [if_neg (by walk_at "o")]
 exact b.out k hk
theorem seg_ext {f : Nat -> Nat} {lo n : Nat} (h1 : 1 <= n) (sg : ∀ i j, lo <= i -> i <= j -> j < lo + n -> f i <= f j) (h : f (lo + n - 1) <= f (lo + n)) : ∀ i j, lo <= i -> i <= j -> j < lo + (n + 1) -> f i <= f j := fun i j z1 z2 z3 => by
 rcases lt_or_ge j (lo + n) with g | g
 ·exact sg i j z1 z2 g
 ·rw [le_antisymm (le_of_lt_succ z3) g] at z2 ⊢;rcases lt_or_ge i (lo + n) with g2 | g2
  ·exact le_trans (sg i _ z1 (le_pred_of_lt g2) (sub_lt (lt_of_lt_of_le h1 (Nat.le_add_left n lo)) one_pos)) h
  ·rw [le_antisymm z2 g2]; exact le_refl _
theorem dsg_ext {f : Nat -> Nat} {lo n : Nat} (h1 : 1 <= n) (sg : ∀ i j, lo <= i -> i <= j -> j < lo + n -> f j <= f i) (h : f (lo + n) <= f (lo + n - 1)) : ∀ i j, lo <= i -> i <= j -> j < lo + (n + 1) -> f j <= f i := fun i j z1 z2 z3 => by
 rcases lt_or_ge j (lo + n) with g | g
 ·exact sg i j z1 z2 g
 ·rw [le_antisymm (le_of_lt_succ z3) g] at z2 ⊢;rcases lt_or_ge i (lo + n) with g2 | g2
  ·exact le_trans h (sg i _ z1 (le_pred_of_lt g2) (sub_lt (lt_of_lt_of_le h1 (Nat.le_add_left n lo)) one_pos))
  ·rw [le_antisymm z2 g2]; exact le_refl _
theorem t_asc {st0 st : SortSt} {lo n nrem : Nat} {Q : Option (Option Nat) × Nat -> SortSt -> Prop} (an : Ans prog w A s κ R S) (hS : ∀ x ∈ (arrOf st0).toList, S x) (b : Bs κ st0 st lo (lo + nrem)) (hz : lo + nrem <= (arrOf st0).size) (h1 : 1 <= n) (hn : n <= nrem) (sg : Seg R (arrOf st) lo n)
  (h : ∀ m, n <= m -> m <= nrem -> Seg R (arrOf st) lo m -> (m = nrem \/ R (atK (arrOf st) (lo + m)) < R (atK (arrOf st) (lo + m - 1))) -> Q (none, m) st) : wpS (model prog w) A E s (forIn [n:nrem] ((none, n) : Option (Option Nat) × Nat) fun _ c => do
   let r <- ltAt' (lo + c.2) (lo + c.2 - 1)
   match r with
   | some less => if less = true then pure (ForInStep.done (none, c.2)) else pure (ForInStep.yield (none, c.2 + 1))
   | _ => pure (ForInStep.done (some none, c.2))) Q st := by
 refine t_for (fun m : Nat => ((none, m) : Option (Option Nat) × Nat)) (fun x m st' => st' = st /\ m = x /\ n <= x /\ x <= nrem /\ Seg R (arrOf st) lo x)
  (fun c st' => st' = st /\ ∃ m, c = (none, m) /\ n <= m /\ m <= nrem /\ Seg R (arrOf st) lo m /\ (m = nrem \/ R (atK (arrOf st) (lo + m)) < R (atK (arrOf st) (lo + m - 1)))) (t := n) ⟨rfl, rfl, le_refl _, hn, sg⟩ ?_ ?_ ?_
 ·rintro x _ st' x2 ⟨rfl, rfl, a1, a2, a3⟩
  have kz := lt_of_lt_of_le (add_lt_add_left x2 lo) hz;refine wpS_bind (t_ltAt an hS b kz (lt_of_le_of_lt (sub_le _ _) kz) (t_ite (fun hl => wpS_pure ⟨rfl, _, rfl, a1, a2, a3, .inr (of_decide_eq_true hl)⟩) fun hl => ?_));exact wpS_pure ⟨_, rfl, rfl, rfl, le_succ_of_le a1, x2, seg_ext (f := fun i => R (atK (arrOf st') i)) (le_trans h1 a1) a3 (le_of_not_lt fun z => hl (decide_eq_true z))⟩
 ·rintro _ st' ⟨rfl, rfl, a1, a2, a3⟩
  exact ⟨rfl, _, rfl, a1, a2, a3, .inl (Nat.max_eq_right hn)⟩
 ·rintro c st' ⟨rfl, m, rfl, a1, a2, a3, a4⟩
  exact h m a1 a2 a3 a4
structure Dn2 (R : Keyed -> Nat) (xs : Array Keyed) (lo n q : Nat) : Prop where
 d : Dsg R xs lo n
 hq : q + 1 <= n
 e : ∀ i, lo + n - (q + 1) <= i -> i < lo + n -> R (atK xs i) = R (atK xs (lo + n - 1))
theorem Dn2.turn {xs ys : Array Keyed} {lo n q : Nat} (D : Dn2 R xs lo n q) (e : ∀ k, atK ys k = if lo + n - (q + 1) <= k /\ k < lo + n then atK xs (lo + n - (q + 1) + (lo + n) - 1 - k) else atK xs k) (k : Nat) : R (atK ys k) = R (atK xs k) := by
 rw [e];split
 ·rename_i g;have := D.hq;rw [D.e _ (by walk_at "o") (by walk_at "o"), D.e k g.1 g.2]
 ·rfl
theorem Dsg.of {xs ys : Array Keyed} {lo n : Nat} (D : Dsg R xs lo n) (e : ∀ k, R (atK ys k) = R (atK xs k)) : Dsg R ys lo n := fun i j a b c => by rw [e, e]; exact D i j a b c
theorem tail1 {lo n i : Nat} (h1 : lo + n - (0 + 1) <= i) (h2 : i < lo + n) : i = lo + n - 1 := by walk_at "o"
theorem rv_le {lo x q : Nat} (h : q + 1 <= x) : lo <= lo + x - (q + 1) := by walk_at "o"
theorem tail2 {lo n q i : Nat} (h : q + 1 <= n) (h1 : lo + (n + 1) - (q + 1 + 1) <= i) (h2 : i < lo + (n + 1)) (h3 : ¬ i = lo + n) : lo + n - (q + 1) <= i /\ i < lo + n := by walk_at "o"
theorem dn_one {xs : Array Keyed} {lo n : Nat} (d : Dsg R xs lo n) (h : 1 <= n) : Dn2 R xs lo n 0 := ⟨d, h, fun i z1 z2 => by rw [tail1 z1 z2]⟩
theorem dn_more {xs : Array Keyed} {lo n q : Nat} (D : Dn2 R xs lo n q) (d : Dsg R xs lo (n + 1)) (e : R (atK xs (lo + n)) = R (atK xs (lo + n - 1))) : Dn2 R xs lo (n + 1) (q + 1) := by
 refine ⟨d, succ_le_succ D.hq, fun i z1 z2 => ?_⟩;rw [Nat.add_succ_sub_one, e]
 by_cases g : i = lo + n
 ·rw [g, e]
 ·exact D.e i (tail2 D.hq z1 z2 g).1 (tail2 D.hq z1 z2 g).2
theorem rev_seg {f g : Nat -> Nat} {lo m : Nat} (e : ∀ k, g k = if lo <= k /\ k < lo + m then f (lo + (lo + m) - 1 - k) else f k) (d : ∀ i j, lo <= i -> i <= j -> j < lo + m -> f j <= f i) (i j : Nat) (z1 : lo <= i) (z2 : i <= j) (z3 : j < lo + m) : g i <= g j := by
 rw [e, e, if_pos ⟨z1, lt_of_le_of_lt z2 z3⟩, if_pos ⟨le_trans z1 z2, z3⟩];have q : lo <= lo + (lo + m) - 1 - j /\ lo + (lo + m) - 1 - j <= lo + (lo + m) - 1 - i /\ lo + (lo + m) - 1 - i < lo + m := by clear e d; walk_at "oo"
 exact d _ _ q.1 q.2.1 q.2.2
theorem t_dsc {st0 st : SortSt} {lo n nrem : Nat} {Q : Option Nat -> SortSt -> Prop} (an : Ans prog w A s κ R S) (hS : ∀ x ∈ (arrOf st0).toList, S x) (b : Bs κ st0 st lo (lo + nrem)) (hz : lo + nrem <= (arrOf st0).size) (h1 : 1 <= n) (hn : n + 1 <= nrem) (dg : Dsg R (arrOf st) lo (n + 1))
  (h : ∀ m st', Bs κ st0 st' lo (lo + nrem) -> 1 <= m -> m <= nrem -> Seg R (arrOf st') lo m -> Q (some m) st') : wpS (model prog w) A E s (dsc lo n nrem) Q st := by
 unfold dsc;have one : ∀ {x}, n + 1 <= x -> 1 <= x := fun z => le_trans (succ_le_succ (zero_le n)) z;refine t_rule (wpS_bind (t_for (fun p : Nat × Nat => ((none, p.1, p.2) : Option (Option Nat) × Nat × Nat)) (fun x p st' => p.1 = x /\ Bs κ st0 st' lo (lo + nrem) /\ n + 1 <= x /\ x <= nrem /\ Dn2 R (arrOf st') lo x p.2)
  (fun c st' => ∃ m q, c = (none, m, q) /\ Bs κ st0 st' lo (lo + nrem) /\ n + 1 <= m /\ m <= nrem /\ Dn2 R (arrOf st') lo m q) (t := (n + 1, 0)) ⟨rfl, b, le_refl _, hn, dn_one dg (one (le_refl _))⟩ ?_ ?_ ?_))
 ·rintro x ⟨_, q⟩ st' x2 ⟨rfl, b', a1, a2, D⟩
  dsimp only at x2 a1 a2 D ⊢;have kz := lt_of_lt_of_le (add_lt_add_left x2 lo) hz;have kz' := lt_of_le_of_lt (sub_le _ 1) kz;have ext : ∀ ys : Array Keyed, (∀ k, R (atK ys k) = R (atK (arrOf st') k)) -> _ -> Dsg R ys lo _ := fun ys e hl => Dsg.of (dsg_ext (f := fun i => R (atK (arrOf st') i)) (one a1) D.d hl) e;refine wpS_bind (t_ltAt an hS b' kz kz' (t_ite (fun hl => ?_) fun hl => ?_))
  ·have hl' := le_of_lt (of_decide_eq_true hl);exact t_ite (fun _ => wpS_bind (t_rev b' (rv_le D.hq) (add_le_add_left a2 lo) hz fun st2 b2 e => wpS_pure ⟨(_, 0), rfl, rfl, b2, le_succ_of_le a1, x2, dn_one (ext _ (D.turn e) hl') (succ_le_succ (zero_le _))⟩)) fun _ =>
    wpS_pure ⟨(_, 0), rfl, rfl, b', le_succ_of_le a1, x2, dn_one (ext _ (fun _ => rfl) hl') (succ_le_succ (zero_le _))⟩
  ·refine wpS_bind (t_ltAt an hS b' kz' kz (t_ite (fun hm => wpS_pure ⟨_, q, rfl, b', a1, a2, D⟩) fun hm => ?_));have eq := le_antisymm (le_of_not_lt fun z => hm (decide_eq_true z)) (le_of_not_lt fun z => hl (decide_eq_true z));exact wpS_pure ⟨(_, q + 1), rfl, rfl, b', le_succ_of_le a1, x2, dn_more D (ext _ (fun _ => rfl) (le_of_eq eq)) eq⟩
 ·rintro ⟨_, q⟩ st' ⟨rfl, b', a1, a2, D⟩
  exact ⟨_, q, rfl, b', a1, a2, D⟩
 ·rintro c st' ⟨m, q, rfl, b', a1, a2, D⟩
  have fin : ∀ st2, Bs κ st0 st2 lo (lo + nrem) -> Dsg R (arrOf st2) lo m -> wpS (model prog w) A E s (do
    reverseSlice' lo (lo + m)
    let mut n := m
    for _ in [n:nrem] do
     let some less <- ltAt' (lo + n) (lo + n - 1) | return none
     if less then break
     n := n + 1
    return some n) Q st2 := fun st2 b2 d2 =>
   wpS_bind (t_rev b2 (le_refl _) (add_le_add_left a2 lo) hz fun st3 b3 e => wpS_bind (t_asc an hS b3 hz (one a1) a2 (rev_seg (f := fun i => R (atK (arrOf st2) i)) (g := fun i => R (atK (arrOf st3) i)) (fun k => by rw [e, apply_ite R]) d2) fun m' z1 z2 z3 _ => wpS_pure (h m' st3 b3 (le_trans (one a1) z1) z2 z3)))
  exact t_ite (fun _ => wpS_bind (t_rev b' (rv_le D.hq) (add_le_add_left a2 lo) hz fun st2 b2 e => fin st2 b2 (D.d.of (D.turn e)))) fun _ => fin st' b' D.d
theorem one_seg {lo i j : Nat} (h1 : lo <= i) (h2 : i <= j) (h3 : j < lo + 1) : i = j := by walk_at "o"
theorem t_count {st : SortSt} {lo nrem : Nat} {Q : Option Nat -> SortSt -> Prop} (an : Ans prog w A s κ R S) (hS : ∀ x ∈ (arrOf st).toList, S x) (hk : kindOf st = κ) (h1 : 1 <= nrem) (hz : lo + nrem <= (arrOf st).size)
  (h : ∀ m st', Bs κ st st' lo (lo + nrem) -> 1 <= m -> m <= nrem -> Seg R (arrOf st') lo m -> Q (some m) st') : wpS (model prog w) A E s (countRun' lo nrem) Q st := by
 rw [cnt_eq];have b0 : Bs κ st st lo (lo + nrem) := ⟨hk, rfl, rfl, Array.Perm.refl _, fun _ _ => rfl⟩;refine wpS_bind (t_asc an hS b0 hz (le_refl 1) h1 (fun i j z1 z2 z3 => by rw [one_seg z1 z2 z3]; exact le_refl _) fun n n1 n2 sg hd => t_ite (fun _ => wpS_pure (h n st b0 n1 n2 sg)) fun e1 => ?_)
 have ne : n ≠ nrem := fun z => e1 (beq_iff_eq.mpr z);have hd' := le_of_lt (hd.resolve_left ne);have lt : n + 1 <= nrem := lt_of_le_of_ne n2 ne;have zn : lo + n - 1 < lo + n := sub_lt (lt_of_lt_of_le n1 (Nat.le_add_left n lo)) one_pos;have zz : lo + n <= (arrOf st).size := le_trans (add_le_add_left n2 lo) hz;have lz : lo < lo + n := Nat.lt_add_of_pos_right n1;refine t_ite (fun _ => ?_) fun e2 => ?_
 ·refine wpS_bind (t_ltAt an hS b0 (lt_of_lt_of_le lz zz) (lt_of_lt_of_le zn zz) (t_ite (fun _ => wpS_pure (h n st b0 n1 n2 sg)) fun hl => ?_));have hl := le_of_not_lt fun z => hl (decide_eq_true z);refine wpS_bind (t_rev b0 (le_refl _) (add_le_add_left n2 lo) hz fun st2 b2 e => t_dsc an hS b2 hz n1 lt ?_ h);have same : ∀ k, lo <= k -> k < lo + n -> R (atK (arrOf st) k) = R (atK (arrOf st) lo) := fun k k1 k2 =>
   le_antisymm (le_trans (sg k _ k1 (le_pred_of_lt k2) zn) hl) (sg lo k (le_refl _) k1 k2)
  have ev : ∀ k, R (atK (arrOf st2) k) = R (atK (arrOf st) k) := fun k => by
   rw [e];split
   ·rename_i g;have q : lo <= lo + (lo + n) - 1 - k /\ lo + (lo + n) - 1 - k < lo + n := by clear e same sg hd' hl h b0 b2; walk_at "oo"
    rw [same _ q.1 q.2, same k g.1 g.2]
   ·rfl
  exact Dsg.of (dsg_ext (f := fun i => R (atK (arrOf st) i)) n1 (fun i j z1 z2 z3 => le_of_eq ((same j (le_trans z1 z2) z3).trans (same i z1 (lt_of_le_of_lt z2 z3)).symm)) hd') ev
 ·have e : n = 1 := le_antisymm (le_of_not_lt e2) n1;subst e;exact t_dsc an hS b0 hz n1 lt (dsg_ext (f := fun i => R (atK (arrOf st) i)) n1 (fun i j z1 z2 z3 => by rw [one_seg z1 z2 z3]; exact le_refl _) hd') h
end
section
variable {R : Keyed -> Nat} {xs : Array Keyed} {U V r T : List Keyed}
theorem atK_opt (xs : Array Keyed) (i : Nat) : atK xs i = (xs.toList[i]?).getD (Value.none, Value.none) := by
 unfold atK;rw [Array.getD_eq_getD_getElem?, Array.getElem?_toList]
theorem atK_app (h : xs.toList = U ++ (r ++ V)) {i : Nat} (hi : i < r.length) : atK xs (U.length + i) = r[i] := by
 rw [atK_opt, h, List.getElem?_append_right (by walk_at "o"), Nat.add_sub_cancel_left, List.getElem?_append_left hi, getElem?_eq_getElem hi]
 rfl
noncomputable def Pd (R : Keyed -> Nat) : Nat -> List (Nat × Nat × Nat) -> List (List Keyed) -> Prop
 | _, [], [] => True
 | lo, x :: p, r :: rs => x.1 = lo /\ x.2.1 = r.length /\ 1 <= r.length /\ Up R r /\ Pd R (lo + r.length) p rs
 | _, _, _ => False
theorem Pd.split {x y : Nat × Nat × Nat} {pr : List (Nat × Nat × Nat)} : ∀ {pl : List (Nat × Nat × Nat)} {lo : Nat} {rs : List (List Keyed)}, Pd R lo (pl ++ x :: y :: pr) rs -> ∃ rl ra rb rr, rs = rl ++ ra :: rb :: rr /\ x.1 = lo + rl.flatten.length /\ x.2.1 = ra.length /\ 1 <= ra.length /\ Up R ra
  /\ y.1 = lo + rl.flatten.length + ra.length /\ y.2.1 = rb.length /\ 1 <= rb.length /\ Up R rb /\ ∀ rc, rc.length = ra.length + rb.length -> Up R rc -> Pd R lo (pl ++ (x.1, x.2.1 + y.2.1, x.2.2) :: pr) (rl ++ rc :: rr)
 | [], lo, [], h => h.elim
 | [], lo, [_], h => h.2.2.2.2.elim
 | [], lo, ra :: rb :: rr, ⟨a1, a2, a3, a4, b1, b2, b3, b4, b5⟩ => ⟨[], ra, rb, rr, rfl, a1, a2, a3, a4, b1, b2, b3, b4, fun rc e u => ⟨a1, by rw [e, <- a2, <- b2], by walk_at "o", u, by rw [e, <- add_assoc]; exact b5⟩⟩
 | z :: pl, lo, [], h => h.elim
 | z :: pl, lo, r :: rs, ⟨a1, a2, a3, a4, h⟩ => by
  obtain ⟨rl, ra, rb, rr, e, c1, c2, c3, c4, c5, c6, c7, c8, c9⟩ := Pd.split h;subst e;refine ⟨r :: rl, ra, rb, rr, rfl, ?_, c2, c3, c4, ?_, c6, c7, c8, fun rc e u => ⟨a1, a2, a3, a4, c9 rc e u⟩⟩
  ·rw [c1, flatten_cons, length_append]; walk_at "oo"
  ·rw [c5, flatten_cons, length_append]; walk_at "oo"
theorem Pd.push {st n w : Nat} : ∀ {p : List (Nat × Nat × Nat)} {lo : Nat} {rs : List (List Keyed)}, Pd R lo p rs -> st = lo + rs.flatten.length -> n = r.length -> 1 <= r.length -> Up R r -> Pd R lo (p ++ [(st, n, w)]) (rs ++ [r])
 | [], lo, [], _, e, h1, h2, h3 => ⟨e, h1, h2, h3, trivial⟩
 | [], _, _ :: _, h, _, _, _, _ => h.elim
 | _ :: _, _, [], h, _, _, _, _ => h.elim
 | x :: p, lo, q :: rs, ⟨a1, a2, a3, a4, h⟩, e, h1, h2, h3 => ⟨a1, a2, a3, a4, h.push (by rw [e, flatten_cons, length_append]; walk_at "oo") h1 h2 h3⟩
theorem Pd.len : ∀ {p : List (Nat × Nat × Nat)} {lo : Nat} {rs : List (List Keyed)}, Pd R lo p rs -> p.length = rs.length /\ rs.length <= rs.flatten.length
 | [], _, [], _ => ⟨rfl, le_refl _⟩
 | [], _, _ :: _, h => h.elim
 | _ :: _, _, [], h => h.elim
 | x :: p, lo, q :: rs, ⟨_, _, a3, _, h⟩ => by
  have := h.len;rw [flatten_cons, length_append, length_cons, length_cons];walk_at "oo"
theorem Pd.of : ∀ {p p' : List (Nat × Nat × Nat)} {lo : Nat} {rs : List (List Keyed)}, Pd R lo p rs -> p.map (fun x => (x.1, x.2.1)) = p'.map (fun x => (x.1, x.2.1)) -> Pd R lo p' rs
 | [], [], _, _, h, _ => h
 | [], _ :: _, _, _, _, e => by simp at e
 | _ :: _, [], _, _, _, e => by simp at e
 | _ :: _, _ :: _, _, [], h, _ => h.elim
 | x :: p, y :: p', lo, q :: rs, ⟨a1, a2, a3, a4, h⟩, e => by
  simp only [map_cons, List.cons.injEq, Prod.mk.injEq] at e;exact ⟨e.1.1 ▸ a1, e.1.2 ▸ a2, a3, a4, h.of e.2⟩
theorem wrK {base : Nat} : ∀ (l : List Keyed) (n : Nat) (xs : Array Keyed), base + n + l.length <= xs.size -> ((l.zipIdx n).foldl (fun a (x : Keyed × Nat) => a.setIfInBounds (base + x.2) x.1) xs).toList = xs.toList.take (base + n) ++ (l ++ xs.toList.drop (base + n + l.length))
 | [], n, xs, _ => by simp
 | x :: l, n, xs, h => by
  rw [length_cons] at h;rw [List.zipIdx_cons, foldl_cons, wrK l (n + 1) _ (by rw [Array.size_setIfInBounds]; walk_at "oo")]
  have hl : base + n < xs.toList.length := by rw [Array.length_toList]; walk_at "oo"
  rw [Array.toList_setIfInBounds, List.drop_set_of_lt (by walk_at "o"), length_cons, show base + (n + 1) + l.length = base + n + (l.length + 1) by walk_at "o", <- add_assoc base n 1,
   List.take_succ_eq_append_getElem (by rw [List.length_set]; exact hl), List.getElem_set_self, List.take_set_of_le (le_refl _)]
  simp
theorem Up.app {a b : List Keyed} (ha : Up R a) (hb : Up R b) (h : ∀ x ∈ a, ∀ y ∈ b, R x <= R y) : Up R (a ++ b) := pairwise_append.mpr ⟨ha, hb, h⟩
theorem Up.lt {a b : List Keyed} (h : Up R (a ++ b)) : Up R a := (pairwise_append.mp h).1
theorem Up.rt {a b : List Keyed} (h : Up R (a ++ b)) : Up R b := (pairwise_append.mp h).2.1
theorem Up.cr {a b : List Keyed} (h : Up R (a ++ b)) : ∀ x ∈ a, ∀ y ∈ b, R x <= R y := (pairwise_append.mp h).2.2
end
section
variable {prog : Program} {w : World} {A : Around} {E : Value -> Shared -> Prop} {s : Shared} {κ : SortKind} {R : Keyed -> Nat} {S : Keyed -> Prop}
theorem lt_mid {xs : Array Keyed} {U r V : List Keyed} {i : Nat} (h : xs.toList = U ++ (r ++ V)) (hi : i < r.length) : U.length + i < xs.size := by
 rw [<- Array.length_toList, h, length_append, length_append];exact add_lt_add_left (lt_of_lt_of_le hi (le_add_right _ _)) _
theorem le_mid {xs : Array Keyed} {U r V : List Keyed} (h : xs.toList = U ++ (r ++ V)) : U.length + r.length <= xs.size := by
 rw [<- Array.length_toList, h, length_append, length_append];exact add_le_add_left (le_add_right _ _) _
theorem drop_mid {l U r V : List Keyed} (h : l = U ++ (r ++ V)) : l.drop (U.length + r.length) = V := by
 rw [h, <- append_assoc];exact List.drop_left' (length_append ..)
theorem t_galL {left : Bool} {key : Keyed} {xs : Array Keyed} {U r V : List Keyed} {base n hint : Nat} {st : SortSt} {Q : Option Nat -> SortSt -> Prop} (an : Ans prog w A s κ R S) (hk : kindOf st = κ) (hx : xs.toList = U ++ (r ++ V)) (hb : base = U.length) (hn : n = r.length)
  (sr : ∀ x ∈ r, S x) (sk : S key) (hh : hint < n) (up : Up R r) (h : ∀ r1 r2, r = r1 ++ r2 -> (∀ x ∈ r1, Far R left key x = true) -> (∀ x ∈ r2, Far R left key x = false) -> Q (some r1.length) st) :
  wpS (model prog w) A E s (gallop' left key xs base n hint) Q st := by
 subst hb hn;refine t_gal an hk (fun i h1 h2 => ?_) sk (le_mid hx) hh (fun i j h1 h2 h3 => ?_) fun k hk1 c1 c2 => ?_
 ·obtain ⟨d, rfl⟩ := Nat.exists_eq_add_of_le h1;rw [atK_app hx (Nat.lt_of_add_lt_add_left h2)];exact sr _ (getElem_mem _)
 ·obtain ⟨d, rfl⟩ := Nat.exists_eq_add_of_le h1;obtain ⟨d', rfl⟩ := Nat.exists_eq_add_of_le (le_trans h1 h2);have l' := Nat.lt_of_add_lt_add_left h3;have l := Nat.le_of_add_le_add_left h2;rw [atK_app hx (lt_of_le_of_lt l l'), atK_app hx l'];rcases lt_or_ge d d' with g | g
  ·exact pairwise_iff_getElem.mp up _ _ _ _ g
  ·have : d = d' := le_antisymm l g;subst this;exact le_refl _
 ·have := h (r.take k) (r.drop k) (take_append_drop k r).symm (fun x hx' => ?_) fun x hx' => ?_
  ·rwa [length_take, min_eq_left hk1] at this
  ·obtain ⟨i, hi, e⟩ := mem_iff_getElem.mp hx';rw [getElem_take] at e;rw [length_take, min_eq_left hk1] at hi;have c := c1 (U.length + i) (le_add_right _ _) (add_lt_add_left hi _);rw [atK_app hx (lt_of_lt_of_le hi hk1)] at c;rwa [<- e]
  ·obtain ⟨i, hi, e⟩ := mem_iff_getElem.mp hx';rw [getElem_drop] at e;rw [length_drop] at hi;have l := Nat.add_lt_of_lt_sub' hi;have c := c2 (U.length + (k + i)) (add_le_add_left (le_add_right _ _) _) (add_lt_add_left l _);rw [atK_app hx l] at c;rwa [<- e]
theorem mergeAt'_eq (i : Nat) : mergeAt' i = (do
 let s <- get
 let (some (a, m, q), some (b, n, _)) := ((pendingOf s)[i]?, (pendingOf s)[i + 1]?) | unsupported ("internal:list.sort.pending")
 set (setPending s (((pendingOf s).setIfInBounds i (a, m + n, q)).eraseIdxIfInBounds (i + 1)))
 let some k <- gallop' false (<- elem' (arrOf s) b) (arrOf s) a m 0 | return false
 let (a, m) := (a + k, m - k)
 if m == 0 then return true
 let some n <- gallop' true (<- elem' (arrOf s) (a + m - 1)) (arrOf s) b n (n - 1) | return false
 if n == 0 then return true
 let x := (arrOf s).extract a b
 let y := (arrOf s).extract b (b + n)
 let out <- if m <= n then mergeLo' x y else mergeHi' x y
 modify fun s => setArr s (out.toList.zipIdx.foldl (fun z (p, j) => z.setIfInBounds (a + j) p) (arrOf s))
 return (failedOf (<- get)).isNone) := rfl
structure Ps (κ : SortKind) (R : Keyed -> Nat) (T : List Keyed) (st : SortSt) (rs : List (List Keyed)) (rest : List Keyed) : Prop where
 k : kindOf st = κ
 f : failedOf st = none
 pd : Pd R 0 (pendingOf st).toList rs
 ar : (arrOf st).toList = rs.flatten ++ rest
 pm : (arrOf st).toList.Perm T
theorem two_at {α : Type} {p : Array α} {i : Nat} (h : i + 1 < p.size) : ∃ pl x y pr, p = (pl ++ x :: y :: pr).toArray /\ pl.length = i := by
 refine ⟨p.toList.take i, p.toList[i]'(by simp; walk_at "oo"), p.toList[i + 1]'(by simpa using h), p.toList.drop (i + 2), ?_, by simp; walk_at "oo"⟩
 apply Array.toList_inj.mp;rw [<- drop_eq_getElem_cons, <- drop_eq_getElem_cons, take_append_drop]
theorem wpS_set' {σ : Type} {M : Model} {v : σ} {Q : PUnit -> σ -> Prop} {st : σ} (h : Q ⟨⟩ v) : wpS M A E s (set v : StateT σ Sem PUnit) Q st := by
 unfold wpS;rw [StateT.run_set];exact wpAny_pure ⟨rfl, h⟩
theorem ext_mid {xs : Array Keyed} {U r V : List Keyed} {i j : Nat} (h : xs.toList = U ++ (r ++ V)) (hi : i = U.length) (hj : j = i + r.length) : (xs.extract i j).toList = r := by
 subst hj hi;rw [Array.toList_extract, List.extract_eq_take_drop, h, List.drop_left, Nat.add_sub_cancel_left, List.take_left]
theorem t_mergeAt {T : List Keyed} {st : SortSt} {rs : List (List Keyed)} {rest : List Keyed} {i : Nat} {Q : Bool -> SortSt -> Prop} (an : Ans prog w A s κ R S) (hS : ∀ x ∈ T, S x) (P : Ps κ R T st rs rest) (hi : i + 1 < (pendingOf st).size)
  (h : ∀ st' rs', Ps κ R T st' rs' rest -> (pendingOf st').size + 1 = (pendingOf st).size -> Q true st') : wpS (model prog w) A E s (mergeAt' i) Q st := by
 obtain ⟨hk, hf, pd, ar, pm⟩ := P;obtain ⟨pl, ⟨a, m, q⟩, ⟨b, n, q'⟩, pr, ep, el⟩ := two_at hi;rw [ep] at pd;obtain ⟨rl, ra, rb, rr, rfl, c1, c2, c3, c4, c5, c6, c7, c8, c9⟩ := pd.split;dsimp only at c1 c2 c5 c6;rw [mergeAt'_eq];refine wpS_bind (wpS_get ?_);rw [ep];have g1 : (pl ++ (a, m, q) :: (b, n, q') :: pr).toArray[i]? = some (a, m, q) := by subst el; simp
 have g2 : (pl ++ (a, m, q) :: (b, n, q') :: pr).toArray[i + 1]? = some (b, n, q') := by subst el; simp
 rw [g1, g2];dsimp only;refine wpS_bind (wpS_set' ?_);have e2 : (((pl ++ (a, m, q) :: (b, n, q') :: pr).toArray.setIfInBounds i (a, m + n, q)).eraseIdxIfInBounds (i + 1)) = (pl ++ (a, m + n, q) :: pr).toArray := by
  subst el;simp [List.eraseIdx_append_of_length_le]
 rw [e2];have hS' : ∀ x ∈ (arrOf st).toList, S x := fun x hx => hS x (pm.mem_iff.mp hx);have ea : (arrOf st).toList = rl.flatten ++ (ra ++ (rb ++ (rr.flatten ++ rest))) := by rw [ar]; simp
 have eb : (arrOf st).toList = (rl.flatten ++ ra) ++ (rb ++ (rr.flatten ++ rest)) := by rw [ar]; simp
 have sra : ∀ x ∈ ra, S x := fun x hx => hS' x (by rw [ea]; simp [hx])
 have srb : ∀ x ∈ rb, S x := fun x hx => hS' x (by rw [ea]; simp [hx])
 rw [zero_add] at c1 c5;have lb : (rl.flatten ++ ra).length = b := by rw [length_append, c5]
 have hb : b < (arrOf st).size := lb ▸ lt_mid (i := 0) eb c7;have b0 : atK (arrOf st) b = rb[0] := by
  have := atK_app eb (i := 0) c7;rwa [lb] at this
 have same : ∀ st1 : SortSt, kindOf st1 = κ -> failedOf st1 = none -> arrOf st1 = arrOf st -> pendingOf st1 = (pl ++ (a, m + n, q) :: pr).toArray -> (∀ x ∈ ra, ∀ y ∈ rb, R x <= R y) -> Q true st1 := fun st1 z1 z2 z3 z4 z5 => by
  refine h st1 (rl ++ (ra ++ rb) :: rr) ⟨z1, z2, ?_, ?_, by rw [z3]; exact pm⟩ ?_
  ·rw [z4]; exact c9 _ (length_append ..) (c4.app c8 z5)
  ·rw [z3, ar]; simp
  ·rw [z4, ep]; simp only [size_toArray, length_append, length_cons]; rfl
 refine wpS_bind (t_elem (atK_get hb) (wpS_bind (t_galL (S := S) an hk ea c1 c2 sra (by rw [b0]; exact srb _ (getElem_mem _)) (c2 ▸ c3) c4 fun r1 r2 e f1 f2 => ?_)))
 subst e;rw [b0] at f1 f2;have hb0 : ∀ y ∈ rb, R rb[0] <= R y := fun y hy => by
  obtain ⟨j, hj, rfl⟩ := mem_iff_getElem.mp hy;rcases Nat.eq_zero_or_pos j with g | g
  ·subst g; exact le_refl _
  ·exact pairwise_iff_getElem.mp c8 0 j (by walk_at "o") hj g
 rw [length_append] at c2;have m2 : m - r1.length = r2.length := by rw [c2, Nat.add_sub_cancel_left]
 refine t_ite (fun e1 => ?_) fun e1 => ?_
 ·have : r2 = [] := length_eq_zero_iff.mp (m2 ▸ eq_of_beq e1);subst this;refine wpS_pure (same _ hk hf rfl rfl fun x hx y hy => ?_);rw [append_nil] at hx;exact le_trans (far_f.1.mp (f1 x hx)) (hb0 y hy)
 have e1' : 0 < r2.length := pos_of_ne_zero fun z => e1 (beq_iff_eq.mpr (m2.trans z));have p2 : r2.length - 1 < r2.length := sub_lt e1' one_pos;have ec : (arrOf st).toList = (rl.flatten ++ r1) ++ (r2 ++ (rb ++ (rr.flatten ++ rest))) := by rw [ea, append_assoc r1, append_assoc rl.flatten]
 have ia : a + r1.length + (m - r1.length) - 1 = (rl.flatten ++ r1).length + (r2.length - 1) := by rw [m2, length_append, c1, Nat.add_sub_assoc e1']
 have la : atK (arrOf st) (a + r1.length + (m - r1.length) - 1) = r2[r2.length - 1] := by rw [ia, atK_app ec p2]
 have ha : a + r1.length + (m - r1.length) - 1 < (arrOf st).size := ia ▸ lt_mid ec p2;have lst : ∀ x ∈ r1 ++ r2, R x <= R r2[r2.length - 1] := fun x hx => by
  rcases mem_append.mp hx with g | g
  ·exact c4.cr x g _ (getElem_mem _)
  ·obtain ⟨j, hj, rfl⟩ := mem_iff_getElem.mp g;rcases lt_or_ge j (r2.length - 1) with g2 | g2
   ·exact pairwise_iff_getElem.mp c4.rt j _ hj p2 g2
   ·have : j = r2.length - 1 := le_antisymm (le_pred_of_lt hj) g2;subst this; exact le_refl _
 refine wpS_bind (t_elem (atK_get ha) (wpS_bind (t_galL (S := S) an hk eb lb.symm c6 srb (by rw [la]; exact sra _ (mem_append_right _ (getElem_mem _))) (sub_lt (c6 ▸ c7) one_pos) c8 fun r3 r4 e g1 g2 => ?_)))
 subst e;rw [la] at g1 g2;refine t_ite (fun e3 => ?_) fun e3 => ?_
 ·have : r3 = [] := length_eq_zero_iff.mp (eq_of_beq e3);subst this;exact wpS_pure (same _ hk hf rfl rfl fun x hx y hy => le_trans (lst x hx) (far_t.2.mp (g2 y hy)))
 have e3' : 0 < r3.length := pos_of_ne_zero fun z => e3 (beq_iff_eq.mpr z);have a1 : a + r1.length = (rl.flatten ++ r1).length := by rw [length_append, c1]
 have b1 : b = a + r1.length + r2.length := by rw [<- lb, length_append, length_append, c1, add_assoc]
 have ex : ((arrOf st).extract (a + r1.length) b).toList = r2 := ext_mid ec a1 b1;have ed : (arrOf st).toList = (rl.flatten ++ (r1 ++ r2)) ++ (r3 ++ (r4 ++ (rr.flatten ++ rest))) := by rw [eb, append_assoc r3]
 have ey : ((arrOf st).extract b (b + r3.length)).toList = r3 := ext_mid ed lb.symm rfl;have zx : ((arrOf st).extract (a + r1.length) b).size = r2.length := by rw [<- Array.length_toList, ex]
 have zy : ((arrOf st).extract b (b + r3.length)).size = r3.length := by rw [<- Array.length_toList, ey]
 have L : Lo prog w A s κ R S ((arrOf st).extract (a + r1.length) b) ((arrOf st).extract b (b + r3.length)) := by
  refine ⟨an, ?_, ?_, ?_, ?_, ?_, ?_⟩
  ·rw [ex]; exact fun x hx => sra x (mem_append_right _ hx)
  ·rw [ey]; exact fun x hx => srb x (mem_append_left _ hx)
  ·rw [ex]; exact c4.rt
  ·rw [ey]; exact c8.lt
  ·rw [ex];intro x hx;rw [atK_opt, ey, getElem?_eq_getElem e3'];have := far_f.2.mp (f2 x hx);rwa [List.getElem_append_left e3'] at this
  ·rw [ey];intro y hy;rw [atK_opt, ex, zx, getElem?_eq_getElem p2];exact far_t.1.mp (g1 y hy)
 have fin : ∀ out st', Dn κ R ((arrOf st).extract (a + r1.length) b) ((arrOf st).extract b (b + r3.length)) (setPending st (pl ++ (a, m + n, q) :: pr).toArray) out st' -> wpS (model prog w) A E s (do
   modify fun s => setArr s (out.toList.zipIdx.foldl (fun z (p, j) => z.setIfInBounds (a + r1.length + j) p) (arrOf s))
   return (failedOf (<- get)).isNone) Q st' := by
  rintro out st' ⟨⟨z1, z2, z3, z4⟩, u, pq⟩
  have z2' : arrOf st' = arrOf st := z2;have z3' : pendingOf st' = (pl ++ (a, m + n, q) :: pr).toArray := z3;have z4' : failedOf st' = none := z4.trans hf;rw [ex, ey] at pq;have lo' : out.toList.length = r2.length + r3.length := by rw [pq.length_eq, length_append]
  refine wpS_bind (wpS_modify (wpS_bind (wpS_get (wpS_pure ?_))));show Q (failedOf st').isNone _
  rw [z4'];have wr : (out.toList.zipIdx.foldl (fun z (x : Keyed × Nat) => z.setIfInBounds (a + r1.length + x.2) x.1) (arrOf st')).toList = (rl ++ (r1 ++ (out.toList ++ r4)) :: rr).flatten ++ rest := by
   have ee : (arrOf st).toList = (rl.flatten ++ r1) ++ ((r2 ++ r3) ++ (r4 ++ (rr.flatten ++ rest))) := by rw [ec]; simp only [append_assoc]
   have le : a + r1.length + out.toList.length = (rl.flatten ++ r1).length + (r2 ++ r3).length := by rw [lo', length_append (as := r2), a1]
   rw [wrK _ 0 _ (by rw [z2', Nat.add_zero, le]; exact le_mid ee), z2', Nat.add_zero, le]
   have t1 : (arrOf st).toList.take (a + r1.length) = rl.flatten ++ r1 := by rw [ee]; exact List.take_left' a1.symm
   have t2 := drop_mid ee;rw [t1, t2];simp
  have low : ∀ x ∈ r1, ∀ y ∈ r3 ++ r4, R x <= R y := fun x hx y hy => le_trans (far_f.1.mp (f1 x hx)) (hb0 y hy);refine h _ (rl ++ (r1 ++ (out.toList ++ r4)) :: rr) ⟨z1, z4', ?_, wr, ?_⟩ ?_
  ·show Pd R 0 (pendingOf st').toList _;rw [z3'];refine c9 _ (by simp only [length_append, lo']; clear z1 z2 z3 z4 u; walk_at "oo") (c4.lt.app (Up.app u c8.rt fun x hx y hy => ?_) fun x hx y hy => ?_)
   ·rcases mem_append.mp (pq.mem_iff.mp hx) with g | g
    ·exact le_trans (lst x (mem_append_right _ g)) (far_t.2.mp (g2 y hy))
    ·exact c8.cr x g y hy
   ·rcases mem_append.mp hy with g | g
    ·rcases mem_append.mp (pq.mem_iff.mp g) with g' | g'
     ·exact c4.cr x hx y g'
     ·exact low x hx y (mem_append_left _ g')
    ·exact low x hx y (mem_append_right _ g)
  ·refine List.Perm.trans ?_ pm;show (out.toList.zipIdx.foldl (fun z (x : Keyed × Nat) => z.setIfInBounds (a + r1.length + x.2) x.1) (arrOf st')).toList.Perm _
   rw [wr, ar];refine List.Perm.append_right _ ?_;rw [List.flatten_append, List.flatten_append, flatten_cons, flatten_cons, flatten_cons];refine List.Perm.append_left rl.flatten ?_;rw [<- append_assoc (r1 ++ r2)];refine List.Perm.append_right _ ?_;rw [append_assoc, <- append_assoc r2];exact List.Perm.append_left _ (List.Perm.append_right _ pq)
  ·show (pendingOf st').size + 1 = _;rw [z3', ep]; simp only [size_toArray, length_append, length_cons]; rfl
 have k1 : 1 <= ((arrOf st).extract (a + r1.length) b).size := zx.symm ▸ e1';have k2 : 1 <= ((arrOf st).extract b (b + r3.length)).size := zy.symm ▸ e3';refine t_ite (fun _ => ?_) fun _ => ?_
 ·exact wpS_bind (t_mergeLo L hk k1 k2 fin)
 ·exact wpS_bind (t_mergeHi L hk k1 k2 fin)
theorem Bs.take {st0 st : SortSt} {lo hi : Nat} (b : Bs κ st0 st lo hi) : (arrOf st).toList.take lo = (arrOf st0).toList.take lo := by
 apply List.ext_getElem
 ·rw [length_take, length_take, Array.length_toList, Array.length_toList, b.z]
 ·intro i h1 h2;rw [getElem_take, getElem_take];rw [length_take, Array.length_toList] at h1 h2;rw [atK_list (by walk_at "o"), atK_list (by walk_at "o")]
  exact b.out i (.inl (by walk_at "o"))
theorem Ps.next {T : List Keyed} {st st' : SortSt} {rs : List (List Keyed)} {rest : List Keyed} {lo n hi : Nat} (P : Ps κ R T st rs rest) (hl : rs.flatten.length = lo) (b : Bs κ st st' lo hi) (hn : lo + n <= (arrOf st).size) (sg : Seg R (arrOf st') lo n) :
  ∃ r rest', Ps κ R T st' rs (r ++ rest') /\ r.length = n /\ Up R r := by
 have e := b.take;rw [P.ar, <- hl, List.take_append_of_le_length (le_refl _), take_length] at e;have hz := b.z;refine ⟨((arrOf st').toList.drop lo).take n, (arrOf st').toList.drop (lo + n), ⟨b.k, b.f.trans P.f, by rw [b.p]; exact P.pd, ?_, (Array.perm_iff_toList_perm.mp b.pm).trans P.pm⟩, ?_, ?_⟩
 ·rw [<- cutK, <- e, <- hl, take_append_drop]
 ·rw [length_take, length_drop, Array.length_toList]; walk_at "oo"
 ·refine pairwise_iff_getElem.mpr ?_;intro i j hi hj hij;rw [length_take, length_drop, Array.length_toList] at hi hj;rw [getElem_take, getElem_take, getElem_drop, getElem_drop, atK_list (by walk_at "o"), atK_list (by walk_at "o")]
  exact sg _ _ (by walk_at "o") (by walk_at "o") (by walk_at "o")
theorem Pd.pw {p : Array (Nat × Nat × Nat)} {i q lo : Nat} {rs : List (List Keyed)} (h : Pd R lo p.toList rs) : Pd R lo (p.modify i fun x => (x.1, x.2.1, q)).toList rs := by
 refine h.of ?_;apply List.ext_getElem?;intro j;rw [getElem?_map, getElem?_map, Array.getElem?_toList, Array.getElem?_toList, Array.getElem?_modify];split
 ·cases p[j]? <;> rfl
 ·rfl
theorem Ps.pw {T : List Keyed} {st : SortSt} {rs : List (List Keyed)} {rest : List Keyed} (P : Ps κ R T st rs rest) (i q : Nat) : Ps κ R T (setPending st ((pendingOf st).modify i fun x => (x.1, x.2.1, q))) rs rest :=
 ⟨P.k, P.f, P.pd.pw, P.ar, P.pm⟩
theorem Ps.push {T : List Keyed} {st : SortSt} {rs : List (List Keyed)} {r rest : List Keyed} {lo : Nat} (P : Ps κ R T st rs (r ++ rest)) (e : lo + r.length + rest.length = T.length) (h1 : 1 <= r.length) (u : Up R r) :
  Ps κ R T (setPending st ((pendingOf st).push (lo, r.length, 0))) (rs ++ [r]) rest /\ (rs ++ [r]).flatten.length = lo + r.length := by
 have l := P.pm.length_eq;rw [P.ar] at l;simp only [length_append] at l;refine ⟨⟨P.k, P.f, ?_, ?_, P.pm⟩, ?_⟩
 ·show Pd R 0 ((pendingOf st).push (lo, r.length, 0)).toList _;rw [Array.toList_push];exact P.pd.push (by walk_at "o") rfl h1 u
 ·show (arrOf st).toList = _;rw [P.ar]; simp
 ·simp only [List.flatten_append, flatten_cons, List.flatten_nil, append_nil, length_append]; walk_at "oo"
theorem two_less {n : Nat} (h : 1 < n) : n - 2 + 1 < n := by walk_at "o"
theorem t_sort {st : SortSt} {Q : Unit -> SortSt -> Prop} (an : Ans prog w A s κ R S) (hS : ∀ x ∈ (arrOf st).toList, S x) (hk : kindOf st = κ) (hf : failedOf st = none) (hp : pendingOf st = #[])
  (h : ∀ st', failedOf st' = none -> (arrOf st').toList.Perm (arrOf st).toList -> Up R (arrOf st').toList -> Q () st') : wpS (model prog w) A E s sortRuns' Q st := by
 rw [sortRuns'_eq];have hz : ∀ {st' rs rest}, Ps κ R (arrOf st).toList st' rs rest -> (arrOf st').size = (arrOf st).size := fun P => by rw [<- Array.length_toList, <- Array.length_toList]; exact P.pm.length_eq
 have all : ∀ {st' rs rest}, Ps κ R (arrOf st).toList st' rs rest -> rs.flatten.length = (arrOf st).size -> rest = [] := fun {st' rs rest} P e => by
  have z := hz P;rw [<- Array.length_toList, P.ar, length_append, e] at z;exact length_eq_zero_iff.mp (Nat.add_eq_left.mp z)
 have done : ∀ {st' rs rest lo}, Ps κ R (arrOf st).toList st' rs rest -> rs.flatten.length = lo -> lo = (arrOf st).size -> ∃ rs, ((none : Option Unit), lo) = (none, (arrOf st).size) /\ Ps κ R (arrOf st).toList st' rs [] := fun {st' rs rest lo} P e e2 => by
  subst e2;exact ⟨rs, rfl, all P e ▸ P⟩
 refine wpS_bind (wpS_get (wpS_bind (t_for (fun lo : Nat => ((none, lo) : Option Unit × Nat)) (fun x lo st' => ∃ rs rest, Ps κ R (arrOf st).toList st' rs rest /\ rs.flatten.length = lo /\ lo <= (arrOf st).size /\ (x <= lo \/ lo = (arrOf st).size))
  (fun c st' => ∃ rs, c = (none, (arrOf st).size) /\ Ps κ R (arrOf st).toList st' rs []) (t := 0) ⟨[], (arrOf st).toList, ⟨hk, hf, by rw [hp]; trivial, rfl, List.Perm.refl _⟩, rfl, zero_le _, .inl (zero_le _)⟩ ?_ ?_ ?_)))
 ·rintro x lo st' _ ⟨rs, rest, P, e, h1, h2⟩
  refine t_ite (fun g => wpS_pure (done P e (le_antisymm h1 g))) fun g => ?_;have hS' : ∀ x ∈ (arrOf st').toList, S x := fun x hx => hS x (P.pm.mem_iff.mp hx);have z := hz P;have lt := lt_of_not_ge g;have xlo : x <= lo := h2.resolve_right (ne_of_lt lt);have lez : lo + ((arrOf st).size - lo) <= (arrOf st').size := by rw [z, Nat.add_sub_cancel' h1]; exact le_refl _
  refine wpS_bind (t_count an hS' P.k (Nat.sub_pos_of_lt lt) lez fun m st2 b2 m1 m2 sg => t_ite (fun hm => ?_) fun hm => ?_)
  case' refine_1 =>
   have n1 : 1 <= min ((arrOf st).size - lo) (minRun' (arrOf st).size (arrOf st).size 0) := le_trans m1 (Nat.le_min.mpr ⟨m2, le_of_lt hm⟩);have n2 := Nat.min_le_left ((arrOf st).size - lo) (minRun' (arrOf st).size (arrOf st).size 0);have lez2 := le_trans (add_le_add_left n2 lo) lez;refine t_rule (wpS_bind (t_bin an (fun y hy => hS' y ((Array.perm_iff_toList_perm.mp b2.pm).mem_iff.mp hy)) ⟨b2.k, rfl, rfl, Array.Perm.refl _, fun _ _ => rfl⟩ (by rw [b2.z]; exact lez2) (Nat.le_min.mpr ⟨m2, le_of_lt hm⟩) sg fun st3 b3 s3 => t_ite (fun z => by cases z) fun _ => ?_))
   have b4 : Bs κ st' st3 lo (lo + ((arrOf st).size - lo)) := ⟨b3.k, b3.f.trans b2.f, b3.p.trans b2.p, b3.pm.trans b2.pm, fun i hi => (b3.out i (hi.imp id fun q => le_trans (add_le_add_left n2 lo) q)).trans (b2.out i hi)⟩;obtain ⟨r, rest', P3, e3, u3⟩ := P.next e b4 lez2 s3;clear b2 b3 b4 sg s3
  case' refine_2 =>
   have n1 := m1;have n2 := m2;obtain ⟨r, rest', P3, e3, u3⟩ := P.next e b2 (le_trans (add_le_add_left n2 lo) lez) sg;clear b2 sg
  all_goals
   rw [<- e3] at n1 n2 ⊢;have tl : lo + r.length + rest'.length = (arrOf st).toList.length := by
    have l := P3.pm.length_eq;rw [P3.ar, length_append, length_append, e, <- add_assoc] at l;exact l
   have q1 : lo + r.length <= (arrOf st).size := Nat.add_le_of_le_sub' h1 n2;have q2 : x + 1 <= lo + r.length \/ lo + r.length = (arrOf st).size := .inl (Nat.add_le_add xlo n1);clear h1 h2 g lt xlo lez m1 m2 hm e3 n2 z;refine wpS_bind (wpS_get ?_);split
   ·rename_i s1 n1' q hb;refine wpS_bind (t_for (fun _ : Unit => ((none, ()) : Option Unit × Unit)) (fun _ _ st' => ∃ rs', Ps κ R (arrOf st).toList st' rs' (r ++ rest')) (fun c st' => c = (none, ()) /\ ∃ rs', Ps κ R (arrOf st).toList st' rs' (r ++ rest')) (t := ()) ⟨rs, P3⟩ (fun x _ st4 _ ⟨rs', P'⟩ => wpS_bind (wpS_get ?_)) (fun _ st4 z => ⟨rfl, z⟩) fun c st4 ⟨e, rs4, P4⟩ => ?_)
    ·dsimp only
     by_cases g : (pendingOf st4).size > 1
     ·rw [if_pos g, getElem?_pos (pendingOf st4) ((pendingOf st4).size - 2) (sub_lt (Nat.lt_trans one_pos g) Nat.two_pos)];exact t_ite (fun _ => wpS_pure ⟨rfl, rs', P'⟩) fun _ => wpS_bind (t_mergeAt an hS P' (two_less g) fun st5 rs5 P5 _ => wpS_pure ⟨(), rfl, rs5, P5⟩)
     ·rw [if_neg g];exact wpS_pure ⟨rfl, rs', P'⟩
    ·subst e;obtain ⟨P6, l6⟩ := (P4.pw ((pendingOf st4).size - 1) (power' (arrOf st).size (2 * s1 + n1') (2 * s1 + n1' + n1' + r.length) (arrOf st).size)).push tl n1 u3;exact wpS_bind (wpS_modify (wpS_bind (wpS_modify (wpS_pure ⟨_, rfl, _, _, P6, l6, q1, q2⟩))))
   ·obtain ⟨P6, l6⟩ := P3.push tl n1 u3;exact wpS_bind (wpS_modify (wpS_pure ⟨_, rfl, _, _, P6, l6, q1, q2⟩))
 ·rintro lo st' ⟨rs, rest, P, e, h1, h2⟩
  exact done P e (h2.elim (fun z => le_antisymm h1 (le_trans (le_max_right _ _) z)) id)
 ·rintro c st' ⟨rs, rfl, P⟩
  refine wpS_bind (t_for (fun _ : Unit => ((none, ()) : Option Unit × Unit)) (fun x _ st' => ∃ rs, Ps κ R (arrOf st).toList st' rs [] /\ (pendingOf st').size + x <= (arrOf st).size + 1) (fun c st' => c = (none, ()) /\ ∃ rs, Ps κ R (arrOf st).toList st' rs [] /\ (pendingOf st').size <= 1) (t := ()) ⟨rs, P, ?_⟩ ?_ (fun _ st2 ⟨rs2, P2, z⟩ => ⟨rfl, rs2, P2, ?_⟩) fun c st2 ⟨e, rs2, P2, z⟩ => ?_)
  ·have z := hz P;have l := P.pd.len;rw [<- Array.length_toList, P.ar, append_nil] at z;rw [<- Array.length_toList, l.1, <- z];exact le_succ_of_le l.2
  ·rintro x _ st2 _ ⟨rs2, P2, z⟩
   refine wpS_bind (wpS_get (t_ite (fun g => wpS_pure ⟨rfl, rs2, P2, g⟩) fun g => ?_));refine wpS_bind (t_mergeAt an hS P2 (by repeat' (first | exact two_less (lt_of_not_ge g) | exact lt_of_le_of_lt (succ_le_succ (sub_le _ _)) (two_less (lt_of_not_ge g)) | split)) fun st3 rs3 P3 z3 => wpS_pure ⟨(), rfl, rs3, P3, ?_⟩)
   rw [<- z3] at z;exact le_trans (le_of_eq (by rw [add_assoc, Nat.add_comm 1])) z
  ·exact Nat.le_of_add_le_add_right (le_trans (add_le_add_left (le_max_right 0 (arrOf st).size) _) (le_trans z (le_of_eq (Nat.add_comm _ _))))
  ·subst e;refine wpS_pure (h st2 P2.f P2.pm ?_);have l := P2.pd.len.1;rw [Array.length_toList] at l;rw [P2.ar, append_nil]
   match rs2, P2.pd, l with
   | [], _, _ => exact List.Pairwise.nil
   | [r], pd, _ =>
    cases hh : (pendingOf st2).toList with
    | nil => rw [hh] at pd; exact pd.elim
    | cons y p =>
     rw [hh] at pd;rw [flatten_cons, List.flatten_nil, append_nil];exact pd.2.2.2.1
   | _ :: _ :: t, _, l =>
    rw [l] at z;exact absurd z (Nat.not_le_of_lt (Nat.succ_lt_succ (Nat.succ_pos t.length)))
end
section
variable {X : Cx} {pins : List (Addr × Obj)} {τ : St} {H H0 : Hp} {s : Shared} {G : Gp} {S D0 : Addr} {A : Around} {E : Value -> Shared -> Prop} {P : PySem.Fin -> Shared -> Prop}
theorem tail_run (I : L2.Inv X pins τ H s) (rg : RG X.K H G) (kp : Kp G H0 G H) (nS : H0 S = none) (nD : H0 D0 = none) (gS : G S = none) (gD : G D0 = none) (hne : S ≠ D0) {e1 n : Nat} {ku out : List Value} {ov : List V} {st : SortSt}
  (eD : H D0 = some (XO D0 (seqObj "list" #[] e1))) (eS : H S = some (XO S (seqObj "list" ku.toArray n))) (hz : ku.length < 64) (ho : (arrOf st).map (·.2) = out.toArray) (hf : failedOf st = none) (hv : Vals ov out) (hl : out.length < 64)
  (q : ∀ H' s', L2.Inv X pins τ H' s' -> Kp G H0 G H' -> RG X.K H' G -> H' D0 = some (.lst ov) -> Stb X.K H H' -> P (.done (.ret .none)) s') : wpAny (model X.prog X.w) A (ksk_tail D0 false e1 (.ref S) st) P E s := by
 unfold ksk_tail;dsimp only;rw [ho];simp only [Bool.false_eq_true, if_false];have oS := inv_xo I eS;have e2 := get?_update_seq oS (fun _ => (#[] : Array Value));have mu : Mut (H S) := by rw [eS]; exact trivial
 have I1 := inv_xset (t' := s.toks) I eS e2;have eD1 : (upd H S (XO S (seqObj "list" #[] (if ((#[] : Array Value).size == ku.toArray.size) = true then n else n + 1)))) D0 = some (XO D0 (seqObj "list" #[] e1)) := by rw [upd_ne hne.symm]; exact eD
 have oD := inv_xo I1 eD1;have mu2 : Mut ((upd H S (XO S (seqObj "list" #[] (if ((#[] : Array Value).size == ku.toArray.size) = true then n else n + 1)))) D0) := by rw [eD1]; exact trivial
 have e3 := get?_update_seq oD (fun _ => out.toArray);refine wpAny_bind (listUpdate_at oS rfl ?_ (by rw [size_toArray, sizeLine_eq]; walk_at "oo") (zero_le _))
 refine wpAny_bind (wpAny_letGo ?_);refine wpAny_bind (seqEpoch_at oD rfl ?_);refine wpAny_bind (listUpdate_at oD rfl ?_ (zero_le _) (by rw [size_toArray, sizeLine_eq]; walk_at "oo"))
 rw [hf];simp only [bne_self_eq_false, Bool.false_eq_true, if_false];have I2 := I1.write (x := D0) (e := D0) (o := .lst ov) (t' := s.toks) mu2 (.inl rfl) (fun b u hb hu => (Heap.get?_update_other _ (Obj.mapSeq fun _ => out.toArray) (Ne.symm hb)).trans hu) ⟨_, e3⟩ ⟨by rw [hv.length, sizeLine_eq]; walk_at "oo", out, _, hv, e3⟩
 refine wpAny_pure (q _ _ I2 (kp_wr (kp_wr kp nS) nD) (rg_wr (rg_wr rg gS mu) gD mu2) upd_same ?_);exact ⟨fun b xs z => (stb_wr mu2).t _ _ ((stb_wr mu).t _ _ z), fun b xs z => (stb_wr mu2).l _ _ ((stb_wr mu).l _ _ z)⟩
theorem getD_vals {vs : List V} {us : List Value} (w : Vals vs us) (i : Nat) (hi : i < vs.length) : RelV (vs.getD i .non) (us.getD i .none) := by
 have hl := w.length;obtain ⟨v, e, r⟩ := Vals.getV (i := i) (u := us[i]'(by walk_at "o")) w (by simp)
 rw [getD_eq_getElem?_getD, getD_eq_getElem?_getD, e, getElem?_eq_getElem (by walk_at "o")]
 exact r
theorem map_vals {vs : List V} {us : List Value} (w : Vals vs us) : ∀ {p : List Nat}, (∀ i ∈ p, i < vs.length) -> Vals (p.map fun i => vs.getD i .non) (p.map fun i => us.getD i .none)
 | [], _ => .nil
 | i :: r, h => .cons (getD_vals w i (h i mem_cons_self)) (map_vals w fun j hj => h j (mem_cons_of_mem _ hj))
theorem getD_rds {K : Frag} {ds : List D} {vs : List V} (r : RDs K H ds vs) (i : Nat) (hi : i < vs.length) : RD K H (ds.getD i .non) (vs.getD i .non) := by
 obtain ⟨d, e, q⟩ := RDs.getV (i := i) r (getElem?_eq_getElem hi);rw [getD_eq_getElem?_getD, getD_eq_getElem?_getD, e, getElem?_eq_getElem hi];exact q
theorem map_rds {K : Frag} {ds : List D} {vs : List V} (r : RDs K H ds vs) : ∀ {p : List Nat}, (∀ i ∈ p, i < vs.length) -> RDs K H (p.map fun i => ds.getD i .non) (p.map fun i => vs.getD i .non)
 | [], _ => RDs.nil
 | i :: t, h => RDs.cons (getD_rds r i (h i mem_cons_self)) (map_rds r fun j hj => h j (mem_cons_of_mem _ hj))
theorem range_getD {α : Type} (l : List α) (d : α) : (List.range l.length).map (fun i => l.getD i d) = l := by
 refine List.ext_getElem (by simp) fun i h1 h2 => ?_
 simp [h2]
theorem perm_map_inv {α β : Type} {f : α -> β} {l m : List β} (p : l.Perm m) : ∀ {xs : List α}, m = xs.map f -> ∃ ys : List α, l = ys.map f /\ ys.Perm xs := by
 induction p with
 | nil => intro xs e; exact ⟨[], rfl, by rw [List.map_eq_nil_iff.mp e.symm]⟩
 | cons x _ ih =>
  intro xs e;cases xs with
  | nil => cases e
  | cons y t =>
   simp only [map_cons, List.cons.injEq] at e;obtain ⟨ys, e1, e2⟩ := ih e.2;exact ⟨y :: ys, by rw [map_cons, <- e1, e.1], e2.cons y⟩
 | swap x y l =>
  intro xs e
  match xs, e with
  | u :: v :: t, e =>
   simp only [map_cons, List.cons.injEq] at e;exact ⟨v :: u :: t, by rw [map_cons, map_cons, e.1, e.2.1, e.2.2], List.Perm.swap u v t⟩
 | trans _ _ ih1 ih2 =>
  intro xs e;obtain ⟨ys, e1, e2⟩ := ih2 e;obtain ⟨zs, e3, e4⟩ := ih1 e1;exact ⟨zs, e3, e4.trans e2⟩
theorem cp_pl {n : Nat} {P : D -> D -> Prop} : ∀ {ds : List D}, cpL n P ds ds -> ∀ d ∈ ds, pl n d
 | [], _, d, h => by simp at h
 | a :: t, ⟨p, _, z⟩, d, h => by
  rcases mem_cons.mp h with rfl | h
  ·exact p.1
  ·exact cp_pl z d h
theorem key_ref {d : D} {v : V} (h : keyI d) (r : RD X.K H d v) : ∃ a, v = .ref a := by
 obtain ⟨_, _, rfl⟩ := h;simp only [RD] at r;obtain ⟨a, _, e, _⟩ := r;exact ⟨a, e⟩
theorem key_fun (I : L2.Inv X pins τ H s) {a b : D} {v : V} (ha : keyI a) (hb : keyI b) (ca : cpD 4 a a) (cb : cpD 4 b b) (r : RD X.K H a v) (r' : RD X.K H b v) : a = b := by
 obtain ⟨_, _, rfl⟩ := ha;obtain ⟨_, _, rfl⟩ := hb;exact rd_inj I 4 (cp_pl (n := 3) ca) (cp_pl (n := 3) cb) r r'
theorem end_run (I : L2.Inv X pins τ H s) (rg : RG X.K H G) (kp : Kp G H0 G H) (nS : H0 S = none) (nD : H0 D0 = none) (gS : G S = none) (gD : G D0 = none) (hne : S ≠ D0) {e1 n : Nat} {ks : List D} {kv vs : List V} {ku us : List Value}
  (eD : H D0 = some (XO D0 (seqObj "list" #[] e1))) (eS : H S = some (XO S (seqObj "list" ku.toArray n))) (rk : RDs X.K H ks kv) (wk : Vals kv ku) (wv : Vals vs us) (hl : ku.length = us.length) (hz : us.length < 64) (hu : A.units + 4 < cLine)
  (hk : ∀ d ∈ ks, keyI d) (hc : ∀ a ∈ ks, ∀ b ∈ ks, cpD 4 a b) (r : Nat -> Nat) (hr : ∀ i j a b, ks[i]? = some a -> ks[j]? = some b -> ltD 4 a b = decide (r i < r j))
  (q : ∀ (p : List Nat) H' s', p.Perm (List.range us.length) -> (p.map r).Pairwise (· <= ·) -> L2.Inv X pins τ H' s' -> Kp G H0 G H' -> RG X.K H' G -> H' D0 = some (.lst (p.map fun i => vs.getD i .non)) -> Stb X.K H H' -> P (.done (.ret .none)) s') :
  wpAny (model X.prog X.w) A (ksk_end D0 false us.toArray e1 (.ref S) ku.toArray) P E s := by
 have lk := wk.length;have lk' := rk.length;have lv := wv.length;unfold ksk_end;dsimp only;simp only [Bool.false_eq_true, if_false]
 by_cases h2 : us.length < 2
 ·have hs : us.toArray.size < 2 := by rw [size_toArray]; exact h2
  rw [if_pos hs, if_pos hs];refine wpAny_bind (wpAny_pure ?_);refine wpAny_bind (wpAny_pure ?_);refine tail_run I rg kp nS nD gS gD hne eD eS (by walk_at "o") (out := us) (ov := vs) (st := SortSt.mk' general' (ku.toArray.zip us.toArray) #[] 7 none) ?_ rfl wv hz fun H' s' I' kp' rg' e' st' => ?_
  ·apply Array.toList_inj.mp;show ((ku.toArray.zip us.toArray).map (·.2)).toList = _
   rw [Array.toList_map, ksk_zip];simp [List.map_snd_zip, hl]
  ·refine q (List.range us.length) H' s' (List.Perm.refl _) ?_ I' kp' rg' (by rw [<- lv, range_getD]; exact e') st'
   have : us.length = 0 \/ us.length = 1 := by walk_at "o"
   rcases this with e | e <;> rw [e] <;> simp [List.range_succ]
 ·have hs : ¬ us.toArray.size < 2 := by rw [size_toArray]; exact h2
  rw [if_neg hs, if_neg hs];refine wpAny_bind (kind_D I hk rk wk (by walk_at "o") ?_)
  have ez : (ku.toArray.zip us.toArray).toList = (List.range us.length).map fun i => (ku.getD i Value.none, us.getD i Value.none) := by
   rw [ksk_zip]
   conv => lhs; rw [<- range_getD us Value.none, <- range_getD ku Value.none, hl]
   rw [List.zip_map']
  have ix : ∀ x, x ∈ (ku.toArray.zip us.toArray).toList -> ∃ i, i < us.length /\ (ku.getD i Value.none, us.getD i Value.none) = x := fun x hx => by
   rw [ez] at hx;obtain ⟨i, hi, e⟩ := mem_map.mp hx;exact ⟨i, mem_range.mp hi, e⟩
  have at_ : ∀ i, i < us.length -> ∃ d v, ks[i]? = some d /\ RD X.K H d v /\ RelV v (ku.getD i Value.none) := fun i hi => by
   obtain ⟨v1, f1, g1⟩ := Vals.getV (i := i) (u := ku[i]'(by walk_at "o")) wk (by simp)
   obtain ⟨d1, b1, c1⟩ := RDs.getV rk f1;exact ⟨d1, v1, b1, c1, by rw [getD_eq_getElem?_getD, getElem?_eq_getElem (by walk_at "o")]; exact g1⟩
  let ixOf : Keyed -> Nat := fun x => Classical.epsilon fun i => i < us.length /\ (ku.getD i Value.none, us.getD i Value.none) = x
  have ixs : ∀ x, x ∈ (ku.toArray.zip us.toArray).toList -> ixOf x < us.length /\ (ku.getD (ixOf x) Value.none, us.getD (ixOf x) Value.none) = x := fun x hx => Classical.epsilon_spec (p := fun i => i < us.length /\ (ku.getD i Value.none, us.getD i Value.none) = x) (ix x hx);have an : Ans X.prog X.w A s (tuples' true) (fun x => r (ixOf x)) (fun x => x ∈ (ku.toArray.zip us.toArray).toList) := by
   intro x y hx hy;obtain ⟨b1, e1'⟩ := ixs x hx;obtain ⟨b2, e2'⟩ := ixs y hy;have kx := congrArg Prod.fst e1';have ky := congrArg Prod.fst e2';dsimp only at kx ky;rw [<- kx, <- ky];obtain ⟨d1, v1, c1, k1, g1⟩ := at_ _ b1;obtain ⟨d2, v2, c2, k2, g2⟩ := at_ _ b2;exact ask_D I hu (hc _ (mem_of_getElem? c1) _ (mem_of_getElem? c2)) (hk _ (mem_of_getElem? c1)) (hk _ (mem_of_getElem? c2)) k1 k2 g1 g2 ⟨rfl, hr _ _ d1 d2 c1 c2⟩
  refine wpAny_bind (wpAny_mono (t_sort (E := E) (st := SortSt.mk' (tuples' true) (ku.toArray.zip us.toArray) #[] 7 none) (Q := fun _ st' => failedOf st' = none /\ (arrOf st').toList.Perm (ku.toArray.zip us.toArray).toList /\ Up (fun x => r (ixOf x)) (arrOf st').toList) an (fun x hx => hx) rfl rfl rfl fun st' a1 a2 a3 => ⟨a1, a2, a3⟩) ?_ fun _ _ x => x)
  rintro ⟨⟨⟩, st'⟩ s' ⟨rfl, hf, hp, up⟩
  dsimp only at hf hp up ⊢;obtain ⟨p, ep, hp'⟩ := perm_map_inv hp ez;have lp : p.length = us.length := by rw [hp'.length_eq, List.length_range]
  have inr : ∀ i ∈ p, i < us.length := fun i hi => mem_range.mp (hp'.mem_iff.mp hi);refine tail_run I rg kp nS nD gS gD hne eD eS (by walk_at "o") (out := p.map fun i => us.getD i Value.none) (ov := p.map fun i => vs.getD i .non) ?_ hf (map_vals wv fun i hi => by rw [lv]; exact inr i hi) (by rw [length_map, lp]; exact hz) fun H' s' I' kp' rg' e' st' => ?_
  ·apply Array.toList_inj.mp;rw [Array.toList_map, ep, map_map];rfl
  refine q p H' s' hp' ?_ I' kp' rg' e' st';unfold Up at up;rw [ep, pairwise_map] at up;rw [pairwise_map];have same : ∀ i ∈ p, r (ixOf (ku.getD i Value.none, us.getD i Value.none)) = r i := fun i hi => by
   have hi' := inr i hi;obtain ⟨b1, e1'⟩ := ixs (ku.getD i Value.none, us.getD i Value.none) (by rw [ez]; exact mem_map.mpr ⟨i, mem_range.mpr hi', rfl⟩)
   have e3 := congrArg Prod.fst e1';dsimp only at e3;clear e1';generalize ixOf (ku.getD i Value.none, us.getD i Value.none) = k at b1 e3 ⊢;obtain ⟨d1, v1, c1, k1, g1⟩ := at_ _ b1;obtain ⟨d2, v2, c2, k2, g2⟩ := at_ _ hi';have m1 := mem_of_getElem? c1;have m2 := mem_of_getElem? c2;obtain ⟨a1, rfl⟩ := key_ref (hk _ m1) k1;obtain ⟨a2, rfl⟩ := key_ref (hk _ m2) k2;rw [e3] at g1;have z : Value.ref a1 = Value.ref a2 := (show _ = Value.ref a1 from g1).symm.trans (show _ = Value.ref a2 from g2)
   injection z with z
   subst z;have ed := key_fun I (hk _ m1) (hk _ m2) (hc _ m1 _ m1) (hc _ m2 _ m2) k1 k2;subst ed;have t1 := hr k i _ _ c1 c2;have t2 := hr k k _ _ c1 c1;have t3 := hr i k _ _ c2 c1;rw [t2, decide_eq_false (Nat.lt_irrefl _)] at t1 t3;have u1 := of_decide_eq_false t1.symm;have u3 := of_decide_eq_false t3.symm;walk_at "oo"
  refine List.Pairwise.imp_of_mem (fun {i j} hi hj' hij => ?_) up;have hij' : r (ixOf (ku.getD i Value.none, us.getD i Value.none)) <= r (ixOf (ku.getD j Value.none, us.getD j Value.none)) := hij;rw [same i hi, same j hj'] at hij';exact hij'
end
structure SortBy (sp : Sp3) (G : Gp) (ds : List D) (ks : List D) (r : Nat -> Nat) : Prop where
 few : ds.length < 64
 len : ks.length = ds.length
 key : ∀ (i : Nat) d kd, ds[i]? = some d -> ks[i]? = some kd -> sp [d] G fun z G' => z = kd /\ G' = G
 ki : ∀ d ∈ ks, keyI d
 cp : ∀ a ∈ ks, ∀ b ∈ ks, cpD 4 a b
 lt : ∀ i j a b, ks[i]? = some a -> ks[j]? = some b -> ltD 4 a b = decide (r i < r j)
section
variable {X : Cx} {pins : List (Addr × Obj)} {τ : St} {H H0 : Hp} {s : Shared} {G : Gp} {S D0 : Addr} {A : Around} {E : Value -> Shared -> Prop} {P : PySem.Fin -> Shared -> Prop}
 {k : Nat} {f : Addr} {fd : FuncData} {ps : List Str} {sp : Sp3} {ds ks : List D} {r : Nat -> Nat} {vs : List V} {us : List Value}
theorem rest_run (F : FnOk X.prog X.w X.K X.mg X.base CX0 k f fd ps (liftSp X.K sp)) (hb : Binds X.K fd ps []) (hr : Room k A) (hA : ∀ {s H}, L2.Inv X pins τ H s -> Env0 X.prog X.w X.K X.mg X.base A X.stack s H) (sb : SortBy sp G ds ks r) (hu : A.units + 4 < cLine)
  (I : L2.Inv X pins τ H s) (rg : RG X.K H G) (kp : Kp G H0 G H) (nS : H0 S = none) (nD : H0 D0 = none) (gS : G S = none) (gD : G D0 = none) (hne : S ≠ D0) {e1 : Nat}
  (eD : H D0 = some (XO D0 (seqObj "list" #[] e1))) (eS : H S = some (XO S (seqObj "list" #[] 0))) (rd : RDs X.K H ds vs) (wv : Vals vs us)
  (q : ∀ (p : List Nat) H' s', p.Perm (List.range ds.length) -> (p.map r).Pairwise (· <= ·) -> L2.Inv X pins τ H' s' -> Kp G H0 G H' -> RG X.K H' G -> H' D0 = some (.lst (p.map fun i => vs.getD i .non)) -> Stb X.K H H' -> P (.done (.ret .none)) s') :
  wpAny (model X.prog X.w) A (ksk_rest D0 (.ref f) false us.toArray e1 (.ref S)) P E s := by
 have l1 := rd.length;have l2 := wv.length;have few := sb.few;unfold ksk_rest;refine wpAny_bind (wpAny_rule ?_)
 first
  | rw [List.forIn_toArray]
  | (rw [<- Array.forIn_toList]; simp only [List.toList_toArray])
  | rw [<- Array.forIn_toList]
 refine wpAny_bind (keys_run F hb hr hA nS nD gS gD hne (fun x s' Q' h => ?_) sb.len (fun i d kd a b => ⟨sb.key i d kd a b, fun l e => ?_⟩) I kp rg rd wv eD (ku := []) (n := 0) (done := []) (kv := []) eS RDs.nil .nil (by simp only [length_nil]; walk_at "oo")
  fun H' s' kv' ku' n' I' kp' rg' eD' eS' rk wk st => ?_)
 ·refine wpAny_bind (wpAny_attempt (wpAny_mono h (fun u s'' hu' => ?_) fun _ _ hF => hF.elim));dsimp only;exact wpAny_bind (wpAny_mono hu' (fun _ s3 hq => wpAny_pure hq) fun _ _ x => x)
 ·obtain ⟨t, rr, e2⟩ := sb.ki kd (mem_of_getElem? b);rw [e2] at e; cases e
 ·have l3 := rk.length;have l4 := wk.length;have sl := sb.len;simp only [nil_append] at rk l3;refine wpAny_bind (listItems_at (inv_xo I' eS') rfl ?_);refine end_run I' rg' kp' nS nD gS gD hne eD' eS' rk wk wv (by walk_at "o") (by walk_at "o") hu sb.ki sb.cp r sb.lt fun p H'' s'' hp hs I'' kp'' rg'' e'' st'' => ?_
  refine q p H'' s'' (by rw [show ds.length = us.length by walk_at "o"]; exact hp) hs I'' kp'' rg'' e'' ⟨fun b xs z => st''.t _ _ (st.t _ _ z), fun b xs z => st''.l _ _ (st.l _ _ z)⟩
theorem tree_run (F : FnOk X.prog X.w X.K X.mg X.base CX0 k f fd ps (liftSp X.K sp)) (hb : Binds X.K fd ps []) (hr : Room k A) (hA : ∀ {s H}, L2.Inv X pins τ H s -> Env0 X.prog X.w X.K X.mg X.base A X.stack s H) (sb : SortBy sp G ds ks r) (hu : A.units + 4 < cLine)
  (I : L2.Inv X pins τ H s) (rg : RG X.K H G) (kp : Kp G H0 G H) (h0 : ∀ a, H a = none -> H0 a = none) (nD : H0 D0 = none) (gD : G D0 = none) {n : Nat}
  (eD : H D0 = some (XO D0 (seqObj "list" us.toArray n))) (rd : RDs X.K H ds vs) (wv : Vals vs us)
  (q : ∀ (p : List Nat) H' s', p.Perm (List.range ds.length) -> (p.map r).Pairwise (· <= ·) -> L2.Inv X pins τ H' s' -> Kp G H0 G H' -> RG X.K H' G -> H' D0 = some (.lst (p.map fun i => vs.getD i .non)) -> Stb X.K H H' -> P (.done (.ret .none)) s') :
  wpAny (model X.prog X.w) A (ksk_tree D0 (.ref f) false) P E s := by
 have l1 := rd.length;have l2 := wv.length;have few := sb.few;have oD := inv_xo I eD;have mu : Mut (H D0) := by rw [eD]; exact trivial
 have e2 := get?_update_seq oD (fun _ => (#[] : Array Value));generalize (if ((#[] : Array Value).size == us.toArray.size) = true then n else n + 1) = e1 at e2
 have I1 := inv_xset (t' := s.toks) I eD e2;unfold ksk_tree;refine wpAny_bind (listItems_at oD rfl ?_);refine wpAny_bind (listUpdate_at oD rfl ?_ (by rw [size_toArray, sizeLine_eq]; walk_at "oo") (zero_le _))
 refine wpAny_bind (seqEpoch_at e2 rfl ?_);refine wpAny_bind (wpAny_newTuple ?_ (by show us.length <= _; rw [sizeLine_eq]; walk_at "oo"))
 refine wpAny_bind (wpAny_newList ?_ (zero_le _));refine wpAny_holding ?_;have I2 : L2.Inv X pins τ _ { s with heap := (s.heap.update D0 (Obj.mapSeq fun _ => #[])).push { cls := .type "tuple", data := .seq us.toArray } } := I1.kept (t' := s.toks) fun b u e => Heap.get?_push_of_some _ e
 have fS := I2.fresh;have I3 := inv_xlaid (t' := s.toks) (o := seqObj "list" #[] 0) I2 rfl rfl;have hS0 : H ((s.heap.update D0 (Obj.mapSeq fun _ => (#[] : Array Value))).push { cls := .type "tuple", data := .seq us.toArray }).objs.size = none := by
  by_cases e : ((s.heap.update D0 (Obj.mapSeq fun _ => (#[] : Array Value))).push { cls := .type "tuple", data := .seq us.toArray }).objs.size = D0
  ·rw [e] at fS; rw [upd_same] at fS; cases fS
  ·rw [upd_ne e] at fS; exact fS
 have hne : ((s.heap.update D0 (Obj.mapSeq fun _ => (#[] : Array Value))).push { cls := .type "tuple", data := .seq us.toArray }).objs.size ≠ D0 := fun e => by rw [e, eD] at hS0; cases hS0
 have rg1 : RG X.K (upd H D0 (XO D0 (seqObj "list" #[] e1))) G := rg_wr rg gD mu;have st1 : Stb X.K H (upd H D0 (XO D0 (seqObj "list" #[] e1))) := stb_wr mu;have st2 : Stb X.K (upd H D0 (XO D0 (seqObj "list" #[] e1))) (upd (upd H D0 (XO D0 (seqObj "list" #[] e1))) ((s.heap.update D0 (Obj.mapSeq fun _ => (#[] : Array Value))).push { cls := .type "tuple", data := .seq us.toArray }).objs.size (XO ((s.heap.update D0 (Obj.mapSeq fun _ => (#[] : Array Value))).push { cls := .type "tuple", data := .seq us.toArray }).objs.size (seqObj "list" #[] 0))) := (Kp.laid (G := G) fS).stb rg1;refine rest_run F hb hr hA sb hu I3 (rg1.laid fS) (kp_wr (kp_wr kp nD) (h0 _ hS0)) (h0 _ hS0) nD (rg.free hS0) gD hne (by rw [upd_ne hne.symm, upd_same]) upd_same (RDs.mono st2 _ _ (RDs.mono st1 _ _ rd)) wv fun p H' s' hp hs I' kp' rg' e' st' => ?_
 exact q p H' s' hp hs I' kp' rg' e' ⟨fun b xs z => st'.t _ _ (st2.t _ _ (st1.t _ _ z)), fun b xs z => st'.l _ _ (st2.l _ _ (st1.l _ _ z))⟩
theorem sorted_run {d vw : Addr} {Q : Value -> Shared -> Prop} (F : FnOk X.prog X.w X.K X.mg X.base CX0 k f fd ps (liftSp X.K sp)) (hb : Binds X.K fd ps []) (hr : Room (k + 2) X.A) (sb : SortBy sp G ds ks r) (hu : X.A.units + 8 < cLine) (hh : X.A.handled = none)
  (I : L2.Inv X pins τ H s) (rg : RG X.K H G) {ep : Nat} (hv : s.heap.IsValuesView vw d) (dr : DRaw s.heap d us ep) (rd : RDs X.K H ds vs) (wv : Vals vs us)
  (q : ∀ (p : List Nat) D0 H' s', p.Perm (List.range ds.length) -> (p.map r).Pairwise (· <= ·) -> L2.Inv X pins τ H' s' -> Kp G H G H' -> RG X.K H' G -> H D0 = none -> H' D0 = some (.lst (p.map fun i => vs.getD i .non)) -> RDs X.K H' (p.map fun i => ds.getD i .non) (p.map fun i => vs.getD i .non) -> Q (.ref D0) s') :
  wpAny (model X.prog X.w) X.A (call (.builtin "sorted") [.ref vw] [(Str.ofString "key", .ref f)]) Q E s := by
 have l1 := rd.length;have l2 := wv.length;have few := sb.few;refine call_function_entry_kw kind_sorted plain_sorted entry_sorted (ksk_s1 _ _) ?_;unfold Builtin.«sorted»;refine wpAny_bind (m := checkCount "sorted" 1 1 _) (wpAny_pure ?_);refine wpAny_bind (kdu_collect (A := X.A.in1) (raw_src (r := vw) (d := d) (vs := us) (ep := ep)) hh ⟨hv, dr⟩ (by rw [sizeLine_eq]; walk_at "oo") fun h' tk acc hk hacc => ?_)
 have ea : acc.toList = us := by
  refine List.ext_getElem? fun i => ?_;rcases lt_or_ge i acc.size with h | h
  ·have e : acc[i]? = some acc[i] := by simp [h]
   have := hacc.2 i _ e;rw [this];simp [h]
  ·rw [getElem?_eq_none (by simpa using h), getElem?_eq_none (by rw [<- hacc.1]; exact h)]
 rw [ea];have I1 : L2.Inv X pins τ H { s with heap := h', toks := tk } := I.kept hk
 refine wpAny_bind (wpAny_newList ?_ (by rw [sizeLine_eq]; walk_at "oo"))
 have fD := I1.fresh;have I2 := inv_xlaid (t' := tk) (o := seqObj "list" us.toArray 0) I1 rfl rfl;have st : Stb X.K H (upd H h'.objs.size (XO h'.objs.size (seqObj "list" us.toArray 0))) := (Kp.laid (G := G) fD).stb rg;refine wpAny_bind (wpAny_holding (wpAny_call_entry_kw slot_list_sort ⟨_, inv_xo I2 upd_same, rfl⟩ entry_list_sort ?_ (ksk_l1 _ _)));rw [ksk_t1];refine tree_run F hb (hr.in1.in1) (fun J => J.env0.in1.in1) sb (by show X.A.units + 1 + 1 + 4 < cLine; walk_at "oo") I2 (rg.laid fD) (Kp.laid fD) (fun a e => ?_) fD (rg.free fD) upd_same (RDs.mono st _ _ rd) wv fun p H' s' hp hs I' kp' rg' e' st' => ⟨_, rfl, ?_⟩
 ·by_cases h : a = h'.objs.size
  ·subst h; exact fD
  ·rw [upd_ne h] at e; exact e
 ·refine wpAny_pure ⟨_, rfl, q p _ H' s' hp hs I' kp' rg' fD e' (map_rds (RDs.mono st' _ _ (RDs.mono st _ _ rd)) fun i hi => ?_)⟩;rw [<- l1];exact mem_range.mp (hp.mem_iff.mp hi)
end
noncomputable def eSortV (sp : Sp3) (to : TE3) : TE3 := fun σ G Q => to σ G fun x G1 => match val x with
 | .ref a => match G1 a with
  | some (.dT _ kvs) => ∃ ks r, SortBy sp G1 (kvs.map (·.2)) ks r /\ ∀ p : List Nat, p.Perm (List.range (kvs.map (·.2)).length) -> (p.map r).Pairwise (· <= ·) -> Q (.fl (p.map fun i => (kvs.map (·.2)).getD i .non)) G1
  | _ => False
 | _ => False
theorem rts_vals {K : Frag} {H : Hp} {kvs : List (List Key × D)} {xs : List (List Key × Addr × Value)} (r : RTs K H kvs xs) : ∃ vs, RDs K H (kvs.map (·.2)) vs /\ Vals vs (xs.map (·.2.2)) := by
 unfold RTs at r
 induction r with
 | nil => exact ⟨[], RDs.nil, .nil⟩
 | cons h _ ih =>
  obtain ⟨_, _, v, h1, h2⟩ := h;obtain ⟨vs, a, b⟩ := ih;exact ⟨v :: vs, RDs.cons h1 a, .cons h2 b⟩
theorem p_sortV {X : Cx} {k : Nat} {f : Str} {sp : Sp3} {o : Expr} {to : TE3} {p0 apos cpos np kpos pos : Pos} (F : Fn3 X.prog X.w X.K X.mg X.base k f [] sp) (hr : Room (k + 2) X.A) (hc : X.calm = true) (hgf : Gl X f) (hg : Gl X "sorted") (hm : X.mg "sorted" = none) (ho : PE X o (lift X.K to))
  (hbase : attributeBase o "values" X.env (eval o X.env) = eval o X.env := by rfl) (hline : (apos.endLine == cpos.line) = true := by rfl) (hdf : (f == ("__debug__" : Str)) = false := by decide) :
  PE X (.Call (.Name "sorted" p0) [.Call (.Attribute o "values" apos) [] [] cpos] [⟨some "key", .Name f np, kpos⟩] pos) (lift X.K (eSortV sp to)) := by
 obtain ⟨fa, fd, ps, dv, dvs, ok, hmf, _, hb, hv0, hd0⟩ := F.ex;have e0 : dvs = [] := (hd0 (fun _ => none)).inv_nil;subst e0;cases hv0;have hu := hr.units
 rintro pins s τ H Q I ⟨σ, G, Q3, rs, rg, h, kf⟩
 refine wpAny_Call_Name_kw (ld_blt I hg hm (u := .builtin "sorted") (by decide +kernel) ?_ (by decide) (by decide))
 refine callWith_kw (id := "sorted") ?_;show wpAny _ _ (spliced [(false, eval (.Call (.Attribute o "values" apos) [] [] cpos) X.env)]) _ _ _
 refine Calls.spliced_cons (wpAny_Call_method0_late hbase hline (thn (pe_got ho I rs rg h) fun ov s1 zz => ?_));obtain ⟨ox, H1, I1, rox, x, G1, q1, k1, rg1, rd1⟩ := zz;split at q1
 ·rename_i a hx;rw [hx] at rd1;simp only [RD] at rd1;subst rd1;cases rox;split at q1
  ·rename_i hw kvs hga;obtain ⟨ks, r, sb, q1⟩ := q1;obtain ⟨hob, eo, ro⟩ := rg1 a _ hga;cases hob with
   | ext φ =>
    obtain ⟨xs, rfl, rt, nd, hz⟩ := ro;obtain ⟨hsm, o1, es, ep, g1, g2, g3, g4⟩ := (show ObjOk X.prog X.w H1 s1.heap a (.ext (DTf hw a xs)) from I1.hok a _ eo).1
    obtain ⟨vs, rv, wv⟩ := rts_vals rt;have dr : DRaw s1.heap a (xs.map (·.2.2)) ep := ⟨o1, es, g1, g2, g3, by rw [g4, map_map]; rfl⟩
    refine ⟨"dict", "dict.values", PySem.F.plainAttrs_dict, PySem.F.slot_dict_values, PySem.F.type_dict_values, dr.ty, fun b e => ?_, ?_⟩
    ·cases e;exact ⟨o1, g1, g2.2.1⟩
    ·refine Calls.callWith_builtin rfl (PySem.evalArgs_none (call_meetsIn PySem.F.slot_dict_values dr.ty PySem.F.entry_dict_values (PySem.F.args_dict_values_1 _) (raw_values hsm) ⟨⟨_, ep, dr⟩, ?_⟩));refine Calls.spliced_nil ?_;have I2 : L2.Inv X pins τ H1 { s1 with heap := s1.heap.push { cls := .type "dict_values", data := .fields #[.ref a] } } := I1.kept (t' := s1.toks) fun b u e => Heap.get?_push_of_some _ e
     show wpAny _ _ (evalAll [(do let v <- eval (.Name f np) X.env; standAt pos; pure v)]) _ _ _
     refine wpAny_evalAll_cons (wpAny_bind (ld_glob I2 hgf hmf (wpAny_bind (wpAny_standAt (wpAny_pure (wpAny_evalAll_nil ?_)))) hdf));show wpAny _ _ (call (.builtin "sorted") [.ref s1.heap.objs.size] [(Str.ofString "key", .ref fa)]) _ _ _
     refine sorted_run ok hb hr sb (by walk_at "o") (I.ok.hd hc) I2 rg1 (ep := ep) ⟨_, Heap.get?_push_size _ rfl, rfl, rfl⟩ (dr.stay fun b e => Heap.get?_push_of_some _ e) rv wv fun p D0 H' s' hp hs I' kp' rg' n0 e' rd' => ?_
     exact ⟨.ref D0, H', I', rfl, kf _ G1 _ H' (q1 p hp hs) (k1.trans kp') rg' (.inl ⟨_, D0, _, rfl, rfl, e', rg1.free n0, rd', k1.fr (fr_none n0)⟩)⟩
   | _ => exact ro.elim
  ·exact q1.elim
 ·exact q1.elim
section
variable {prog : Program} {w : World} {A : Around} {s : Shared} {R : Result -> Shared -> Prop} {I : Addr} {fp wr : List Addr} {G : Array GenState -> Array GenState -> Prop} {n : Nat} {P : Nat -> Value -> Prop} {St : Nat -> Shared -> Prop}
theorem lri_nolen : typeLookup (.type "list_reverseiterator") "__len__" = pure none := by rw [typeLookup_type, builtinLookup_eq_fast]; kernel_rfl
theorem lri_hint : typeLookup (.type "list_reverseiterator") "__length_hint__" = pure (some (.builtin "list_reverseiterator.__length_hint__")) := by rw [typeLookup_type, builtinLookup_eq_fast]; kernel_rfl
theorem lri_extend (W : WalksS prog w A.in1 I fp wr G n P St) (hT : ∀ i s, St i s -> s.TypeIs (.ref I) "list_reverseiterator") (S : Addr) (res : Value) (c₀ : Nat) (hst : St 0 s) (hSf : S ∉ fp) (hI : I ∈ fp) (hS : s.heap.get? S = some { cls := .type "list", data := .seq #[] c₀ })
  (hR : ∀ s' acc' c', Moved (S :: wr) G s s' -> s'.heap.get? S = some { cls := .type "list", dict := none, data := .seq acc' c', slots := #[] } -> ItemsOf P acc' n -> R (.ok (.ret res)) s') (hn : n <= sizeLine) :
  wpAny (model prog w) A.in1 (Builtin.List.listExtendWith (.ref S) (.ref I) res) (fun fin s' => match fin with | .done f => R (.ok f) s' | .again c' => c'.quiet = true /\ codeAny (model prog w) A c' R s') (fun e s' => R (.error e) s') s := by
 have hne : S ≠ I := fun e => hSf (e ▸ hI);have t1 := hT 0 _ hst;unfold Builtin.List.listExtendWith; refine wpAny_bind (wpAny_typeOf t1 ?_);have z1 : Builtin.List.listSameRef (.ref S) (.ref I) = false := by simp [Builtin.List.listSameRef, hne]
 have z2 : (Value.type "list_reverseiterator" == Value.type "list") = false := by decide
 have z3 : (Value.type "list_reverseiterator" == Value.type "tuple") = false := by decide
 simp only [z1, z2, z3, Bool.or_false, Bool.false_eq_true, if_false]; refine wpAny_bind (W.self 0 _ _ _ hst ?_);refine wpAny_bind (wpAny_holding ?_); unfold Builtin.List.listLengthHint; refine wpAny_bind (wpAny_specialOf t1 lri_nolen ?_);show wpAny _ A.in1 (specialOf (Value.ref I) (Str.ofString "__length_hint__") >>= _) _ _ _; refine wpAny_bind (wpAny_specialOf t1 lri_hint ?_)
 (generalize hid : ("list_reverseiterator.__length_hint__" : String) = id0; (fail_if_success (clear hid id0)); wp_delta; rw [show splitId id0 = some ("list_reverseiterator", "__length_hint__") from by subst hid; decide +kernel]; subst hid)
 refine wpAny_bind (wpAny_isInstance (b := true) t1 (by rw [isSubtype_type]; kernel_rfl) ?_); refine wpAny_pure ?_; rw [if_neg (by decide)]
 exact wpAny_pure ⟨plainId_quiet PySem.F.plain_extend_loop _, codeAny_extend_loopS W hn _ hSf _ n 0 _ _ _ rfl (zero_le _) hst hS (ItemsOf.nil P) hR⟩
theorem lri_list {E : Value -> Shared -> Prop} {Q : Value -> Shared -> Prop} (W : WalksS prog w A.in1.in1 I fp wr G n P St) (hT : ∀ i s, St i s -> s.TypeIs (.ref I) "list_reverseiterator") (hst : St 0 s) (hfp : ∀ b ∈ fp, b < s.heap.objs.size) (hI : I ∈ fp)
  (hQ : ∀ s' acc' c', Moved (s.heap.objs.size :: wr) G { s with heap := s.heap.push { cls := .type "list", data := .seq #[] } } s' -> s'.heap.get? s.heap.objs.size = some { cls := .type "list", dict := none, data := .seq acc' c', slots := #[] } -> ItemsOf P acc' n -> Q (.ref s.heap.objs.size) s') (hn : n <= sizeLine) :
  wpAny (model prog w) A (call (.type "list") [.ref I]) Q E s := by
 have hSf : s.heap.objs.size ∉ fp := fun hm => Nat.lt_irrefl _ (hfp _ hm);refine callType_codes (Q₁ := fun obj s₁ => obj = .ref s.heap.objs.size /\ s₁ = { s with heap := s.heap.push { cls := .type "list", data := .seq #[] } }) PySem.F.called_list (PySem.F.typeCall_list_1 _) PySem.F.entry_list_init (code_list_new _ ⟨rfl, rfl⟩) fun obj s₁ h₁ => ?_
 obtain ⟨rfl, rfl⟩ := h₁;have hS : (s.heap.push { cls := .type "list", data := .seq #[] }).get? s.heap.objs.size = some { cls := .type "list", data := .seq #[] } := Heap.get?_push_size _ rfl;have st1 := W.frame 0 s (s.heap.push { cls := .type "list", data := .seq #[] }) s.toks hst (le_refl _) fun b _ o e => Heap.get?_push_of_some _ e;refine ⟨⟨_, hS, rfl⟩, PySem.F.args_list_init_2 _ _, ?_⟩;show wpAny _ A.in1.in1 (do let old <- Builtin.List.listItems (.ref s.heap.objs.size); Builtin.List.listUpdate (.ref s.heap.objs.size) (fun _ => #[]); letGo old.toList.reverse; Builtin.List.listExtendWith (.ref s.heap.objs.size) (.ref I) .none) _ _ _
 refine wpAny_bind (listItems_at hS rfl ?_);refine wpAny_bind (listUpdate_at hS rfl ?_ (zero_le _) (zero_le _));have hS2 := Heap.get?_update_self (Obj.mapSeq (fun _ => (#[] : Array Value))) hS rfl;have oth : ∀ b o, b ≠ s.heap.objs.size -> (s.heap.push { cls := .type "list", data := .seq #[] }).get? b = some o -> ((s.heap.push { cls := .type "list", data := .seq #[] }).update s.heap.objs.size (Obj.mapSeq (fun _ => (#[] : Array Value)))).get? b = some o := fun b o hb e => (Heap.get?_update_other _ _ (Ne.symm hb)).trans e;refine wpAny_bind (wpAny_letGo ?_);refine lri_extend (A := A.in1) W hT _ .none _ (W.frame 0 { s with heap := s.heap.push { cls := .type "list", data := .seq #[] } } _ s.toks st1 (le_refl _) fun b hb o e => oth b o (fun h => hSf (h ▸ hb)) e) hSf hI hS2 (fun s' acc' c' hm hS' hacc => ?_) hn
 exact ⟨rfl, hQ s' acc' c' (Moved.trans W.gtrans ((Moved.refl W.grefl).then_heap (le_refl _) fun b o hb e => oth b o (fun h => hb (h ▸ mem_cons_self)) e) hm) hS' hacc⟩
end
noncomputable def eLRev (te : TE3) : TE3 := fun σ G Q => te σ G fun x G1 => match asL G1 (val x) with
 | some ds => Q (.fl ds.reverse) G1
 | none => False
theorem p_lrev {X : Cx} {e : Expr} {te : TE3} {p1 p2 pos pos2 : Pos} (hc : X.calm = true) (hg1 : Gl X "list") (hm1 : X.mg "list" = none) (hg2 : Gl X "reversed") (hm2 : X.mg "reversed" = none) (he : PE X e (lift X.K te)) (hs : starEach [e] X.env = [(false, eval e X.env)] := by rfl) :
  PE X (.Call (.Name "list" p1) [.Call (.Name "reversed" p2) [e] [] pos2] [] pos) (lift X.K (eLRev te)) := by
 rintro pins s τ H Q I ⟨σ, G, Q3, rs, rg, h, k⟩
 refine Call_ (ld_blt I hg1 hm1 PyProof.Rows.boot_list (PyProof.Rows.callWith_type1 ?_ rfl rfl) (by decide) (by decide))
 show wpAny _ _ (spliced [(false, eval (.Call (.Name "reversed" p2) [e] [] pos2) X.env)]) _ _ _
 refine Calls.spliced_cons (Call_ (ld_blt I hg2 hm2 boot_reversed (PyProof.Rows.callWith_type1 ?_ hs rfl) (by decide) (by decide)))
 rw [show backTo pos2 (starEach [e] X.env) = [(false, eval e X.env)] by rw [hs]; rfl]
 refine Calls.spliced_cons (thn (pe_got he I rs rg h) fun ov s1 zz => ?_);obtain ⟨ox, H1, I1, rox, x, G1, q1, k1, rg1, rd1⟩ := zz;refine Calls.spliced_nil ?_;split at q1
 ·rename_i ds hq;obtain ⟨b, xs, rfl, sq, r⟩ := asL_sq (G := G1) (H := H1) hq (.of rd1) rg1;cases rox;obtain ⟨its, rv, pl, hz⟩ := I1.list sq;have hl := rv.length;refine call_reversed_list pl.isList (Calls.spliced_nil ?_);have ll : b < s1.heap.objs.size := let ⟨o, e, _⟩ := pl.isList; Heap.lt_size e;have W := Walks.listRev (prog := X.prog) (w := X.w) (A := X.A.in1.in1) (I.ok.hd hc) s1.heap.objs.size b (ne_of_lt ll) its.toArray;refine lri_list (s := { s1 with heap := s1.heap.push (revObj b ((its.toArray.size : Int) - 1)) }) W.toS (fun i s' z => z.2.1.typeIs) ⟨zero_le _, ⟨_, Heap.get?_push_size _ rfl, rfl, ?_⟩, pl.isList.push _⟩ (fun c hc' => ?_) mem_cons_self (fun s' acc c' hm hS hacc => ?_) (by rw [size_toArray]; walk_at "oo")
  ·show Data.fields #[.ref b, rawInt ((its.toArray.size : Int) - 1)] = _;simp
  ·show c < (s1.heap.push _).objs.size;rw [size_push'];rcases mem_cons.mp hc' with e | hc'
   ·rw [e]; exact Nat.lt_succ_self _
   ·rw [mem_singleton.mp hc']; exact Nat.lt_succ_of_lt ll
  ·have keep : ∀ c o, s1.heap.get? c = some o -> s'.heap.get? c = some o := fun c o e => hm.heap c o (fun hmem => ?_) (Heap.get?_push_of_some _ (Heap.get?_push_of_some _ e))
   ·have sz : (s1.heap.push (revObj b ((its.toArray.size : Int) - 1))).objs.size = s1.heap.objs.size + 1 := size_push' ..;have ea : acc.toList = its.reverse := by
     refine List.ext_getElem? fun i => ?_;rcases lt_or_ge i acc.size with hi | hi
     ·have e : acc[i]? = some acc[i] := by simp [hi]
      have h2 := hacc.2 i _ e;have h3 := hacc.1;simp only [size_toArray] at h2 h3;have h4 : its[its.length - 1 - i]? = some acc[i] := by simpa using h2
      rw [List.getElem?_reverse (by walk_at "o"), h4]
      simp [hi]
     ·have h3 := hacc.1;simp only [size_toArray] at h3;rw [getElem?_eq_none (by simpa using hi), getElem?_eq_none (by rw [List.length_reverse]; walk_at "oo")]
    rw [Moved.eq_with hm];have fr : H1 (s1.heap.objs.size + 1) = none := I1.hok.fresh (le_succ _);have hS' : s'.heap.get? (s1.heap.objs.size + 1) = some { cls := .type "list", data := .seq its.reverse.toArray c' } := by
     rw [<- sz, <- ea]
     simpa using hS
    have I2 : L2.Inv X pins τ (upd H1 (s1.heap.objs.size + 1) (.lst xs.reverse)) { s1 with heap := s'.heap, toks := s'.toks } := I1.laid keep (le_succ _) ⟨by rw [List.length_reverse]; walk_at "oo", its.reverse, c', rv.reverse, hS'⟩
    refine ⟨.ref (s1.heap.objs.size + 1), _, I2, by show Value.ref _ = Value.ref _; rw [sz], k _ G1 _ _ q1 (k1.trans (Kp.laid fr)) (rg1.laid fr) (.inl ⟨_, _, _, rfl, rfl, upd_same, rg1.free fr, RDs.mono ((Kp.laid (G := G1) fr).stb rg1) _ _ r.reverse, k1.fr (fr_none fr)⟩)⟩
   ·have sz : (s1.heap.push (revObj b ((its.toArray.size : Int) - 1))).objs.size = s1.heap.objs.size + 1 := size_push' ..;have lt := Heap.lt_size e;rcases mem_cons.mp hmem with e' | hmem
    ·rw [e'] at lt;exact absurd lt (by show ¬ (s1.heap.push (revObj b ((its.toArray.size : Int) - 1))).objs.size < _; rw [sz]; walk_at "oo")
    ·rw [mem_singleton.mp hmem] at lt;exact absurd lt (Nat.lt_irrefl _)
 ·exact q1.elim
noncomputable def eClear (to : TE3) : TE3 := fun σ G Q => to σ G fun x G1 => match x with
 | .ref a => match G1 a with
  | some (.lst _) => Q .non (gset G1 a (.lst []))
  | _ => False
 | _ => False
theorem p_clear {X : Cx} {o : Expr} {to : TE3} {apos cpos : Pos} (ho : PE X o (lift X.K to)) (hbase : attributeBase o "clear" X.env (eval o X.env) = eval o X.env := by rfl) (hline : (apos.endLine == cpos.line) = true := by rfl) : PE X (.Call (.Attribute o "clear" apos) [] [] cpos) (lift X.K (eClear to)) :=
 (pe_bm0 PySem.F.plainAttrs_list PySem.F.slot_list_clear PySem.F.type_list_clear mt_clear ho hbase hline).imp fun τ H Q zz => by
 obtain ⟨σ, G, Q3, rs, rg, h, k⟩ := zz;exact (
  ⟨σ, G, _, rs, rg, h, fun d G1 v H1 q k1 rg1 re => by
    cases d with
    | ref a =>
     rw [re.ref];dsimp only at q;split at q
     ·rename_i ds hg;obtain ⟨xs, e1, r1⟩ := lst_at rg1 hg;obtain ⟨kp, rg3⟩ := lset_ok rg1 e1 RDs.nil (by rw [hg]; exact fun z => nomatch z)
      exact ⟨.inl ⟨rfl, xs, SqL.of e1⟩, a, xs, rfl, rfl, e1, k _ _ _ _ q (k1.trans kp) rg3 (.of rd_non)⟩
     ·exact q.elim
    | _ => exact q.elim⟩)
noncomputable def pickA {α : Type} (xs : List α) (lo hi st : Option Int) : List α :=
 (sliceRange (sliceBounds lo hi st xs.length).1 (sliceBounds lo hi st xs.length).2.1 (sliceBounds lo hi st xs.length).2.2).filterMap (xs[·]?)
noncomputable def eSl3 (te : TE3) (tl th ts : TO3) : TE3 := fun σ G Q => te σ G fun x G1 => tl σ G1 fun l G2 => th σ G2 fun u G3 => ts σ G3 fun st G4 => st ≠ some 0 /\ match asL G4 (val x) with
 | some ds => Q (.fl (pickA ds l u st)) G4
 | none => False
theorem filt_vals {vs : List V} {us : List Value} (w : Vals vs us) : ∀ ix : List Nat, Vals (ix.filterMap (vs[·]?)) (ix.filterMap (us[·]?))
 | [] => .nil
 | i :: r => by
  have hl := w.length;rcases lt_or_ge i us.length with h | h
  ·obtain ⟨v, e, q⟩ := Vals.getV (i := i) (u := us[i]) w (by simp [h])
   rw [List.filterMap_cons_some e, List.filterMap_cons_some (getElem?_eq_getElem h)];exact .cons q (filt_vals w r)
  ·rw [List.filterMap_cons_none (getElem?_eq_none (by walk_at "o")), List.filterMap_cons_none (getElem?_eq_none h)]
   exact filt_vals w r
theorem filt_rds {K : Frag} {H : Hp} {ds : List D} {vs : List V} (w : RDs K H ds vs) : ∀ ix : List Nat, RDs K H (ix.filterMap (ds[·]?)) (ix.filterMap (vs[·]?))
 | [] => RDs.nil
 | i :: r => by
  have hl := w.length;rcases lt_or_ge i vs.length with h | h
  ·obtain ⟨v, e, q⟩ := RDs.getV (i := i) w (getElem?_eq_getElem h);rw [List.filterMap_cons_some e, List.filterMap_cons_some (getElem?_eq_getElem h)];exact RDs.cons q (filt_rds w r)
  ·rw [List.filterMap_cons_none (getElem?_eq_none (by walk_at "o")), List.filterMap_cons_none (getElem?_eq_none h)]
   exact filt_rds w r
theorem p_slice3 {X : Cx} {e : Expr} {te : TE3} {lo hi : Option Expr} {st : Expr} {tl th ts : TO3} {p2 pos : Pos} (he : PE X e (lift X.K te)) (hl : PO X lo (liftO X.K tl)) (hu : PO X hi (liftO X.K th)) (hst : PO X (some st) (liftO X.K ts)) : PE X (.Subscript e (.Slice lo hi (some st) p2) pos) (lift X.K (eSl3 te tl th ts)) := by
 rintro pins s τ H Q I ⟨σ, G, Q3, rs, rg, h, k⟩
 have po : ∀ {oe : Option Expr} {t : TO3} {s : Shared} {H : Hp} {σ : St3} {G : Gp} {q : Option Int -> Gp -> Prop}, PO X oe (liftO X.K t) -> L2.Inv X pins τ H s -> RS X.K H σ τ -> RG X.K H G -> t σ G q ->
   wpAny (model X.prog X.w) X.A (evalPart oe X.env) (fun u s' => ∃ o H', L2.Inv X pins τ H' s' /\ IsPart u o /\ ∃ G', q o G' /\ Kp G H G' H' /\ RG X.K H' G') X.xe s := fun hp I rs rg ht =>
  hp pins _ τ _ _ I ⟨_, _, _, rs, rg, ht, fun o G' H' q k rg' => ⟨G', q, k, rg'⟩⟩
 refine Subscript_ (thn (pe_got he I rs rg h) fun v s1 zz => ?_);obtain ⟨ox, H1, I1, rox, x, G1, q1, k1, rg1, rd1⟩ := zz;refine wpAny_Slice (thn (po hl I1 (rs.mono (k1.stb rg)) rg1 q1) fun vl s2 zz => ?_);obtain ⟨l, H2, I2, pl, G2, q2, k2, rg2⟩ := zz;refine thn (po hu I2 (rs.mono ((k1.trans k2).stb rg)) rg2 q2) fun vu s3 zz => ?_;obtain ⟨u, H3, I3, pu, G3, q3, k3, rg3⟩ := zz;refine thn (po hst I3 (rs.mono ((k1.trans (k2.trans k3)).stb rg)) rg3 q3) fun vs s4 zz => ?_;obtain ⟨stp, H4, I4, ps, G4, q4, k4, rg4⟩ := zz;obtain ⟨n0, q4⟩ := q4;split at q4
 ·rename_i ds hq;have rd4 := RD.mono ((k2.trans (k3.trans k4)).stb rg1) _ _ rd1;obtain ⟨b, xs, rfl, sq, r⟩ := asL_sq (G := G4) (H := H4) hq (.of rd4) rg4;cases rox;have I5 : L2.Inv X pins τ H4 { s4 with heap := s4.heap.push { cls := .type "slice", data := .fields #[vl, vu, vs] } } := I4.kept (t' := s4.toks) fun b ob q => Heap.get?_push_of_some _ q
  obtain ⟨its, rv, plist, hz⟩ := I5.list sq;have hlen := rv.length;have hlen' := r.length;show wpAny (model X.prog X.w) X.A (subscriptTail e (.Slice lo hi (some st) p2) (.ref b) (.ref s4.heap.objs.size)) _ X.xe { s4 with heap := s4.heap.push { cls := .type "slice", data := .fields #[vl, vu, vs] } }
  refine tail_any (ops := [.ref b, .ref s4.heap.objs.size]) plist.isList.typeIs slot_list_getitem.lookup ?_ (by with_unfolding_all rfl)
  refine wpAny_getItem_list_slice plist.isList (Heap.IsSliceOf.new ..) pl pu ps n0 ?_ (by rw [size_toArray]; walk_at "oo")
  have fr := I5.fresh;have e1 : (slicePick its.toArray l u stp) = (pickA its l u stp).toArray := by simp [slicePick, pickA]
  have sz : (pickA xs l u stp).length <= sizeLine := by
   have h1 := slicePick_size_le its.toArray l u stp;rw [e1, size_toArray, size_toArray] at h1;have h2 : Vals (pickA xs l u stp) (pickA its l u stp) := by unfold pickA; rw [hlen]; exact filt_vals rv _
   have := h2.length;walk_at "oo"
  rw [e1];have wv : Vals (pickA xs l u stp) (pickA its l u stp) := by unfold pickA; rw [hlen]; exact filt_vals rv _
  have wd : RDs X.K H4 (pickA ds l u stp) (pickA xs l u stp) := by unfold pickA; rw [hlen']; exact filt_rds r _
  refine ⟨.ref _, _, I5.lnew (t' := s4.toks) wv sz, rfl, k _ G4 _ _ q4 ((k1.trans (k2.trans (k3.trans k4))).trans (Kp.laid fr)) (rg4.laid fr) (.inl ⟨_, _, _, rfl, rfl, upd_same, rg4.free fr, RDs.mono ((Kp.laid (G := G4) fr).stb rg4) _ _ wd, (k1.trans (k2.trans (k3.trans k4))).fr (fr_none fr)⟩)⟩
 ·exact q4.elim
open PySem PySem.Spec PyProof.Rows L2
noncomputable def ConstIs (K : Frag) (mg : Str -> Option Value) (x : Str) (d : D) : Prop := ∃ u v, mg x = some u /\ RelV v u /\ ∀ H, RD K H d v
theorem p_constT {X : Cx} {x : Str} {d : D} {pos : Pos} (hg : Gl X x) (h : ConstIs X.K X.mg x d) (hd : (x == ("__debug__" : Str)) = false := by decide) : PE X (.Name x pos) (lift X.K (eC d)) := by
 obtain ⟨u, v, hm, r, rd⟩ := h;exact p_const hg hm r rd hd
theorem const_tup {K : Frag} {mg : Str -> Option Value} {x : Str} {ds : List D} {vs : List V} {its : Array Value} {a : Addr} {od : Option Addr} {n : Nat} {sl : Array (Option Value)} (hm : mg x = some (.ref a)) (hl : K.lookup a = some ⟨.type "tuple", od, .seq its n, sl⟩)
  (hz : its.size <= sizeLine) (w : Vals vs its.toList) (r : ∀ H, RDs K H ds vs) : ConstIs K mg x (.tup ds) :=
 ⟨.ref a, .ref a, hm, rfl, fun H => rd_tup (.inr ⟨_, its, n, hl, rfl, rfl, hz, w⟩) (r H)⟩
end L3
namespace L2
open PySem PySem.Spec PyProof.Rows
end L2
namespace L3
open PySem PySem.Spec PyProof.Rows L2
noncomputable def isaT (a b : String) : Bool := (a == b) || ((a == "bool") && (b == "int"))
noncomputable def knownT (b : String) : Prop := b = "int" \/ b = "bool" \/ b = "str" \/ b = "tuple" \/ b = "list"
noncomputable def bIsI : RC3 := fun ds G Q => match ds with
 | [d, .ty T] => knownT T /\ ∃ T', kindOf3 G d = some T' /\ Q (.bl (isaT T' T)) G
 | _ => False
noncomputable def bIntB : RC3 := fun ds G Q => match ds with
 | [.bl b] => Q (.int (if b then 1 else 0)) G
 | _ => False
end L3
namespace L2
open PySem PySem.Spec PyProof.Rows
end L2
namespace L3
open PySem PySem.Spec PyProof.Rows L2
noncomputable def sWhile (c : TT3) (tb : TS3) : TS3 := fun E σ G => ∃ W : Nat -> St3 -> Gp -> Prop, (∃ m, W m σ G) /\ ∀ m σ' G', W m σ' G' ->
 c σ' G' fun b G1 => if b = true then ∃ N : St3 -> Gp -> Prop, (∀ σ2 G2, N σ2 G2 -> ∃ m', m' < m /\ W m' σ2 G2) /\ tb { E with nx := N, ct := N, bk := E.nx } σ' G1 else E.nx σ' G1
theorem q_while {X : Cx} {c : Expr} {body : List Stmt} {tc : TT3} {tb : TS3} {pos : Pos} (hp : PassesOwn (model X.prog X.w) X.A X.env X.xe) (hc : PT X c (liftT X.K tc)) (hb : PSs X body (liftS X.K tb)) : PS X (.While c body [] pos) (liftS X.K (sWhile tc tb)) :=
 (ps_while hp hc hb).imp fun D τ H ⟨σ, G, D3, rs, rg, ⟨W, ⟨m0, w0⟩, turn⟩, k⟩ => by
  refine ⟨fun m τ' H' => ∃ σ' G', RS X.K H' σ' τ' /\ RG X.K H' G' /\ W m σ' G' /\ Kp G H G' H', ⟨m0, σ, G, rs, rg, w0, Kp.refl⟩, ?_⟩
  rintro m τ' H' ⟨σ', G', rs', rg', w', k'⟩
  refine ⟨σ', G', _, rs', rg', turn m σ' G' w', fun b G1 H1 q k1 rg1 => ?_⟩;cases b with
  | true =>
   rw [if_pos rfl] at q ⊢;obtain ⟨N, hN, q⟩ := q;refine ⟨fun τ2 H2 => ∃ σ2 G2, RS X.K H2 σ2 τ2 /\ RG X.K H2 G2 /\ N σ2 G2 /\ Kp G H G2 H2, fun τ2 H2 ⟨σ2, G2, a, b, n, d⟩ => ?_, ?_⟩
   ·obtain ⟨m', hm, w2⟩ := hN σ2 G2 n;exact ⟨m', hm, σ2, G2, a, b, w2, d⟩
   ·have kG := k'.trans k1;exact ⟨σ', G1, _, rs'.mono (k1.stb rg'), rg1, q, ⟨fun σ4 G4 τ4 H4 q4 k4 rg4 rs4 => ⟨σ4, G4, rs4, rg4, q4, kG.trans k4⟩, k.rt.base kG, fun σ4 G4 τ4 H4 q4 k4 => k.nx σ4 G4 τ4 H4 q4 (kG.trans k4), fun σ4 G4 τ4 H4 q4 k4 rg4 rs4 => ⟨σ4, G4, rs4, rg4, q4, kG.trans k4⟩⟩⟩
  | false =>
   rw [if_neg Bool.false_ne_true] at q ⊢;exact k.nx σ' G1 τ' H1 q (k'.trans k1) rg1 (rs'.mono (k1.stb rg'))
theorem kT_int : knownT "int" = True := eq_true (by unfold knownT; simp)
theorem isa_int_int : isaT "int" "int" = true := by decide
theorem isa_int_bool : isaT "int" "bool" = false := by decide
theorem isa_int_str : isaT "int" "str" = false := by decide
theorem isa_int_tuple : isaT "int" "tuple" = false := by decide
theorem isa_int_list : isaT "int" "list" = false := by decide
theorem kT_bool : knownT "bool" = True := eq_true (by unfold knownT; simp)
theorem isa_bool_int : isaT "bool" "int" = true := by decide
theorem isa_bool_bool : isaT "bool" "bool" = true := by decide
theorem isa_bool_str : isaT "bool" "str" = false := by decide
theorem isa_bool_tuple : isaT "bool" "tuple" = false := by decide
theorem isa_bool_list : isaT "bool" "list" = false := by decide
theorem kT_str : knownT "str" = True := eq_true (by unfold knownT; simp)
theorem isa_str_int : isaT "str" "int" = false := by decide
theorem isa_str_bool : isaT "str" "bool" = false := by decide
theorem isa_str_str : isaT "str" "str" = true := by decide
theorem isa_str_tuple : isaT "str" "tuple" = false := by decide
theorem isa_str_list : isaT "str" "list" = false := by decide
theorem kT_tuple : knownT "tuple" = True := eq_true (by unfold knownT; simp)
theorem isa_tuple_int : isaT "tuple" "int" = false := by decide
theorem isa_tuple_bool : isaT "tuple" "bool" = false := by decide
theorem isa_tuple_str : isaT "tuple" "str" = false := by decide
theorem isa_tuple_tuple : isaT "tuple" "tuple" = true := by decide
theorem isa_tuple_list : isaT "tuple" "list" = false := by decide
theorem kT_list : knownT "list" = True := eq_true (by unfold knownT; simp)
theorem isa_list_int : isaT "list" "int" = false := by decide
theorem isa_list_bool : isaT "list" "bool" = false := by decide
theorem isa_list_str : isaT "list" "str" = false := by decide
theorem isa_list_tuple : isaT "list" "tuple" = false := by decide
theorem isa_list_list : isaT "list" "list" = true := by decide
noncomputable def fldOf : List Str -> List D -> Str -> Option D
 | g :: L, d :: ds, f => if g = f then some d else fldOf L ds f
 | _, _, _ => none
noncomputable def putFL (L : List Str) (f : Str) : List Str := match L with
 | [] => [f]
 | g :: r => if g = f then g :: r else g :: putFL r f
noncomputable def putFD : List Str -> List D -> Str -> D -> List D
 | g :: L, x :: ds, f, d => if g = f then d :: ds else x :: putFD L ds f d
 | _, _, _, d => [d]
section
variable {K : Frag} {H : Hp}
theorem fldOf_look : ∀ {gs : List (Str × V)} {ds : List D} {f : Str} {d : D}, RDs K H ds (gs.map (·.2)) -> fldOf (gs.map (·.1)) ds f = some d -> ∃ v, gs.lookup f = some v /\ RD K H d v
 | [], ds, f, d, r, e => by simp [fldOf] at e
 | (g, u) :: t, ds, f, d, r, e => by
  cases ds with
  | nil => simp [fldOf] at e
  | cons x ds =>
   obtain ⟨y, q, e1, h1, h2⟩ := r.inv_cons;rw [map_cons, List.cons.injEq] at e1;obtain ⟨rfl, e1⟩ := e1;simp only [map_cons, fldOf] at e;split at e
   ·rename_i hg;cases e;subst hg;exact ⟨u, by rw [lookup_cons, beq_self_eq_true], h1⟩
   ·rename_i hg;obtain ⟨v, e2, h3⟩ := fldOf_look (gs := t) (by rw [e1]; exact h2) e
    exact ⟨v, by rw [lookup_cons, show (f == g) = false by simpa using Ne.symm hg]; exact e2, h3⟩
theorem putFL_of : ∀ {gs : List (Str × V)} {f : Str} {v : V}, (putF f v gs).map (·.1) = putFL (gs.map (·.1)) f
 | [], f, v => rfl
 | (g, u) :: t, f, v => by
  simp only [putF, map_cons, putFL];split
  ·rename_i hg; simp [hg]
  ·simp [putFL_of (gs := t)]
theorem putFD_of : ∀ {gs : List (Str × V)} {ds : List D} {f : Str} {v : V} {d : D}, RDs K H ds (gs.map (·.2)) -> RD K H d v -> RDs K H (putFD (gs.map (·.1)) ds f d) ((putF f v gs).map (·.2))
 | [], ds, f, v, d, r, h => by
  have : putFD ([] : List Str) ds f d = [d] := by unfold putFD; rfl
  exact RDs.cons h RDs.nil
 | (g, u) :: t, ds, f, v, d, r, h => by
  cases ds with
  | nil => exact absurd r.length (by simp)
  | cons x ds =>
   obtain ⟨y, q, e1, h1, h2⟩ := r.inv_cons;rw [map_cons, List.cons.injEq] at e1;obtain ⟨rfl, e1⟩ := e1;simp only [putF, map_cons, putFD];split
   ·rename_i hg;subst e1;exact RDs.cons h h2
   ·exact RDs.cons h1 (putFD_of (gs := t) (by rw [e1]; exact h2) h)
end
noncomputable def eFldA (cs : List Addr) (f : Str) (to : TE3) : TE3 := fun σ G Q => to σ G fun x G1 => match x with
 | .ref a => match G1 a with
  | some (.ins C L ds) => C ∈ cs /\ match fldOf L ds f with
   | some d => Q d G1
   | none => False
  | _ => False
 | _ => False
noncomputable def sFldA (cs : List Addr) (f : Str) (to tv : TE3) : TS3 := fun D σ G => tv σ G fun d G1 => to σ G1 fun x G2 => match x with
 | .ref a => match G2 a with
  | some (.ins C L ds) => (C ∈ cs /\ L.length < 1000) /\ D.nx σ (gset G2 a (.ins C (putFL L f) (putFD L ds f (val d))))
  | _ => False
 | _ => False
noncomputable def eMethA (cs : List (Addr × Sp3)) (m : Str) (dds : List D) (to : TE3) (ta : TA3) : TE3 := fun σ G Q => to σ G fun x G1 => match x with
 | .ref a => match G1 a with
  | some (.ins C L _) => m ∉ L /\ ∃ sp, (C, sp) ∈ cs /\ ta σ G1 fun ds G2 => sp (.ref a :: (ds ++ dds)) G2 Q
  | _ => False
 | _ => False
section
variable {X : Cx} {o e : Expr} {es : List Expr} {to te : TE3} {t : TA3} {pos apos : Pos} {k : Nat} {m : Str} {dds : List D} {sp : Sp3}
theorem p_fldA {f : Str} {cs : List Addr} (tab : ∀ C ∈ cs, Cls X.K C /\ NoAttr X.K C f) (ho : PE X o (lift X.K to)) (hb : attributeBase o f X.env (eval o X.env) = eval o X.env := by rfl) : PE X (.Attribute o f pos) (lift X.K (eFldA cs f to)) :=
 (pe_fld ho hb).imp fun τ H Q zz => by
 obtain ⟨σ, G, Q3, rs, rg, h, kk⟩ := zz;exact (
  ⟨σ, G, _, rs, rg, h, fun d G1 v H1 q k1 rg1 re => by
    cases d with
    | ref a =>
     dsimp only at q;split at q
     ·rename_i C L ds hg;obtain ⟨hc, q⟩ := q;split at q
      ·rename_i d hd;obtain ⟨ho, e1, ro⟩ := rg1 a _ hg;cases ho with
       | ins C2 dx gs =>
        obtain ⟨rfl, r2, r3⟩ := ro;subst r2;obtain ⟨w, hw, rd⟩ := fldOf_look r3 hd;exact ⟨a, _, dx, gs, w, re.ref, e1, (tab _ hc).1, (tab _ hc).2, hw, kk _ G1 _ H1 q k1 rg1 (.of rd)⟩
       | _ => exact ro.elim
      ·exact q.elim
     ·exact q.elim
    | _ => exact q.elim⟩)
theorem q_fldA {f : Str} {cs : List Addr} {pos' : Pos} (tab : ∀ C ∈ cs, Cls X.K C /\ NoAttr X.K C f) (ho : PE X o (lift X.K to)) (hv : PE X e (lift X.K te)) (hs : swapsWith e (some (.Attribute o f pos')) pos.line X.env = pure false := by rfl) :
  PS X (.Assign [.Attribute o f pos'] e pos) (liftS X.K (sFldA cs f to te)) :=
 (ps_fld ho (pe_val hv) hs).imp fun Dd τ H zz => by
 obtain ⟨σ, G, D3, rs, rg, h, kk⟩ := zz;exact (
  ⟨σ, G, _, rs, rg, h, fun d G1 v H1 q1 k1 rg1 rd => ⟨σ, G1, _, rs.mono (k1.stb rg), rg1, q1, fun x G2 u H2 q2 k2 rg2 re => by
    cases x with
    | ref a =>
     dsimp only at q2;split at q2
     ·rename_i C L ds hg;obtain ⟨⟨hc, hl⟩, q2⟩ := q2;obtain ⟨ho, e1, ro⟩ := rg2 a _ hg;cases ho with
      | ins C2 dx gs =>
       obtain ⟨rfl, r2, r3⟩ := ro;subst r2;have rd2 := RD.mono (k2.stb rg1) _ _ rd;obtain ⟨kp, rg3⟩ := put_ok (gs' := putF f v gs) (L' := putFL (gs.map (·.1)) f) (ds' := putFD (gs.map (·.1)) ds f (val d)) rg2 e1 putFL_of (putFD_of r3 rd2) (by rw [hg]; exact fun z => nomatch z)
       exact ⟨a, _, dx, gs, re.ref, e1, (tab _ hc).1, (tab _ hc).2, by simpa using hl, kk.nx _ _ _ _ q2 ((k1.trans k2).trans kp) rg3 (rs.mono ((((k1.trans k2).trans kp)).stb rg))⟩
      | _ => exact ro.elim
     ·exact q2.elim
    | _ => exact q2.elim⟩⟩)
theorem p_meth0A {pl : Sem Bool} {cs : List (Addr × Sp3)} (tab : ∀ c ∈ cs, ∃ k', k' <= k /\ Mt3 X.prog X.w X.K X.mg X.base k' c.1 m dds c.2) (hr : Room k X.A) (ho : PE X o (lift X.K to))
  (ht : eval (.Call (.Attribute o m apos) [] [] pos) X.env = (do
   let ov <- eval o X.env
   standAt apos.atName
   let (f, first) <- holding [ov] (getMethod ov m pl)
   callWith pos f first (backTo pos (starEach [] X.env)) (backToKw pos (keywordEach [] X.env))) := by rfl) :
  PE X (.Call (.Attribute o m apos) [] [] pos) (lift X.K (eMethA cs m dds to aNil)) := by
 rintro pins s τ H Q I ⟨σ, G, Q3, rs, rg, h, kk⟩
 refine PySem.W.methodCall_KW (pl := pl) (thn (pe_got ho I rs rg h) fun u s1 zz => ?_) ht;obtain ⟨x, H1, I1, rx, d, G1, q, k1, rg1, rd⟩ := zz;cases d with
 | ref a =>
  simp only [val, RD] at rd;subst rd;obtain rfl : u = Value.ref a := rx;dsimp only at q;split at q
  ·rename_i C L ds hg;obtain ⟨hL, sp, hc, q⟩ := q;obtain ⟨k', hk, F⟩ := tab _ hc;obtain ⟨f, fd, ps, ds', dvs, ok, hm, hb, hv, hd⟩ := F.ex;obtain ⟨ho, e1, ro⟩ := rg1 a _ hg;cases ho with
   | ins C2 dx gs =>
    obtain ⟨rfl, r2, r3⟩ := ro;refine getmeth_ok I1 e1 F.cl hm (look_none (K := X.K) r2 hL) ?_;exact PySem.W.callWith_K0 (first := [.ref a]) I1.kIn hm.kp (run_fn (us := [.ref a]) (vs := [.ref a]) ok (hr.mono hk) hb hv pass0 I1 (.cons rfl .nil) ⟨.ref a :: ([] ++ dds), G1, Q3, RDs.cons rd_ref (hd H1), rg1, q, kk.base k1⟩)
   | _ => exact ro.elim
  ·exact q.elim
 | _ => exact q.elim
structure Cf3 (P : Program) (w : World) (K : Frag) (mg : Str -> Option Value) (base : Heap) (k : Nat) (x m : Str) (dds : List D) (sp : Sp3) : Prop where
 ex : ∃ C f fd ps ds dvs, FnOk P w K mg base CX0 k f fd ps (liftSp K sp) /\ mg x = some (.ref C) /\ specialIn K (.ref C) "__getattribute__" = some (some (.builtin "type.__getattribute__")) /\ readsIn K C (.type "type") = true /\
  findCls K (.ref C) (.type "type") m = some (.val (.ref f)) /\ keepIn K (.ref f) = true /\ Binds K fd ps ds /\ Vals dvs ds /\ ∀ H, RDs K H dds dvs
theorem p_clsCall {pl : Sem Bool} {x : Str} {p : Pos} (F : Cf3 X.prog X.w X.K X.mg X.base k x m dds sp) (hr : Room k X.A) (hg : Gl X x) (ha : PA X (e :: es) (liftA X.K t)) (hdb : (x == ("__debug__" : Str)) = false := by decide)
  (hst : starEach (e :: es) X.env = (false, eval e X.env) :: starEach es X.env := by rfl) (hpl : (backTo pos (starEach es X.env)).any (·.1) = false := by rfl)
  (ht : eval (.Call (.Attribute (.Name x p) m apos) (e :: es) [] pos) X.env = (do
   let ov <- eval (.Name x p) X.env
   standAt apos.atName
   let (f, first) <- holding [ov] (getMethod ov m pl)
   callWith pos f first (backTo pos (starEach (e :: es) X.env)) (backToKw pos (keywordEach [] X.env))) := by rfl) :
  PE X (.Call (.Attribute (.Name x p) m apos) (e :: es) [] pos) (lift X.K (eCall sp dds t)) := by
 obtain ⟨C, f, fd, ps, ds, dvs, ok, hm, hga, hrd, hfc, hk, hb, hv, hd⟩ := F.ex;intro pins s τ H Q I h;refine PySem.W.methodCall_KW (pl := pl) (thn (pe_glob (v := .ref C) hg hm rfl hdb pins s τ H (fun v H1 => v = .ref C /\ H1 = H) I ⟨rfl, rfl⟩) fun u s1 zz => ?_) ht;obtain ⟨v, H1, I1, rx, e1, e2⟩ := zz;subst e1 e2;obtain rfl : u = Value.ref C := rx;refine PySem.W.method_cls I1.kIn hga (PySem.W.cls_value I1.kIn hrd hfc rfl ?_);have I2 := I1.tok (s1.toks + 1);obtain ⟨σ, G, Q3, rs, rg, h, kk⟩ := h;refine callWith_K (first := []) (h₀ := X.base) I.ok.mod.kin hk (thn (ha pos pins _ τ H1 (fun vs H2 => ∃ ds G1, sp (ds ++ dds) G1 Q3 /\ Kp G H1 G1 H2 /\ RG X.K H2 G1 /\ RDs X.K H2 ds vs) I2 ⟨σ, G, _, rs, rg, h, fun ds G1 vs H2 q k1 rg1 rds => ⟨ds, G1, q, k1, rg1, rds⟩⟩) fun us s2 ⟨vs, H2, I3, r, ds1, G1, q2, k1, rg1, rds⟩ => ⟨I3.kIn, ?_⟩) hst hpl
 exact run_fn (us := us) (vs := vs) ok hr hb hv pass0 I3 r ⟨ds1 ++ dds, G1, Q3, rds.append (hd _), rg1, q2, kk.base k1⟩
end
end L3
theorem L3.all_cons {α : Type} {p : α -> Prop} {a : α} {l : List α} (h : p a) (t : ∀ x ∈ l, p x) : ∀ x ∈ a :: l, p x := fun x hx => by
 rcases mem_cons.mp hx with rfl | hx
 ·exact h
 ·exact t x hx
namespace L3
open PySem PySem.Spec PyProof.Rows L2 PySem.SeqAt PySem.W
noncomputable def isNon : D -> Bool
 | .non => true
 | _ => false
noncomputable def oIsN : R3 := fun x y G Q => match y with
 | .non => Q (.bl (isNon x)) G
 | _ => False
noncomputable def oNotN : R3 := fun x y G Q => match y with
 | .non => Q (.bl (!isNon x)) G
 | _ => False
section
variable {X : Cx}
theorem re_isNon {K : Frag} {G0 G : Gp} {H0 H : Hp} {x : D} {v : V} {u : Value} (r : RE K G0 H0 G H x v) (l : RelV v u) : (u == Value.none) = isNon x := by
 cases x with
 | non => rw [r.non] at l; cases l; rfl
 | fl ds =>
  obtain ⟨p, xs, rfl, _⟩ := r.fl;cases l; rfl
 | lst ds =>
  obtain ⟨a, xs, rfl, _⟩ := r.lst;cases l; rfl
 | tup ds =>
  obtain ⟨a, xs, rfl, _⟩ := r.tup;cases l; rfl
 | int i => rw [r.int] at l; obtain ⟨t, rfl⟩ := l; rfl
 | str i => rw [r.str] at l; obtain ⟨t, rfl⟩ := l; rfl
 | bl i => rw [r.bl] at l; cases l; rfl
 | ref a => rw [r.ref] at l; cases l; rfl
 | ty T =>
  have := r.rd (by intro ds z; cases z)
  simp only [RD] at this;subst this;cases l; rfl
theorem x_notN : OpR X (compareOp .IsNot) (liftOp X.K oNotN) := by
 rintro pins s σ H v u v' u' Q I rv ru ⟨x, y, G0, H0, G, Q3, rx, ry, rg, h, k⟩
 unfold oNotN at h;split at h
 ·rw [ry.non] at ru;cases ru;refine isnot_none_gen ?_;rw [re_isNon rx rv];exact ⟨.bl _, H, I, rfl, k _ G _ H h Kp.refl rg (.of rd_bl)⟩
 ·exact h.elim
end
section
variable {X : Cx} {o i : Expr} {to ti : TE3} {pos : Pos}
theorem p_tdin (hu : X.A.units + 8 < cLine) (hi : PE X i (lift X.K ti)) (ho : PE X o (lift X.K to)) (hm : behindInMarks .In o = false := by rfl) : PT X (.Compare i [.In] [o] pos) (liftT X.K (tTru (eDIn (hwOf X.prog X.w) ti to))) := by
 refine (pt_cmp (op := .In) (t := lift X.K (eDIn (hwOf X.prog X.w) ti to)) (fun pins s τ H Q I ⟨σ, G, Q3, rs, rg, h, k⟩ => ?_) hm).imp fun τ H Q h => tru_of h;refine thn (pe_got hi I rs rg h) fun iv s1 zz => ?_;obtain ⟨iy, H1, I1, riy, y, G1, q1, k1, rg1, rd1⟩ := zz;refine thn (pe_got ho I1 (rs.mono (k1.stb rg)) rg1 q1) fun ov s2 zz => ?_;obtain ⟨ox, H2, I2, rox, x, G2, q2, k2, rg2, rd2⟩ := zz;obtain ⟨r, l, q2⟩ := q2;exact d3_in (by walk_at "o") I2 rg2 l rd2 rox (RD.mono (k2.stb rg1) _ _ rd1) riy fun s3 I3 => ⟨.bl r.isSome, H2, I3, rfl, k _ G2 _ H2 q2 (k1.trans k2) rg2 (.of rd_bl)⟩
end
noncomputable def eDct1T (hw : List Key -> Int) (tk tv : TE3) : TE3 := fun σ G Q => ∀ p, G p = none -> tk σ (gset G p (.dT hw [])) fun x G1 => tv σ G1 fun y G2 => match G2 p with
 | some (.dT hw' []) => hw' = hw /\ ∃ ks, keyT (val x) = some ks /\ Q (.ref p) (gset G2 p (.dT hw [(ks, val y)]))
 | _ => False
section
variable {X : Cx} {pos : Pos}
theorem p_dct1T {k v : Expr} {tk tv : TE3} (hu : X.A.units + 8 < cLine) (hk : PE X k (lift X.K tk)) (hv : PE X v (lift X.K tv)) : PE X (.Dict [some k] [v] pos) (lift X.K (eDct1T (hwOf X.prog X.w) tk tv)) := fun pins s τ H Q I zz => by
 obtain ⟨σ, G, Q3, rs, rg, h, kk⟩ := zz;have hf : H s.heap.objs.size = none := I.hok.fresh (le_refl _);obtain ⟨kp, rg2⟩ := gnew (o := .dT (hwOf X.prog X.w) []) (ho := .ext (DTf (hwOf X.prog X.w) s.heap.objs.size [])) rg hf fun H' _ => ⟨[], rfl, .nil, List.nodup_nil, zero_le _⟩;have hd : (s.heap.objs.size == sysModules) = false := beq_eq_false_iff_ne.mpr (Ne.symm (ne_of_lt I.big));have I1 := I.laid (a := s.heap.objs.size) (t' := s.toks) (fun _ _ q => Heap.get?_push_of_some _ q) (le_refl _) (dtf_ok (P := X.prog) (w := X.w) (hw := hwOf X.prog X.w) (xs := []) ⟨hd, _, #[], 0, Heap.get?_push_size (h := s.heap) (o := { cls := .type "dict", data := .dict #[] }) rfl, ⟨rfl, rfl, rfl⟩, rfl, rfl⟩);refine wpAny_Dict_any (by rfl) (by rfl) (by simp) (by simp) ?_
 refine pairTrees_cons_walk (thn (pe_got hk I1 (rs.mono (kp.stb rg)) rg2 (h _ (rg.free hf))) fun kv s1 zz => ?_);obtain ⟨ox, H1, I2, rox, x, G1, q1, k1, rg1, rd1⟩ := zz;refine thn (pe_got hv I2 (rs.mono ((kp.trans k1).stb rg)) rg1 q1) fun vv s2 zz => ?_;obtain ⟨oy, H2, I3, roy, y, G2, q2, k2, rgb, rd2⟩ := zz;refine pairTrees_nil_walk ?_;unfold storeAll;rw [forIn_cons];split at q2
 ·rename_i hw' hg;obtain ⟨rfl, ks, hks, q2⟩ := q2;have rd1' := RD.mono (k2.stb rg1) _ _ rd1;obtain ⟨b, rfl, sq⟩ := keyT_rd hks rd1';cases rox;obtain ⟨ho, e, r⟩ := rgb _ _ hg;cases ho with
  | ext φ =>
   obtain ⟨xs, rfl, rt, nd, _⟩ := r;have e0 : xs = [] := by
    have := rt.length;exact length_eq_zero_iff.mp this.symm
   subst e0;obtain ⟨hd2, dd⟩ := dict_at I3 e rt nd;refine wpAny_bind (wpAny_bind (wpAny_dictSet_heap (hsz := zero_le _) (show X.A.units < cLine by walk_at "o") (key_at I3 sq) dd fun h' dd' hs => wpAny_pure ?_))
   dsimp only;rw [List.forIn_nil];refine wpAny_pure ?_;obtain ⟨q, es, ep, hq, h2, h3, h4, _, h5⟩ := dd';obtain ⟨kp3, rg3⟩ := gwrite (a := s.heap.objs.size) (o := .dT (hwOf X.prog X.w) (putD [] ks (val y))) (ho := .ext (DTf (hwOf X.prog X.w) s.heap.objs.size (storedH [] ks b vv))) rgb (by rw [hg]; exact fun z => nomatch z)
    fun H' st => ⟨_, rfl, (rt.put ks sq rd2 roy).mono st, putD_nodup ks (val y) nd, by have := putD_length ([] : List (List Key × D)) ks (val y); have hs := sizeLine_ge; simp only [length_nil] at this; walk_at "oo"⟩
   exact ⟨.ref _, _, d_write I3 (by rw [e]; exact True.intro) hs ⟨q, hq⟩ (dtf_ok ⟨hd2, q, es, ep, hq, h2, h3, h4⟩), rfl, kk _ _ _ _ q2 (kp.trans (k1.trans (k2.trans kp3))) rg3 (.of rd_ref)⟩
  | _ => exact r.elim
 ·exact q2.elim
end
noncomputable def idxOf (x : D) : List D -> Nat
 | [] => 0
 | d :: r => if eqb d x then 0 else idxOf x r + 1
noncomputable def eIndex (to : TE3) (ta : TA3) : TE3 := fun σ G Q => to σ G fun x G1 => match x with
 | .lst ds => ta σ G1 fun es G2 => match es with
  | [y] => (pl 7 y /\ (∀ d ∈ ds, pl 7 d) /\ y ∈ ds) /\ Q (.int (idxOf y ds)) G2
  | _ => False
 | _ => False
noncomputable def eSortL (sp : Sp3) (to : TE3) : TE3 := fun σ G Q => to σ G fun x G1 => match asL G1 (val x) with
 | some ds => ∃ ks r, SortBy sp G1 ds ks r /\ ∀ p : List Nat, p.Perm (List.range ds.length) -> (p.map r).Pairwise (· <= ·) -> Q (.fl (p.map fun i => ds.getD i .non)) G1
 | none => False
section
variable {X : Cx} {pins : List (Addr × Obj)} {τ : St} {H H0 : Hp} {s : Shared} {G : Gp} {E : Value -> Shared -> Prop}
 {k : Nat} {f : Addr} {fd : FuncData} {ps : List Str} {sp : Sp3} {ds ks : List D} {r : Nat -> Nat} {vs : List V} {us : List Value}
theorem sortedL_run {l : Addr} {Q : Value -> Shared -> Prop} (F : FnOk X.prog X.w X.K X.mg X.base CX0 k f fd ps (liftSp X.K sp)) (hb : Binds X.K fd ps []) (hr : Room (k + 2) X.A) (sb : SortBy sp G ds ks r) (hu : X.A.units + 8 < cLine)
  (I : L2.Inv X pins τ H s) (rg : RG X.K H G) (hl : s.heap.IsList l us.toArray) (rd : RDs X.K H ds vs) (wv : Vals vs us)
  (q : ∀ (p : List Nat) D0 H' s', p.Perm (List.range ds.length) -> (p.map r).Pairwise (· <= ·) -> L2.Inv X pins τ H' s' -> Kp G H G H' -> RG X.K H' G -> H D0 = none -> H' D0 = some (.lst (p.map fun i => vs.getD i .non)) -> RDs X.K H' (p.map fun i => ds.getD i .non) (p.map fun i => vs.getD i .non) -> Q (.ref D0) s') :
  wpAny (model X.prog X.w) X.A (call (.builtin "sorted") [.ref l] [(Str.ofString "key", .ref f)]) Q E s := by
 have l1 := rd.length;have l2 := wv.length;have few := sb.few;refine call_function_entry_kw kind_sorted plain_sorted entry_sorted (ksk_s1 _ _) ?_;unfold Builtin.«sorted»;refine wpAny_bind (m := checkCount "sorted" 1 1 _) (wpAny_pure ?_);refine wpAny_bind (collect_list hl ?_ (by rw [sizeLine_eq]; walk_at "oo"))
 have hk : ∀ b o, s.heap.get? b = some o -> ((s.heap.push (seqObj "list" #[] 0)).update s.heap.objs.size (Obj.mapSeq (· ++ us.toArray))).get? b = some o := fun b o q => by
  have hlt : b < s.heap.objs.size := Heap.lt_size q;rw [Heap.get?_update_ne _ _ _ _ (ne_of_lt hlt), Heap.get?_push_ne _ _ _ (ne_of_lt hlt)];exact q
 generalize (s.heap.push (seqObj "list" #[] 0)).update s.heap.objs.size (Obj.mapSeq (· ++ us.toArray)) = h' at hk ⊢;have I1 : L2.Inv X pins τ H { s with heap := h', toks := s.toks } := I.kept hk
 refine wpAny_bind (wpAny_newList ?_ (by rw [sizeLine_eq]; walk_at "oo"))
 have fD := I1.fresh;have I2 := inv_xlaid (t' := s.toks) (o := seqObj "list" us.toArray 0) I1 rfl rfl;have st : Stb X.K H (upd H h'.objs.size (XO h'.objs.size (seqObj "list" us.toArray 0))) := (Kp.laid (G := G) fD).stb rg;refine wpAny_bind (wpAny_holding (wpAny_call_entry_kw slot_list_sort ⟨_, inv_xo I2 upd_same, rfl⟩ entry_list_sort ?_ (ksk_l1 _ _)));rw [ksk_t1];refine tree_run F hb (hr.in1.in1) (fun J => J.env0.in1.in1) sb (by show X.A.units + 1 + 1 + 4 < cLine; walk_at "oo") I2 (rg.laid fD) (Kp.laid fD) (fun a e => ?_) fD (rg.free fD) upd_same (RDs.mono st _ _ rd) wv fun p H' s' hp hs I' kp' rg' e' st' => ⟨_, rfl, ?_⟩
 ·by_cases h : a = h'.objs.size
  ·subst h; exact fD
  ·rw [upd_ne h] at e; exact e
 ·refine wpAny_pure ⟨_, rfl, q p _ H' s' hp hs I' kp' rg' fD e' (map_rds (RDs.mono st' _ _ (RDs.mono st _ _ rd)) fun i hi => ?_)⟩;rw [<- l1];exact mem_range.mp (hp.mem_iff.mp hi)
end
theorem p_sortL {X : Cx} {k : Nat} {f : Str} {sp : Sp3} {o : Expr} {to : TE3} {p0 np kpos pos : Pos} (F : Fn3 X.prog X.w X.K X.mg X.base k f [] sp) (hr : Room (k + 2) X.A) (hgf : Gl X f) (hg : Gl X "sorted") (hm : X.mg "sorted" = none) (ho : PE X o (lift X.K to))
  (hs : starEach [o] X.env = [(false, eval o X.env)] := by rfl) (hdf : (f == ("__debug__" : Str)) = false := by decide) :
  PE X (.Call (.Name "sorted" p0) [o] [⟨some "key", .Name f np, kpos⟩] pos) (lift X.K (eSortL sp to)) := by
 obtain ⟨fa, fd, ps, dv, dvs, ok, hmf, _, hb, hv0, hd0⟩ := F.ex;have e0 : dvs = [] := (hd0 (fun _ => none)).inv_nil;subst e0;cases hv0;have hu := hr.units
 rintro pins s τ H Q I ⟨σ, G, Q3, rs, rg, h, kf⟩
 refine wpAny_Call_Name_kw (ld_blt I hg hm (u := .builtin "sorted") (by decide +kernel) ?_ (by decide) (by decide))
 refine callWith_kw (id := "sorted") ?_ (he := by rw [hs]; rfl) (hplain := by rw [hs]; rfl)
 rw [show backTo pos (starEach [o] X.env) = [(false, eval o X.env)] by rw [hs]; rfl]
 refine Calls.spliced_cons (thn (pe_got ho I rs rg h) fun ov s1 zz => ?_);obtain ⟨ox, H1, I1, rox, x, G1, q1, k1, rg1, rd1⟩ := zz;refine Calls.spliced_nil ?_;split at q1
 ·rename_i ds hq;obtain ⟨ks, r, sb, q1⟩ := q1;obtain ⟨b, xs, rfl, sq, rr⟩ := asL_sq (G := G1) (H := H1) hq (.of rd1) rg1;cases rox;obtain ⟨its, rv, pl, hz⟩ := I1.list sq;show wpAny _ _ (evalAll [(do let v <- eval (.Name f np) X.env; standAt pos; pure v)]) _ _ _
  refine wpAny_evalAll_cons (wpAny_bind (ld_glob I1 hgf hmf (wpAny_bind (wpAny_standAt (wpAny_pure (wpAny_evalAll_nil ?_)))) hdf));show wpAny _ _ (call (.builtin "sorted") [.ref b] [(Str.ofString "key", .ref fa)]) _ _ _
  refine sortedL_run ok hb hr sb (by walk_at "o") I1 rg1 pl.isList rr rv fun p D0 H' s' hp hs I' kp' rg' n0 e' rd' => ?_
  exact ⟨.ref D0, H', I', rfl, kf _ G1 _ H' (q1 p hp hs) (k1.trans kp') rg' (.inl ⟨_, D0, _, rfl, rfl, e', rg1.free n0, rd', k1.fr (fr_none n0)⟩)⟩
 ·exact q1.elim
open PySem PySem.Spec PyProof.Rows L2
open PySem
noncomputable def tm (c : Bool) : Nat := if c then 31 else 7
noncomputable def Tb (c : Bool) (pl : Array Nat) (led plain : Bool) : SetTable := { mask := tm c, place := pl, dummies := #[], finger := 0, led := led, moves := if c then 1 else 0, plain := plain }
abbrev Pb := SetTable.Probe
noncomputable def look (c : Bool) (pl : Array Nat) (hs : Nat -> Int) (same : Nat -> Bool) (h : Int) : Nat -> Pb -> Option (Option Nat)
 | 0, _ => none
 | f + 1, p => match (Tb c pl false false).probe hs h p with
  | none => none
  | some (.empty j _) => some (some j)
  | some (.candidate _ i next) => if same i then some none else look c pl hs same h f next
section
variable {κ : Type} [DecidableEq κ]
noncomputable def pStart (c : Bool) (h : Int) : Pb := (Tb c #[] false false).probeStart h
noncomputable def found (hw : κ -> Int) (ks : List κ) (c : Bool) (pl : Array Nat) (k : κ) : Option (Option Nat) := look c pl (fun i => ((ks[i]?.map hw)).getD 0) (fun i => decide (ks[i]? = some k)) (hw k) 100000 (pStart c (hw k))
end
noncomputable def setO (es : Array (Int × Value)) (ep : Nat) (t : SetTable) : Obj := { cls := .type "set", dict := none, data := .set es ep t }
section
variable {prog : Program} {w : World} {κ : Type} [DecidableEq κ] {kn : KeyKind prog w κ} {A : Around} {E : Value -> Shared -> Prop} {s : Shared} {a b : Addr}
abbrev hK (kn : KeyKind prog w κ) : List κ -> Int := tupleKeyHash kn
noncomputable def esOf (kn : KeyKind prog w κ) (xs : List (List κ × Addr)) : Array (Int × Value) := (xs.map fun x => (hK kn x.1, Value.ref x.2)).toArray
end
set_option maxRecDepth 100000
noncomputable def itO (first : Value) (i n ep : Nat) (S : Addr) : Obj := { cls := .type "set_iterator", data := .fields #[first, .int i 0, .ref S, .int n 0, .int ep 0] }
set_option maxRecDepth 100000
set_option maxRecDepth 100000
set_option maxRecDepth 100000
section
variable {X : Cx} {pins : List (Addr × Obj)} {τ : St} {H H0 : Hp} {s : Shared} {G : Gp}
noncomputable def keyS (d : D) : Prop := ∃ t r, d = .tup (.str t :: r)
theorem ask_S (I : L2.Inv X pins τ H s) {A : Around} (hu : A.units + 4 < cLine) {kx ky : D} {v u : V} {v' u' : Value} (cp : cpD 4 kx ky) (hx : keyS kx) (hy : keyS ky) (rx : RD X.K H kx v) (ry : RD X.K H ky u) (lx : RelV v v') (ly : RelV u u') {C : Bool -> Shared -> Prop} {E : Value -> Shared -> Prop}
  (q : C (ltD 4 kx ky) s) : wpAny (model X.prog X.w) A (keyLt' (tuples' true) v' u') C E s := by
 obtain ⟨i, r, rfl⟩ := hx;obtain ⟨j, t, rfl⟩ := hy;simp only [RD] at rx ry;obtain ⟨a, xs, rfl, s1, r1⟩ := rx;obtain ⟨b, ys, rfl, s2, r2⟩ := ry;cases lx; cases ly;obtain ⟨its, w1, ⟨o1, h1, c1, n1, d1⟩, z1⟩ := I.tuple s1;obtain ⟨its2, w2, ⟨o2, h2, c2, n2, d2⟩, z2⟩ := I.tuple s2;refine kat_lt h1 d1 h2 d2 ?_;have l1 := w1.length;have l1' := r1.length;have l2 := w2.length;have l2' := r2.length;obtain ⟨x1, t1, e1, g1, g2⟩ := RDs.inv_cons (d := .str i) (ds := r) r1;subst e1;obtain ⟨x2, t2, e2, f1, f2⟩ := RDs.inv_cons (d := .str j) (ds := t) r2;subst e2;simp only [RD] at g1 f1;subst g1 f1;cases w1 with
 | @cons _ u1 _ m1 k1 w1 =>
 cases w2 with
 | @cons _ u2 _ m2 k2 w2 =>
  obtain ⟨tk, rfl⟩ := k1;obtain ⟨tk', rfl⟩ := k2;obtain ⟨p, c, z⟩ := (show cpL 3 (cpD 3) (.str i :: r) (.str j :: t) from cp)
  have q' : C (lexE (ltD 3) (.str i :: r) (.str j :: t)) s := q;show KatLex _ _ _ _ _ _ ((_ :: m1).zip (_ :: m2)) 0 s
  rw [zip_cons_cons];refine kat_cons ((cmp_D I 3 (x := .str i) (y := .str j) (v := .str i) (u := .str j) p.1 p.2 rd_str rd_str ⟨tk, rfl⟩ ⟨tk', rfl⟩ (by walk_at "o")).eq X.prog X.w _ _ (kat_go (fun e => kat_yes ?_) fun e => kat_no ?_))
  ·rw [show lexE (ltD 3) (.str i :: r) (.str j :: t) = lexE (ltD 3) r t by simp [lexE, e]] at q'
   simp only [length_cons] at l1 l1' l2 l2';exact kat_D I (by walk_at "o") (by simp) z g2 f2 w1 w2 (by simp only [size_toArray, length_cons]; walk_at "oo") q'
  ·rw [show lexE (ltD 3) (.str i :: r) (.str j :: t) = ltD 3 (.str i) (.str j) by simp [lexE, e]] at q'
   show wpAny _ _ (oneLt' true _ _) _ _ _
   exact oneLt_str q'
theorem kind_S (I : L2.Inv X pins τ H s) {A : Around} {E : Value -> Shared -> Prop} {Q : SortKind -> Shared -> Prop} {ks : List D} {kv : List V} {ku : List Value} (hk : ∀ d ∈ ks, keyS d) (r : RDs X.K H ks kv) (w : Vals kv ku) (hn : 0 < ks.length) (q : Q (tuples' true) s) :
  wpAny (model X.prog X.w) A (keyKind' ku.toArray) Q E s := by
 have go : ∀ {ks : List D} {kv : List V} {ku : List Value}, (∀ d ∈ ks, keyS d) -> RDs X.K H ks kv -> Vals kv ku -> ∃ fs, KatTups s.heap ku fs /\ fs.length = ks.length /\ ∀ v ∈ fs, ∃ i t, v = Value.str i t := by
  intro ks
  induction ks with
  | nil =>
   intro kv ku _ r w;rw [r.inv_nil] at w;cases w;exact ⟨[], KatTups.nil, rfl, fun v hv => by simp at hv⟩
  | cons d t ih =>
   intro kv ku hk r w;obtain ⟨x1, t1, e1, g1, g2⟩ := r.inv_cons;subst e1;cases w with
   | cons k1 w =>
    obtain ⟨fs, h1, h2, h3⟩ := ih (fun d hd => hk d (mem_cons_of_mem _ hd)) g2 w;obtain ⟨i, rr, rfl⟩ := hk d mem_cons_self;simp only [RD] at g1;obtain ⟨a, xs, rfl, s1, r1⟩ := g1;cases k1;obtain ⟨its, w1, ⟨o1, e1, c1, n1, d1⟩, z1⟩ := I.tuple s1;obtain ⟨y1, u1, e2, g3, _⟩ := RDs.inv_cons (d := .str i) (ds := rr) r1;subst e2;simp only [RD] at g3;subst g3;cases w1 with
    | cons k2 w1 =>
     obtain ⟨tk, rfl⟩ := k2;refine ⟨.str i tk :: fs, KatTups.cons e1 c1 d1 (by simp) h1, by simp [h2], fun v hv => ?_⟩
     rcases mem_cons.mp hv with rfl | hv
     ·exact ⟨i, tk, rfl⟩
     ·exact h3 v hv
 obtain ⟨fs, h1, h2, h3⟩ := go hk r w;refine kat_kind (T := .type "str") h1 (by walk_at "o") (fun v hv => ?_) (by decide) ?_
 ·obtain ⟨i, t, rfl⟩ := h3 v hv;exact Looks.of_pure rfl
 ·rw [show (Value.type "str" != Value.type "tuple") = true by decide]
  exact q
end
section
variable {X : Cx} {pins : List (Addr × Obj)} {τ : St} {H : Hp} {s : Shared} {G : Gp} {E : Value -> Shared -> Prop}
theorem vals_refs {α : Type} {g : α -> Addr} : ∀ (l : List α), Vals (l.map fun x => V.ref (g x)) (l.map fun x => Value.ref (g x))
 | [] => .nil
 | x :: t => .cons rfl (vals_refs t)
end
end L3
namespace RQ
open PySem PySem.Spec PyProof.Rows L2 L3
structure Rw where
 pen : Str
 num : Int
 time : Int
 act : D
instance : Inhabited Rw := ⟨⟨"", 0, 0, .non⟩⟩
noncomputable def Rw.d (r : Rw) : D := .tup [.tup [.str r.pen, .int r.num], .int r.time, r.act]
noncomputable def Rw.key (r : Rw) : D := .tup [.int r.time, .tup [.str r.pen, .int r.num]]
noncomputable def Rw.ok (r : Rw) : Prop := pl 4 r.act
noncomputable def Rw.lt (a b : Rw) : Bool := if a.time = b.time then (if a.pen = b.pen then decide (a.num < b.num) else decide (a.pen.cps.toList < b.pen.cps.toList)) else decide (a.time < b.time)
noncomputable def Strict (rs : List Rw) : Prop := rs.Pairwise fun a b => a.lt b = true
noncomputable def Apart (a b : Rw) : Prop := ¬ (a.pen = b.pen /\ a.num = b.num)
noncomputable def OneEach (rs : List Rw) : Prop := ∀ a ∈ rs, ∀ b ∈ rs, a.pen = b.pen -> a.num = b.num -> a = b
abbrev HW := List Key -> Int
open PySem.W (SWO STO lexB natB nat_sto lex_sto lexB_nat rankIn rank_lt)
theorem cps_sto : STO (fun a b : List Nat => decide (a < b)) := by
 have e : (fun a b : List Nat => decide (a < b)) = lexB natB := by funext a b; exact (lexB_nat a b).symm
 rw [e];exact lex_sto nat_sto
theorem cps_inj {x y : Str} (h : x.cps.toList = y.cps.toList) : x = y := by
 cases x; cases y;simp only at h;rw [Array.toList_inj.mp h]
theorem lt_irrefl (a : Rw) : a.lt a = false := by simp [Rw.lt]
theorem lt_trans (a b c : Rw) (h1 : a.lt b = true) (h2 : b.lt c = true) : a.lt c = true := by
 unfold Rw.lt at *
 by_cases e1 : a.time = b.time
 ·rw [if_pos e1] at h1
  by_cases e2 : b.time = c.time
  ·rw [if_pos e2] at h2;rw [if_pos (e1.trans e2)]
   by_cases p1 : a.pen = b.pen
   ·rw [if_pos p1] at h1
    by_cases p2 : b.pen = c.pen
    ·rw [if_pos p2] at h2;rw [if_pos (p1.trans p2)];simp only [decide_eq_true_eq] at *
     walk_at "oo"
    ·rw [if_neg p2] at h2;rw [p1, if_neg p2];exact h2
   ·rw [if_neg p1] at h1
    by_cases p2 : b.pen = c.pen
    ·rw [<- p2, if_neg p1];exact h1
    ·rw [if_neg p2] at h2;have h3 := cps_sto.trans _ _ _ h1 h2;rw [if_neg (fun e => by rw [e, cps_sto.irrefl] at h3; cases h3)]
     exact h3
  ·rw [if_neg e2] at h2;rw [e1, if_neg e2];exact h2
 ·rw [if_neg e1] at h1
  by_cases e2 : b.time = c.time
  ·rw [<- e2, if_neg e1];exact h1
  ·rw [if_neg e2] at h2;simp only [decide_eq_true_eq] at *
   rw [if_neg (by walk_at "o")]
   simp only [decide_eq_true_eq];walk_at "oo"
theorem lt_tot (a b : Rw) (h1 : a.lt b = false) (h2 : b.lt a = false) : a.pen = b.pen /\ a.num = b.num /\ a.time = b.time := by
 unfold Rw.lt at *
 by_cases e1 : a.time = b.time
 ·rw [if_pos e1] at h1;rw [if_pos e1.symm] at h2
  by_cases p1 : a.pen = b.pen
  ·rw [if_pos p1] at h1;rw [if_pos p1.symm] at h2;simp only [decide_eq_false_iff_not] at *
   exact ⟨p1, by walk_at "o", e1⟩
  ·rw [if_neg p1] at h1;rw [if_neg (Ne.symm p1)] at h2;exact absurd (cps_inj (cps_sto.tot _ _ h1 h2)) p1
 ·rw [if_neg e1] at h1;rw [if_neg (Ne.symm e1)] at h2;simp only [decide_eq_false_iff_not] at *
  walk_at "oo"
theorem lt_asymm {a b : Rw} (h : a.lt b = true) : b.lt a = false := by
 cases e : b.lt a with
 | false => rfl
 | true => have := lt_trans _ _ _ h e; rw [lt_irrefl] at this; cases this
theorem lt_same {a b c : Rw} (p : a.pen = b.pen) (n : a.num = b.num) (t : a.time = b.time) : a.lt c = b.lt c /\ c.lt a = c.lt b := by
 unfold Rw.lt;rw [p, n, t];exact ⟨rfl, rfl⟩
theorem rw_swo : SWO Rw.lt where
 irrefl := lt_irrefl
 trans := lt_trans
 neg := fun a b c h => by
  cases e : a.lt b with
  | true => exact .inl rfl
  | false =>
   cases e2 : b.lt c with
   | true => exact .inr rfl
   | false =>
    cases e3 : b.lt a with
    | true => have := lt_trans _ _ _ e3 h; rw [e2] at this; cases this
    | false =>
     obtain ⟨p, n, t⟩ := lt_tot a b e e3;rw [(lt_same (c := c) p n t).1, e2] at h;cases h
theorem strict_unique : ∀ {xs ys : List Rw}, Strict xs -> Strict ys -> (∀ r, r ∈ xs ↔ r ∈ ys) -> xs = ys
 | [], ys, _, _, h => by
  cases ys with
  | nil => rfl
  | cons y t => have := (h y).mpr mem_cons_self; simp at this
 | x :: xs, [], _, _, h => by have := (h x).mp mem_cons_self; simp at this
 | x :: xs, y :: ys, h1, h2, h => by
  unfold Strict at h1 h2;rw [List.pairwise_cons] at h1 h2;have hxy : x = y := by
   rcases mem_cons.mp ((h x).mp mem_cons_self) with e | m1
   ·exact e
   ·rcases mem_cons.mp ((h y).mpr mem_cons_self) with e | m2
    ·exact e.symm
    ·have a1 := h2.1 x m1;have a2 := h1.1 y m2;rw [lt_asymm a1] at a2;cases a2
  subst hxy;have nx : x ∉ xs := fun m => by have := h1.1 x m; rw [lt_irrefl] at this; cases this
  have ny : x ∉ ys := fun m => by have := h2.1 x m; rw [lt_irrefl] at this; cases this
  rw [strict_unique h1.2 h2.2 fun r => ⟨fun m => ?_, fun m => ?_⟩]
  ·rcases mem_cons.mp ((h r).mp (mem_cons_of_mem _ m)) with e | m'
   ·subst e; exact absurd m nx
   ·exact m'
  ·rcases mem_cons.mp ((h r).mpr (mem_cons_of_mem _ m)) with e | m'
   ·subst e; exact absurd m ny
   ·exact m'
theorem strict_nodup {xs : List Rw} (h : Strict xs) : xs.Nodup := List.Pairwise.imp (fun {a b} q e => by subst e; rw [lt_irrefl] at q; cases q) h
theorem apart_nodup {xs : List Rw} (h : xs.Pairwise Apart) : xs.Nodup := List.Pairwise.imp (fun {a b} q e => by subst e; exact q ⟨rfl, rfl⟩) h
open Classical in
theorem nodup_le : ∀ {xs ys : List Rw}, xs.Nodup -> (∀ r ∈ xs, r ∈ ys) -> xs.length <= ys.length
 | [], _, _, _ => zero_le _
 | x :: xs, ys, h, s => by
  rw [nodup_cons] at h;have hx := s x mem_cons_self;have := nodup_le (ys := ys.erase x) h.2 fun r hr => (List.mem_erase_of_ne (fun e => by subst e; exact h.1 hr)).mpr (s r (mem_cons_of_mem _ hr))
  rw [List.length_erase_of_mem hx] at this;have hp : 0 < ys.length := List.length_pos_of_mem hx;rw [length_cons];walk_at "oo"
theorem apart_one {rs : List Rw} (h : rs.Pairwise Apart) : OneEach rs := by
 induction h with
 | nil => intro a ha; simp at ha
 | @cons x xs h1 h2 ih =>
  intro a ha b hb p n;rcases mem_cons.mp ha with e | ha
  ·rcases mem_cons.mp hb with e' | hb
   ·rw [e, e']
   ·rw [e] at p n; exact absurd ⟨p, n⟩ (h1 b hb)
  ·rcases mem_cons.mp hb with e | hb
   ·rw [e] at p n; exact absurd ⟨p.symm, n.symm⟩ (h1 a ha)
   ·exact ih a ha b hb p n
theorem one_of {rs ss : List Rw} (h : OneEach rs) (s : ∀ r ∈ ss, r ∈ rs) : OneEach ss := fun a ha b hb => h a (s a ha) b (s b hb)
theorem eqb_dec {x y : D} {p : Prop} [Decidable p] (h : x = y ↔ p) : eqb x y = decide p := by
 refine eqb_bool ?_;rw [decide_eq_true_iff];exact h.symm
theorem key_lt (a b : Rw) : ltD 4 a.key b.key = a.lt b := by
 show lexE (ltD 3) [.int a.time, .tup [.str a.pen, .int a.num]] [.int b.time, .tup [.str b.pen, .int b.num]] = _
 unfold Rw.lt
 by_cases e : a.time = b.time
 ·rw [if_pos e];have h1 : eqb (.int a.time) (.int b.time) = true := by rw [e]; exact eqb_self _
  rw [show lexE (ltD 3) [.int a.time, .tup [.str a.pen, .int a.num]] [.int b.time, .tup [.str b.pen, .int b.num]] = lexE (ltD 3) [.tup [.str a.pen, .int a.num]] [.tup [.str b.pen, .int b.num]] by simp [lexE, h1]]
  have inner : ltD 3 (.tup [.str a.pen, .int a.num]) (.tup [.str b.pen, .int b.num]) = if a.pen = b.pen then decide (a.num < b.num) else decide (a.pen.cps.toList < b.pen.cps.toList) := by
   show lexE (ltD 2) [.str a.pen, .int a.num] [.str b.pen, .int b.num] = _
   by_cases p : a.pen = b.pen
   ·have h2 : eqb (.str a.pen) (.str b.pen) = true := by rw [p]; exact eqb_self _
    rw [if_pos p]
    by_cases n : a.num = b.num
    ·have h3 : eqb (.int a.num) (.int b.num) = true := by rw [n]; exact eqb_self _
     simp [lexE, h2, n, eqb_self]
    ·have h3 : eqb (.int a.num) (.int b.num) = false := eqb_no (by simpa using n)
     simp [lexE, h2, h3, ltD]
   ·have h2 : eqb (.str a.pen) (.str b.pen) = false := eqb_no (by simpa using p)
    rw [if_neg p];simp [lexE, h2, ltD]
  by_cases t : (D.tup [.str a.pen, .int a.num]) = .tup [.str b.pen, .int b.num]
  ·have h2 := eqb_of t;simp only [D.tup.injEq, List.cons.injEq, D.str.injEq, D.int.injEq, and_true] at t;simp [lexE, t.1, t.2, eqb_self]
  ·rw [<- inner];simp [lexE, eqb_no t]
 ·rw [if_neg e];have h1 : eqb (.int a.time) (.int b.time) = false := eqb_no (by simpa using e)
  simp [lexE, h1, ltD]
theorem key3_lt (a b : Rw) : ltD 4 (.tup [.int a.time, .str a.pen, .int a.num]) (.tup [.int b.time, .str b.pen, .int b.num]) = a.lt b := by
 show lexE (ltD 3) [.int a.time, .str a.pen, .int a.num] [.int b.time, .str b.pen, .int b.num] = _
 unfold Rw.lt
 by_cases e : a.time = b.time
 ·have h1 : eqb (.int a.time) (.int b.time) = true := by rw [e]; exact eqb_self _
  rw [if_pos e]
  by_cases p : a.pen = b.pen
  ·have h2 : eqb (.str a.pen) (.str b.pen) = true := by rw [p]; exact eqb_self _
   rw [if_pos p]
   by_cases n : a.num = b.num
   ·have h3 : eqb (.int a.num) (.int b.num) = true := by rw [n]; exact eqb_self _
    simp [lexE, h1, h2, n, eqb_self]
   ·have h3 : eqb (.int a.num) (.int b.num) = false := eqb_no (by simpa using n)
    simp [lexE, h1, h2, h3, ltD]
  ·have h2 : eqb (.str a.pen) (.str b.pen) = false := eqb_no (by simpa using p)
   rw [if_neg p];simp [lexE, h1, h2, ltD]
 ·have h1 : eqb (.int a.time) (.int b.time) = false := eqb_no (by simpa using e)
  rw [if_neg e];simp [lexE, h1, ltD]
theorem key_cp (a b : Rw) : cpD 4 a.key b.key := by
 refine ⟨⟨trivial, trivial⟩, fun _ => trivial, ⟨fun d hd => ?_, fun d hd => ?_⟩, fun _ => ?_, trivial⟩
 ·simp only [mem_cons, not_mem_nil, or_false] at hd;rcases hd with rfl | rfl <;> trivial
 ·simp only [mem_cons, not_mem_nil, or_false] at hd;rcases hd with rfl | rfl <;> trivial
 ·exact ⟨⟨trivial, trivial⟩, fun _ => trivial, ⟨trivial, trivial⟩, fun _ => trivial, trivial⟩
theorem key3_cp (a b : Rw) : cpD 4 (.tup [.int a.time, .str a.pen, .int a.num]) (.tup [.int b.time, .str b.pen, .int b.num]) :=
 ⟨⟨trivial, trivial⟩, fun _ => trivial, ⟨trivial, trivial⟩, fun _ => trivial, ⟨trivial, trivial⟩, fun _ => trivial, trivial⟩
noncomputable def nameK (r : Rw) : List Key := [.inr r.pen, .inl r.num]
noncomputable def kvOf (r : Rw) : List Key × D := (nameK r, r.d)
theorem nameK_inj {a b : Rw} : nameK a = nameK b ↔ a.pen = b.pen /\ a.num = b.num := by
 simp [nameK]
theorem put_in {vs : List Rw} {r : Rw} (h : r ∈ vs) (o : ∀ a ∈ vs, a.pen = r.pen -> a.num = r.num -> a = r) : putD (vs.map kvOf) (nameK r) r.d = vs.map kvOf := by
 unfold putD;rw [if_pos (by rw [List.any_eq_true]; exact ⟨kvOf r, List.mem_map_of_mem h, decide_eq_true rfl⟩), map_map]
 refine map_congr_left fun a ha => ?_;simp only [Function.comp_apply];split
 ·rename_i e;obtain ⟨p, n⟩ := nameK_inj.mp e;have := o a ha p n;subst this;rfl
 ·rfl
theorem put_new {vs : List Rw} {r : Rw} (h : ∀ a ∈ vs, Apart a r) : putD (vs.map kvOf) (nameK r) r.d = (vs ++ [r]).map kvOf := by
 unfold putD;rw [if_neg]
 ·rw [map_append]; rfl
 ·rw [Bool.not_eq_true, any_eq_false];intro kv hkv;obtain ⟨a, ha, rfl⟩ := mem_map.mp hkv;simp only [decide_eq_true_eq];intro e;exact h a ha (nameK_inj.mp e)
theorem sort_out {vs : List Rw} (hv : vs.Pairwise Apart) {p : List Nat} (hp : p.Perm (List.range vs.length)) (hs : (p.map fun i => rankIn Rw.lt vs (vs.getD i default)).Pairwise (· <= ·)) :
  Strict (p.map fun i => vs.getD i default) /\ ∀ r, r ∈ (p.map fun i => vs.getD i default) ↔ r ∈ vs := by
 have inr : ∀ i ∈ p, i < vs.length := fun i hi => mem_range.mp (hp.mem_iff.mp hi);have gm : ∀ i, i < vs.length -> vs.getD i default ∈ vs := fun i hi => by rw [getD_eq_getElem?_getD, getElem?_eq_getElem hi]; exact getElem_mem hi
 constructor
 ·unfold Strict;rw [pairwise_map] at hs ⊢;have nd : p.Nodup := hp.nodup_iff.mpr List.nodup_range;refine (hs.and nd).imp_of_mem fun {i j} hi hj h => ?_;have li := inr i hi;have lj := inr j hj;have nlt : (vs.getD j default).lt (vs.getD i default) = false := by
   rw [rank_lt rw_swo (gm j lj), decide_eq_false_iff_not, Nat.not_lt];exact h.1
  cases e : (vs.getD i default).lt (vs.getD j default) with
  | true => rfl
  | false =>
   obtain ⟨pp, nn, _⟩ := lt_tot _ _ e nlt;have ap : Apart (vs.getD i default) (vs.getD j default) := by
    rw [getD_eq_getElem?_getD, getD_eq_getElem?_getD, getElem?_eq_getElem li, getElem?_eq_getElem lj];rcases Nat.lt_or_gt_of_ne h.2 with l | l
    ·exact pairwise_iff_getElem.mp hv i j li lj l
    ·exact fun z => pairwise_iff_getElem.mp hv j i lj li l ⟨z.1.symm, z.2.symm⟩
   exact absurd ⟨pp, nn⟩ ap
 ·intro r;have e : ((List.range vs.length).map fun i => vs.getD i default) = vs := L3.range_getD vs default;have q := hp.map fun i => vs.getD i default;rw [e] at q;exact q.mem_iff
theorem atD_put {κ : Type} [DecidableEq κ] (k k' : κ) (v : D) : ∀ kvs : List (κ × D), atD (putD kvs k v) k' = if k' = k then some v else atD kvs k' := by
 have go : ∀ kvs : List (κ × D), (kvs.any fun kv => decide (kv.1 = k)) = true -> atD (kvs.map fun kv => if kv.1 = k then (kv.1, v) else kv) k' = if k' = k then some v else atD kvs k' := by
  intro kvs
  induction kvs with
  | nil => intro h; simp at h
  | cons p r ih =>
   intro h
   by_cases e : p.1 = k
   ·by_cases e' : k' = k
    ·rw [if_pos e'];simp [atD, find?_cons, e, e']
    ·rw [if_neg e'];have n1 : ¬ k = k' := fun z => e' z.symm;have skip : ∀ q : List (κ × D), atD (((p.1, v) : κ × D) :: q) k' = atD q k' := fun q => by simp [atD, find?_cons, e, n1]
     have skip2 : atD (p :: r) k' = atD r k' := by simp [atD, find?_cons, e, n1]
     rw [map_cons, if_pos e, skip, skip2]
     by_cases hr : (r.any fun kv => decide (kv.1 = k)) = true
     ·have := ih hr;rw [if_neg e'] at this;exact this
     ·have : r.map (fun kv => if kv.1 = k then (kv.1, v) else kv) = r := by
       rw [Bool.not_eq_true, any_eq_false] at hr
       conv => rhs; rw [<- List.map_id r]
       refine map_congr_left fun a ha => ?_;have := hr a ha;simp only [decide_eq_true_eq] at this;rw [if_neg this]; rfl
      rw [this]
   ·have hr : (r.any fun kv => decide (kv.1 = k)) = true := by simpa [e] using h
    rw [map_cons, if_neg e]
    by_cases e2 : p.1 = k'
    ·have n1 : ¬ k' = k := fun z => e (e2.trans z);rw [if_neg n1];simp [atD, find?_cons, e2]
    ·have s1 : ∀ q : List (κ × D), atD (p :: q) k' = atD q k' := fun q => by simp [atD, find?_cons, e2]
     rw [s1, s1];exact ih hr
 intro kvs;unfold putD
 by_cases h : (kvs.any fun kv => decide (kv.1 = k)) = true
 ·rw [if_pos h]; exact go kvs h
 ·rw [if_neg h]
  by_cases e' : k' = k
  ·rw [if_pos e'];subst e';have hn : atD kvs k' = none := by
    have := atD_any k' kvs;rw [Bool.not_eq_true] at h;rw [h] at this;cases q : atD kvs k' with
    | none => rfl
    | some _ => rw [q] at this; cases this
   unfold atD at hn ⊢;rw [List.find?_append];cases q : kvs.find? fun kv => decide (kv.1 = k') with
   | none => simp
   | some z => rw [q] at hn; cases hn
  ·rw [if_neg e'];unfold atD;rw [List.find?_append];cases q : kvs.find? fun kv => decide (kv.1 = k') with
   | none => simp; exact fun z => e' z.symm
   | some z => rfl
theorem pick_map {α β : Type} (f : α -> β) (xs : List α) (l u st : Option Int) : pickA (xs.map f) l u st = (pickA xs l u st).map f := by
 unfold pickA;rw [length_map, List.map_filterMap];congr 1;funext i;rw [getElem?_map]
theorem pick_mem {α : Type} {xs : List α} {l u st : Option Int} {x : α} (h : x ∈ pickA xs l u st) : x ∈ xs := by
 unfold pickA at h;obtain ⟨i, _, e⟩ := List.mem_filterMap.mp h;exact mem_of_getElem? e
theorem pick_le {α : Type} (xs : List α) (l u st : Option Int) : (pickA xs l u st).length <= xs.length := by
 have h := slicePick_size_le (xs.map fun _ => Value.none).toArray l u st;have e : (slicePick (xs.map fun _ => Value.none).toArray l u st) = (pickA (xs.map fun _ => Value.none) l u st).toArray := by simp [slicePick, pickA]
 rw [e, size_toArray, size_toArray, pick_map, length_map, length_map] at h;exact h
set_option genInjectivity false in
structure Sl where
 pen : Str
 n : Int
 k : Int
deriving DecidableEq
instance : Inhabited Sl := ⟨⟨"", 0, 0⟩⟩
noncomputable def Sl.d (s : Sl) : D := .tup [.str s.pen, .int s.n, .int s.k]
noncomputable def Sl.key (s : Sl) : List Key := [.inr s.pen, .inl s.n, .inl s.k]
theorem Sl.key_inj {a b : Sl} (h : a.key = b.key) : a = b := by
 obtain ⟨a1, a2, a3⟩ := a;obtain ⟨b1, b2, b3⟩ := b;simp only [Sl.key, List.cons.injEq, Sum.inr.injEq, Sum.inl.injEq, and_true] at h;obtain ⟨rfl, rfl, rfl⟩ := h;rfl
theorem Sl.d_inj {a b : Sl} (h : a.d = b.d) : a = b := by
 obtain ⟨a1, a2, a3⟩ := a;obtain ⟨b1, b2, b3⟩ := b;simp only [Sl.d, D.tup.injEq, List.cons.injEq, D.str.injEq, D.int.injEq, and_true] at h;obtain ⟨rfl, rfl, rfl⟩ := h;rfl
theorem keyT_sl (s : Sl) : keyT s.d = some s.key := rfl
noncomputable def startS : Sl := ⟨Str.ofString "", 0, 0⟩
set_option genInjectivity false in
inductive Act where
 | put (a : Sl) (x : Str)
 | strike (ns : List Sl)
 | dress (ns : List Sl) (w : Str)
 | move (ns : List Sl) (a : Sl)
noncomputable def Act.d : Act -> D
 | .put a x => .tup [.str "put", a.d, .str x]
 | .strike ns => .tup [.str "strike", .tup (ns.map Sl.d)]
 | .dress ns w => .tup [.str "dress", .tup (ns.map Sl.d), .str w]
 | .move ns a => .tup [.str "move", .tup (ns.map Sl.d), a.d]
noncomputable def Act.many : Act -> Nat
 | .put _ x => x.length
 | .move ns _ => ns.length
 | _ => 0
noncomputable def Act.anch : Act -> Sl
 | .put a _ => a
 | .move _ a => a
 | _ => startS
set_option genInjectivity false in
structure Sk where
 pen : Str
 num : Int
 time : Int
 act : Act
instance : Inhabited Sk := ⟨⟨"", 0, 0, .strike []⟩⟩
noncomputable def Sk.rw (s : Sk) : Rw := ⟨s.pen, s.num, s.time, s.act.d⟩
noncomputable def Sk.d (s : Sk) : D := .tup [.tup [.str s.pen, .int s.num], .int s.time, s.act.d]
noncomputable def Sk.ok (s : Sk) : Prop := 1 <= s.num /\ s.act.many <= 1000
noncomputable def numbered (pen : Str) (n : Int) (m : Nat) : List Sl := (List.range m).map fun (k : Nat) => ⟨pen, n, (k : Int) + 1⟩
noncomputable def made (s : Sk) : List Sl := numbered s.pen s.num s.act.many
noncomputable def oldS (m : Nat) : List Sl := numbered (Str.ofString "") 0 m
theorem numbered_length (p : Str) (n : Int) (m : Nat) : (numbered p n m).length = m := by simp [numbered]
theorem numbered_nodup (p : Str) (n : Int) (m : Nat) : (numbered p n m).Nodup := by
 unfold numbered List.Nodup;rw [pairwise_map];refine List.Pairwise.imp ?_ (List.nodup_range (n := m));intro a b h e;injection e with e1 e2 e3
 exact h (by walk_at "o")
theorem numbered_mem {p : Str} {n : Int} {m : Nat} {x : Sl} (h : x ∈ numbered p n m) : x.pen = p /\ x.n = n /\ 1 <= x.k := by
 unfold numbered at h;obtain ⟨k, _, rfl⟩ := mem_map.mp h;exact ⟨rfl, rfl, by show 1 <= (k : Int) + 1; walk_at "oo"⟩
noncomputable def nxt : List Sl -> D
 | [] => .non
 | s :: _ => s.d
noncomputable def nx : List Sl -> Sl -> D
 | [], _ => .non
 | a :: t, c => if a = c then nxt t else nx t c
noncomputable def ins1 : List Sl -> Sl -> Sl -> List Sl
 | [], _, _ => []
 | a :: t, b, x => if a = b then a :: x :: t else a :: ins1 t b x
noncomputable def insAll : List Sl -> Sl -> List Sl -> List Sl
 | W, _, [] => W
 | W, b, x :: t => insAll (ins1 W b x) x t
theorem ins1_mem {W : List Sl} {b x : Sl} (hb : b ∈ W) : ∀ c, c ∈ ins1 W b x ↔ c ∈ W \/ c = x := by
 induction W with
 | nil => simp at hb
 | cons a t ih =>
  intro c;unfold ins1
  by_cases e : a = b
  ·rw [if_pos e];simp only [mem_cons];constructor
   ·rintro (h | h | h)
    ·exact .inl (.inl h)
    ·exact .inr h
    ·exact .inl (.inr h)
   ·rintro ((h | h) | h)
    ·exact .inl h
    ·exact .inr (.inr h)
    ·exact .inr (.inl h)
  ·rw [if_neg e];have hb' : b ∈ t := by
    rcases mem_cons.mp hb with z | z
    ·exact absurd z.symm e
    ·exact z
   simp only [mem_cons, ih hb' c];constructor
   ·rintro (h | h | h)
    ·exact .inl (.inl h)
    ·exact .inl (.inr h)
    ·exact .inr h
   ·rintro ((h | h) | h)
    ·exact .inl h
    ·exact .inr (.inl h)
    ·exact .inr (.inr h)
theorem ins1_length {W : List Sl} {b x : Sl} (hb : b ∈ W) : (ins1 W b x).length = W.length + 1 := by
 induction W with
 | nil => simp at hb
 | cons a t ih =>
  unfold ins1
  by_cases e : a = b
  ·rw [if_pos e]; simp
  ·rw [if_neg e];have hb' : b ∈ t := by
    rcases mem_cons.mp hb with z | z
    ·exact absurd z.symm e
    ·exact z
   simp [ih hb']
theorem ins1_nodup {W : List Sl} {b x : Sl} (hW : W.Nodup) (hx : x ∉ W) (hb : b ∈ W) : (ins1 W b x).Nodup := by
 induction W with
 | nil => simp at hb
 | cons a t ih =>
  unfold ins1;rw [nodup_cons] at hW
  by_cases e : a = b
  ·rw [if_pos e, nodup_cons, nodup_cons];simp only [mem_cons, not_or] at hx;refine ⟨?_, hx.2, hW.2⟩;rw [mem_cons, not_or];exact ⟨Ne.symm hx.1, hW.1⟩
  ·rw [if_neg e];have hb' : b ∈ t := by
    rcases mem_cons.mp hb with z | z
    ·exact absurd z.symm e
    ·exact z
   simp only [mem_cons, not_or] at hx;rw [nodup_cons];refine ⟨fun z => ?_, ih hW.2 hx.2 hb'⟩;rcases (ins1_mem hb' a).mp z with z | z
   ·exact hW.1 z
   ·exact hx.1 z.symm
theorem ins1_nxt {W : List Sl} {b x : Sl} : nxt (ins1 W b x) = nxt W := by
 cases W with
 | nil => rfl
 | cons a t =>
  unfold ins1;split <;> rfl
theorem ins1_nx {W : List Sl} {b x : Sl} (hW : W.Nodup) (hx : x ∉ W) (hb : b ∈ W) : ∀ c, nx (ins1 W b x) c = if c = x then nx W b else if c = b then x.d else nx W c := by
 induction W with
 | nil => simp at hb
 | cons a t ih =>
  intro c;rw [nodup_cons] at hW;simp only [mem_cons, not_or] at hx;unfold ins1
  by_cases e : a = b
  ·subst e;rw [if_pos rfl];simp only [nx]
   by_cases c1 : c = x
   ·subst c1;rw [if_neg (Ne.symm hx.1), if_pos rfl, if_pos rfl];simp
   ·rw [if_neg c1]
    by_cases c2 : c = a
    ·subst c2; simp [nxt]
    ·rw [if_neg (Ne.symm c2), if_neg (fun z => c1 z.symm), if_neg c2, if_neg (Ne.symm c2)]
  ·rw [if_neg e];have hb' : b ∈ t := by
    rcases mem_cons.mp hb with z | z
    ·exact absurd z.symm e
    ·exact z
   simp only [nx];rw [ins1_nxt, ih hW.2 hx.2 hb' c]
   by_cases c0 : a = c
   ·subst c0;rw [if_pos rfl, if_neg (fun z => hx.1 z.symm), if_neg e, if_pos rfl]
   ·rw [if_neg c0, if_neg c0, if_neg e]
noncomputable def Fol (kvs : List (List Key × D)) (W : List Sl) : Prop := W.Nodup /\ kvs.length = W.length /\ (∀ s, s ∉ W -> atD kvs s.key = none) /\ ∀ s ∈ W, atD kvs s.key = some (nx W s)
theorem putD_len {κ : Type} [DecidableEq κ] {kvs : List (κ × D)} {k : κ} {v : D} : (putD kvs k v).length = if (atD kvs k).isSome = true then kvs.length else kvs.length + 1 := by
 unfold putD;rw [atD_any];split <;> simp
theorem fol_step {kvs : List (List Key × D)} {W : List Sl} {b x : Sl} (h : Fol kvs W) (hb : b ∈ W) (hx : x ∉ W) : Fol (putD (putD kvs x.key (nx W b)) b.key x.d) (ins1 W b x) := by
 obtain ⟨h1, h2, h3, h4⟩ := h;have hne : b ≠ x := fun z => hx (z ▸ hb);have at2 : ∀ c : Sl, atD (putD (putD kvs x.key (nx W b)) b.key x.d) c.key = if c = b then some x.d else if c = x then some (nx W b) else atD kvs c.key := fun c => by
  rw [atD_put, atD_put]
  by_cases e1 : c = b
  ·subst e1; rw [if_pos rfl, if_pos rfl]
  ·rw [if_neg (fun z => e1 (Sl.key_inj z)), if_neg e1]
   by_cases e2 : c = x
   ·subst e2; rw [if_pos rfl, if_pos rfl]
   ·rw [if_neg (fun z => e2 (Sl.key_inj z)), if_neg e2]
 refine ⟨ins1_nodup h1 hx hb, ?_, fun c hc => ?_, fun c hc => ?_⟩
 ·rw [putD_len, putD_len, h3 x hx, atD_put, if_neg (fun z => hne (Sl.key_inj z)), h4 b hb, ins1_length hb, h2];simp
 ·have hc' : c ∉ W /\ c ≠ x := ⟨fun z => hc ((ins1_mem hb c).mpr (.inl z)), fun z => hc ((ins1_mem hb c).mpr (.inr z))⟩;rw [at2, if_neg (fun (z : c = b) => hc'.1 (by rw [z]; exact hb)), if_neg hc'.2]
  exact h3 c hc'.1
 ·rw [at2, ins1_nx h1 hx hb]
  by_cases e1 : c = b
  ·subst e1; rw [if_pos rfl, if_neg hne, if_pos rfl]
  ·rw [if_neg e1]
   by_cases e2 : c = x
   ·rw [if_pos e2, if_pos e2]
   ·rw [if_neg e2, if_neg e2, if_neg e1];rcases (ins1_mem hb c).mp hc with z | z
    ·exact h4 c z
    ·exact absurd z e2
theorem fol_start (v : List Sl -> Prop) : Fol [(startS.key, .non)] [startS] := by
 refine ⟨by simp, rfl, fun s hs => ?_, fun s hs => ?_⟩
 ·have : s ≠ startS := by simpa using hs
  simp only [atD, find?_cons, List.find?_nil];rw [decide_eq_false (fun z => this (Sl.key_inj z).symm)];rfl
 ·have : s = startS := by simpa using hs
  subst this;simp [atD, nx, nxt]
noncomputable def stepS (W : List Sl) (s : Sk) : List Sl := if s.act.anch ∈ W then insAll W s.act.anch (made s) else W
noncomputable def rowW (n : Nat) (out : List Sk) : List Sl := out.foldl stepS (insAll [startS] startS (oldS n))
theorem insAll_mem : ∀ {ss W : List Sl} {b : Sl}, b ∈ W -> ∀ c, c ∈ insAll W b ss ↔ c ∈ W \/ c ∈ ss
 | [], W, b, hb, c => by simp [insAll]
 | x :: t, W, b, hb, c => by
  unfold insAll;rw [insAll_mem (ss := t) ((ins1_mem hb x).mpr (.inr rfl)) c, ins1_mem hb c, mem_cons];constructor
  ·rintro ((h | h) | h)
   ·exact .inl h
   ·exact .inr (.inl h)
   ·exact .inr (.inr h)
  ·rintro (h | h | h)
   ·exact .inl (.inl h)
   ·exact .inl (.inr h)
   ·exact .inr h
theorem insAll_length : ∀ {ss W : List Sl} {b : Sl}, b ∈ W -> (insAll W b ss).length = W.length + ss.length
 | [], W, b, hb => by simp [insAll]
 | x :: t, W, b, hb => by
  unfold insAll;rw [insAll_length (ss := t) ((ins1_mem hb x).mpr (.inr rfl)), ins1_length hb, length_cons];walk_at "oo"
theorem ins1_split {pre post : List Sl} {b x : Sl} (h : b ∉ pre) : ins1 (pre ++ b :: post) b x = pre ++ b :: x :: post := by
 induction pre with
 | nil => simp [ins1]
 | cons a t ih =>
  simp only [mem_cons, not_or] at h;simp only [cons_append, ins1];rw [if_neg (Ne.symm h.1), ih h.2]
theorem insAll_split : ∀ {ss pre post : List Sl} {b : Sl}, b ∉ pre -> ss.Nodup -> (∀ x ∈ ss, x ∉ pre /\ x ≠ b) -> insAll (pre ++ b :: post) b ss = pre ++ b :: (ss ++ post)
 | [], pre, post, b, _, _, _ => by simp [insAll]
 | x :: t, pre, post, b, h, nd, hs => by
  unfold insAll;rw [ins1_split h];rw [nodup_cons] at nd;have hx := hs x mem_cons_self;have e : pre ++ b :: x :: post = (pre ++ [b]) ++ x :: post := by simp
  rw [e, insAll_split (ss := t) (pre := pre ++ [b]) (post := post) (b := x) (by simp [hx.1, hx.2]) nd.2 (fun y hy => ?_)]
  ·simp
  ·have hy' := hs y (mem_cons_of_mem _ hy);refine ⟨by simp [hy'.1, hy'.2], fun z => nd.1 (z ▸ hy)⟩
noncomputable def From (done : List Sk) (W : List Sl) : Prop := ∀ x ∈ W, x.n = 0 \/ ∃ s ∈ done, x.pen = s.pen /\ x.n = s.num
theorem fresh_of {done : List Sk} {W : List Sl} {s : Sk} (h : From done W) (hs : 1 <= s.num) (ap : ∀ r ∈ done, ¬ (r.pen = s.pen /\ r.num = s.num)) : ∀ x ∈ made s, x ∉ W := fun x hx hW => by
 obtain ⟨p1, p2, _⟩ := numbered_mem hx;rcases h x hW with z | ⟨r, hr, z1, z2⟩
 ·walk_at "oo"
 ·exact ap r hr ⟨z1.symm.trans p1, z2.symm.trans p2⟩
theorem from_step {done : List Sk} {W : List Sl} {s : Sk} (h : From done W) : From (done ++ [s]) (stepS W s) := fun x hx => by
 unfold stepS at hx;have up : x ∈ W -> x.n = 0 \/ ∃ r ∈ done ++ [s], x.pen = r.pen /\ x.n = r.num := fun z => by
  rcases h x z with q | ⟨r, hr, q⟩
  ·exact .inl q
  ·exact .inr ⟨r, mem_append_left _ hr, q⟩
 split at hx
 ·rename_i ha;rcases (insAll_mem ha x).mp hx with z | z
  ·exact up z
  ·obtain ⟨p1, p2, _⟩ := numbered_mem z;exact .inr ⟨s, by simp, p1, p2⟩
 ·exact up hx
theorem start_insAll (n : Nat) : insAll [startS] startS (oldS n) = startS :: oldS n := by
 have := insAll_split (ss := oldS n) (pre := []) (post := []) (b := startS) (by simp) (numbered_nodup _ _ _) (fun x hx => ⟨by simp, fun z => by
  obtain ⟨_, _, h⟩ := numbered_mem hx;rw [z] at h;exact absurd h (by decide)⟩)
 simpa using this
theorem from_start (n : Nat) : From [] (insAll [startS] startS (oldS n)) := fun x hx => by
 rw [start_insAll] at hx;rcases mem_cons.mp hx with z | z
 ·subst z; exact .inl rfl
 ·exact .inl (numbered_mem z).2.1
theorem from_row (n : Nat) : ∀ (out done : List Sk) (W : List Sl), From done W -> From (done ++ out) (out.foldl stepS W)
 | [], done, W, h => by simpa using h
 | s :: t, done, W, h => by
  have := from_row n t (done ++ [s]) (stepS W s) (from_step h)
  simpa using this
theorem step_head {W : List Sl} {s : Sk} {R : List Sl} (h : W = startS :: R) : ∃ R', stepS W s = startS :: R' := by
 unfold stepS;split
 ·rename_i ha;clear ha;generalize made s = ss;generalize s.act.anch = b
  induction ss generalizing W b R with
  | nil => exact ⟨R, h⟩
  | cons x t ih =>
   unfold insAll;subst h;unfold ins1;split
   ·exact ih rfl _
   ·exact ih rfl _
 ·exact ⟨R, h⟩
theorem row_head (n : Nat) : ∀ (out : List Sk) (W R : List Sl), W = startS :: R -> ∃ R', out.foldl stepS W = startS :: R'
 | [], W, R, h => ⟨R, h⟩
 | s :: t, W, R, h => by
  obtain ⟨R', h'⟩ := step_head (s := s) h;exact row_head n t _ R' h'
noncomputable def rowOf (n : Nat) (out : List Sk) : List Sl := (rowW n out).tail
theorem rowW_eq (n : Nat) (out : List Sk) : rowW n out = startS :: rowOf n out := by
 obtain ⟨R, h⟩ := row_head n out _ (oldS n) (start_insAll n);unfold rowOf;have : rowW n out = startS :: R := h;rw [this];rfl
theorem rowW_snoc (n : Nat) (out : List Sk) (s : Sk) : rowW n (out ++ [s]) = stepS (rowW n out) s := by simp [rowW]
theorem nxt_val (W : List Sl) : val (nxt W) = nxt W := by cases W <;> rfl
theorem nx_val (W : List Sl) (c : Sl) : val (nx W c) = nx W c := by
 induction W with
 | nil => rfl
 | cons a t ih =>
  unfold nx;split
  ·exact nxt_val t
  ·exact ih
end RQ
open RQ
namespace L3
open PySem PySem.Spec PyProof.Rows L2 PySem.SeqAt PySem.W
theorem sto_pair {α β : Type} [DecidableEq α] {r : α -> α -> Bool} {s : β -> β -> Bool} (hr : STO r) (hs : STO s) : STO (fun a b : α × β => if a.1 = b.1 then s a.2 b.2 else r a.1 b.1) where
 irrefl := fun a => by rw [if_pos rfl]; exact hs.irrefl _
 trans := fun a b c h1 h2 => by
  by_cases p1 : a.1 = b.1
  ·rw [if_pos p1] at h1
   by_cases p2 : b.1 = c.1
   ·rw [if_pos p2] at h2;rw [if_pos (p1.trans p2)];exact hs.trans _ _ _ h1 h2
   ·rw [if_neg p2] at h2;rw [p1, if_neg p2];exact h2
  ·rw [if_neg p1] at h1
   by_cases p2 : b.1 = c.1
   ·rw [<- p2, if_neg p1];exact h1
   ·rw [if_neg p2] at h2;have h3 := hr.trans _ _ _ h1 h2;rw [if_neg (fun e => by rw [e, hr.irrefl] at h3; cases h3)]
    exact h3
 tot := fun a b h1 h2 => by
  by_cases p1 : a.1 = b.1
  ·rw [if_pos p1] at h1;rw [if_pos p1.symm] at h2;exact Prod.ext p1 (hs.tot _ _ h1 h2)
  ·rw [if_neg p1] at h1;rw [if_neg (Ne.symm p1)] at h2;exact absurd (hr.tot _ _ h1 h2) p1
noncomputable def stB (a b : Str) : Bool := decide (a.cps.toList < b.cps.toList)
theorem st_sto : STO stB where
 irrefl := fun a => cps_sto.irrefl a.cps.toList
 trans := fun a b c => cps_sto.trans a.cps.toList b.cps.toList c.cps.toList
 tot := fun a b h1 h2 => cps_inj (cps_sto.tot a.cps.toList b.cps.toList h1 h2)
noncomputable def slB (a b : Sl) : Bool := if a.pen = b.pen then (if a.n = b.n then intB a.k b.k else intB a.n b.n) else stB a.pen b.pen
theorem sl_sto : STO slB where
 irrefl := fun a => (sto_pair st_sto (sto_pair int_sto int_sto)).irrefl (a.pen, a.n, a.k)
 trans := fun a b c => (sto_pair st_sto (sto_pair int_sto int_sto)).trans (a.pen, a.n, a.k) (b.pen, b.n, b.k) (c.pen, c.n, c.k)
 tot := fun a b h1 h2 => by
  have e := (sto_pair st_sto (sto_pair int_sto int_sto)).tot (a.pen, a.n, a.k) (b.pen, b.n, b.k) h1 h2;obtain ⟨a1, a2, a3⟩ := a;obtain ⟨b1, b2, b3⟩ := b;simp only [Prod.mk.injEq] at e;obtain ⟨rfl, rfl, rfl⟩ := e;rfl
theorem sl_lt (a b : Sl) : ltD 4 a.d b.d = slB a b := by
 show lexE (ltD 3) [.str a.pen, .int a.n, .int a.k] [.str b.pen, .int b.n, .int b.k] = _
 unfold slB
 by_cases p : a.pen = b.pen
 ·rw [if_pos p];have e : eqb (.str a.pen) (.str b.pen) = true := eqb_of (by rw [p])
  by_cases n : a.n = b.n
  ·rw [if_pos n];have e2 : eqb (.int a.n) (.int b.n) = true := eqb_of (by rw [n])
   by_cases k : a.k = b.k
   ·have e3 : eqb (.int a.k) (.int b.k) = true := eqb_of (by rw [k])
    simp [lexE, e, e2, intB, k, eqb_self]
   ·have e3 : eqb (.int a.k) (.int b.k) = false := eqb_no fun z => k (by injection z)
    simp [lexE, e, e2, e3, ltD, intB]
  ·rw [if_neg n];have e2 : eqb (.int a.n) (.int b.n) = false := eqb_no fun z => n (by injection z)
   simp [lexE, e, e2, ltD, intB]
 ·rw [if_neg p];have e : eqb (.str a.pen) (.str b.pen) = false := eqb_no fun z => p (by injection z)
  simp [lexE, e, ltD, stB]
theorem sl_cp (a b : Sl) : cpD 4 a.d b.d := by
 show cpL 3 (cpD 3) [.str a.pen, .int a.n, .int a.k] [.str b.pen, .int b.n, .int b.k]
 exact ⟨⟨trivial, trivial⟩, fun _ => trivial, ⟨trivial, trivial⟩, fun _ => trivial, ⟨trivial, trivial⟩, fun _ => trivial, trivial⟩
noncomputable def SrS (l : List Sl) : Prop := l.Pairwise fun a b => slB b a = false
theorem srS_uniq : ∀ {L M : List Sl}, L.Perm M -> SrS L -> SrS M -> L = M
 | [], M, p, _, _ => (List.nil_perm.mp p).symm
 | a :: L, [], p, _, _ => absurd p.length_eq (by simp)
 | a :: L, b :: M, p, h1, h2 => by
  unfold SrS at h1 h2;rw [List.pairwise_cons] at h1 h2;have e : a = b := by
   rcases mem_cons.mp (p.mem_iff.mp mem_cons_self) with e | m1
   ·exact e
   ·rcases mem_cons.mp (p.mem_iff.mpr mem_cons_self) with e | m2
    ·exact e.symm
    ·exact sl_sto.tot _ _ (h2.1 a m1) (h1.1 b m2)
  subst e;rw [srS_uniq ((List.perm_cons a).mp p) h1.2 h2.2]
noncomputable def srS (l : List Sl) : List Sl := Classical.epsilon fun L => L.Perm l /\ SrS L
theorem srS_eq {l M : List Sl} (h : M.Perm l) (s : SrS M) : srS l = M := by
 have e := Classical.epsilon_spec (p := fun L : List Sl => L.Perm l /\ SrS L) ⟨M, h, s⟩;exact srS_uniq (e.1.trans h.symm) e.2 s
theorem srS_perm {l m : List Sl} (h : l.Perm m) : srS l = srS m := by
 unfold srS;congr 1;funext L;exact propext ⟨fun x => ⟨x.1.trans h, x.2⟩, fun x => ⟨x.1.trans h.symm, x.2⟩⟩
section
variable {X : Cx} {pins : List (Addr × Obj)} {τ : St} {H H0 : Hp} {s : Shared} {G : Gp} {D0 : Addr} {A : Around} {E : Value -> Shared -> Prop} {P : PySem.Fin -> Shared -> Prop} {ds : List D} {r : Nat -> Nat} {vs : List V} {us : List Value}
theorem treeB_run (I : L2.Inv X pins τ H s) (rg : RG X.K H G) (kp : Kp G H0 G H) (nD : H0 D0 = none) (gD : G D0 = none) {n : Nat} (hu : A.units + 4 < cLine)
  (eD : H D0 = some (XO D0 (seqObj "list" us.toArray n))) (rd : RDs X.K H ds vs) (wv : Vals vs us) (few : ds.length <= 900000) (hk : ∀ d ∈ ds, keyS d) (hc : ∀ a ∈ ds, ∀ b ∈ ds, cpD 4 a b) (hr : ∀ i j a b, ds[i]? = some a -> ds[j]? = some b -> ltD 4 a b = decide (r i < r j))
  (hj : ∀ i j : Nat, i < us.length -> us[i]? = us[j]? -> r i = r j)
  (q : ∀ (p : List Nat) H' s', p.Perm (List.range ds.length) -> (p.map r).Pairwise (· <= ·) -> L2.Inv X pins τ H' s' -> Kp G H0 G H' -> RG X.K H' G -> H' D0 = some (.lst (p.map fun i => vs.getD i .non)) -> Stb X.K H H' -> P (.done (.ret .none)) s') :
  wpAny (model X.prog X.w) A (Builtin.«list.sort» ⟨[.ref D0], []⟩) P E s := by
 have l1 := rd.length;have l2 := wv.length;have oD := inv_xo I eD;have mu : Mut (H D0) := by rw [eD]; exact trivial
 have e2 := get?_update_seq oD (fun _ => (#[] : Array Value));generalize (if ((#[] : Array Value).size == us.toArray.size) = true then n else n + 1) = e1 at e2
 have I1 := inv_xset (t' := s.toks) I eD e2;have I2 : L2.Inv X pins τ (upd H D0 (XO D0 (seqObj "list" #[] e1))) { s with heap := ((s.heap.update D0 (Obj.mapSeq fun _ => (#[] : Array Value))).push (seqObj "tuple" us.toArray 0)).push (seqObj "list" #[] 0) } := I1.kept (t' := s.toks) fun b u e => Heap.get?_push_of_some _ (Heap.get?_push_of_some _ e)
 have st1 : Stb X.K H (upd H D0 (XO D0 (seqObj "list" #[] e1))) := stb_wr mu;have rd2 := RDs.mono st1 _ _ rd;have eD2 : (upd H D0 (XO D0 (seqObj "list" #[] e1))) D0 = some (XO D0 (seqObj "list" #[] e1)) := upd_same;have mu2 : Mut ((upd H D0 (XO D0 (seqObj "list" #[] e1))) D0) := by rw [eD2]; exact trivial
 have fin : ∀ (p : List Nat) (st : SortSt), p.Perm (List.range ds.length) -> (p.map r).Pairwise (· <= ·) -> (arrOf st).map (·.2) = (p.map fun i => us.getD i Value.none).toArray -> failedOf st = none ->
   wpAny (model X.prog X.w) A (do
    let touched := (<- seqEpoch D0) != e1
    Builtin.List.listUpdate (.ref D0) fun _ => (arrOf st).map (·.2)
    if let some e := failedOf st then rule ("list.sort.comparison-raised"); throw e
    if touched then rule ("list.sort.modified"); raiseError "ValueError" ("list modified during sort")
    ret .none) P E { s with heap := ((s.heap.update D0 (Obj.mapSeq fun _ => (#[] : Array Value))).push (seqObj "tuple" us.toArray 0)).push (seqObj "list" #[] 0) } := by
  intro p st hp hs ha hf;have oD2 := inv_xo I2 eD2;have inr : ∀ i ∈ p, i < vs.length := fun i hi => by rw [<- l1]; exact mem_range.mp (hp.mem_iff.mp hi)
  have lp : p.length = ds.length := by rw [hp.length_eq, List.length_range]
  have hv : Vals (p.map fun i => vs.getD i .non) (p.map fun i => us.getD i Value.none) := map_vals wv inr;have e3 := get?_update_seq oD2 (fun _ => (p.map fun i => us.getD i Value.none).toArray);rw [ha, hf];refine wpAny_bind (seqEpoch_at oD2 rfl ?_);refine wpAny_bind (listUpdate_at oD2 rfl ?_ (zero_le _) (by rw [size_toArray, length_map, lp, sizeLine_eq]; walk_at "oo"))
  simp only [bne_self_eq_false, Bool.false_eq_true, if_false];have I3 := I2.write (x := D0) (e := D0) (o := .lst (p.map fun i => vs.getD i .non)) (t' := s.toks) mu2 (.inl rfl) (fun b u hb hu => (Heap.get?_update_other _ (Obj.mapSeq fun _ => (p.map fun i => us.getD i Value.none).toArray) (Ne.symm hb)).trans hu) ⟨_, e3⟩ ⟨by rw [length_map, lp, sizeLine_eq]; walk_at "oo", _, _, hv, e3⟩
  refine wpAny_pure (q p _ _ hp hs I3 (kp_wr (kp_wr kp nD) nD) (rg_wr (rg_wr rg gD mu) gD mu2) upd_same ?_);exact ⟨fun b xs z => (stb_wr mu2).t _ _ (st1.t _ _ z), fun b xs z => (stb_wr mu2).l _ _ (st1.l _ _ z)⟩
 rw [list_sort_plain];refine wpAny_bind (listItems_at oD rfl ?_);refine wpAny_bind (listUpdate_at oD rfl ?_ (by rw [size_toArray, sizeLine_eq]; walk_at "oo") (zero_le _))
 refine wpAny_bind (seqEpoch_at e2 rfl ?_);refine wpAny_bind (wpAny_newTuple ?_ (by show us.length <= _; rw [sizeLine_eq]; walk_at "oo"))
 refine wpAny_bind (wpAny_newList ?_ (zero_le _));refine wpAny_holding ?_;dsimp only;have ez : (us.toArray.zip us.toArray).toList = (List.range us.length).map fun i => (us.getD i Value.none, us.getD i Value.none) := by
  rw [ksk_zip];have := range_getD us Value.none
  conv => lhs; rw [<- this]
  rw [List.zip_map']
 by_cases h2 : us.length < 2
 ·have hs : us.toArray.size < 2 := by rw [size_toArray]; exact h2
  rw [if_pos hs, if_pos hs];refine wpAny_bind (wpAny_pure ?_);refine wpAny_bind (wpAny_pure ?_);refine fin (List.range ds.length) (SortSt.mk' general' (us.toArray.zip us.toArray) #[] 7 none) (List.Perm.refl _) ?_ ?_ rfl
  ·have : ds.length = 0 \/ ds.length = 1 := by walk_at "o"
   rcases this with e | e <;> rw [e] <;> simp [List.range_succ]
  ·apply Array.toList_inj.mp;show ((us.toArray.zip us.toArray).map (·.2)).toList = _
   rw [Array.toList_map, ez, map_map, show ds.length = us.length by walk_at "o"]
   rfl
 ·have hs : ¬ us.toArray.size < 2 := by rw [size_toArray]; exact h2
  rw [if_neg hs, if_neg hs];refine wpAny_bind (kind_S I2 hk rd2 wv (by walk_at "o") ?_)
  have ix : ∀ x, x ∈ (us.toArray.zip us.toArray).toList -> ∃ i, i < us.length /\ (us.getD i Value.none, us.getD i Value.none) = x := fun x hx => by
   rw [ez] at hx;obtain ⟨i, hi, e⟩ := mem_map.mp hx;exact ⟨i, mem_range.mp hi, e⟩
  let ixOf : Keyed -> Nat := fun x => Classical.epsilon fun i => i < us.length /\ (us.getD i Value.none, us.getD i Value.none) = x
  have ixs : ∀ x, x ∈ (us.toArray.zip us.toArray).toList -> ixOf x < us.length /\ (us.getD (ixOf x) Value.none, us.getD (ixOf x) Value.none) = x := fun x hx => Classical.epsilon_spec (p := fun i => i < us.length /\ (us.getD i Value.none, us.getD i Value.none) = x) (ix x hx);have an : Ans X.prog X.w A { s with heap := ((s.heap.update D0 (Obj.mapSeq fun _ => (#[] : Array Value))).push (seqObj "tuple" us.toArray 0)).push (seqObj "list" #[] 0) } (tuples' true) (fun x => r (ixOf x)) (fun x => x ∈ (us.toArray.zip us.toArray).toList) := by
   intro x y hx hy;obtain ⟨b1, e1'⟩ := ixs x hx;obtain ⟨b2, e2'⟩ := ixs y hy;have kx := congrArg Prod.fst e1';have ky := congrArg Prod.fst e2';dsimp only at kx ky;rw [<- kx, <- ky];show wpAny _ _ (keyLt' (tuples' true) (us.getD (ixOf x) Value.none) (us.getD (ixOf y) Value.none)) (fun b s' => s' = _ /\ b = decide (r (ixOf x) < r (ixOf y))) _ _
   clear kx ky e1' e2';generalize ixOf x = i at b1 ⊢;generalize ixOf y = j at b2 ⊢;obtain ⟨v1, f1, g1⟩ := Vals.getV (i := i) (u := us[i]'b1) wv (by simp)
   obtain ⟨v2, f2, g2⟩ := Vals.getV (i := j) (u := us[j]'b2) wv (by simp)
   obtain ⟨d1, c1, k1⟩ := RDs.getV rd2 f1;obtain ⟨d2, c2, k2⟩ := RDs.getV rd2 f2;rw [show us.getD i Value.none = us[i]'b1 by simp [b1], show us.getD j Value.none = us[j]'b2 by simp [b2]]
   exact ask_S I2 hu (hc _ (mem_of_getElem? c1) _ (mem_of_getElem? c2)) (hk _ (mem_of_getElem? c1)) (hk _ (mem_of_getElem? c2)) k1 k2 g1 g2 ⟨rfl, hr i j d1 d2 c1 c2⟩
  refine wpAny_bind (wpAny_mono (t_sort (E := E) (st := SortSt.mk' (tuples' true) (us.toArray.zip us.toArray) #[] 7 none) (Q := fun _ st' => failedOf st' = none /\ (arrOf st').toList.Perm (us.toArray.zip us.toArray).toList /\ Up (fun x => r (ixOf x)) (arrOf st').toList) an (fun x hx => hx) rfl rfl rfl fun st' a1 a2 a3 => ⟨a1, a2, a3⟩) ?_ fun _ _ x => x)
  rintro ⟨⟨⟩, st'⟩ s' ⟨rfl, hf, hp, up⟩
  dsimp only at hf hp up ⊢;obtain ⟨p, ep, hp'⟩ := perm_map_inv hp ez;refine fin p st' (by rw [show ds.length = us.length by walk_at "o"]; exact hp') ?_ ?_ hf
  ·unfold Up at up;rw [ep, pairwise_map] at up;rw [pairwise_map];refine List.Pairwise.imp_of_mem (fun {i j} hi hj' hij => ?_) up;have same : ∀ i ∈ p, r (ixOf (us.getD i Value.none, us.getD i Value.none)) = r i := fun i hi => by
    have hi' : i < us.length := mem_range.mp (hp'.mem_iff.mp hi);obtain ⟨b1, e1'⟩ := ixs (us.getD i Value.none, us.getD i Value.none) (by rw [ez]; exact mem_map.mpr ⟨i, mem_range.mpr hi', rfl⟩)
    have e3 := congrArg Prod.fst e1';dsimp only at e3;clear e1';generalize ixOf (us.getD i Value.none, us.getD i Value.none) = k at b1 e3 ⊢;refine hj _ _ b1 ?_;rw [getElem?_eq_getElem b1, getElem?_eq_getElem hi'];rw [getD_eq_getElem?_getD, getD_eq_getElem?_getD, getElem?_eq_getElem b1, getElem?_eq_getElem hi'] at e3;exact congrArg some e3
   have hij' : r (ixOf (us.getD i Value.none, us.getD i Value.none)) <= r (ixOf (us.getD j Value.none, us.getD j Value.none)) := hij;rw [same i hi, same j hj'] at hij';exact hij'
  ·apply Array.toList_inj.mp;rw [Array.toList_map, ep, map_map];rfl
theorem sl_same (I : L2.Inv X pins τ H s) {x y : Sl} {b : Addr} (h1 : RD X.K H x.d (.ref b)) (h2 : RD X.K H y.d (.ref b)) : x = y :=
 Sl.d_inj (rd_inj I 4 (by intro d hd; simp only [mem_cons, not_mem_nil, or_false] at hd; rcases hd with rfl | rfl | rfl <;> trivial) (by intro d hd; simp only [mem_cons, not_mem_nil, or_false] at hd; rcases hd with rfl | rfl | rfl <;> trivial) h1 h2)
theorem sortedC_run {ps : List Sl} {src : Value} {Q : Value -> Shared -> Prop} (hu : X.A.units + 8 < cLine) (I : L2.Inv X pins τ H s) (rg : RG X.K H G) (hz : ps.length <= 900000)
  (col : ∀ {E' : Value -> Shared -> Prop} {Q' : List Value -> Shared -> Prop}, (∀ h' tk us vs, (∀ b o, s.heap.get? b = some o -> h'.get? b = some o) -> RDs X.K H (ps.map Sl.d) vs -> Vals vs us -> Q' us { s with heap := h', toks := tk }) -> wpAny (model X.prog X.w) X.A.in1 (collect src) Q' E' s)
  (k : ∀ D0 H' s' vs, L2.Inv X pins τ H' s' -> Kp G H G H' -> RG X.K H' G -> H D0 = none -> H' D0 = some (.lst vs) -> RDs X.K H' ((srS ps).map Sl.d) vs -> Q (.ref D0) s') :
  wpAny (model X.prog X.w) X.A (call (.builtin "sorted") [src]) Q E s := by
 refine Calls.call_function_entry kind_sorted plain_sorted entry_sorted (args_sorted1 _) ?_;unfold Builtin.«sorted»;refine wpAny_bind (m := checkCount "sorted" 1 1 _) (wpAny_pure ?_);refine wpAny_bind (col fun h' tk us vs hk rd wv => ?_);have l1 := rd.length;have l2 := wv.length;rw [length_map] at l1;have I1 : L2.Inv X pins τ H { s with heap := h', toks := tk } := I.kept hk
 refine wpAny_bind (wpAny_newList ?_ (by rw [sizeLine_eq]; walk_at "oo"))
 have fD := I1.fresh;have I2 := inv_xlaid (t' := tk) (o := seqObj "list" us.toArray 0) I1 rfl rfl;have st : Stb X.K H (upd H h'.objs.size (XO h'.objs.size (seqObj "list" us.toArray 0))) := (Kp.laid (G := G) fD).stb rg;refine wpAny_bind (wpAny_holding (wpAny_call_entry slot_list_sort ⟨_, inv_xo I2 upd_same, rfl⟩ entry_list_sort ?_ (args_list_sort _)));have at_ : ∀ (i : Nat) a, (ps.map Sl.d)[i]? = some a -> ∃ x, ps[i]? = some x /\ a = x.d := fun i a e => by
  rw [getElem?_map] at e;cases h : ps[i]? with
  | none => rw [h] at e; cases e
  | some x => rw [h] at e; cases e; exact ⟨x, rfl, rfl⟩
 refine treeB_run (A := X.A.in1.in1) (r := fun i => rankIn slB ps (ps.getD i default)) I2 (rg.laid fD) (Kp.laid fD) fD (rg.free fD) (by show X.A.units + 1 + 1 + 4 < cLine; walk_at "oo") upd_same (RDs.mono st _ _ rd) wv (by rw [length_map]; exact hz) (fun d hd => ?_) (fun a ha b hb' => ?_) (fun i j a b ha hb' => ?_) (fun i j hi e => ?_) fun p H' s' hp' hs I' kp' rg' e' st' => ⟨_, rfl, ?_⟩
 ·obtain ⟨x, _, rfl⟩ := mem_map.mp hd;exact ⟨_, _, rfl⟩
 ·obtain ⟨x, _, rfl⟩ := mem_map.mp ha;obtain ⟨y, _, rfl⟩ := mem_map.mp hb';exact sl_cp _ _
 ·obtain ⟨x, ex, rfl⟩ := at_ i a ha;obtain ⟨y, ey, rfl⟩ := at_ j b hb';rw [sl_lt];have g1 : ps.getD i default = x := by rw [getD_eq_getElem?_getD, ex]; rfl
  have g2 : ps.getD j default = y := by rw [getD_eq_getElem?_getD, ey]; rfl
  rw [g1, g2];exact rank_lt sl_sto.swo (mem_of_getElem? ex)
 ·have hj : j < us.length := by
   rcases lt_or_ge j us.length with g | g
   ·exact g
   ·rw [getElem?_eq_none g, getElem?_eq_getElem hi] at e; cases e
  obtain ⟨v1, f1, g1⟩ := Vals.getV (i := i) (u := us[i]'hi) wv (by simp)
  obtain ⟨v2, f2, g2⟩ := Vals.getV (i := j) (u := us[j]'hj) wv (by simp)
  obtain ⟨d1, c1, k1⟩ := RDs.getV rd f1;obtain ⟨d2, c2, k2⟩ := RDs.getV rd f2;obtain ⟨x, ex, rfl⟩ := at_ i d1 c1;obtain ⟨y, ey, rfl⟩ := at_ j d2 c2;have eu : us[i] = us[j] := by
   rw [getElem?_eq_getElem hi, getElem?_eq_getElem hj] at e;exact Option.some.inj e
  obtain ⟨b1, rfl, _⟩ := keyT_rd (keyT_sl x) k1;obtain ⟨b2, rfl, _⟩ := keyT_rd (keyT_sl y) k2;rw [eu] at g1;have eb : b1 = b2 := by
   have z : Value.ref b1 = Value.ref b2 := (show us[j] = Value.ref b1 from g1).symm.trans (show us[j] = Value.ref b2 from g2)
   injection z
  subst eb;have exy := sl_same I1 k1 k2;subst exy;show rankIn slB ps (ps.getD i default) = rankIn slB ps (ps.getD j default)
  rw [getD_eq_getElem?_getD, getD_eq_getElem?_getD, ex, ey]
 ·rw [length_map] at hp';have inr : ∀ i ∈ p, i < ps.length := fun i hi => mem_range.mp (hp'.mem_iff.mp hi);have key : srS ps = p.map fun i => ps.getD i default := by
   refine srS_eq ?_ ?_
   ·have := hp'.map fun i => ps.getD i default;rwa [range_getD ps default] at this
   ·unfold SrS;rw [pairwise_map] at hs ⊢;refine List.Pairwise.imp_of_mem (fun {i j} hi hj hij => ?_) hs;have m : ps.getD j default ∈ ps := by
     rw [getD_eq_getElem?_getD, getElem?_eq_getElem (inr j hj)];exact getElem_mem _
    rw [rank_lt sl_sto.swo m, decide_eq_false_iff_not, Nat.not_lt];exact hij
  refine wpAny_pure ⟨_, rfl, k _ H' s' _ I' kp' rg' fD e' ?_⟩;have fin := map_rds (p := p) (RDs.mono st' _ _ (RDs.mono st _ _ rd)) fun i hi => by rw [<- l1]; exact inr i hi
  have e3 : (p.map fun i => (ps.map Sl.d).getD i .non) = (srS ps).map Sl.d := by
   rw [key, map_map];refine map_congr_left fun i hi => ?_;have := inr i hi;simp [getD_eq_getElem?_getD, this]
  rw [e3] at fin;exact fin
end
noncomputable def eSortT (to : TE3) : TE3 := fun σ G Q => to σ G fun x G1 => match asL G1 (val x) with
 | some ds => ∃ ps : List Sl, ds = ps.map Sl.d /\ ps.length <= 900000 /\ Q (.fl ((srS ps).map Sl.d)) G1
 | none => False
theorem p_sortT {X : Cx} {o : Expr} {to : TE3} {p0 pos : Pos} (hu : X.A.units + 8 < cLine) (hg : Gl X "sorted") (hm : X.mg "sorted" = none) (ho : PE X o (lift X.K to))
  (hs : starEach [o] X.env = [(false, eval o X.env)] := by rfl) : PE X (.Call (.Name "sorted" p0) [o] [] pos) (lift X.K (eSortT to)) := by
 rintro pins s τ H Q I ⟨σ, G, Q3, rs, rg, h, kf⟩
 refine wpAny_Call_Name_kw (ld_blt I hg hm (u := .builtin "sorted") (by decide +kernel) ?_ (by decide) (by decide))
 refine PyProof.Rows.callWith_builtin1 ?_ (by rw [hs]; rfl) (by rfl)
 rw [show backTo pos (starEach [o] X.env) = [(false, eval o X.env)] by rw [hs]; rfl]
 refine Calls.spliced_cons (thn (pe_got ho I rs rg h) fun ov s1 ⟨ox, H1, I1, rox, x, G1, q1, k1, rg1, rd1⟩ => Calls.spliced_nil ?_);split at q1
 ·rename_i ds hq;obtain ⟨ps, rfl, hz, q1⟩ := q1;obtain ⟨b, xs, rfl, sq, rr⟩ := asL_sq (G := G1) (H := H1) hq (.of rd1) rg1;cases rox;obtain ⟨its, rv, pl, _⟩ := I1.list sq;have l1 := rr.length;have l2 := rv.length;rw [length_map] at l1;refine sortedC_run hu I1 rg1 hz (fun {E' Q'} q' => collect_list pl.isList (q' _ _ its xs (fun b' o' q => ?_) rr rv) (by rw [sizeLine_eq]; walk_at "oo")) fun D0 H' s' vs I' kp' rg' n0 e' rd' => ?_
  ·have hlt : b' < s1.heap.objs.size := Heap.lt_size q;rw [Heap.get?_update_ne _ _ _ _ (ne_of_lt hlt), Heap.get?_push_ne _ _ _ (ne_of_lt hlt)];exact q
  ·exact ⟨.ref D0, H', I', rfl, kf _ G1 _ H' q1 (k1.trans kp') rg' (.inl ⟨_, D0, _, rfl, rfl, e', rg1.free n0, rd', k1.fr (fr_none n0)⟩)⟩
 ·exact q1.elim
end L3
open RQ
namespace L3
open PySem PySem.Spec PyProof.Rows L2 PySem.SeqAt PySem.W
noncomputable def KRaw (h : Heap) (d : Addr) (vs : List Value) (ep : Nat) : Prop := ∃ o es, h.get? d = some o /\ o.ExactDict /\ o.data = .dict es ep /\ es.toList.map (·.key) = vs
section
variable {prog : Program} {w : World} {A : Around} {E : Value -> Shared -> Prop} {s : Shared} {d r it : Addr} {vs : List Value} {ep i : Nat}
theorem KRaw.ty (x : KRaw s.heap d vs ep) : s.TypeIs (.ref d) "dict" := let ⟨o, _, e, z, _⟩ := x; ⟨o, e, z.1⟩
theorem KRaw.there {h : Heap} (x : KRaw h d vs ep) : d < h.objs.size := let ⟨_, _, e, _⟩ := x; Heap.lt_size e
theorem KRaw.stay {h h' : Heap} (x : KRaw h d vs ep) (k : ∀ o, h.get? d = some o -> h'.get? d = some o) : KRaw h' d vs ep := let ⟨o, es, e, z⟩ := x; ⟨o, es, k o e, z⟩
theorem rak_values (hs : (d == sysModules) = false) : MeetsIn prog w (Builtin.«dict.keys» ⟨[.ref d], []⟩) (fun _ R s => (∃ vs ep, KRaw s.heap d vs ep) /\
   R (.ok (.ret (.ref s.heap.objs.size))) { s with heap := s.heap.push (⟨.type "dict_keys", none, .fields #[.ref d], #[]⟩ : Obj) }) :=
 .of_wp fun A R s ⟨⟨vs, ep, x⟩, q⟩ => by
  refine wpAny_bind ?_; unfold Builtin.Dict.noArgs; refine wpAny_bind (wpAny_notOrdered_dict x.ty ?_);show wpAny _ _ (pure d) _ _ s; refine wpAny_pure ?_
  show wpAny _ _ (Builtin.Dict.showsAll d >>= _) _ _ s; unfold Builtin.Dict.showsAll
  rw [if_neg (fun z => by rw [hs] at z; cases z)]; refine wpAny_bind (wpAny_pure ?_)
  exact wpAny_bind (wpAny_newObj_type (wpAny_pure ⟨_, rfl, q⟩))
theorem rak_iter {Q : Value -> Shared -> Prop} (hr : KdlKeysView s.heap r d) (x : KRaw s.heap d vs ep)
  (q : Q (.ref s.heap.objs.size) { s with heap := s.heap.push { cls := .type "dict_keyiterator", data := .fields #[.ref d, .int 0 0, .int vs.length 0, .int ep 0] } }) : wpAny (model prog w) A (pyIter (.ref r)) Q E s := by
 obtain ⟨ov, e1, c1, d1⟩ := id hr;obtain ⟨o, es, e2, c2, d2, rfl⟩ := x;refine wpAny_pyIter_slot hr.typeIs kdl_slot_keys_iter (wpAny_call_entry kdl_slot_keys_iter hr.typeIs kdl_entry_keys_iter ?_ (kdl_args_keys_iter _));unfold Builtin.«dict_keys.__iter__»; refine wpAny_bind (wpAny_pure ?_); refine wpAny_bind ?_;unfold Builtin.Dict_items.dictOf; refine wpAny_bind (wpAny_field e1 d1 (x := .ref d) rfl (wpAny_pure ?_)); refine wpAny_bind ?_;unfold Builtin.Dict_items.newIterator; refine wpAny_bind (wpAny_dictEntries e2 d2 ?_); refine wpAny_bind (wpAny_dictEpoch e2 d2 ?_);have own : Builtin.Dict_items.ownsTuple "dict_keyiterator" = false := by decide
 simp only [own, Bool.false_eq_true, if_false];refine wpAny_newObj_type (wpAny_pure ⟨_, rfl, "dict_keyiterator", _, ⟨_, Heap.get?_push_size _ rfl, rfl⟩, F.slot_dict_keyiterator_next.lookup, ?_⟩)
 simpa [rawInt] using q
theorem rak_item {v : Value} {Q : Option Value -> Shared -> Prop} (hi : s.heap.IsKeyIter it d i vs.length ep) (x : KRaw s.heap d vs ep) (hv : vs[i]? = some v)
  (q : ∀ h', h'.IsKeyIter it d (i + 1) vs.length ep -> Heap.SameBut it s.heap h' -> Q (some v) { s with heap := h' }) : wpAny (model prog w) A (pyNext (.ref it)) Q E s := by
 obtain ⟨o, e1, c1, d1⟩ := id hi;obtain ⟨od, es, e2, c2, d2, rfl⟩ := x;unfold pyNext; refine wpAny_bind (wpAny_attempt (wpAny_callSpecial?_slot (name := Str.ofString "__next__") hi.typeIs F.slot_dict_keyiterator_next (wpAny_call_entry F.slot_dict_keyiterator_next hi.typeIs F.entry_dict_keyiterator_next ?_ (F.args_dict_keyiterator_next_1 _))));refine wpAny_bind (wpAny_pure ?_); refine wpAny_bind ?_; refine wpAny_bind ?_
 first | refine wpAny_bind (wpAny_typeNameOfWhole_keyiter hi.typeIs (wpAny_pure ?_)) | refine wpAny_bind (wpAny_typeNameOf_keyiter hi.typeIs (wpAny_pure ?_))
 refine wpAny_bind (wpAny_fieldsOf e1 d1 ?_);have own : Builtin.Dict_items.ownsTuple "dict_keyiterator" = false := by decide
 simp only [own, Bool.false_eq_true, if_false];show wpAny _ _ (if (Value.ref d == Value.none) = true then _ else _) _ _ s; rw [if_neg (show ¬ ((Value.ref d == Value.none) = true) from Bool.false_ne_true)]
 refine wpAny_bind (wpAny_pure ?_); refine wpAny_bind (wpAny_dictEntries e2 d2 ?_);have z : es.size = (es.toList.map (·.key)).length := by simp
 rw [if_neg (by rw [z]; simp)]; refine wpAny_bind (wpAny_pure ?_); refine wpAny_bind (wpAny_dictEpoch e2 d2 ?_)
 rw [if_neg (by simp)]; refine wpAny_pure ?_
 have lt : i < es.size := by
  rw [z];rcases lt_or_ge i (es.toList.map (·.key)).length with h | h
  ·exact h
  ·rw [getElem?_eq_none h] at hv; cases hv
 have val : es[i].key = v := by
  rw [getElem?_map] at hv
  simpa [lt] using hv
 simp only [show ¬ ((i : Int) < 0) from by walk_at "o", if_false, Int.toNat_natCast, Array.getElem?_eq_getElem lt]; refine wpAny_bind ?_
 first | refine wpAny_bind (wpAny_typeNameOfWhole_keyiter hi.typeIs (wpAny_pure ?_)) | refine wpAny_bind (wpAny_typeNameOf_keyiter hi.typeIs (wpAny_pure ?_))
 refine wpAny_bind (wpAny_isOneOf_keyiter hi.typeIs ?_); show wpAny _ _ (setField (.ref it) 1 (rawInt ((i : Int) + 1)) >>= _) _ _ s;refine wpAny_bind (wpAny_setField e1 d1 (by simp) ?_)
 have hi' : (s.heap.update it (Obj.mapFields (·.setIfInBounds 1 (rawInt ((i : Int) + 1))))).IsKeyIter it d (i + 1) (es.toList.map (·.key)).length ep :=
  ⟨_, Heap.get?_update_self _ e1 (Obj.isFreed_of_fields (Obj.data_mapFields d1 _)), (Obj.cls_mapFields ..).trans c1, by rw [Obj.data_mapFields d1]; simp [rawInt]⟩
 refine wpAny_bind (wpAny_holding ?_); refine wpAny_bind (wpAny_isOneOf_keyiter (s := { s with heap := s.heap.update it (Obj.mapFields (·.setIfInBounds 1 (rawInt ((i : Int) + 1)))) }) hi'.typeIs ?_)
 show wpAny _ _ (pure es[i].key) _ _ _
 exact wpAny_pure (wpAny_pure ⟨_, rfl, wpAny_pure (val ▸ q _ hi' (Heap.SameBut.update ..))⟩)
theorem rak_end {Q : Option Value -> Shared -> Prop} (hh : A.handled = none) (hi : s.heap.IsKeyIter it d i vs.length ep) (x : KRaw s.heap d vs ep) (hv : vs[i]? = none)
  (q : ∀ h', Heap.ExtBut it s.heap h' -> Q none { s with heap := h' }) : wpAny (model prog w) A (pyNext (.ref it)) Q E s := by
 obtain ⟨o, e1, c1, d1⟩ := id hi;obtain ⟨od, es, e2, c2, d2, rfl⟩ := x;unfold pyNext; refine wpAny_bind (wpAny_attempt (wpAny_callSpecial?_slot (name := Str.ofString "__next__") hi.typeIs F.slot_dict_keyiterator_next (wpAny_call_entry F.slot_dict_keyiterator_next hi.typeIs F.entry_dict_keyiterator_next ?_ (F.args_dict_keyiterator_next_1 _))));refine wpAny_bind (wpAny_pure ?_); refine wpAny_bind ?_; refine wpAny_bind ?_
 first | refine wpAny_bind (wpAny_typeNameOfWhole_keyiter hi.typeIs (wpAny_pure ?_)) | refine wpAny_bind (wpAny_typeNameOf_keyiter hi.typeIs (wpAny_pure ?_))
 refine wpAny_bind (wpAny_fieldsOf e1 d1 ?_);have own : Builtin.Dict_items.ownsTuple "dict_keyiterator" = false := by decide
 simp only [own, Bool.false_eq_true, if_false];show wpAny _ _ (if (Value.ref d == Value.none) = true then _ else _) _ _ s; rw [if_neg (show ¬ ((Value.ref d == Value.none) = true) from Bool.false_ne_true)]
 refine wpAny_bind (wpAny_pure ?_); refine wpAny_bind (wpAny_dictEntries e2 d2 ?_);have z : es.size = (es.toList.map (·.key)).length := by simp
 rw [if_neg (by rw [z]; simp)]; refine wpAny_bind (wpAny_pure ?_); refine wpAny_bind (wpAny_dictEpoch e2 d2 ?_)
 rw [if_neg (by simp)]; refine wpAny_pure ?_
 have ge : es.size <= i := by rw [z]; simpa using hv
 simp only [show ¬ ((i : Int) < 0) from by walk_at "o", if_false, Int.toNat_natCast, Array.getElem?_eq_none ge]; refine wpAny_bind ?_
 first | refine wpAny_bind (wpAny_typeNameOfWhole_keyiter hi.typeIs (wpAny_pure ?_)) | refine wpAny_bind (wpAny_typeNameOf_keyiter hi.typeIs (wpAny_pure ?_))
 show wpAny _ _ (setField (.ref it) 0 .none >>= _) _ _ s; refine wpAny_bind (wpAny_setField e1 d1 (by simp) ?_)
 show wpAny _ _ (newExc (.type "StopIteration") [] >>= _) _ _ _; refine wpAny_bind ?_
 simp only [newExc, newTuple]; refine wpAny_bind (wpAny_newObj_type ?_ (by size_fits))
 refine wpAny_bind (m := firstArgMember _ _) (wpAny_of_eq (a := Value.none) (by first | rfl | (simp only [firstArgMember]; rfl)) ?_); refine wpAny_newObj_type ?_ (by size_fits)
 simp only [raiseNew]; refine wpAny_bind (wpAny_handled ?_); rw [show A.in1.handled = none from hh]
 refine wpAny_bind (wpAny_pure (wpAny_throw ?_)); refine wpAny_bind (wpAny_isInstance (T := "StopIteration") (b := true) ⟨_, Heap.get?_push_size _ rfl, rfl⟩ isSubtype_stop ?_);exact wpAny_pure (q _ (((Heap.SameBut.update ..).extBut.push _).push _))
theorem rak_walk (hh : A.handled = none) (hne : d ≠ it) : Walks prog w A it [it, d] [it] vs.length (fun i v => vs[i]? = some v) (fun i h => h.IsKeyIter it d i vs.length ep /\ KRaw h d vs ep) where
 sub := fun b hb => by rw [mem_singleton.mp hb]; exact mem_cons_self
 frame := fun _ _ _ t k => ⟨t.1.at fun o e => k it mem_cons_self o e, t.2.stay fun o e => k d (mem_cons_of_mem _ mem_cons_self) o e⟩
 item := fun i s Q E hi t q => by
  obtain ⟨v, hv⟩ : ∃ v, vs[i]? = some v := ⟨vs[i], by simp [hi]⟩
  refine rak_item t.1 t.2 hv fun h' a b => ?_;exact q v h' s.toks hv ⟨a, t.2.stay fun o e => b.extBut d o hne e⟩ fun c o hc e => b.extBut c o (fun z => hc (by rw [z]; exact mem_cons_self)) e
 done := fun s Q E t q => rak_end hh t.1 t.2 (by simp) fun h' b => q h' s.toks fun c o hc e => b c o (fun z => hc (by rw [z]; exact mem_cons_self)) e
 self := fun _ _ _ _ t q => wpAny_pyIter_keyiter t.1 q
theorem rak_src : KdlSrc prog w "dict_keys" r d vs.length (fun i v => vs[i]? = some v) (fun h => KdlKeysView h r d /\ KRaw h d vs ep) where
 type := fun _ x => x.1.typeIs
 there := fun _ x => ⟨let ⟨_, e, _⟩ := x.1; Heap.lt_size e, x.2.there⟩
 keep := fun _ _ x k => ⟨let ⟨o, e, z⟩ := x.1; ⟨o, k r (.inl rfl) o e, z⟩, x.2.stay fun o e => k d (.inr rfl) o e⟩
 notList := by decide
 notTuple := by decide
 hint := fun _ _ _ _ x q => kdl_hint_keys x.1.typeIs q
 iter := fun _ _ hh x => ⟨_, _, (fun _ _ q => rak_iter x.1 x.2 q), rak_walk hh (ne_of_lt x.2.there), ⟨⟨_, Heap.get?_push_size _ rfl, rfl, rfl⟩, x.2.stay fun o e => Heap.get?_push_of_some _ e⟩⟩
end
noncomputable def eSortK (to : TE3) : TE3 := fun σ G Q => to σ G fun x G1 => match val x with
 | .ref a => match G1 a with
  | some (.dT _ kvs) => ∃ ps : List Sl, kvs.map (·.1) = ps.map Sl.key /\ ps.length <= 900000 /\ Q (.fl ((srS ps).map Sl.d)) G1
  | _ => False
 | _ => False
theorem sl_rd {K : Frag} {H : Hp} {x : Sl} {b : Addr} (h : SqT K H b (x.key.map kV)) : RD K H x.d (.ref b) := by
 unfold Sl.d;simp only [RD];exact ⟨b, _, rfl, h, RDs.cons (by simp only [RD]; rfl) (RDs.cons (by simp only [RD]; rfl) (RDs.cons (by simp only [RD]; rfl) RDs.nil))⟩
theorem rts_keys {K : Frag} {H : Hp} {kvs : List (List Key × D)} {xs : List (List Key × Addr × Value)} (r : RTs K H kvs xs) : ∀ {ps : List Sl}, kvs.map (·.1) = ps.map Sl.key -> RDs K H (ps.map Sl.d) (xs.map fun x => V.ref x.2.1) := by
 unfold RTs at r
 induction r with
 | nil =>
  intro ps e;rw [List.map_eq_nil_iff.mp e.symm];exact RDs.nil
 | cons h _ ih =>
  intro ps e;cases ps with
  | nil => cases e
  | cons y t =>
   simp only [map_cons, List.cons.injEq] at e;obtain ⟨h1, h2, _⟩ := h;rw [map_cons, map_cons];rw [e.1] at h2;exact RDs.cons (sl_rd h2) (ih e.2)
theorem p_sortK {X : Cx} {o : Expr} {to : TE3} {p0 apos cpos pos : Pos} (hu : X.A.units + 8 < cLine) (hc : X.calm = true) (hg : Gl X "sorted") (hm : X.mg "sorted" = none) (ho : PE X o (lift X.K to))
  (hbase : attributeBase o "keys" X.env (eval o X.env) = eval o X.env := by rfl) (hline : (apos.endLine == cpos.line) = true := by rfl) :
  PE X (.Call (.Name "sorted" p0) [.Call (.Attribute o "keys" apos) [] [] cpos] [] pos) (lift X.K (eSortK to)) := by
 rintro pins s τ H Q I ⟨σ, G, Q3, rs, rg, h, kf⟩
 refine wpAny_Call_Name_kw (ld_blt I hg hm (u := .builtin "sorted") (by decide +kernel) ?_ (by decide) (by decide))
 refine PyProof.Rows.callWith_builtin1 ?_ (by rfl) (by rfl)
 show wpAny _ _ (spliced [(false, eval (.Call (.Attribute o "keys" apos) [] [] cpos) X.env)]) _ _ _
 refine Calls.spliced_cons (wpAny_Call_method0_late hbase hline (thn (pe_got ho I rs rg h) fun ov s1 ⟨ox, H1, I1, rox, x, G1, q1, k1, rg1, rd1⟩ => ?_));split at q1
 ·rename_i a hx;rw [hx] at rd1;simp only [RD] at rd1;subst rd1;cases rox;split at q1
  ·rename_i hw kvs hga;obtain ⟨ps, ek, hz, q1⟩ := q1;obtain ⟨hob, eo, ro⟩ := rg1 a _ hga;cases hob with
   | ext φ =>
    obtain ⟨xs, rfl, rt, nd, _⟩ := ro;obtain ⟨hsm, o1, es, ep, g1, g2, g3, g4⟩ := (show ObjOk X.prog X.w H1 s1.heap a (.ext (DTf hw a xs)) from I1.hok a _ eo).1
    have dr : KRaw s1.heap a (xs.map fun x => Value.ref x.2.1) ep := ⟨o1, es, g1, g2, g3, by rw [g4, map_map]; rfl⟩
    have rk := rts_keys rt ek;have lk := rk.length;rw [length_map, length_map] at lk;refine ⟨"dict", "dict.keys", PySem.F.plainAttrs_dict, PySem.F.slot_dict_keys, PySem.F.type_dict_keys, dr.ty, fun b e => ?_, ?_⟩
    ·cases e;exact ⟨o1, g1, g2.2.1⟩
    ·refine Calls.callWith_builtin rfl (PySem.evalArgs_none (call_meetsIn PySem.F.slot_dict_keys dr.ty PySem.F.entry_dict_keys (PySem.F.args_dict_keys_1 _) (rak_values hsm) ⟨⟨_, ep, dr⟩, ?_⟩));refine Calls.spliced_nil ?_;have I2 : L2.Inv X pins τ H1 { s1 with heap := s1.heap.push { cls := .type "dict_keys", data := .fields #[.ref a] } } := I1.kept (t' := s1.toks) fun b u e => Heap.get?_push_of_some _ e
     refine sortedC_run hu I2 rg1 hz (fun {E' Q'} q' => kdu_collect (A := X.A.in1) (rak_src (r := s1.heap.objs.size) (d := a) (vs := xs.map fun x => Value.ref x.2.1) (ep := ep)) (I.ok.hd hc) ⟨⟨_, Heap.get?_push_size _ rfl, rfl, rfl⟩, dr.stay fun b e => Heap.get?_push_of_some _ e⟩ (by rw [length_map, sizeLine_eq]; walk_at "oo") fun h' tk acc hk hacc => ?_) fun D0 H' s' vs I' kp' rg' n0 e' rd' => ?_
     ·have ea : acc.toList = xs.map fun x => Value.ref x.2.1 := by
       refine List.ext_getElem? fun i => ?_;rcases lt_or_ge i acc.size with h | h
       ·have e : acc[i]? = some acc[i] := by simp [h]
        have := hacc.2 i _ e;rw [this];simp [h]
       ·rw [getElem?_eq_none (by simpa using h), getElem?_eq_none (by rw [<- hacc.1]; exact h)]
      rw [ea];exact q' h' tk _ _ hk rk (vals_refs xs)
     ·exact ⟨.ref D0, H', I', rfl, kf _ G1 _ H' q1 (k1.trans kp') rg' (.inl ⟨_, D0, _, rfl, rfl, e', rg1.free n0, rd', k1.fr (fr_none n0)⟩)⟩
   | _ => exact ro.elim
  ·exact q1.elim
 ·exact q1.elim
end L3
namespace RQ
open PySem PySem.Spec PyProof.Rows L2 L3
noncomputable def top (i : Nat) : Stmt := PySem.Challenge.pw_redquill_k22_the_row_whatever_stands.main.body.getD i (.Pass ⟨0, 0, 0, 0⟩)
noncomputable def k_START : D := .tup [.str "", .int 0, .int 0]
theorem fo_Stroke_name {a0 a1 a2 a3 : D} : fldOf ["name", "time", "anchor", "names"] [a0, a1, a2, a3] "name" = some a0 := by kernel_rfl
theorem fo_Stroke_time {a0 a1 a2 a3 : D} : fldOf ["name", "time", "anchor", "names"] [a0, a1, a2, a3] "time" = some a1 := by kernel_rfl
theorem fo_Stroke_anchor {a0 a1 a2 a3 : D} : fldOf ["name", "time", "anchor", "names"] [a0, a1, a2, a3] "anchor" = some a2 := by kernel_rfl
theorem fo_Stroke_names {a0 a1 a2 a3 : D} : fldOf ["name", "time", "anchor", "names"] [a0, a1, a2, a3] "names" = some a3 := by kernel_rfl
theorem pfl_Stroke_0 : putFL [] "name" = (["name"] : List Str) := by kernel_rfl
theorem pfd_Stroke_0 {x : D} : putFD [] [] "name" x = [x] := by kernel_rfl
theorem pfl_Stroke_1 : putFL ["name"] "time" = (["name", "time"] : List Str) := by kernel_rfl
theorem pfd_Stroke_1 {a0 x : D} : putFD ["name"] [a0] "time" x = [a0, x] := by kernel_rfl
theorem pfl_Stroke_2 : putFL ["name", "time"] "anchor" = (["name", "time", "anchor"] : List Str) := by kernel_rfl
theorem pfd_Stroke_2 {a0 a1 x : D} : putFD ["name", "time"] [a0, a1] "anchor" x = [a0, a1, x] := by kernel_rfl
theorem pfl_Stroke_3 : putFL ["name", "time", "anchor"] "names" = (["name", "time", "anchor", "names"] : List Str) := by kernel_rfl
theorem pfd_Stroke_3 {a0 a1 a2 x : D} : putFD ["name", "time", "anchor"] [a0, a1, a2] "names" x = [a0, a1, a2, x] := by kernel_rfl
theorem nm_Stroke_slots : (("slots" : Str) ∉ (["name", "time", "anchor", "names"] : List Str)) = True := eq_true (by decide +kernel)
theorem fo_Put_name {a0 a1 a2 a3 a4 : D} : fldOf ["name", "time", "anchor", "names", "signs"] [a0, a1, a2, a3, a4] "name" = some a0 := by kernel_rfl
theorem fo_Put_time {a0 a1 a2 a3 a4 : D} : fldOf ["name", "time", "anchor", "names", "signs"] [a0, a1, a2, a3, a4] "time" = some a1 := by kernel_rfl
theorem fo_Put_anchor {a0 a1 a2 a3 a4 : D} : fldOf ["name", "time", "anchor", "names", "signs"] [a0, a1, a2, a3, a4] "anchor" = some a2 := by kernel_rfl
theorem fo_Put_names {a0 a1 a2 a3 a4 : D} : fldOf ["name", "time", "anchor", "names", "signs"] [a0, a1, a2, a3, a4] "names" = some a3 := by kernel_rfl
theorem fo_Put_signs {a0 a1 a2 a3 a4 : D} : fldOf ["name", "time", "anchor", "names", "signs"] [a0, a1, a2, a3, a4] "signs" = some a4 := by kernel_rfl
theorem pfl_Put_0 : putFL ["name", "time", "anchor", "names"] "anchor" = (["name", "time", "anchor", "names"] : List Str) := by kernel_rfl
theorem pfd_Put_0 {a0 a1 a2 a3 x : D} : putFD ["name", "time", "anchor", "names"] [a0, a1, a2, a3] "anchor" x = [a0, a1, x, a3] := by kernel_rfl
theorem pfl_Put_1 : putFL ["name", "time", "anchor", "names"] "signs" = (["name", "time", "anchor", "names", "signs"] : List Str) := by kernel_rfl
theorem pfd_Put_1 {a0 a1 a2 a3 x : D} : putFD ["name", "time", "anchor", "names"] [a0, a1, a2, a3] "signs" x = [a0, a1, a2, a3, x] := by kernel_rfl
theorem nm_Put_slots : (("slots" : Str) ∉ (["name", "time", "anchor", "names", "signs"] : List Str)) = True := eq_true (by decide +kernel)
theorem fo_Strike_name {a0 a1 a2 a3 : D} : fldOf ["name", "time", "anchor", "names"] [a0, a1, a2, a3] "name" = some a0 := by kernel_rfl
theorem fo_Strike_time {a0 a1 a2 a3 : D} : fldOf ["name", "time", "anchor", "names"] [a0, a1, a2, a3] "time" = some a1 := by kernel_rfl
theorem fo_Strike_anchor {a0 a1 a2 a3 : D} : fldOf ["name", "time", "anchor", "names"] [a0, a1, a2, a3] "anchor" = some a2 := by kernel_rfl
theorem fo_Strike_names {a0 a1 a2 a3 : D} : fldOf ["name", "time", "anchor", "names"] [a0, a1, a2, a3] "names" = some a3 := by kernel_rfl
theorem pfl_Strike_0 : putFL ["name", "time", "anchor", "names"] "names" = (["name", "time", "anchor", "names"] : List Str) := by kernel_rfl
theorem pfd_Strike_0 {a0 a1 a2 a3 x : D} : putFD ["name", "time", "anchor", "names"] [a0, a1, a2, a3] "names" x = [a0, a1, a2, x] := by kernel_rfl
theorem nm_Strike_slots : (("slots" : Str) ∉ (["name", "time", "anchor", "names"] : List Str)) = True := eq_true (by decide +kernel)
theorem fo_Dress_name {a0 a1 a2 a3 a4 : D} : fldOf ["name", "time", "anchor", "names", "word"] [a0, a1, a2, a3, a4] "name" = some a0 := by kernel_rfl
theorem fo_Dress_time {a0 a1 a2 a3 a4 : D} : fldOf ["name", "time", "anchor", "names", "word"] [a0, a1, a2, a3, a4] "time" = some a1 := by kernel_rfl
theorem fo_Dress_anchor {a0 a1 a2 a3 a4 : D} : fldOf ["name", "time", "anchor", "names", "word"] [a0, a1, a2, a3, a4] "anchor" = some a2 := by kernel_rfl
theorem fo_Dress_names {a0 a1 a2 a3 a4 : D} : fldOf ["name", "time", "anchor", "names", "word"] [a0, a1, a2, a3, a4] "names" = some a3 := by kernel_rfl
theorem fo_Dress_word {a0 a1 a2 a3 a4 : D} : fldOf ["name", "time", "anchor", "names", "word"] [a0, a1, a2, a3, a4] "word" = some a4 := by kernel_rfl
theorem pfl_Dress_0 : putFL ["name", "time", "anchor", "names"] "names" = (["name", "time", "anchor", "names"] : List Str) := by kernel_rfl
theorem pfd_Dress_0 {a0 a1 a2 a3 x : D} : putFD ["name", "time", "anchor", "names"] [a0, a1, a2, a3] "names" x = [a0, a1, a2, x] := by kernel_rfl
theorem pfl_Dress_1 : putFL ["name", "time", "anchor", "names"] "word" = (["name", "time", "anchor", "names", "word"] : List Str) := by kernel_rfl
theorem pfd_Dress_1 {a0 a1 a2 a3 x : D} : putFD ["name", "time", "anchor", "names"] [a0, a1, a2, a3] "word" x = [a0, a1, a2, a3, x] := by kernel_rfl
theorem nm_Dress_slots : (("slots" : Str) ∉ (["name", "time", "anchor", "names", "word"] : List Str)) = True := eq_true (by decide +kernel)
theorem fo_Move_name {a0 a1 a2 a3 : D} : fldOf ["name", "time", "anchor", "names"] [a0, a1, a2, a3] "name" = some a0 := by kernel_rfl
theorem fo_Move_time {a0 a1 a2 a3 : D} : fldOf ["name", "time", "anchor", "names"] [a0, a1, a2, a3] "time" = some a1 := by kernel_rfl
theorem fo_Move_anchor {a0 a1 a2 a3 : D} : fldOf ["name", "time", "anchor", "names"] [a0, a1, a2, a3] "anchor" = some a2 := by kernel_rfl
theorem fo_Move_names {a0 a1 a2 a3 : D} : fldOf ["name", "time", "anchor", "names"] [a0, a1, a2, a3] "names" = some a3 := by kernel_rfl
theorem pfl_Move_0 : putFL ["name", "time", "anchor", "names"] "names" = (["name", "time", "anchor", "names"] : List Str) := by kernel_rfl
theorem pfd_Move_0 {a0 a1 a2 a3 x : D} : putFD ["name", "time", "anchor", "names"] [a0, a1, a2, a3] "names" x = [a0, a1, a2, x] := by kernel_rfl
theorem pfl_Move_1 : putFL ["name", "time", "anchor", "names"] "anchor" = (["name", "time", "anchor", "names"] : List Str) := by kernel_rfl
theorem pfd_Move_1 {a0 a1 a2 a3 x : D} : putFD ["name", "time", "anchor", "names"] [a0, a1, a2, a3] "anchor" x = [a0, a1, x, a3] := by kernel_rfl
theorem nm_Move_slots : (("slots" : Str) ∉ (["name", "time", "anchor", "names"] : List Str)) = True := eq_true (by decide +kernel)
abbrev s_slots_made : Stmt := top 3
theorem sc_slots_made : FnScope ["name", "how_many"] ["name", "how_many"] (defScope s_slots_made) := ⟨rfl, rfl, rfl, by decide +kernel, rfl, by decide +kernel, by decide +kernel⟩
theorem nd_slots_made_1 : ((["k"] : List Str) ++ (["name", "how_many"] : List Str)).Nodup := by decide +kernel
abbrev s_stroke_of : Stmt := top 9
theorem sc_stroke_of : FnScope ["row", "name", "time", "act"] ["row"] (defScope s_stroke_of) := ⟨rfl, rfl, rfl, by decide +kernel, rfl, by decide +kernel, by decide +kernel⟩
abbrev s_place_in_order : Stmt := top 10
theorem sc_place_in_order : FnScope ["row"] ["row"] (defScope s_place_in_order) := ⟨rfl, rfl, rfl, by decide +kernel, rfl, by decide +kernel, by decide +kernel⟩
abbrev s_in_order : Stmt := top 11
theorem sc_in_order : FnScope ["rows", "by_name", "row"] ["rows"] (defScope s_in_order) := ⟨rfl, rfl, rfl, by decide +kernel, rfl, by decide +kernel, by decide +kernel⟩
abbrev s_old_slots : Stmt := top 13
theorem sc_old_slots : FnScope ["old"] ["old"] (defScope s_old_slots) := ⟨rfl, rfl, rfl, by decide +kernel, rfl, by decide +kernel, by decide +kernel⟩
abbrev s_lay_behind : Stmt := top 14
theorem sc_lay_behind : FnScope ["following", "anchor", "slots", "behind", "slot"] ["following", "anchor", "slots"] (defScope s_lay_behind) := ⟨rfl, rfl, rfl, by decide +kernel, rfl, by decide +kernel, by decide +kernel⟩
abbrev s_chained : Stmt := top 15
theorem sc_chained : FnScope ["following", "row", "slot"] ["following"] (defScope s_chained) := ⟨rfl, rfl, rfl, by decide +kernel, rfl, by decide +kernel, by decide +kernel⟩
abbrev s_slots_of : Stmt := top 16
theorem sc_slots_of : FnScope ["old", "strokes", "following", "stroke"] ["old", "strokes"] (defScope s_slots_of) := ⟨rfl, rfl, rfl, by decide +kernel, rfl, by decide +kernel, by decide +kernel⟩
theorem nd_slots_of_1 : ((["row"] : List Str) ++ (["old", "strokes", "following", "stroke"] : List Str)).Nodup := by decide +kernel
abbrev s__law_cell_at : Stmt := top 18
theorem sc__law_cell_at : FnScope ["_law_script", "_law_k"] ["_law_script", "_law_k"] (defScope s__law_cell_at) := ⟨rfl, rfl, rfl, by decide +kernel, rfl, by decide +kernel, by decide +kernel⟩
abbrev s__law_stream : Stmt := top 19
theorem sc__law_stream : FnScope ["_law_cell", "_law_many", "_law_found", "_law_number", "_law_k"] ["_law_cell", "_law_many"] (defScope s__law_stream) := ⟨rfl, rfl, rfl, by decide +kernel, rfl, by decide +kernel, by decide +kernel⟩
abbrev s__law_strokes : Stmt := top 20
theorem sc__law_strokes : FnScope ["_law_cells", "_law_pens", "_law_old", "_law_slots", "_law_rows", "_law_many", "_law_cell", "_law_xs", "_law_pen", "_law_name", "_law_anchor", "_law_names", "_law_some", "_law_act"] ["_law_cells", "_law_pens", "_law_old"] (defScope s__law_strokes) := ⟨rfl, rfl, rfl, by decide +kernel, rfl, by decide +kernel, by decide +kernel⟩
theorem nd__law_strokes_1 : ((["_law_k"] : List Str) ++ (["_law_cells", "_law_pens", "_law_old", "_law_slots", "_law_rows", "_law_many", "_law_cell", "_law_xs", "_law_pen", "_law_name", "_law_anchor", "_law_names", "_law_some", "_law_act"] : List Str)).Nodup := by decide +kernel
theorem nd__law_strokes_2 : ((["_law_k"] : List Str) ++ (["_law_cells", "_law_pens", "_law_old", "_law_slots", "_law_rows", "_law_many", "_law_cell", "_law_xs", "_law_pen", "_law_name", "_law_anchor", "_law_names", "_law_some", "_law_act"] : List Str)).Nodup := by decide +kernel
abbrev s__law_made : Stmt := top 21
theorem sc__law_made : FnScope ["_law_row", "_law_name", "_law_time", "_law_act"] ["_law_row"] (defScope s__law_made) := ⟨rfl, rfl, rfl, by decide +kernel, rfl, by decide +kernel, by decide +kernel⟩
theorem nd__law_made_1 : ((["_law_k"] : List Str) ++ (["_law_row", "_law_name", "_law_time", "_law_act"] : List Str)).Nodup := by decide +kernel
theorem nd__law_made_2 : ((["_law_k"] : List Str) ++ (["_law_row", "_law_name", "_law_time", "_law_act"] : List Str)).Nodup := by decide +kernel
abbrev s__law_key : Stmt := top 22
theorem sc__law_key : FnScope ["_law_row"] ["_law_row"] (defScope s__law_key) := ⟨rfl, rfl, rfl, by decide +kernel, rfl, by decide +kernel, by decide +kernel⟩
abbrev s__law_due : Stmt := top 23
theorem sc__law_due : FnScope ["_law_old", "_law_rows", "_law_due_here", "_law_k", "_law_row", "_law_made_here", "_law_anchor", "_law_slot"] ["_law_old", "_law_rows"] (defScope s__law_due) := ⟨rfl, rfl, rfl, by decide +kernel, rfl, by decide +kernel, by decide +kernel⟩
abbrev s_law : Stmt := top 24
theorem sc_law : FnScope ["_law_script", "_law_first", "_law_old", "_law_pens", "_law_rows", "_law_handed", "_law_kept", "_law_found", "_law_again", "_law_bare"] ["_law_script"] (defScope s_law) := ⟨rfl, rfl, rfl, by decide +kernel, rfl, by decide +kernel, by decide +kernel⟩
theorem nd_law_1 : ((["_law_row"] : List Str) ++ (["_law_script", "_law_first", "_law_old", "_law_pens", "_law_rows", "_law_handed", "_law_kept", "_law_found", "_law_again", "_law_bare"] : List Str)).Nodup := by decide +kernel
abbrev s_Stroke___init__ : Stmt := inClass (top 4) 0
theorem sc_Stroke___init__ : FnScope ["self", "name", "time"] ["self", "name", "time"] (defScope s_Stroke___init__) := ⟨rfl, rfl, rfl, by decide +kernel, rfl, by decide +kernel, by decide +kernel⟩
abbrev s_Stroke_slots : Stmt := inClass (top 4) 1
theorem sc_Stroke_slots : FnScope ["self"] ["self"] (defScope s_Stroke_slots) := ⟨rfl, rfl, rfl, by decide +kernel, rfl, by decide +kernel, by decide +kernel⟩
abbrev s_Put___init__ : Stmt := inClass (top 5) 0
theorem sc_Put___init__ : FnScope ["self", "name", "time", "anchor", "signs"] ["self", "name", "time", "anchor", "signs"] (defScope s_Put___init__) := ⟨rfl, rfl, rfl, by decide +kernel, rfl, by decide +kernel, by decide +kernel⟩
abbrev s_Put_slots : Stmt := inClass (top 5) 1
theorem sc_Put_slots : FnScope ["self"] ["self"] (defScope s_Put_slots) := ⟨rfl, rfl, rfl, by decide +kernel, rfl, by decide +kernel, by decide +kernel⟩
abbrev s_Strike___init__ : Stmt := inClass (top 6) 0
theorem sc_Strike___init__ : FnScope ["self", "name", "time", "names"] ["self", "name", "time", "names"] (defScope s_Strike___init__) := ⟨rfl, rfl, rfl, by decide +kernel, rfl, by decide +kernel, by decide +kernel⟩
abbrev s_Dress___init__ : Stmt := inClass (top 7) 0
theorem sc_Dress___init__ : FnScope ["self", "name", "time", "names", "word"] ["self", "name", "time", "names", "word"] (defScope s_Dress___init__) := ⟨rfl, rfl, rfl, by decide +kernel, rfl, by decide +kernel, by decide +kernel⟩
abbrev s_Move___init__ : Stmt := inClass (top 8) 0
theorem sc_Move___init__ : FnScope ["self", "name", "time", "names", "anchor"] ["self", "name", "time", "names", "anchor"] (defScope s_Move___init__) := ⟨rfl, rfl, rfl, by decide +kernel, rfl, by decide +kernel, by decide +kernel⟩
abbrev s_Move_slots : Stmt := inClass (top 8) 1
theorem sc_Move_slots : FnScope ["self"] ["self"] (defScope s_Move_slots) := ⟨rfl, rfl, rfl, by decide +kernel, rfl, by decide +kernel, by decide +kernel⟩
noncomputable def sp_place_in_order (_ _ _ _ _ : Addr) (_ : HW) : Sp3 := fun ds G Q => match ds with
 | [d] => ∃ r : Rw, d = r.d /\ Q r.key G
 | _ => False
noncomputable def Ext (G G' : Gp) : Prop := ∀ a o, G a = some o -> G' a = some o
theorem Ext.refl {G : Gp} : Ext G G := fun _ _ h => h
theorem Ext.trans {G G1 G2 : Gp} (a : Ext G G1) (b : Ext G1 G2) : Ext G G2 := fun x o h => b x o (a x o h)
theorem Ext.gset {G G1 : Gp} {p : Addr} {o : GO} (a : Ext G G1) (hp : G p = none) : Ext G (gset G1 p o) := fun x y h => by
 have : x ≠ p := fun z => by subst z; rw [hp] at h; cases h
 rw [gset_ne this];exact a x y h
noncomputable def sp_in_order (_ _ _ _ _ : Addr) (_ : HW) : Sp3 := fun ds G Q => match ds with
 | [.lst xs] => ∃ rs base : List Rw, (xs = rs.map Rw.d /\ OneEach rs /\ rs.length <= 1000 /\ base.length < 64 /\ ∀ r ∈ rs, r ∈ base) /\ ∀ out G', Ext G G' -> Strict out -> (∀ r, r ∈ out ↔ r ∈ rs) -> Q (.fl (out.map Rw.d)) G'
 | _ => False
noncomputable def sp_slots_made (_ _ _ _ _ : Addr) (_ : HW) : Sp3 := fun ds G Q => match ds with
 | [.tup [.str p, .int n], .int m] => (0 <= m /\ m <= 1000) /\ Q (.fl ((numbered p n m.toNat).map Sl.d)) G
 | _ => False
noncomputable def objOf (Z1 Z2 Z3 Z4 Z5 : Addr) (s : Sk) : GO := match s.act with
 | .put a x => .ins Z2 ["name", "time", "anchor", "names", "signs"] [.tup [.str s.pen, .int s.num], .int s.time, a.d, .tup [], .str x]
 | .strike ns => .ins Z3 ["name", "time", "anchor", "names"] [.tup [.str s.pen, .int s.num], .int s.time, startS.d, .tup (ns.map Sl.d)]
 | .dress ns w => .ins Z4 ["name", "time", "anchor", "names", "word"] [.tup [.str s.pen, .int s.num], .int s.time, startS.d, .tup (ns.map Sl.d), .str w]
 | .move ns a => .ins Z5 ["name", "time", "anchor", "names"] [.tup [.str s.pen, .int s.num], .int s.time, a.d, .tup (ns.map Sl.d)]
noncomputable def sp_Stroke___init__ (Z1 Z2 Z3 Z4 Z5 : Addr) (hw : HW) : Sp3 := fun ds G Q => match ds with
 | [.ref a, d, .int t] => (∃ C, C ∈ [Z1, Z2, Z3, Z4, Z5] /\ G a = some (.ins C [] []) /\ ∃ p n, d = .tup [.str p, .int n] /\ Q .non (gset G a (.ins C ["name", "time", "anchor", "names"] [d, .int t, startS.d, .tup []])))
 | _ => False
noncomputable def sp_Put___init__ (Z1 Z2 Z3 Z4 Z5 : Addr) (hw : HW) : Sp3 := fun ds G Q => match ds with
 | [.ref a, d, .int t, b, .str x] => G a = some (.ins Z2 [] []) /\ ∃ p n s, d = .tup [.str p, .int n] /\ b = Sl.d s /\ Q .non (gset G a (.ins Z2 ["name", "time", "anchor", "names", "signs"] [d, .int t, b, .tup [], .str x]))
 | _ => False
noncomputable def sp_Strike___init__ (Z1 Z2 Z3 Z4 Z5 : Addr) (hw : HW) : Sp3 := fun ds G Q => match ds with
 | [.ref a, d, .int t, .tup ns] => G a = some (.ins Z3 [] []) /\ ∃ p n, d = .tup [.str p, .int n] /\ Q .non (gset G a (.ins Z3 ["name", "time", "anchor", "names"] [d, .int t, startS.d, .tup ns]))
 | _ => False
noncomputable def sp_Dress___init__ (Z1 Z2 Z3 Z4 Z5 : Addr) (hw : HW) : Sp3 := fun ds G Q => match ds with
 | [.ref a, d, .int t, .tup ns, .str w] => G a = some (.ins Z4 [] []) /\ ∃ p n, d = .tup [.str p, .int n] /\ Q .non (gset G a (.ins Z4 ["name", "time", "anchor", "names", "word"] [d, .int t, startS.d, .tup ns, .str w]))
 | _ => False
noncomputable def sp_Move___init__ (Z1 Z2 Z3 Z4 Z5 : Addr) (hw : HW) : Sp3 := fun ds G Q => match ds with
 | [.ref a, d, .int t, .tup ns, b] => G a = some (.ins Z5 [] []) /\ ∃ p n s, d = .tup [.str p, .int n] /\ b = Sl.d s /\ Q .non (gset G a (.ins Z5 ["name", "time", "anchor", "names"] [d, .int t, b, .tup ns]))
 | _ => False
noncomputable def sp_stroke_of (Z1 Z2 Z3 Z4 Z5 : Addr) (hw : HW) : Sp3 := fun ds G Q => match ds with
 | [d] => ∃ s : Sk, d = s.d /\ ∀ p, G p = none -> Q (.ref p) (gset G p (objOf Z1 Z2 Z3 Z4 Z5 s))
 | _ => False
noncomputable def sp_Stroke_slots (_ _ _ _ _ : Addr) (_ : HW) : Sp3 := fun ds G Q => match ds with
 | [.ref _] => Q (.fl []) G
 | _ => False
noncomputable def sp_Put_slots (Z1 Z2 Z3 Z4 Z5 : Addr) (hw : HW) : Sp3 := fun ds G Q => match ds with
 | [.ref a] => ∃ (s : Sk) (b : Sl) (x : Str), (s.act = .put b x /\ G a = some (objOf Z1 Z2 Z3 Z4 Z5 s) /\ x.length <= 1000) /\ Q (.fl ((made s).map Sl.d)) G
 | _ => False
noncomputable def sp_Move_slots (Z1 Z2 Z3 Z4 Z5 : Addr) (hw : HW) : Sp3 := fun ds G Q => match ds with
 | [.ref a] => ∃ (s : Sk) (b : Sl) (ns : List Sl), (s.act = .move ns b /\ G a = some (objOf Z1 Z2 Z3 Z4 Z5 s) /\ ns.length <= 1000) /\ Q (.fl ((made s).map Sl.d)) G
 | _ => False
noncomputable def sp_old_slots (_ _ _ _ _ : Addr) (_ : HW) : Sp3 := fun ds G Q => match ds with
 | [.str x] => x.length <= 1000 /\ Q (.fl ((oldS x.length).map Sl.d)) G
 | _ => False
noncomputable def sp_lay_behind (Z1 Z2 Z3 Z4 Z5 : Addr) (hw : HW) : Sp3 := fun ds G Q => match ds with
 | [.ref p, a, .lst xs] => ∃ (b : Sl) (ss W : List Sl) (kvs : List (List Key × D)), (a = b.d /\ xs = ss.map Sl.d /\ G p = some (.dT hw kvs) /\ Fol kvs W /\ b ∈ W /\ ss.Nodup /\ (∀ x ∈ ss, x ∉ W) /\ W.length + ss.length <= 900000) /\
   ∀ kvs', Fol kvs' (insAll W b ss) -> Q .non (gset G p (.dT hw kvs'))
 | _ => False
noncomputable def sp_chained (Z1 Z2 Z3 Z4 Z5 : Addr) (hw : HW) : Sp3 := fun ds G Q => match ds with
 | [.ref p] => ∃ (R : List Sl) (kvs : List (List Key × D)), (G p = some (.dT hw kvs) /\ Fol kvs (startS :: R) /\ R.length <= 900000) /\ Q (.fl (R.map Sl.d)) G
 | _ => False
noncomputable def sp_slots_of (Z1 Z2 Z3 Z4 Z5 : Addr) (hw : HW) : Sp3 := fun ds G Q => match ds with
 | [.str x, .lst xs] => ∃ sks base : List Sk, (xs = sks.map Sk.d /\ x.length <= 1000 /\ OneEach (sks.map Sk.rw) /\ sks.length <= 1000 /\ base.length < 64 /\ (∀ s ∈ sks, s ∈ base) /\ ∀ s ∈ sks, s.ok) /\
   ∀ out G', Ext G G' -> Strict (out.map Sk.rw) -> (∀ s, s ∈ out ↔ s ∈ sks) -> Q (.fl ((rowOf x.length out).map Sl.d)) G'
 | _ => False
noncomputable def sp__law_cell_at (_ _ _ _ _ : Addr) (_ : HW) : Sp3 := fun ds G Q => match ds with
 | [.lst xs, .int k] => ∃ ns : List Int, (xs = ns.map D.int /\ 0 <= k) /\ ∀ c : Int, Q (.int c) G
 | _ => False
noncomputable def sp_law (_ _ _ _ _ : Addr) (_ : HW) : Sp3 := fun vs _ Q => match vs with
 | [.lst ds] => ∃ ns : List Int, ds = ns.map D.int /\ ns.length <= 63 /\ ∀ G', Q (.bl true) G'
 | _ => False
noncomputable def sp__law_stream (_ _ _ _ _ : Addr) (_ : HW) : Sp3 := fun ds G Q => match ds with
 | [.int _, .int m] => (0 <= m /\ m <= 100) /\ ∀ xs : List Int, (xs.length : Int) = m -> (∀ x ∈ xs, 0 <= x /\ x < 2147483647) -> Q (.fl (xs.map D.int)) G
 | _ => False
noncomputable def sp__law_key (_ _ _ _ _ : Addr) (_ : HW) : Sp3 := fun ds G Q => match ds with
 | [d] => ∃ r : Rw, d = r.d /\ Q (.tup [.int r.time, .str r.pen, .int r.num]) G
 | _ => False
noncomputable def sp__law_made (_ _ _ _ _ : Addr) (_ : HW) : Sp3 := fun ds G Q => match ds with
 | [d] => ∃ s : Sk, (d = s.d /\ s.act.many <= 1000) /\ Q (.fl ((made s).map Sl.d)) G
 | _ => False
noncomputable def Good22 (sks : List Sk) : Prop := sks.length <= 30 /\ (∀ s ∈ sks, s.ok /\ s.act.many <= 3) /\ (sks.map Sk.rw).Pairwise Apart
noncomputable def sp__law_strokes (_ _ _ _ _ : Addr) (_ : HW) : Sp3 := fun ds _ Q => match ds with
 | [.lst cs, .lst pens, .str x] => ∃ (ns : List Int) (ps : List Str), (cs = ns.map D.int /\ ns.length <= 30 /\ pens = ps.map D.str /\ 0 < ps.length /\ ps.length <= 4 /\ x.length <= 40) /\ ∀ (sks : List Sk) G', Good22 sks -> Q (.fl (sks.map Sk.d)) G'
 | _ => False
noncomputable def sp__law_due (Z1 Z2 Z3 Z4 Z5 : Addr) (hw : HW) : Sp3 := fun ds G Q => match ds with
 | [.str x, .lst xs] => ∃ sks : List Sk, (xs = sks.map Sk.d /\ x.length <= 40 /\ Good22 sks) /\ ∀ out G', Ext G G' -> Strict (out.map Sk.rw) -> (∀ s, s ∈ out ↔ s ∈ sks) -> Q (.fl ((srS (rowOf x.length out)).map Sl.d)) G'
 | _ => False
noncomputable def rd__law_cell_at (Z1 Z2 Z3 Z4 Z5 : Addr) (hw : List Key -> Int) : TS3 := sSeq (sIf (tTru (eOp oLt (eVar 1) (eB bLen (aCons (eVar 0) (aNil))))) (sRet (eOp oIx (eVar 0) (eVar 1))) (sNil))
 (sRet (eC (.int 0)))
noncomputable def rd__law_stream (Z1 Z2 Z3 Z4 Z5 : Addr) (hw : List Key -> Int) : TS3 := sSeq (sOwn 2 (eLst (aNil)))
 (sSeq (sSet 3 (eOp oMod (eOp oMul (eOp oAdd (eVar 0) (eC (.int 1))) (eC (.int 48271))) (eC (.int 2147483647))))
 (sSeq (sFor (iR1 (aCons (eVar 1) (aNil))) (gN 4) (sSeq (sSet 3 (eOp oMod (eOp oMul (eOp oAdd (eOp oAdd (eVar 3) (eOp oMul (eC (.int 7919)) (eVar 4))) (eC (.int 1))) (eOp oAdd (eOp oDiv (eVar 3) (eC (.int 1009))) (eC (.int 69621)))) (eC (.int 2147483647))))
 (sDrop (eAppend (eVar 2) (aCons (eVar 3) (aNil))))))
 (sRetOwn 2)))
noncomputable def rd__law_made (Z1 Z2 Z3 Z4 Z5 : Addr) (hw : List Key -> Int) : TS3 := sSeq (sAsg (eVar 0) (gTup3 3 (gCons3 (gN 1) (gCons3 (gN 2) (gCons3 (gN 3) (gNil3))))))
 (sSeq (sIf (tTru (eOpV oEq (eOp oIx (eVar 3) (eC (.int 0))) (eC (.str "put")))) (sRet (eComp 1 (iR1 (aCons (eB bLen (aCons (eOp oIx (eVar 3) (eC (.int 2))) (aNil))) (aNil))) (gN 0) (tTrue) (eTup (aCons (eOp oIx (eVar 2) (eC (.int 0))) (aCons (eOp oIx (eVar 2) (eC (.int 1))) (aCons (eOp oAdd (eVar 0) (eC (.int 1))) (aNil))))))) (sNil))
 (sSeq (sIf (tTru (eOpV oEq (eOp oIx (eVar 3) (eC (.int 0))) (eC (.str "move")))) (sRet (eComp 1 (iR1 (aCons (eB bLen (aCons (eOp oIx (eVar 3) (eC (.int 1))) (aNil))) (aNil))) (gN 0) (tTrue) (eTup (aCons (eOp oIx (eVar 2) (eC (.int 0))) (aCons (eOp oIx (eVar 2) (eC (.int 1))) (aCons (eOp oAdd (eVar 0) (eC (.int 1))) (aNil))))))) (sNil))
 (sRet (eLst (aNil)))))
noncomputable def rd__law_strokes (Z1 Z2 Z3 Z4 Z5 : Addr) (hw : List Key -> Int) : TS3 := sSeq (sSet 3 (eOp oAdd (eLst (aCons (eTup (aCons (eC (.str "")) (aCons (eC (.int 0)) (aCons (eC (.int 0)) (aNil))))) (aNil))) (eComp 1 (iR1 (aCons (eB bLen (aCons (eVar 2) (aNil))) (aNil))) (gN 0) (tTrue) (eTup (aCons (eC (.str "")) (aCons (eC (.int 0)) (aCons (eOp oAdd (eVar 0) (eC (.int 1))) (aNil))))))))
 (sSeq (sOwn 4 (eLst (aNil)))
 (sSeq (sSet 5 (eDctK))
 (sSeq (sFor (iSeq (eVar 0)) (gN 6) (sSeq (sSet 7 (eCall (sp__law_stream Z1 Z2 Z3 Z4 Z5 hw) [] (aCons (eVar 6) (aCons (eC (.int 7)) (aNil)))))
 (sSeq (sSet 8 (eOp oIx (eVar 1) (eOp oMod (eOp oIx (eVar 7) (eC (.int 0))) (eB bLen (aCons (eVar 1) (aNil))))))
 (sSeq (sSetI hw (eVar 5) (eVar 8) (eOp oAdd (eDGet2 hw (eVar 5) (eVar 8) (eC (.int 0))) (eC (.int 1))))
 (sSeq (sSet 9 (eTup (aCons (eVar 8) (aCons (eDIx hw (eVar 5) (eVar 8)) (aNil)))))
 (sSeq (sSet 10 (eOp oIx (eVar 3) (eOp oMod (eOp oIx (eVar 7) (eC (.int 2))) (eB bLen (aCons (eVar 3) (aNil))))))
 (sSeq (sSet 11 (eB bTuple (aCons (eComp 1 (iR1 (aCons (eOp oAdd (eC (.int 1)) (eOp oMod (eOp oIx (eVar 7) (eC (.int 4))) (eC (.int 3)))) (aNil))) (gN 0) (tTrue) (eTup (aCons (eC (.str "")) (aCons (eC (.int 0)) (aCons (eOp oAdd (eC (.int 1)) (eOp oMod (eOp oAdd (eOp oIx (eVar 8) (eC (.int 3))) (eVar 0)) (eC (.int 25)))) (aNil)))))) (aNil))))
 (sSeq (sSet 12 (eLst (aCons (eTup (aCons (eC (.str "put")) (aCons (eVar 10) (aCons (eSl slA (eC (.str "abc")) (oNo) (oSome (eOp oAdd (eC (.int 1)) (eOp oMod (eOp oIx (eVar 7) (eC (.int 4))) (eC (.int 3)))))) (aNil))))) (aCons (eTup (aCons (eC (.str "move")) (aCons (eVar 11) (aCons (eVar 10) (aNil))))) (aCons (eTup (aCons (eC (.str "put")) (aCons (eVar 10) (aCons (eC (.str "~")) (aNil))))) (aNil))))))
 (sSeq (sSet 13 (eOp oIx (eOp oAdd (eVar 12) (eLst (aCons (eTup (aCons (eC (.str "move")) (aCons (eVar 11) (aCons (eVar 10) (aNil))))) (aCons (eTup (aCons (eC (.str "strike")) (aCons (eVar 11) (aNil)))) (aCons (eTup (aCons (eC (.str "dress")) (aCons (eVar 11) (aCons (eC (.str "bold")) (aNil))))) (aNil)))))) (eOp oMod (eOp oIx (eVar 7) (eC (.int 5))) (eC (.int 6)))))
 (sSeq (sDrop (eAppend (eVar 4) (aCons (eTup (aCons (eVar 9) (aCons (eOp oAdd (eC (.int 1)) (eOp oMod (eOp oIx (eVar 7) (eC (.int 1))) (eC (.int 9)))) (aCons (eVar 13) (aNil))))) (aNil))))
 (sSet 3 (eOp oAdd (eVar 3) (eCall (sp__law_made Z1 Z2 Z3 Z4 Z5 hw) [] (aCons (eOp oIx (eVar 4) (eNeg (eC (.int 1)))) (aNil)))))))))))))))
 (sRetOwn 4))))
noncomputable def rd_lay_behind (Z1 Z2 Z3 Z4 Z5 : Addr) (hw : List Key -> Int) : TS3 := sSeq (sSet 3 (eVar 1))
 (sFor (iSeq (eVar 2)) (gN 4) (sSeq (sSetI hw (eVar 0) (eVar 4) (eDIx hw (eVar 0) (eVar 3)))
 (sSeq (sSetI hw (eVar 0) (eVar 3) (eVar 4))
 (sSet 3 (eVar 4)))))
noncomputable def rd_slots_made (Z1 Z2 Z3 Z4 Z5 : Addr) (hw : List Key -> Int) : TS3 := sRet (eComp 1 (iR2 (aCons (eC (.int 1)) (aCons (eOp oAdd (eVar 1) (eC (.int 1))) (aNil)))) (gN 0) (tTrue) (eOp oAdd (eVar 1) (eTup (aCons (eVar 0) (aNil)))))
noncomputable def rd_old_slots (Z1 Z2 Z3 Z4 Z5 : Addr) (hw : List Key -> Int) : TS3 := sRet (eCall (sp_slots_made Z1 Z2 Z3 Z4 Z5 hw) [] (aCons (eSl slA (eC k_START) (oNo) (oSome (eC (.int 2)))) (aCons (eB bLen (aCons (eVar 0) (aNil))) (aNil))))
noncomputable def rd_place_in_order (Z1 Z2 Z3 Z4 Z5 : Addr) (hw : List Key -> Int) : TS3 := sRet (eTup (aCons (eOp oIx (eVar 0) (eC (.int 1))) (aCons (eOp oIx (eVar 0) (eC (.int 0))) (aNil))))
noncomputable def rd_in_order (Z1 Z2 Z3 Z4 Z5 : Addr) (hw : List Key -> Int) : TS3 := sSeq (sSet 1 (eDctT hw))
 (sSeq (sFor (iSeq (eVar 0)) (gN 2) (sSetI hw (eVar 1) (eOp oIx (eVar 2) (eC (.int 0))) (eVar 2)))
 (sRet (eSortV (sp_place_in_order Z1 Z2 Z3 Z4 Z5 hw) (eVar 1))))
noncomputable def rd_Stroke___init__ (Z1 Z2 Z3 Z4 Z5 : Addr) (hw : List Key -> Int) : TS3 := sSeq (sFldA [Z1, Z2, Z3, Z4, Z5] "name" (eVar 0) (eVar 1))
 (sSeq (sFldA [Z1, Z2, Z3, Z4, Z5] "time" (eVar 0) (eVar 2))
 (sSeq (sFldA [Z1, Z2, Z3, Z4, Z5] "anchor" (eVar 0) (eC k_START))
 (sFldA [Z1, Z2, Z3, Z4, Z5] "names" (eVar 0) (eTup (aNil)))))
noncomputable def rd_Put___init__ (Z1 Z2 Z3 Z4 Z5 : Addr) (hw : List Key -> Int) : TS3 := sSeq (sDrop (eCall (sp_Stroke___init__ Z1 Z2 Z3 Z4 Z5 hw) [] (aCons (eVar 0) (aCons (eVar 1) (aCons (eVar 2) (aNil))))))
 (sSeq (sFldA [Z1, Z2, Z3, Z4, Z5] "anchor" (eVar 0) (eVar 3))
 (sFldA [Z1, Z2, Z3, Z4, Z5] "signs" (eVar 0) (eVar 4)))
noncomputable def rd_Strike___init__ (Z1 Z2 Z3 Z4 Z5 : Addr) (hw : List Key -> Int) : TS3 := sSeq (sDrop (eCall (sp_Stroke___init__ Z1 Z2 Z3 Z4 Z5 hw) [] (aCons (eVar 0) (aCons (eVar 1) (aCons (eVar 2) (aNil))))))
 (sFldA [Z1, Z2, Z3, Z4, Z5] "names" (eVar 0) (eVar 3))
noncomputable def rd_Dress___init__ (Z1 Z2 Z3 Z4 Z5 : Addr) (hw : List Key -> Int) : TS3 := sSeq (sDrop (eCall (sp_Stroke___init__ Z1 Z2 Z3 Z4 Z5 hw) [] (aCons (eVar 0) (aCons (eVar 1) (aCons (eVar 2) (aNil))))))
 (sSeq (sFldA [Z1, Z2, Z3, Z4, Z5] "names" (eVar 0) (eVar 3))
 (sFldA [Z1, Z2, Z3, Z4, Z5] "word" (eVar 0) (eVar 4)))
noncomputable def rd_Move___init__ (Z1 Z2 Z3 Z4 Z5 : Addr) (hw : List Key -> Int) : TS3 := sSeq (sDrop (eCall (sp_Stroke___init__ Z1 Z2 Z3 Z4 Z5 hw) [] (aCons (eVar 0) (aCons (eVar 1) (aCons (eVar 2) (aNil))))))
 (sSeq (sFldA [Z1, Z2, Z3, Z4, Z5] "names" (eVar 0) (eVar 3))
 (sFldA [Z1, Z2, Z3, Z4, Z5] "anchor" (eVar 0) (eVar 4)))
noncomputable def rd_stroke_of (Z1 Z2 Z3 Z4 Z5 : Addr) (hw : List Key -> Int) : TS3 := sSeq (sSet 1 (eOp oIx (eVar 0) (eC (.int 0))))
 (sSeq (sSet 2 (eOp oIx (eVar 0) (eC (.int 1))))
 (sSeq (sSet 3 (eOp oIx (eVar 0) (eC (.int 2))))
 (sSeq (sIf (tTru (eOpV oEq (eOp oIx (eVar 3) (eC (.int 0))) (eC (.str "put")))) (sRet (eMake Z2 (sp_Put___init__ Z1 Z2 Z3 Z4 Z5 hw) [] (aCons (eVar 1) (aCons (eVar 2) (aCons (eOp oIx (eVar 3) (eC (.int 1))) (aCons (eOp oIx (eVar 3) (eC (.int 2))) (aNil))))))) (sNil))
 (sSeq (sIf (tTru (eOpV oEq (eOp oIx (eVar 3) (eC (.int 0))) (eC (.str "strike")))) (sRet (eMake Z3 (sp_Strike___init__ Z1 Z2 Z3 Z4 Z5 hw) [] (aCons (eVar 1) (aCons (eVar 2) (aCons (eOp oIx (eVar 3) (eC (.int 1))) (aNil)))))) (sNil))
 (sSeq (sIf (tTru (eOpV oEq (eOp oIx (eVar 3) (eC (.int 0))) (eC (.str "dress")))) (sRet (eMake Z4 (sp_Dress___init__ Z1 Z2 Z3 Z4 Z5 hw) [] (aCons (eVar 1) (aCons (eVar 2) (aCons (eOp oIx (eVar 3) (eC (.int 1))) (aCons (eOp oIx (eVar 3) (eC (.int 2))) (aNil))))))) (sNil))
 (sRet (eMake Z5 (sp_Move___init__ Z1 Z2 Z3 Z4 Z5 hw) [] (aCons (eVar 1) (aCons (eVar 2) (aCons (eOp oIx (eVar 3) (eC (.int 1))) (aCons (eOp oIx (eVar 3) (eC (.int 2))) (aNil))))))))))))
noncomputable def rd_chained (Z1 Z2 Z3 Z4 Z5 : Addr) (hw : List Key -> Int) : TS3 := sSeq (sOwn 1 (eLst (aNil)))
 (sSeq (sSet 2 (eDIx hw (eVar 0) (eC k_START)))
 (sSeq (sWhile (tTru (eOp oNotN (eVar 2) (eC .non))) (sSeq (sDrop (eAppend (eVar 1) (aCons (eVar 2) (aNil))))
 (sSet 2 (eDIx hw (eVar 0) (eVar 2)))))
 (sRetOwn 1)))
noncomputable def rd_Stroke_slots (Z1 Z2 Z3 Z4 Z5 : Addr) (hw : List Key -> Int) : TS3 := sRet (eLst (aNil))
noncomputable def rd_Put_slots (Z1 Z2 Z3 Z4 Z5 : Addr) (hw : List Key -> Int) : TS3 := sRet (eCall (sp_slots_made Z1 Z2 Z3 Z4 Z5 hw) [] (aCons (eFldA [Z1, Z2, Z3, Z4, Z5] "name" (eVar 0)) (aCons (eB bLen (aCons (eFldA [Z1, Z2, Z3, Z4, Z5] "signs" (eVar 0)) (aNil))) (aNil))))
noncomputable def rd_Move_slots (Z1 Z2 Z3 Z4 Z5 : Addr) (hw : List Key -> Int) : TS3 := sRet (eCall (sp_slots_made Z1 Z2 Z3 Z4 Z5 hw) [] (aCons (eFldA [Z1, Z2, Z3, Z4, Z5] "name" (eVar 0)) (aCons (eB bLen (aCons (eFldA [Z1, Z2, Z3, Z4, Z5] "names" (eVar 0)) (aNil))) (aNil))))
noncomputable def rd_slots_of (Z1 Z2 Z3 Z4 Z5 : Addr) (hw : List Key -> Int) : TS3 := sSeq (sSet 2 (eDct1T hw (eC k_START) (eC .non)))
 (sSeq (sDrop (eCall (sp_lay_behind Z1 Z2 Z3 Z4 Z5 hw) [] (aCons (eVar 2) (aCons (eC k_START) (aCons (eCall (sp_old_slots Z1 Z2 Z3 Z4 Z5 hw) [] (aCons (eVar 0) (aNil))) (aNil))))))
 (sSeq (sFor (iSeq (eComp 1 (iSeq (eCall (sp_in_order Z1 Z2 Z3 Z4 Z5 hw) [] (aCons (eVar 1) (aNil)))) (gN 0) (tTrue) (eCall (sp_stroke_of Z1 Z2 Z3 Z4 Z5 hw) [] (aCons (eVar 0) (aNil))))) (gN 3) (sIf (tTru (eDIn hw (eFldA [Z1, Z2, Z3, Z4, Z5] "anchor" (eVar 3)) (eVar 2))) (sDrop (eCall (sp_lay_behind Z1 Z2 Z3 Z4 Z5 hw) [] (aCons (eVar 2) (aCons (eFldA [Z1, Z2, Z3, Z4, Z5] "anchor" (eVar 3)) (aCons (eMethA [(Z1, sp_Stroke_slots Z1 Z2 Z3 Z4 Z5 hw), (Z2, sp_Put_slots Z1 Z2 Z3 Z4 Z5 hw), (Z3, sp_Stroke_slots Z1 Z2 Z3 Z4 Z5 hw), (Z4, sp_Stroke_slots Z1 Z2 Z3 Z4 Z5 hw), (Z5, sp_Move_slots Z1 Z2 Z3 Z4 Z5 hw)] "slots" [] (eVar 3) aNil) (aNil)))))) (sNil)))
 (sRet (eCall (sp_chained Z1 Z2 Z3 Z4 Z5 hw) [] (aCons (eVar 2) (aNil))))))
noncomputable def rd__law_key (Z1 Z2 Z3 Z4 Z5 : Addr) (hw : List Key -> Int) : TS3 := sRet (eTup (aCons (eOp oIx (eVar 0) (eC (.int 1))) (aCons (eOp oIx (eOp oIx (eVar 0) (eC (.int 0))) (eC (.int 0))) (aCons (eOp oIx (eOp oIx (eVar 0) (eC (.int 0))) (eC (.int 1))) (aNil)))))
noncomputable def rd__law_due (Z1 Z2 Z3 Z4 Z5 : Addr) (hw : List Key -> Int) : TS3 := sSeq (sSet 2 (eDctT hw))
 (sSeq (sFor (iR1 (aCons (eB bLen (aCons (eVar 0) (aNil))) (aNil))) (gN 3) (sSetI hw (eVar 2) (eTup (aCons (eC (.str "")) (aCons (eC (.int 0)) (aCons (eOp oAdd (eVar 3) (eC (.int 1))) (aNil))))) (eC (.bl true))))
 (sSeq (sFor (iSeq (eSortL (sp__law_key Z1 Z2 Z3 Z4 Z5 hw) (eVar 1))) (gN 4) (sSeq (sSet 5 (eCall (sp__law_made Z1 Z2 Z3 Z4 Z5 hw) [] (aCons (eVar 4) (aNil))))
 (sSeq (sSet 6 (eOp oIx (eOp oIx (eVar 4) (eC (.int 2))) (eC (.int 1))))
 (sSeq (sIf (tTru (eOpV oEq (eOp oIx (eOp oIx (eVar 4) (eC (.int 2))) (eC (.int 0))) (eC (.str "move")))) (sSet 6 (eOp oIx (eOp oIx (eVar 4) (eC (.int 2))) (eC (.int 2)))) (sNil))
 (sIf (tAnd3 (tTru (eOpV oNe (eVar 5) (eLst (aNil)))) (tOr3 (tTru (eOpV oEq (eVar 6) (eTup (aCons (eC (.str "")) (aCons (eC (.int 0)) (aCons (eC (.int 0)) (aNil))))))) (tTru (eDIn hw (eVar 6) (eVar 2))))) (sFor (iSeq (eVar 5)) (gN 7) (sSetI hw (eVar 2) (eVar 7) (eC (.bl true)))) (sNil))))))
 (sRet (eSortK (eVar 2)))))
noncomputable def rd_law (Z1 Z2 Z3 Z4 Z5 : Addr) (hw : List Key -> Int) : TS3 := sSeq (sSet 1 (eCall (sp__law_cell_at Z1 Z2 Z3 Z4 Z5 hw) [] (aCons (eVar 0) (aCons (eC (.int 0)) (aNil)))))
 (sSeq (sSet 2 (eSl slA (eC (.str "a\nold text of signs, b")) (oNo) (oSome (eOp oMod (eVar 1) (eC (.int 21))))))
 (sSeq (sSet 3 (eSl slA (eOp oIx (eLst (aCons (eLst (aCons (eC (.str "ann")) (aCons (eC (.str "bob")) (aCons (eC (.str "cyd")) (aNil))))) (aCons (eLst (aCons (eC (.str "a")) (aCons (eC (.str "ab")) (aCons (eC (.str "abc")) (aNil))))) (aCons (eLst (aCons (eC (.str "zza")) (aCons (eC (.str "zzb")) (aCons (eC (.str "zzc")) (aNil))))) (aNil))))) (eOp oMod (eOp oDiv (eVar 1) (eC (.int 21))) (eC (.int 3)))) (oNo) (oSome (eOp oAdd (eC (.int 1)) (eOp oMod (eOp oDiv (eVar 1) (eC (.int 63))) (eC (.int 3)))))))
 (sSeq (sSet 4 (eCall (sp__law_strokes Z1 Z2 Z3 Z4 Z5 hw) [] (aCons (eSl slA (eVar 0) (oSome (eC (.int 1))) (oSome (eC (.int 31)))) (aCons (eVar 3) (aCons (eVar 2) (aNil))))))
 (sSeq (sSet 5 (eB bList (aCons (eVar 4) (aNil))))
 (sSeq (sIf (tTru (eOpV oEq (eOp oMod (eOp oDiv (eVar 1) (eC (.int 189))) (eC (.int 3))) (eC (.int 1)))) (sSet 5 (eLRev (eVar 4))) (sNil))
 (sSeq (sIf (tTru (eOpV oEq (eOp oMod (eOp oDiv (eVar 1) (eC (.int 189))) (eC (.int 3))) (eC (.int 2)))) (sSet 5 (eOp oAdd (eSl3 (eVar 4) (oNo) (oNo) (oSome (eC (.int 2)))) (eVar 4))) (sNil))
 (sSeq (sSet 6 (eB bList (aCons (eVar 5) (aNil))))
 (sSeq (sOwn 7 (eCall (sp_slots_of Z1 Z2 Z3 Z4 Z5 hw) [] (aCons (eVar 2) (aCons (eVar 5) (aNil)))))
 (sSeq (sIf (tOr3 (tNot3 (tAny (eB bIsT (aCons (eVar 7) (aCons (eC (.ty "list")) (aNil)))))) (tOr3 (tTru (eOpV oNe (eVar 5) (eVar 6))) (tTru (eOpV oNe (eSortT (eVar 7)) (eCall (sp__law_due Z1 Z2 Z3 Z4 Z5 hw) [] (aCons (eVar 2) (aCons (eVar 4) (aNil)))))))) (sRet (eC (.bl false))) (sNil))
 (sSeq (sSet 8 (eB bList (aCons (eVar 7) (aNil))))
 (sSeq (sDrop (eClear (eVar 7)))
 (sSeq (sSet 9 (eComp 1 (iSeq (eVar 4)) (gN 0) (tOr3 (tTru (eOpV oEq (eOp oIx (eOp oIx (eVar 0) (eC (.int 2))) (eC (.int 0))) (eC (.str "put")))) (tTru (eOpV oEq (eOp oIx (eOp oIx (eVar 0) (eC (.int 2))) (eC (.int 0))) (eC (.str "move"))))) (eVar 0)))
 (sRet (eAnd (eOpV oEq (eCall (sp_slots_of Z1 Z2 Z3 Z4 Z5 hw) [] (aCons (eVar 2) (aCons (eVar 4) (aNil)))) (eVar 8)) (eAnd (eOpV oEq (eCall (sp_slots_of Z1 Z2 Z3 Z4 Z5 hw) [] (aCons (eVar 2) (aCons (eVar 9) (aNil)))) (eVar 8)) (eOpV oEq (eCall (sp_slots_of Z1 Z2 Z3 Z4 Z5 hw) [] (aCons (eVar 2) (aCons (eOp oAdd (eVar 4) (eVar 4)) (aNil)))) (eVar 8)))))))))))))))))
theorem seven {ns : List Int} (h : ns.length = 7) : ∃ a b c d e f g : Int, ns = [a, b, c, d, e, f, g] := by
 match ns, h with
 | [a, b, c, d, e, f, g], _ => exact ⟨a, b, c, d, e, f, g, rfl⟩
theorem at7_0 {a b c d e f g : D} : atI [a, b, c, d, e, f, g] 0 = some a := rfl
theorem at7_1 {a b c d e f g : D} : atI [a, b, c, d, e, f, g] 1 = some b := rfl
theorem at7_2 {a b c d e f g : D} : atI [a, b, c, d, e, f, g] 2 = some c := rfl
theorem at7_3 {a b c d e f g : D} : atI [a, b, c, d, e, f, g] 3 = some d := rfl
theorem at7_4 {a b c d e f g : D} : atI [a, b, c, d, e, f, g] 4 = some e := rfl
theorem at7_5 {a b c d e f g : D} : atI [a, b, c, d, e, f, g] 5 = some f := rfl
theorem at7_6 {a b c d e f g : D} : atI [a, b, c, d, e, f, g] 6 = some g := rfl
local macro_rules | `(tactic| walk_at "st") => do let ls <- ("sSeq sNil sDrop sRet sRetN sBreak sCont sIf sNever sSet sOwn sRetOwn sAsg sFld3 sFldN eVar eC eOp eOpV eChain eAnd eOr eNotV eIf eNeg tTru tAnd3 tOr3 tNot3 tAny tTrue truD eTup eLst aNil aCons oAdd oI oI0 oSub oMod oDiv oPow oMul oLt oLe oGt oGe oEq oNe oIx eSl oNo oSome slA eB bLen bList bTuple bSum bMin bMax bIsT kindOf3 eCall eMeth eMake eFld eJoin eAppend eComp sFor iSeq iR1 iR2 iRev sFrz itemsOf asL asQ gN gTup3 gCons3 gNil3 val start3 List.map_cons List.map_nil List.replicate List.length_cons List.length_nil List.cons_append List.nil_append List.append_nil List.getElem?_cons_zero List.getElem?_cons_succ List.getElem?_nil List.set_cons_zero List.set_cons_succ List.set_nil Nat.reduceAdd Nat.reduceSub Nat.reduceLeDiff Nat.zero_add Option.some.injEq Option.map_some decide_eq_true_eq true_and and_true and_self if_true if_false Bool.false_eq_true reduceCtorEq List.cons.injEq GO.ins.injEq GO.lst.injEq D.lst.injEq D.fl.injEq exists_eq_left' exists_eq_left exists_eq' gset_same gset_gset pl eqb_self at1_0 at2_0 at2_1 at3_0 at3_1 at3_2 at4_0 at4_1 at4_2 at4_3 at5_0 at5_1 at5_2 at5_3 at5_4 eDctT eDctK eDGet2 sSetI oSetI eLRev eSl3 eClear oTge oNotIn isDct dLook keyT ksOf kOf k_START kT_int kT_bool kT_str kT_tuple kT_list isa_int_int isa_int_bool isa_int_str isa_int_tuple isa_int_list isa_bool_int isa_bool_bool isa_bool_str isa_bool_tuple isa_bool_list isa_str_int isa_str_bool isa_str_str isa_str_tuple isa_str_list isa_tuple_int isa_tuple_bool isa_tuple_str isa_tuple_tuple isa_tuple_list isa_list_int isa_list_bool isa_list_str isa_list_tuple isa_list_list Bool.not_true Bool.not_false eFldA sFldA eMethA eDct1T eIndex eSortL eSortV oIsN oNotN isNon sWhile eDIx eDIn eDNotIn bIsI bIntB if_true if_false eSortT eSortK eSl3 eLRev eClear bIsT kindOf3 fo_Stroke_name fo_Stroke_time fo_Stroke_anchor fo_Stroke_names pfl_Stroke_0 pfd_Stroke_0 pfl_Stroke_1 pfd_Stroke_1 pfl_Stroke_2 pfd_Stroke_2 pfl_Stroke_3 pfd_Stroke_3 nm_Stroke_slots fo_Put_name fo_Put_time fo_Put_anchor fo_Put_names fo_Put_signs pfl_Put_0 pfd_Put_0 pfl_Put_1 pfd_Put_1 nm_Put_slots fo_Strike_name fo_Strike_time fo_Strike_anchor fo_Strike_names pfl_Strike_0 pfd_Strike_0 nm_Strike_slots fo_Dress_name fo_Dress_time fo_Dress_anchor fo_Dress_names fo_Dress_word pfl_Dress_0 pfd_Dress_0 pfl_Dress_1 pfd_Dress_1 nm_Dress_slots fo_Move_name fo_Move_time fo_Move_anchor fo_Move_names pfl_Move_0 pfd_Move_0 pfl_Move_1 pfd_Move_1 nm_Move_slots at7_0 at7_1 at7_2 at7_3 at7_4 at7_5 at7_6 sp_place_in_order sp_in_order sp_slots_made sp_Stroke___init__ sp_Put___init__ sp_Strike___init__ sp_Dress___init__ sp_Move___init__ sp_stroke_of sp_Stroke_slots sp_Put_slots sp_Move_slots sp_old_slots sp_lay_behind sp_chained sp_slots_of sp__law_cell_at sp__law_stream sp__law_strokes sp__law_made sp__law_key sp__law_due".splitOn " ").toArray.mapM (fun s => `(Lean.Parser.Tactic.simpLemma| $(Lean.mkIdent s.toName):term)); `(tactic| simp only [$ls,*, *])
local macro_rules | `(tactic| walk_at "s1") => do let ls <- ("sNil sDrop sRet sRetN sBreak sCont sIf sNever sSet sOwn sRetOwn sAsg sFld3 sFldN eVar eC eOp eOpV eChain eAnd eOr eNotV eIf eNeg tTru tAnd3 tOr3 tNot3 tAny tTrue truD eTup eLst aNil aCons oAdd oI oI0 oSub oMod oDiv oPow oMul oLt oLe oGt oGe oEq oNe oIx eSl oNo oSome slA eB bLen bList bTuple bSum bMin bMax bIsT kindOf3 eCall eMeth eMake eFld eJoin eAppend eComp sFor iSeq iR1 iR2 iRev sFrz itemsOf asL asQ gN gTup3 gCons3 gNil3 val start3 List.map_cons List.map_nil List.replicate List.length_cons List.length_nil List.cons_append List.nil_append List.append_nil List.getElem?_cons_zero List.getElem?_cons_succ List.getElem?_nil List.set_cons_zero List.set_cons_succ List.set_nil Nat.reduceAdd Nat.reduceSub Nat.reduceLeDiff Nat.zero_add Option.some.injEq Option.map_some decide_eq_true_eq true_and and_true and_self if_true if_false Bool.false_eq_true reduceCtorEq List.cons.injEq GO.ins.injEq GO.lst.injEq D.lst.injEq D.fl.injEq exists_eq_left' exists_eq_left exists_eq' gset_same gset_gset pl eqb_self at1_0 at2_0 at2_1 at3_0 at3_1 at3_2 at4_0 at4_1 at4_2 at4_3 at5_0 at5_1 at5_2 at5_3 at5_4 eDctT eDctK eDGet2 sSetI oSetI eLRev eSl3 eClear oTge oNotIn isDct dLook keyT ksOf kOf k_START kT_int kT_bool kT_str kT_tuple kT_list isa_int_int isa_int_bool isa_int_str isa_int_tuple isa_int_list isa_bool_int isa_bool_bool isa_bool_str isa_bool_tuple isa_bool_list isa_str_int isa_str_bool isa_str_str isa_str_tuple isa_str_list isa_tuple_int isa_tuple_bool isa_tuple_str isa_tuple_tuple isa_tuple_list isa_list_int isa_list_bool isa_list_str isa_list_tuple isa_list_list Bool.not_true Bool.not_false eFldA sFldA eMethA eDct1T eIndex eSortL eSortV oIsN oNotN isNon sWhile eDIx eDIn eDNotIn bIsI bIntB if_true if_false eSortT eSortK eSl3 eLRev eClear bIsT kindOf3 fo_Stroke_name fo_Stroke_time fo_Stroke_anchor fo_Stroke_names pfl_Stroke_0 pfd_Stroke_0 pfl_Stroke_1 pfd_Stroke_1 pfl_Stroke_2 pfd_Stroke_2 pfl_Stroke_3 pfd_Stroke_3 nm_Stroke_slots fo_Put_name fo_Put_time fo_Put_anchor fo_Put_names fo_Put_signs pfl_Put_0 pfd_Put_0 pfl_Put_1 pfd_Put_1 nm_Put_slots fo_Strike_name fo_Strike_time fo_Strike_anchor fo_Strike_names pfl_Strike_0 pfd_Strike_0 nm_Strike_slots fo_Dress_name fo_Dress_time fo_Dress_anchor fo_Dress_names fo_Dress_word pfl_Dress_0 pfd_Dress_0 pfl_Dress_1 pfd_Dress_1 nm_Dress_slots fo_Move_name fo_Move_time fo_Move_anchor fo_Move_names pfl_Move_0 pfd_Move_0 pfl_Move_1 pfd_Move_1 nm_Move_slots at7_0 at7_1 at7_2 at7_3 at7_4 at7_5 at7_6 sp_place_in_order sp_in_order sp_slots_made sp_Stroke___init__ sp_Put___init__ sp_Strike___init__ sp_Dress___init__ sp_Move___init__ sp_stroke_of sp_Stroke_slots sp_Put_slots sp_Move_slots sp_old_slots sp_lay_behind sp_chained sp_slots_of sp__law_cell_at sp__law_stream sp__law_strokes sp__law_made sp__law_key sp__law_due".splitOn " ").toArray.mapM (fun s => `(Lean.Parser.Tactic.simpLemma| $(Lean.mkIdent s.toName):term)); `(tactic| simp only [$ls,*, *])
theorem ite2 {b : Bool} {p q : Prop} (h1 : b = true -> p) (h2 : b = false -> q) : if b = true then p else q := by
 cases b
 ·rw [if_neg (by decide)]; exact h2 rfl
 ·rw [if_pos rfl]; exact h1 rfl
theorem iteF {p q : Prop} (h : q) : if (false : Bool) = true then p else q := by rw [if_neg (by decide)]; exact h
theorem iteT {p q : Prop} (h : p) : if (true : Bool) = true then p else q := by rw [if_pos rfl]; exact h
theorem emod_bounds {a b : Int} (h : 0 < b) : 0 <= a % b /\ a % b < b := ⟨Int.emod_nonneg _ (by walk_at "o"), Int.emod_lt_of_pos _ h⟩
theorem at_map {α : Type} [Inhabited α] {f : α -> D} {xs : List α} {i : Int} (h0 : 0 <= i) (h : i < xs.length) : atI (xs.map f) i = some (f (xs.getD i.toNat default)) := by
 rw [atI_some h0 (by rw [length_map]; exact h)]
 have hi : i.toNat < xs.length := by walk_at "o"
 simp [hi]
theorem gdel_gset {G : Gp} {p : Addr} {o : GO} (h : G p = none) : gdel (gset G p o) p = G := by
 funext a
 by_cases e : a = p
 ·subst e; rw [gdel_same, h]
 ·rw [gdel_ne e, gset_ne e]
local macro_rules | `(tactic| walk_at "conds") => `(tactic| (repeat ((with_reducible refine And.intro ?cc ?_); (case cc => first | decide | walk_at "oo" | rfl))))
theorem rok_Stroke___init__ (Z1 Z2 Z3 Z4 Z5 : Addr) (hw : HW) : ∀ ds G Q, sp_Stroke___init__ Z1 Z2 Z3 Z4 Z5 hw ds G Q -> rd_Stroke___init__ Z1 Z2 Z3 Z4 Z5 hw { nx := fun _ G' => Q .non G', rt := Q } (start3 ["self", "name", "time"] ds) G := by
 intro ds G Q h;unfold sp_Stroke___init__ at h;split at h
 ·rename_i a d t;obtain ⟨C, hC, hG, p, n, rfl, h⟩ := h;have hs := sizeLine_ge;unfold rd_Stroke___init__;walk_at "st";walk_at "conds";exact h
 ·exact h.elim
theorem rok_Put___init__ (Z1 Z2 Z3 Z4 Z5 : Addr) (hw : HW) : ∀ ds G Q, sp_Put___init__ Z1 Z2 Z3 Z4 Z5 hw ds G Q -> rd_Put___init__ Z1 Z2 Z3 Z4 Z5 hw { nx := fun _ G' => Q .non G', rt := Q } (start3 ["self", "name", "time", "anchor", "signs"] ds) G := by
 intro ds G Q h;unfold sp_Put___init__ at h;split at h
 ·rename_i a d t b x;obtain ⟨hG, p, n, s, rfl, rfl, h⟩ := h;have hs := sizeLine_ge;have hc : Z2 ∈ [Z1, Z2, Z3, Z4, Z5] := by simp
  unfold rd_Put___init__;unfold Sl.d;walk_at "st";exact ⟨Z2, hc, rfl, p, n, rfl, ⟨hc, by decide⟩, ⟨hc, by decide⟩, h⟩
 ·exact h.elim
theorem rok_Strike___init__ (Z1 Z2 Z3 Z4 Z5 : Addr) (hw : HW) : ∀ ds G Q, sp_Strike___init__ Z1 Z2 Z3 Z4 Z5 hw ds G Q -> rd_Strike___init__ Z1 Z2 Z3 Z4 Z5 hw { nx := fun _ G' => Q .non G', rt := Q } (start3 ["self", "name", "time", "names"] ds) G := by
 intro ds G Q h;unfold sp_Strike___init__ at h;split at h
 ·obtain ⟨hG, p, n, rfl, h⟩ := h;have hs := sizeLine_ge;have hc : Z3 ∈ [Z1, Z2, Z3, Z4, Z5] := by simp
  unfold rd_Strike___init__;walk_at "st";exact ⟨Z3, hc, rfl, p, n, rfl, ⟨hc, by decide⟩, h⟩
 ·exact h.elim
theorem rok_Dress___init__ (Z1 Z2 Z3 Z4 Z5 : Addr) (hw : HW) : ∀ ds G Q, sp_Dress___init__ Z1 Z2 Z3 Z4 Z5 hw ds G Q -> rd_Dress___init__ Z1 Z2 Z3 Z4 Z5 hw { nx := fun _ G' => Q .non G', rt := Q } (start3 ["self", "name", "time", "names", "word"] ds) G := by
 intro ds G Q h;unfold sp_Dress___init__ at h;split at h
 ·obtain ⟨hG, p, n, rfl, h⟩ := h;have hs := sizeLine_ge;have hc : Z4 ∈ [Z1, Z2, Z3, Z4, Z5] := by simp
  unfold rd_Dress___init__;walk_at "st";exact ⟨Z4, hc, rfl, p, n, rfl, ⟨hc, by decide⟩, ⟨hc, by decide⟩, h⟩
 ·exact h.elim
theorem rok_Move___init__ (Z1 Z2 Z3 Z4 Z5 : Addr) (hw : HW) : ∀ ds G Q, sp_Move___init__ Z1 Z2 Z3 Z4 Z5 hw ds G Q -> rd_Move___init__ Z1 Z2 Z3 Z4 Z5 hw { nx := fun _ G' => Q .non G', rt := Q } (start3 ["self", "name", "time", "names", "anchor"] ds) G := by
 intro ds G Q h;unfold sp_Move___init__ at h;split at h
 ·obtain ⟨hG, p, n, s, rfl, rfl, h⟩ := h;have hs := sizeLine_ge;have hc : Z5 ∈ [Z1, Z2, Z3, Z4, Z5] := by simp
  unfold rd_Move___init__;unfold Sl.d;walk_at "st";exact ⟨Z5, hc, rfl, p, n, rfl, ⟨hc, by decide⟩, ⟨hc, by decide⟩, h⟩
 ·exact h.elim
theorem rok_slots_made (Z1 Z2 Z3 Z4 Z5 : Addr) (hw : HW) : ∀ ds G Q, sp_slots_made Z1 Z2 Z3 Z4 Z5 hw ds G Q -> rd_slots_made Z1 Z2 Z3 Z4 Z5 hw { nx := fun _ G' => Q .non G', rt := Q } (start3 ["name", "how_many"] ds) G := by
 intro ds G Q h;unfold sp_slots_made at h;split at h
 ·rename_i p n m;obtain ⟨⟨h1, h2⟩, h⟩ := h;have hs := sizeLine_ge;unfold rd_slots_made;walk_at "s1";refine ⟨⟨by walk_at "o", by walk_at "o", by walk_at "o", by walk_at "o"⟩, comp_map (fun d => match d with | .int k => .tup [.str p, .int n, .int k] | d => d) (by rw [rangeD_length]; walk_at "oo") (fun d hd P hP => ?_) ?_⟩
  ·obtain ⟨k, hk, rfl⟩ := mem_map.mp hd;walk_at "st";exact ⟨rfl, by walk_at "o", by simp, by walk_at "o", hP _ rfl⟩
  ·have e : (rangeD 1 (m + 1 - 1).toNat).map (fun d => match d with | D.int k => D.tup [.str p, .int n, .int k] | d => d) = (numbered p n m.toNat).map Sl.d := by
    unfold rangeD numbered;rw [map_map, map_map, show m + 1 - 1 = m by walk_at "o"]
    refine map_congr_left fun k _ => ?_;simp only [Function.comp, Sl.d];rw [Int.add_comm]
   rw [e];exact h
 ·exact h.elim
theorem rok_old_slots (Z1 Z2 Z3 Z4 Z5 : Addr) (hw : HW) : ∀ ds G Q, sp_old_slots Z1 Z2 Z3 Z4 Z5 hw ds G Q -> rd_old_slots Z1 Z2 Z3 Z4 Z5 hw { nx := fun _ G' => Q .non G', rt := Q } (start3 ["old"] ds) G := by
 intro ds G Q h;unfold sp_old_slots at h;split at h
 ·rename_i x;obtain ⟨h1, h⟩ := h;have hs := sizeLine_ge;unfold rd_old_slots;have ec : L3.cutD [D.str (Str.ofString ""), D.int 0, D.int 0] none (some 2) = [D.str (Str.ofString ""), D.int 0] := by rw [cutD_to (by decide)]; rfl
  walk_at "st";refine ⟨by decide, by walk_at "o", ⟨by walk_at "o", by walk_at "o"⟩, ?_⟩
  rw [Int.toNat_natCast];exact h
 ·exact h.elim
theorem rok_Stroke_slots (Z1 Z2 Z3 Z4 Z5 : Addr) (hw : HW) : ∀ ds G Q, sp_Stroke_slots Z1 Z2 Z3 Z4 Z5 hw ds G Q -> rd_Stroke_slots Z1 Z2 Z3 Z4 Z5 hw { nx := fun _ G' => Q .non G', rt := Q } (start3 ["self"] ds) G := by
 intro ds G Q h;unfold sp_Stroke_slots at h;split at h
 ·have hs := sizeLine_ge;unfold rd_Stroke_slots;walk_at "st"
  first | exact ⟨by walk_at "o", h⟩ | walk_at "oo"
 ·exact h.elim
theorem rok_Put_slots (Z1 Z2 Z3 Z4 Z5 : Addr) (hw : HW) : ∀ ds G Q, sp_Put_slots Z1 Z2 Z3 Z4 Z5 hw ds G Q -> rd_Put_slots Z1 Z2 Z3 Z4 Z5 hw { nx := fun _ G' => Q .non G', rt := Q } (start3 ["self"] ds) G := by
 intro ds G Q h;unfold sp_Put_slots at h;split at h
 ·rename_i a;obtain ⟨s, b, x, ⟨e, hG, hl⟩, h⟩ := h;have hs := sizeLine_ge;have hc : Z2 ∈ [Z1, Z2, Z3, Z4, Z5] := by simp
  unfold objOf at hG;rw [e] at hG;unfold rd_Put_slots;walk_at "st";refine ⟨by walk_at "o", ⟨by walk_at "o", by walk_at "o"⟩, ?_⟩
  rw [Int.toNat_natCast];unfold made at h;rw [e] at h;exact h
 ·exact h.elim
theorem rok_Move_slots (Z1 Z2 Z3 Z4 Z5 : Addr) (hw : HW) : ∀ ds G Q, sp_Move_slots Z1 Z2 Z3 Z4 Z5 hw ds G Q -> rd_Move_slots Z1 Z2 Z3 Z4 Z5 hw { nx := fun _ G' => Q .non G', rt := Q } (start3 ["self"] ds) G := by
 intro ds G Q h;unfold sp_Move_slots at h;split at h
 ·rename_i a;obtain ⟨s, b, ns, ⟨e, hG, hl⟩, h⟩ := h;have hs := sizeLine_ge;have hc : Z5 ∈ [Z1, Z2, Z3, Z4, Z5] := by simp
  unfold objOf at hG;rw [e] at hG;unfold rd_Move_slots;walk_at "st";rw [length_map];refine ⟨⟨by walk_at "o", by walk_at "o"⟩, ?_⟩
  rw [Int.toNat_natCast];unfold made at h;rw [e] at h;exact h
 ·exact h.elim
theorem str_ne {a b : String} (h : Str.ofString a ≠ Str.ofString b) : eqb (.str (Str.ofString a)) (.str (Str.ofString b)) = false := eqb_no fun z => h (by injection z)
theorem rok_stroke_of (Z1 Z2 Z3 Z4 Z5 : Addr) (hw : HW) : ∀ ds G Q, sp_stroke_of Z1 Z2 Z3 Z4 Z5 hw ds G Q -> rd_stroke_of Z1 Z2 Z3 Z4 Z5 hw { nx := fun _ G' => Q .non G', rt := Q } (start3 ["row", "name", "time", "act"] ds) G := by
 intro ds G Q h;unfold sp_stroke_of at h;split at h
 ·obtain ⟨⟨pen, num, time, act⟩, rfl, h⟩ := h;have hs := sizeLine_ge;unfold objOf at h;unfold rd_stroke_of Sk.d;cases act with
  | put a x =>
   unfold Act.d;dsimp only at h;rw [sSeq_def];walk_at "s1";rw [sSeq_def];walk_at "s1";rw [sSeq_def];walk_at "s1";rw [sSeq_def];unfold Sl.d at h;unfold Sl.d;walk_at "s1";exact fun p hp => ⟨pen, num, a, rfl, rfl, h p hp⟩
  | strike ns =>
   unfold Act.d;dsimp only at h;rw [sSeq_def];walk_at "s1";rw [sSeq_def];walk_at "s1";rw [sSeq_def];walk_at "s1";have e0 := str_ne (a := "strike") (b := "put") (by decide +kernel)
   rw [sSeq_def];refine sIf_by false (fun K hK => ?_) (iteF ?_)
   ·walk_at "st"
   ·simp only [sNil];rw [sSeq_def];walk_at "s1";exact fun p hp => ⟨pen, num, rfl, h p hp⟩
  | dress ns w =>
   unfold Act.d;dsimp only at h;rw [sSeq_def];walk_at "s1";rw [sSeq_def];walk_at "s1";rw [sSeq_def];walk_at "s1";have e0 := str_ne (a := "dress") (b := "put") (by decide +kernel)
   have e1 := str_ne (a := "dress") (b := "strike") (by decide +kernel)
   rw [sSeq_def];refine sIf_by false (fun K hK => ?_) (iteF ?_)
   ·walk_at "st"
   ·simp only [sNil];rw [sSeq_def];refine sIf_by false (fun K hK => ?_) (iteF ?_)
    ·walk_at "st"
    ·simp only [sNil];rw [sSeq_def];walk_at "s1";exact fun p hp => ⟨pen, num, rfl, h p hp⟩
  | move ns a =>
   unfold Act.d;dsimp only at h;rw [sSeq_def];walk_at "s1";rw [sSeq_def];walk_at "s1";rw [sSeq_def];walk_at "s1";have e0 := str_ne (a := "move") (b := "put") (by decide +kernel)
   have e1 := str_ne (a := "move") (b := "strike") (by decide +kernel)
   have e2 := str_ne (a := "move") (b := "dress") (by decide +kernel)
   rw [sSeq_def];refine sIf_by false (fun K hK => ?_) (iteF ?_)
   ·walk_at "st"
   ·simp only [sNil];rw [sSeq_def];refine sIf_by false (fun K hK => ?_) (iteF ?_)
    ·walk_at "st"
    ·simp only [sNil];rw [sSeq_def];refine sIf_by false (fun K hK => ?_) (iteF ?_)
     ·walk_at "st"
     ·simp only [sNil];unfold Sl.d at h;unfold Sl.d;walk_at "s1";exact fun p hp => ⟨pen, num, a, rfl, rfl, h p hp⟩
 ·exact h.elim
theorem rok_place_in_order (Z1 Z2 Z3 Z4 Z5 : Addr) (hw : HW) : ∀ ds G Q, sp_place_in_order Z1 Z2 Z3 Z4 Z5 hw ds G Q -> rd_place_in_order Z1 Z2 Z3 Z4 Z5 hw { nx := fun _ G' => Q .non G', rt := Q } (start3 ["row"] ds) G := by
 intro ds G Q h;unfold sp_place_in_order at h;split at h
 ·obtain ⟨r, rfl, h⟩ := h;have hs := sizeLine_ge;unfold rd_place_in_order Rw.d;walk_at "st"
  first | exact ⟨by walk_at "o", h⟩ | walk_at "oo"
 ·exact h.elim
noncomputable def pvY (hw : List Key -> Int) (G : Gp) (p : Addr) (ss W : List Sl) (b : Sl) (a : D) (i : Nat) (σ : St3) (G' : Gp) : Prop := ∃ (x4 : Option D) (Wi : List Sl) (bi : Sl) (kvs : List (List Key × D)), σ = [some (.ref p), some a, some (.lst (ss.map Sl.d)), some bi.d, x4] /\ G' = gset G p (.dT hw kvs) /\ Fol kvs Wi /\ bi ∈ Wi /\ (∀ x ∈ ss.drop i, x ∉ Wi) /\ insAll Wi bi (ss.drop i) = insAll W b ss /\ Wi.length = W.length + i
theorem rok_lay_behind (Z1 Z2 Z3 Z4 Z5 : Addr) (hw : HW) : ∀ ds G Q, sp_lay_behind Z1 Z2 Z3 Z4 Z5 hw ds G Q -> rd_lay_behind Z1 Z2 Z3 Z4 Z5 hw { nx := fun _ G' => Q .non G', rt := Q } (start3 ["following", "anchor", "slots", "behind", "slot"] ds) G := by
 intro ds G Q h;unfold sp_lay_behind at h;split at h
 ·rename_i p a xs;obtain ⟨b, ss, W, kvs, ⟨rfl, rfl, hG, hF, hb, nd, hf, hl⟩, h⟩ := h;have hs := sizeLine_ge;unfold rd_lay_behind;rw [sSeq_def];have eb : (match b.d with | D.fl ds => D.lst ds | d => d) = b.d := rfl
  simp only [sSet, eVar, start3, val, map_cons, map_nil, cons_append, nil_append, List.replicate, getElem?_cons_zero, getElem?_cons_succ, length_cons, length_nil, set_cons_zero, set_cons_succ, Nat.reduceAdd, Nat.reduceSub, eb];refine ⟨pvY hw G p ss W b b.d, ⟨_, W, b, kvs, rfl, ?_, hF, hb, hf, rfl, rfl⟩, ?_, ?_⟩
  ·funext z
   by_cases e : z = p
   ·subst e; rw [gset_same]; exact hG
   ·rw [gset_ne e]
  ·rintro i d σ G' hd ⟨x4, Wi, bi, kvs, rfl, rfl, hF, hb, hf, hI, hlen⟩
   rw [getElem?_map] at hd;cases hx : ss[i]? with
   | none => rw [hx] at hd; cases hd
   | some x =>
    rw [hx] at hd;cases hd;obtain ⟨hi, ex⟩ := List.getElem?_eq_some_iff.mp hx;have dr : ss.drop i = x :: ss.drop (i + 1) := by rw [<- ex]; exact drop_eq_getElem_cons hi
    rw [dr] at hf hI;have hxW := hf x mem_cons_self;have fs := fol_step hF hb hxW;have lk := hF.2.2.2 bi hb;have lx := hF.2.2.1 x hxW;have nx1 := hF.2.1;have nd' : (x :: ss.drop (i + 1)).Nodup := by rw [<- dr]; exact nd.sublist (List.drop_sublist _ _)
    rw [nodup_cons] at nd';simp only [gN, set_cons_succ, set_cons_zero];have kx := keyT_sl x;have kb := keyT_sl bi;have vx : val x.d = x.d := rfl;have vb : val bi.d = bi.d := rfl;rw [sSeq_def];show ∃ d, dLook hw (gset G p (.dT hw kvs)) (.ref p) bi.d (some d) /\ oSetI hw (.ref p) x.d (val d) (gset G p (.dT hw kvs)) _
    refine ⟨nx Wi bi, ?_, ?_⟩
    ·show (match gset G p (.dT hw kvs) p with | some (.dT hw' kvs) => hw' = hw /\ ∃ ks, keyT bi.d = some ks /\ some (nx Wi bi) = atD kvs ks | some (.dK kvs) => _ | _ => False)
     rw [gset_same];exact ⟨rfl, bi.key, kb, lk.symm⟩
    ·rw [nx_val];show (match gset G p (.dT hw kvs) p with | some (.dT hw' kvs) => hw' = hw /\ ∃ ks, keyT x.d = some ks /\ kvs.length < sizeLine /\ _ | some (.dK kvs) => _ | some (.lst ds) => _ | _ => False)
     rw [gset_same];refine ⟨rfl, x.key, kx, by walk_at "o", ?_⟩
     rw [gset_gset];dsimp only;rw [sSeq_def];show (match gset G p (.dT hw (putD kvs x.key (nx Wi bi))) p with | some (.dT hw' kvs) => hw' = hw /\ ∃ ks, keyT bi.d = some ks /\ kvs.length < sizeLine /\ _ | some (.dK kvs) => _ | some (.lst ds) => _ | _ => False)
     rw [gset_same];refine ⟨rfl, bi.key, kb, by have := putD_length kvs x.key (nx Wi bi); walk_at "oo", ?_⟩
     rw [gset_gset];refine ⟨_, ins1 Wi bi x, x, _, rfl, rfl, fs, (ins1_mem hb x).mpr (.inr rfl), fun y hy hW => ?_, ?_, by rw [ins1_length hb]; walk_at "oo"⟩
     ·rcases (ins1_mem hb y).mp hW with z | z
      ·exact hf y (mem_cons_of_mem _ hy) z
      ·exact nd'.1 (z ▸ hy)
     ·exact hI
  ·rintro σ G' ⟨x4, Wi, bi, kvs, rfl, rfl, hF, hb, hf, hI, hlen⟩
   rw [length_map, List.drop_length] at hI;have : Wi = insAll W b ss := hI;rw [this] at hF;exact h _ hF
 ·exact h.elim
noncomputable def pvC (G : Gp) (p q : Addr) (R : List Sl) (m : Nat) (σ : St3) (G' : Gp) : Prop := ∃ i, i <= R.length /\ m = R.length - i /\ σ = [some (.ref p), some (.ref q), some (nxt (R.drop i))] /\ G' = gset G q (.lst ((R.take i).map Sl.d))
theorem nx_at {W : List Sl} (hW : W.Nodup) : ∀ {pre post : List Sl} {c : Sl}, W = pre ++ c :: post -> nx W c = nxt post := by
 induction W with
 | nil => intro pre post c h; simp at h
 | cons a t ih =>
  intro pre post c h;rw [nodup_cons] at hW;cases pre with
  | nil =>
   simp only [nil_append, List.cons.injEq] at h;obtain ⟨rfl, rfl⟩ := h;simp [nx]
  | cons a' pre =>
   simp only [cons_append, List.cons.injEq] at h;obtain ⟨rfl, h⟩ := h;have hc : c ∈ t := by rw [h]; simp
   simp only [nx];rw [if_neg (fun (z : a = c) => hW.1 (by rw [z]; exact hc))]
   exact ih hW.2 h
theorem rok_chained (Z1 Z2 Z3 Z4 Z5 : Addr) (hw : HW) : ∀ ds G Q, sp_chained Z1 Z2 Z3 Z4 Z5 hw ds G Q -> rd_chained Z1 Z2 Z3 Z4 Z5 hw { nx := fun _ G' => Q .non G', rt := Q } (start3 ["following", "row", "slot"] ds) G := by
 intro ds G Q h;unfold sp_chained at h;split at h
 ·rename_i p;obtain ⟨R, kvs, ⟨hG, hF, hl⟩, h⟩ := h;have hs := sizeLine_ge;unfold rd_chained;rw [sSeq_def];walk_at "s1";refine ⟨by walk_at "o", fun q hq => ?_⟩
  have hpq : p ≠ q := fun z => by subst z; rw [hG] at hq; cases hq
  have gp : ∀ o, gset G q o p = some (.dT hw kvs) := fun o => by rw [gset_ne hpq]; exact hG
  have look : ∀ c ∈ startS :: R, ∀ o, dLook hw (gset G q o) (.ref p) c.d (some (nx (startS :: R) c)) := fun c hc o => by
   show (match gset G q o p with | some (.dT hw' kvs) => hw' = hw /\ ∃ ks, keyT c.d = some ks /\ some (nx (startS :: R) c) = atD kvs ks | some (.dK kvs) => _ | _ => False)
   rw [gp];exact ⟨rfl, c.key, keyT_sl c, (hF.2.2.2 c hc).symm⟩
  rw [sSeq_def];show ∃ d, dLook hw (gset G q (.lst [])) (.ref p) startS.d (some d) /\ _
  refine ⟨_, look startS (by simp) _, ?_⟩
  have e0 : nx (startS :: R) startS = nxt R := by simp [nx]
  dsimp only;rw [sSeq_def, e0, nxt_val];simp only [set_cons_succ, set_cons_zero];refine ⟨pvC G p q R, ⟨R.length, 0, zero_le _, rfl, rfl, rfl⟩, ?_⟩;have wc : ∀ (a b : Option D) (d : D) (K : Bool -> Gp -> Prop) (G : Gp), tTru (eOp oNotN (eVar 2) (eC .non)) [a, b, some d] G K ↔ K (!isNon d) G := fun a b d K G => Iff.rfl
  rintro m σ G' ⟨i, hi, rfl, rfl, rfl⟩
  by_cases hlt : i < R.length
  ·have dr : R.drop i = R[i] :: R.drop (i + 1) := drop_eq_getElem_cons hlt;rw [dr];refine (wc _ _ (R[i]).d _ _).mpr ?_;dsimp only;rw [show (!isNon (R[i]).d) = true from rfl, if_pos rfl]
   have e1 : nx (startS :: R) R[i] = nxt (R.drop (i + 1)) := nx_at hF.1 (pre := startS :: R.take i) (by rw [cons_append]; congr 1; rw [<- dr]; exact (take_append_drop i R).symm)
   refine ⟨fun σ G' => pvC G p q R (R.length - (i + 1)) σ G', fun σ2 G2 hN => ⟨_, by walk_at "o", hN⟩, ?_⟩
   rw [sSeq_def];have ua : ∀ (E : Ends3) (Z : D), sDrop (eAppend (eVar 1) (aCons (eVar 2) aNil)) E [some (.ref p), some (.ref q), some (R[i]).d] (gset G q (.lst ((R.take i).map Sl.d))) ↔ ((R.take i).map Sl.d).length < sizeLine /\ E.nx [some (.ref p), some (.ref q), some (R[i]).d] (gset G q (.lst ((R.take i).map Sl.d ++ [(R[i]).d]))) := fun E Z => by
    unfold Sl.d;walk_at "s1"
   rw [show nxt (R[i] :: R.drop (i + 1)) = (R[i]).d from rfl, ua _ .non]
   refine ⟨by rw [length_map, length_take]; walk_at "oo", ?_⟩
   dsimp only;show ∃ d, dLook hw (gset G q _) (.ref p) (R[i]).d (some d) /\ _
   refine ⟨_, look R[i] (by simp) _, i + 1, by walk_at "o", rfl, ?_, ?_⟩
   ·rw [e1, nxt_val];rfl
   ·rw [take_add_one, getElem?_eq_getElem hlt, map_append];rfl
  ·have ei : i = R.length := by walk_at "o"
   subst ei;rw [List.drop_length, take_length];refine (wc _ _ .non _ _).mpr ?_;dsimp only;rw [show (!isNon D.non) = false from rfl, if_neg (by decide)]
   show sRetOwn 1 _ _ _
   simp only [sRetOwn, getElem?_cons_succ, getElem?_cons_zero, gset_same];rw [gdel_gset hq];exact h
 ·exact h.elim
theorem vals_of (vs : List Rw) : (vs.map kvOf).map (·.2) = vs.map Rw.d := by rw [map_map]; rfl
theorem row_at {rs : List Rw} {i : Nat} {d : D} (h : (rs.map Rw.d)[i]? = some d) : ∃ r, rs[i]? = some r /\ d = r.d := by
 rw [getElem?_map] at h;cases e : rs[i]? with
 | none => rw [e] at h; cases h
 | some r => rw [e] at h; cases h; exact ⟨r, rfl, rfl⟩
theorem key_at {rs : List Rw} {i : Nat} {d : D} (h : (rs.map Rw.key)[i]? = some d) : ∃ r, rs[i]? = some r /\ d = r.key := by
 rw [getElem?_map] at h;cases e : rs[i]? with
 | none => rw [e] at h; cases h
 | some r => rw [e] at h; cases h; exact ⟨r, rfl, rfl⟩
theorem sort_by (Z1 Z2 Z3 Z4 Z5 : Addr) (hw : HW) (G : Gp) {vs base : List Rw} (hv : vs.Pairwise Apart) (hb : base.length < 64) (sub : ∀ r ∈ vs, r ∈ base) :
  SortBy (sp_place_in_order Z1 Z2 Z3 Z4 Z5 hw) G (vs.map Rw.d) (vs.map Rw.key) fun i => PySem.W.rankIn Rw.lt vs (vs.getD i default) where
 few := by
  rw [length_map];have := nodup_le (apart_nodup hv) sub;walk_at "oo"
 len := by rw [length_map, length_map]
 key := fun i d kd h1 h2 => by
  obtain ⟨r, e1, rfl⟩ := row_at h1;obtain ⟨r', e2, rfl⟩ := key_at h2;rw [e1] at e2; cases e2;exact ⟨r, rfl, rfl, rfl⟩
 ki := fun d hd => by
  obtain ⟨r, _, rfl⟩ := mem_map.mp hd;exact ⟨_, _, rfl⟩
 cp := fun a ha b hb => by
  obtain ⟨r, _, rfl⟩ := mem_map.mp ha;obtain ⟨r', _, rfl⟩ := mem_map.mp hb;exact key_cp r r'
 lt := fun i j a b h1 h2 => by
  obtain ⟨r, e1, rfl⟩ := key_at h1;obtain ⟨r', e2, rfl⟩ := key_at h2;rw [key_lt, PySem.W.rank_lt rw_swo (mem_of_getElem? e1), getD_eq_getElem?_getD, getD_eq_getElem?_getD, e1, e2];rfl
theorem rok_in_order (Z1 Z2 Z3 Z4 Z5 : Addr) (hw : HW) : ∀ ds G Q, sp_in_order Z1 Z2 Z3 Z4 Z5 hw ds G Q -> rd_in_order Z1 Z2 Z3 Z4 Z5 hw { nx := fun _ G' => Q .non G', rt := Q } (start3 ["rows", "by_name", "row"] ds) G := by
 intro ds G Q h;unfold sp_in_order at h;split at h
 ·obtain ⟨rs, base, ⟨rfl, one, l1, l2, sub⟩, h⟩ := h;have hs := sizeLine_ge;unfold rd_in_order;rw [sSeq_def];walk_at "s1";intro p hp;rw [sSeq_def];walk_at "s1";refine ⟨fun i σ G' => ∃ (vs : List Rw) (v : Option D), (σ = [some (.lst (rs.map Rw.d)), some (.ref p), v] /\ G' = gset G p (.dT hw (vs.map kvOf))) /\ vs.Pairwise Apart /\ ∀ r, r ∈ vs ↔ r ∈ rs.take i, ⟨[], none, ⟨rfl, rfl⟩, .nil, by simp⟩, ?_, ?_⟩
  ·rintro i d σ G' hd ⟨vs, v, ⟨rfl, rfl⟩, hv, hm⟩
   obtain ⟨r, hr, rfl⟩ := row_at hd;have hr' := mem_of_getElem? hr;have tk : ∀ x, x ∈ rs.take (i + 1) ↔ x ∈ rs.take i \/ x = r := fun x => by
    rw [take_add_one, hr, mem_append];simp
   have lv : vs.length <= base.length := nodup_le (apart_nodup hv) fun x hx => sub x (mem_of_mem_take ((hm x).mp hx));simp only [gN, set_cons_succ, set_cons_zero];have fin : ∀ G2, G2 = gset G p (.dT hw (putD (vs.map kvOf) (nameK r) r.d)) -> ∃ (vs : List Rw) (v : Option D), (([some (D.lst (rs.map Rw.d)), some (.ref p), some r.d] : St3) = [some (.lst (rs.map Rw.d)), some (.ref p), v] /\ G2 = gset G p (.dT hw (vs.map kvOf))) /\ vs.Pairwise Apart /\ ∀ x, x ∈ vs ↔ x ∈ rs.take (i + 1) := by
    intro G2 e
    by_cases hin : r ∈ vs
    ·refine ⟨vs, _, ⟨rfl, ?_⟩, hv, fun x => ?_⟩
     ·rw [e, put_in hin fun a ha pp nn => one a (mem_of_mem_take ((hm a).mp ha)) r hr' pp nn]
     ·rw [tk, hm];constructor
      ·exact .inl
      ·rintro (z | rfl)
       ·exact z
       ·exact (hm _).mp hin
    ·have ap : ∀ a ∈ vs, Apart a r := fun a ha z => hin (by
      have := one a (mem_of_mem_take ((hm a).mp ha)) r hr' z.1 z.2;subst this; exact ha)
     refine ⟨vs ++ [r], _, ⟨rfl, ?_⟩, ?_, fun x => ?_⟩
     ·rw [e, put_new ap]
     ·rw [pairwise_append];exact ⟨hv, List.pairwise_singleton _ _, fun a ha b hb => by rw [mem_singleton.mp hb]; exact ap a ha⟩
     ·rw [tk, mem_append, hm, mem_singleton]
   refine (show sSetI hw (eVar 1) (eOp oIx (eVar 2) (eC (.int 0))) (eVar 2) _ [some (D.lst (rs.map Rw.d)), some (.ref p), some r.d] _ from ?_)
   show (match (gset G p (.dT hw (vs.map kvOf))) p with
    | some (.dT hw' kvs) => hw' = hw /\ ∃ ks, keyT (.tup [.str r.pen, .int r.num]) = some ks /\ kvs.length < sizeLine /\ _
    | some (.dK kvs) => _
    | some (.lst ds) => _
    | _ => False)
   rw [gset_same];exact ⟨rfl, nameK r, rfl, by rw [length_map]; walk_at "oo", fin _ (by rw [gset_gset]; rfl)⟩
  ·rintro σ G' ⟨vs, v, ⟨rfl, rfl⟩, hv, hm⟩
   rw [length_map, take_length] at hm;show (match (gset G p (.dT hw (vs.map kvOf))) p with
    | some (.dT _ kvs) => ∃ ks r, SortBy (sp_place_in_order Z1 Z2 Z3 Z4 Z5 hw) (gset G p (.dT hw (vs.map kvOf))) (kvs.map (·.2)) ks r /\ ∀ p' : List Nat, p'.Perm (List.range (kvs.map (·.2)).length) -> (p'.map r).Pairwise (· <= ·) -> Q (.fl (p'.map fun i => (kvs.map (·.2)).getD i .non)) (gset G p (.dT hw (vs.map kvOf)))
    | _ => False)
   rw [gset_same];dsimp only;rw [vals_of];refine ⟨vs.map Rw.key, _, sort_by Z1 Z2 Z3 Z4 Z5 hw _ hv l2 (fun r hr => sub r ((hm r).mp hr)), fun q hq hsq => ?_⟩;rw [length_map] at hq;obtain ⟨st, mem⟩ := sort_out hv hq hsq;have e : (q.map fun i => (vs.map Rw.d).getD i .non) = (q.map fun i => vs.getD i default).map Rw.d := by
    rw [map_map];refine map_congr_left fun i hi => ?_;have li : i < vs.length := mem_range.mp (hq.mem_iff.mp hi);simp [li]
   rw [e];exact h _ _ (Ext.refl.gset hp) st fun r => (mem r).trans (hm r)
 ·exact h.elim
theorem rw_out {sks : List Sk} : ∀ {out : List Rw}, (∀ r ∈ out, r ∈ sks.map Sk.rw) -> ∃ o : List Sk, out = o.map Sk.rw /\ ∀ s ∈ o, s ∈ sks
 | [], _ => ⟨[], rfl, fun s hs => by simp at hs⟩
 | r :: t, h => by
  obtain ⟨o, e, ho⟩ := rw_out fun x hx => h x (mem_cons_of_mem _ hx);obtain ⟨s, hs, er⟩ := mem_map.mp (h r mem_cons_self);refine ⟨s :: o, by rw [e, <- er]; rfl, fun x hx => ?_⟩
  rcases mem_cons.mp hx with z | z
  ·rw [z]; exact hs
  ·exact ho x z
theorem Act.d_inj {a b : Act} (h : a.d = b.d) : a = b := by
 have sl : ∀ {xs ys : List Sl}, xs.map Sl.d = ys.map Sl.d -> xs = ys := fun {xs ys} e => List.map_inj_right (f := Sl.d) (fun x y => Sl.d_inj) |>.mp e
 have ne : ∀ {x y : String}, Str.ofString x ≠ Str.ofString y -> D.str (Str.ofString x) ≠ D.str (Str.ofString y) := fun h z => h (by injection z)
 cases a <;> cases b <;> simp only [Act.d, D.tup.injEq, List.cons.injEq, D.str.injEq, and_true, true_and, reduceCtorEq, and_false, false_and] at h
 ·obtain ⟨h1, h2⟩ := h; rw [Sl.d_inj h1, h2]
 all_goals first
  | (exact absurd h (by decide +kernel))
  | (exact absurd h.1 (by decide +kernel))
  | skip
 ·rw [sl h]
 ·rw [sl h.1, h.2]
 ·rw [sl h.1, Sl.d_inj h.2]
theorem Sk.rw_inj {a b : Sk} (h : a.rw = b.rw) : a = b := by
 obtain ⟨a1, a2, a3, a4⟩ := a;obtain ⟨b1, b2, b3, b4⟩ := b;simp only [Sk.rw, Rw.mk.injEq] at h;obtain ⟨rfl, rfl, rfl, h⟩ := h;rw [Act.d_inj h]
theorem fld_anchor (Z1 Z2 Z3 Z4 Z5 : Addr) (hw : HW) {σ : St3} {G : Gp} {p : Addr} {s : Sk} {i : Nat} {Q : VK3} (hσ : σ[i]? = some (some (.ref p))) (hG : G p = some (objOf Z1 Z2 Z3 Z4 Z5 s)) (h : Q s.act.anch.d G) : eFldA [Z1, Z2, Z3, Z4, Z5] "anchor" (eVar i) σ G Q := by
 obtain ⟨pen, num, time, act⟩ := s;unfold eFldA eVar;rw [hσ];cases act <;> (simp only [objOf] at hG; simp only [hG]; refine ⟨by simp, ?_⟩; first | exact h)
theorem meth_slots (Z1 Z2 Z3 Z4 Z5 : Addr) (hw : HW) {σ : St3} {G : Gp} {p : Addr} {s : Sk} {i : Nat} {Q : VK3} (hσ : σ[i]? = some (some (.ref p))) (hG : G p = some (objOf Z1 Z2 Z3 Z4 Z5 s)) (hm : s.act.many <= 1000) (h : Q (.fl ((made s).map Sl.d)) G) :
  eMethA [(Z1, sp_Stroke_slots Z1 Z2 Z3 Z4 Z5 hw), (Z2, sp_Put_slots Z1 Z2 Z3 Z4 Z5 hw), (Z3, sp_Stroke_slots Z1 Z2 Z3 Z4 Z5 hw), (Z4, sp_Stroke_slots Z1 Z2 Z3 Z4 Z5 hw), (Z5, sp_Move_slots Z1 Z2 Z3 Z4 Z5 hw)] "slots" [] (eVar i) aNil σ G Q := by
 obtain ⟨pen, num, time, act⟩ := s;unfold eMethA eVar;rw [hσ];cases act with
 | put a x =>
  have hG' := hG;simp only [objOf] at hG;simp only [hG];exact ⟨by decide +kernel, sp_Put_slots Z1 Z2 Z3 Z4 Z5 hw, by simp, ⟨_, a, x, ⟨rfl, hG', hm⟩, h⟩⟩
 | strike ns =>
  simp only [objOf] at hG;simp only [hG];exact ⟨by decide +kernel, sp_Stroke_slots Z1 Z2 Z3 Z4 Z5 hw, by simp, h⟩
 | dress ns w =>
  simp only [objOf] at hG;simp only [hG];exact ⟨by decide +kernel, sp_Stroke_slots Z1 Z2 Z3 Z4 Z5 hw, by simp, h⟩
 | move ns a =>
  have hG' := hG;simp only [objOf] at hG;simp only [hG];exact ⟨by decide +kernel, sp_Move_slots Z1 Z2 Z3 Z4 Z5 hw, by simp, ⟨_, a, ns, ⟨rfl, hG', hm⟩, h⟩⟩
noncomputable def ObjsAt (Z1 Z2 Z3 Z4 Z5 : Addr) (G : Gp) (ps : List Addr) (o : List Sk) : Prop := ∀ (j : Nat) p s, ps[j]? = some p -> o[j]? = some s -> G p = some (objOf Z1 Z2 Z3 Z4 Z5 s)
theorem objOf_ins (Z1 Z2 Z3 Z4 Z5 : Addr) (s : Sk) : ∃ C L ds, objOf Z1 Z2 Z3 Z4 Z5 s = .ins C L ds := by
 obtain ⟨pen, num, time, act⟩ := s;cases act <;> exact ⟨_, _, _, rfl⟩
theorem row_len (n : Nat) : ∀ (o : List Sk) (W : List Sl), (∀ s ∈ o, s.act.many <= 1000) -> (o.foldl stepS W).length <= W.length + 1000 * o.length
 | [], W, _ => by simp
 | s :: t, W, h => by
  have h1 := h s mem_cons_self;have ih := row_len n t (stepS W s) fun x hx => h x (mem_cons_of_mem _ hx);have h2 : (stepS W s).length <= W.length + 1000 := by
   unfold stepS;split
   ·rename_i ha;rw [insAll_length ha];have : (made s).length = s.act.many := numbered_length _ _ _;walk_at "oo"
   ·walk_at "oo"
  simp only [foldl_cons, length_cons];walk_at "oo"
noncomputable def pvO (Z1 Z2 Z3 Z4 Z5 : Addr) (hw : List Key -> Int) (G : Gp) (f : Addr) (ps : List Addr) (o : List Sk) (n : Nat) (x0 x1 : Option D) (i : Nat) (σ : St3) (G' : Gp) : Prop := ∃ (x3 : Option D) (kvs : List (List Key × D)), σ = [x0, x1, some (.ref f), x3] /\ Ext G G' /\ ObjsAt Z1 Z2 Z3 Z4 Z5 G' ps o /\ G' f = some (.dT hw kvs) /\ Fol kvs (rowW n (o.take i))
theorem rok_slots_of (Z1 Z2 Z3 Z4 Z5 : Addr) (hw : HW) : ∀ ds G Q, sp_slots_of Z1 Z2 Z3 Z4 Z5 hw ds G Q -> rd_slots_of Z1 Z2 Z3 Z4 Z5 hw { nx := fun _ G' => Q .non G', rt := Q } (start3 ["old", "strokes", "following", "stroke"] ds) G := by
 intro ds G Q h;unfold sp_slots_of at h;split at h
 ·rename_i x xs;obtain ⟨sks, base, ⟨rfl, hx, one, l1, l2, sub, ok⟩, h⟩ := h;have hs := sizeLine_ge;unfold rd_slots_of;rw [sSeq_def];show ∀ f, G f = none -> (match gset G f (.dT hw []) f with | some (.dT hw' []) => hw' = hw /\ ∃ ks, keyT startS.d = some ks /\ _ | _ => False)
  intro f hf;rw [gset_same];refine ⟨rfl, startS.key, rfl, ?_⟩;rw [gset_gset];dsimp only;rw [sSeq_def];simp only [set_cons_succ, set_cons_zero, start3, map_cons, map_nil, cons_append, nil_append, List.replicate, length_cons, length_nil, Nat.reduceAdd, Nat.reduceSub];show x.length <= 1000 /\ (∃ (b : Sl) (ss W : List Sl) (kvs : List (List Key × D)), (startS.d = b.d /\ (oldS x.length).map Sl.d = ss.map Sl.d /\ gset G f (.dT hw [(startS.key, .non)]) f = some (.dT hw kvs) /\ Fol kvs W /\ b ∈ W /\ ss.Nodup /\ (∀ x ∈ ss, x ∉ W) /\ W.length + ss.length <= 900000) /\ ∀ kvs', Fol kvs' (insAll W b ss) -> _)
  have ol : (oldS x.length).length = x.length := numbered_length _ _ _;refine ⟨hx, startS, oldS x.length, [startS], _, ⟨rfl, rfl, gset_same, fol_start (fun _ => True), by simp, numbered_nodup _ _ _, fun y hy hW => ?_, by rw [ol]; simp; walk_at "oo"⟩, fun kvs hF => ?_⟩
  ·obtain ⟨_, _, hk⟩ := numbered_mem hy;rw [mem_singleton.mp hW] at hk;exact absurd hk (by decide)
  ·rw [gset_gset];dsimp only;rw [sSeq_def];walk_at "s1";refine ⟨sks.map Sk.rw, base.map Sk.rw, ⟨by rw [map_map]; rfl, one, by rw [length_map]; exact l1, by rw [length_map]; exact l2, fun r hr => ?_⟩, fun out G1 hE st mem => ?_⟩
   ·obtain ⟨s, hs', rfl⟩ := mem_map.mp hr;exact mem_map.mpr ⟨s, sub s hs', rfl⟩
   obtain ⟨o, rfl, ho⟩ := rw_out (sks := sks) (out := out) fun r hr => (mem r).mp hr;have memo : ∀ s, s ∈ o ↔ s ∈ sks := fun s => ⟨ho s, fun hs' => by
    obtain ⟨s', h1, h2⟩ := mem_map.mp ((mem s.rw).mpr (mem_map.mpr ⟨s, hs', rfl⟩));rw [<- Sk.rw_inj h2]; exact h1⟩
   have lo : o.length < 64 := by
    have := nodup_le (strict_nodup st) (ys := base.map Sk.rw) fun r hr => by
     obtain ⟨s, hs', rfl⟩ := mem_map.mp hr;exact mem_map.mpr ⟨s, sub s (ho s hs'), rfl⟩
    rw [length_map, length_map] at this;walk_at "oo"
   have hG1 : G1 f = some (.dT hw kvs) := hE f _ gset_same;have hE1 : Ext G G1 := fun a o' ha => hE a o' (by
    have : a ≠ f := fun z => by subst z; rw [hf] at ha; cases ha
    rw [gset_ne this]; exact ha)
   have dmap : (o.map Sk.rw).map Rw.d = o.map Sk.d := by rw [map_map]; rfl
   rw [dmap];refine ⟨by rw [length_map]; walk_at "oo", fun i acc G2 => ∃ ps : List Addr, ps.length = i /\ acc = ps.map D.ref /\ Ext G1 G2 /\ ObjsAt Z1 Z2 Z3 Z4 Z5 G2 ps o, ⟨[], rfl, rfl, Ext.refl, fun j p s hj => by simp at hj⟩, ?_, ?_⟩
   ·rintro i d acc G2 hd ⟨ps, rfl, rfl, hE2, hO⟩
    rw [getElem?_map] at hd;cases hsj : o[ps.length]? with
    | none => rw [hsj] at hd; cases hd
    | some s =>
     rw [hsj] at hd;cases hd;refine ⟨⟨by simp, rfl⟩, ?_⟩
     show ∃ s' : Sk, s.d = s'.d /\ ∀ p, G2 p = none -> _
     refine ⟨s, rfl, fun p hp => ⟨ps ++ [p], by simp, by rw [map_append]; rfl, fun a o' ha => ?_, fun j q s' hj hs' => ?_⟩⟩
     ·have : a ≠ p := fun z => by subst z; rw [hE2 a o' ha] at hp; cases hp
      rw [gset_ne this];exact hE2 a o' ha
     ·rw [List.getElem?_append] at hj;split at hj
      ·have h1 := hO j q s' hj hs';have : q ≠ p := fun z => by subst z; rw [h1] at hp; cases hp
       rw [gset_ne this];exact h1
      ·rename_i hge;have hj0 : j = ps.length := by
        by_cases z : j - ps.length = 0
        ·walk_at "oo"
        ·obtain ⟨k, hk⟩ : ∃ k, j - ps.length = k + 1 := ⟨j - ps.length - 1, by walk_at "o"⟩
         rw [hk] at hj;simp at hj
       subst hj0;simp at hj;subst hj;rw [hsj] at hs';cases hs';exact gset_same
   ·rintro acc G2 ⟨ps, hl, rfl, hE2, hO⟩
    rw [length_map] at hl;show L3.ForIn _ _ _ _ (ps.map D.ref) G2
    refine ⟨pvO Z1 Z2 Z3 Z4 Z5 hw G f ps o x.length (some (.str x)) (some (.lst (sks.map Sk.d))), ⟨_, kvs, rfl, hE1.trans hE2, hO, hE2 f _ hG1, hF⟩, ?_, ?_⟩
    ·rintro i d σ G3 hd ⟨x3, kvs3, rfl, hE3, hO3, hf3, hF3⟩
     rw [getElem?_map] at hd;cases hpj : ps[i]? with
     | none => rw [hpj] at hd; cases hd
     | some p =>
      rw [hpj] at hd;cases hd;have hil : i < o.length := by have := (List.getElem?_eq_some_iff.mp hpj).1; walk_at "oo"
      have hsi : o[i]? = some o[i] := getElem?_eq_getElem hil;have hobj := hO3 i p _ hpj hsi;have oks := ok o[i] (ho _ (getElem_mem hil));have tk : o.take (i + 1) = o.take i ++ [o[i]] := by rw [take_add_one, hsi]; rfl
      have fr : From (o.take i) (rowW x.length (o.take i)) := by
       have := from_row x.length (o.take i) [] _ (from_start x.length)
       simpa [rowW] using this
      have apart : ∀ r ∈ o.take i, ¬ (r.pen = (o[i]).pen /\ r.num = (o[i]).num) := fun r hr z => by
       obtain ⟨j, hj, er⟩ := mem_iff_getElem.mp hr;rw [length_take] at hj;rw [getElem_take] at er;have hji : j < i := by walk_at "o"
       have st' : ∀ a b : Nat, (ha : a < (o.map Sk.rw).length) -> (hb : b < (o.map Sk.rw).length) -> a < b -> ((o.map Sk.rw)[a]).lt (o.map Sk.rw)[b] = true := fun a b ha hb hab => pairwise_iff_getElem.mp st a b ha hb hab;have := st' j i (by rw [length_map]; walk_at "oo") (by rw [length_map]; walk_at "oo") hji
       rw [getElem_map, getElem_map, er] at this;have one' := one (o[i]).rw (mem_map.mpr ⟨_, ho _ (getElem_mem hil), rfl⟩) r.rw (mem_map.mpr ⟨_, ho _ (er ▸ getElem_mem (by walk_at "o")), rfl⟩) z.1.symm z.2.symm
       rw [one', lt_irrefl] at this;cases this
      have fresh := fresh_of fr oks.1 apart;have wl := row_len x.length (o.take i) (insAll [startS] startS (oldS x.length)) fun s hs' => (ok s (ho s (mem_of_mem_take hs'))).2;rw [start_insAll] at wl;have wl2 : (rowW x.length (o.take i)).length <= 100000 := by
       have e1 : rowW x.length (o.take i) = (o.take i).foldl stepS (startS :: oldS x.length) := by unfold rowW; rw [start_insAll]
       rw [e1];rw [length_take, length_cons, ol] at wl;walk_at "oo"
      generalize o[i] = s at *
      simp only [gN, set_cons_succ, set_cons_zero];have nf : f ≠ p := fun z => by subst z; obtain ⟨C, L, ds, e⟩ := objOf_ins Z1 Z2 Z3 Z4 Z5 s; rw [hf3, e] at hobj; cases hobj
      refine sIf_by (decide (s.act.anch ∈ rowW x.length (o.take i))) (fun K hK => ?_) (ite2 (fun hin => ?_) fun hout => ?_)
      ·unfold tTru eDIn;refine fld_anchor Z1 Z2 Z3 Z4 Z5 hw (p := p) (i := 3) rfl hobj ?_;show ∃ r, dLook hw G3 (.ref f) s.act.anch.d r /\ _
       refine ⟨atD kvs3 s.act.anch.key, ?_, ?_⟩
       ·show (match G3 f with | some (.dT hw' kvs) => hw' = hw /\ ∃ ks, keyT s.act.anch.d = some ks /\ atD kvs3 s.act.anch.key = atD kvs ks | some (.dK kvs) => _ | _ => False)
        rw [hf3];exact ⟨rfl, _, rfl, rfl⟩
       ·have e1 : (atD kvs3 s.act.anch.key).isSome = decide (s.act.anch ∈ rowW x.length (o.take i)) := by
         by_cases z : s.act.anch ∈ rowW x.length (o.take i)
         ·rw [hF3.2.2.2 _ z, decide_eq_true z]; rfl
         ·rw [hF3.2.2.1 _ z, decide_eq_false z]; rfl
        rw [e1];exact hK
      ·have hin' := of_decide_eq_true hin;simp only [sDrop, eCall, aCons, aNil, eVar, getElem?_cons_zero, getElem?_cons_succ];refine fld_anchor Z1 Z2 Z3 Z4 Z5 hw (p := p) (i := 3) rfl hobj ?_;refine meth_slots Z1 Z2 Z3 Z4 Z5 hw (p := p) (i := 3) rfl hobj oks.2 ?_;have lm : (made s).length = s.act.many := numbered_length _ _ _;have lm2 := oks.2;show ∃ (b : Sl) (ss W : List Sl) (kvs : List (List Key × D)), (s.act.anch.d = b.d /\ (made s).map Sl.d = ss.map Sl.d /\ G3 f = some (.dT hw kvs) /\ Fol kvs W /\ b ∈ W /\ ss.Nodup /\ (∀ x ∈ ss, x ∉ W) /\ W.length + ss.length <= 900000) /\ ∀ kvs', Fol kvs' (insAll W b ss) -> _
       refine ⟨s.act.anch, made s, _, kvs3, ⟨rfl, rfl, hf3, hF3, hin', numbered_nodup _ _ _, fresh, by walk_at "o"⟩, fun kvs' hF' => ?_⟩
       refine ⟨_, kvs', rfl, fun a o' ha => ?_, fun j q s' hj hs' => ?_, gset_same, ?_⟩
       ·have : a ≠ f := fun z => by subst z; rw [hf] at ha; cases ha
        rw [gset_ne this];exact hE3 a o' ha
       ·have h1 := hO3 j q s' hj hs';have : q ≠ f := fun z => by subst z; obtain ⟨C, L, ds, e⟩ := objOf_ins Z1 Z2 Z3 Z4 Z5 s'; rw [hf3, e] at h1; cases h1
        rw [gset_ne this];exact h1
       ·rw [tk, rowW_snoc];unfold stepS;rw [if_pos hin'];exact hF'
      ·have hout' := of_decide_eq_false hout;simp only [sNil];refine ⟨_, kvs3, rfl, hE3, hO3, hf3, ?_⟩;rw [tk, rowW_snoc];unfold stepS;rw [if_neg hout'];exact hF3
    ·rintro σ G3 ⟨x3, kvs3, rfl, hE3, hO3, hf3, hF3⟩
     rw [length_map, hl, take_length] at hF3;rw [rowW_eq] at hF3;show ∃ (R : List Sl) (kvs : List (List Key × D)), (G3 f = some (.dT hw kvs) /\ Fol kvs (startS :: R) /\ R.length <= 900000) /\ _
     refine ⟨rowOf x.length o, kvs3, ⟨hf3, hF3, ?_⟩, h o G3 hE3 st memo⟩;have wl := row_len x.length o (insAll [startS] startS (oldS x.length)) fun s hs' => (ok s (ho s hs')).2;have e1 : o.foldl stepS (insAll [startS] startS (oldS x.length)) = startS :: rowOf x.length o := rowW_eq x.length o;rw [e1, start_insAll, length_cons, length_cons, ol] at wl;walk_at "oo"
 ·exact h.elim
theorem rok__law_key (Z1 Z2 Z3 Z4 Z5 : Addr) (hw : HW) : ∀ ds G Q, sp__law_key Z1 Z2 Z3 Z4 Z5 hw ds G Q -> rd__law_key Z1 Z2 Z3 Z4 Z5 hw { nx := fun _ G' => Q .non G', rt := Q } (start3 ["_law_row"] ds) G := by
 intro ds G Q h;unfold sp__law_key at h;split at h
 ·obtain ⟨r, rfl, h⟩ := h;have hs := sizeLine_ge;unfold rd__law_key Rw.d;walk_at "st"
  first | exact ⟨by walk_at "o", h⟩ | walk_at "oo"
 ·exact h.elim
theorem rok__law_stream (Z1 Z2 Z3 Z4 Z5 : Addr) (hw : HW) : ∀ ds G Q, sp__law_stream Z1 Z2 Z3 Z4 Z5 hw ds G Q -> rd__law_stream Z1 Z2 Z3 Z4 Z5 hw { nx := fun _ G' => Q .non G', rt := Q } (start3 ["_law_cell", "_law_many", "_law_found", "_law_number", "_law_k"] ds) G := by
 intro ds G Q h;unfold sp__law_stream at h;split at h
 ·rename_i c m;obtain ⟨⟨h1, h2⟩, h⟩ := h;have hs := sizeLine_ge;unfold rd__law_stream;rw [sSeq_def];walk_at "s1";refine ⟨by walk_at "o", fun p hp => ?_⟩
  rw [sSeq_def];walk_at "s1";refine ⟨.inr ⟨by decide, by decide⟩, by decide, ?_⟩
  have b0 := emod_bounds (a := (c + 1) * 48271) (b := 2147483647) (by decide)
  generalize (c + 1) * 48271 % 2147483647 = n0 at *
  rw [sSeq_def];walk_at "s1";refine ⟨⟨by walk_at "o", by walk_at "o"⟩, fun i σ G' => ∃ (xs : List Int) (n : Int) (v : Option D), (σ = [some (.int c), some (.int m), some (.ref p), some (.int n), v] /\ G' = gset G p (.lst (xs.map D.int))) /\ xs.length = i /\ (0 <= n /\ n < 2147483647) /\ ∀ x ∈ xs, 0 <= x /\ x < 2147483647,
   ⟨[], n0, _, ⟨rfl, rfl⟩, rfl, b0, by simp⟩, ?_, ?_⟩
  ·rintro i d σ G' hd ⟨xs, n, v, ⟨rfl, rfl⟩, hl, hn, hx⟩
   obtain ⟨hi, rfl⟩ := rangeD_get hd;simp only [gN, set_cons_succ, set_cons_zero];rw [sSeq_def];walk_at "s1";have b1 := emod_bounds (a := (n + 7919 * (0 + (i : Nat)) + 1) * (n / 1009 + 69621)) (b := 2147483647) (by decide)
   refine ⟨.inl ⟨by decide, by decide⟩, ⟨by decide, by decide⟩, .inl ⟨by walk_at "o", by walk_at "o"⟩, by decide, ?_⟩
   generalize (n + 7919 * (0 + (i : Nat)) + 1) * (n / 1009 + 69621) % 2147483647 = n1 at *
   refine ⟨by rw [length_map]; walk_at "oo", xs ++ [n1], n1, _, ⟨⟨rfl, rfl⟩, by rw [map_append]; rfl⟩, by rw [length_append, hl]; rfl, b1, fun x hx' => ?_⟩
   rcases mem_append.mp hx' with hx' | hx'
   ·exact hx x hx'
   ·rw [mem_singleton.mp hx']; exact b1
  ·rintro σ G' ⟨xs, n, v, ⟨rfl, rfl⟩, hl, hn, hx⟩
   rw [rangeD_length] at hl;simp only [sRetOwn, getElem?_cons_succ, getElem?_cons_zero, gset_same];rw [gdel_gset hp];exact h xs (by walk_at "o") hx
 ·exact h.elim
theorem rok__law_cell_at (Z1 Z2 Z3 Z4 Z5 : Addr) (hw : HW) : ∀ ds G Q, sp__law_cell_at Z1 Z2 Z3 Z4 Z5 hw ds G Q -> rd__law_cell_at Z1 Z2 Z3 Z4 Z5 hw { nx := fun _ G' => Q .non G', rt := Q } (start3 ["_law_script", "_law_k"] ds) G := by
 intro ds G Q h;unfold sp__law_cell_at at h;split at h
 ·rename_i xs k;obtain ⟨ns, ⟨rfl, h0⟩, h⟩ := h;unfold rd__law_cell_at;rw [sSeq_def];refine sIf_by (decide (k < ns.length)) (fun K hK => ?_) (ite2 (fun e => ?_) fun e => ?_)
  ·walk_at "st";rw [length_map];exact hK
  ·rw [decide_eq_true_eq] at e;walk_at "st";rw [at_map h0 e];exact h _
  ·walk_at "st"
   first | done | exact h _
 ·exact h.elim
theorem slot_pl1 (s : Sl) (n : Nat) : pl (n + 1) s.d := by
 intro d hd;simp only [mem_cons, not_mem_nil, or_false] at hd;rcases hd with rfl | rfl | rfl <;> cases n <;> trivial
theorem slots_pl (ss : List Sl) (n : Nat) : ∀ d ∈ ss.map Sl.d, pl (n + 1) d := fun d hd => by
 obtain ⟨s, _, rfl⟩ := mem_map.mp hd;exact slot_pl1 s n
noncomputable def numF (p : Str) (n : Int) : D -> D
 | .int k => .tup [.str p, .int n, .int (k + 1)]
 | d => d
theorem numF_map (p : Str) (n : Int) (m : Nat) : (rangeD 0 m).map (numF p n) = (numbered p n m).map Sl.d := by
 unfold rangeD numbered;rw [map_map, map_map];refine map_congr_left fun k _ => ?_;simp only [Function.comp, Sl.d, numF, Int.zero_add]
theorem rok__law_made (Z1 Z2 Z3 Z4 Z5 : Addr) (hw : HW) : ∀ ds G Q, sp__law_made Z1 Z2 Z3 Z4 Z5 hw ds G Q -> rd__law_made Z1 Z2 Z3 Z4 Z5 hw { nx := fun _ G' => Q .non G', rt := Q } (start3 ["_law_row", "_law_name", "_law_time", "_law_act"] ds) G := by
 intro ds G Q h;unfold sp__law_made at h;split at h
 ·obtain ⟨⟨pen, num, time, act⟩, ⟨rfl, hm⟩, h⟩ := h;have hs := sizeLine_ge;unfold rd__law_made Sk.d;unfold made at h;cases act with
  | put a x =>
   have hm' : x.length <= 1000 := hm;unfold Act.d;rw [sSeq_def];walk_at "s1";rw [sSeq_def];refine sIf_by true (fun K hK => ?_) (iteT ?_)
   ·walk_at "st"
   ·walk_at "s1";refine ⟨by walk_at "o", ⟨by walk_at "o", by walk_at "o"⟩, comp_map (numF pen num) (by rw [rangeD_length]; walk_at "oo") (fun d hd P hP => ?_) ?_⟩
    ·obtain ⟨k, hk, rfl⟩ := mem_map.mp hd;walk_at "st";exact ⟨rfl, by walk_at "o", hP _ rfl⟩
    ·rw [numF_map, Int.toNat_natCast];exact h
  | strike ns =>
   have e1 := str_ne (a := "strike") (b := "put") (by decide +kernel)
   have e2 := str_ne (a := "strike") (b := "move") (by decide +kernel)
   unfold Act.d;rw [sSeq_def];walk_at "s1";rw [sSeq_def];refine sIf_by false (fun K hK => ?_) (iteF ?_)
   ·walk_at "st"
   ·simp only [sNil];rw [sSeq_def];refine sIf_by false (fun K hK => ?_) (iteF ?_)
    ·walk_at "st"
    ·simp only [sNil];walk_at "s1";exact ⟨by walk_at "o", h⟩
  | dress ns w =>
   have e1 := str_ne (a := "dress") (b := "put") (by decide +kernel)
   have e2 := str_ne (a := "dress") (b := "move") (by decide +kernel)
   unfold Act.d;rw [sSeq_def];walk_at "s1";rw [sSeq_def];refine sIf_by false (fun K hK => ?_) (iteF ?_)
   ·walk_at "st"
   ·simp only [sNil];rw [sSeq_def];refine sIf_by false (fun K hK => ?_) (iteF ?_)
    ·walk_at "st"
    ·simp only [sNil];walk_at "s1";exact ⟨by walk_at "o", h⟩
  | move ns a =>
   have e2 := str_ne (a := "move") (b := "put") (by decide +kernel)
   have hm' : ns.length <= 1000 := hm;unfold Act.d;rw [sSeq_def];walk_at "s1";rw [sSeq_def];refine sIf_by false (fun K hK => ?_) (iteF ?_)
   ·walk_at "st"
   ·simp only [sNil];rw [sSeq_def];refine sIf_by true (fun K hK => ?_) (iteT ?_)
    ·walk_at "st"
    ·walk_at "s1";rw [length_map];refine ⟨⟨by walk_at "o", by walk_at "o"⟩, comp_map (numF pen num) (by rw [rangeD_length]; walk_at "oo") (fun d hd P hP => ?_) ?_⟩
     ·obtain ⟨k, hk, rfl⟩ := mem_map.mp hd;walk_at "st";exact ⟨rfl, by walk_at "o", hP _ rfl⟩
     ·rw [numF_map, Int.toNat_natCast];exact h
 ·exact h.elim
noncomputable def pvR (ns : List Int) (ps : List Str) (x : Str) (p q : Addr) (i : Nat) (σ : St3) (G : Gp) : Prop :=
 ∃ (sks : List Sk) (kvs : List (Key × D)) (ss : List Sl) (x6 x7 x8 x9 x10 x11 x12 x13 : Option D), (σ = [some (.lst (ns.map D.int)), some (.lst (ps.map D.str)), some (.str x), some (.lst (ss.map Sl.d)), some (.ref p), some (.ref q), x6, x7, x8, x9, x10, x11, x12, x13] /\ G p = some (.lst (sks.map Sk.d)) /\ G q = some (.dK kvs)) /\ (sks.length = i /\ kvs.length <= i /\ 0 < ss.length /\ ss.length <= 41 + 3 * i) /\
  (∀ s ∈ sks, s.ok /\ s.act.many <= 3) /\ (sks.map Sk.rw).Pairwise Apart /\ (∀ k d, atD kvs k = some d -> ∃ m : Int, d = .int m /\ 0 <= m) /\ ∀ s ∈ sks, ∃ m : Int, atD kvs (.inr s.pen) = some (.int m) /\ s.num <= m
theorem rok__law_strokes (Z1 Z2 Z3 Z4 Z5 : Addr) (hw : HW) : ∀ ds G Q, sp__law_strokes Z1 Z2 Z3 Z4 Z5 hw ds G Q -> rd__law_strokes Z1 Z2 Z3 Z4 Z5 hw { nx := fun _ G' => Q .non G', rt := Q } (start3 ["_law_cells", "_law_pens", "_law_old", "_law_slots", "_law_rows", "_law_many", "_law_cell", "_law_xs", "_law_pen", "_law_name", "_law_anchor", "_law_names", "_law_some", "_law_act"] ds) G := by
 intro ds G Q h;unfold sp__law_strokes at h;split at h
 ·rename_i cs pens x;obtain ⟨ns, ps, ⟨rfl, l1, rfl, l2, l3, l4⟩, h⟩ := h;have hs := sizeLine_ge;unfold rd__law_strokes;rw [sSeq_def];walk_at "s1";refine ⟨by walk_at "o", by walk_at "o", by walk_at "o", ⟨by walk_at "o", by walk_at "o"⟩, comp_map (numF (Str.ofString "") 0) (by rw [rangeD_length]; walk_at "oo") (fun d hd P hP => ?_) ?_⟩
  ·obtain ⟨k, hk, rfl⟩ := mem_map.mp hd;walk_at "st";exact ⟨rfl, by walk_at "o", hP _ rfl⟩
  rw [numF_map, Int.toNat_natCast];have lo : (numbered (Str.ofString "") 0 x.length).length = x.length := numbered_length _ _ _;generalize numbered (Str.ofString "") 0 x.length = ss0 at *
  have es : [D.tup [.str (Str.ofString ""), .int 0, .int 0]] ++ ss0.map Sl.d = (startS :: ss0).map Sl.d := rfl;dsimp only;refine ⟨by simp only [length_map, length_cons, length_nil]; walk_at "oo", ?_⟩
  rw [es];rw [sSeq_def];walk_at "s1";refine ⟨by walk_at "o", fun p hp => ?_⟩
  rw [sSeq_def];walk_at "s1";intro q hq;have hpq : p ≠ q := fun z => by subst z; rw [gset_same] at hq; cases hq
  rw [sSeq_def];walk_at "s1";refine ⟨pvR ns ps x p q, ⟨[], [], startS :: ss0, _, _, _, _, _, _, _, _, ⟨rfl, by rw [gset_ne hpq, gset_same]; rfl, gset_same⟩, ⟨rfl, le_refl _, by rw [length_cons]; walk_at "oo", by rw [length_cons]; walk_at "oo"⟩, fun r hr => by simp at hr, .nil, fun k d e => by simp [atD] at e, fun r hr => by simp at hr⟩, ?_, ?_⟩
  ·clear hq hp lo es;clear ss0
   rintro i d σ G' hd ⟨sks, kvs, ss, x6, x7, x8, x9, x10, x11, x12, x13, ⟨rfl, g1, g2⟩, ⟨e1, e2, e3, e4⟩, ok, ap, kv, last⟩
   obtain ⟨c, rfl⟩ : ∃ c : Int, d = .int c := by
    obtain ⟨c, _, rfl⟩ := mem_map.mp (mem_of_getElem? hd);exact ⟨c, rfl⟩
   have hi : i < 30 := by
    have := (List.getElem?_eq_some_iff.mp hd).1;rw [length_map] at this;walk_at "oo"
   clear hd;simp only [gN, set_cons_succ, set_cons_zero];rw [sSeq_def];walk_at "s1";walk_at "conds";intro xs hx hb;obtain ⟨a0, a1, a2, a3, a4, a5, a6, rfl⟩ := seven (ns := xs) (by walk_at "o")
   rw [sSeq_def];walk_at "s1";rw [length_map];have bp := emod_bounds (a := a0) (b := (ps.length : Int)) (by walk_at "o")
   refine ⟨by walk_at "o", ?_⟩
   rw [at_map bp.1 bp.2];dsimp only;generalize ps.getD (a0 % (ps.length : Int)).toNat default = pen;obtain ⟨m0, hm0, em, mx⟩ : ∃ m0 : Int, 0 <= m0 /\ (atD kvs (.inr pen)).getD (.int 0) = .int m0 /\ ∀ r ∈ sks, r.pen = pen -> r.num <= m0 := by
    cases e : atD kvs (.inr pen) with
    | none =>
     refine ⟨0, by decide, rfl, fun r hr z => ?_⟩
     obtain ⟨m, hm, _⟩ := last r hr;rw [z, e] at hm; cases hm
    | some d =>
     obtain ⟨m, rfl, h0⟩ := kv _ _ e;refine ⟨m, h0, rfl, fun r hr z => ?_⟩;obtain ⟨m', hm, hle⟩ := last r hr;rw [z, e] at hm;cases hm;exact hle
   rw [sSeq_def];walk_at "s1";refine ⟨by walk_at "o", ?_⟩
   have ad : atD (putD kvs (.inr pen) (.int (m0 + 1))) (.inr pen) = some (.int (m0 + 1)) := by rw [atD_put, if_pos rfl]
   have kl := putD_length kvs (.inr pen) (.int (m0 + 1));have kv' : ∀ k d, atD (putD kvs (.inr pen) (.int (m0 + 1))) k = some d -> ∃ m : Int, d = .int m /\ 0 <= m := fun k d e => by
    rw [atD_put] at e;split at e
    ·cases e; exact ⟨_, rfl, by walk_at "o"⟩
    ·exact kv k d e
   have last' : ∀ s ∈ sks, ∃ m : Int, atD (putD kvs (.inr pen) (.int (m0 + 1))) (.inr s.pen) = some (.int m) /\ s.num <= m := fun s hs' => by
    rw [atD_put]
    by_cases z : (Sum.inr s.pen : Key) = .inr pen
    ·rw [if_pos z];refine ⟨_, rfl, ?_⟩;have := mx s hs' (by simpa using z)
     walk_at "oo"
    ·rw [if_neg z];exact last s hs'
   have g3 : gset G' q (.dK (putD kvs (.inr pen) (.int (m0 + 1)))) p = some (.lst (sks.map Sk.d)) := by rw [gset_ne hpq]; exact g1
   have g4 : gset G' q (.dK (putD kvs (.inr pen) (.int (m0 + 1)))) q = some (.dK (putD kvs (.inr pen) (.int (m0 + 1)))) := gset_same;generalize gset G' q (.dK (putD kvs (.inr pen) (.int (m0 + 1)))) = G3 at *
   generalize putD kvs (.inr pen) (.int (m0 + 1)) = kvs1 at *
   clear kv last em g1 g2;have e5 : kvs1.length <= i + 1 := by walk_at "o"
   clear kl e2;rw [sSeq_def];walk_at "s1";refine ⟨by walk_at "o", ?_⟩
   rw [sSeq_def];walk_at "s1";rw [length_map];have bs := emod_bounds (a := a2) (b := (ss.length : Int)) (by walk_at "o")
   refine ⟨by walk_at "o", ?_⟩
   rw [at_map bs.1 bs.2];dsimp only;generalize ss.getD (a2 % (ss.length : Int)).toNat default = an at *
   have ea : an.d = .tup [.str an.pen, .int an.n, .int an.k] := rfl;rw [ea];clear ea bs bp;rw [sSeq_def];walk_at "s1";have b3 := emod_bounds (a := a4) (b := 3) (by decide)
   have b6 := emod_bounds (a := a5) (b := 6) (by decide)
   refine ⟨by decide, ⟨by walk_at "o", by walk_at "o"⟩, comp_map (fun d => match d with | .int k => .tup [.str (Str.ofString ""), .int 0, .int (1 + (a3 + k) % 25)] | d => d) (by rw [rangeD_length]; walk_at "oo") (fun d hd P hP => ?_) ?_⟩
   ·obtain ⟨k, hk, rfl⟩ := mem_map.mp hd;walk_at "st";exact ⟨rfl, by decide, by walk_at "o", hP _ rfl⟩
   obtain ⟨nsl, enl, lnl⟩ : ∃ nsl : List Sl, (rangeD 0 (1 + a4 % 3).toNat).map (fun d => match d with | D.int k => D.tup [.str (Str.ofString ""), .int 0, .int (1 + (a3 + k) % 25)] | d => d) = nsl.map Sl.d /\ nsl.length <= 3 := by
    refine ⟨(List.range (1 + a4 % 3).toNat).map fun (k : Nat) => ⟨Str.ofString "", 0, 1 + (a3 + (k : Int)) % 25⟩, ?_, by simp; walk_at "oo"⟩
    unfold rangeD;rw [map_map, map_map];refine map_congr_left fun k _ => ?_;simp only [Function.comp, Sl.d, Int.zero_add]
   rw [enl];clear enl;dsimp only;rw [sSeq_def];walk_at "s1";have labc : (Str.ofString "abc").length = 3 := by decide +kernel
   refine ⟨by decide, by rw [labc]; walk_at "oo", by walk_at "o", by walk_at "o", by walk_at "o", by walk_at "o", ?_⟩
   obtain ⟨wd, hwd, lwd⟩ : ∃ wd : Str, (⟨(cutC (Str.ofString "abc").cps.toList none (some (1 + a4 % 3))).toArray⟩ : Str) = wd /\ wd.length <= 3 := by
    refine ⟨_, rfl, ?_⟩;rw [cutC_to (by walk_at "o")]
    show (List.toArray _).size <= 3
    rw [size_toArray, length_take];walk_at "oo"
   rw [hwd];clear hwd labc;obtain ⟨act, fs, hact, efs, mact⟩ : ∃ (act : Act) (fs : List D), atI [D.tup [.str (Str.ofString "put"), .tup [.str an.pen, .int an.n, .int an.k], .str wd], D.tup [.str (Str.ofString "move"), .tup (nsl.map Sl.d), .tup [.str an.pen, .int an.n, .int an.k]], D.tup [.str (Str.ofString "put"), .tup [.str an.pen, .int an.n, .int an.k], .str (Str.ofString "~")], D.tup [.str (Str.ofString "move"), .tup (nsl.map Sl.d), .tup [.str an.pen, .int an.n, .int an.k]], D.tup [.str (Str.ofString "strike"), .tup (nsl.map Sl.d)], D.tup [.str (Str.ofString "dress"), .tup (nsl.map Sl.d), .str (Str.ofString "bold")]] (a5 % 6) = some (.tup fs) /\ act.d = .tup fs /\ act.many <= 3 := by
    have : a5 % 6 = 0 \/ a5 % 6 = 1 \/ a5 % 6 = 2 \/ a5 % 6 = 3 \/ a5 % 6 = 4 \/ a5 % 6 = 5 := by walk_at "o"
    rcases this with e | e | e | e | e | e <;> rw [e]
    ·exact ⟨.put an wd, _, rfl, rfl, lwd⟩
    ·exact ⟨.move nsl an, _, rfl, rfl, lnl⟩
    ·exact ⟨.put an (Str.ofString "~"), _, rfl, rfl, by show (Str.ofString "~").length <= 3; decide +kernel⟩
    ·exact ⟨.move nsl an, _, rfl, rfl, lnl⟩
    ·exact ⟨.strike nsl, _, rfl, rfl, zero_le _⟩
    ·exact ⟨.dress nsl (Str.ofString "bold"), _, rfl, rfl, zero_le _⟩
   rw [sSeq_def];walk_at "s1";refine ⟨by walk_at "o", by walk_at "o", by walk_at "o", by walk_at "o", by walk_at "o", by decide, ?_⟩
   clear hact;generalize some (D.lst [D.tup [.str (Str.ofString "put"), .tup [.str an.pen, .int an.n, .int an.k], .str wd], D.tup [.str (Str.ofString "move"), .tup (nsl.map Sl.d), .tup [.str an.pen, .int an.n, .int an.k]], D.tup [.str (Str.ofString "put"), .tup [.str an.pen, .int an.n, .int an.k], .str (Str.ofString "~")]]) = y12;rw [sSeq_def];walk_at "s1";refine ⟨by decide, by walk_at "o", by rw [length_map]; walk_at "oo", ?_⟩
   generalize hG7 : gset G3 p _ = G7;obtain ⟨sk, hsk⟩ : ∃ sk : Sk, sk = ⟨pen, m0 + 1, 1 + a1 % 9, act⟩ := ⟨_, rfl⟩;have s2 : G7 p = some (.lst ((sks ++ [sk]).map Sk.d)) := by rw [<- hG7, gset_same, map_append, hsk, <- efs]; rfl
   have s3 : G7 q = some (.dK kvs1) := by rw [<- hG7, gset_ne hpq.symm]; exact g4
   clear hG7 g3 g4;have sa : sk.act = act := by rw [hsk]
   have lm : (made sk).length = act.many := by unfold made; rw [numbered_length, sa]
   have lst : atI ((sks ++ [sk]).map Sk.d) (-1) = some sk.d := by
    rw [map_append];unfold atI ixN;rw [if_neg (by decide)]
    simp only [length_append, length_map, map_cons, map_nil, length_cons, length_nil];rw [if_pos (by walk_at "o")]
    show _[_]? = _
    rw [List.getElem?_append_right (by simp only [length_map]; walk_at "oo")]
    simp only [length_map];have : (-1 + ((sks.length + (0 + 1) : Nat) : Int)).toNat - sks.length = 0 := by walk_at "o"
    rw [this];rfl
   have esk : sks.map Sk.d ++ [D.tup [.tup [.str pen, .int (m0 + 1)], .int (1 + a1 % 9), .tup fs]] = (sks ++ [sk]).map Sk.d := by rw [map_append, hsk, <- efs]; rfl
   rw [esk, lst];refine ⟨sk, ⟨rfl, by rw [sa]; walk_at "oo"⟩, by simp only [length_map, lm]; walk_at "oo", ?_⟩
   rw [<- map_append];refine ⟨sks ++ [sk], kvs1, ss ++ made sk, _, _, _, _, _, _, _, _, ⟨rfl, s2, s3⟩, ⟨by rw [length_append, e1]; rfl, e5, by rw [length_append]; walk_at "oo", by rw [length_append, lm]; walk_at "oo"⟩, fun s hs' => ?_, ?_, kv', fun s hs' => ?_⟩
   ·rcases mem_append.mp hs' with z | z
    ·exact ok s z
    ·rw [mem_singleton.mp z, hsk];exact ⟨⟨by show 1 <= m0 + 1; walk_at "oo", le_trans mact (by decide)⟩, mact⟩
   ·rw [map_append, pairwise_append];refine ⟨ap, List.pairwise_singleton _ _, fun r hr r' hr' z => ?_⟩;obtain ⟨s, hs', rfl⟩ := mem_map.mp hr;rw [mem_singleton.mp hr', hsk] at z;have h1 := mx s hs' z.1;have h2 : s.num = m0 + 1 := z.2;walk_at "oo"
   ·rcases mem_append.mp hs' with z | z
    ·exact last' s z
    ·rw [mem_singleton.mp z, hsk];exact ⟨m0 + 1, ad, Int.le_refl _⟩
  ·rintro σ G' ⟨sks, kvs, ss, x6, x7, x8, x9, x10, x11, x12, x13, ⟨rfl, g1, g2⟩, ⟨e1, e2, e3, e4⟩, ok, ap, kv, last⟩
   rw [length_map] at e1;walk_at "st";exact h sks _ ⟨by walk_at "o", ok, ap⟩
 ·exact h.elim
noncomputable def key3 (r : Rw) : D := .tup [.int r.time, .str r.pen, .int r.num]
theorem key3_at {rs : List Rw} {i : Nat} {d : D} (h : (rs.map key3)[i]? = some d) : ∃ r, rs[i]? = some r /\ d = key3 r := by
 rw [getElem?_map] at h;cases e : rs[i]? with
 | none => rw [e] at h; cases h
 | some r => rw [e] at h; cases h; exact ⟨r, rfl, rfl⟩
theorem sort_by3 (Z1 Z2 Z3 Z4 Z5 : Addr) (hw : HW) (G : Gp) {vs : List Rw} (hb : vs.length < 64) :
  SortBy (sp__law_key Z1 Z2 Z3 Z4 Z5 hw) G (vs.map Rw.d) (vs.map key3) fun i => PySem.W.rankIn Rw.lt vs (vs.getD i default) where
 few := by rw [length_map]; exact hb
 len := by rw [length_map, length_map]
 key := fun i d kd h1 h2 => by
  obtain ⟨r, e1, rfl⟩ := row_at h1;obtain ⟨r', e2, rfl⟩ := key3_at h2;rw [e1] at e2; cases e2;exact ⟨r, rfl, rfl, rfl⟩
 ki := fun d hd => by
  obtain ⟨r, _, rfl⟩ := mem_map.mp hd;exact ⟨_, _, rfl⟩
 cp := fun a ha b hb => by
  obtain ⟨r, _, rfl⟩ := mem_map.mp ha;obtain ⟨r', _, rfl⟩ := mem_map.mp hb;exact key3_cp r r'
 lt := fun i j a b h1 h2 => by
  obtain ⟨r, e1, rfl⟩ := key3_at h1;obtain ⟨r', e2, rfl⟩ := key3_at h2;unfold key3;rw [key3_lt, PySem.W.rank_lt rw_swo (mem_of_getElem? e1), getD_eq_getElem?_getD, getD_eq_getElem?_getD, e1, e2];rfl
theorem strict_apart {out : List Rw} (one : OneEach out) (h : Strict out) : out.Pairwise Apart := by
 refine List.Pairwise.imp_of_mem (fun {a b} ha hb hab z => ?_) h;have := one a ha b hb z.1 z.2;subst this;rw [lt_irrefl] at hab;cases hab
theorem sk_map_inj {xs ys : List Sk} (h : xs.map Sk.rw = ys.map Sk.rw) : xs = ys := List.map_inj_right (f := Sk.rw) (fun x y => Sk.rw_inj) |>.mp h
theorem sk_pl (s : Sk) (n : Nat) : pl (n + 5) s.d := by
 have sl : ∀ ns : List Sl, pl (n + 3) (.tup (ns.map Sl.d)) := fun ns => slots_pl ns (n + 1);have st : ∀ (m : Nat) (x : Str), pl m (.str x) := fun m x => by cases m <;> trivial
 have it : ∀ (m : Nat) (x : Int), pl m (.int x) := fun m x => by cases m <;> trivial
 obtain ⟨pen, num, time, act⟩ := s;intro d hd;simp only [mem_cons, not_mem_nil, or_false] at hd;rcases hd with rfl | rfl | rfl
 ·intro d hd;simp only [mem_cons, not_mem_nil, or_false] at hd;rcases hd with rfl | rfl
  ·exact st _ _
  ·exact it _ _
 ·exact it _ _
 ·cases act with
  | put a x =>
   intro d hd;simp only [mem_cons, not_mem_nil, or_false] at hd;rcases hd with rfl | rfl | rfl
   ·exact st _ _
   ·exact slot_pl1 a (n + 2)
   ·exact st _ _
  | strike ns =>
   intro d hd;simp only [mem_cons, not_mem_nil, or_false] at hd;rcases hd with rfl | rfl
   ·exact st _ _
   ·exact sl ns
  | dress ns w =>
   intro d hd;simp only [mem_cons, not_mem_nil, or_false] at hd;rcases hd with rfl | rfl | rfl
   ·exact st _ _
   ·exact sl ns
   ·exact st _ _
  | move ns a =>
   intro d hd;simp only [mem_cons, not_mem_nil, or_false] at hd;rcases hd with rfl | rfl | rfl
   ·exact st _ _
   ·exact sl ns
   ·exact slot_pl1 a (n + 2)
theorem sks_pl (ss : List Sk) (n : Nat) : ∀ d ∈ ss.map Sk.d, pl (n + 5) d := fun d hd => by
 obtain ⟨s, _, rfl⟩ := mem_map.mp hd;exact sk_pl s n
theorem tand_by {t u : TT3} {σ : St3} {G : Gp} (b1 b2 : Bool) (h1 : ∀ K : Bool -> Gp -> Prop, K b1 G -> t σ G K) (h2 : b1 = true -> ∀ K : Bool -> Gp -> Prop, K b2 G -> u σ G K) : ∀ K : Bool -> Gp -> Prop, K (b1 && b2) G -> tAnd3 t u σ G K := fun K hK => by
 unfold tAnd3;refine h1 _ ?_;cases b1 with
 | true => rw [if_pos rfl]; exact h2 rfl K hK
 | false => rw [if_neg (by decide)]; exact hK
theorem tor_by {t u : TT3} {σ : St3} {G : Gp} (b1 b2 : Bool) (h1 : ∀ K : Bool -> Gp -> Prop, K b1 G -> t σ G K) (h2 : b1 = false -> ∀ K : Bool -> Gp -> Prop, K b2 G -> u σ G K) : ∀ K : Bool -> Gp -> Prop, K (b1 || b2) G -> tOr3 t u σ G K := fun K hK => by
 unfold tOr3;refine h1 _ ?_;cases b1 with
 | true => rw [if_pos rfl]; exact hK
 | false => rw [if_neg (by decide)]; exact h2 rfl K hK
noncomputable def dueK (W : List Sl) : List (List Key × D) := W.map fun s => (s.key, D.bl true)
theorem due_keys (W : List Sl) : (dueK W).map (·.1) = W.map Sl.key := by unfold dueK; rw [map_map]; rfl
theorem due_len (W : List Sl) : (dueK W).length = W.length := by unfold dueK; rw [length_map]
theorem due_put {W : List Sl} {s : Sl} (h : s ∉ W) : putD (dueK W) s.key (.bl true) = dueK (W ++ [s]) := by
 unfold putD;rw [if_neg]
 ·unfold dueK; rw [map_append]; rfl
 ·rw [Bool.not_eq_true, any_eq_false];intro kv hkv;obtain ⟨a, ha, rfl⟩ := mem_map.mp hkv;simp only [decide_eq_true_eq];exact fun e => h (Sl.key_inj e ▸ ha)
theorem due_in (W : List Sl) (s : Sl) : (atD (dueK W) s.key).isSome = decide (s ∈ W) := by
 rw [<- atD_any]
 by_cases g : s ∈ W
 ·rw [decide_eq_true g, List.any_eq_true];exact ⟨(s.key, .bl true), mem_map.mpr ⟨s, g, rfl⟩, by simp⟩
 ·rw [decide_eq_false g, any_eq_false];intro kv hkv;obtain ⟨a, ha, rfl⟩ := mem_map.mp hkv;simp only [decide_eq_true_eq];exact fun e => g (Sl.key_inj e ▸ ha)
theorem ins1_perm : ∀ {W : List Sl} {b x : Sl}, b ∈ W -> (ins1 W b x).Perm (x :: W)
 | [], _, _, h => by simp at h
 | a :: t, b, x, h => by
  unfold ins1
  by_cases e : a = b
  ·rw [if_pos e]; exact List.Perm.swap x a t
  ·rw [if_neg e];exact ((ins1_perm ((mem_cons.mp h).resolve_left (Ne.symm e))).cons a).trans (List.Perm.swap x a t)
theorem insAll_perm : ∀ {ss W : List Sl} {b : Sl}, b ∈ W -> (insAll W b ss).Perm (W ++ ss)
 | [], W, _, _ => by show W.Perm (W ++ []); rw [append_nil]
 | x :: ss, W, b, h => by
  have p1 := ins1_perm (x := x) h;show (insAll (ins1 W b x) x ss).Perm _
  refine (insAll_perm (p1.mem_iff.mpr mem_cons_self)).trans ((p1.append_right ss).trans ?_);exact (List.perm_middle).symm
theorem due_step {n : Nat} {done : List Sk} {s : Sk} {W : List Sl} (h : (startS :: W).Perm (rowW n done)) : (made s = [] -> (startS :: W).Perm (rowW n (done ++ [s]))) /\ ((s.act.anch = startS \/ s.act.anch ∈ W) -> (startS :: (W ++ made s)).Perm (rowW n (done ++ [s]))) /\ (¬ (s.act.anch = startS \/ s.act.anch ∈ W) -> (startS :: W).Perm (rowW n (done ++ [s]))) := by
 rw [rowW_snoc];unfold stepS;have mem : s.act.anch ∈ rowW n done ↔ s.act.anch = startS \/ s.act.anch ∈ W := by rw [<- h.mem_iff, mem_cons]
 refine ⟨fun e => ?_, fun e => ?_, fun e => ?_⟩
 ·split
  ·rw [e]; exact h
  ·exact h
 ·rw [if_pos (mem.mpr e)];exact (h.append_right (made s)).trans (insAll_perm (mem.mpr e)).symm
 ·rw [if_neg (fun z => e (mem.mp z))];exact h
theorem oldS_succ (n : Nat) : oldS (n + 1) = oldS n ++ [⟨Str.ofString "", 0, (n : Int) + 1⟩] /\ (⟨Str.ofString "", 0, (n : Int) + 1⟩ : Sl) ∉ oldS n := by
 unfold oldS numbered;refine ⟨by rw [List.range_succ, map_append]; rfl, fun z => ?_⟩
 obtain ⟨k, hk, e⟩ := mem_map.mp z;injection e with _ _ e3
 have := mem_range.mp hk;walk_at "oo"
noncomputable def pvOl (hw : List Key -> Int) (x : Str) (sks : List Sk) (g : Addr) (G0 : Gp) (i : Nat) (σ : St3) (G : Gp) : Prop :=
 ∃ x3 : Option D, σ = [some (.str x), some (.lst (sks.map Sk.d)), some (.ref g), x3, none, none, none, none] /\ G g = some (.dT hw (dueK (oldS i))) /\ Ext G0 G
noncomputable def pvDu (hw : List Key -> Int) (x : Str) (sks srt : List Sk) (g : Addr) (G0 : Gp) (i : Nat) (σ : St3) (G : Gp) : Prop :=
 ∃ (W : List Sl) (x3 x4 x5 x6 x7 : Option D), (σ = [some (.str x), some (.lst (sks.map Sk.d)), some (.ref g), x3, x4, x5, x6, x7] /\ G g = some (.dT hw (dueK W)) /\ Ext G0 G) /\ (startS :: W).Perm (rowW x.length (srt.take i)) /\ W.length <= 40 + 3 * i
noncomputable def pvMd (hw : List Key -> Int) (x : Str) (sks : List Sk) (s : Sk) (W : List Sl) (x3 x6 : Option D) (g : Addr) (G0 : Gp) (j : Nat) (σ : St3) (G : Gp) : Prop :=
 ∃ x7 : Option D, σ = [some (.str x), some (.lst (sks.map Sk.d)), some (.ref g), x3, some s.d, some (.lst ((made s).map Sl.d)), x6, x7] /\ G g = some (.dT hw (dueK (W ++ (made s).take j))) /\ Ext G0 G
theorem rok__law_due (Z1 Z2 Z3 Z4 Z5 : Addr) (hw : HW) : ∀ ds G Q, sp__law_due Z1 Z2 Z3 Z4 Z5 hw ds G Q -> rd__law_due Z1 Z2 Z3 Z4 Z5 hw { nx := fun _ G' => Q .non G', rt := Q } (start3 ["_law_old", "_law_rows", "_law_due_here", "_law_k", "_law_row", "_law_made_here", "_law_anchor", "_law_slot"] ds) G := by
 intro ds G Q h;unfold sp__law_due at h;split at h
 ·rename_i x rows;obtain ⟨sks, ⟨rfl, lx, l30, ok, ap⟩, h⟩ := h;have hs := sizeLine_ge;unfold rd__law_due;rw [sSeq_def];walk_at "s1";intro g hg;rw [sSeq_def];walk_at "s1";refine ⟨by walk_at "o", ⟨by walk_at "o", by walk_at "o"⟩, pvOl hw x sks g G, ⟨_, rfl, gset_same, Ext.gset Ext.refl hg⟩, ?_, ?_⟩
  ·rintro i d σ G' hd ⟨x3, rfl, g1, ex⟩
   obtain ⟨hi, rfl⟩ := rangeD_get hd;rw [Int.toNat_natCast] at hi;clear hd;rw [Int.zero_add];simp only [gN, set_cons_succ, set_cons_zero];obtain ⟨e1, e2⟩ := oldS_succ i;have e3 := due_put e2;have ol : (oldS i).length = i := numbered_length _ _ _;rw [<- e1] at e3;walk_at "st";exact ⟨by walk_at "o", by rw [due_len]; walk_at "oo", _, rfl, by rw [gset_same, <- e3]; rfl, ex.gset hg⟩
  ·rintro σ G1 ⟨x3, rfl, g1, ex⟩
   rw [rangeD_length, Int.toNat_natCast] at g1;dsimp only;rw [sSeq_def];walk_at "s1";have dm : sks.map Sk.d = (sks.map Sk.rw).map Rw.d := by rw [map_map]; rfl
   refine ⟨(sks.map Sk.rw).map key3, _, by rw [dm]; exact sort_by3 Z1 Z2 Z3 Z4 Z5 hw G1 (by rw [length_map]; walk_at "oo"), fun q hq hsq => ?_⟩
   rw [length_map] at hq;obtain ⟨st, mem⟩ := sort_out ap (by rw [length_map]; exact hq) hsq
   have qlt : ∀ i ∈ q, i < sks.length := fun i hi => mem_range.mp (hq.mem_iff.mp hi);have e1 : (q.map fun i => (sks.map Sk.rw).getD i default) = (q.map fun i => sks.getD i default).map Sk.rw := by
    rw [map_map];refine map_congr_left fun i hi => ?_;simp [qlt i hi]
   have e2 : (q.map fun i => (sks.map Sk.d).getD i .non) = (q.map fun i => sks.getD i default).map Sk.d := by
    rw [map_map];refine map_congr_left fun i hi => ?_;simp [qlt i hi]
   have lq : q.length = sks.length := by have := hq.length_eq; rwa [List.length_range] at this
   rw [e1] at st mem;rw [e2];have lr : (q.map fun i => sks.getD i default).length <= 30 := by rw [length_map]; walk_at "oo"
   generalize (q.map fun i => sks.getD i default) = srt at *
   clear e1 e2 hsq;have ms : ∀ s, s ∈ srt ↔ s ∈ sks := fun s => by
    have := mem s.rw;constructor
    ·intro hs';obtain ⟨s', h1, h2⟩ := mem_map.mp (this.mp (mem_map.mpr ⟨s, hs', rfl⟩));rw [<- Sk.rw_inj h2]; exact h1
    ·intro hs';obtain ⟨s', h1, h2⟩ := mem_map.mp (this.mpr (mem_map.mpr ⟨s, hs', rfl⟩));rw [<- Sk.rw_inj h2]; exact h1
   have apr := strict_apart (one_of (apart_one ap) fun r hr => (mem r).mp hr) st;have okr : ∀ s ∈ srt, s.ok /\ s.act.many <= 3 := fun s hs' => ok s ((ms s).mp hs');clear ok ap mem hq qlt lq dm;refine ⟨pvDu hw x sks srt g G, ⟨oldS x.length, _, _, _, _, _, ⟨rfl, g1, ex⟩, ?_, ?_⟩, ?_, ?_⟩
   ·rw [take_zero];unfold rowW;rw [List.foldl_nil, start_insAll]
   ·rw [show (oldS x.length).length = x.length from numbered_length _ _ _]; walk_at "oo"
   ·clear h g1 ex
    rintro i d σ G2 hd ⟨W, x3', x4, x5, x6, x7, ⟨rfl, g2, ex⟩, pm, wl⟩
    obtain ⟨s, hsk, rfl⟩ : ∃ s, srt[i]? = some s /\ d = s.d := by
     rw [getElem?_map] at hd;cases e : srt[i]? with
     | none => rw [e] at hd; cases hd
     | some s => rw [e] at hd; cases hd; exact ⟨s, rfl, rfl⟩
    clear hd;have hi := (List.getElem?_eq_some_iff.mp hsk).1;have hat := (List.getElem?_eq_some_iff.mp hsk).2;obtain ⟨sok, m3⟩ := okr s (mem_of_getElem? hsk);have tk : srt.take (i + 1) = srt.take i ++ [s] := by rw [take_add_one, hsk]; rfl
    have fr : From (srt.take i) (rowW x.length (srt.take i)) := by
     have := from_row x.length (srt.take i) [] _ (from_start x.length)
     simpa [rowW] using this
    have apm : ∀ r ∈ srt.take i, ¬ (r.pen = s.pen /\ r.num = s.num) := fun r hr z => by
     obtain ⟨j, hj, er⟩ := mem_iff_getElem.mp hr;rw [length_take] at hj;rw [getElem_take] at er;have := pairwise_iff_getElem.mp apr j i (by rw [length_map]; walk_at "oo") (by rw [length_map]; walk_at "oo") (by walk_at "o")
     rw [getElem_map, getElem_map, er, hat] at this;exact this z
    have fresh : ∀ y ∈ made s, y ∉ W := fun y hy z => fresh_of fr sok.1 apm y hy (pm.mem_iff.mp (mem_cons_of_mem _ z));have nodm : (made s).Nodup := numbered_nodup _ _ _;have lm : (made s).length = s.act.many := numbered_length _ _ _;have step := due_step (s := s) pm;rw [<- tk] at step;clear fr apm hat pm tk hsk okr apr ms st;have tail : ∀ (E : Ends3) (x7 : Option D), (∀ σ G', pvDu hw x sks srt g G (i + 1) σ G' -> E.nx σ G') -> sIf (tAnd3 (tTru (eOpV oNe (eVar 5) (eLst aNil))) (tOr3 (tTru (eOpV oEq (eVar 6) (eTup (aCons (eC (.str "")) (aCons (eC (.int 0)) (aCons (eC (.int 0)) aNil)))))) (tTru (eDIn hw (eVar 6) (eVar 2))))) (sFor (iSeq (eVar 5)) (gN 7) (sSetI hw (eVar 2) (eVar 7) (eC (.bl true)))) sNil E
      [some (.str x), some (.lst (sks.map Sk.d)), some (.ref g), x3', some s.d, some (.lst ((made s).map Sl.d)), some s.act.anch.d, x7] G2 := fun E x7 hE => by
     have e1 : eqb (.lst ((made s).map Sl.d)) (.lst []) = decide (made s = []) := eqb_dec ⟨fun z => by injection z with z; simpa using z, fun z => by rw [z]; rfl⟩
     have e2 : eqb s.act.anch.d (.tup [.str (Str.ofString ""), .int 0, .int 0]) = decide (s.act.anch = startS) := eqb_dec ⟨fun z => Sl.d_inj z, fun z => by rw [z]; rfl⟩
     have pls := slots_pl (made s) 6;refine sIf_by (!decide (made s = []) && (decide (s.act.anch = startS) || decide (s.act.anch ∈ W))) (tand_by _ _ (fun K hK => ?_) fun _ => tor_by _ _ (fun K hK => ?_) fun _ K hK => ?_) (ite2 (fun e => ?_) fun e => ?_)
     ·walk_at "st";exact ⟨by walk_at "o", pls, fun d hd => by simp at hd⟩
     ·clear step;have ea : s.act.anch.d = .tup [.str s.act.anch.pen, .int s.act.anch.n, .int s.act.anch.k] := rfl;rw [ea] at e2 ⊢;walk_at "st";exact ⟨by walk_at "o", slot_pl1 s.act.anch 7, slot_pl1 startS 7⟩
     ·clear step;simp only [tTru, eDIn, eVar, val, getElem?_cons_zero, getElem?_cons_succ];refine ⟨atD (dueK W) s.act.anch.key, ?_, by rw [due_in]; exact hK⟩
      show dLook hw G2 (.ref g) s.act.anch.d _
      unfold dLook;dsimp only;rw [g2];exact ⟨rfl, _, rfl, rfl⟩
     ·rw [Bool.and_eq_true, Bool.or_eq_true, decide_eq_true_eq, decide_eq_true_eq] at e;have pm' := step.2.1 e.2;clear step e1 e2;walk_at "s1";refine ⟨pvMd hw x sks s W x3' (some s.act.anch.d) g G, ⟨_, rfl, by rw [take_zero, append_nil]; exact g2, ex⟩, ?_, ?_⟩
      ·rintro j d σ G3 hd ⟨x7, rfl, g3, ex3⟩
       obtain ⟨y, hy, rfl⟩ : ∃ y, (made s)[j]? = some y /\ d = y.d := by
        rw [getElem?_map] at hd;cases e : (made s)[j]? with
        | none => rw [e] at hd; cases hd
        | some s => rw [e] at hd; cases hd; exact ⟨s, rfl, rfl⟩
       clear hd;have hj := (List.getElem?_eq_some_iff.mp hy).1;have ny : y ∉ W ++ (made s).take j := fun z => by
        rcases mem_append.mp z with z | z
        ·exact fresh y (mem_of_getElem? hy) z
        ·obtain ⟨k, hk, e⟩ := mem_iff_getElem.mp z;rw [length_take] at hk;rw [getElem_take] at e;have := pairwise_iff_getElem.mp nodm k j (by walk_at "o") hj (by walk_at "o")
         exact this (e.trans (List.getElem?_eq_some_iff.mp hy).2.symm)
       have tk : (made s).take (j + 1) = (made s).take j ++ [y] := by rw [take_add_one, hy]; rfl
       have put := due_put ny;rw [append_assoc, <- tk] at put;simp only [gN, sSetI, eVar, eC, val, set_cons_succ, set_cons_zero, getElem?_cons_zero, getElem?_cons_succ];show oSetI hw (.ref g) y.d (.bl true) G3 _
       unfold oSetI;dsimp only;rw [g3];exact ⟨rfl, y.key, rfl, by rw [due_len, length_append, length_take]; walk_at "oo", _, rfl, by rw [gset_same, put], ex3.gset hg⟩
      ·rintro σ G3 ⟨x7, rfl, g3, ex3⟩
       rw [length_map, take_length] at g3;exact hE _ _ ⟨W ++ made s, _, _, _, _, _, ⟨rfl, g3, ex3⟩, pm', by rw [length_append, lm]; walk_at "oo"⟩
     ·simp only [sNil];refine hE _ _ ⟨W, _, _, _, _, _, ⟨rfl, g2, ex⟩, ?_, by walk_at "o"⟩
      by_cases z : made s = []
      ·exact step.1 z
      ·refine step.2.2 fun q => ?_;rcases q with q | q <;> simp [q, z] at e
    have tail0 : made s = [] -> ∀ (E : Ends3) (d6 : D) (x7 : Option D), (∀ σ G', pvDu hw x sks srt g G (i + 1) σ G' -> E.nx σ G') -> sIf (tAnd3 (tTru (eOpV oNe (eVar 5) (eLst aNil))) (tOr3 (tTru (eOpV oEq (eVar 6) (eTup (aCons (eC (.str "")) (aCons (eC (.int 0)) (aCons (eC (.int 0)) aNil)))))) (tTru (eDIn hw (eVar 6) (eVar 2))))) (sFor (iSeq (eVar 5)) (gN 7) (sSetI hw (eVar 2) (eVar 7) (eC (.bl true)))) sNil E
      [some (.str x), some (.lst (sks.map Sk.d)), some (.ref g), x3', some s.d, some (.lst []), some d6, x7] G2 := fun em E d6 x7 hE => by
     refine sIf_by false (fun K hK => tand_by false false (fun K hK => ?_) (fun z => by cases z) K hK) (iteF ?_)
     ·clear tail step;walk_at "st";exact ⟨by walk_at "o", fun d hd => by simp at hd⟩
     ·simp only [sNil];exact hE _ _ ⟨W, _, _, _, _, _, ⟨rfl, g2, ex⟩, step.1 em, by walk_at "o"⟩
    simp only [gN, set_cons_succ, set_cons_zero];rw [sSeq_def];simp only [sSet, eCall, aCons, aNil, eVar, val, getElem?_cons_zero, getElem?_cons_succ, append_nil, set_cons_succ, set_cons_zero];refine ⟨s, ⟨rfl, by walk_at "o"⟩, ?_⟩
    dsimp only;clear fresh nodm lm step m3 sok;obtain ⟨pen, num, time, act⟩ := s;cases act with
    | put a w =>
     have e1 := str_ne (a := "put") (b := "move") (by decide +kernel)
     have ed : Sk.d ⟨pen, num, time, .put a w⟩ = .tup [.tup [.str pen, .int num], .int time, .tup [.str (Str.ofString "put"), .tup [.str a.pen, .int a.n, .int a.k], .str w]] := rfl;rw [ed] at tail ⊢;clear tail0;generalize made ⟨pen, num, time, .put a w⟩ = mk at *
     rw [sSeq_def];simp only [sSet, eOp, eVar, eC, oIx, asQ, asL, val, at2_0, at2_1, at3_0, at3_1, at3_2, getElem?_cons_zero, getElem?_cons_succ, set_cons_zero, set_cons_succ];rw [sSeq_def];refine sIf_by false (fun K hK => ?_) (iteF ?_)
     ·clear tail;walk_at "st"
     ·simp only [sNil];exact tail _ _ fun _ _ z => z
    | move ns a =>
     have ed : Sk.d ⟨pen, num, time, .move ns a⟩ = .tup [.tup [.str pen, .int num], .int time, .tup [.str (Str.ofString "move"), .tup (ns.map Sl.d), .tup [.str a.pen, .int a.n, .int a.k]]] := rfl;rw [ed] at tail ⊢;clear tail0;generalize made ⟨pen, num, time, .move ns a⟩ = mk at *
     rw [sSeq_def];simp only [sSet, eOp, eVar, eC, oIx, asQ, asL, val, at2_0, at2_1, at3_0, at3_1, at3_2, getElem?_cons_zero, getElem?_cons_succ, set_cons_zero, set_cons_succ];rw [sSeq_def];refine sIf_by true (fun K hK => ?_) (iteT ?_)
     ·clear tail;walk_at "st"
     ·simp only [sSet, eOp, eVar, eC, oIx, asQ, asL, val, at2_0, at2_1, at3_0, at3_1, at3_2, getElem?_cons_zero, getElem?_cons_succ, set_cons_zero, set_cons_succ];exact tail _ _ fun _ _ z => z
    | strike ns =>
     have e1 := str_ne (a := "strike") (b := "move") (by decide +kernel)
     have ed : Sk.d ⟨pen, num, time, .strike ns⟩ = .tup [.tup [.str pen, .int num], .int time, .tup [.str (Str.ofString "strike"), .tup (ns.map Sl.d)]] := rfl;have tl := tail0 rfl;have em : made ⟨pen, num, time, .strike ns⟩ = [] := rfl;rw [em, map_nil];rw [ed] at tl ⊢;clear tail tail0 em;rw [sSeq_def];simp only [sSet, eOp, eVar, eC, oIx, asQ, asL, val, at2_0, at2_1, at3_0, at3_1, at3_2, getElem?_cons_zero, getElem?_cons_succ, set_cons_zero, set_cons_succ];rw [sSeq_def];refine sIf_by false (fun K hK => ?_) (iteF ?_)
     ·clear tl;walk_at "st"
     ·simp only [sNil];exact tl _ _ _ fun _ _ z => z
    | dress ns w =>
     have e1 := str_ne (a := "dress") (b := "move") (by decide +kernel)
     have ed : Sk.d ⟨pen, num, time, .dress ns w⟩ = .tup [.tup [.str pen, .int num], .int time, .tup [.str (Str.ofString "dress"), .tup (ns.map Sl.d), .str w]] := rfl;have tl := tail0 rfl;have em : made ⟨pen, num, time, .dress ns w⟩ = [] := rfl;rw [em, map_nil];rw [ed] at tl ⊢;clear tail tail0 em;rw [sSeq_def];simp only [sSet, eOp, eVar, eC, oIx, asQ, asL, val, at2_0, at2_1, at3_0, at3_1, at3_2, getElem?_cons_zero, getElem?_cons_succ, set_cons_zero, set_cons_succ];rw [sSeq_def];refine sIf_by false (fun K hK => ?_) (iteF ?_)
     ·clear tl;walk_at "st"
     ·simp only [sNil];exact tl _ _ _ fun _ _ z => z
   ·rintro σ G2 ⟨W, x3', x4, x5, x6, x7, ⟨rfl, g2, ex⟩, pm, wl⟩
    rw [length_map, take_length, rowW_eq] at pm;have pm' : W.Perm (rowOf x.length srt) := pm.cons_inv;rw [length_map] at wl;walk_at "st";refine ⟨W, due_keys W, by walk_at "o", ?_⟩
    rw [srS_perm pm'];exact h srt G2 ex st ms
 ·exact h.elim
theorem step_made {W : List Sl} {s : Sk} (h : made s = []) : stepS W s = W := by
 unfold stepS;rw [h];split <;> rfl
theorem row_bare {p : Sk -> Bool} : ∀ (out : List Sk) (W : List Sl), (∀ s ∈ out, p s = false -> made s = []) -> (out.filter p).foldl stepS W = out.foldl stepS W
 | [], _, _ => rfl
 | s :: t, W, h => by
  have ih := fun W => row_bare t W fun x hx => h x (mem_cons_of_mem _ hx);cases e : p s with
  | true => rw [List.filter_cons_of_pos e, foldl_cons, foldl_cons]; exact ih _
  | false =>
   rw [List.filter_cons_of_neg (by rw [e]; decide), foldl_cons, step_made (h s mem_cons_self e)]
   exact ih _
noncomputable def lays (s : Sk) : Bool := match s.act with
 | .put _ _ => true
 | .move _ _ => true
 | _ => false
noncomputable def laysD : D -> Bool
 | .tup [_, _, .tup (.str k :: _)] => decide (k = Str.ofString "put") || decide (k = Str.ofString "move")
 | _ => false
theorem lays_d (s : Sk) : laysD s.d = lays s := by
 obtain ⟨pen, num, time, act⟩ := s;cases act <;> rfl
theorem sIf_no {t : TT3} {A B : TS3} {E : Ends3} {σ : St3} {G : Gp} (h1 : ∀ K : Bool -> Gp -> Prop, (∀ G', Ext G G' -> K false G') -> t σ G K) (hB : ∀ G', Ext G G' -> B E σ G') : sIf t A B E σ G := by
 unfold sIf;refine h1 _ fun G' e => ?_;show if false = true then A E σ G' else B E σ G'
 rw [if_neg (by decide)]
 exact hB G' e
theorem rok_law (Z1 Z2 Z3 Z4 Z5 : Addr) (hw : HW) : ∀ ds G Q, sp_law Z1 Z2 Z3 Z4 Z5 hw ds G Q -> rd_law Z1 Z2 Z3 Z4 Z5 hw { nx := fun _ G' => Q .non G', rt := Q } (start3 ["_law_script", "_law_first", "_law_old", "_law_pens", "_law_rows", "_law_handed", "_law_kept", "_law_found", "_law_again", "_law_bare"] ds) G := by
 intro vs G Q h;unfold sp_law at h;split at h
 ·obtain ⟨ns, rfl, hn, hq⟩ := h;have hs := sizeLine_ge;unfold rd_law;rw [sSeq_def];walk_at "s1";refine ⟨ns, ⟨rfl, by decide⟩, fun c => ?_⟩
  rw [sSeq_def];walk_at "s1";have lold : (Str.ofString "a\nold text of signs, b").length = 22 := by decide +kernel
  have b21 := emod_bounds (a := c) (b := 21) (by decide)
  refine ⟨by decide, by rw [lold]; walk_at "oo", ?_⟩
  have lx : (⟨(cutC (Str.ofString "a\nold text of signs, b").cps.toList none (some (c % 21))).toArray⟩ : Str).length <= 40 := by
   rw [cutC_to b21.1];show (List.toArray _).size <= 40
   rw [size_toArray, length_take];walk_at "oo"
  generalize (⟨(cutC (Str.ofString "a\nold text of signs, b").cps.toList none (some (c % 21))).toArray⟩ : Str) = x at *
  clear lold;rw [sSeq_def];obtain ⟨pz, hpz, lpz⟩ : ∃ pz : List Str, atI [D.lst [.str (Str.ofString "ann"), .str (Str.ofString "bob"), .str (Str.ofString "cyd")], D.lst [.str (Str.ofString "a"), .str (Str.ofString "ab"), .str (Str.ofString "abc")], D.lst [.str (Str.ofString "zza"), .str (Str.ofString "zzb"), .str (Str.ofString "zzc")]] (c / 21 % 3) = some (.lst (pz.map D.str)) /\ pz.length = 3 := by
   have : c / 21 % 3 = 0 \/ c / 21 % 3 = 1 \/ c / 21 % 3 = 2 := by walk_at "o"
   rcases this with e | e | e <;> rw [e]
   ·exact ⟨[_, _, _], rfl, rfl⟩
   ·exact ⟨[_, _, _], rfl, rfl⟩
   ·exact ⟨[_, _, _], rfl, rfl⟩
  walk_at "s1";have b3 := emod_bounds (a := c / 63) (b := 3) (by decide)
  refine ⟨by walk_at "o", by walk_at "o", by walk_at "o", by walk_at "o", ⟨by decide, by decide⟩, by decide, ⟨by decide, by decide⟩, by decide, ?_⟩
  rw [cutD_to (by walk_at "o"), <- List.map_take]
  have lps : 0 < (pz.take (1 + c / 63 % 3).toNat).length /\ (pz.take (1 + c / 63 % 3).toNat).length <= 4 := by
   rw [length_take]; walk_at "oo"
  generalize pz.take (1 + c / 63 % 3).toNat = ps at *
  clear hpz lpz b3 b21;rw [sSeq_def];walk_at "s1";refine ⟨(ns.drop 1).take 30, ps, ⟨by rw [cutD_mid (by decide) (by decide), <- List.map_drop, <- List.map_take]; rfl, by rw [length_take]; walk_at "oo", rfl, lps.1, lps.2⟩, fun sks G1 gd => ?_⟩
  have l30 := gd.1;have ok : ∀ s ∈ sks, s.ok := fun s hs' => (gd.2.1 s hs').1;have one : OneEach (sks.map Sk.rw) := apart_one gd.2.2;clear lps;rw [sSeq_def];walk_at "s1";refine seq_of (NX := fun σ' _ => ∃ hd : List Sk, (hd.length <= 30 /\ ∀ s, s ∈ hd ↔ s ∈ sks) /\ σ' = [some (.lst (ns.map D.int)), some (.int c), some (.str x), some (.lst (ps.map D.str)), some (.lst (sks.map Sk.d)), some (.lst (hd.map Sk.d)), none, none, none, none]) (fun σ' G2 hM => ?_) (fun NX hNX => ?_)
  ·obtain ⟨hd0, ⟨lh0, mh0⟩, rfl⟩ := hM;refine seq_of (NX := fun σ' _ => ∃ hd : List Sk, (hd.length <= 60 /\ ∀ s, s ∈ hd ↔ s ∈ sks) /\ σ' = [some (.lst (ns.map D.int)), some (.int c), some (.str x), some (.lst (ps.map D.str)), some (.lst (sks.map Sk.d)), some (.lst (hd.map Sk.d)), none, none, none, none]) (fun σ' G3 hM => ?_) (fun NX hNX => ?_)
   ·obtain ⟨hd, ⟨lh, mh⟩, rfl⟩ := hM;clear lh0 mh0;have same : ∀ {o o' : List Sk}, Strict (o.map Sk.rw) -> Strict (o'.map Sk.rw) -> (∀ s, s ∈ o ↔ s ∈ o') -> o = o' := fun so so' mo => sk_map_inj (strict_unique so so' fun r => by
     constructor
     ·intro hr;obtain ⟨s, hs', rfl⟩ := mem_map.mp hr;exact mem_map.mpr ⟨s, (mo s).mp hs', rfl⟩
     ·intro hr;obtain ⟨s, hs', rfl⟩ := mem_map.mp hr;exact mem_map.mpr ⟨s, (mo s).mpr hs', rfl⟩)
    have sub : ∀ {ys : List Sk}, (∀ s ∈ ys, s ∈ sks) -> OneEach (ys.map Sk.rw) := fun hy => one_of one fun r hr => by
     obtain ⟨s, hs', rfl⟩ := mem_map.mp hr;exact mem_map.mpr ⟨s, hy s hs', rfl⟩
    rw [sSeq_def];walk_at "s1";rw [sSeq_def];walk_at "s1";refine ⟨hd, sks, ⟨rfl, by walk_at "o", sub fun s hs' => (mh s).mp hs', by walk_at "o", by walk_at "o", fun s hs' => (mh s).mp hs', fun s hs' => ok s ((mh s).mp hs')⟩, fun srt G4 ex4 st ms0 => ?_⟩
    intro p hp;have ms : ∀ s, s ∈ srt ↔ s ∈ sks := fun s => (ms0 s).trans (mh s);have lrow : (rowOf x.length srt).length <= 100000 := by
     have ls : srt.length <= 30 := le_trans (nodup_le (xs := srt.map Sk.rw) (ys := sks.map Sk.rw) (strict_nodup st) (fun r hr => by
      obtain ⟨s, hs', rfl⟩ := mem_map.mp hr;exact mem_map.mpr ⟨s, (ms s).mp hs', rfl⟩) |> fun z => by simpa using z) l30
     have wl := row_len x.length srt (insAll [startS] startS (oldS x.length)) fun s hs' => (ok s ((ms s).mp hs')).2;have ol : (oldS x.length).length = x.length := numbered_length _ _ _;have ew : srt.foldl stepS (insAll [startS] startS (oldS x.length)) = startS :: rowOf x.length srt := rowW_eq x.length srt;rw [ew, start_insAll, length_cons, length_cons, ol] at wl;walk_at "oo"
    have g5 : gset G4 p (.lst ((rowOf x.length srt).map Sl.d)) p = some (.lst ((rowOf x.length srt).map Sl.d)) := gset_same;generalize gset G4 p (.lst ((rowOf x.length srt).map Sl.d)) = G5 at *
    have phd : ∀ d ∈ hd.map Sk.d, pl 7 d := sks_pl _ 2;have prow : ∀ d ∈ (rowOf x.length srt).map Sl.d, pl 7 d := slots_pl _ 6;have psrt : ∀ d ∈ (srS (rowOf x.length srt)).map Sl.d, pl 7 d := slots_pl _ 6;rw [sSeq_def];refine sIf_no (fun K hK => ?_) fun G6 ex6 => ?_
    ·walk_at "st";refine ⟨phd, phd, rowOf x.length srt, rfl, by walk_at "o", sks, ⟨rfl, gd⟩, fun out G' ex so mo => ?_⟩
     have eo : out = srt := same so st fun s => (mo s).trans (ms s).symm;rw [eo];exact ⟨psrt, psrt, by rw [eqb_self]; exact hK _ ex⟩
    ·simp only [sNil];have g6 := ex6 p _ g5;rw [sSeq_def];walk_at "s1";rw [sSeq_def];walk_at "s1";clear g6 g5 ex6;generalize gset G6 p (.lst []) = G7;rw [sSeq_def];simp only [sSet, eComp, iSeq, eVar, asL, val, itemsOf, getElem?_cons_zero, getElem?_cons_succ, set_cons_succ, set_cons_zero];refine comp_filter laysD id (by rw [length_map]; walk_at "oo") (fun d hd P R h1 h2 => ?_) ?_
     ·obtain ⟨s, _, rfl⟩ := mem_map.mp hd;rw [lays_d] at h1 h2;clear same sub;obtain ⟨pen, num, time, act⟩ := s;cases act with
      | put a w =>
       have ed : Sk.d ⟨pen, num, time, .put a w⟩ = .tup [.tup [.str pen, .int num], .int time, .tup [.str (Str.ofString "put"), .tup [.str a.pen, .int a.n, .int a.k], .str w]] := rfl;rw [ed] at h1 ⊢;refine ⟨⟨by simp [set_cons_zero, List.replicate], rfl⟩, tor_by true false (fun K hK => ?_) (fun z K hK => ?_) _ ?_⟩
       ·walk_at "st"
       ·cases z
       ·exact h1 rfl _ rfl
      | strike nl =>
       have n1 := str_ne (a := "strike") (b := "put") (by decide +kernel)
       have n2 := str_ne (a := "strike") (b := "move") (by decide +kernel)
       have ed : Sk.d ⟨pen, num, time, .strike nl⟩ = .tup [.tup [.str pen, .int num], .int time, .tup [.str (Str.ofString "strike"), .tup (nl.map Sl.d)]] := rfl;rw [ed] at h1 ⊢;refine ⟨⟨by simp [set_cons_zero, List.replicate], rfl⟩, tor_by false false (fun K hK => ?_) (fun z K hK => ?_) _ ?_⟩
       ·walk_at "st"
       ·walk_at "st"
       ·exact h2 rfl
      | dress nl w =>
       have n1 := str_ne (a := "dress") (b := "put") (by decide +kernel)
       have n2 := str_ne (a := "dress") (b := "move") (by decide +kernel)
       have ed : Sk.d ⟨pen, num, time, .dress nl w⟩ = .tup [.tup [.str pen, .int num], .int time, .tup [.str (Str.ofString "dress"), .tup (nl.map Sl.d), .str w]] := rfl;rw [ed] at h1 ⊢;refine ⟨⟨by simp [set_cons_zero, List.replicate], rfl⟩, tor_by false false (fun K hK => ?_) (fun z K hK => ?_) _ ?_⟩
       ·walk_at "st"
       ·walk_at "st"
       ·exact h2 rfl
      | move nl a =>
       have n1 := str_ne (a := "move") (b := "put") (by decide +kernel)
       have ed : Sk.d ⟨pen, num, time, .move nl a⟩ = .tup [.tup [.str pen, .int num], .int time, .tup [.str (Str.ofString "move"), .tup (nl.map Sl.d), .tup [.str a.pen, .int a.n, .int a.k]]] := rfl;rw [ed] at h1 ⊢;refine ⟨⟨by simp [set_cons_zero, List.replicate], rfl⟩, tor_by false true (fun K hK => ?_) (fun z K hK => ?_) _ ?_⟩
       ·walk_at "st"
       ·walk_at "st"
       ·exact h1 rfl _ rfl
     ·dsimp only;have ek : ((sks.map Sk.d).filter laysD).map id = (sks.filter lays).map Sk.d := by
       rw [List.map_id, List.filter_map];congr 1;exact List.filter_congr fun s _ => lays_d s
      rw [ek];clear ek;have lf : (sks.filter lays).length <= sks.length := List.length_filter_le _ _;have sf : ∀ s ∈ sks.filter lays, s ∈ sks := fun s hs' => (mem_filter.mp hs').1;have bare : rowOf x.length (srt.filter lays) = rowOf x.length srt := by
       unfold rowOf rowW;rw [row_bare srt _ fun s _ e => ?_];obtain ⟨pen, num, time, act⟩ := s;cases act with
       | put a w => cases e
       | move nl a => cases e
       | _ => rfl
      walk_at "st";refine ⟨sks, sks, ⟨rfl, by walk_at "o", one, by walk_at "o", by walk_at "o", fun s hs' => hs', ok⟩, fun o1 G8 _ s1 m1 => ?_⟩
      have e1 : o1 = srt := same s1 st fun s => (m1 s).trans (ms s).symm;rw [e1];refine ⟨prow, prow, ?_⟩;rw [eqb_self, if_pos rfl];refine ⟨sks.filter lays, sks, ⟨rfl, by walk_at "o", sub sf, by walk_at "o", by walk_at "o", sf, fun s hs' => ok s (sf s hs')⟩, fun o2 G9 _ s2 m2 => ?_⟩
      have e2 : o2 = srt.filter lays := same s2 (List.Pairwise.sublist (List.filter_sublist.map Sk.rw) st) fun s => by
       rw [m2 s, mem_filter, mem_filter, ms s]
      rw [e2, bare];refine ⟨prow, prow, ?_⟩;rw [eqb_self, if_pos rfl];have dbl : ∀ s ∈ sks ++ sks, s ∈ sks := fun s hs' => (mem_append.mp hs').elim id id;refine ⟨by rw [length_map]; walk_at "oo", sks ++ sks, sks, ⟨by rw [map_append], by walk_at "o", sub dbl, by rw [length_append]; walk_at "oo", by walk_at "o", dbl, fun s hs' => ok s (dbl s hs')⟩, fun o3 G10 _ s3 m3 => ?_⟩
      have e3 : o3 = srt := same s3 st fun s => (m3 s).trans ⟨fun z => (ms s).mpr (dbl s z), fun z => mem_append_left _ ((ms s).mp z)⟩;rw [e3];refine ⟨prow, prow, ?_⟩;rw [eqb_self];exact hq _
   ·refine sIf_by (eqb (.int (c / 189 % 3)) (.int 2)) (fun K hK => ?_) (ite2 (fun e => ?_) fun e => ?_)
    ·walk_at "st";exact ⟨⟨by decide, by decide⟩, by decide⟩
    ·walk_at "s1";have pk := pick_le sks none none (some 2);refine ⟨by decide, ?_, hNX _ _ ⟨pickA sks none none (some 2) ++ sks, ⟨?_, fun r => ?_⟩, ?_⟩⟩
     ·rw [pick_map, length_map, length_map]; walk_at "oo"
     ·rw [length_append]; walk_at "oo"
     ·rw [mem_append];exact ⟨fun z => z.elim pick_mem id, .inr⟩
     ·rw [map_append, pick_map]
    ·simp only [sNil];exact hNX _ _ ⟨hd0, ⟨by walk_at "o", mh0⟩, rfl⟩
  ·refine sIf_by (eqb (.int (c / 189 % 3)) (.int 1)) (fun K hK => ?_) (ite2 (fun e => ?_) fun e => ?_)
   ·walk_at "st";exact ⟨⟨by decide, by decide⟩, by decide⟩
   ·walk_at "s1";exact hNX _ _ ⟨sks.reverse, ⟨by rw [List.length_reverse]; walk_at "oo", fun s => List.mem_reverse⟩, by rw [List.map_reverse]⟩
   ·simp only [sNil];exact hNX _ _ ⟨sks, ⟨l30, fun _ => Iff.rfl⟩, rfl⟩
 ·exact h.elim
structure Tx (K : Frag) (mg : Str -> Option Value) (Z1 Z2 Z3 Z4 Z5 : Addr) : Prop where
 fa_anchor : ∀ C ∈ [Z1, Z2, Z3, Z4, Z5], Cls K C /\ NoAttr K C "anchor"
 fa_name : ∀ C ∈ [Z1, Z2, Z3, Z4, Z5], Cls K C /\ NoAttr K C "name"
 fa_names : ∀ C ∈ [Z1, Z2, Z3, Z4, Z5], Cls K C /\ NoAttr K C "names"
 fa_signs : ∀ C ∈ [Z1, Z2, Z3, Z4, Z5], Cls K C /\ NoAttr K C "signs"
 fa_time : ∀ C ∈ [Z1, Z2, Z3, Z4, Z5], Cls K C /\ NoAttr K C "time"
 fa_word : ∀ C ∈ [Z1, Z2, Z3, Z4, Z5], Cls K C /\ NoAttr K C "word"
 cl_Stroke : Cls K Z1
 cl_Put : Cls K Z2
 cl_Strike : Cls K Z3
 cl_Dress : Cls K Z4
 cl_Move : Cls K Z5
 b_isinstance : mg "isinstance" = none
 b_len : mg "len" = none
 b_list : mg "list" = none
 b_range : mg "range" = none
 b_reversed : mg "reversed" = none
 b_sorted : mg "sorted" = none
 b_tuple : mg "tuple" = none
 k_START : ConstIs K mg "START" k_START
section
variable {P : Program} {w : World} {K : Frag} {mg : Str -> Option Value} {base : Heap}
theorem ok__law_cell_at {f : Addr} {fd : FuncData} {Z1 Z2 Z3 Z4 Z5 : Addr} (F : Fun3 K "_law_cell_at" "_law_cell_at" s__law_cell_at f fd) (T : Tx K mg Z1 Z2 Z3 Z4 Z5) 
  (rok : ∀ ds G Q, sp__law_cell_at Z1 Z2 Z3 Z4 Z5 (hwOf P w) ds G Q -> rd__law_cell_at Z1 Z2 Z3 Z4 Z5 (hwOf P w) { nx := fun _ G' => Q .non G', rt := Q } (start3 ["_law_script", "_law_k"] ds) G) (len : ∀ ds G Q, sp__law_cell_at Z1 Z2 Z3 Z4 Z5 (hwOf P w) ds G Q -> ds.length = 2) : FnOk P w K mg base CX0 1 f fd ["_law_script", "_law_k"] (liftSp K (sp__law_cell_at Z1 Z2 Z3 Z4 Z5 (hwOf P w))) := by
 refine Fun3.ok3 F sc__law_cell_at len (fun cdv A outer s H E hr => ⟨rd__law_cell_at Z1 Z2 Z3 Z4 Z5 (hwOf P w), ?_, rok⟩);have hu8 : (A.deeper (envOfC "_law_cell_at" (defScope s__law_cell_at) s.heap.objs.size f cdv)).units + 8 < cLine := by have := hr.units; walk_at "oo"
 have hu4 : (A.deeper (envOfC "_law_cell_at" (defScope s__law_cell_at) s.heap.objs.size f cdv)).units + 4 < cLine := by walk_at "o"
 unfold rd__law_cell_at;exact (q_cons (q_if (p_tcmp x_lt (p_v 1) (p_callB b_len (by rfl) T.b_len PySem.boot_len (a_cons (p_v 0) a_nil)) (nomark _)) (q_one (q_ret (p_ix (p_v 0) (p_v 1)))) q_nil)
   (q_one (q_ret p_int)))
theorem ok__law_stream {f : Addr} {fd : FuncData} {Z1 Z2 Z3 Z4 Z5 : Addr} (F : Fun3 K "_law_stream" "_law_stream" s__law_stream f fd) (T : Tx K mg Z1 Z2 Z3 Z4 Z5) 
  (rok : ∀ ds G Q, sp__law_stream Z1 Z2 Z3 Z4 Z5 (hwOf P w) ds G Q -> rd__law_stream Z1 Z2 Z3 Z4 Z5 (hwOf P w) { nx := fun _ G' => Q .non G', rt := Q } (start3 ["_law_cell", "_law_many", "_law_found", "_law_number", "_law_k"] ds) G) (len : ∀ ds G Q, sp__law_stream Z1 Z2 Z3 Z4 Z5 (hwOf P w) ds G Q -> ds.length = 2) : FnOk P w K mg base CX0 1 f fd ["_law_cell", "_law_many"] (liftSp K (sp__law_stream Z1 Z2 Z3 Z4 Z5 (hwOf P w))) := by
 refine Fun3.ok3 F sc__law_stream len (fun cdv A outer s H E hr => ⟨rd__law_stream Z1 Z2 Z3 Z4 Z5 (hwOf P w), ?_, rok⟩);have hu8 : (A.deeper (envOfC "_law_stream" (defScope s__law_stream) s.heap.objs.size f cdv)).units + 8 < cLine := by have := hr.units; walk_at "oo"
 have hu4 : (A.deeper (envOfC "_law_stream" (defScope s__law_stream) s.heap.objs.size f cdv)).units + 4 < cLine := by walk_at "o"
 unfold rd__law_stream;exact (q_cons (q_own (i := 2) sc__law_stream.nd rfl (by first | exact Or.inl rfl | exact Or.inr rfl) (p_lst a_nil))
   (q_cons (q_set (i := 3) sc__law_stream.nd rfl (by first | exact Or.inl rfl | exact Or.inr rfl) (p_op x_mod (p_op x_mul (p_op x_add (p_v 0) p_int) p_int) p_int))
   (q_cons (q_for PassesOwn.never rfl (i_range1 (by rfl) T.b_range (a_cons (p_v 1) a_nil)) (g_name (i := 4) sc__law_stream.nd rfl (by first | exact Or.inl rfl | exact Or.inr rfl)) (q_cons (q_set (i := 3) sc__law_stream.nd rfl (by first | exact Or.inl rfl | exact Or.inr rfl) (p_op x_mod (p_op x_mul (p_op x_add (p_op x_add (p_v 3) (p_op x_mul p_int (p_v 4))) p_int) (p_op x_add (p_op x_div (p_v 3) p_int) p_int)) p_int))
   (q_one (q_expr (p_append (p_v 2) (a_cons (p_v 3) a_nil))))))
   (q_one (q_retOwn (i := 2) rfl (by first | exact Or.inl rfl | exact Or.inr (Or.inl rfl)))))))
theorem ok__law_made {f : Addr} {fd : FuncData} {Z1 Z2 Z3 Z4 Z5 : Addr} (F : Fun3 K "_law_made" "_law_made" s__law_made f fd) (T : Tx K mg Z1 Z2 Z3 Z4 Z5) 
  (rok : ∀ ds G Q, sp__law_made Z1 Z2 Z3 Z4 Z5 (hwOf P w) ds G Q -> rd__law_made Z1 Z2 Z3 Z4 Z5 (hwOf P w) { nx := fun _ G' => Q .non G', rt := Q } (start3 ["_law_row", "_law_name", "_law_time", "_law_act"] ds) G) (len : ∀ ds G Q, sp__law_made Z1 Z2 Z3 Z4 Z5 (hwOf P w) ds G Q -> ds.length = 1) : FnOk P w K mg base CX0 1 f fd ["_law_row"] (liftSp K (sp__law_made Z1 Z2 Z3 Z4 Z5 (hwOf P w))) := by
 refine Fun3.ok3 F sc__law_made len (fun cdv A outer s H E hr => ⟨rd__law_made Z1 Z2 Z3 Z4 Z5 (hwOf P w), ?_, rok⟩);have hu8 : (A.deeper (envOfC "_law_made" (defScope s__law_made) s.heap.objs.size f cdv)).units + 8 < cLine := by have := hr.units; walk_at "oo"
 have hu4 : (A.deeper (envOfC "_law_made" (defScope s__law_made) s.heap.objs.size f cdv)).units + 4 < cLine := by walk_at "o"
 unfold rd__law_made;exact (q_cons (q_asg (p_v 0) (g_tup (n := 3) rfl (g_cons (g_name (i := 1) sc__law_made.nd rfl (by first | exact Or.inl rfl | exact Or.inr rfl)) (g_cons (g_name (i := 2) sc__law_made.nd rfl (by first | exact Or.inl rfl | exact Or.inr rfl)) (g_cons (g_name (i := 3) sc__law_made.nd rfl (by first | exact Or.inl rfl | exact Or.inr rfl)) g_nil)))))
   (q_cons (q_if (p_tcmpV (x_eq hu8) (p_ix (p_v 3) p_int) p_str (nomark _)) (q_one (q_ret (p_comp (T := ["_law_k"]) (M := ["_law_row", "_law_name", "_law_time", "_law_act"]) (compOk_of rfl (by kernel_rfl)) (fun cl C s₀ H₀ fp => ⟨(g_name (i := 0) nd__law_made_1 rfl (by first | exact Or.inl rfl | exact Or.inr rfl)), ts_nil, (p_tup (a_cons (p_ix (p_v 2) p_int) (a_cons (p_ix (p_v 2) p_int) (a_cons (p_op x_add (p_v 0) p_int) a_nil))))⟩) (i_range1 (by rfl) T.b_range (a_cons (p_callB b_len (by rfl) T.b_len PySem.boot_len (a_cons (p_ix (p_v 3) p_int) a_nil)) a_nil))))) q_nil)
   (q_cons (q_if (p_tcmpV (x_eq hu8) (p_ix (p_v 3) p_int) p_str (nomark _)) (q_one (q_ret (p_comp (T := ["_law_k"]) (M := ["_law_row", "_law_name", "_law_time", "_law_act"]) (compOk_of rfl (by kernel_rfl)) (fun cl C s₀ H₀ fp => ⟨(g_name (i := 0) nd__law_made_2 rfl (by first | exact Or.inl rfl | exact Or.inr rfl)), ts_nil, (p_tup (a_cons (p_ix (p_v 2) p_int) (a_cons (p_ix (p_v 2) p_int) (a_cons (p_op x_add (p_v 0) p_int) a_nil))))⟩) (i_range1 (by rfl) T.b_range (a_cons (p_callB b_len (by rfl) T.b_len PySem.boot_len (a_cons (p_ix (p_v 3) p_int) a_nil)) a_nil))))) q_nil)
   (q_one (q_ret (p_lst a_nil))))))
theorem ok__law_strokes {f : Addr} {fd : FuncData} {Z1 Z2 Z3 Z4 Z5 : Addr} (F : Fun3 K "_law_strokes" "_law_strokes" s__law_strokes f fd) (T : Tx K mg Z1 Z2 Z3 Z4 Z5) (F__law_made : Fn3 P w K mg base 1 "_law_made" [] (sp__law_made Z1 Z2 Z3 Z4 Z5 (hwOf P w))) (F__law_stream : Fn3 P w K mg base 1 "_law_stream" [] (sp__law_stream Z1 Z2 Z3 Z4 Z5 (hwOf P w)))
  (rok : ∀ ds G Q, sp__law_strokes Z1 Z2 Z3 Z4 Z5 (hwOf P w) ds G Q -> rd__law_strokes Z1 Z2 Z3 Z4 Z5 (hwOf P w) { nx := fun _ G' => Q .non G', rt := Q } (start3 ["_law_cells", "_law_pens", "_law_old", "_law_slots", "_law_rows", "_law_many", "_law_cell", "_law_xs", "_law_pen", "_law_name", "_law_anchor", "_law_names", "_law_some", "_law_act"] ds) G) (len : ∀ ds G Q, sp__law_strokes Z1 Z2 Z3 Z4 Z5 (hwOf P w) ds G Q -> ds.length = 3) : FnOk P w K mg base CX0 2 f fd ["_law_cells", "_law_pens", "_law_old"] (liftSp K (sp__law_strokes Z1 Z2 Z3 Z4 Z5 (hwOf P w))) := by
 refine Fun3.ok3 F sc__law_strokes len (fun cdv A outer s H E hr => ⟨rd__law_strokes Z1 Z2 Z3 Z4 Z5 (hwOf P w), ?_, rok⟩);have hu8 : (A.deeper (envOfC "_law_strokes" (defScope s__law_strokes) s.heap.objs.size f cdv)).units + 8 < cLine := by have := hr.units; walk_at "oo"
 have hu4 : (A.deeper (envOfC "_law_strokes" (defScope s__law_strokes) s.heap.objs.size f cdv)).units + 4 < cLine := by walk_at "o"
 unfold rd__law_strokes;exact (q_cons (q_set (i := 3) sc__law_strokes.nd rfl (by first | exact Or.inl rfl | exact Or.inr rfl) (p_op x_add (p_lst (a_cons (p_tup (a_cons p_str (a_cons p_int (a_cons p_int a_nil)))) a_nil)) (p_comp (T := ["_law_k"]) (M := ["_law_cells", "_law_pens", "_law_old", "_law_slots", "_law_rows", "_law_many", "_law_cell", "_law_xs", "_law_pen", "_law_name", "_law_anchor", "_law_names", "_law_some", "_law_act"]) (compOk_of rfl (by kernel_rfl)) (fun cl C s₀ H₀ fp => ⟨(g_name (i := 0) nd__law_strokes_1 rfl (by first | exact Or.inl rfl | exact Or.inr rfl)), ts_nil, (p_tup (a_cons p_str (a_cons p_int (a_cons (p_op x_add (p_v 0) p_int) a_nil))))⟩) (i_range1 (by rfl) T.b_range (a_cons (p_callB b_len (by rfl) T.b_len PySem.boot_len (a_cons (p_v 2) a_nil)) a_nil)))))
   (q_cons (q_own (i := 4) sc__law_strokes.nd rfl (by first | exact Or.inl rfl | exact Or.inr rfl) (p_lst a_nil))
   (q_cons (q_set (i := 5) sc__law_strokes.nd rfl (by first | exact Or.inl rfl | exact Or.inr rfl) p_dctK)
   (q_cons (q_for PassesOwn.never rfl (i_seq (p_v 0)) (g_name (i := 6) sc__law_strokes.nd rfl (by first | exact Or.inl rfl | exact Or.inr rfl)) (q_cons (q_set (i := 7) sc__law_strokes.nd rfl (by first | exact Or.inl rfl | exact Or.inr rfl) (p_call F__law_stream (hr.mono (by decide)) (by rfl) (a_cons (p_v 6) (a_cons p_int a_nil))))
   (q_cons (q_set (i := 8) sc__law_strokes.nd rfl (by first | exact Or.inl rfl | exact Or.inr rfl) (p_ix (p_v 1) (p_op x_mod (p_ix (p_v 7) p_int) (p_callB b_len (by rfl) T.b_len PySem.boot_len (a_cons (p_v 1) a_nil)))))
   (q_cons (q_setI hu8 (p_v 5) (p_v 8) (p_op x_add (p_dget2 hu8 (p_v 5) (p_v 8) p_int) p_int))
   (q_cons (q_set (i := 9) sc__law_strokes.nd rfl (by first | exact Or.inl rfl | exact Or.inr rfl) (p_tup (a_cons (p_v 8) (a_cons (p_dix hu8 (p_v 5) (p_v 8)) a_nil))))
   (q_cons (q_set (i := 10) sc__law_strokes.nd rfl (by first | exact Or.inl rfl | exact Or.inr rfl) (p_ix (p_v 3) (p_op x_mod (p_ix (p_v 7) p_int) (p_callB b_len (by rfl) T.b_len PySem.boot_len (a_cons (p_v 3) a_nil)))))
   (q_cons (q_set (i := 11) sc__law_strokes.nd rfl (by first | exact Or.inl rfl | exact Or.inr rfl) (p_callTy b_tuple (by rfl) T.b_tuple PyProof.Rows.boot_tuple (a_cons (p_comp (T := ["_law_k"]) (M := ["_law_cells", "_law_pens", "_law_old", "_law_slots", "_law_rows", "_law_many", "_law_cell", "_law_xs", "_law_pen", "_law_name", "_law_anchor", "_law_names", "_law_some", "_law_act"]) (compOk_of rfl (by kernel_rfl)) (fun cl C s₀ H₀ fp => ⟨(g_name (i := 0) nd__law_strokes_2 rfl (by first | exact Or.inl rfl | exact Or.inr rfl)), ts_nil, (p_tup (a_cons p_str (a_cons p_int (a_cons (p_op x_add p_int (p_op x_mod (p_op x_add (p_ix (p_v 8) p_int) (p_v 0)) p_int)) a_nil))))⟩) (i_range1 (by rfl) T.b_range (a_cons (p_op x_add p_int (p_op x_mod (p_ix (p_v 7) p_int) p_int)) a_nil))) a_nil)))
   (q_cons (q_set (i := 12) sc__law_strokes.nd rfl (by first | exact Or.inl rfl | exact Or.inr rfl) (p_lst (a_cons (p_tup (a_cons p_str (a_cons (p_v 10) (a_cons (p_slice x_sl p_str o_none (o_some (p_op x_add p_int (p_op x_mod (p_ix (p_v 7) p_int) p_int)))) a_nil)))) (a_cons (p_tup (a_cons p_str (a_cons (p_v 11) (a_cons (p_v 10) a_nil)))) (a_cons (p_tup (a_cons p_str (a_cons (p_v 10) (a_cons p_str a_nil)))) a_nil)))))
   (q_cons (q_set (i := 13) sc__law_strokes.nd rfl (by first | exact Or.inl rfl | exact Or.inr rfl) (p_ix (p_op x_add (p_v 12) (p_lst (a_cons (p_tup (a_cons p_str (a_cons (p_v 11) (a_cons (p_v 10) a_nil)))) (a_cons (p_tup (a_cons p_str (a_cons (p_v 11) a_nil))) (a_cons (p_tup (a_cons p_str (a_cons (p_v 11) (a_cons p_str a_nil)))) a_nil))))) (p_op x_mod (p_ix (p_v 7) p_int) p_int)))
   (q_cons (q_expr (p_append (p_v 4) (a_cons (p_tup (a_cons (p_v 9) (a_cons (p_op x_add p_int (p_op x_mod (p_ix (p_v 7) p_int) p_int)) (a_cons (p_v 13) a_nil)))) a_nil)))
   (q_one (q_set (i := 3) sc__law_strokes.nd rfl (by first | exact Or.inl rfl | exact Or.inr rfl) (p_op x_add (p_v 3) (p_call F__law_made (hr.mono (by decide)) (by rfl) (a_cons (p_ix (p_v 4) (p_neg p_int)) a_nil)))))))))))))))
   (q_one (q_retOwn (i := 4) rfl (by first | exact Or.inl rfl | exact Or.inr (Or.inl rfl))))))))
theorem ok_lay_behind {f : Addr} {fd : FuncData} {Z1 Z2 Z3 Z4 Z5 : Addr} (F : Fun3 K "lay_behind" "lay_behind" s_lay_behind f fd) (T : Tx K mg Z1 Z2 Z3 Z4 Z5) 
  (rok : ∀ ds G Q, sp_lay_behind Z1 Z2 Z3 Z4 Z5 (hwOf P w) ds G Q -> rd_lay_behind Z1 Z2 Z3 Z4 Z5 (hwOf P w) { nx := fun _ G' => Q .non G', rt := Q } (start3 ["following", "anchor", "slots", "behind", "slot"] ds) G) (len : ∀ ds G Q, sp_lay_behind Z1 Z2 Z3 Z4 Z5 (hwOf P w) ds G Q -> ds.length = 3) : FnOk P w K mg base CX0 1 f fd ["following", "anchor", "slots"] (liftSp K (sp_lay_behind Z1 Z2 Z3 Z4 Z5 (hwOf P w))) := by
 refine Fun3.ok3 F sc_lay_behind len (fun cdv A outer s H E hr => ⟨rd_lay_behind Z1 Z2 Z3 Z4 Z5 (hwOf P w), ?_, rok⟩);have hu8 : (A.deeper (envOfC "lay_behind" (defScope s_lay_behind) s.heap.objs.size f cdv)).units + 8 < cLine := by have := hr.units; walk_at "oo"
 have hu4 : (A.deeper (envOfC "lay_behind" (defScope s_lay_behind) s.heap.objs.size f cdv)).units + 4 < cLine := by walk_at "o"
 unfold rd_lay_behind;exact (q_cons (q_set (i := 3) sc_lay_behind.nd rfl (by first | exact Or.inl rfl | exact Or.inr rfl) (p_v 1))
   (q_one (q_for PassesOwn.never rfl (i_seq (p_v 2)) (g_name (i := 4) sc_lay_behind.nd rfl (by first | exact Or.inl rfl | exact Or.inr rfl)) (q_cons (q_setI hu8 (p_v 0) (p_v 4) (p_dix hu8 (p_v 0) (p_v 3)))
   (q_cons (q_setI hu8 (p_v 0) (p_v 3) (p_v 4))
   (q_one (q_set (i := 3) sc_lay_behind.nd rfl (by first | exact Or.inl rfl | exact Or.inr rfl) (p_v 4))))))))
theorem ok_slots_made {f : Addr} {fd : FuncData} {Z1 Z2 Z3 Z4 Z5 : Addr} (F : Fun3 K "slots_made" "slots_made" s_slots_made f fd) (T : Tx K mg Z1 Z2 Z3 Z4 Z5) 
  (rok : ∀ ds G Q, sp_slots_made Z1 Z2 Z3 Z4 Z5 (hwOf P w) ds G Q -> rd_slots_made Z1 Z2 Z3 Z4 Z5 (hwOf P w) { nx := fun _ G' => Q .non G', rt := Q } (start3 ["name", "how_many"] ds) G) (len : ∀ ds G Q, sp_slots_made Z1 Z2 Z3 Z4 Z5 (hwOf P w) ds G Q -> ds.length = 2) : FnOk P w K mg base CX0 1 f fd ["name", "how_many"] (liftSp K (sp_slots_made Z1 Z2 Z3 Z4 Z5 (hwOf P w))) := by
 refine Fun3.ok3 F sc_slots_made len (fun cdv A outer s H E hr => ⟨rd_slots_made Z1 Z2 Z3 Z4 Z5 (hwOf P w), ?_, rok⟩);have hu8 : (A.deeper (envOfC "slots_made" (defScope s_slots_made) s.heap.objs.size f cdv)).units + 8 < cLine := by have := hr.units; walk_at "oo"
 have hu4 : (A.deeper (envOfC "slots_made" (defScope s_slots_made) s.heap.objs.size f cdv)).units + 4 < cLine := by walk_at "o"
 unfold rd_slots_made;exact (q_one (q_ret (p_comp (T := ["k"]) (M := ["name", "how_many"]) (compOk_of rfl (by kernel_rfl)) (fun cl C s₀ H₀ fp => ⟨(g_name (i := 0) nd_slots_made_1 rfl (by first | exact Or.inl rfl | exact Or.inr rfl)), ts_nil, (p_op x_add (p_v 1) (p_tup (a_cons (p_v 0) a_nil)))⟩) (i_range2 (by rfl) T.b_range (a_cons p_int (a_cons (p_op x_add (p_v 1) p_int) a_nil))))))
theorem ok_old_slots {f : Addr} {fd : FuncData} {Z1 Z2 Z3 Z4 Z5 : Addr} (F : Fun3 K "old_slots" "old_slots" s_old_slots f fd) (T : Tx K mg Z1 Z2 Z3 Z4 Z5) (F_slots_made : Fn3 P w K mg base 1 "slots_made" [] (sp_slots_made Z1 Z2 Z3 Z4 Z5 (hwOf P w)))
  (rok : ∀ ds G Q, sp_old_slots Z1 Z2 Z3 Z4 Z5 (hwOf P w) ds G Q -> rd_old_slots Z1 Z2 Z3 Z4 Z5 (hwOf P w) { nx := fun _ G' => Q .non G', rt := Q } (start3 ["old"] ds) G) (len : ∀ ds G Q, sp_old_slots Z1 Z2 Z3 Z4 Z5 (hwOf P w) ds G Q -> ds.length = 1) : FnOk P w K mg base CX0 2 f fd ["old"] (liftSp K (sp_old_slots Z1 Z2 Z3 Z4 Z5 (hwOf P w))) := by
 refine Fun3.ok3 F sc_old_slots len (fun cdv A outer s H E hr => ⟨rd_old_slots Z1 Z2 Z3 Z4 Z5 (hwOf P w), ?_, rok⟩);have hu8 : (A.deeper (envOfC "old_slots" (defScope s_old_slots) s.heap.objs.size f cdv)).units + 8 < cLine := by have := hr.units; walk_at "oo"
 have hu4 : (A.deeper (envOfC "old_slots" (defScope s_old_slots) s.heap.objs.size f cdv)).units + 4 < cLine := by walk_at "o"
 unfold rd_old_slots;exact (q_one (q_ret (p_call F_slots_made (hr.mono (by decide)) (by rfl) (a_cons (p_slice x_sl (p_constT (by rfl) T.k_START) o_none (o_some p_int)) (a_cons (p_callB b_len (by rfl) T.b_len PySem.boot_len (a_cons (p_v 0) a_nil)) a_nil)))))
theorem ok_place_in_order {f : Addr} {fd : FuncData} {Z1 Z2 Z3 Z4 Z5 : Addr} (F : Fun3 K "place_in_order" "place_in_order" s_place_in_order f fd) (T : Tx K mg Z1 Z2 Z3 Z4 Z5) 
  (rok : ∀ ds G Q, sp_place_in_order Z1 Z2 Z3 Z4 Z5 (hwOf P w) ds G Q -> rd_place_in_order Z1 Z2 Z3 Z4 Z5 (hwOf P w) { nx := fun _ G' => Q .non G', rt := Q } (start3 ["row"] ds) G) (len : ∀ ds G Q, sp_place_in_order Z1 Z2 Z3 Z4 Z5 (hwOf P w) ds G Q -> ds.length = 1) : FnOk P w K mg base CX0 1 f fd ["row"] (liftSp K (sp_place_in_order Z1 Z2 Z3 Z4 Z5 (hwOf P w))) := by
 refine Fun3.ok3 F sc_place_in_order len (fun cdv A outer s H E hr => ⟨rd_place_in_order Z1 Z2 Z3 Z4 Z5 (hwOf P w), ?_, rok⟩);have hu8 : (A.deeper (envOfC "place_in_order" (defScope s_place_in_order) s.heap.objs.size f cdv)).units + 8 < cLine := by have := hr.units; walk_at "oo"
 have hu4 : (A.deeper (envOfC "place_in_order" (defScope s_place_in_order) s.heap.objs.size f cdv)).units + 4 < cLine := by walk_at "o"
 unfold rd_place_in_order;exact (q_one (q_ret (p_tup (a_cons (p_ix (p_v 0) p_int) (a_cons (p_ix (p_v 0) p_int) a_nil)))))
theorem ok_in_order {f : Addr} {fd : FuncData} {Z1 Z2 Z3 Z4 Z5 : Addr} (F : Fun3 K "in_order" "in_order" s_in_order f fd) (T : Tx K mg Z1 Z2 Z3 Z4 Z5) (F_place_in_order : Fn3 P w K mg base 1 "place_in_order" [] (sp_place_in_order Z1 Z2 Z3 Z4 Z5 (hwOf P w)))
  (rok : ∀ ds G Q, sp_in_order Z1 Z2 Z3 Z4 Z5 (hwOf P w) ds G Q -> rd_in_order Z1 Z2 Z3 Z4 Z5 (hwOf P w) { nx := fun _ G' => Q .non G', rt := Q } (start3 ["rows", "by_name", "row"] ds) G) (len : ∀ ds G Q, sp_in_order Z1 Z2 Z3 Z4 Z5 (hwOf P w) ds G Q -> ds.length = 1) : FnOk P w K mg base CX0 4 f fd ["rows"] (liftSp K (sp_in_order Z1 Z2 Z3 Z4 Z5 (hwOf P w))) := by
 refine Fun3.ok3 F sc_in_order len (fun cdv A outer s H E hr => ⟨rd_in_order Z1 Z2 Z3 Z4 Z5 (hwOf P w), ?_, rok⟩);have hu8 : (A.deeper (envOfC "in_order" (defScope s_in_order) s.heap.objs.size f cdv)).units + 8 < cLine := by have := hr.units; walk_at "oo"
 have hu4 : (A.deeper (envOfC "in_order" (defScope s_in_order) s.heap.objs.size f cdv)).units + 4 < cLine := by walk_at "o"
 unfold rd_in_order;exact (q_cons (q_set (i := 1) sc_in_order.nd rfl (by first | exact Or.inl rfl | exact Or.inr rfl) p_dctT)
   (q_cons (q_for PassesOwn.never rfl (i_seq (p_v 0)) (g_name (i := 2) sc_in_order.nd rfl (by first | exact Or.inl rfl | exact Or.inr rfl)) (q_one (q_setI hu8 (p_v 1) (p_ix (p_v 2) p_int) (p_v 2))))
   (q_one (q_ret (p_sortV F_place_in_order (hr.mono (by decide)) rfl (by rfl) (by rfl) T.b_sorted (p_v 1))))))
theorem ok_Stroke___init__ {f : Addr} {fd : FuncData} {Z1 Z2 Z3 Z4 Z5 : Addr} (F : Fun3 K "__init__" "Stroke.__init__" s_Stroke___init__ f fd) (T : Tx K mg Z1 Z2 Z3 Z4 Z5) 
  (rok : ∀ ds G Q, sp_Stroke___init__ Z1 Z2 Z3 Z4 Z5 (hwOf P w) ds G Q -> rd_Stroke___init__ Z1 Z2 Z3 Z4 Z5 (hwOf P w) { nx := fun _ G' => Q .non G', rt := Q } (start3 ["self", "name", "time"] ds) G) (len : ∀ ds G Q, sp_Stroke___init__ Z1 Z2 Z3 Z4 Z5 (hwOf P w) ds G Q -> ds.length = 3) : FnOk P w K mg base CX0 1 f fd ["self", "name", "time"] (liftSp K (sp_Stroke___init__ Z1 Z2 Z3 Z4 Z5 (hwOf P w))) := by
 refine Fun3.ok3 F sc_Stroke___init__ len (fun cdv A outer s H E hr => ⟨rd_Stroke___init__ Z1 Z2 Z3 Z4 Z5 (hwOf P w), ?_, rok⟩);have hu8 : (A.deeper (envOfC "Stroke.__init__" (defScope s_Stroke___init__) s.heap.objs.size f cdv)).units + 8 < cLine := by have := hr.units; walk_at "oo"
 have hu4 : (A.deeper (envOfC "Stroke.__init__" (defScope s_Stroke___init__) s.heap.objs.size f cdv)).units + 4 < cLine := by walk_at "o"
 unfold rd_Stroke___init__;exact (q_cons (q_fldA T.fa_name (p_v 0) (p_v 1))
   (q_cons (q_fldA T.fa_time (p_v 0) (p_v 2))
   (q_cons (q_fldA T.fa_anchor (p_v 0) (p_constT (by rfl) T.k_START))
   (q_one (q_fldA T.fa_names (p_v 0) (p_tup a_nil))))))
theorem ok_Put___init__ {f : Addr} {fd : FuncData} {Z1 Z2 Z3 Z4 Z5 : Addr} (F : Fun3 K "__init__" "Put.__init__" s_Put___init__ f fd) (T : Tx K mg Z1 Z2 Z3 Z4 Z5) (Cf_Stroke___init__ : Cf3 P w K mg base 1 "Stroke" "__init__" [] (sp_Stroke___init__ Z1 Z2 Z3 Z4 Z5 (hwOf P w)))
  (rok : ∀ ds G Q, sp_Put___init__ Z1 Z2 Z3 Z4 Z5 (hwOf P w) ds G Q -> rd_Put___init__ Z1 Z2 Z3 Z4 Z5 (hwOf P w) { nx := fun _ G' => Q .non G', rt := Q } (start3 ["self", "name", "time", "anchor", "signs"] ds) G) (len : ∀ ds G Q, sp_Put___init__ Z1 Z2 Z3 Z4 Z5 (hwOf P w) ds G Q -> ds.length = 5) : FnOk P w K mg base CX0 2 f fd ["self", "name", "time", "anchor", "signs"] (liftSp K (sp_Put___init__ Z1 Z2 Z3 Z4 Z5 (hwOf P w))) := by
 refine Fun3.ok3 F sc_Put___init__ len (fun cdv A outer s H E hr => ⟨rd_Put___init__ Z1 Z2 Z3 Z4 Z5 (hwOf P w), ?_, rok⟩);have hu8 : (A.deeper (envOfC "Put.__init__" (defScope s_Put___init__) s.heap.objs.size f cdv)).units + 8 < cLine := by have := hr.units; walk_at "oo"
 have hu4 : (A.deeper (envOfC "Put.__init__" (defScope s_Put___init__) s.heap.objs.size f cdv)).units + 4 < cLine := by walk_at "o"
 unfold rd_Put___init__;exact (q_cons (q_expr (p_clsCall Cf_Stroke___init__ (hr.mono (by decide)) (by rfl) (a_cons (p_v 0) (a_cons (p_v 1) (a_cons (p_v 2) a_nil)))))
   (q_cons (q_fldA T.fa_anchor (p_v 0) (p_v 3))
   (q_one (q_fldA T.fa_signs (p_v 0) (p_v 4)))))
theorem ok_Strike___init__ {f : Addr} {fd : FuncData} {Z1 Z2 Z3 Z4 Z5 : Addr} (F : Fun3 K "__init__" "Strike.__init__" s_Strike___init__ f fd) (T : Tx K mg Z1 Z2 Z3 Z4 Z5) (Cf_Stroke___init__ : Cf3 P w K mg base 1 "Stroke" "__init__" [] (sp_Stroke___init__ Z1 Z2 Z3 Z4 Z5 (hwOf P w)))
  (rok : ∀ ds G Q, sp_Strike___init__ Z1 Z2 Z3 Z4 Z5 (hwOf P w) ds G Q -> rd_Strike___init__ Z1 Z2 Z3 Z4 Z5 (hwOf P w) { nx := fun _ G' => Q .non G', rt := Q } (start3 ["self", "name", "time", "names"] ds) G) (len : ∀ ds G Q, sp_Strike___init__ Z1 Z2 Z3 Z4 Z5 (hwOf P w) ds G Q -> ds.length = 4) : FnOk P w K mg base CX0 2 f fd ["self", "name", "time", "names"] (liftSp K (sp_Strike___init__ Z1 Z2 Z3 Z4 Z5 (hwOf P w))) := by
 refine Fun3.ok3 F sc_Strike___init__ len (fun cdv A outer s H E hr => ⟨rd_Strike___init__ Z1 Z2 Z3 Z4 Z5 (hwOf P w), ?_, rok⟩);have hu8 : (A.deeper (envOfC "Strike.__init__" (defScope s_Strike___init__) s.heap.objs.size f cdv)).units + 8 < cLine := by have := hr.units; walk_at "oo"
 have hu4 : (A.deeper (envOfC "Strike.__init__" (defScope s_Strike___init__) s.heap.objs.size f cdv)).units + 4 < cLine := by walk_at "o"
 unfold rd_Strike___init__;exact (q_cons (q_expr (p_clsCall Cf_Stroke___init__ (hr.mono (by decide)) (by rfl) (a_cons (p_v 0) (a_cons (p_v 1) (a_cons (p_v 2) a_nil)))))
   (q_one (q_fldA T.fa_names (p_v 0) (p_v 3))))
theorem ok_Dress___init__ {f : Addr} {fd : FuncData} {Z1 Z2 Z3 Z4 Z5 : Addr} (F : Fun3 K "__init__" "Dress.__init__" s_Dress___init__ f fd) (T : Tx K mg Z1 Z2 Z3 Z4 Z5) (Cf_Stroke___init__ : Cf3 P w K mg base 1 "Stroke" "__init__" [] (sp_Stroke___init__ Z1 Z2 Z3 Z4 Z5 (hwOf P w)))
  (rok : ∀ ds G Q, sp_Dress___init__ Z1 Z2 Z3 Z4 Z5 (hwOf P w) ds G Q -> rd_Dress___init__ Z1 Z2 Z3 Z4 Z5 (hwOf P w) { nx := fun _ G' => Q .non G', rt := Q } (start3 ["self", "name", "time", "names", "word"] ds) G) (len : ∀ ds G Q, sp_Dress___init__ Z1 Z2 Z3 Z4 Z5 (hwOf P w) ds G Q -> ds.length = 5) : FnOk P w K mg base CX0 2 f fd ["self", "name", "time", "names", "word"] (liftSp K (sp_Dress___init__ Z1 Z2 Z3 Z4 Z5 (hwOf P w))) := by
 refine Fun3.ok3 F sc_Dress___init__ len (fun cdv A outer s H E hr => ⟨rd_Dress___init__ Z1 Z2 Z3 Z4 Z5 (hwOf P w), ?_, rok⟩);have hu8 : (A.deeper (envOfC "Dress.__init__" (defScope s_Dress___init__) s.heap.objs.size f cdv)).units + 8 < cLine := by have := hr.units; walk_at "oo"
 have hu4 : (A.deeper (envOfC "Dress.__init__" (defScope s_Dress___init__) s.heap.objs.size f cdv)).units + 4 < cLine := by walk_at "o"
 unfold rd_Dress___init__;exact (q_cons (q_expr (p_clsCall Cf_Stroke___init__ (hr.mono (by decide)) (by rfl) (a_cons (p_v 0) (a_cons (p_v 1) (a_cons (p_v 2) a_nil)))))
   (q_cons (q_fldA T.fa_names (p_v 0) (p_v 3))
   (q_one (q_fldA T.fa_word (p_v 0) (p_v 4)))))
theorem ok_Move___init__ {f : Addr} {fd : FuncData} {Z1 Z2 Z3 Z4 Z5 : Addr} (F : Fun3 K "__init__" "Move.__init__" s_Move___init__ f fd) (T : Tx K mg Z1 Z2 Z3 Z4 Z5) (Cf_Stroke___init__ : Cf3 P w K mg base 1 "Stroke" "__init__" [] (sp_Stroke___init__ Z1 Z2 Z3 Z4 Z5 (hwOf P w)))
  (rok : ∀ ds G Q, sp_Move___init__ Z1 Z2 Z3 Z4 Z5 (hwOf P w) ds G Q -> rd_Move___init__ Z1 Z2 Z3 Z4 Z5 (hwOf P w) { nx := fun _ G' => Q .non G', rt := Q } (start3 ["self", "name", "time", "names", "anchor"] ds) G) (len : ∀ ds G Q, sp_Move___init__ Z1 Z2 Z3 Z4 Z5 (hwOf P w) ds G Q -> ds.length = 5) : FnOk P w K mg base CX0 2 f fd ["self", "name", "time", "names", "anchor"] (liftSp K (sp_Move___init__ Z1 Z2 Z3 Z4 Z5 (hwOf P w))) := by
 refine Fun3.ok3 F sc_Move___init__ len (fun cdv A outer s H E hr => ⟨rd_Move___init__ Z1 Z2 Z3 Z4 Z5 (hwOf P w), ?_, rok⟩);have hu8 : (A.deeper (envOfC "Move.__init__" (defScope s_Move___init__) s.heap.objs.size f cdv)).units + 8 < cLine := by have := hr.units; walk_at "oo"
 have hu4 : (A.deeper (envOfC "Move.__init__" (defScope s_Move___init__) s.heap.objs.size f cdv)).units + 4 < cLine := by walk_at "o"
 unfold rd_Move___init__;exact (q_cons (q_expr (p_clsCall Cf_Stroke___init__ (hr.mono (by decide)) (by rfl) (a_cons (p_v 0) (a_cons (p_v 1) (a_cons (p_v 2) a_nil)))))
   (q_cons (q_fldA T.fa_names (p_v 0) (p_v 3))
   (q_one (q_fldA T.fa_anchor (p_v 0) (p_v 4)))))
theorem ok_stroke_of {f : Addr} {fd : FuncData} {Z1 Z2 Z3 Z4 Z5 : Addr} (F : Fun3 K "stroke_of" "stroke_of" s_stroke_of f fd) (T : Tx K mg Z1 Z2 Z3 Z4 Z5) (M_Dress : Mk3 P w K mg base 2 "Dress" Z4 [] (sp_Dress___init__ Z1 Z2 Z3 Z4 Z5 (hwOf P w))) (M_Move : Mk3 P w K mg base 2 "Move" Z5 [] (sp_Move___init__ Z1 Z2 Z3 Z4 Z5 (hwOf P w))) (M_Put : Mk3 P w K mg base 2 "Put" Z2 [] (sp_Put___init__ Z1 Z2 Z3 Z4 Z5 (hwOf P w))) (M_Strike : Mk3 P w K mg base 2 "Strike" Z3 [] (sp_Strike___init__ Z1 Z2 Z3 Z4 Z5 (hwOf P w)))
  (rok : ∀ ds G Q, sp_stroke_of Z1 Z2 Z3 Z4 Z5 (hwOf P w) ds G Q -> rd_stroke_of Z1 Z2 Z3 Z4 Z5 (hwOf P w) { nx := fun _ G' => Q .non G', rt := Q } (start3 ["row", "name", "time", "act"] ds) G) (len : ∀ ds G Q, sp_stroke_of Z1 Z2 Z3 Z4 Z5 (hwOf P w) ds G Q -> ds.length = 1) : FnOk P w K mg base CX0 4 f fd ["row"] (liftSp K (sp_stroke_of Z1 Z2 Z3 Z4 Z5 (hwOf P w))) := by
 refine Fun3.ok3 F sc_stroke_of len (fun cdv A outer s H E hr => ⟨rd_stroke_of Z1 Z2 Z3 Z4 Z5 (hwOf P w), ?_, rok⟩);have hu8 : (A.deeper (envOfC "stroke_of" (defScope s_stroke_of) s.heap.objs.size f cdv)).units + 8 < cLine := by have := hr.units; walk_at "oo"
 have hu4 : (A.deeper (envOfC "stroke_of" (defScope s_stroke_of) s.heap.objs.size f cdv)).units + 4 < cLine := by walk_at "o"
 unfold rd_stroke_of;exact (q_cons (q_set (i := 1) sc_stroke_of.nd rfl (by first | exact Or.inl rfl | exact Or.inr rfl) (p_ix (p_v 0) p_int))
   (q_cons (q_set (i := 2) sc_stroke_of.nd rfl (by first | exact Or.inl rfl | exact Or.inr rfl) (p_ix (p_v 0) p_int))
   (q_cons (q_set (i := 3) sc_stroke_of.nd rfl (by first | exact Or.inl rfl | exact Or.inr rfl) (p_ix (p_v 0) p_int))
   (q_cons (q_if (p_tcmpV (x_eq hu8) (p_ix (p_v 3) p_int) p_str (nomark _)) (q_one (q_ret (p_make M_Put (hr.mono (by decide)) (by rfl) (a_cons (p_v 1) (a_cons (p_v 2) (a_cons (p_ix (p_v 3) p_int) (a_cons (p_ix (p_v 3) p_int) a_nil))))))) q_nil)
   (q_cons (q_if (p_tcmpV (x_eq hu8) (p_ix (p_v 3) p_int) p_str (nomark _)) (q_one (q_ret (p_make M_Strike (hr.mono (by decide)) (by rfl) (a_cons (p_v 1) (a_cons (p_v 2) (a_cons (p_ix (p_v 3) p_int) a_nil)))))) q_nil)
   (q_cons (q_if (p_tcmpV (x_eq hu8) (p_ix (p_v 3) p_int) p_str (nomark _)) (q_one (q_ret (p_make M_Dress (hr.mono (by decide)) (by rfl) (a_cons (p_v 1) (a_cons (p_v 2) (a_cons (p_ix (p_v 3) p_int) (a_cons (p_ix (p_v 3) p_int) a_nil))))))) q_nil)
   (q_one (q_ret (p_make M_Move (hr.mono (by decide)) (by rfl) (a_cons (p_v 1) (a_cons (p_v 2) (a_cons (p_ix (p_v 3) p_int) (a_cons (p_ix (p_v 3) p_int) a_nil)))))))))))))
theorem ok_chained {f : Addr} {fd : FuncData} {Z1 Z2 Z3 Z4 Z5 : Addr} (F : Fun3 K "chained" "chained" s_chained f fd) (T : Tx K mg Z1 Z2 Z3 Z4 Z5) 
  (rok : ∀ ds G Q, sp_chained Z1 Z2 Z3 Z4 Z5 (hwOf P w) ds G Q -> rd_chained Z1 Z2 Z3 Z4 Z5 (hwOf P w) { nx := fun _ G' => Q .non G', rt := Q } (start3 ["following", "row", "slot"] ds) G) (len : ∀ ds G Q, sp_chained Z1 Z2 Z3 Z4 Z5 (hwOf P w) ds G Q -> ds.length = 1) : FnOk P w K mg base CX0 1 f fd ["following"] (liftSp K (sp_chained Z1 Z2 Z3 Z4 Z5 (hwOf P w))) := by
 refine Fun3.ok3 F sc_chained len (fun cdv A outer s H E hr => ⟨rd_chained Z1 Z2 Z3 Z4 Z5 (hwOf P w), ?_, rok⟩);have hu8 : (A.deeper (envOfC "chained" (defScope s_chained) s.heap.objs.size f cdv)).units + 8 < cLine := by have := hr.units; walk_at "oo"
 have hu4 : (A.deeper (envOfC "chained" (defScope s_chained) s.heap.objs.size f cdv)).units + 4 < cLine := by walk_at "o"
 unfold rd_chained;exact (q_cons (q_own (i := 1) sc_chained.nd rfl (by first | exact Or.inl rfl | exact Or.inr rfl) (p_lst a_nil))
   (q_cons (q_set (i := 2) sc_chained.nd rfl (by first | exact Or.inl rfl | exact Or.inr rfl) (p_dix hu8 (p_v 0) (p_constT (by rfl) T.k_START)))
   (q_cons (q_while PassesOwn.never (p_tcmp x_notN (p_v 2) p_non (nomark _)) (q_cons (q_expr (p_append (p_v 1) (a_cons (p_v 2) a_nil)))
   (q_one (q_set (i := 2) sc_chained.nd rfl (by first | exact Or.inl rfl | exact Or.inr rfl) (p_dix hu8 (p_v 0) (p_v 2))))))
   (q_one (q_retOwn (i := 1) rfl (by first | exact Or.inl rfl | exact Or.inr (Or.inl rfl)))))))
theorem ok_Stroke_slots {f : Addr} {fd : FuncData} {Z1 Z2 Z3 Z4 Z5 : Addr} (F : Fun3 K "slots" "Stroke.slots" s_Stroke_slots f fd) (T : Tx K mg Z1 Z2 Z3 Z4 Z5) 
  (rok : ∀ ds G Q, sp_Stroke_slots Z1 Z2 Z3 Z4 Z5 (hwOf P w) ds G Q -> rd_Stroke_slots Z1 Z2 Z3 Z4 Z5 (hwOf P w) { nx := fun _ G' => Q .non G', rt := Q } (start3 ["self"] ds) G) (len : ∀ ds G Q, sp_Stroke_slots Z1 Z2 Z3 Z4 Z5 (hwOf P w) ds G Q -> ds.length = 1) : FnOk P w K mg base CX0 1 f fd ["self"] (liftSp K (sp_Stroke_slots Z1 Z2 Z3 Z4 Z5 (hwOf P w))) := by
 refine Fun3.ok3 F sc_Stroke_slots len (fun cdv A outer s H E hr => ⟨rd_Stroke_slots Z1 Z2 Z3 Z4 Z5 (hwOf P w), ?_, rok⟩);have hu8 : (A.deeper (envOfC "Stroke.slots" (defScope s_Stroke_slots) s.heap.objs.size f cdv)).units + 8 < cLine := by have := hr.units; walk_at "oo"
 have hu4 : (A.deeper (envOfC "Stroke.slots" (defScope s_Stroke_slots) s.heap.objs.size f cdv)).units + 4 < cLine := by walk_at "o"
 unfold rd_Stroke_slots;exact (q_one (q_ret (p_lst a_nil)))
theorem ok_Put_slots {f : Addr} {fd : FuncData} {Z1 Z2 Z3 Z4 Z5 : Addr} (F : Fun3 K "slots" "Put.slots" s_Put_slots f fd) (T : Tx K mg Z1 Z2 Z3 Z4 Z5) (F_slots_made : Fn3 P w K mg base 1 "slots_made" [] (sp_slots_made Z1 Z2 Z3 Z4 Z5 (hwOf P w)))
  (rok : ∀ ds G Q, sp_Put_slots Z1 Z2 Z3 Z4 Z5 (hwOf P w) ds G Q -> rd_Put_slots Z1 Z2 Z3 Z4 Z5 (hwOf P w) { nx := fun _ G' => Q .non G', rt := Q } (start3 ["self"] ds) G) (len : ∀ ds G Q, sp_Put_slots Z1 Z2 Z3 Z4 Z5 (hwOf P w) ds G Q -> ds.length = 1) : FnOk P w K mg base CX0 2 f fd ["self"] (liftSp K (sp_Put_slots Z1 Z2 Z3 Z4 Z5 (hwOf P w))) := by
 refine Fun3.ok3 F sc_Put_slots len (fun cdv A outer s H E hr => ⟨rd_Put_slots Z1 Z2 Z3 Z4 Z5 (hwOf P w), ?_, rok⟩);have hu8 : (A.deeper (envOfC "Put.slots" (defScope s_Put_slots) s.heap.objs.size f cdv)).units + 8 < cLine := by have := hr.units; walk_at "oo"
 have hu4 : (A.deeper (envOfC "Put.slots" (defScope s_Put_slots) s.heap.objs.size f cdv)).units + 4 < cLine := by walk_at "o"
 unfold rd_Put_slots;exact (q_one (q_ret (p_call F_slots_made (hr.mono (by decide)) (by rfl) (a_cons (p_fldA T.fa_name (p_v 0)) (a_cons (p_callB b_len (by rfl) T.b_len PySem.boot_len (a_cons (p_fldA T.fa_signs (p_v 0)) a_nil)) a_nil)))))
theorem ok_Move_slots {f : Addr} {fd : FuncData} {Z1 Z2 Z3 Z4 Z5 : Addr} (F : Fun3 K "slots" "Move.slots" s_Move_slots f fd) (T : Tx K mg Z1 Z2 Z3 Z4 Z5) (F_slots_made : Fn3 P w K mg base 1 "slots_made" [] (sp_slots_made Z1 Z2 Z3 Z4 Z5 (hwOf P w)))
  (rok : ∀ ds G Q, sp_Move_slots Z1 Z2 Z3 Z4 Z5 (hwOf P w) ds G Q -> rd_Move_slots Z1 Z2 Z3 Z4 Z5 (hwOf P w) { nx := fun _ G' => Q .non G', rt := Q } (start3 ["self"] ds) G) (len : ∀ ds G Q, sp_Move_slots Z1 Z2 Z3 Z4 Z5 (hwOf P w) ds G Q -> ds.length = 1) : FnOk P w K mg base CX0 2 f fd ["self"] (liftSp K (sp_Move_slots Z1 Z2 Z3 Z4 Z5 (hwOf P w))) := by
 refine Fun3.ok3 F sc_Move_slots len (fun cdv A outer s H E hr => ⟨rd_Move_slots Z1 Z2 Z3 Z4 Z5 (hwOf P w), ?_, rok⟩);have hu8 : (A.deeper (envOfC "Move.slots" (defScope s_Move_slots) s.heap.objs.size f cdv)).units + 8 < cLine := by have := hr.units; walk_at "oo"
 have hu4 : (A.deeper (envOfC "Move.slots" (defScope s_Move_slots) s.heap.objs.size f cdv)).units + 4 < cLine := by walk_at "o"
 unfold rd_Move_slots;exact (q_one (q_ret (p_call F_slots_made (hr.mono (by decide)) (by rfl) (a_cons (p_fldA T.fa_name (p_v 0)) (a_cons (p_callB b_len (by rfl) T.b_len PySem.boot_len (a_cons (p_fldA T.fa_names (p_v 0)) a_nil)) a_nil)))))
theorem ok_slots_of {f : Addr} {fd : FuncData} {Z1 Z2 Z3 Z4 Z5 : Addr} (F : Fun3 K "slots_of" "slots_of" s_slots_of f fd) (T : Tx K mg Z1 Z2 Z3 Z4 Z5) (F_chained : Fn3 P w K mg base 1 "chained" [] (sp_chained Z1 Z2 Z3 Z4 Z5 (hwOf P w))) (F_in_order : Fn3 P w K mg base 4 "in_order" [] (sp_in_order Z1 Z2 Z3 Z4 Z5 (hwOf P w))) (F_lay_behind : Fn3 P w K mg base 1 "lay_behind" [] (sp_lay_behind Z1 Z2 Z3 Z4 Z5 (hwOf P w))) (F_old_slots : Fn3 P w K mg base 2 "old_slots" [] (sp_old_slots Z1 Z2 Z3 Z4 Z5 (hwOf P w))) (F_stroke_of : Fn3 P w K mg base 4 "stroke_of" [] (sp_stroke_of Z1 Z2 Z3 Z4 Z5 (hwOf P w))) (Mt_Stroke_slots : Mt3 P w K mg base 1 Z1 "slots" [] (sp_Stroke_slots Z1 Z2 Z3 Z4 Z5 (hwOf P w))) (Mt_Put_slots : Mt3 P w K mg base 2 Z2 "slots" [] (sp_Put_slots Z1 Z2 Z3 Z4 Z5 (hwOf P w))) (Mt_Strike_slots : Mt3 P w K mg base 1 Z3 "slots" [] (sp_Stroke_slots Z1 Z2 Z3 Z4 Z5 (hwOf P w))) (Mt_Dress_slots : Mt3 P w K mg base 1 Z4 "slots" [] (sp_Stroke_slots Z1 Z2 Z3 Z4 Z5 (hwOf P w))) (Mt_Move_slots : Mt3 P w K mg base 2 Z5 "slots" [] (sp_Move_slots Z1 Z2 Z3 Z4 Z5 (hwOf P w)))
  (rok : ∀ ds G Q, sp_slots_of Z1 Z2 Z3 Z4 Z5 (hwOf P w) ds G Q -> rd_slots_of Z1 Z2 Z3 Z4 Z5 (hwOf P w) { nx := fun _ G' => Q .non G', rt := Q } (start3 ["old", "strokes", "following", "stroke"] ds) G) (len : ∀ ds G Q, sp_slots_of Z1 Z2 Z3 Z4 Z5 (hwOf P w) ds G Q -> ds.length = 2) : FnOk P w K mg base CX0 5 f fd ["old", "strokes"] (liftSp K (sp_slots_of Z1 Z2 Z3 Z4 Z5 (hwOf P w))) := by
 refine Fun3.ok3 F sc_slots_of len (fun cdv A outer s H E hr => ⟨rd_slots_of Z1 Z2 Z3 Z4 Z5 (hwOf P w), ?_, rok⟩);have hu8 : (A.deeper (envOfC "slots_of" (defScope s_slots_of) s.heap.objs.size f cdv)).units + 8 < cLine := by have := hr.units; walk_at "oo"
 have hu4 : (A.deeper (envOfC "slots_of" (defScope s_slots_of) s.heap.objs.size f cdv)).units + 4 < cLine := by walk_at "o"
 unfold rd_slots_of;exact (q_cons (q_set (i := 2) sc_slots_of.nd rfl (by first | exact Or.inl rfl | exact Or.inr rfl) (p_dct1T hu8 (p_constT (by rfl) T.k_START) p_non))
   (q_cons (q_expr (p_call F_lay_behind (hr.mono (by decide)) (by rfl) (a_cons (p_v 2) (a_cons (p_constT (by rfl) T.k_START) (a_cons (p_call F_old_slots (hr.mono (by decide)) (by rfl) (a_cons (p_v 0) a_nil)) a_nil)))))
   (q_cons (q_for PassesOwn.never rfl (i_seq (p_comp (T := ["row"]) (M := ["old", "strokes", "following", "stroke"]) (compOk_of rfl (by kernel_rfl)) (fun cl C s₀ H₀ fp => ⟨(g_name (i := 0) nd_slots_of_1 rfl (by first | exact Or.inl rfl | exact Or.inr rfl)), ts_nil, (p_call F_stroke_of (hr.mono (by decide)) (by rfl) (a_cons (p_v 0) a_nil))⟩) (i_seq (p_call F_in_order (hr.mono (by decide)) (by rfl) (a_cons (p_v 1) a_nil))))) (g_name (i := 3) sc_slots_of.nd rfl (by first | exact Or.inl rfl | exact Or.inr rfl)) (q_one (q_if (p_tdin hu8 (p_fldA T.fa_anchor (p_v 3)) (p_v 2)) (q_one (q_expr (p_call F_lay_behind (hr.mono (by decide)) (by rfl) (a_cons (p_v 2) (a_cons (p_fldA T.fa_anchor (p_v 3)) (a_cons (p_meth0A (k := 2) (all_cons ⟨_, (by decide), Mt_Stroke_slots⟩ (all_cons ⟨_, (by decide), Mt_Put_slots⟩ (all_cons ⟨_, (by decide), Mt_Strike_slots⟩ (all_cons ⟨_, (by decide), Mt_Dress_slots⟩ (all_cons ⟨_, (by decide), Mt_Move_slots⟩ (fun _ h => nomatch h)))))) (hr.mono (by decide)) (p_v 3)) a_nil)))))) q_nil)))
   (q_one (q_ret (p_call F_chained (hr.mono (by decide)) (by rfl) (a_cons (p_v 2) a_nil)))))))
theorem ok__law_key {f : Addr} {fd : FuncData} {Z1 Z2 Z3 Z4 Z5 : Addr} (F : Fun3 K "_law_key" "_law_key" s__law_key f fd) (T : Tx K mg Z1 Z2 Z3 Z4 Z5) 
  (rok : ∀ ds G Q, sp__law_key Z1 Z2 Z3 Z4 Z5 (hwOf P w) ds G Q -> rd__law_key Z1 Z2 Z3 Z4 Z5 (hwOf P w) { nx := fun _ G' => Q .non G', rt := Q } (start3 ["_law_row"] ds) G) (len : ∀ ds G Q, sp__law_key Z1 Z2 Z3 Z4 Z5 (hwOf P w) ds G Q -> ds.length = 1) : FnOk P w K mg base CX0 1 f fd ["_law_row"] (liftSp K (sp__law_key Z1 Z2 Z3 Z4 Z5 (hwOf P w))) := by
 refine Fun3.ok3 F sc__law_key len (fun cdv A outer s H E hr => ⟨rd__law_key Z1 Z2 Z3 Z4 Z5 (hwOf P w), ?_, rok⟩);have hu8 : (A.deeper (envOfC "_law_key" (defScope s__law_key) s.heap.objs.size f cdv)).units + 8 < cLine := by have := hr.units; walk_at "oo"
 have hu4 : (A.deeper (envOfC "_law_key" (defScope s__law_key) s.heap.objs.size f cdv)).units + 4 < cLine := by walk_at "o"
 unfold rd__law_key;exact (q_one (q_ret (p_tup (a_cons (p_ix (p_v 0) p_int) (a_cons (p_ix (p_ix (p_v 0) p_int) p_int) (a_cons (p_ix (p_ix (p_v 0) p_int) p_int) a_nil))))))
theorem ok__law_due {f : Addr} {fd : FuncData} {Z1 Z2 Z3 Z4 Z5 : Addr} (F : Fun3 K "_law_due" "_law_due" s__law_due f fd) (T : Tx K mg Z1 Z2 Z3 Z4 Z5) (F__law_key : Fn3 P w K mg base 1 "_law_key" [] (sp__law_key Z1 Z2 Z3 Z4 Z5 (hwOf P w))) (F__law_made : Fn3 P w K mg base 1 "_law_made" [] (sp__law_made Z1 Z2 Z3 Z4 Z5 (hwOf P w)))
  (rok : ∀ ds G Q, sp__law_due Z1 Z2 Z3 Z4 Z5 (hwOf P w) ds G Q -> rd__law_due Z1 Z2 Z3 Z4 Z5 (hwOf P w) { nx := fun _ G' => Q .non G', rt := Q } (start3 ["_law_old", "_law_rows", "_law_due_here", "_law_k", "_law_row", "_law_made_here", "_law_anchor", "_law_slot"] ds) G) (len : ∀ ds G Q, sp__law_due Z1 Z2 Z3 Z4 Z5 (hwOf P w) ds G Q -> ds.length = 2) : FnOk P w K mg base CX0 4 f fd ["_law_old", "_law_rows"] (liftSp K (sp__law_due Z1 Z2 Z3 Z4 Z5 (hwOf P w))) := by
 refine Fun3.ok3 F sc__law_due len (fun cdv A outer s H E hr => ⟨rd__law_due Z1 Z2 Z3 Z4 Z5 (hwOf P w), ?_, rok⟩);have hu8 : (A.deeper (envOfC "_law_due" (defScope s__law_due) s.heap.objs.size f cdv)).units + 8 < cLine := by have := hr.units; walk_at "oo"
 have hu4 : (A.deeper (envOfC "_law_due" (defScope s__law_due) s.heap.objs.size f cdv)).units + 4 < cLine := by walk_at "o"
 unfold rd__law_due;exact (q_cons (q_set (i := 2) sc__law_due.nd rfl (by first | exact Or.inl rfl | exact Or.inr rfl) p_dctT)
   (q_cons (q_for PassesOwn.never rfl (i_range1 (by rfl) T.b_range (a_cons (p_callB b_len (by rfl) T.b_len PySem.boot_len (a_cons (p_v 0) a_nil)) a_nil)) (g_name (i := 3) sc__law_due.nd rfl (by first | exact Or.inl rfl | exact Or.inr rfl)) (q_one (q_setI hu8 (p_v 2) (p_tup (a_cons p_str (a_cons p_int (a_cons (p_op x_add (p_v 3) p_int) a_nil)))) p_bl)))
   (q_cons (q_for PassesOwn.never rfl (i_seq (p_sortL F__law_key (hr.mono (by decide)) (by rfl) (by rfl) T.b_sorted (p_v 1))) (g_name (i := 4) sc__law_due.nd rfl (by first | exact Or.inl rfl | exact Or.inr rfl)) (q_cons (q_set (i := 5) sc__law_due.nd rfl (by first | exact Or.inl rfl | exact Or.inr rfl) (p_call F__law_made (hr.mono (by decide)) (by rfl) (a_cons (p_v 4) a_nil)))
   (q_cons (q_set (i := 6) sc__law_due.nd rfl (by first | exact Or.inl rfl | exact Or.inr rfl) (p_ix (p_ix (p_v 4) p_int) p_int))
   (q_cons (q_if (p_tcmpV (x_eq hu8) (p_ix (p_ix (p_v 4) p_int) p_int) p_str (nomark _)) (q_one (q_set (i := 6) sc__law_due.nd rfl (by first | exact Or.inl rfl | exact Or.inr rfl) (p_ix (p_ix (p_v 4) p_int) p_int))) q_nil)
   (q_one (q_if (PW.pt (w_and (p_tcmpV (x_ne hu8) (p_v 5) (p_lst a_nil) (nomark _)) (w_and1 (PW.pt (w_or (p_tcmpV (x_eq hu8) (p_v 6) (p_tup (a_cons p_str (a_cons p_int (a_cons p_int a_nil)))) (nomark _)) (w_or1 (p_tdin hu8 (p_v 6) (p_v 2)))))))) (q_one (q_for PassesOwn.never rfl (i_seq (p_v 5)) (g_name (i := 7) sc__law_due.nd rfl (by first | exact Or.inl rfl | exact Or.inr rfl)) (q_one (q_setI hu8 (p_v 2) (p_v 7) p_bl)))) q_nil))))))
   (q_one (q_ret (p_sortK hu8 rfl (by rfl) T.b_sorted (p_v 2)))))))
theorem ok_law {f : Addr} {fd : FuncData} {Z1 Z2 Z3 Z4 Z5 : Addr} (F : Fun3 K "law" "law" s_law f fd) (T : Tx K mg Z1 Z2 Z3 Z4 Z5) (F__law_cell_at : Fn3 P w K mg base 1 "_law_cell_at" [] (sp__law_cell_at Z1 Z2 Z3 Z4 Z5 (hwOf P w))) (F__law_due : Fn3 P w K mg base 4 "_law_due" [] (sp__law_due Z1 Z2 Z3 Z4 Z5 (hwOf P w))) (F__law_strokes : Fn3 P w K mg base 2 "_law_strokes" [] (sp__law_strokes Z1 Z2 Z3 Z4 Z5 (hwOf P w))) (F_slots_of : Fn3 P w K mg base 5 "slots_of" [] (sp_slots_of Z1 Z2 Z3 Z4 Z5 (hwOf P w)))
  (rok : ∀ ds G Q, sp_law Z1 Z2 Z3 Z4 Z5 (hwOf P w) ds G Q -> rd_law Z1 Z2 Z3 Z4 Z5 (hwOf P w) { nx := fun _ G' => Q .non G', rt := Q } (start3 ["_law_script", "_law_first", "_law_old", "_law_pens", "_law_rows", "_law_handed", "_law_kept", "_law_found", "_law_again", "_law_bare"] ds) G) (len : ∀ ds G Q, sp_law Z1 Z2 Z3 Z4 Z5 (hwOf P w) ds G Q -> ds.length = 1) : FnOk P w K mg base CX0 6 f fd ["_law_script"] (liftSp K (sp_law Z1 Z2 Z3 Z4 Z5 (hwOf P w))) := by
 refine Fun3.ok3 F sc_law len (fun cdv A outer s H E hr => ⟨rd_law Z1 Z2 Z3 Z4 Z5 (hwOf P w), ?_, rok⟩);have hu8 : (A.deeper (envOfC "law" (defScope s_law) s.heap.objs.size f cdv)).units + 8 < cLine := by have := hr.units; walk_at "oo"
 have hu4 : (A.deeper (envOfC "law" (defScope s_law) s.heap.objs.size f cdv)).units + 4 < cLine := by walk_at "o"
 unfold rd_law;exact (q_cons (q_set (i := 1) sc_law.nd rfl (by first | exact Or.inl rfl | exact Or.inr rfl) (p_call F__law_cell_at (hr.mono (by decide)) (by rfl) (a_cons (p_v 0) (a_cons p_int a_nil))))
   (q_cons (q_set (i := 2) sc_law.nd rfl (by first | exact Or.inl rfl | exact Or.inr rfl) (p_slice x_sl p_str o_none (o_some (p_op x_mod (p_v 1) p_int))))
   (q_cons (q_set (i := 3) sc_law.nd rfl (by first | exact Or.inl rfl | exact Or.inr rfl) (p_slice x_sl (p_ix (p_lst (a_cons (p_lst (a_cons p_str (a_cons p_str (a_cons p_str a_nil)))) (a_cons (p_lst (a_cons p_str (a_cons p_str (a_cons p_str a_nil)))) (a_cons (p_lst (a_cons p_str (a_cons p_str (a_cons p_str a_nil)))) a_nil)))) (p_op x_mod (p_op x_div (p_v 1) p_int) p_int)) o_none (o_some (p_op x_add p_int (p_op x_mod (p_op x_div (p_v 1) p_int) p_int)))))
   (q_cons (q_set (i := 4) sc_law.nd rfl (by first | exact Or.inl rfl | exact Or.inr rfl) (p_call F__law_strokes (hr.mono (by decide)) (by rfl) (a_cons (p_slice x_sl (p_v 0) (o_some p_int) (o_some p_int)) (a_cons (p_v 3) (a_cons (p_v 2) a_nil)))))
   (q_cons (q_set (i := 5) sc_law.nd rfl (by first | exact Or.inl rfl | exact Or.inr rfl) (p_callTy b_list (by rfl) T.b_list PyProof.Rows.boot_list (a_cons (p_v 4) a_nil)))
   (q_cons (q_if (p_tcmpV (x_eq hu8) (p_op x_mod (p_op x_div (p_v 1) p_int) p_int) p_int (nomark _)) (q_one (q_set (i := 5) sc_law.nd rfl (by first | exact Or.inl rfl | exact Or.inr rfl) (p_lrev rfl (by rfl) T.b_list (by rfl) T.b_reversed (p_v 4)))) q_nil)
   (q_cons (q_if (p_tcmpV (x_eq hu8) (p_op x_mod (p_op x_div (p_v 1) p_int) p_int) p_int (nomark _)) (q_one (q_set (i := 5) sc_law.nd rfl (by first | exact Or.inl rfl | exact Or.inr rfl) (p_op x_add (p_slice3 (p_v 4) o_none o_none (o_some p_int)) (p_v 4)))) q_nil)
   (q_cons (q_set (i := 6) sc_law.nd rfl (by first | exact Or.inl rfl | exact Or.inr rfl) (p_callTy b_list (by rfl) T.b_list PyProof.Rows.boot_list (a_cons (p_v 5) a_nil)))
   (q_cons (q_own (i := 7) sc_law.nd rfl (by first | exact Or.inl rfl | exact Or.inr rfl) (p_call F_slots_of (hr.mono (by decide)) (by rfl) (a_cons (p_v 2) (a_cons (p_v 5) a_nil))))
   (q_cons (q_if (PW.pt (w_or (p_tnot (p_ttruth (p_callB b_isT (by rfl) T.b_isinstance boot_isinstance (a_cons (p_v 7) (a_cons (p_ty (by rfl) T.b_list PyProof.Rows.boot_list) a_nil))))) (w_or (p_tcmpV (x_ne hu8) (p_v 5) (p_v 6) (nomark _)) (w_or1 (p_tcmpV (x_ne hu8) (p_sortT hu8 (by rfl) T.b_sorted (p_v 7)) (p_call F__law_due (hr.mono (by decide)) (by rfl) (a_cons (p_v 2) (a_cons (p_v 4) a_nil))) (nomark _)))))) (q_one (q_ret p_bl)) q_nil)
   (q_cons (q_set (i := 8) sc_law.nd rfl (by first | exact Or.inl rfl | exact Or.inr rfl) (p_callTy b_list (by rfl) T.b_list PyProof.Rows.boot_list (a_cons (p_v 7) a_nil)))
   (q_cons (q_expr (p_clear (p_v 7)))
   (q_cons (q_comp (T := ["_law_row"]) (M := ["_law_script", "_law_first", "_law_old", "_law_pens", "_law_rows", "_law_handed", "_law_kept", "_law_found", "_law_again", "_law_bare"]) (i := 9) (compOk_of rfl (by kernel_rfl)) sc_law.nd rfl rfl (fun cl C s₀ H₀ fp => ⟨(g_name (i := 0) nd_law_1 rfl (by first | exact Or.inl rfl | exact Or.inr rfl)), (ts_one (PW.pt (w_or (p_tcmpV (x_eq hu8) (p_ix (p_ix (p_v 0) p_int) p_int) p_str (nomark _)) (w_or1 (p_tcmpV (x_eq hu8) (p_ix (p_ix (p_v 0) p_int) p_int) p_str (nomark _)))))), (p_v 0)⟩) (i_seq (p_v 4)))
   (q_one (q_ret (p_and (p_cmpV (x_eq hu8) (p_call F_slots_of (hr.mono (by decide)) (by rfl) (a_cons (p_v 2) (a_cons (p_v 4) a_nil))) (p_v 8) (nomark _)) (p_and (p_cmpV (x_eq hu8) (p_call F_slots_of (hr.mono (by decide)) (by rfl) (a_cons (p_v 2) (a_cons (p_v 9) a_nil))) (p_v 8) (nomark _)) (p_one (p_cmpV (x_eq hu8) (p_call F_slots_of (hr.mono (by decide)) (by rfl) (a_cons (p_v 2) (a_cons (p_op x_add (p_v 4) (p_v 4)) a_nil))) (p_v 8) (nomark _))))))))))))))))))))
end
theorem us_1 {α : Type} : ∀ {us : List α}, us.length = 1 -> ∃ a0, us = [a0]
 | [a0], _ => ⟨a0, rfl⟩
theorem us_2 {α : Type} : ∀ {us : List α}, us.length = 2 -> ∃ a0 a1, us = [a0, a1]
 | [a0, a1], _ => ⟨a0, a1, rfl⟩
theorem us_3 {α : Type} : ∀ {us : List α}, us.length = 3 -> ∃ a0 a1 a2, us = [a0, a1, a2]
 | [a0, a1, a2], _ => ⟨a0, a1, a2, rfl⟩
theorem us_4 {α : Type} : ∀ {us : List α}, us.length = 4 -> ∃ a0 a1 a2 a3, us = [a0, a1, a2, a3]
 | [a0, a1, a2, a3], _ => ⟨a0, a1, a2, a3, rfl⟩
theorem us_5 {α : Type} : ∀ {us : List α}, us.length = 5 -> ∃ a0 a1 a2 a3 a4, us = [a0, a1, a2, a3, a4]
 | [a0, a1, a2, a3, a4], _ => ⟨a0, a1, a2, a3, a4, rfl⟩
theorem len__law_cell_at (Z1 Z2 Z3 Z4 Z5 : Addr) (hw : List Key -> Int) : ∀ ds G Q, sp__law_cell_at Z1 Z2 Z3 Z4 Z5 hw ds G Q -> ds.length = 2 := by
 intro ds G Q h;unfold sp__law_cell_at at h;split at h
 all_goals first | rfl | exact h.elim
theorem len__law_stream (Z1 Z2 Z3 Z4 Z5 : Addr) (hw : List Key -> Int) : ∀ ds G Q, sp__law_stream Z1 Z2 Z3 Z4 Z5 hw ds G Q -> ds.length = 2 := by
 intro ds G Q h;unfold sp__law_stream at h;split at h
 all_goals first | rfl | exact h.elim
theorem len__law_made (Z1 Z2 Z3 Z4 Z5 : Addr) (hw : List Key -> Int) : ∀ ds G Q, sp__law_made Z1 Z2 Z3 Z4 Z5 hw ds G Q -> ds.length = 1 := by
 intro ds G Q h;unfold sp__law_made at h;split at h
 all_goals first | rfl | exact h.elim
theorem len__law_strokes (Z1 Z2 Z3 Z4 Z5 : Addr) (hw : List Key -> Int) : ∀ ds G Q, sp__law_strokes Z1 Z2 Z3 Z4 Z5 hw ds G Q -> ds.length = 3 := by
 intro ds G Q h;unfold sp__law_strokes at h;split at h
 all_goals first | rfl | exact h.elim
theorem len_lay_behind (Z1 Z2 Z3 Z4 Z5 : Addr) (hw : List Key -> Int) : ∀ ds G Q, sp_lay_behind Z1 Z2 Z3 Z4 Z5 hw ds G Q -> ds.length = 3 := by
 intro ds G Q h;unfold sp_lay_behind at h;split at h
 all_goals first | rfl | exact h.elim
theorem len_slots_made (Z1 Z2 Z3 Z4 Z5 : Addr) (hw : List Key -> Int) : ∀ ds G Q, sp_slots_made Z1 Z2 Z3 Z4 Z5 hw ds G Q -> ds.length = 2 := by
 intro ds G Q h;unfold sp_slots_made at h;split at h
 all_goals first | rfl | exact h.elim
theorem len_old_slots (Z1 Z2 Z3 Z4 Z5 : Addr) (hw : List Key -> Int) : ∀ ds G Q, sp_old_slots Z1 Z2 Z3 Z4 Z5 hw ds G Q -> ds.length = 1 := by
 intro ds G Q h;unfold sp_old_slots at h;split at h
 all_goals first | rfl | exact h.elim
theorem len_place_in_order (Z1 Z2 Z3 Z4 Z5 : Addr) (hw : List Key -> Int) : ∀ ds G Q, sp_place_in_order Z1 Z2 Z3 Z4 Z5 hw ds G Q -> ds.length = 1 := by
 intro ds G Q h;unfold sp_place_in_order at h;split at h
 all_goals first | rfl | exact h.elim
theorem len_in_order (Z1 Z2 Z3 Z4 Z5 : Addr) (hw : List Key -> Int) : ∀ ds G Q, sp_in_order Z1 Z2 Z3 Z4 Z5 hw ds G Q -> ds.length = 1 := by
 intro ds G Q h;unfold sp_in_order at h;split at h
 all_goals first | rfl | exact h.elim
theorem len_Stroke___init__ (Z1 Z2 Z3 Z4 Z5 : Addr) (hw : List Key -> Int) : ∀ ds G Q, sp_Stroke___init__ Z1 Z2 Z3 Z4 Z5 hw ds G Q -> ds.length = 3 := by
 intro ds G Q h;unfold sp_Stroke___init__ at h;split at h
 all_goals first | rfl | exact h.elim
theorem len_Put___init__ (Z1 Z2 Z3 Z4 Z5 : Addr) (hw : List Key -> Int) : ∀ ds G Q, sp_Put___init__ Z1 Z2 Z3 Z4 Z5 hw ds G Q -> ds.length = 5 := by
 intro ds G Q h;unfold sp_Put___init__ at h;split at h
 all_goals first | rfl | exact h.elim
theorem len_Strike___init__ (Z1 Z2 Z3 Z4 Z5 : Addr) (hw : List Key -> Int) : ∀ ds G Q, sp_Strike___init__ Z1 Z2 Z3 Z4 Z5 hw ds G Q -> ds.length = 4 := by
 intro ds G Q h;unfold sp_Strike___init__ at h;split at h
 all_goals first | rfl | exact h.elim
theorem len_Dress___init__ (Z1 Z2 Z3 Z4 Z5 : Addr) (hw : List Key -> Int) : ∀ ds G Q, sp_Dress___init__ Z1 Z2 Z3 Z4 Z5 hw ds G Q -> ds.length = 5 := by
 intro ds G Q h;unfold sp_Dress___init__ at h;split at h
 all_goals first | rfl | exact h.elim
theorem len_Move___init__ (Z1 Z2 Z3 Z4 Z5 : Addr) (hw : List Key -> Int) : ∀ ds G Q, sp_Move___init__ Z1 Z2 Z3 Z4 Z5 hw ds G Q -> ds.length = 5 := by
 intro ds G Q h;unfold sp_Move___init__ at h;split at h
 all_goals first | rfl | exact h.elim
theorem len_stroke_of (Z1 Z2 Z3 Z4 Z5 : Addr) (hw : List Key -> Int) : ∀ ds G Q, sp_stroke_of Z1 Z2 Z3 Z4 Z5 hw ds G Q -> ds.length = 1 := by
 intro ds G Q h;unfold sp_stroke_of at h;split at h
 all_goals first | rfl | exact h.elim
theorem len_chained (Z1 Z2 Z3 Z4 Z5 : Addr) (hw : List Key -> Int) : ∀ ds G Q, sp_chained Z1 Z2 Z3 Z4 Z5 hw ds G Q -> ds.length = 1 := by
 intro ds G Q h;unfold sp_chained at h;split at h
 all_goals first | rfl | exact h.elim
theorem len_Stroke_slots (Z1 Z2 Z3 Z4 Z5 : Addr) (hw : List Key -> Int) : ∀ ds G Q, sp_Stroke_slots Z1 Z2 Z3 Z4 Z5 hw ds G Q -> ds.length = 1 := by
 intro ds G Q h;unfold sp_Stroke_slots at h;split at h
 all_goals first | rfl | exact h.elim
theorem len_Put_slots (Z1 Z2 Z3 Z4 Z5 : Addr) (hw : List Key -> Int) : ∀ ds G Q, sp_Put_slots Z1 Z2 Z3 Z4 Z5 hw ds G Q -> ds.length = 1 := by
 intro ds G Q h;unfold sp_Put_slots at h;split at h
 all_goals first | rfl | exact h.elim
theorem len_Move_slots (Z1 Z2 Z3 Z4 Z5 : Addr) (hw : List Key -> Int) : ∀ ds G Q, sp_Move_slots Z1 Z2 Z3 Z4 Z5 hw ds G Q -> ds.length = 1 := by
 intro ds G Q h;unfold sp_Move_slots at h;split at h
 all_goals first | rfl | exact h.elim
theorem len_slots_of (Z1 Z2 Z3 Z4 Z5 : Addr) (hw : List Key -> Int) : ∀ ds G Q, sp_slots_of Z1 Z2 Z3 Z4 Z5 hw ds G Q -> ds.length = 2 := by
 intro ds G Q h;unfold sp_slots_of at h;split at h
 all_goals first | rfl | exact h.elim
theorem len__law_key (Z1 Z2 Z3 Z4 Z5 : Addr) (hw : List Key -> Int) : ∀ ds G Q, sp__law_key Z1 Z2 Z3 Z4 Z5 hw ds G Q -> ds.length = 1 := by
 intro ds G Q h;unfold sp__law_key at h;split at h
 all_goals first | rfl | exact h.elim
theorem len__law_due (Z1 Z2 Z3 Z4 Z5 : Addr) (hw : List Key -> Int) : ∀ ds G Q, sp__law_due Z1 Z2 Z3 Z4 Z5 hw ds G Q -> ds.length = 2 := by
 intro ds G Q h;unfold sp__law_due at h;split at h
 all_goals first | rfl | exact h.elim
theorem len_law (Z1 Z2 Z3 Z4 Z5 : Addr) (hw : List Key -> Int) : ∀ ds G Q, sp_law Z1 Z2 Z3 Z4 Z5 hw ds G Q -> ds.length = 1 := by
 intro ds G Q h;unfold sp_law at h;split at h
 all_goals first | rfl | exact h.elim
theorem all_mk {P : Program} {w : World} {K : Frag} {h : Heap} {mg : Str -> Option Value} {fa : Addr} {Z1 Z2 Z3 Z4 Z5 f0 f1 f2 f3 f4 f5 f6 f7 f8 f9 f10 f11 f12 f13 f14 f15 f16 f17 f18 f19 f20 f21 f22 ka0 : Addr} {od0 an0 od1 an1 od2 an2 od3 an3 od4 an4 od5 an5 od6 an6 od7 an7 od8 an8 od9 an9 od10 an10 od11 an11 od12 an12 od13 an13 od14 an14 od15 an15 od16 an16 od17 an17 od18 an18 od19 an19 od20 an20 od21 an21 od22 an22 ko0 : Option Addr} {sl0 sl1 sl2 sl3 sl4 sl5 sl6 sl7 sl8 sl9 sl10 sl11 sl12 sl13 sl14 sl15 sl16 sl17 sl18 sl19 sl20 sl21 sl22 ks0 : Array (Option Value)} {oc0 kV0 dc0 pm0 cd0 ct0 oc1 kV1 dc1 pm1 cd1 ct1 oc2 kV2 dc2 pm2 cd2 ct2 oc3 kV3 dc3 pm3 cd3 ct3 oc4 kV4 dc4 pm4 cd4 ct4 oc5 kV5 dc5 pm5 cd5 ct5 oc6 kV6 dc6 pm6 cd6 ct6 oc7 kV7 dc7 pm7 cd7 ct7 oc8 kV8 dc8 pm8 cd8 ct8 oc9 kV9 dc9 pm9 cd9 ct9 oc10 kV10 dc10 pm10 cd10 ct10 oc11 kV11 dc11 pm11 cd11 ct11 oc12 kV12 dc12 pm12 cd12 ct12 oc13 kV13 dc13 pm13 cd13 ct13 oc14 kV14 dc14 pm14 cd14 ct14 oc15 kV15 dc15 pm15 cd15 ct15 oc16 kV16 dc16 pm16 cd16 ct16 oc17 kV17 dc17 pm17 cd17 ct17 oc18 kV18 dc18 pm18 cd18 ct18 oc19 kV19 dc19 pm19 cd19 ct19 oc20 kV20 dc20 pm20 cd20 ct20 oc21 kV21 dc21 pm21 cd21 ct21 oc22 kV22 dc22 pm22 cd22 ct22 : Value} {kt0_0 : Tok} {kt0_1 : Tok} {kt0_2 : Tok} {kz0 : Nat} (X : K.In h) (G : h.Ns mainGlobals mg) (hfa : mg "law" = some (.ref fa))
  (c0a : nsIn K mainGlobals "Stroke" = some (some (.ref Z1)))
  (c1a : nsIn K mainGlobals "Put" = some (some (.ref Z2)))
  (c2a : nsIn K mainGlobals "Strike" = some (some (.ref Z3)))
  (c3a : nsIn K mainGlobals "Dress" = some (some (.ref Z4)))
  (c4a : nsIn K mainGlobals "Move" = some (some (.ref Z5)))
  (a0 : nsIn K mainGlobals "_law_cell_at" = some (some (.ref f0)))
  (l0 : K.lookup f0 = some ⟨oc0, od0, .func (fnOf "_law_cell_at" "_law_cell_at" (defArgs s__law_cell_at) (defBody s__law_cell_at) (defScope s__law_cell_at) .none kV0 dc0 pm0 an0 cd0 ct0), sl0⟩)
  (c0' : codeIn K cd0 "_law_cell_at" = true)
  (k0 : keepIn K (.ref f0) = true)
  (a1 : nsIn K mainGlobals "_law_stream" = some (some (.ref f1)))
  (l1 : K.lookup f1 = some ⟨oc1, od1, .func (fnOf "_law_stream" "_law_stream" (defArgs s__law_stream) (defBody s__law_stream) (defScope s__law_stream) .none kV1 dc1 pm1 an1 cd1 ct1), sl1⟩)
  (c1' : codeIn K cd1 "_law_stream" = true)
  (k1 : keepIn K (.ref f1) = true)
  (a2 : nsIn K mainGlobals "_law_made" = some (some (.ref f2)))
  (l2 : K.lookup f2 = some ⟨oc2, od2, .func (fnOf "_law_made" "_law_made" (defArgs s__law_made) (defBody s__law_made) (defScope s__law_made) .none kV2 dc2 pm2 an2 cd2 ct2), sl2⟩)
  (c2' : codeIn K cd2 "_law_made" = true)
  (k2 : keepIn K (.ref f2) = true)
  (a3 : nsIn K mainGlobals "_law_strokes" = some (some (.ref f3)))
  (l3 : K.lookup f3 = some ⟨oc3, od3, .func (fnOf "_law_strokes" "_law_strokes" (defArgs s__law_strokes) (defBody s__law_strokes) (defScope s__law_strokes) .none kV3 dc3 pm3 an3 cd3 ct3), sl3⟩)
  (c3' : codeIn K cd3 "_law_strokes" = true)
  (k3 : keepIn K (.ref f3) = true)
  (a4 : nsIn K mainGlobals "lay_behind" = some (some (.ref f4)))
  (l4 : K.lookup f4 = some ⟨oc4, od4, .func (fnOf "lay_behind" "lay_behind" (defArgs s_lay_behind) (defBody s_lay_behind) (defScope s_lay_behind) .none kV4 dc4 pm4 an4 cd4 ct4), sl4⟩)
  (c4' : codeIn K cd4 "lay_behind" = true)
  (k4 : keepIn K (.ref f4) = true)
  (a5 : nsIn K mainGlobals "slots_made" = some (some (.ref f5)))
  (l5 : K.lookup f5 = some ⟨oc5, od5, .func (fnOf "slots_made" "slots_made" (defArgs s_slots_made) (defBody s_slots_made) (defScope s_slots_made) .none kV5 dc5 pm5 an5 cd5 ct5), sl5⟩)
  (c5' : codeIn K cd5 "slots_made" = true)
  (k5 : keepIn K (.ref f5) = true)
  (a6 : nsIn K mainGlobals "old_slots" = some (some (.ref f6)))
  (l6 : K.lookup f6 = some ⟨oc6, od6, .func (fnOf "old_slots" "old_slots" (defArgs s_old_slots) (defBody s_old_slots) (defScope s_old_slots) .none kV6 dc6 pm6 an6 cd6 ct6), sl6⟩)
  (c6' : codeIn K cd6 "old_slots" = true)
  (k6 : keepIn K (.ref f6) = true)
  (a7 : nsIn K mainGlobals "place_in_order" = some (some (.ref f7)))
  (l7 : K.lookup f7 = some ⟨oc7, od7, .func (fnOf "place_in_order" "place_in_order" (defArgs s_place_in_order) (defBody s_place_in_order) (defScope s_place_in_order) .none kV7 dc7 pm7 an7 cd7 ct7), sl7⟩)
  (c7' : codeIn K cd7 "place_in_order" = true)
  (k7 : keepIn K (.ref f7) = true)
  (a8 : nsIn K mainGlobals "in_order" = some (some (.ref f8)))
  (l8 : K.lookup f8 = some ⟨oc8, od8, .func (fnOf "in_order" "in_order" (defArgs s_in_order) (defBody s_in_order) (defScope s_in_order) .none kV8 dc8 pm8 an8 cd8 ct8), sl8⟩)
  (c8' : codeIn K cd8 "in_order" = true)
  (k8 : keepIn K (.ref f8) = true)
  (a9 : findIn K (.ref Z1) "__init__" = some (some (.ref f9)))
  (i9 : isFn K (.ref f9) = true)
  (l9 : K.lookup f9 = some ⟨oc9, od9, .func (fnOf "__init__" "Stroke.__init__" (defArgs s_Stroke___init__) (defBody s_Stroke___init__) (defScope s_Stroke___init__) .none kV9 dc9 pm9 an9 cd9 ct9), sl9⟩)
  (c9' : codeIn K cd9 "Stroke.__init__" = true)
  (k9 : keepIn K (.ref f9) = true)
  (a10 : findIn K (.ref Z2) "__init__" = some (some (.ref f10)))
  (i10 : isFn K (.ref f10) = true)
  (l10 : K.lookup f10 = some ⟨oc10, od10, .func (fnOf "__init__" "Put.__init__" (defArgs s_Put___init__) (defBody s_Put___init__) (defScope s_Put___init__) .none kV10 dc10 pm10 an10 cd10 ct10), sl10⟩)
  (c10' : codeIn K cd10 "Put.__init__" = true)
  (k10 : keepIn K (.ref f10) = true)
  (a11 : findIn K (.ref Z3) "__init__" = some (some (.ref f11)))
  (i11 : isFn K (.ref f11) = true)
  (l11 : K.lookup f11 = some ⟨oc11, od11, .func (fnOf "__init__" "Strike.__init__" (defArgs s_Strike___init__) (defBody s_Strike___init__) (defScope s_Strike___init__) .none kV11 dc11 pm11 an11 cd11 ct11), sl11⟩)
  (c11' : codeIn K cd11 "Strike.__init__" = true)
  (k11 : keepIn K (.ref f11) = true)
  (a12 : findIn K (.ref Z4) "__init__" = some (some (.ref f12)))
  (i12 : isFn K (.ref f12) = true)
  (l12 : K.lookup f12 = some ⟨oc12, od12, .func (fnOf "__init__" "Dress.__init__" (defArgs s_Dress___init__) (defBody s_Dress___init__) (defScope s_Dress___init__) .none kV12 dc12 pm12 an12 cd12 ct12), sl12⟩)
  (c12' : codeIn K cd12 "Dress.__init__" = true)
  (k12 : keepIn K (.ref f12) = true)
  (a13 : findIn K (.ref Z5) "__init__" = some (some (.ref f13)))
  (i13 : isFn K (.ref f13) = true)
  (l13 : K.lookup f13 = some ⟨oc13, od13, .func (fnOf "__init__" "Move.__init__" (defArgs s_Move___init__) (defBody s_Move___init__) (defScope s_Move___init__) .none kV13 dc13 pm13 an13 cd13 ct13), sl13⟩)
  (c13' : codeIn K cd13 "Move.__init__" = true)
  (k13 : keepIn K (.ref f13) = true)
  (a14 : nsIn K mainGlobals "stroke_of" = some (some (.ref f14)))
  (l14 : K.lookup f14 = some ⟨oc14, od14, .func (fnOf "stroke_of" "stroke_of" (defArgs s_stroke_of) (defBody s_stroke_of) (defScope s_stroke_of) .none kV14 dc14 pm14 an14 cd14 ct14), sl14⟩)
  (c14' : codeIn K cd14 "stroke_of" = true)
  (k14 : keepIn K (.ref f14) = true)
  (a15 : nsIn K mainGlobals "chained" = some (some (.ref f15)))
  (l15 : K.lookup f15 = some ⟨oc15, od15, .func (fnOf "chained" "chained" (defArgs s_chained) (defBody s_chained) (defScope s_chained) .none kV15 dc15 pm15 an15 cd15 ct15), sl15⟩)
  (c15' : codeIn K cd15 "chained" = true)
  (k15 : keepIn K (.ref f15) = true)
  (a16 : findIn K (.ref Z1) "slots" = some (some (.ref f16)))
  (i16 : isFn K (.ref f16) = true)
  (l16 : K.lookup f16 = some ⟨oc16, od16, .func (fnOf "slots" "Stroke.slots" (defArgs s_Stroke_slots) (defBody s_Stroke_slots) (defScope s_Stroke_slots) .none kV16 dc16 pm16 an16 cd16 ct16), sl16⟩)
  (c16' : codeIn K cd16 "Stroke.slots" = true)
  (k16 : keepIn K (.ref f16) = true)
  (a17 : findIn K (.ref Z2) "slots" = some (some (.ref f17)))
  (i17 : isFn K (.ref f17) = true)
  (l17 : K.lookup f17 = some ⟨oc17, od17, .func (fnOf "slots" "Put.slots" (defArgs s_Put_slots) (defBody s_Put_slots) (defScope s_Put_slots) .none kV17 dc17 pm17 an17 cd17 ct17), sl17⟩)
  (c17' : codeIn K cd17 "Put.slots" = true)
  (k17 : keepIn K (.ref f17) = true)
  (a18 : findIn K (.ref Z5) "slots" = some (some (.ref f18)))
  (i18 : isFn K (.ref f18) = true)
  (l18 : K.lookup f18 = some ⟨oc18, od18, .func (fnOf "slots" "Move.slots" (defArgs s_Move_slots) (defBody s_Move_slots) (defScope s_Move_slots) .none kV18 dc18 pm18 an18 cd18 ct18), sl18⟩)
  (c18' : codeIn K cd18 "Move.slots" = true)
  (k18 : keepIn K (.ref f18) = true)
  (a19 : nsIn K mainGlobals "slots_of" = some (some (.ref f19)))
  (l19 : K.lookup f19 = some ⟨oc19, od19, .func (fnOf "slots_of" "slots_of" (defArgs s_slots_of) (defBody s_slots_of) (defScope s_slots_of) .none kV19 dc19 pm19 an19 cd19 ct19), sl19⟩)
  (c19' : codeIn K cd19 "slots_of" = true)
  (k19 : keepIn K (.ref f19) = true)
  (a20 : nsIn K mainGlobals "_law_key" = some (some (.ref f20)))
  (l20 : K.lookup f20 = some ⟨oc20, od20, .func (fnOf "_law_key" "_law_key" (defArgs s__law_key) (defBody s__law_key) (defScope s__law_key) .none kV20 dc20 pm20 an20 cd20 ct20), sl20⟩)
  (c20' : codeIn K cd20 "_law_key" = true)
  (k20 : keepIn K (.ref f20) = true)
  (a21 : nsIn K mainGlobals "_law_due" = some (some (.ref f21)))
  (l21 : K.lookup f21 = some ⟨oc21, od21, .func (fnOf "_law_due" "_law_due" (defArgs s__law_due) (defBody s__law_due) (defScope s__law_due) .none kV21 dc21 pm21 an21 cd21 ct21), sl21⟩)
  (c21' : codeIn K cd21 "_law_due" = true)
  (k21 : keepIn K (.ref f21) = true)
  (a22 : nsIn K mainGlobals "law" = some (some (.ref f22)))
  (l22 : K.lookup f22 = some ⟨oc22, od22, .func (fnOf "law" "law" (defArgs s_law) (defBody s_law) (defScope s_law) .none kV22 dc22 pm22 an22 cd22 ct22), sl22⟩)
  (c22' : codeIn K cd22 "law" = true)
  (k22 : keepIn K (.ref f22) = true)
  (c0pg : plainGet K Z1 Str.empty = true)
  (c0hd : hasDictIn K Z1 = true)
  (c0po : plainOver K Z1 = true)
  (c0sa : findIn K (.ref Z1) "__setattr__" = some (some (.builtin "object.__setattr__")))
  (c0mk : makesIn K Z1 = true)
  (c0kc : keepIn K (.ref Z1) = true)
  (c0n0 : findIn K (.ref Z1) "anchor" = some none)
  (c0n1 : findIn K (.ref Z1) "name" = some none)
  (c0n2 : findIn K (.ref Z1) "names" = some none)
  (c0n3 : findIn K (.ref Z1) "signs" = some none)
  (c0n4 : findIn K (.ref Z1) "time" = some none)
  (c0n5 : findIn K (.ref Z1) "word" = some none)
  (c1pg : plainGet K Z2 Str.empty = true)
  (c1hd : hasDictIn K Z2 = true)
  (c1po : plainOver K Z2 = true)
  (c1sa : findIn K (.ref Z2) "__setattr__" = some (some (.builtin "object.__setattr__")))
  (c1mk : makesIn K Z2 = true)
  (c1kc : keepIn K (.ref Z2) = true)
  (c1n0 : findIn K (.ref Z2) "anchor" = some none)
  (c1n1 : findIn K (.ref Z2) "name" = some none)
  (c1n2 : findIn K (.ref Z2) "names" = some none)
  (c1n3 : findIn K (.ref Z2) "signs" = some none)
  (c1n4 : findIn K (.ref Z2) "time" = some none)
  (c1n5 : findIn K (.ref Z2) "word" = some none)
  (c2pg : plainGet K Z3 Str.empty = true)
  (c2hd : hasDictIn K Z3 = true)
  (c2po : plainOver K Z3 = true)
  (c2sa : findIn K (.ref Z3) "__setattr__" = some (some (.builtin "object.__setattr__")))
  (c2mk : makesIn K Z3 = true)
  (c2kc : keepIn K (.ref Z3) = true)
  (c2n0 : findIn K (.ref Z3) "anchor" = some none)
  (c2n1 : findIn K (.ref Z3) "name" = some none)
  (c2n2 : findIn K (.ref Z3) "names" = some none)
  (c2n3 : findIn K (.ref Z3) "signs" = some none)
  (c2n4 : findIn K (.ref Z3) "time" = some none)
  (c2n5 : findIn K (.ref Z3) "word" = some none)
  (c3pg : plainGet K Z4 Str.empty = true)
  (c3hd : hasDictIn K Z4 = true)
  (c3po : plainOver K Z4 = true)
  (c3sa : findIn K (.ref Z4) "__setattr__" = some (some (.builtin "object.__setattr__")))
  (c3mk : makesIn K Z4 = true)
  (c3kc : keepIn K (.ref Z4) = true)
  (c3n0 : findIn K (.ref Z4) "anchor" = some none)
  (c3n1 : findIn K (.ref Z4) "name" = some none)
  (c3n2 : findIn K (.ref Z4) "names" = some none)
  (c3n3 : findIn K (.ref Z4) "signs" = some none)
  (c3n4 : findIn K (.ref Z4) "time" = some none)
  (c3n5 : findIn K (.ref Z4) "word" = some none)
  (c4pg : plainGet K Z5 Str.empty = true)
  (c4hd : hasDictIn K Z5 = true)
  (c4po : plainOver K Z5 = true)
  (c4sa : findIn K (.ref Z5) "__setattr__" = some (some (.builtin "object.__setattr__")))
  (c4mk : makesIn K Z5 = true)
  (c4kc : keepIn K (.ref Z5) = true)
  (c4n0 : findIn K (.ref Z5) "anchor" = some none)
  (c4n1 : findIn K (.ref Z5) "name" = some none)
  (c4n2 : findIn K (.ref Z5) "names" = some none)
  (c4n3 : findIn K (.ref Z5) "signs" = some none)
  (c4n4 : findIn K (.ref Z5) "time" = some none)
  (c4n5 : findIn K (.ref Z5) "word" = some none)
  (b_isinstance : nsIn K mainGlobals "isinstance" = some none)
  (b_len : nsIn K mainGlobals "len" = some none)
  (b_list : nsIn K mainGlobals "list" = some none)
  (b_range : nsIn K mainGlobals "range" = some none)
  (b_reversed : nsIn K mainGlobals "reversed" = some none)
  (b_sorted : nsIn K mainGlobals "sorted" = some none)
  (b_tuple : nsIn K mainGlobals "tuple" = some none)
  (kn0 : nsIn K mainGlobals "START" = some (some (.ref ka0)))
  (kl0 : K.lookup ka0 = some ⟨.type "tuple", ko0, .seq #[.str "" kt0_0, .int 0 kt0_1, .int 0 kt0_2] kz0, ks0⟩)
  (am_Dress_slots : findIn K (.ref Z4) "slots" = some (some (.ref f16)))
  (am_Strike_slots : findIn K (.ref Z3) "slots" = some (some (.ref f16)))
  (cg_Stroke___init__ : specialIn K (.ref Z1) "__getattribute__" = some (some (.builtin "type.__getattribute__")))
  (cr_Stroke___init__ : readsIn K Z1 (.type "type") = true)
  (cf_Stroke___init__ : findCls K (.ref Z1) (.type "type") "__init__" = some (.val (.ref f9))) :
  ∃ fd : FuncData, (∀ (s : Shared) (v : Value), BindsTo s fd ⟨[v], []⟩ [("_law_script", v)]) /\ ∀ base : Heap, K.In base -> base.Ns mainGlobals mg -> FnOk P w K mg base CX0 6 fa fd ["_law_script"] (liftSp K spLaw3) := by
 have e := hfa.symm.trans (mg_of X G a22);cases e;have T : Tx K mg Z1 Z2 Z3 Z4 Z5 := ⟨(all_cons ⟨⟨c0pg, c0hd, c0po, c0sa⟩, c0n0⟩ (all_cons ⟨⟨c1pg, c1hd, c1po, c1sa⟩, c1n0⟩ (all_cons ⟨⟨c2pg, c2hd, c2po, c2sa⟩, c2n0⟩ (all_cons ⟨⟨c3pg, c3hd, c3po, c3sa⟩, c3n0⟩ (all_cons ⟨⟨c4pg, c4hd, c4po, c4sa⟩, c4n0⟩ (fun _ h => nomatch h)))))), (all_cons ⟨⟨c0pg, c0hd, c0po, c0sa⟩, c0n1⟩ (all_cons ⟨⟨c1pg, c1hd, c1po, c1sa⟩, c1n1⟩ (all_cons ⟨⟨c2pg, c2hd, c2po, c2sa⟩, c2n1⟩ (all_cons ⟨⟨c3pg, c3hd, c3po, c3sa⟩, c3n1⟩ (all_cons ⟨⟨c4pg, c4hd, c4po, c4sa⟩, c4n1⟩ (fun _ h => nomatch h)))))), (all_cons ⟨⟨c0pg, c0hd, c0po, c0sa⟩, c0n2⟩ (all_cons ⟨⟨c1pg, c1hd, c1po, c1sa⟩, c1n2⟩ (all_cons ⟨⟨c2pg, c2hd, c2po, c2sa⟩, c2n2⟩ (all_cons ⟨⟨c3pg, c3hd, c3po, c3sa⟩, c3n2⟩ (all_cons ⟨⟨c4pg, c4hd, c4po, c4sa⟩, c4n2⟩ (fun _ h => nomatch h)))))), (all_cons ⟨⟨c0pg, c0hd, c0po, c0sa⟩, c0n3⟩ (all_cons ⟨⟨c1pg, c1hd, c1po, c1sa⟩, c1n3⟩ (all_cons ⟨⟨c2pg, c2hd, c2po, c2sa⟩, c2n3⟩ (all_cons ⟨⟨c3pg, c3hd, c3po, c3sa⟩, c3n3⟩ (all_cons ⟨⟨c4pg, c4hd, c4po, c4sa⟩, c4n3⟩ (fun _ h => nomatch h)))))), (all_cons ⟨⟨c0pg, c0hd, c0po, c0sa⟩, c0n4⟩ (all_cons ⟨⟨c1pg, c1hd, c1po, c1sa⟩, c1n4⟩ (all_cons ⟨⟨c2pg, c2hd, c2po, c2sa⟩, c2n4⟩ (all_cons ⟨⟨c3pg, c3hd, c3po, c3sa⟩, c3n4⟩ (all_cons ⟨⟨c4pg, c4hd, c4po, c4sa⟩, c4n4⟩ (fun _ h => nomatch h)))))), (all_cons ⟨⟨c0pg, c0hd, c0po, c0sa⟩, c0n5⟩ (all_cons ⟨⟨c1pg, c1hd, c1po, c1sa⟩, c1n5⟩ (all_cons ⟨⟨c2pg, c2hd, c2po, c2sa⟩, c2n5⟩ (all_cons ⟨⟨c3pg, c3hd, c3po, c3sa⟩, c3n5⟩ (all_cons ⟨⟨c4pg, c4hd, c4po, c4sa⟩, c4n5⟩ (fun _ h => nomatch h)))))), ⟨c0pg, c0hd, c0po, c0sa⟩, ⟨c1pg, c1hd, c1po, c1sa⟩, ⟨c2pg, c2hd, c2po, c2sa⟩, ⟨c3pg, c3hd, c3po, c3sa⟩, ⟨c4pg, c4hd, c4po, c4sa⟩, mg_none_of X G b_isinstance, mg_none_of X G b_len, mg_none_of X G b_list, mg_none_of X G b_range, mg_none_of X G b_reversed, mg_none_of X G b_sorted, mg_none_of X G b_tuple, const_tup (vs := [.str "", .int 0, .int 0]) (mg_of X G kn0) kl0 (by show 3 <= sizeLine; decide) (.cons ⟨_, rfl⟩ (.cons ⟨_, rfl⟩ (.cons ⟨_, rfl⟩ .nil))) fun _ => (RDs.cons rd_str (RDs.cons rd_int (RDs.cons rd_int RDs.nil)))⟩
 have F0 := fun3_mk (st := s__law_cell_at) l0 c0';have F1 := fun3_mk (st := s__law_stream) l1 c1';have F2 := fun3_mk (st := s__law_made) l2 c2';have F3 := fun3_mk (st := s__law_strokes) l3 c3';have F4 := fun3_mk (st := s_lay_behind) l4 c4';have F5 := fun3_mk (st := s_slots_made) l5 c5';have F6 := fun3_mk (st := s_old_slots) l6 c6';have F7 := fun3_mk (st := s_place_in_order) l7 c7';have F8 := fun3_mk (st := s_in_order) l8 c8';have F9 := fun3_mk (st := s_Stroke___init__) l9 c9';have F10 := fun3_mk (st := s_Put___init__) l10 c10';have F11 := fun3_mk (st := s_Strike___init__) l11 c11';have F12 := fun3_mk (st := s_Dress___init__) l12 c12';have F13 := fun3_mk (st := s_Move___init__) l13 c13';have F14 := fun3_mk (st := s_stroke_of) l14 c14';have F15 := fun3_mk (st := s_chained) l15 c15';have F16 := fun3_mk (st := s_Stroke_slots) l16 c16';have F17 := fun3_mk (st := s_Put_slots) l17 c17';have F18 := fun3_mk (st := s_Move_slots) l18 c18';have F19 := fun3_mk (st := s_slots_of) l19 c19';have F20 := fun3_mk (st := s__law_key) l20 c20';have F21 := fun3_mk (st := s__law_due) l21 c21';have F22 := fun3_mk (st := s_law) l22 c22';refine ⟨fnOf "law" "law" (defArgs s_law) (defBody s_law) (defScope s_law) .none kV22 dc22 pm22 an22 cd22 ct22, fun s v => .of_eq rfl, fun base _ _ => ?_⟩;have O0 : FnOk P w K mg base CX0 1 f0 _ ["_law_script", "_law_k"] (liftSp K (sp__law_cell_at Z1 Z2 Z3 Z4 Z5 (hwOf P w))) := ok__law_cell_at F0 T  (rok__law_cell_at Z1 Z2 Z3 Z4 Z5 (hwOf P w)) (len__law_cell_at Z1 Z2 Z3 Z4 Z5 (hwOf P w));have F__law_cell_at : Fn3 P w K mg base 1 "_law_cell_at" [] (sp__law_cell_at Z1 Z2 Z3 Z4 Z5 (hwOf P w)) := ⟨_, _, _, [], [], O0, mg_of X G a0, k0, (.all fun us hl => by obtain ⟨_, _, rfl⟩ := us_2 (us := us) hl; rfl), .nil, fun _ => RDs.nil⟩
 have O1 : FnOk P w K mg base CX0 1 f1 _ ["_law_cell", "_law_many"] (liftSp K (sp__law_stream Z1 Z2 Z3 Z4 Z5 (hwOf P w))) := ok__law_stream F1 T  (rok__law_stream Z1 Z2 Z3 Z4 Z5 (hwOf P w)) (len__law_stream Z1 Z2 Z3 Z4 Z5 (hwOf P w));have F__law_stream : Fn3 P w K mg base 1 "_law_stream" [] (sp__law_stream Z1 Z2 Z3 Z4 Z5 (hwOf P w)) := ⟨_, _, _, [], [], O1, mg_of X G a1, k1, (.all fun us hl => by obtain ⟨_, _, rfl⟩ := us_2 (us := us) hl; rfl), .nil, fun _ => RDs.nil⟩
 have O2 : FnOk P w K mg base CX0 1 f2 _ ["_law_row"] (liftSp K (sp__law_made Z1 Z2 Z3 Z4 Z5 (hwOf P w))) := ok__law_made F2 T  (rok__law_made Z1 Z2 Z3 Z4 Z5 (hwOf P w)) (len__law_made Z1 Z2 Z3 Z4 Z5 (hwOf P w));have F__law_made : Fn3 P w K mg base 1 "_law_made" [] (sp__law_made Z1 Z2 Z3 Z4 Z5 (hwOf P w)) := ⟨_, _, _, [], [], O2, mg_of X G a2, k2, (.all fun us hl => by obtain ⟨_, rfl⟩ := us_1 (us := us) hl; rfl), .nil, fun _ => RDs.nil⟩
 have O3 : FnOk P w K mg base CX0 2 f3 _ ["_law_cells", "_law_pens", "_law_old"] (liftSp K (sp__law_strokes Z1 Z2 Z3 Z4 Z5 (hwOf P w))) := ok__law_strokes F3 T F__law_made F__law_stream (rok__law_strokes Z1 Z2 Z3 Z4 Z5 (hwOf P w)) (len__law_strokes Z1 Z2 Z3 Z4 Z5 (hwOf P w));have F__law_strokes : Fn3 P w K mg base 2 "_law_strokes" [] (sp__law_strokes Z1 Z2 Z3 Z4 Z5 (hwOf P w)) := ⟨_, _, _, [], [], O3, mg_of X G a3, k3, (.all fun us hl => by obtain ⟨_, _, _, rfl⟩ := us_3 (us := us) hl; rfl), .nil, fun _ => RDs.nil⟩
 have O4 : FnOk P w K mg base CX0 1 f4 _ ["following", "anchor", "slots"] (liftSp K (sp_lay_behind Z1 Z2 Z3 Z4 Z5 (hwOf P w))) := ok_lay_behind F4 T  (rok_lay_behind Z1 Z2 Z3 Z4 Z5 (hwOf P w)) (len_lay_behind Z1 Z2 Z3 Z4 Z5 (hwOf P w));have F_lay_behind : Fn3 P w K mg base 1 "lay_behind" [] (sp_lay_behind Z1 Z2 Z3 Z4 Z5 (hwOf P w)) := ⟨_, _, _, [], [], O4, mg_of X G a4, k4, (.all fun us hl => by obtain ⟨_, _, _, rfl⟩ := us_3 (us := us) hl; rfl), .nil, fun _ => RDs.nil⟩
 have O5 : FnOk P w K mg base CX0 1 f5 _ ["name", "how_many"] (liftSp K (sp_slots_made Z1 Z2 Z3 Z4 Z5 (hwOf P w))) := ok_slots_made F5 T  (rok_slots_made Z1 Z2 Z3 Z4 Z5 (hwOf P w)) (len_slots_made Z1 Z2 Z3 Z4 Z5 (hwOf P w));have F_slots_made : Fn3 P w K mg base 1 "slots_made" [] (sp_slots_made Z1 Z2 Z3 Z4 Z5 (hwOf P w)) := ⟨_, _, _, [], [], O5, mg_of X G a5, k5, (.all fun us hl => by obtain ⟨_, _, rfl⟩ := us_2 (us := us) hl; rfl), .nil, fun _ => RDs.nil⟩
 have O6 : FnOk P w K mg base CX0 2 f6 _ ["old"] (liftSp K (sp_old_slots Z1 Z2 Z3 Z4 Z5 (hwOf P w))) := ok_old_slots F6 T F_slots_made (rok_old_slots Z1 Z2 Z3 Z4 Z5 (hwOf P w)) (len_old_slots Z1 Z2 Z3 Z4 Z5 (hwOf P w));have F_old_slots : Fn3 P w K mg base 2 "old_slots" [] (sp_old_slots Z1 Z2 Z3 Z4 Z5 (hwOf P w)) := ⟨_, _, _, [], [], O6, mg_of X G a6, k6, (.all fun us hl => by obtain ⟨_, rfl⟩ := us_1 (us := us) hl; rfl), .nil, fun _ => RDs.nil⟩
 have O7 : FnOk P w K mg base CX0 1 f7 _ ["row"] (liftSp K (sp_place_in_order Z1 Z2 Z3 Z4 Z5 (hwOf P w))) := ok_place_in_order F7 T  (rok_place_in_order Z1 Z2 Z3 Z4 Z5 (hwOf P w)) (len_place_in_order Z1 Z2 Z3 Z4 Z5 (hwOf P w));have F_place_in_order : Fn3 P w K mg base 1 "place_in_order" [] (sp_place_in_order Z1 Z2 Z3 Z4 Z5 (hwOf P w)) := ⟨_, _, _, [], [], O7, mg_of X G a7, k7, (.all fun us hl => by obtain ⟨_, rfl⟩ := us_1 (us := us) hl; rfl), .nil, fun _ => RDs.nil⟩
 have O8 : FnOk P w K mg base CX0 4 f8 _ ["rows"] (liftSp K (sp_in_order Z1 Z2 Z3 Z4 Z5 (hwOf P w))) := ok_in_order F8 T F_place_in_order (rok_in_order Z1 Z2 Z3 Z4 Z5 (hwOf P w)) (len_in_order Z1 Z2 Z3 Z4 Z5 (hwOf P w));have F_in_order : Fn3 P w K mg base 4 "in_order" [] (sp_in_order Z1 Z2 Z3 Z4 Z5 (hwOf P w)) := ⟨_, _, _, [], [], O8, mg_of X G a8, k8, (.all fun us hl => by obtain ⟨_, rfl⟩ := us_1 (us := us) hl; rfl), .nil, fun _ => RDs.nil⟩
 have O9 : FnOk P w K mg base CX0 1 f9 _ ["self", "name", "time"] (liftSp K (sp_Stroke___init__ Z1 Z2 Z3 Z4 Z5 (hwOf P w))) := ok_Stroke___init__ F9 T  (rok_Stroke___init__ Z1 Z2 Z3 Z4 Z5 (hwOf P w)) (len_Stroke___init__ Z1 Z2 Z3 Z4 Z5 (hwOf P w));have Cf_Stroke___init__ : Cf3 P w K mg base 1 "Stroke" "__init__" [] (sp_Stroke___init__ Z1 Z2 Z3 Z4 Z5 (hwOf P w)) := ⟨Z1, _, _, _, [], [], O9, mg_of X G c0a, cg_Stroke___init__, cr_Stroke___init__, cf_Stroke___init__, k9, (.all fun us hl => by obtain ⟨_, _, _, rfl⟩ := us_3 (us := us) hl; rfl), .nil, fun _ => RDs.nil⟩
 have M_Stroke : Mk3 P w K mg base 1 "Stroke" Z1 [] (sp_Stroke___init__ Z1 Z2 Z3 Z4 Z5 (hwOf P w)) := ⟨_, _, _, [], [], ⟨c0mk, a9, i9, c0kc⟩, mg_of X G c0a, O9, (.all fun us hl => by obtain ⟨_, _, _, rfl⟩ := us_3 (us := us) hl; rfl), .nil, fun _ => RDs.nil⟩
 have O10 : FnOk P w K mg base CX0 2 f10 _ ["self", "name", "time", "anchor", "signs"] (liftSp K (sp_Put___init__ Z1 Z2 Z3 Z4 Z5 (hwOf P w))) := ok_Put___init__ F10 T Cf_Stroke___init__ (rok_Put___init__ Z1 Z2 Z3 Z4 Z5 (hwOf P w)) (len_Put___init__ Z1 Z2 Z3 Z4 Z5 (hwOf P w));have M_Put : Mk3 P w K mg base 2 "Put" Z2 [] (sp_Put___init__ Z1 Z2 Z3 Z4 Z5 (hwOf P w)) := ⟨_, _, _, [], [], ⟨c1mk, a10, i10, c1kc⟩, mg_of X G c1a, O10, (.all fun us hl => by obtain ⟨_, _, _, _, _, rfl⟩ := us_5 (us := us) hl; rfl), .nil, fun _ => RDs.nil⟩
 have O11 : FnOk P w K mg base CX0 2 f11 _ ["self", "name", "time", "names"] (liftSp K (sp_Strike___init__ Z1 Z2 Z3 Z4 Z5 (hwOf P w))) := ok_Strike___init__ F11 T Cf_Stroke___init__ (rok_Strike___init__ Z1 Z2 Z3 Z4 Z5 (hwOf P w)) (len_Strike___init__ Z1 Z2 Z3 Z4 Z5 (hwOf P w));have M_Strike : Mk3 P w K mg base 2 "Strike" Z3 [] (sp_Strike___init__ Z1 Z2 Z3 Z4 Z5 (hwOf P w)) := ⟨_, _, _, [], [], ⟨c2mk, a11, i11, c2kc⟩, mg_of X G c2a, O11, (.all fun us hl => by obtain ⟨_, _, _, _, rfl⟩ := us_4 (us := us) hl; rfl), .nil, fun _ => RDs.nil⟩
 have O12 : FnOk P w K mg base CX0 2 f12 _ ["self", "name", "time", "names", "word"] (liftSp K (sp_Dress___init__ Z1 Z2 Z3 Z4 Z5 (hwOf P w))) := ok_Dress___init__ F12 T Cf_Stroke___init__ (rok_Dress___init__ Z1 Z2 Z3 Z4 Z5 (hwOf P w)) (len_Dress___init__ Z1 Z2 Z3 Z4 Z5 (hwOf P w));have M_Dress : Mk3 P w K mg base 2 "Dress" Z4 [] (sp_Dress___init__ Z1 Z2 Z3 Z4 Z5 (hwOf P w)) := ⟨_, _, _, [], [], ⟨c3mk, a12, i12, c3kc⟩, mg_of X G c3a, O12, (.all fun us hl => by obtain ⟨_, _, _, _, _, rfl⟩ := us_5 (us := us) hl; rfl), .nil, fun _ => RDs.nil⟩
 have O13 : FnOk P w K mg base CX0 2 f13 _ ["self", "name", "time", "names", "anchor"] (liftSp K (sp_Move___init__ Z1 Z2 Z3 Z4 Z5 (hwOf P w))) := ok_Move___init__ F13 T Cf_Stroke___init__ (rok_Move___init__ Z1 Z2 Z3 Z4 Z5 (hwOf P w)) (len_Move___init__ Z1 Z2 Z3 Z4 Z5 (hwOf P w));have M_Move : Mk3 P w K mg base 2 "Move" Z5 [] (sp_Move___init__ Z1 Z2 Z3 Z4 Z5 (hwOf P w)) := ⟨_, _, _, [], [], ⟨c4mk, a13, i13, c4kc⟩, mg_of X G c4a, O13, (.all fun us hl => by obtain ⟨_, _, _, _, _, rfl⟩ := us_5 (us := us) hl; rfl), .nil, fun _ => RDs.nil⟩
 have O14 : FnOk P w K mg base CX0 4 f14 _ ["row"] (liftSp K (sp_stroke_of Z1 Z2 Z3 Z4 Z5 (hwOf P w))) := ok_stroke_of F14 T M_Dress M_Move M_Put M_Strike (rok_stroke_of Z1 Z2 Z3 Z4 Z5 (hwOf P w)) (len_stroke_of Z1 Z2 Z3 Z4 Z5 (hwOf P w));have F_stroke_of : Fn3 P w K mg base 4 "stroke_of" [] (sp_stroke_of Z1 Z2 Z3 Z4 Z5 (hwOf P w)) := ⟨_, _, _, [], [], O14, mg_of X G a14, k14, (.all fun us hl => by obtain ⟨_, rfl⟩ := us_1 (us := us) hl; rfl), .nil, fun _ => RDs.nil⟩
 have O15 : FnOk P w K mg base CX0 1 f15 _ ["following"] (liftSp K (sp_chained Z1 Z2 Z3 Z4 Z5 (hwOf P w))) := ok_chained F15 T  (rok_chained Z1 Z2 Z3 Z4 Z5 (hwOf P w)) (len_chained Z1 Z2 Z3 Z4 Z5 (hwOf P w));have F_chained : Fn3 P w K mg base 1 "chained" [] (sp_chained Z1 Z2 Z3 Z4 Z5 (hwOf P w)) := ⟨_, _, _, [], [], O15, mg_of X G a15, k15, (.all fun us hl => by obtain ⟨_, rfl⟩ := us_1 (us := us) hl; rfl), .nil, fun _ => RDs.nil⟩
 have O16 : FnOk P w K mg base CX0 1 f16 _ ["self"] (liftSp K (sp_Stroke_slots Z1 Z2 Z3 Z4 Z5 (hwOf P w))) := ok_Stroke_slots F16 T  (rok_Stroke_slots Z1 Z2 Z3 Z4 Z5 (hwOf P w)) (len_Stroke_slots Z1 Z2 Z3 Z4 Z5 (hwOf P w));have Mt_Dress_slots : Mt3 P w K mg base 1 Z4 "slots" [] (sp_Stroke_slots Z1 Z2 Z3 Z4 Z5 (hwOf P w)) := ⟨T.cl_Dress, _, _, _, [], [], O16, ⟨am_Dress_slots, i16, k16⟩, (.all fun us hl => by obtain ⟨_, rfl⟩ := us_1 (us := us) hl; rfl), .nil, fun _ => RDs.nil⟩
 have Mt_Strike_slots : Mt3 P w K mg base 1 Z3 "slots" [] (sp_Stroke_slots Z1 Z2 Z3 Z4 Z5 (hwOf P w)) := ⟨T.cl_Strike, _, _, _, [], [], O16, ⟨am_Strike_slots, i16, k16⟩, (.all fun us hl => by obtain ⟨_, rfl⟩ := us_1 (us := us) hl; rfl), .nil, fun _ => RDs.nil⟩
 have Mt_Stroke_slots : Mt3 P w K mg base 1 Z1 "slots" [] (sp_Stroke_slots Z1 Z2 Z3 Z4 Z5 (hwOf P w)) := ⟨T.cl_Stroke, _, _, _, [], [], O16, ⟨a16, i16, k16⟩, (.all fun us hl => by obtain ⟨_, rfl⟩ := us_1 (us := us) hl; rfl), .nil, fun _ => RDs.nil⟩
 have O17 : FnOk P w K mg base CX0 2 f17 _ ["self"] (liftSp K (sp_Put_slots Z1 Z2 Z3 Z4 Z5 (hwOf P w))) := ok_Put_slots F17 T F_slots_made (rok_Put_slots Z1 Z2 Z3 Z4 Z5 (hwOf P w)) (len_Put_slots Z1 Z2 Z3 Z4 Z5 (hwOf P w));have Mt_Put_slots : Mt3 P w K mg base 2 Z2 "slots" [] (sp_Put_slots Z1 Z2 Z3 Z4 Z5 (hwOf P w)) := ⟨T.cl_Put, _, _, _, [], [], O17, ⟨a17, i17, k17⟩, (.all fun us hl => by obtain ⟨_, rfl⟩ := us_1 (us := us) hl; rfl), .nil, fun _ => RDs.nil⟩
 have O18 : FnOk P w K mg base CX0 2 f18 _ ["self"] (liftSp K (sp_Move_slots Z1 Z2 Z3 Z4 Z5 (hwOf P w))) := ok_Move_slots F18 T F_slots_made (rok_Move_slots Z1 Z2 Z3 Z4 Z5 (hwOf P w)) (len_Move_slots Z1 Z2 Z3 Z4 Z5 (hwOf P w));have Mt_Move_slots : Mt3 P w K mg base 2 Z5 "slots" [] (sp_Move_slots Z1 Z2 Z3 Z4 Z5 (hwOf P w)) := ⟨T.cl_Move, _, _, _, [], [], O18, ⟨a18, i18, k18⟩, (.all fun us hl => by obtain ⟨_, rfl⟩ := us_1 (us := us) hl; rfl), .nil, fun _ => RDs.nil⟩
 have O19 : FnOk P w K mg base CX0 5 f19 _ ["old", "strokes"] (liftSp K (sp_slots_of Z1 Z2 Z3 Z4 Z5 (hwOf P w))) := ok_slots_of F19 T F_chained F_in_order F_lay_behind F_old_slots F_stroke_of Mt_Stroke_slots Mt_Put_slots Mt_Strike_slots Mt_Dress_slots Mt_Move_slots (rok_slots_of Z1 Z2 Z3 Z4 Z5 (hwOf P w)) (len_slots_of Z1 Z2 Z3 Z4 Z5 (hwOf P w));have F_slots_of : Fn3 P w K mg base 5 "slots_of" [] (sp_slots_of Z1 Z2 Z3 Z4 Z5 (hwOf P w)) := ⟨_, _, _, [], [], O19, mg_of X G a19, k19, (.all fun us hl => by obtain ⟨_, _, rfl⟩ := us_2 (us := us) hl; rfl), .nil, fun _ => RDs.nil⟩
 have O20 : FnOk P w K mg base CX0 1 f20 _ ["_law_row"] (liftSp K (sp__law_key Z1 Z2 Z3 Z4 Z5 (hwOf P w))) := ok__law_key F20 T  (rok__law_key Z1 Z2 Z3 Z4 Z5 (hwOf P w)) (len__law_key Z1 Z2 Z3 Z4 Z5 (hwOf P w));have F__law_key : Fn3 P w K mg base 1 "_law_key" [] (sp__law_key Z1 Z2 Z3 Z4 Z5 (hwOf P w)) := ⟨_, _, _, [], [], O20, mg_of X G a20, k20, (.all fun us hl => by obtain ⟨_, rfl⟩ := us_1 (us := us) hl; rfl), .nil, fun _ => RDs.nil⟩
 have O21 : FnOk P w K mg base CX0 4 f21 _ ["_law_old", "_law_rows"] (liftSp K (sp__law_due Z1 Z2 Z3 Z4 Z5 (hwOf P w))) := ok__law_due F21 T F__law_key F__law_made (rok__law_due Z1 Z2 Z3 Z4 Z5 (hwOf P w)) (len__law_due Z1 Z2 Z3 Z4 Z5 (hwOf P w));have F__law_due : Fn3 P w K mg base 4 "_law_due" [] (sp__law_due Z1 Z2 Z3 Z4 Z5 (hwOf P w)) := ⟨_, _, _, [], [], O21, mg_of X G a21, k21, (.all fun us hl => by obtain ⟨_, _, rfl⟩ := us_2 (us := us) hl; rfl), .nil, fun _ => RDs.nil⟩
 exact ok_law F22 T F__law_cell_at F__law_due F__law_strokes F_slots_of (rok_law Z1 Z2 Z3 Z4 Z5 (hwOf P w)) (len_law Z1 Z2 Z3 Z4 Z5 (hwOf P w))
end RQ
open PySem PySem.W PyProof.Rows
set_option maxRecDepth 100000 in
set_option maxHeartbeats 0 in
theorem PySem.Challenge.cw_redquill_k22_the_row_whatever_stands_holds : PySem.Challenge.rw_redquill_k22_the_row_whatever_stands.Holds := by
 w_on; o_law; k_head; (case hw => w_witness2)
 k_fill
 refine L3.walk3 (l := PySem.Challenge.rw_redquill_k22_the_row_whatever_stands) (k := 6) (x := "_law_script") rfl rfl ⟨rfl, by decide, by decide⟩ (fun w h Y => PySem.W.kIn_of Y) ?F
 case F =>
  intro w mg fa h KX G hmg;refine' RQ.all_mk KX G hmg ?c0a ?c1a ?c2a ?c3a ?c4a ?a0 ?l0 ?c0' ?k0 ?a1 ?l1 ?c1' ?k1 ?a2 ?l2 ?c2' ?k2 ?a3 ?l3 ?c3' ?k3 ?a4 ?l4 ?c4' ?k4 ?a5 ?l5 ?c5' ?k5 ?a6 ?l6 ?c6' ?k6 ?a7 ?l7 ?c7' ?k7 ?a8 ?l8 ?c8' ?k8 ?a9 ?i9 ?l9 ?c9' ?k9 ?a10 ?i10 ?l10 ?c10' ?k10 ?a11 ?i11 ?l11 ?c11' ?k11 ?a12 ?i12 ?l12 ?c12' ?k12 ?a13 ?i13 ?l13 ?c13' ?k13 ?a14 ?l14 ?c14' ?k14 ?a15 ?l15 ?c15' ?k15 ?a16 ?i16 ?l16 ?c16' ?k16 ?a17 ?i17 ?l17 ?c17' ?k17 ?a18 ?i18 ?l18 ?c18' ?k18 ?a19 ?l19 ?c19' ?k19 ?a20 ?l20 ?c20' ?k20 ?a21 ?l21 ?c21' ?k21 ?a22 ?l22 ?c22' ?k22 ?c0pg ?c0hd ?c0po ?c0sa ?c0mk ?c0kc ?c0n0 ?c0n1 ?c0n2 ?c0n3 ?c0n4 ?c0n5 ?c1pg ?c1hd ?c1po ?c1sa ?c1mk ?c1kc ?c1n0 ?c1n1 ?c1n2 ?c1n3 ?c1n4 ?c1n5 ?c2pg ?c2hd ?c2po ?c2sa ?c2mk ?c2kc ?c2n0 ?c2n1 ?c2n2 ?c2n3 ?c2n4 ?c2n5 ?c3pg ?c3hd ?c3po ?c3sa ?c3mk ?c3kc ?c3n0 ?c3n1 ?c3n2 ?c3n3 ?c3n4 ?c3n5 ?c4pg ?c4hd ?c4po ?c4sa ?c4mk ?c4kc ?c4n0 ?c4n1 ?c4n2 ?c4n3 ?c4n4 ?c4n5 ?b_isinstance ?b_len ?b_list ?b_range ?b_reversed ?b_sorted ?b_tuple ?kn0 ?kl0 ?am_Dress_slots ?am_Strike_slots ?cg_Stroke___init__ ?cr_Stroke___init__ ?cf_Stroke___init__
  (case c0a => k_is)
  (case c1a => k_is)
  (case c2a => k_is)
  (case c3a => k_is)
  (case c4a => k_is)
  (case a0 => k_is)
  (case l0 => k_is)
  (case c0' => k_is)
  (case k0 => k_is)
  (case a1 => k_is)
  (case l1 => k_is)
  (case c1' => k_is)
  (case k1 => k_is)
  (case a2 => k_is)
  (case l2 => k_is)
  (case c2' => k_is)
  (case k2 => k_is)
  (case a3 => k_is)
  (case l3 => k_is)
  (case c3' => k_is)
  (case k3 => k_is)
  (case a4 => k_is)
  (case l4 => k_is)
  (case c4' => k_is)
  (case k4 => k_is)
  (case a5 => k_is)
  (case l5 => k_is)
  (case c5' => k_is)
  (case k5 => k_is)
  (case a6 => k_is)
  (case l6 => k_is)
  (case c6' => k_is)
  (case k6 => k_is)
  (case a7 => k_is)
  (case l7 => k_is)
  (case c7' => k_is)
  (case k7 => k_is)
  (case a8 => k_is)
  (case l8 => k_is)
  (case c8' => k_is)
  (case k8 => k_is)
  (case a9 => k_is)
  (case i9 => k_is)
  (case l9 => k_is)
  (case c9' => k_is)
  (case k9 => k_is)
  (case a10 => k_is)
  (case i10 => k_is)
  (case l10 => k_is)
  (case c10' => k_is)
  (case k10 => k_is)
  (case a11 => k_is)
  (case i11 => k_is)
  (case l11 => k_is)
  (case c11' => k_is)
  (case k11 => k_is)
  (case a12 => k_is)
  (case i12 => k_is)
  (case l12 => k_is)
  (case c12' => k_is)
  (case k12 => k_is)
  (case a13 => k_is)
  (case i13 => k_is)
  (case l13 => k_is)
  (case c13' => k_is)
  (case k13 => k_is)
  (case a14 => k_is)
  (case l14 => k_is)
  (case c14' => k_is)
  (case k14 => k_is)
  (case a15 => k_is)
  (case l15 => k_is)
  (case c15' => k_is)
  (case k15 => k_is)
  (case a16 => k_is)
  (case i16 => k_is)
  (case l16 => k_is)
  (case c16' => k_is)
  (case k16 => k_is)
  (case a17 => k_is)
  (case i17 => k_is)
  (case l17 => k_is)
  (case c17' => k_is)
  (case k17 => k_is)
  (case a18 => k_is)
  (case i18 => k_is)
  (case l18 => k_is)
  (case c18' => k_is)
  (case k18 => k_is)
  (case a19 => k_is)
  (case l19 => k_is)
  (case c19' => k_is)
  (case k19 => k_is)
  (case a20 => k_is)
  (case l20 => k_is)
  (case c20' => k_is)
  (case k20 => k_is)
  (case a21 => k_is)
  (case l21 => k_is)
  (case c21' => k_is)
  (case k21 => k_is)
  (case a22 => k_is)
  (case l22 => k_is)
  (case c22' => k_is)
  (case k22 => k_is)
  (case c0pg => k_is)
  (case c0hd => k_is)
  (case c0po => k_is)
  (case c0sa => k_is)
  (case c0mk => k_is)
  (case c0kc => k_is)
  (case c0n0 => k_is)
  (case c0n1 => k_is)
  (case c0n2 => k_is)
  (case c0n3 => k_is)
  (case c0n4 => k_is)
  (case c0n5 => k_is)
  (case c1pg => k_is)
  (case c1hd => k_is)
  (case c1po => k_is)
  (case c1sa => k_is)
  (case c1mk => k_is)
  (case c1kc => k_is)
  (case c1n0 => k_is)
  (case c1n1 => k_is)
  (case c1n2 => k_is)
  (case c1n3 => k_is)
  (case c1n4 => k_is)
  (case c1n5 => k_is)
  (case c2pg => k_is)
  (case c2hd => k_is)
  (case c2po => k_is)
  (case c2sa => k_is)
  (case c2mk => k_is)
  (case c2kc => k_is)
  (case c2n0 => k_is)
  (case c2n1 => k_is)
  (case c2n2 => k_is)
  (case c2n3 => k_is)
  (case c2n4 => k_is)
  (case c2n5 => k_is)
  (case c3pg => k_is)
  (case c3hd => k_is)
  (case c3po => k_is)
  (case c3sa => k_is)
  (case c3mk => k_is)
  (case c3kc => k_is)
  (case c3n0 => k_is)
  (case c3n1 => k_is)
  (case c3n2 => k_is)
  (case c3n3 => k_is)
  (case c3n4 => k_is)
  (case c3n5 => k_is)
  (case c4pg => k_is)
  (case c4hd => k_is)
  (case c4po => k_is)
  (case c4sa => k_is)
  (case c4mk => k_is)
  (case c4kc => k_is)
  (case c4n0 => k_is)
  (case c4n1 => k_is)
  (case c4n2 => k_is)
  (case c4n3 => k_is)
  (case c4n4 => k_is)
  (case c4n5 => k_is)
  (case b_isinstance => k_is)
  (case b_len => k_is)
  (case b_list => k_is)
  (case b_range => k_is)
  (case b_reversed => k_is)
  (case b_sorted => k_is)
  (case b_tuple => k_is)
  (case kn0 => k_is)
  (case kl0 => k_is)
  (case am_Dress_slots => k_is)
  (case am_Strike_slots => k_is)
  (case cg_Stroke___init__ => k_is)
  (case cr_Stroke___init__ => k_is)
  (case cf_Stroke___init__ => k_is)
