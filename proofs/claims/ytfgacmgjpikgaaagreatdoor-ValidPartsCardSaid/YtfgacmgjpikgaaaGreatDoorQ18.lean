/- Part 19 of the contracts and their mathematics. -/
import Derived.Test.YtfgacmgjpikgaaaGreatDoorQ5
import Derived.Test.YtfgacmgjpikgaaaGreatDoorQ17
import Derived.Deep.RegionHeld3
import Derived.Test.YtfgacmgjpikgaaaGreatDoorShelf
import Derived.Lib.OwnBridge
import Derived.Sort.OwnSortedInts
import Derived.Lib.SlicesCompact
set_option linter.unusedVariables false
set_option linter.unusedSimpArgs false
namespace Go.Proofs.YtfgacmgjpikgaaaGreatDoor
open Go.RowKit
structure TyB (t : Ty) : Prop where
 k : IntR t.kind
 r : IntR t.region
 e : IntR t.elem
 n : t.fields.length ≤ 65535
 f : ∀ f ∈ t.fields, 0 ≤ f ∧ f < 65536
theorem TyB.inj {t u : Ty} (h : TyB t) (h' : TyB u) (e : keyL t = keyL u) : t = u := keyL_inj h.k h.r h.e h.n h'.k h'.r h'.e h'.n h.f h'.f e
theorem TyB.key {t : Ty} (h : TyB t) : keyOf Tryz.prog 118 (keyV t) = some (keyL t) := keyOf_key h.k h.r h.e h.n
structure ChkD (b n : Nat) (pre : List Ty) (w : World) : Prop where
 dep : ∀ j v, (tyDeps pre)[j]? = some v → w.cell? ⟨b, j, none⟩ = some (.int .i64 v)
 rest : ∀ j, pre.length ≤ j → j < n → ∃ v, w.cell? ⟨b, j, none⟩ = some (.int .i64 v)
 fz : ∀ j, w.frozen? ⟨b, j, none⟩ = false
theorem ChkD.block {b n : Nat} {pre : List Ty} {w w' : World} (h : ChkD b n pre w) (hb : w'.heap[b]? = w.heap[b]?) : ChkD b n pre w' :=
 ⟨fun j v hv => (World.cell?_of_block (w := w) hb).trans (h.dep j v hv), fun j h1 h2 => by obtain ⟨v, hv⟩ := h.rest j h1 h2; exact ⟨v, (World.cell?_of_block (w := w) hb).trans hv⟩, fun j => (World.frozen?_of_block (w := w) (a := ⟨b, j, none⟩) hb).trans (h.fz j)⟩
theorem ChkD.set {b n : Nat} {pre : List Ty} {w : World} (h : ChkD b n pre w) {t : Ty} (hk : pre.length < n) : ChkD b n (pre ++ [t]) (w.setCell ⟨b, pre.length, none⟩ (.int .i64 (tyDpt (tyDeps pre) t))) := by
 have hlen : (tyDeps pre).length = pre.length := by unfold tyDeps; exact tyTab_len _ _
 have hs : tyDeps (pre ++ [t]) = tyDeps pre ++ [tyDpt (tyDeps pre) t] := tyTab_snoc _ _ _
 obtain ⟨u, hu⟩ := h.rest pre.length (Nat.le_refl _) hk
 refine ⟨fun j v hv => ?_, fun j h1 h2 => ?_, fun j => (World.frozen?_setCell w _ _ _).trans (h.fz j)⟩
 ·
  rw [hs] at hv
  rcases Nat.lt_or_ge j pre.length with hj | hj
  ·
   rw [List.getElem?_append_left (by omega)] at hv
   exact (World.cell?_setCell_other w ⟨b, pre.length, none⟩ ⟨b, j, none⟩ _ (by simp <;> omega)).trans (h.dep j v hv)
  ·
   rw [List.getElem?_append_right (by omega)] at hv
   have hj0 : j = pre.length := by
    rcases Nat.eq_zero_or_pos (j - (tyDeps pre).length) with h0 | h0
    ·
     omega
    ·
     rw [List.getElem?_eq_none (by simp; omega)] at hv; cases hv
   subst hj0
   rw [hlen, Nat.sub_self] at hv
   obtain rfl : _ = v := by simpa using hv
   exact World.cell?_setCell_same _ _ _ hu
 ·
  simp only [List.length_append, List.length_singleton] at h1
  obtain ⟨v, hv⟩ := h.rest j (by omega) h2
  exact ⟨v, (World.cell?_setCell_other w ⟨b, pre.length, none⟩ ⟨b, j, none⟩ _ (by simp <;> omega)).trans hv⟩
theorem ChkD.again {b n : Nat} {pre : List Ty} {w : World} (h : ChkD b n pre w) {k : Nat} (hk : pre.length = k) (v : Int) : ChkD b n pre (w.setCell ⟨b, k, none⟩ (.int .i64 v)) := by
 have hlen : (tyDeps pre).length = pre.length := by unfold tyDeps; exact tyTab_len _ _
 refine ⟨fun j u hu => ?_, fun j h1 h2 => ?_, fun j => (World.frozen?_setCell w _ _ _).trans (h.fz j)⟩
 ·
  have hj : j < pre.length := by rw [← hlen]; exact (List.getElem?_eq_some_iff.1 hu).1
  exact (World.cell?_setCell_other w ⟨b, k, none⟩ ⟨b, j, none⟩ _ (by simp <;> omega)).trans (h.dep j u hu)
 ·
  obtain ⟨u, hu⟩ := h.rest j h1 h2
  by_cases hjk : j = k
  ·
   subst hjk
   exact ⟨v, World.cell?_setCell_same _ _ _ hu⟩
  ·
   exact ⟨u, (World.cell?_setCell_other w ⟨b, k, none⟩ ⟨b, j, none⟩ _ (by simp <;> omega)).trans hu⟩
def ChkM (b : Nat) (pre : List Ty) (w : World) : Prop := ∃ m Dm, w.ownsMap (H := Unit) Tryz.prog 118 (plainElem Tryz.prog 4) b m Dm ∧ m ≤ pre.length ∧
 (∀ t, TyB t → (Maps.has Dm (keyL t) = true ↔ t ∈ pre)) ∧ ∀ t, Maps.has Dm (keyL t) = true → ∀ z, Dm.atKey (keyL t) z = .lit (.bool true)
theorem ChkM.block {b : Nat} {pre : List Ty} {w w' : World} (h : ChkM b pre w) (hb : w'.heap[b]? = w.heap[b]?) : ChkM b pre w' := by
 obtain ⟨m, Dm, h1, h2⟩ := h
 exact ⟨m, Dm, owns_block h1 hb, h2⟩
theorem mapKey : Tryz.prog.underlying 113 = some (.map 118 4) := Tryz.underlying113
set_option maxRecDepth 100000 in
theorem ChkM.look {b : Nat} {pre : List Ty} {w : World} (h : ChkM b pre w) {t : Ty} (ht : TyB t) : (Instr.lookup 113 (.map (some b)) (keyV t) false).run Tryz.prog w = .ok (.bool (decide (t ∈ pre))) w := by
 obtain ⟨m, Dm, h1, _, h3, h4⟩ := h
 obtain ⟨v, ps, hrun, hv⟩ := h1.lookup seen_law mapKey (zeroB w) (zd := .lit (.bool false)) (zp := []) (plainElem_bool Tryz.underlying4 false) ht.key
 rw [hrun]
 cases hh : Maps.has Dm (keyL t)
 ·
  rw [Maps.atKey_of_not_has hh] at hv
  obtain ⟨c, rfl, hc⟩ := plainElem_bool_inv Tryz.underlying4 hv
  injection hc with hc _
  injection hc with hc
  injection hc with hc
  have hn : ¬ t ∈ pre := fun h => by rw [(h3 t ht).2 h] at hh; cases hh
  rw [decide_eq_false hn, hc]
 ·
  rw [h4 t hh] at hv
  obtain ⟨c, rfl, hc⟩ := plainElem_bool_inv Tryz.underlying4 hv
  injection hc with hc _
  injection hc with hc
  injection hc with hc
  rw [decide_eq_true ((h3 t ht).1 hh), hc]
theorem ChkM.put {b : Nat} {pre : List Ty} {w w' : World} {m : Nat} {Dm : DataW Unit} {t : Ty} (hbd : ∀ u ∈ pre, TyB u) (h1 : w.ownsMap (H := Unit) Tryz.prog 118 (plainElem Tryz.prog 4) b m Dm) (h2 : m ≤ pre.length)
  (h3 : ∀ t, TyB t → (Maps.has Dm (keyL t) = true ↔ t ∈ pre)) (h4 : ∀ t, Maps.has Dm (keyL t) = true → ∀ z, Dm.atKey (keyL t) z = .lit (.bool true)) (ht : TyB t)
  (hw : w'.ownsMap (H := Unit) Tryz.prog 118 (plainElem Tryz.prog 4) b (m + 1) (Dm.put (keyL t) (.lit (.bool true)))) : ChkM b (pre ++ [t]) w' := by
 have hm : Maps.IsMap Dm := ⟨_, (h1.entries seen_law).choose_spec.1⟩
 refine ⟨m + 1, _, hw, by simp; omega, fun u hu => ?_, fun u hh z => ?_⟩
 ·
  by_cases hut : u = t
  ·
   subst hut
   rw [Maps.has_put_same hm keyL_key]
   simp
  ·
   have hne : keyL u ≠ keyL t := fun e => hut (hu.inj ht e)
   rw [Maps.has_put_other hne, h3 u hu]
   simp [hut]
 ·
  by_cases hut : keyL u = keyL t
  ·
   rw [hut]
   exact Maps.atKey_put_same hm keyL_key _ z
  ·
   rw [Maps.has_put_other hut] at hh
   exact (Maps.atKey_put_other hut _ z).trans (h4 u hh z)
theorem keyTypeP : Tryz.prog.keyType 99 = true := by kernel_rfl
theorem pair_law : Go.Maps.Keyed Tryz.prog 99 := Go.Maps.Keyed.of_law (deep_law_gate (by kernel_rfl) (of_decide_eq_true (by kernel_rfl)) (of_decide_eq_true (by kernel_rfl)) keyTypeP (by rw [Tryz.underlying99]))
theorem mapPair : Tryz.prog.underlying 95 = some (.map 99 4) := Tryz.underlying95
def keyP (p : Pr) : Lit := .string (keyBytes [.int .i64 p.1, .int .i64 p.2])
section
variable {P : Program} {d : Nat} {t : TypeId}
theorem keyOf_arr {k : TypeId} {n : Nat} {e : TypeId} {cs : List Value} {ls : List Lit} (hu : P.underlying k = some (.array n e)) (hk : P.keyType k = true) (hsz : cs.length = P.cellsOf k) (hl : P.keyLits (P.types.size + 1) k cs = some ls) : keyOf P k (.agg cs.toArray) = some (.string (keyBytes ls)) := by
 simp [keyOf, hu, hk, Value.formed, hsz, Value.cells, hl]
theorem keyLits_arr {n : Nat} {e : TypeId} {cs : List Value} (hu : P.underlying t = some (.array n e)) (hsz : cs.length = P.cellsOf t) : P.keyLits (d + 1) t cs = ((List.range n).mapM fun i => P.keyLits d e ((cs.drop (i * P.cellsOf e)).take (P.cellsOf e))).map List.flatten := by
 conv => lhs; unfold Program.keyLits
 simp only [hu]
 rw [if_pos hsz]
theorem keyLits_num {q : IntKind} (hu : P.underlying t = some (.int q)) {n : Int} (hw : (Lit.int q n).wf = true) : P.keyLits (d + 1) t [.int q n] = some [.int q n] := by
 simp [Program.keyLits, hu, hw]
end
theorem keyOf_pair {p : Pr} (h : IntP p) : keyOf Tryz.prog 99 (aggP p) = some (keyP p) := by
 have c1 : Tryz.prog.cellsOf 3 = 1 := by kernel_rfl
 have c4 : Tryz.prog.cellsOf 99 = 2 := by kernel_rfl
 have hp : ∃ d, Tryz.prog.types.size = d + 1 := ⟨Tryz.prog.types.size - 1, by have h : 0 < Tryz.prog.types.size := of_decide_eq_true (by kernel_rfl); omega⟩
 obtain ⟨d, hd⟩ := hp
 refine keyOf_arr (cs := [.int .i64 p.1, .int .i64 p.2]) Tryz.underlying99 keyTypeP (by rw [c4]; rfl) ?_
 rw [keyLits_arr Tryz.underlying99 (by rw [c4]; rfl), hd]
 simp only [show List.range 2 = [0, 1] from rfl, List.mapM_cons, List.mapM_nil, c1]
 simp [keyLits_num Tryz.underlying3 (wf_i64 h.1), keyLits_num Tryz.underlying3 (wf_i64 h.2)]
set_option maxRecDepth 100000 in
theorem keyP_inj {p q : Pr} (hp : IntP p) (hq : IntP q) (h : keyP p = keyP q) : p = q := by
 have h1 := keyOf_pair hp
 rw [h] at h1
 have h2 := pair_law.inj h1 (keyOf_pair hq)
 injection h2 with h2
 have h3 := congrArg Array.toList h2
 simp only [List.cons.injEq, and_true, Value.int.injEq, true_and] at h3
 exact Prod.ext h3.1 h3.2
theorem keyP_key {p : Pr} : Go.WideAt.IsKeyLit (keyP p) := trivial
def PrM (b : Nat) (M : List Pr) (w : World) : Prop := ∃ m Dm, w.ownsMap (H := Unit) Tryz.prog 99 (plainElem Tryz.prog 4) b m Dm ∧ m ≤ M.length ∧
 (∀ p, IntP p → (Maps.has Dm (keyP p) = true ↔ p ∈ M)) ∧ ∀ p, Maps.has Dm (keyP p) = true → ∀ z, Dm.atKey (keyP p) z = .lit (.bool true)
theorem PrM.block {b : Nat} {M : List Pr} {w w' : World} (h : PrM b M w) (hb : w'.heap[b]? = w.heap[b]?) : PrM b M w' := by
 obtain ⟨m, Dm, h1, h2⟩ := h
 exact ⟨m, Dm, owns_block h1 hb, h2⟩
set_option maxRecDepth 100000 in
theorem PrM.look {b : Nat} {M : List Pr} {w : World} (h : PrM b M w) {p : Pr} (hp : IntP p) {v : Bool} (hv0 : decide (p ∈ M) = v) : (Instr.lookup 95 (.map (some b)) (aggP p) false).run Tryz.prog w = .ok (.bool v) w := by
 obtain ⟨m, Dm, h1, _, h3, h4⟩ := h
 obtain ⟨u, ps, hrun, hv⟩ := h1.lookup pair_law mapPair (zeroB w) (zd := .lit (.bool false)) (zp := []) (plainElem_bool Tryz.underlying4 false) (keyOf_pair hp)
 rw [hrun, ← hv0]
 cases hh : Maps.has Dm (keyP p)
 ·
  rw [Maps.atKey_of_not_has hh] at hv
  obtain ⟨c, rfl, hc⟩ := plainElem_bool_inv Tryz.underlying4 hv
  injection hc with hc _
  injection hc with hc
  injection hc with hc
  have hn : ¬ p ∈ M := fun h => by rw [(h3 p hp).2 h] at hh; cases hh
  rw [decide_eq_false hn, hc]
 ·
  rw [h4 p hh] at hv
  obtain ⟨c, rfl, hc⟩ := plainElem_bool_inv Tryz.underlying4 hv
  injection hc with hc _
  injection hc with hc
  injection hc with hc
  rw [decide_eq_true ((h3 p hp).1 hh), hc]
theorem PrM.put {b : Nat} {M : List Pr} {w w' : World} {m : Nat} {Dm : DataW Unit} {p : Pr} (hbd : ∀ q ∈ M, IntP q) (h1 : w.ownsMap (H := Unit) Tryz.prog 99 (plainElem Tryz.prog 4) b m Dm) (h2 : m ≤ M.length)
  (h3 : ∀ p, IntP p → (Maps.has Dm (keyP p) = true ↔ p ∈ M)) (h4 : ∀ p, Maps.has Dm (keyP p) = true → ∀ z, Dm.atKey (keyP p) z = .lit (.bool true)) (hp : IntP p)
  (hw : w'.ownsMap (H := Unit) Tryz.prog 99 (plainElem Tryz.prog 4) b (m + 1) (Dm.put (keyP p) (.lit (.bool true)))) : PrM b (M ++ [p]) w' := by
 have hm : Maps.IsMap Dm := ⟨_, (h1.entries pair_law).choose_spec.1⟩
 refine ⟨m + 1, _, hw, by simp; omega, fun u hu => ?_, fun u hh z => ?_⟩
 ·
  by_cases hut : u = p
  ·
   subst hut
   rw [Maps.has_put_same hm keyP_key]
   simp
  ·
   have hne : keyP u ≠ keyP p := fun e => hut (keyP_inj hu hp e)
   rw [Maps.has_put_other hne, h3 u hu]
   simp [hut]
 ·
  by_cases hut : keyP u = keyP p
  ·
   rw [hut]
   exact Maps.atKey_put_same hm keyP_key _ z
  ·
   rw [Maps.has_put_other hut] at hh
   exact (Maps.atKey_put_other hut _ z).trans (h4 u hh z)
theorem PrM.made (w : World) : PrM w.heap.size [] (w.alloc (.map #[] 0)) :=
 ⟨0, .map [], World.ownsMap_made (H := Unit) w Tryz.prog 99 (plainElem Tryz.prog 4), Nat.le_refl _, fun p _ => by simp [Maps.has], fun p h => by simp [Maps.has] at h⟩
theorem icompact_mem {zs : List Int} {x : Int} : x ∈ Lib.compact zs ↔ x ∈ zs := by
 unfold Lib.compact Lib.compactUpTo
 constructor
 ·
  intro h
  obtain ⟨i, hi, rfl⟩ := List.mem_map.1 h
  have hi' : i < zs.length := List.mem_range.1 (List.mem_filter.1 hi).1
  simp [getElem!_pos, hi']
 ·
  intro h
  obtain ⟨i, hi, rfl⟩ := List.mem_iff_getElem.1 h
  have key : ∀ n, ∀ i (hi : i < zs.length), i ≤ n → ∃ j, j < zs.length ∧ Lib.keeps zs.toArray j = true ∧ zs.toArray[j]! = zs[i] := by
   intro n
   induction n with
   | zero =>
    intro i hi h0
    obtain rfl : i = 0 := by omega
    exact ⟨0, hi, by simp [Lib.keeps], by simp [getElem!_pos, hi]⟩
   | succ n ih =>
    intro i hi hn
    by_cases hk : Lib.keeps zs.toArray i = true
    ·
     exact ⟨i, hi, hk, by simp [getElem!_pos, hi]⟩
    ·
     have hk' : ¬ (i = 0 ∨ zs.toArray[i]! ≠ zs.toArray[i - 1]!) := by simpa [Lib.keeps] using hk
     have h0 : i ≠ 0 := fun e => hk' (.inl e)
     have he : zs.toArray[i]! = zs.toArray[i - 1]! := Classical.byContradiction fun e => hk' (.inr e)
     obtain ⟨j, h1, h2, h3⟩ := ih (i - 1) (by omega) (by omega)
     refine ⟨j, h1, h2, h3.trans ?_⟩
     simp only [getElem!_pos, hi, show i - 1 < zs.length by omega, List.size_toArray, List.getElem_toArray] at he
     exact he.symm
  obtain ⟨j, h1, h2, h3⟩ := key i i hi (Nat.le_refl _)
  exact List.mem_map.2 ⟨j, List.mem_filter.2 ⟨List.mem_range.2 h1, h2⟩, h3⟩
theorem icompact_asc {zs : List Int} (h : zs.Pairwise (· ≤ ·)) : (Lib.compact zs).Pairwise (· < ·) := by
 unfold Lib.compact Lib.compactUpTo
 refine List.pairwise_map.2 ?_
 have hr : ((List.range zs.length).filter (Lib.keeps zs.toArray)).Pairwise (· < ·) := List.Pairwise.sublist List.filter_sublist List.pairwise_lt_range
 refine List.Pairwise.imp_of_mem ?_ hr
 intro i j hi hj hij
 obtain ⟨hi1, hi2⟩ := List.mem_filter.1 hi
 obtain ⟨hj1, hj2⟩ := List.mem_filter.1 hj
 have hjl := List.mem_range.1 hj1
 have hil := List.mem_range.1 hi1
 have hne : zs.toArray[j]! ≠ zs.toArray[j - 1]! := by
  have : j = 0 ∨ zs.toArray[j]! ≠ zs.toArray[j - 1]! := by simpa [Lib.keeps] using hj2
  rcases this with h | h
  ·
   omega
  ·
   exact h
 simp only [getElem!_pos, hjl, hil, show j - 1 < zs.length by omega, List.size_toArray, List.getElem_toArray] at hne ⊢
 have hp := List.pairwise_iff_getElem.1 h
 have h1 : zs[j - 1] ≤ zs[j] := hp (j - 1) j (by omega) hjl (by omega)
 rcases Nat.lt_or_ge i (j - 1) with c | c
 ·
  have h3 : zs[i] ≤ zs[j - 1] := hp i (j - 1) hil (by omega) c
  omega
 ·
  obtain rfl : i = j - 1 := by omega
  omega
theorem isort_le (zs : List Int) : (zs.mergeSort fun x y => decide (x ≤ y)).Pairwise (· ≤ ·) := by
 have hs := List.pairwise_mergeSort (le := fun x y : Int => decide (x ≤ y)) (fun a b c h1 h2 => by simp at h1 h2 ⊢; omega) (fun a b => by simp; omega) zs
 exact hs.imp fun h => by simpa using h
def idedup (zs : List Int) : List Int := Lib.compact (zs.mergeSort fun x y => decide (x ≤ y))
theorem idedup_mem {zs : List Int} {x : Int} : x ∈ idedup zs ↔ x ∈ zs := by unfold idedup; rw [icompact_mem, (List.mergeSort_perm _ _).mem_iff]
theorem idedup_asc (zs : List Int) : (idedup zs).Pairwise (· < ·) := icompact_asc (isort_le zs)
theorem idedup_len (zs : List Int) : (idedup zs).length ≤ zs.length := by
 have h := Lib.compact_length_le (zs.mergeSort fun x y => decide (x ≤ y))
 rw [List.length_mergeSort] at h
 exact h
theorem SortRowI {w : World} {base n : Nat} {v : Value} {zs : List Int} (h : w.ownsRow base 3 1 v n (i64s zs)) (hn : n ≤ 4611686018427387903) :
  Calls Tryz.prog 137 #[v] w fun e w' => e = .returned (.tuple #[]) ∧ w'.ownsRow base 3 1 v n (i64s (zs.mergeSort fun x y => decide (x ≤ y))) ∧ (base ≤ w.heap.size → Below base w w') := by
 have hl : zs.length = n := by simpa using h.1
 rcases h.2 with ⟨rfl, hx⟩ | ⟨g, cap, cur, rfl, hbase, hb, h1, h2, h3, h4⟩
 ·
  subst hx
  obtain rfl : zs = [] := List.eq_nil_of_length_eq_zero hl
  refine (Tryz.slices_Sort_int_none none 0 w).mono ?_
  rintro e w' ⟨rfl, rfl⟩
  exact ⟨rfl, by simpa using h, fun _ => Below.refl _ _⟩
 ·
  subst hl
  have hH := Go.holds_of_blockI hb (by simpa using h4)
  have hg : g < w.heap.size := (Array.getElem?_eq_some_iff.1 hb).1
  refine (Tryz.slices_Sort_int g 0 cap zs w hH hg (by omega)).mono ?_
  rintro e w' ⟨rfl, m, os, rfl⟩
  refine ⟨rfl, Go.ownsRow_sortedI (by simp) hbase hb h1 h2 h3, fun hs => ?_⟩
  exact (Below.refl base w).grown (Go.grownBy_sortedI _) hs (fun j hj => by cases hj; exact hbase)
theorem CompactRowI {w : World} {base n : Nat} {v : Value} {zs : List Int} (h : w.ownsRow base 3 1 v n (i64s zs)) (hn : n ≤ 4611686018427387903) :
  Calls Tryz.prog 138 #[v] w fun e w' => ∃ A m c, e = .returned (.slice A m c) ∧ m ≤ c ∧ c ≤ maxLen ∧ w'.ownsRow base 3 1 (.slice A m c) m (i64s (Lib.compact zs)) ∧ Below base w w' := by
 have hl : zs.length = n := by simpa using h.1
 by_cases hv : v = .slice none 0 0
 ·
  subst hv
  have hz : n = 0 := by
   rcases h.2 with ⟨_, hx⟩ | ⟨g, cap, cur, h0, _⟩
   ·
    exact hx
   ·
    cases h0
  subst hz
  obtain rfl : zs = [] := List.eq_nil_of_length_eq_zero hl
  refine (Tryz.slices_Compact_int_empty none 0 w).mono ?_
  rintro e w' ⟨rfl, rfl⟩
  refine ⟨none, 0, 0, rfl, Nat.le_refl _, Nat.zero_le _, ?_, Below.refl _ _⟩
  have e : Lib.compact ([] : List Int) = [] := rfl
  rw [e]
  exact h
 ·
  obtain ⟨g, cap, rfl, hbg, hgl, hncap, hcm, _, hH⟩ := Lib.holds_of_ownsRow h hv
  subst hl
  refine (Tryz.slices_Compact_int g 0 cap zs w hH (by omega) hncap).mono ?_
  rintro e w' ⟨rfl, q, rfl⟩
  have hle := Lib.compact_length_le zs
  have hc := Lib.ownsRow_putRow (q := q) (k := (Lib.compact zs).length) (ys := Lib.compact zs ++ List.replicate (zs.length - (Lib.compact zs).length) 0) h (by simp; omega) hle
  rw [List.take_left] at hc
  exact ⟨_, _, _, rfl, by omega, hcm, hc, Lib.below_putRow (Below.refl _ _) hbg⟩
set_option maxHeartbeats 1000000 in
theorem BSearch_none (A : Option Addr) (c : Nat) (x : Int) (w : World) : Calls Tryz.prog 145 #[.slice A 0 c, .int .i64 x] w fun e w' => e = .returned (.tuple #[.int .i64 0, .bool false]) ∧ ∃ q, w' = w.drewN q := by
 go_enter Tryz.func145, Tryz.ntmps145
 go_wp2
 go_loop [7, 8] (fun i j => i = .int .i64 0 ∧ j = .int .i64 0) (fun _ _ => 0)
 case atStart => exact ⟨rfl, rfl⟩
 case round =>
  obtain ⟨rfl, rfl⟩ := hrel
  go_wp2
  go_ret2
  exact ⟨rfl, 0, rfl⟩
theorem BSearch_any {A : Option Addr} {n c : Nat} {D : List Int} (x : Int) (w : World) {B : Nat} (hD : Rd w B A n (i64s D)) (hs : D.Pairwise (· < ·)) (hn : n ≤ 1000000) :
  Calls Tryz.prog 145 #[.slice A n c, .int .i64 x] w fun e w' => e = .returned (.tuple #[.int .i64 ((D.countP (· < x) : Nat) : Int), .bool (D.contains x)]) ∧ ∃ q, w' = w.drewN q := by
 have hl := hD.ilen
 rcases Nat.eq_zero_or_pos n with h0 | h0
 ·
  subst h0
  obtain rfl : D = [] := List.eq_nil_of_length_eq_zero hl
  exact BSearch_none A c x w
 ·
  obtain ⟨b, o, rfl, hb, hc⟩ := hD.2 h0
  have h := Tryz.slices_BinarySearch_int b o n c D x w (by omega) (by omega) (fun j hj => hc j _ (by rw [List.getElem?_map, List.getElem?_eq_getElem hj, List.getD_eq_getElem?_getD, List.getElem?_eq_getElem hj]; rfl)) (by rw [← hl, List.take_length]; exact asc_le hs)
  rw [← hl, List.take_length, hl] at h
  exact h
structure RowW where
 xs : List Int
 A : Option Addr
 n : Nat
 c : Nat
abbrev rowV (x : RowW) : Value := .slice x.A x.n x.c
structure RelW (w : World) (B r : Nat) (ps : List Pr) (rg : Int) (A1 : Option Addr) (nD cD : Nat) (D : List Int) (A2 : Option Addr) (c2 : Nat) (L : List RowW) : Prop where
 lt : r < B
 d0 : w.cell? ⟨r, 0, none⟩ = some (.int .i64 rg)
 d1 : w.cell? ⟨r, 1, none⟩ = some (.slice A1 nD cD)
 d2 : w.cell? ⟨r, 2, none⟩ = some (.slice A2 nD c2)
 nc : nD ≤ cD
 nc2 : nD ≤ c2
 dec : Rd w B A1 nD (i64s D)
 above : Rd w B A2 nD (L.map rowV)
 rows : ∀ x ∈ L, Rd w B x.A x.n (i64s x.xs) ∧ x.n ≤ x.c ∧ x.n ≤ 140737488355327
 rel : RelD ps rg D (L.map RowW.xs)
 few : nD ≤ 200000
 ok : PrOk ps rg
theorem RelW.below {w w' : World} {B r : Nat} {ps : List Pr} {rg : Int} {A1 : Option Addr} {nD cD : Nat} {D : List Int} {A2 : Option Addr} {c2 : Nat} {L : List RowW} (h : RelW w B r ps rg A1 nD cD D A2 c2 L) (hb : Below B w w') : RelW w' B r ps rg A1 nD cD D A2 c2 L :=
 ⟨h.lt, (hb.cell (p := ⟨r, 0, none⟩) h.lt).trans h.d0, (hb.cell (p := ⟨r, 1, none⟩) h.lt).trans h.d1, (hb.cell (p := ⟨r, 2, none⟩) h.lt).trans h.d2, h.nc, h.nc2, h.dec.below hb, h.above.below hb, fun x hx => ⟨(h.rows x hx).1.below hb, (h.rows x hx).2⟩, h.rel, h.few, h.ok⟩
theorem RelW.more {w : World} {B B' r : Nat} {ps : List Pr} {rg : Int} {A1 : Option Addr} {nD cD : Nat} {D : List Int} {A2 : Option Addr} {c2 : Nat} {L : List RowW} (h : RelW w B r ps rg A1 nD cD D A2 c2 L) (hb : B ≤ B') : RelW w B' r ps rg A1 nD cD D A2 c2 L :=
 ⟨Nat.lt_of_lt_of_le h.lt hb, h.d0, h.d1, h.d2, h.nc, h.nc2, h.dec.more hb, h.above.more hb, fun x hx => ⟨(h.rows x hx).1.more hb, (h.rows x hx).2⟩, h.rel, h.few, h.ok⟩
def Rel (w : World) (B r : Nat) (ps : List Pr) (rg : Int) : Prop := ∃ A1 nD cD D A2 c2 L, RelW w B r ps rg A1 nD cD D A2 c2 L
theorem Rel.below {w w' : World} {B r : Nat} {ps : List Pr} {rg : Int} (h : Rel w B r ps rg) (hb : Below B w w') : Rel w' B r ps rg := by
 obtain ⟨A1, nD, cD, D, A2, c2, L, h⟩ := h
 exact ⟨A1, nD, cD, D, A2, c2, L, h.below hb⟩
theorem Rel.more {w : World} {B B' r : Nat} {ps : List Pr} {rg : Int} (h : Rel w B r ps rg) (hb : B ≤ B') : Rel w B' r ps rg := by
 obtain ⟨A1, nD, cD, D, A2, c2, L, h⟩ := h
 exact ⟨A1, nD, cD, D, A2, c2, L, h.more hb⟩
theorem index_raw {A1 : Option Addr} {nD cD : Nat} {D : List Int} {r : Nat} (x : Int) (w : World) {B : Nat} (h1 : w.cell? ⟨r, 1, none⟩ = some (.slice A1 nD cD)) (hD : Rd w B A1 nD (i64s D)) (hs : D.Pairwise (· < ·)) (hn : nD ≤ 1000000) :
  Calls Tryz.prog 139 #[.pointer (some ⟨r, 0, none⟩), .int .i64 x] w fun e w' => e = .returned (.tuple #[.int .i64 ((D.countP (· < x) : Nat) : Int), .bool (D.contains x)]) ∧ ∃ q, w' = w.drewN q := by
 have HS := hide (BSearch_any (c := cD) x w hD hs hn)
 clear hD hs
 generalize D.countP (· < x) = k at *
 generalize D.contains x = b at *
 go_enter Tryz.func139, Tryz.ntmps139
 go_wp2_with (go_at_call 145; refine HS.out.mono ?_; rintro e w1 ⟨rfl, q, rfl⟩)
 go_ret2
 exact ⟨rfl, q, rfl⟩
theorem index_yes {A1 : Option Addr} {nD cD : Nat} {D : List Int} {r : Nat} {x : Int} {i : Nat} (hi : D[i]? = some x) (w : World) {B : Nat} (h1 : w.cell? ⟨r, 1, none⟩ = some (.slice A1 nD cD)) (hD : Rd w B A1 nD (i64s D)) (hs : D.Pairwise (· < ·)) (hn : nD ≤ 1000000) :
  Calls Tryz.prog 139 #[.pointer (some ⟨r, 0, none⟩), .int .i64 x] w fun e w' => e = .returned (.tuple #[.int .i64 (i : Int), .bool true]) ∧ ∃ q, w' = w.drewN q := by
 have h := index_raw (cD := cD) x w h1 hD hs hn
 rw [asc_count hs hi, show D.contains x = true by simpa using List.mem_of_getElem? hi] at h
 exact h
theorem index_no {A1 : Option Addr} {nD cD : Nat} {D : List Int} {r : Nat} {x : Int} (hi : x ∉ D) (w : World) {B : Nat} (h1 : w.cell? ⟨r, 1, none⟩ = some (.slice A1 nD cD)) (hD : Rd w B A1 nD (i64s D)) (hs : D.Pairwise (· < ·)) (hn : nD ≤ 1000000) :
  Calls Tryz.prog 139 #[.pointer (some ⟨r, 0, none⟩), .int .i64 x] w fun e w' => (∃ k : Nat, e = .returned (.tuple #[.int .i64 (k : Int), .bool false])) ∧ ∃ q, w' = w.drewN q := by
 refine (index_raw (cD := cD) x w h1 hD hs hn).mono ?_
 rintro e w' ⟨rfl, q, rfl⟩
 exact ⟨⟨_, by rw [show D.contains x = false by simpa using hi]⟩, q, rfl⟩
end Go.Proofs.YtfgacmgjpikgaaaGreatDoor
