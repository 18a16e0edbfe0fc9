/- The reference's Closure. -/
import Derived.Test.YtagnikaghhobjaaRegO
import Derived.Test.YtagnikaghhobjaaRegX
set_option linter.unusedVariables false
namespace Go.Proofs.Ytagnikaghhobjaa
open Go.RowKit

/-- the regions up to k that outlive one of l -/
structure RCl (ps : List Pr) (rg : Int) (l : List Int) (k : Nat) (ys : List Int) : Prop where
  asc : ys.Pairwise (· < ·)
  mem : ∀ a, a ∈ ys ↔ (a < (k : Int)) ∧ OutL ps rg l a
  few : ys.length ≤ k
section
variable {ps : List Pr} {rg : Int} {l ys : List Int} {k : Nat}
theorem outL_rng {a : Int} (h : OutL ps rg l a) : 0 ≤ a ∧ a < rg := by
  obtain ⟨b, _, h⟩ := h
  exact h.1
theorem RCl.begin : RCl ps rg l 0 [] := ⟨List.Pairwise.nil, fun a => ⟨(fun h => by cases h), fun ⟨h1, h2⟩ => by have := (outL_rng h2).1; omega⟩, Nat.le_refl _⟩
theorem RCl.yes (h : RCl ps rg l k ys) (hy : OutL ps rg l (k : Int)) : RCl ps rg l (k + 1) (ys ++ [(k : Int)]) := by
  refine ⟨List.pairwise_append.2 ⟨h.asc, List.pairwise_singleton _ _, fun a ha b hb => ?_⟩, fun a => ?_, by have := h.few; simp; omega⟩
  · have e : b = (k : Int) := by simpa using hb
    subst e
    exact ((h.mem a).1 ha).1
  · rw [List.mem_append, h.mem]
    constructor
    · rintro (⟨h1, h2⟩ | h1)
      · exact ⟨by omega, h2⟩
      · have e : a = (k : Int) := by simpa using h1
        subst e
        exact ⟨by omega, hy⟩
    · rintro ⟨h1, h2⟩
      by_cases e : a = (k : Int)
      · exact .inr (by simp [e])
      · exact .inl ⟨by omega, h2⟩
theorem RCl.no (h : RCl ps rg l k ys) (hy : ¬ OutL ps rg l (k : Int)) : RCl ps rg l (k + 1) ys := by
  refine ⟨h.asc, fun a => ?_, by have := h.few; omega⟩
  rw [h.mem]
  constructor
  · rintro ⟨h1, h2⟩
    exact ⟨by omega, h2⟩
  · rintro ⟨h1, h2⟩
    by_cases e : a = (k : Int)
    · subst e; exact absurd h2 hy
    · exact ⟨by omega, h2⟩
theorem RCl.end_ (h : RCl ps rg l k ys) (hk : rg ≤ (k : Int)) : ys.Pairwise (· < ·) ∧ ∀ a, a ∈ ys ↔ OutL ps rg l a :=
  ⟨h.asc, fun a => (h.mem a).trans ⟨fun h => h.2, fun h2 => ⟨by have := (outL_rng h2).2; omega, h2⟩⟩⟩
end
/-- has one of the first t been found? -/
noncomputable def fndL (ps : List Pr) (rg : Int) (l : List Int) (a : Int) (t : Nat) : Bool := (l.take t).any fun b => out ps rg a b
theorem fndL_zero {ps : List Pr} {rg a : Int} {l : List Int} : fndL ps rg l a 0 = false := by simp [fndL]
theorem fndL_up {ps : List Pr} {rg a b : Int} {l : List Int} {t : Nat} (h : l[t]? = some b) : fndL ps rg l a (t + 1) = (fndL ps rg l a t || out ps rg a b) := by
  unfold fndL; rw [List.take_add_one, h]; simp [List.any_append]
theorem fndL_all {ps : List Pr} {rg a : Int} {l : List Int} {t : Nat} (h : l.length ≤ t) : fndL ps rg l a t = true ↔ OutL ps rg l a := by
  unfold fndL
  rw [List.take_of_length_le h, List.any_eq_true]
  exact ⟨fun ⟨b, h1, h2⟩ => ⟨b, h1, out_iff.1 h2⟩, fun ⟨b, h1, h2⟩ => ⟨b, h1, out_iff.2 h2⟩⟩

set_option maxHeartbeats 8000000 in
set_option maxRecDepth 100000 in
theorem RClosure_any (A : Option Addr) (n c : Nat) (ps : List Pr) (rg : Int) (B : Option Addr) (m d : Nat) (l : List Int) (w : World) (hA : Prs w w.heap.size A n ps) (hL : Rd w w.heap.size B m (i64s l)) (hn : n ≤ 65535) (hm : m ≤ 1000000) (hrg : rg ≤ 1000000) :
    Calls Try.prog 20 #[.slice A n c, .int .i64 rg, .slice B m d] w (ClosR w ps rg l) := by
  obtain ⟨i0, hi, hz0, hz1, hz2⟩ := info_parts infoInt
  have HA := hide hA
  have HL := hide hL
  have HLL := hide hL.ilen
  clear hA hL
  go_enter Try.func20, Try.ntmps20
  go_wp2
  go_loopw [7, 8] (fun v i wr => ∃ (k q : Nat) (ys : List Int), i = .int .i64 (k : Int) ∧ k ≤ rg.toNat ∧ q ≤ k ∧ Hid (wr.ownsRow w.heap.size 3 1 v q (i64s ys)) ∧ Below w.heap.size w wr ∧ Hid (RCl ps rg l k ys)) (fun _ i _ => rg.toNat - (intOf i).toNat)
  case atStart => exact ⟨0, 0, [], rfl, Nat.zero_le _, Nat.le_refl _, World.ownsRow_nil _ _ _ _, Below.refl _ _, RCl.begin⟩
  case round =>
    obtain ⟨k, q, ys, rfl, hk, hq, HO, hb, HC⟩ := hrel
    obtain ⟨A7, c7, rfl, hqc, hcm⟩ := ownsRow_shape3 HO.out
    unfold maxLen at hcm
    have hsz := hb.size
    have HB := hide hb
    clear hb
    by_cases hlt : (k : Int) < rg
    · go_wp2
      generalize hwv : wr = wv at *
      clear hwv
      go_loopw [9, 10] (fun f i wr => ∃ t : Nat, i = .int .i64 (t : Int) ∧ t ≤ m ∧ f = .bool (fndL ps rg l (k : Int) t) ∧ Hid (wr.ownsRow w.heap.size 3 1 (.slice A7 q c7) q (i64s ys)) ∧ Below w.heap.size w wr) (fun _ i _ => m - (intOf i).toNat)
      case atStart => exact ⟨0, rfl, Nat.zero_le _, by rw [fndL_zero], HO.out, HB.out⟩
      case round =>
        obtain ⟨t, rfl, ht, rfl, HO2, hb2⟩ := hrel
        have HB2 := hide hb2
        have hsz2 := hb2.size
        clear hb2
        by_cases htm : t < m
        · have hex : ∃ b, l[t]? = some b := ⟨_, List.getElem?_eq_getElem (by have := HLL.out; omega)⟩
          obtain ⟨b, hbt⟩ := hex
          have htm' : (t : Int) < (m : Int) := by omega
          obtain ⟨bl, ol, rfl, hbl, c0⟩ := (HL.out.below HB2.out).int hbt
          have hup := fndL_up (ps := ps) (rg := rg) (a := (k : Int)) hbt
          obtain ⟨v, hv⟩ : ∃ v, out ps rg (k : Int) b = v := ⟨_, rfl⟩
          rw [hv] at hup
          have HV := hide hv
          have HU := hide hup
          clear hv hup hbt
          cases v
          · go_wp2_with fail
            refine (ROutlives_is (c := c) HV.out wr ((HA.out.below HB2.out).more HB2.out.size) hn).mono ?_
            rintro e w1 ⟨rfl, hb1⟩
            have HB1 := hide hb1
            clear hb1
            go_wp2_with fail
            go_roundw
            case rel => exact ⟨t + 1, by go_num, by omega, by rw [HU.out, Bool.or_false], ownsRow_below HO2.out HB1.out, HB2.out.trans (HB1.out.mono HB2.out.size)⟩
            case measure => simp [intOf]; omega
          · go_wp2_with fail
            refine (ROutlives_is (c := c) HV.out wr ((HA.out.below HB2.out).more HB2.out.size) hn).mono ?_
            rintro e w1 ⟨rfl, hb1⟩
            have HB1 := hide hb1
            clear hb1
            go_wp2_with fail
            go_roundw
            case rel => exact ⟨t + 1, by go_num, by omega, by rw [HU.out, Bool.or_true], ownsRow_below HO2.out HB1.out, HB2.out.trans (HB1.out.mono HB2.out.size)⟩
            case measure => simp [intOf]; omega
        · have e : t = m := by omega
          have htm' : ¬ (t : Int) < (m : Int) := by omega
          have hall := fndL_all (ps := ps) (rg := rg) (l := l) (a := (k : Int)) (t := t) (by have := HLL.out; omega)
          obtain ⟨v, hv⟩ : ∃ v, fndL ps rg l (k : Int) t = v := ⟨_, rfl⟩
          rw [hv] at hall
          rw [hv]
          have HALL := hide hall
          clear hall hv htm
          cases v
          · have HC2 := hide (HC.out.no (fun h => by cases HALL.out.2 h))
            go_wp2
            go_roundw
            case rel => exact ⟨k + 1, q, ys, by go_num, by omega, by omega, HO2.out, HB2.out, HC2.out⟩
            case measure => simp [intOf]; omega
          · have HC2 := hide (HC.out.yes (HALL.out.1 rfl))
            go_wp2_with (at_builtin; go_must (refine wpList_append_own_at _ rfl _ _ 35 rfl w.heap.size 3 i0 (.int .i64 0) 1 8 Try.underlying35 hi hz0 hz1 hz2 rfl (by decide) _ q _ rfl (HO2.out.alloc _) ⟨wr.heap.size, 0, none⟩ 1 1 (i64s [(k : Int)]) rfl rfl (cell_int2 wr (k : Int) 3) (ints_oneCell _ _) (by unfold maxLen; omega) (by omega) (by rw [World.size_alloc]; omega) ?_; intro v5 w5 hown5 hg5 _ hat5; have HO5 := hide (i64app2 hown5); have HB5 := hide (below_app (HB2.out.alloc hsz2 _) (HO2.out.alloc _) (by rw [World.size_alloc]; omega) hg5); clear hown5 hg5 hat5))
            go_roundw
            case rel => exact ⟨k + 1, q + 1, ys ++ [(k : Int)], by go_num, by omega, by omega, HO5.out, HB5.out, HC2.out⟩
            case measure => simp [intOf]; omega
    · have HE := hide (HC.out.end_ (by omega))
      go_wp2
      go_ret
      exact ⟨A7, q, c7, ys, rfl, hqc, by unfold maxLen; omega, HO.out, HE.out.1, HE.out.2, HB.out⟩
end Go.Proofs.Ytagnikaghhobjaa
