/- 'skip' of law 8: where it lets by, the list of types and the locals are valid. -/
import Derived.Test.YtphfiohjkjipiaaPlaG
import Derived.Test.YtphfiohjkjipiaaTypRef
import Derived.Test.YtphfiohjkjipiaaLaw06
set_option linter.unusedVariables false
namespace Go.Proofs.Ytphfiohjkjipiaa
open Go.RowKit

/-- skip's answer: where it is false, the arguments are valid and small -/
def Skip8 (L : List TyW) (LL : List LcW) (nl : Nat) (e : Ending) : Prop := ∃ b : Bool, e = .returned (.bool b) ∧ (b = false → tyLarge (tys L) = false ∧ nl ≤ 100 ∧ TyOk (tys L) 1000 ∧ LcOk (tys L) (lcs LL))

set_option maxHeartbeats 2000000 in
theorem skip8_any (At Al : Option Addr) (nt ct nl cl : Nat) (L : List TyW) (LL : List LcW) (w : World) (hA : Typs w w.heap.size At nt L) (hL : Locs w w.heap.size Al nl LL) (hnt : nt ≤ maxLen) (hnc : nt ≤ ct) (hnl : nl ≤ maxLen) :
    Calls Try.prog 12 #[.slice At nt ct, .slice Al nl cl] w fun e w' => Skip8 L LL nl e ∧ Below w.heap.size w w' := by
  have H := hide fun (w' : World) (hb : Below w.heap.size w w') => And.intro (hA.up hb) (hL.up hb)
  have HTL := hide hA.len
  have HLL := hide hL.len
  have HNT := hide hnt
  have HNC := hide hnc
  clear hA hL
  cases hlg : tyLarge (tys L) with
  | true =>
    have HLg := hide (large_yes hlg)
    go_enter Try.func12, Try.ntmps12
    go_wp2_with fail
    refine (Large_is HLg.out w (H.out w (Below.refl _ _)).1 HNT.out).mono ?_
    rintro e w1 ⟨rfl, hb⟩
    have HB := hide hb
    clear hb
    go_wp2
    go_ret
    exact ⟨⟨true, rfl, (fun h => by cases h)⟩, HB.out⟩
  | false =>
    have HLg := hide (large_no hlg)
    by_cases hl : 100 < nl
    · have hl' : (100 : Int) < (nl : Int) := by omega
      go_enter Try.func12, Try.ntmps12
      go_wp2_with fail
      refine (Large_is HLg.out w (H.out w (Below.refl _ _)).1 HNT.out).mono ?_
      rintro e w1 ⟨rfl, hb⟩
      have HB := hide hb
      clear hb
      go_wp2
      go_ret
      exact ⟨⟨true, rfl, (fun h => by cases h)⟩, HB.out⟩
    have hl' : (nl : Int) ≤ 100 := by omega
    obtain ⟨u, hu⟩ : ∃ u, tyChk (tys L) 1000 = u := ⟨_, rfl⟩
    have HU := hide hu
    clear hu
    by_cases hu0 : u = 0
    rotate_left
    · have un : (u != 0) = true := by rw [bne_iff_ne]; exact hu0
      clear hu0 hl
      go_enter Try.func12, Try.ntmps12
      go_wp2_with fail
      refine (Large_is HLg.out w (H.out w (Below.refl _ _)).1 HNT.out).mono ?_
      rintro e w1 ⟨rfl, hb⟩
      have HB := hide hb
      clear hb
      go_wp2_with fail
      refine (RCheckT_is HU.out w1 (H.out w1 HB.out).1 HNT.out HNC.out).mono ?_
      rintro e w2 ⟨rfl, hb⟩
      have HB2 := hide (HB.out.trans (hb.mono HB.out.size))
      clear hb
      go_wp2
      go_ret
      exact ⟨⟨true, rfl, (fun h => by cases h)⟩, HB2.out⟩
    subst hu0
    have HOK := hide (tyChk_iff.1 HU.out)
    have HSM := hide (And.intro hlg (show nl ≤ 100 by omega))
    clear hl hlg
    go_enter Try.func12, Try.ntmps12
    go_wp2_with fail
    refine (Large_is HLg.out w (H.out w (Below.refl _ _)).1 HNT.out).mono ?_
    rintro e w1 ⟨rfl, hb⟩
    have HB := hide hb
    clear hb
    go_wp2_with fail
    refine (RCheckT_is HU.out w1 (H.out w1 HB.out).1 HNT.out HNC.out).mono ?_
    rintro e w2 ⟨rfl, hb⟩
    have HB2 := hide (HB.out.trans (hb.mono HB.out.size))
    clear hb
    go_wp2
    go_loopw [22] (fun i wr => ∃ j : Nat, i = .int .i64 (j : Int) ∧ j ≤ nl ∧ Hid (∀ t x, t < j → LL[t]? = some x → 0 ≤ x.ty ∧ x.ty < (nt : Int)) ∧ Below w.heap.size w wr) (fun i _ => nl - (intOf i).toNat)
    case atStart => exact ⟨0, rfl, Nat.zero_le _, fun t x h => absurd h (Nat.not_lt_zero _), HB2.out⟩
    case round =>
      obtain ⟨j, rfl, hj, HE, hb⟩ := hrel
      have HBr := hide hb
      clear hb
      by_cases hlt : j < nl
      · have hlt' : (j : Int) < (nl : Int) := by omega
        obtain ⟨x, hx⟩ : ∃ x, LL[j]? = some x := ⟨_, List.getElem?_eq_getElem (by have := HLL.out; omega)⟩
        obtain ⟨b, o, rfl, _, c0, c1⟩ := (H.out wr HBr.out).2.at_ hx
        have HX := hide hx
        obtain ⟨nm, ty⟩ := x
        simp only [] at c0 c1
        have HB3 := hide (HBr.out.alloc HBr.out.size (.cells #[.string nm, .int .i64 ty] 50))
        clear hx
        by_cases h0 : ty < 0
        · go_wp2
          go_ret
          exact ⟨⟨true, rfl, (fun h => by cases h)⟩, HB3.out⟩
        have h0' : 0 ≤ ty := by omega
        by_cases h1 : (nt : Int) ≤ ty
        · clear h0
          go_wp2
          go_ret
          exact ⟨⟨true, rfl, (fun h => by cases h)⟩, HB3.out⟩
        have h1' : ty < (nt : Int) := by omega
        have HN := hide (show ∀ t x, t < j + 1 → LL[t]? = some x → 0 ≤ x.ty ∧ x.ty < (nt : Int) from fun t x ht hx => by
          rcases Nat.lt_or_ge t j with h | h
          · exact HE.out t x h hx
          · obtain rfl : t = j := by omega
            rw [HX.out] at hx
            injection hx with hx
            rw [← hx]
            exact ⟨h0', h1'⟩)
        clear h0 h1
        go_wp2
        go_roundw
        case rel => exact ⟨j + 1, by go_num, by omega, HN.out, HB3.out⟩
        case measure => simp [intOf]; omega
      · obtain rfl : j = nl := by omega
        have HF := hide (show LcOk (tys L) (lcs LL) from fun t ht => by
          obtain ⟨x, hx, rfl⟩ := List.mem_map.1 ht
          obtain ⟨i, hi⟩ := List.getElem?_of_mem hx
          have := HE.out i x (by have := (List.getElem?_eq_some_iff.1 hi).1; have := HLL.out; omega) hi
          rw [tys_len, HTL.out]
          exact this)
        go_wp2
        go_ret
        exact ⟨⟨false, rfl, fun _ => ⟨HSM.out.1, HSM.out.2, HOK.out, HF.out⟩⟩, HBr.out⟩
end Go.Proofs.Ytphfiohjkjipiaa
