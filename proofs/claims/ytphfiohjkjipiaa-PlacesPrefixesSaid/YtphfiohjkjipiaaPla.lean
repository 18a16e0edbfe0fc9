/- Places and locals in memory, and the form of a place: checkProj, Check, within, the reference's Check. -/
import Derived.Test.YtphfiohjkjipiaaPlaM
import Derived.Test.YtphfiohjkjipiaaPairs
set_option linter.unusedVariables false
namespace Go.Proofs.Ytphfiohjkjipiaa
open Go.RowKit

/-! ### a local: its name and its type -/
structure LcW where
  name : ByteArray
  ty : Int
def cLc (x : LcW) : List Value := [.string x.name, .int .i64 x.ty]
theorem cLc_len (x : LcW) : (cLc x).length = 2 := rfl
theorem cLc_one (x : LcW) : ∀ u ∈ cLc x, u.oneCell' = true := by intro u hu; simp only [cLc, List.mem_cons, List.not_mem_nil, or_false] at hu; rcases hu with rfl | rfl <;> rfl
structure Locs (w : World) (B : Nat) (A : Option Addr) (n : Nat) (L : List LcW) : Prop where
  cells : Cells w B 2 cLc A n L
  int : ∀ x ∈ L, IntR x.ty
theorem Locs.below {w w' : World} {B : Nat} {A : Option Addr} {n : Nat} {L : List LcW} (h : Locs w B A n L) (hb : Below B w w') : Locs w' B A n L := ⟨h.cells.below hb, h.int⟩
theorem Locs.more {w : World} {B B' : Nat} {A : Option Addr} {n : Nat} {L : List LcW} (h : Locs w B A n L) (hb : B ≤ B') : Locs w B' A n L := ⟨h.cells.more hb, h.int⟩
theorem Locs.len {w : World} {B : Nat} {A : Option Addr} {n : Nat} {L : List LcW} (h : Locs w B A n L) : L.length = n := h.cells.1
theorem Locs.at_ {w : World} {B : Nat} {A : Option Addr} {n : Nat} {L : List LcW} (h : Locs w B A n L) {i : Nat} {x : LcW} (hp : L[i]? = some x) :
    ∃ b o, A = some ⟨b, o, none⟩ ∧ b < B ∧ w.cell? ⟨b, o + i * 2, none⟩ = some (.string x.name) ∧ w.cell? ⟨b, o + i * 2 + 1, none⟩ = some (.int .i64 x.ty) := by
  obtain ⟨b, o, h1, h2, h3⟩ := h.cells.at_ hp
  exact ⟨b, o, h1, h2, h3 0 _ rfl, h3 1 _ rfl⟩
/-- the locals' types -/
abbrev lcs (L : List LcW) : List Int := L.map LcW.ty
theorem lcs_at {L : List LcW} {k : Nat} {x : LcW} (h : L[k]? = some x) : (lcs L)[k]? = some x.ty := by rw [List.getElem?_map, h]; rfl
theorem lcs_len (L : List LcW) : (lcs L).length = L.length := List.length_map _

/-! ### a place -/
structure PlW where
  l : Int
  A : Option Addr
  n : Nat
  c : Nat
  ps : List Pr
abbrev aggPl (x : PlW) : Value := .agg #[.int .i64 x.l, .slice x.A x.n x.c]
structure OnePl (w : World) (B : Nat) (x : PlW) : Prop where
  nc : x.n ≤ x.c
  cm : x.c ≤ maxLen
  l : IntR x.l
  prs : Prs w B x.A x.n x.ps
theorem OnePl.below {w w' : World} {B : Nat} {x : PlW} (h : OnePl w B x) (hb : Below B w w') : OnePl w' B x := ⟨h.nc, h.cm, h.l, h.prs.below hb⟩
theorem OnePl.more {w : World} {B B' : Nat} {x : PlW} (h : OnePl w B x) (hb : B ≤ B') : OnePl w B' x := ⟨h.nc, h.cm, h.l, h.prs.more hb⟩
/-- in a later world -/
theorem OnePl.up {w w' : World} {x : PlW} (h : OnePl w w.heap.size x) (hb : Below w.heap.size w w') : OnePl w' w'.heap.size x := (h.below hb).more hb.size
theorem Typs.up {w w' : World} {A : Option Addr} {n : Nat} {L : List TyW} (h : Typs w w.heap.size A n L) (hb : Below w.heap.size w w') : Typs w' w'.heap.size A n L := (h.below hb).more hb.size
theorem Locs.up {w w' : World} {A : Option Addr} {n : Nat} {L : List LcW} (h : Locs w w.heap.size A n L) (hb : Below w.heap.size w w') : Locs w' w'.heap.size A n L := (h.below hb).more hb.size
/-- the first k projections -/
def PlW.take (x : PlW) (k : Nat) : PlW := ⟨x.l, x.A, k, x.c, x.ps.take k⟩
theorem Prs.take {w : World} {B : Nat} {A : Option Addr} {n : Nat} {L : List Pr} (h : Prs w B A n L) {k : Nat} (hk : k ≤ n) : Prs w B A k (L.take k) := by
  have hl := h.len
  refine ⟨⟨by rw [List.length_take]; omega, fun h0 => ?_⟩, fun p hp => h.int p (List.mem_of_mem_take hp)⟩
  obtain ⟨b, o, h1, h2, h3⟩ := h.cells.2 (by omega)
  refine ⟨b, o, h1, h2, fun i x hx => h3 i x ?_⟩
  rw [List.getElem?_take] at hx
  split at hx
  · exact hx
  · cases hx
theorem OnePl.take {w : World} {B : Nat} {x : PlW} (h : OnePl w B x) {k : Nat} (hk : k ≤ x.n) : OnePl w B (x.take k) := ⟨Nat.le_trans hk h.nc, h.cm, h.l, h.prs.take hk⟩

/-! ### within -/
theorem Within_any (i n : Int) (w : World) :
    Calls Try.prog 29 #[.int .i64 i, .int .i64 n] w fun e w' => e = .returned (.bool (tyIn i n)) ∧ w = w' := by
  by_cases h0 : 0 ≤ i
  · by_cases h1 : i < n
    · have HF := hide (show tyIn i n = true from tyIn_iff.2 ⟨h0, h1⟩)
      go_enter Try.func29, Try.ntmps29
      go_wp2
      go_ret
      exact ⟨congrArg (fun v => Ending.returned (.bool v)) HF.out.symm, rfl⟩
    · have HF := hide (show tyIn i n = false from tyIn_not.2 fun h => h1 h.2)
      go_enter Try.func29, Try.ntmps29
      go_wp2
      go_ret
      exact ⟨congrArg (fun v => Ending.returned (.bool v)) HF.out.symm, rfl⟩
  · have HF := hide (show tyIn i n = false from tyIn_not.2 fun h => h0 h.1)
    go_enter Try.func29, Try.ntmps29
    go_wp2
    go_ret
    exact ⟨congrArg (fun v => Ending.returned (.bool v)) HF.out.symm, rfl⟩
theorem Within_is {i n : Int} {v : Bool} (h : tyIn i n = v) (w : World) :
    Calls Try.prog 29 #[.int .i64 i, .int .i64 n] w fun e w' => e = .returned (.bool v) ∧ w = w' := h ▸ Within_any i n w

/-! ### the form of a projection -/
set_option maxHeartbeats 1000000 in
theorem CheckProj_any (p : Pr) (w : World) :
    Calls Try.prog 26 #[aggP p] w fun e w' => e = .returned (.int .i64 (pjErr p)) ∧ Below w.heap.size w w' := by
  obtain ⟨k, f⟩ := p
  have HA := hide ((Below.refl w.heap.size w).alloc (Nat.le_refl _) (.cells #[.int .i64 k, .int .i64 f] 46))
  by_cases h0 : k = 0
  · subst h0
    by_cases hf : f = 0
    · subst hf
      have HF := hide (show pjErr ((0 : Int), (0 : Int)) = 0 from by decide)
      go_enter Try.func26, Try.ntmps26
      go_wp2
      go_ret
      exact ⟨congrArg (fun v => Ending.returned (.int .i64 v)) HF.out.symm, HA.out⟩
    · have t1 : (f != 0) = true := by rw [bne_iff_ne]; exact hf
      have HF := hide (show pjErr ((0 : Int), f) = 2 from by unfold pjErr; rw [if_neg (by omega), if_pos ⟨rfl, hf⟩])
      clear hf
      go_enter Try.func26, Try.ntmps26
      go_wp2
      go_ret
      exact ⟨congrArg (fun v => Ending.returned (.int .i64 v)) HF.out.symm, HA.out⟩
  · have t0 : (k != 0) = true := by rw [bne_iff_ne]; exact h0
    have t00 : (k == 0) = false := by simpa using h0
    by_cases h1 : k = 1
    · subst h1
      clear h0 t0 t00
      by_cases hf : f < 0
      · have HF := hide (show pjErr ((1 : Int), f) = 3 from by unfold pjErr; rw [if_neg (by omega), if_neg (by omega), if_pos hf])
        go_enter Try.func26, Try.ntmps26
        go_wp2
        go_ret
        exact ⟨congrArg (fun v => Ending.returned (.int .i64 v)) HF.out.symm, HA.out⟩
      · have HF := hide (show pjErr ((1 : Int), f) = 0 from by unfold pjErr; rw [if_neg (by omega), if_neg (by omega), if_neg hf])
        go_enter Try.func26, Try.ntmps26
        go_wp2
        go_ret
        exact ⟨congrArg (fun v => Ending.returned (.int .i64 v)) HF.out.symm, HA.out⟩
    · have t1 : (k != 1) = true := by rw [bne_iff_ne]; exact h1
      have HF := hide (show pjErr (k, f) = 14 from by unfold pjErr; rw [if_pos ⟨h0, h1⟩])
      clear h0 h1
      go_enter Try.func26, Try.ntmps26
      go_wp2
      go_ret
      exact ⟨congrArg (fun v => Ending.returned (.int .i64 v)) HF.out.symm, HA.out⟩
theorem CheckProj_is {p : Pr} {v : Int} (h : pjErr p = v) (w : World) :
    Calls Try.prog 26 #[aggP p] w fun e w' => e = .returned (.int .i64 v) ∧ Below w.heap.size w w' := h ▸ CheckProj_any p w

set_option maxHeartbeats 2000000 in
theorem CheckP_any (x : PlW) (w : World) (hx : OnePl w w.heap.size x) :
    Calls Try.prog 10 #[aggPl x] w fun e w' => e = .returned (.int .i64 (plErr x.l x.ps)) ∧ Below w.heap.size w w' := by
  obtain ⟨l, A, n, c, ps⟩ := x
  have hcm := hx.cm
  have hnc := hx.nc
  simp only [] at hcm hnc
  have HX := hide hx.prs
  have HL := hide hx.prs.len
  have HA := hide ((Below.refl w.heap.size w).alloc (Nat.le_refl _) (.cells #[.int .i64 l, .slice A n c] 24))
  clear hx
  unfold maxLen at hcm
  by_cases hl : l < 0
  · have HF := hide (show plErr l ps = 3 from if_pos hl)
    go_enter Try.func10, Try.ntmps10
    go_wp2
    go_ret
    exact ⟨congrArg (fun v => Ending.returned (.int .i64 v)) HF.out.symm, HA.out⟩
  by_cases hn : 32 < n
  · have HF := hide (show plErr l ps = 19 from by unfold plErr; rw [if_neg hl, if_pos (by have : ps.length = n := HL.out; omega)])
    have hn' : (32 : Int) < (n : Int) := by omega
    go_enter Try.func10, Try.ntmps10
    go_wp2
    go_ret
    exact ⟨congrArg (fun v => Ending.returned (.int .i64 v)) HF.out.symm, HA.out⟩
  have HF := hide (show plErr l ps = pjsErr (ps.drop 0) from by unfold plErr; rw [if_neg hl, if_neg (by have : ps.length = n := HL.out; omega)]; rfl)
  have hn' : (n : Int) ≤ 32 := by omega
  have hl' : 0 ≤ l := by omega
  clear hl hn
  go_enter Try.func10, Try.ntmps10
  go_wp2
  go_loopw [18] (fun i wr => ∃ j : Nat, i = .int .i64 (j : Int) ∧ j ≤ n ∧ Hid (pjsErr (ps.drop j) = pjsErr (ps.drop 0)) ∧ Below w.heap.size w wr) (fun i _ => n - (intOf i).toNat)
  case atStart => exact ⟨0, rfl, Nat.zero_le _, rfl, HA.out⟩
  case round =>
    obtain ⟨j, rfl, hj, HE, hb⟩ := hrel
    have HB := hide hb
    clear hb
    by_cases hlt : j < n
    · have hlt' : (j : Int) < (n : Int) := by omega
      obtain ⟨p, hp⟩ : ∃ p, ps[j]? = some p := ⟨_, List.getElem?_eq_getElem (by have : ps.length = n := HL.out; omega)⟩
      obtain ⟨b, o, rfl, _, hi, c0, c1⟩ := (HX.out.below HB.out).at_ hp
      have HS := hide (pjsErr_at hp)
      obtain ⟨k, f⟩ := p
      simp only [] at c0 c1
      have HB2 := hide (HB.out.alloc HB.out.size (.cells #[.int .i64 k, .int .i64 f] 46))
      obtain ⟨v, hv⟩ : ∃ v, pjErr (k, f) = v := ⟨_, rfl⟩
      have HV := hide hv
      clear hp hi hv
      by_cases hv0 : v = 0
      · subst hv0
        have HN := hide (show pjsErr (ps.drop (j + 1)) = pjsErr (ps.drop 0) from by rw [← HE.out, HS.out, if_pos HV.out])
        go_wp2_with fail
        refine (CheckProj_is HV.out _).mono ?_
        rintro e w1 ⟨rfl, hb⟩
        have HB3 := hide (HB2.out.trans (hb.mono HB2.out.size))
        clear hb
        go_wp2
        go_roundw
        case rel => exact ⟨j + 1, by go_num, by omega, HN.out, HB3.out⟩
        case measure => simp [intOf]; omega
      · have t1 : (v != 0) = true := by rw [bne_iff_ne]; exact hv0
        have HN := hide (show plErr l ps = v from by rw [HF.out, ← HE.out, HS.out, HV.out, if_neg hv0])
        clear hv0
        go_wp2_with fail
        refine (CheckProj_is HV.out _).mono ?_
        rintro e w1 ⟨rfl, hb⟩
        have HB3 := hide (HB2.out.trans (hb.mono HB2.out.size))
        clear hb
        go_wp2
        go_ret
        exact ⟨congrArg (fun v => Ending.returned (.int .i64 v)) HN.out.symm, HB3.out⟩
    · obtain rfl : j = n := by omega
      have HN := hide (show plErr l ps = 0 from by rw [HF.out, ← HE.out, List.drop_of_length_le (by have : ps.length = j := HL.out; omega)]; rfl)
      go_wp2
      go_ret
      exact ⟨congrArg (fun v => Ending.returned (.int .i64 v)) HN.out.symm, HB.out⟩
theorem CheckP_is {x : PlW} {v : Int} (h : plErr x.l x.ps = v) (w : World) (hx : OnePl w w.heap.size x) :
    Calls Try.prog 10 #[aggPl x] w fun e w' => e = .returned (.int .i64 v) ∧ Below w.heap.size w w' := h ▸ CheckP_any x w hx
end Go.Proofs.Ytphfiohjkjipiaa
