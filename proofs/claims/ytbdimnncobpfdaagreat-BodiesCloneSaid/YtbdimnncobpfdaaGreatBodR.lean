/- The law's scramble: it turns numbers and strings of a copy, and nothing else. -/
import Derived.Test.YtbdimnncobpfdaaGreatBodH
set_option linter.unusedVariables false
set_option linter.unusedSimpArgs false
namespace Go.Proofs.YtbdimnncobpfdaaGreat
open Go.RowKit Go.Shelf

set_option maxHeartbeats 1000000 in
set_option maxRecDepth 100000 in
theorem PlChg_any (b : Int) (x : PlW) (wc w wr : World) (lo : Nat) (hx : OwPl wc lo x) (hI : ∀ p ∈ x.ps, IntP p) (hn : x.n ≤ maxLen) (hb : Below wc.heap.size wc w) (hs : Sim lo wc.heap.size w wr) :
    Calls Tryz.prog 64 #[.agg #[.int .i64 b, .slice x.A x.n x.c]] wr fun e w' => e = .returned (.tuple #[]) ∧ Sim lo wc.heap.size w w' := by
  obtain ⟨l, A, n, c, ps⟩ := x
  have HR := hide hx
  have HI := hide hI
  have HB := hide hb
  have HL : Hid (ps.length = n) := hide (own_len pV_len (by decide) hx)
  simp only [] at hn
  unfold maxLen at hn
  have hle : wc.heap.size ≤ w.heap.size := hb.size
  have hle2 : w.heap.size ≤ wr.heap.size := hs.size
  have HS0 := hide (hs.more ((Below.refl wr.heap.size wr).alloc (Nat.le_refl _) (.cells #[.int .i64 b, .slice A n c] 40)) hle)
  have HX0 := hide (Bx.new wr [.int .i64 b, .slice A n c] 40)
  obtain ⟨B, hB⟩ : ∃ B, wr.heap.size = B := ⟨_, rfl⟩
  have HBB := hide hB
  have hle3 : wc.heap.size ≤ B := by omega
  clear hx hI hb hs hB hle hle2
  show Calls Tryz.prog 64 #[.agg #[.int .i64 b, .slice A n c]] wr _
  go_enter Tryz.func64, Tryz.ntmps64
  rw [HBB.out] at HX0
  go_wp2
  rw [HBB.out]
  go_loopw [6] (fun i w2 => ∃ j : Nat, i = .int .i64 (j : Int) ∧ j ≤ n ∧ Hid (Sim lo wc.heap.size w w2) ∧ Hid (Bx w2 B [.int .i64 b, .slice A n c] 40)) (fun i _ => n - (intOf i).toNat)
  case atStart => exact ⟨0, rfl, Nat.zero_le _, HS0, HX0⟩
  case round =>
    obtain ⟨j, rfl, hj, HS, HX⟩ := hrel
    by_cases hlt : j < n
    · obtain ⟨g, hA, _, _⟩ := own_form HR.out (show 0 < n by omega)
      simp only [] at hA
      subst hA
      have hlt' : (j : Int) < (n : Int) := by omega
      obtain ⟨p, hp⟩ : ∃ p, ps[j]? = some p := ⟨_, List.getElem?_eq_getElem (by have := HL.out; omega)⟩
      obtain ⟨_, hgh, hcell⟩ := sim_at (f := pV) pV_len HR.out HB.out HS.out hp (by decide)
      obtain ⟨⟨v, hv, hlv⟩, hf, hset⟩ := hcell 1 (.int .i64 p.2) rfl
      obtain ⟨b2, rfl, hb2⟩ := hlv.int (HI.out p (List.mem_of_getElem? hp)).2
      have HSET := hide (hset _ (like_int64 p.2 (b2 + 1)))
      have HX2 := hide (HX.out.other (a := ⟨g, j * 2 + 1, none⟩) (show g ≠ B by omega) (.int .i64 (wrap64 (b2 + 1))))
      have c1 := HX.out.cell (j := 1) rfl
      clear hcell hset hlv hp
      go_wp2
      go_roundw
      case rel => exact ⟨j + 1, by go_num, by omega, HSET, HX2⟩
      case measure => simp [intOf]; omega
    · obtain rfl : j = n := by omega
      go_wp2
      go_end0
      exact ⟨rfl, HS.out⟩

set_option maxHeartbeats 1000000 in
set_option maxRecDepth 100000 in
theorem OpsChg_any (s : SlW OpW) (wc w wr : World) (lo : Nat) (hx : OwOps wc lo s) (hI : Ops wc wc.heap.size s) (hb : Below wc.heap.size wc w) (hs : Sim lo wc.heap.size w wr) :
    Calls Tryz.prog 63 #[s.val] wr fun e w' => e = .returned (.tuple #[]) ∧ Sim lo wc.heap.size w w' := by
  have hn := hI.nm
  obtain ⟨A, n, c, L⟩ := s
  have HR := hide hx
  have HI := hide hI
  have HB := hide hb
  have HL : Hid (L.length = n) := hide (own_len cOp_len (by decide) hx.row)
  have HS0 := hide hs
  simp only [] at hn
  unfold maxLen at hn
  clear hx hI hb hs
  show Calls Tryz.prog 63 #[.slice A n c] wr _
  go_enter Tryz.func63, Tryz.ntmps63
  go_wp2
  go_loopw [5] (fun i w2 => ∃ j : Nat, i = .int .i64 (j : Int) ∧ j ≤ n ∧ Hid (Sim lo wc.heap.size w w2)) (fun i _ => n - (intOf i).toNat)
  case atStart => exact ⟨0, rfl, Nat.zero_le _, HS0⟩
  case round =>
    obtain ⟨j, rfl, hj, HS⟩ := hrel
    by_cases hlt : j < n
    · obtain ⟨g, hA, _, _⟩ := own_form HR.out.row (show 0 < n by omega)
      subst hA
      have hlt' : (j : Int) < (n : Int) := by omega
      obtain ⟨p, hp⟩ : ∃ p, L[j]? = some p := ⟨_, List.getElem?_eq_getElem (by have := HL.out; omega)⟩
      have hmem := List.mem_of_getElem? hp
      have HOP := hide (HI.out.all p hmem)
      have HPL := hide (HR.out.all p hmem)
      obtain ⟨_, hgh, hcell⟩ := sim_at (f := cOp) cOp_len HR.out.row HB.out HS.out hp (by decide)
      obtain ⟨⟨v, hv, hlv⟩, hf, hset⟩ := hcell 3 (.int .i64 p.n) rfl
      obtain ⟨b2, rfl, _⟩ := hlv.int HOP.out.n
      obtain ⟨⟨v1, hv1, hlv1⟩, _, _⟩ := hcell 1 (.int .i64 p.pl.l) rfl
      obtain ⟨b1, rfl, _⟩ := hlv1.int HOP.out.pl.l
      obtain ⟨⟨v2, hv2, hlv2⟩, _, _⟩ := hcell 2 (.slice p.pl.A p.pl.n p.pl.c) rfl
      obtain rfl := hlv2.slice
      have HSET := hide (hset _ (like_int64 p.n (b2 + 1)))
      clear hcell hset hlv hlv1 hlv2 hp hmem
      go_wp2_with fail
      refine (PlChg_any b1 p.pl wc w _ lo HPL.out HOP.out.pl.prs.int (Nat.le_trans HOP.out.pl.nc HOP.out.pl.cm) HB.out HSET.out).mono ?_
      rintro e9 w9 ⟨rfl, hs9⟩
      have HS9 := hide hs9
      clear hs9
      go_wp2
      go_roundw
      case rel => exact ⟨j + 1, by go_num, by omega, HS9⟩
      case measure => simp [intOf]; omega
    · obtain rfl : j = n := by omega
      go_wp2
      go_end0
      exact ⟨rfl, HS.out⟩
end Go.Proofs.YtbdimnncobpfdaaGreat
