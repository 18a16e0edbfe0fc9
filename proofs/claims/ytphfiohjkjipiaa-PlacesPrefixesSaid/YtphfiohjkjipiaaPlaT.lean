/- typeAt and project. -/
import Derived.Test.YtphfiohjkjipiaaPla
import Derived.Test.YtphfiohjkjipiaaTypE
set_option linter.unusedVariables false
namespace Go.Proofs.Ytphfiohjkjipiaa
open Go.RowKit

set_option maxHeartbeats 1000000 in
theorem TypeAt_any {A : Option Addr} {n c : Nat} {L : List TyW} {i : Nat} {x : TyW} (hx : L[i]? = some x) (w : World) (hA : Typs w w.heap.size A n L) (hn : n ≤ maxLen) :
    Calls Try.prog 40 #[.slice A n c, .int .i64 (i : Int)] w fun e w' => e = .returned (aggT x) ∧ Below w.heap.size w w' := by
  obtain ⟨⟨k, mu, r, el, fs⟩, Af, nf, cf⟩ := x
  have hi : i < n := by have := (List.getElem?_eq_some_iff.1 hx).1; have := hA.len; omega
  have hi' : (i : Int) < (n : Int) := by omega
  have HZ := hide ((Below.refl w.heap.size w).alloc (Nat.le_refl _) (.cells #[.int .i64 0, .bool false, .int .i64 0, .int .i64 0, .slice none 0 0] 48))
  have HIN := hide (show tyIn (i : Int) (n : Int) = true from tyIn_iff.2 ⟨by omega, hi'⟩)
  obtain ⟨b, o, rfl, hbB, _, c0, c1, c2, c3, c4⟩ := (hA.below HZ.out).at_ hx
  unfold maxLen at hn
  clear hA hx
  go_enter Try.func40, Try.ntmps40
  go_wp2_with fail
  refine (Within_is HIN.out _).mono ?_
  rintro e w1 ⟨rfl, rfl⟩
  go_wp2_with fail
  refine bodyPost_ret (results_cell_row rfl _ _ w.heap.size _ #[.int .i64 k, .bool mu, .int .i64 r, .int .i64 el, .slice Af nf cf] (0, 0) _ rfl (heap_alloc_new w _) Try.underlying48 rfl (by kernel_rfl)) rfl ⟨rfl, (Below.refl w.heap.size w).alloc (Nat.le_refl _) _⟩

set_option maxHeartbeats 2000000 in
theorem Project_any {A : Option Addr} {n c : Nat} {L : List TyW} {i : Nat} {x : TyW} (hx : L[i]? = some x) (p : Pr) (w : World) (hA : Typs w w.heap.size A n L) (hn : n ≤ maxLen) :
    Calls Try.prog 31 #[.slice A n c, .int .i64 (i : Int), aggP p] w fun e w' => e = .returned (.tuple #[.int .i64 (stepT x.t p).1, .int .i64 (stepT x.t p).2]) ∧ Below w.heap.size w w' := by
  obtain ⟨pk, pf⟩ := p
  have HZ := hide ((Below.refl w.heap.size w).alloc (Nat.le_refl _) (.cells #[.int .i64 pk, .int .i64 pf] 46))
  have HA := hide (hA.up HZ.out)
  have hO := hA.one x (List.mem_of_getElem? hx)
  have HO := hide hO
  have hok := hO.ok
  have HC := hide fun (w' : World) (h : Below (w.alloc (.cells #[.int .i64 pk, .int .i64 pf] 46)).heap.size (w.alloc (.cells #[.int .i64 pk, .int .i64 pf] 46)) w') => show w'.cell? ⟨w.heap.size, 0, none⟩ = some (.int .i64 pk) ∧ w'.cell? ⟨w.heap.size, 1, none⟩ = some (.int .i64 pf) from
    ⟨(h.cell (p := ⟨w.heap.size, 0, none⟩) (by simp)).trans (by simp [go_sem]), (h.cell (p := ⟨w.heap.size, 1, none⟩) (by simp)).trans (by simp [go_sem])⟩
  have HS := hide (stepT_cases x.t (pk, pf))
  have HT := hide fun w' hA' => TypeAt_any (A := A) (n := n) (c := c) hx w' hA' hn
  obtain ⟨⟨k, mu, r, el, fs⟩, Af, nf, cf⟩ := x
  have hlen : fs.length = nf := hok.len
  have hnf : nf ≤ cf := hok.nc
  have hcf : cf ≤ maxLen := hok.cm
  have HW := hide (Nat.le_of_lt (Nat.lt_succ_self w.heap.size))
  unfold maxLen at hn hcf
  clear hA hx hO hok
  go_enter Try.func31, Try.ntmps31
  go_wp2_with fail
  refine (HT.out _ HA.out).mono ?_
  rintro e w1 ⟨rfl, hb⟩
  obtain ⟨c0, c1⟩ := HC.out _ (hb.alloc hb.size (.cells #[.int .i64 k, .bool mu, .int .i64 r, .int .i64 el, .slice Af nf cf] 48))
  have HB := hide (HZ.out.trans (hb.mono HZ.out.size))
  have HB2 := hide (HB.out.alloc HB.out.size (.cells #[.int .i64 k, .bool mu, .int .i64 r, .int .i64 el, .slice Af nf cf] 48))
  clear hb HT HC HA
  rcases HS.out with ⟨h1, h2, h3⟩ | ⟨h1, h2, q, v, hq, hv, h3⟩ | ⟨h1, h2, h4, h3⟩ | ⟨h1, h2, h3⟩
  · subst h1 h2
    have HF := hide h3
    clear h3
    go_wp2
    refine bodyPost_ret (results_tmp2 rfl _ _ _) rfl ?_
    exact ⟨congrArg (fun z : Int × Int => Ending.returned (.tuple #[.int .i64 z.1, .int .i64 z.2])) HF.out.symm, HB2.out⟩
  · subst h1 h2 hq
    have hql := (List.getElem?_eq_some_iff.1 hv).1
    have hql' : (q : Int) < (nf : Int) := by omega
    have HIN := hide (show tyIn (q : Int) (nf : Int) = true from tyIn_iff.2 ⟨by omega, hql'⟩)
    have HF := hide h3
    obtain ⟨b, o, hAf, _, d0⟩ := (HO.out.below HB2.out).rd.int hv
    simp only [] at hAf
    subst hAf
    clear h3 hv
    go_wp2_with fail
    refine (Within_is HIN.out _).mono ?_
    rintro e w2 ⟨rfl, rfl⟩
    go_wp2
    refine bodyPost_ret (results_tmp2 rfl _ _ _) rfl ?_
    exact ⟨congrArg (fun z : Int × Int => Ending.returned (.tuple #[.int .i64 z.1, .int .i64 z.2])) HF.out.symm, HB2.out⟩
  · subst h1 h2
    have HIN := hide (show tyIn pf (nf : Int) = false from tyIn_not.2 (hlen ▸ h4))
    have HF := hide h3
    clear h3 h4
    go_wp2_with fail
    refine (Within_is HIN.out _).mono ?_
    rintro e w2 ⟨rfl, rfl⟩
    go_wp2
    refine bodyPost_ret (results_tmp2 rfl _ _ _) rfl ?_
    exact ⟨congrArg (fun z : Int × Int => Ending.returned (.tuple #[.int .i64 z.1, .int .i64 z.2])) HF.out.symm, HB2.out⟩
  · have HF := hide h3
    clear h3
    by_cases p0 : pk = 0
    · subst p0
      have k3 : ¬ k = 3 := fun h => h1 ⟨rfl, h⟩
      have t1 : (k == 3) = false := by simpa using k3
      clear h1 h2 k3
      go_wp2
      refine bodyPost_ret (results_tmp2 rfl _ _ _) rfl ?_
      exact ⟨congrArg (fun z : Int × Int => Ending.returned (.tuple #[.int .i64 z.1, .int .i64 z.2])) HF.out.symm, HB2.out⟩
    · have t0 : (pk == 0) = false := by simpa using p0
      by_cases p1 : pk = 1
      · subst p1
        have k4 : ¬ k = 4 := fun h => h2 ⟨rfl, h⟩
        have t1 : (k != 4) = true := by rw [bne_iff_ne]; exact k4
        clear h1 h2 k4 t0 p0
        go_wp2
        refine bodyPost_ret (results_tmp2 rfl _ _ _) rfl ?_
        exact ⟨congrArg (fun z : Int × Int => Ending.returned (.tuple #[.int .i64 z.1, .int .i64 z.2])) HF.out.symm, HB2.out⟩
      · have t2 : (pk != 1) = true := by rw [bne_iff_ne]; exact p1
        clear h1 h2 p0 p1
        go_wp2
        refine bodyPost_ret (results_tmp2 rfl _ _ _) rfl ?_
        exact ⟨congrArg (fun z : Int × Int => Ending.returned (.tuple #[.int .i64 z.1, .int .i64 z.2])) HF.out.symm, HB2.out⟩
theorem Project_is {A : Option Addr} {n c : Nat} {L : List TyW} {i : Nat} {x : TyW} {u e : Int} (hx : L[i]? = some x) {p : Pr} (h : stepT x.t p = (u, e)) (w : World) (hA : Typs w w.heap.size A n L) (hn : n ≤ maxLen) :
    Calls Try.prog 31 #[.slice A n c, .int .i64 (i : Int), aggP p] w fun z w' => z = .returned (.tuple #[.int .i64 u, .int .i64 e]) ∧ Below w.heap.size w w' := by
  have := Project_any (A := A) (n := n) (c := c) hx p w hA hn
  rw [h] at this
  exact this
end Go.Proofs.Ytphfiohjkjipiaa
