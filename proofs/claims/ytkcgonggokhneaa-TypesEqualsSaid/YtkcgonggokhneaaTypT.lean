/- The reference's check of one element. -/
import Derived.Test.YtkcgonggokhneaaTypS
import Derived.StillTailTactics
set_option linter.unusedVariables false
namespace Go.Proofs.Ytkcgonggokhneaa
open Go.RowKit

theorem ret_m {a b : Int} (h : a = b) : Ending.returned (.int .i64 b) = .returned (.int .i64 a) := by rw [h]
/-- where a type first stands, or the length -/
theorem first_ex (l : List Ty) (t : Ty) : ∃ s, s ≤ l.length ∧ (∀ i, i < s → l[i]? ≠ some t) ∧ (s < l.length → l[s]? = some t) ∧ (s < l.length ↔ t ∈ l) := by
  by_cases h : t ∈ l
  · obtain ⟨k, h1, h2⟩ := firstT_ex h
    have hk := (List.getElem?_eq_some_iff.1 h1).1
    exact ⟨k, Nat.le_of_lt hk, h2, fun _ => h1, fun _ => h, fun _ => hk⟩
  · exact ⟨l.length, Nat.le_refl _, fun i hi e => h (List.mem_of_getElem? e), fun h' => absurd h' (Nat.lt_irrefl _), fun h' => absurd h' (Nat.lt_irrefl _), fun h' => absurd h' h⟩
theorem RFindT_yes {A : Option Addr} {n c : Nat} {L : List TyW} {y : TyW} (w : World) (hA : Typs w w.heap.size A n L) (hy : OneT w w.heap.size y) (hn : n ≤ maxLen) (h : y.t ∈ tys L) :
    Calls Try.prog 14 #[.slice A n c, aggT y] w fun e w' => ∃ k : Nat, e = .returned (.int .i64 (k : Int)) ∧ Below w.heap.size w w' := by
  obtain ⟨s, h1, h2, h3, h4⟩ := first_ex (tys L) y.t
  have hl : (tys L).length = n := by rw [tys_len, hA.len]
  rw [hl] at h1 h3 h4
  refine (RFindT_any A n c L y w hA hy hn s h1 h2 h3).mono ?_
  rintro e w' ⟨rfl, hb⟩
  rw [if_pos (h4.2 h)]
  exact ⟨s, rfl, hb⟩
theorem RFindT_no {A : Option Addr} {n c : Nat} {L : List TyW} {y : TyW} (w : World) (hA : Typs w w.heap.size A n L) (hy : OneT w w.heap.size y) (hn : n ≤ maxLen) (h : ¬ y.t ∈ tys L) :
    Calls Try.prog 14 #[.slice A n c, aggT y] w fun e w' => e = .returned (.int .i64 (-1)) ∧ Below w.heap.size w w' := by
  obtain ⟨s, h1, h2, h3, h4⟩ := first_ex (tys L) y.t
  have hl : (tys L).length = n := by rw [tys_len, hA.len]
  rw [hl] at h1 h3 h4
  refine (RFindT_any A n c L y w hA hy hn s h1 h2 h3).mono ?_
  rintro e w' ⟨rfl, hb⟩
  rw [if_neg (fun h' => h (h4.1 h'))]
  exact ⟨rfl, hb⟩

theorem tys_take (L : List TyW) (k : Nat) : tys (L.take k) = (tys L).take k := List.map_take
/-- what check is told -/
structure RC (A : Option Addr) (n c : Nat) (L : List TyW) (k : Nat) (x : TyW) (Ad : Option Addr) (cd : Nat) (rg : Int) (w : World) : Prop where
  ty : Typs w w.heap.size A n L
  at_ : L[k]? = some x
  ok : TyOk ((tys L).take k) rg
  d : Rd w w.heap.size Ad k (i64s (tyDeps ((tys L).take k)))
  few : n ≤ 65535
  nc : n ≤ c
  kc : k ≤ cd
theorem RC.lt {A : Option Addr} {n c : Nat} {L : List TyW} {k : Nat} {x : TyW} {Ad : Option Addr} {cd : Nat} {rg : Int} {w : World} (h : RC A n c L k x Ad cd rg w) : k < n := by
  have := (List.getElem?_eq_some_iff.1 h.at_).1
  have := h.ty.len
  omega
theorem RC.plen {A : Option Addr} {n c : Nat} {L : List TyW} {k : Nat} {x : TyW} {Ad : Option Addr} {cd : Nat} {rg : Int} {w : World} (h : RC A n c L k x Ad cd rg w) : ((tys L).take k).length = k := by
  rw [List.length_take, tys_len, h.ty.len]; have := h.lt; omega
theorem tyErr_own {pre : List Ty} {t : Ty} {rg v : Int} {k : Nat} (hk : pre.length = k) (h : tyOwn t (k : Int) rg = v) (hv : v ≠ 0) : tyErr pre t rg = v := by
  unfold tyErr; rw [hk, h, if_pos hv]
theorem tyErr_deep {pre : List Ty} {t : Ty} {rg kk : Int} {k : Nat} (hk : pre.length = k) (h : tyOwn t (k : Int) rg = 0) (hd : tyDpt (tyDeps pre) t = kk + 1) (h32 : 32 < kk + 1) : tyErr pre t rg = 19 := by
  unfold tyErr; rw [hk, h, if_neg (by decide), hd, if_pos h32]
theorem tyErr_dup {pre : List Ty} {t : Ty} {rg kk : Int} {k : Nat} (hk : pre.length = k) (h : tyOwn t (k : Int) rg = 0) (hd : tyDpt (tyDeps pre) t = kk + 1) (h32 : ¬ 32 < kk + 1) (hm : t ∈ pre) : tyErr pre t rg = 21 := by
  unfold tyErr; rw [hk, h, if_neg (by decide), hd, if_neg h32, if_pos hm]
theorem tyErr_fine {pre : List Ty} {t : Ty} {rg kk : Int} {k : Nat} (hk : pre.length = k) (h : tyOwn t (k : Int) rg = 0) (hd : tyDpt (tyDeps pre) t = kk + 1) (h32 : ¬ 32 < kk + 1) (hm : ¬ t ∈ pre) : tyErr pre t rg = 0 := by
  unfold tyErr; rw [hk, h, if_neg (by decide), hd, if_neg h32, if_neg hm]


set_option maxHeartbeats 2000000 in
set_option maxRecDepth 100000 in
theorem rcheck_low (A : Option Addr) (n c : Nat) (L : List TyW) (k : Nat) (kd : Int) (m : Bool) (r el : Int) (fs : List Int) (B : Option Addr) (nf cf : Nat) (Ad : Option Addr) (cd : Nat) (rg : Int) (w : World) (h : RC A n c L k ⟨⟨kd, m, r, el, fs⟩, B, nf, cf⟩ Ad cd rg w) (h0 : kd < 0) :
    Calls Try.prog 29 #[.slice A n c, .slice Ad k cd, .int .i64 (k : Int), .int .i64 rg] w fun e w' => e = .returned (.int .i64 (tyErr ((tys L).take k) ⟨kd, m, r, el, fs⟩ rg)) ∧ Below w.heap.size w w' := by
  have HB := hide ((Below.refl w.heap.size w).alloc (Nat.le_refl _) (.cells #[.int .i64 kd, .bool m, .int .i64 r, .int .i64 el, .slice B nf cf] 31))
  have hkn := h.lt
  have hkn' : (k : Int) < (n : Int) := by omega
  have hn := h.few
  have hnc := h.nc
  obtain ⟨g, o, rfl, hgB, hone, c0, c1, c2, c3, c4⟩ := h.ty.at_ h.at_
  simp only [] at c0 c1 c2 c3 c4
  have hl : fs.length = nf := hone.ok.len
  have hnf : nf ≤ maxLen := Nat.le_trans hone.ok.nc hone.ok.cm
  unfold maxLen at hnf
  have hpl := h.plen
  have kc0 : (0 : Int) ≤ (k : Int) := Int.natCast_nonneg _
  have kc1 : (k : Int) ≤ (c : Int) := by omega
  have kc2 : k ≤ c := by omega
  have kc3 : ¬ (k : Int) < 0 := by omega
  have kc4 : ¬ (c : Int) < (k : Int) := by omega
  have H := hide h
  have HONE := hide hone
  have HPL := hide hpl
  have HF := hide (tyErr_own (rg := rg) hpl (show tyOwn ⟨kd, m, r, el, fs⟩ (k : Int) rg = 14 from if_pos (.inl h0)) (by decide))
  clear h hone hpl hl
  go_enter Try.func29, Try.ntmps29
  go_wp2
  go_ret
  exact ⟨ret_m HF.out, HB.out⟩

set_option maxHeartbeats 2000000 in
set_option maxRecDepth 100000 in
theorem rcheck_high (A : Option Addr) (n c : Nat) (L : List TyW) (k : Nat) (kd : Int) (m : Bool) (r el : Int) (fs : List Int) (B : Option Addr) (nf cf : Nat) (Ad : Option Addr) (cd : Nat) (rg : Int) (w : World) (h : RC A n c L k ⟨⟨kd, m, r, el, fs⟩, B, nf, cf⟩ Ad cd rg w) (h0 : 4 < kd) :
    Calls Try.prog 29 #[.slice A n c, .slice Ad k cd, .int .i64 (k : Int), .int .i64 rg] w fun e w' => e = .returned (.int .i64 (tyErr ((tys L).take k) ⟨kd, m, r, el, fs⟩ rg)) ∧ Below w.heap.size w w' := by
  have HB := hide ((Below.refl w.heap.size w).alloc (Nat.le_refl _) (.cells #[.int .i64 kd, .bool m, .int .i64 r, .int .i64 el, .slice B nf cf] 31))
  have hkn := h.lt
  have hkn' : (k : Int) < (n : Int) := by omega
  have hn := h.few
  have hnc := h.nc
  obtain ⟨g, o, rfl, hgB, hone, c0, c1, c2, c3, c4⟩ := h.ty.at_ h.at_
  simp only [] at c0 c1 c2 c3 c4
  have hl : fs.length = nf := hone.ok.len
  have hnf : nf ≤ maxLen := Nat.le_trans hone.ok.nc hone.ok.cm
  unfold maxLen at hnf
  have hpl := h.plen
  have kc0 : (0 : Int) ≤ (k : Int) := Int.natCast_nonneg _
  have kc1 : (k : Int) ≤ (c : Int) := by omega
  have kc2 : k ≤ c := by omega
  have kc3 : ¬ (k : Int) < 0 := by omega
  have kc4 : ¬ (c : Int) < (k : Int) := by omega
  have H := hide h
  have HONE := hide hone
  have HPL := hide hpl
  have HF := hide (tyErr_own (rg := rg) hpl (show tyOwn ⟨kd, m, r, el, fs⟩ (k : Int) rg = 14 from if_pos (.inr h0)) (by decide))
  have e0 : 0 ≤ kd := by omega
  clear h hone hpl hl
  go_enter Try.func29, Try.ntmps29
  go_wp2
  go_ret
  exact ⟨ret_m HF.out, HB.out⟩

theorem tyOwn_in2 {k : Int} {m : Bool} {r el : Int} {fs : List Int} {er rg : Int} (h0 : 0 ≤ k) (h1 : k ≤ 4) : tyOwn ⟨k, m, r, el, fs⟩ er rg = if (k ≠ 3 ∧ (m = true ∨ r ≠ 0 ∨ el ≠ 0)) ∨ (k ≠ 4 ∧ 0 < fs.length) then 2 else if (k = 3 ∧ tyIn r rg = false) ∨ tyAllIn (tyParts ⟨k, m, r, el, fs⟩) er = false then 3 else if k = 4 ∧ (fs.length = 0 ∨ 65535 < fs.length) then 15 else 0 :=
  if_neg (show ¬ (k < 0 ∨ 4 < k) by omega)

set_option maxHeartbeats 2000000 in
set_option maxRecDepth 100000 in
theorem rcheck_full (A : Option Addr) (n c : Nat) (L : List TyW) (k : Nat) (kd : Int) (m : Bool) (r el : Int) (fs : List Int) (B : Option Addr) (nf cf : Nat) (Ad : Option Addr) (cd : Nat) (rg : Int) (w : World) (h : RC A n c L k ⟨⟨kd, m, r, el, fs⟩, B, nf, cf⟩ Ad cd rg w) (h00 : 0 ≤ kd) (h01 : kd ≤ 4) (h4 : kd ≠ 4) (hm : kd ≠ 3 → m = false ∧ r = 0 ∧ el = 0) (hf : 0 < nf) :
    Calls Try.prog 29 #[.slice A n c, .slice Ad k cd, .int .i64 (k : Int), .int .i64 rg] w fun e w' => e = .returned (.int .i64 (tyErr ((tys L).take k) ⟨kd, m, r, el, fs⟩ rg)) ∧ Below w.heap.size w w' := by
  have HB := hide ((Below.refl w.heap.size w).alloc (Nat.le_refl _) (.cells #[.int .i64 kd, .bool m, .int .i64 r, .int .i64 el, .slice B nf cf] 31))
  have hkn := h.lt
  have hkn' : (k : Int) < (n : Int) := by omega
  have hn := h.few
  have hnc := h.nc
  obtain ⟨g, o, rfl, hgB, hone, c0, c1, c2, c3, c4⟩ := h.ty.at_ h.at_
  simp only [] at c0 c1 c2 c3 c4
  have hl : fs.length = nf := hone.ok.len
  have hnf : nf ≤ maxLen := Nat.le_trans hone.ok.nc hone.ok.cm
  unfold maxLen at hnf
  have hpl := h.plen
  have kc0 : (0 : Int) ≤ (k : Int) := Int.natCast_nonneg _
  have kc1 : (k : Int) ≤ (c : Int) := by omega
  have kc2 : k ≤ c := by omega
  have kc3 : ¬ (k : Int) < 0 := by omega
  have kc4 : ¬ (c : Int) < (k : Int) := by omega
  have H := hide h
  have HONE := hide hone
  have HPL := hide hpl
  have HF := hide (tyErr_own (rg := rg) hpl (show tyOwn ⟨kd, m, r, el, fs⟩ (k : Int) rg = 2 from (tyOwn_in2 h00 h01).trans (if_pos (.inr ⟨h4, by omega⟩))) (by decide))
  have e4 : (kd != 4) = true := by rw [bne_iff_ne]; exact h4
  have hf1 : (0 : Int) < (nf : Int) := by omega
  by_cases h3 : kd = 3
  · have e3 : (kd != 3) = false := by simp [h3]
    clear h hone hpl hl hm h3 h4 hf
    go_enter Try.func29, Try.ntmps29
    go_wp2
    go_ret
    exact ⟨ret_m HF.out, HB.out⟩
  · have e3 : (kd != 3) = true := by rw [bne_iff_ne]; exact h3
    obtain ⟨rfl, rfl, rfl⟩ := hm h3
    clear h hone hpl hl hm h3 h4 hf
    go_enter Try.func29, Try.ntmps29
    go_wp2
    go_ret
    exact ⟨ret_m HF.out, HB.out⟩

set_option maxHeartbeats 2000000 in
set_option maxRecDepth 100000 in
theorem rcheck_bad (A : Option Addr) (n c : Nat) (L : List TyW) (k : Nat) (kd : Int) (m : Bool) (r el : Int) (fs : List Int) (B : Option Addr) (nf cf : Nat) (Ad : Option Addr) (cd : Nat) (rg : Int) (w : World) (h : RC A n c L k ⟨⟨kd, m, r, el, fs⟩, B, nf, cf⟩ Ad cd rg w) (h00 : 0 ≤ kd) (h01 : kd ≤ 4) (h3 : kd ≠ 3) (hbad : m = true ∨ r ≠ 0 ∨ el ≠ 0) :
    Calls Try.prog 29 #[.slice A n c, .slice Ad k cd, .int .i64 (k : Int), .int .i64 rg] w fun e w' => e = .returned (.int .i64 (tyErr ((tys L).take k) ⟨kd, m, r, el, fs⟩ rg)) ∧ Below w.heap.size w w' := by
  have HB := hide ((Below.refl w.heap.size w).alloc (Nat.le_refl _) (.cells #[.int .i64 kd, .bool m, .int .i64 r, .int .i64 el, .slice B nf cf] 31))
  have hkn := h.lt
  have hkn' : (k : Int) < (n : Int) := by omega
  have hn := h.few
  have hnc := h.nc
  obtain ⟨g, o, rfl, hgB, hone, c0, c1, c2, c3, c4⟩ := h.ty.at_ h.at_
  simp only [] at c0 c1 c2 c3 c4
  have hl : fs.length = nf := hone.ok.len
  have hnf : nf ≤ maxLen := Nat.le_trans hone.ok.nc hone.ok.cm
  unfold maxLen at hnf
  have hpl := h.plen
  have kc0 : (0 : Int) ≤ (k : Int) := Int.natCast_nonneg _
  have kc1 : (k : Int) ≤ (c : Int) := by omega
  have kc2 : k ≤ c := by omega
  have kc3 : ¬ (k : Int) < 0 := by omega
  have kc4 : ¬ (c : Int) < (k : Int) := by omega
  have H := hide h
  have HONE := hide hone
  have HPL := hide hpl
  have HF := hide (tyErr_own (rg := rg) hpl (show tyOwn ⟨kd, m, r, el, fs⟩ (k : Int) rg = 2 from (tyOwn_in2 h00 h01).trans (if_pos (.inl ⟨h3, hbad⟩))) (by decide))
  have e3 : (kd != 3) = true := by rw [bne_iff_ne]; exact h3
  clear h hone hpl hl h3
  cases m
  rotate_left
  · clear hbad
    go_enter Try.func29, Try.ntmps29
    go_wp2
    go_ret
    exact ⟨ret_m HF.out, HB.out⟩
  by_cases hr : r = 0
  rotate_left
  · have er0 : (r != 0) = true := by rw [bne_iff_ne]; exact hr
    clear hbad hr
    go_enter Try.func29, Try.ntmps29
    go_wp2
    go_ret
    exact ⟨ret_m HF.out, HB.out⟩
  have hel : el ≠ 0 := by
    rcases hbad with h | h | h
    · cases h
    · exact absurd hr h
    · exact h
  have el0 : (el != 0) = true := by rw [bne_iff_ne]; exact hel
  subst hr
  clear hbad hel
  go_enter Try.func29, Try.ntmps29
  go_wp2
  go_ret
  exact ⟨ret_m HF.out, HB.out⟩

end Go.Proofs.Ytkcgonggokhneaa
