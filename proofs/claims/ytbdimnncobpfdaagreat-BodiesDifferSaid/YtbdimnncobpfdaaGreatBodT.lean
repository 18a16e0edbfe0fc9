/- The code's total, of the measures of a list's elements. -/
import Derived.Test.YtbdimnncobpfdaaGreatBodN
import Derived.Test.YtbdimnncobpfdaaGreatTypE
import Derived.Laws.EntriesVeiled
import Derived.Shelf.Abstract
import Derived.Test.YtbdimnncobpfdaaGreatBodG
import Derived.Test.YtbdimnncobpfdaaGreatBodC
set_option linter.unusedVariables false
set_option linter.unusedSimpArgs false
namespace Go.Proofs.YtbdimnncobpfdaaGreat
open Go.RowKit Go.Shelf

set_option maxHeartbeats 1000000 in
set_option maxRecDepth 100000 in
theorem TotStr_any (K : FuncId) (f : ByteArray → Nat) (s : SlW ByteArray) (w : World) (hs : SlH w w.heap.size 1 cStr (fun x => x.size ≤ maxLen) s) (hE : Enters Tryz.prog K) (hN : sumN f s.L ≤ 2 ^ 62)
    (hK : ∀ x ∈ s.L, ∀ w1, Below w.heap.size w w1 → Calls Tryz.prog K #[.string x] w1 fun e w2 => e = .returned (.int .i64 (f x : Nat)) ∧ Below w1.heap.size w1 w2) :
    Calls Tryz.prog 45 #[s.val, .func (.func K) #[] #[]] w fun e w' => e = .returned (.int .i64 (sumN f s.L : Nat)) ∧ Below w.heap.size w w' := by
  have HX := hide hs
  have HL := hide hs.len
  have HK := hide hK
  have HN := hide hN
  have hn := hs.nm
  obtain ⟨A, n, c, xs⟩ := s
  simp only [] at hn
  unfold maxLen at hn
  clear hs hK hN
  have en := hE
  unfold Enters at en
  show Calls Tryz.prog 45 #[.slice A n c, .func (.func K) #[] #[]] w _
  go_enter Tryz.func45, Tryz.ntmps45
  go_wp2
  go_loopw [5, 10] (fun v i wr => ∃ j : Nat, i = .int .i64 (j : Int) ∧ v = .int .i64 (sumN f (xs.take j) : Nat) ∧ j ≤ n ∧ Below w.heap.size w wr) (fun _ i _ => n - (intOf i).toNat)
  case atStart => exact ⟨0, rfl, rfl, Nat.zero_le _, Below.refl _ _⟩
  case round =>
    obtain ⟨j, rfl, rfl, hj, hb⟩ := hrel
    have HB := hide hb
    clear hb
    by_cases hlt : j < n
    · obtain ⟨p, hp⟩ := HX.out.get hlt
      obtain ⟨g, o, hA, hg, _, cz⟩ := HX.out.at_ hp
      simp only [] at hA
      subst hA
      have hlt' : (j : Int) < (n : Int) := by omega
      have c0 : wr.cell? ⟨g, o + j, none⟩ = some (.string p) := (HB.out.cell hg).trans (by simpa using cz 0 _ rfl)
      have HBQ := HB
      have hb1 : sumN f (xs.take (j + 1)) ≤ 2 ^ 62 := Nat.le_trans (sumN_le _ _ _) HN.out
      have hb2 := sumN_up (f := f) hp
      have HC := hide (HK.out p (List.mem_of_getElem? hp))
      clear hp cz
      obtain ⟨m, hm⟩ : ∃ m, sumN f (xs.take j) = m := ⟨_, rfl⟩
      obtain ⟨q, hq⟩ : ∃ q, f p = q := ⟨_, rfl⟩
      have HQ := hide hq
      have hS : sumN f (xs.take (j + 1)) = m + q := by rw [hb2, hm, hq]
      have HS2 := hide hS
      have hq2 : m + q ≤ 2 ^ 62 := hS ▸ hb1
      have t2 : IntKind.i64.wrap ((m : Int) + (q : Int)) = (m : Int) + (q : Int) := wrapI9 _ (by omega) (by omega)
      rw [hm]
      clear hb1 hb2 hm hq hS
      go_wp2_with fail
      try go_at_fn K
      refine (HC.out _ HBQ.out).mono ?_
      rintro e w1 ⟨rfl, hb0⟩
      have HB2 := hide (HBQ.out.trans (hb0.mono HBQ.out.size))
      rw [HQ.out]
      clear hb0
      go_wp2
      go_roundw
      case rel => exact ⟨j + 1, by go_num, by rw [HS2.out]; exact congrArg (fun z : Int => Value.int .i64 z) (by omega), by omega, HB2.out⟩
      case measure => simp [intOf]; omega
    · obtain rfl : j = n := by omega
      have HF := hide (sumN_all f HL.out)
      go_wp2
      go_ret
      exact ⟨congrArg (fun z : Nat => Ending.returned (.int .i64 (z : Int))) HF.out, HB.out⟩

set_option maxHeartbeats 1000000 in
set_option maxRecDepth 100000 in
theorem TotOp_any (K : FuncId) (f : OpW → Nat) (s : SlW OpW) (w : World) (hs : SlH w w.heap.size 4 cOp (OneOp w w.heap.size) s) (hE : Enters Tryz.prog K) (hN : sumN f s.L ≤ 2 ^ 62)
    (hK : ∀ x ∈ s.L, ∀ w1, Below w.heap.size w w1 → Calls Tryz.prog K #[aggOp x] w1 fun e w2 => e = .returned (.int .i64 (f x : Nat)) ∧ Below w1.heap.size w1 w2) :
    Calls Tryz.prog 113 #[s.val, .func (.func K) #[] #[]] w fun e w' => e = .returned (.int .i64 (sumN f s.L : Nat)) ∧ Below w.heap.size w w' := by
  have HX := hide hs
  have HL := hide hs.len
  have HK := hide hK
  have HN := hide hN
  have hn := hs.nm
  obtain ⟨A, n, c, xs⟩ := s
  simp only [] at hn
  unfold maxLen at hn
  clear hs hK hN
  have en := hE
  unfold Enters at en
  show Calls Tryz.prog 113 #[.slice A n c, .func (.func K) #[] #[]] w _
  go_enter Tryz.func113, Tryz.ntmps113
  go_wp2
  go_loopw [5, 10] (fun v i wr => ∃ j : Nat, i = .int .i64 (j : Int) ∧ v = .int .i64 (sumN f (xs.take j) : Nat) ∧ j ≤ n ∧ Below w.heap.size w wr) (fun _ i _ => n - (intOf i).toNat)
  case atStart => exact ⟨0, rfl, rfl, Nat.zero_le _, Below.refl _ _⟩
  case round =>
    obtain ⟨j, rfl, rfl, hj, hb⟩ := hrel
    have HB := hide hb
    clear hb
    by_cases hlt : j < n
    · obtain ⟨p, hp⟩ := HX.out.get hlt
      obtain ⟨g, o, hA, hg, _, cz⟩ := HX.out.at_ hp
      simp only [] at hA
      subst hA
      have hlt' : (j : Int) < (n : Int) := by omega
      have c0 : wr.cell? ⟨g, o + j * 4, none⟩ = some (.int .i64 p.kind) := (HB.out.cell hg).trans (cz 0 _ rfl)
      have c1 : wr.cell? ⟨g, o + j * 4 + 1, none⟩ = some (.int .i64 p.pl.l) := (HB.out.cell hg).trans (cz 1 _ rfl)
      have c2 : wr.cell? ⟨g, o + j * 4 + 2, none⟩ = some (.slice p.pl.A p.pl.n p.pl.c) := (HB.out.cell hg).trans (cz 2 _ rfl)
      have c3 : wr.cell? ⟨g, o + j * 4 + 3, none⟩ = some (.int .i64 p.n) := (HB.out.cell hg).trans (cz 3 _ rfl)
      have HBQ := hide (HB.out.alloc HB.out.size (.cells #[.int .i64 p.kind, .int .i64 p.pl.l, .slice p.pl.A p.pl.n p.pl.c, .int .i64 p.n] 96))
      have hb1 : sumN f (xs.take (j + 1)) ≤ 2 ^ 62 := Nat.le_trans (sumN_le _ _ _) HN.out
      have hb2 := sumN_up (f := f) hp
      have HC := hide (HK.out p (List.mem_of_getElem? hp))
      clear hp cz
      obtain ⟨m, hm⟩ : ∃ m, sumN f (xs.take j) = m := ⟨_, rfl⟩
      obtain ⟨q, hq⟩ : ∃ q, f p = q := ⟨_, rfl⟩
      have HQ := hide hq
      have hS : sumN f (xs.take (j + 1)) = m + q := by rw [hb2, hm, hq]
      have HS2 := hide hS
      have hq2 : m + q ≤ 2 ^ 62 := hS ▸ hb1
      have t2 : IntKind.i64.wrap ((m : Int) + (q : Int)) = (m : Int) + (q : Int) := wrapI9 _ (by omega) (by omega)
      rw [hm]
      clear hb1 hb2 hm hq hS
      go_wp2_with fail
      try go_at_fn K
      refine (HC.out _ HBQ.out).mono ?_
      rintro e w1 ⟨rfl, hb0⟩
      have HB2 := hide (HBQ.out.trans (hb0.mono HBQ.out.size))
      rw [HQ.out]
      clear hb0
      go_wp2
      go_roundw
      case rel => exact ⟨j + 1, by go_num, by rw [HS2.out]; exact congrArg (fun z : Int => Value.int .i64 z) (by omega), by omega, HB2.out⟩
      case measure => simp [intOf]; omega
    · obtain rfl : j = n := by omega
      have HF := hide (sumN_all f HL.out)
      go_wp2
      go_ret
      exact ⟨congrArg (fun z : Nat => Ending.returned (.int .i64 (z : Int))) HF.out, HB.out⟩

set_option maxHeartbeats 1000000 in
set_option maxRecDepth 100000 in
theorem TotTy_any (K : FuncId) (f : TyW → Nat) (s : SlW TyW) (w : World) (hs : SlH w w.heap.size 5 c5 (OneT w w.heap.size) s) (hE : Enters Tryz.prog K) (hN : sumN f s.L ≤ 2 ^ 62)
    (hK : ∀ x ∈ s.L, ∀ w1, Below w.heap.size w w1 → Calls Tryz.prog K #[aggT x] w1 fun e w2 => e = .returned (.int .i64 (f x : Nat)) ∧ Below w1.heap.size w1 w2) :
    Calls Tryz.prog 47 #[s.val, .func (.func K) #[] #[]] w fun e w' => e = .returned (.int .i64 (sumN f s.L : Nat)) ∧ Below w.heap.size w w' := by
  have HX := hide hs
  have HL := hide hs.len
  have HK := hide hK
  have HN := hide hN
  have hn := hs.nm
  obtain ⟨A, n, c, xs⟩ := s
  simp only [] at hn
  unfold maxLen at hn
  clear hs hK hN
  have en := hE
  unfold Enters at en
  show Calls Tryz.prog 47 #[.slice A n c, .func (.func K) #[] #[]] w _
  go_enter Tryz.func47, Tryz.ntmps47
  go_wp2
  go_loopw [5, 10] (fun v i wr => ∃ j : Nat, i = .int .i64 (j : Int) ∧ v = .int .i64 (sumN f (xs.take j) : Nat) ∧ j ≤ n ∧ Below w.heap.size w wr) (fun _ i _ => n - (intOf i).toNat)
  case atStart => exact ⟨0, rfl, rfl, Nat.zero_le _, Below.refl _ _⟩
  case round =>
    obtain ⟨j, rfl, rfl, hj, hb⟩ := hrel
    have HB := hide hb
    clear hb
    by_cases hlt : j < n
    · obtain ⟨p, hp⟩ := HX.out.get hlt
      obtain ⟨g, o, hA, hg, _, cz⟩ := HX.out.at_ hp
      simp only [] at hA
      subst hA
      have hlt' : (j : Int) < (n : Int) := by omega
      have c0 : wr.cell? ⟨g, o + j * 5, none⟩ = some (.int .i64 p.t.kind) := (HB.out.cell hg).trans (cz 0 _ rfl)
      have c1 : wr.cell? ⟨g, o + j * 5 + 1, none⟩ = some (.bool p.t.mut_) := (HB.out.cell hg).trans (cz 1 _ rfl)
      have c2 : wr.cell? ⟨g, o + j * 5 + 2, none⟩ = some (.int .i64 p.t.region) := (HB.out.cell hg).trans (cz 2 _ rfl)
      have c3 : wr.cell? ⟨g, o + j * 5 + 3, none⟩ = some (.int .i64 p.t.elem) := (HB.out.cell hg).trans (cz 3 _ rfl)
      have c4 : wr.cell? ⟨g, o + j * 5 + 4, none⟩ = some (.slice p.A p.n p.c) := (HB.out.cell hg).trans (cz 4 _ rfl)
      have HBQ := hide (HB.out.alloc HB.out.size (.cells #[.int .i64 p.t.kind, .bool p.t.mut_, .int .i64 p.t.region, .int .i64 p.t.elem, .slice p.A p.n p.c] 51))
      have hb1 : sumN f (xs.take (j + 1)) ≤ 2 ^ 62 := Nat.le_trans (sumN_le _ _ _) HN.out
      have hb2 := sumN_up (f := f) hp
      have HC := hide (HK.out p (List.mem_of_getElem? hp))
      clear hp cz
      obtain ⟨m, hm⟩ : ∃ m, sumN f (xs.take j) = m := ⟨_, rfl⟩
      obtain ⟨q, hq⟩ : ∃ q, f p = q := ⟨_, rfl⟩
      have HQ := hide hq
      have hS : sumN f (xs.take (j + 1)) = m + q := by rw [hb2, hm, hq]
      have HS2 := hide hS
      have hq2 : m + q ≤ 2 ^ 62 := hS ▸ hb1
      have t2 : IntKind.i64.wrap ((m : Int) + (q : Int)) = (m : Int) + (q : Int) := wrapI9 _ (by omega) (by omega)
      rw [hm]
      clear hb1 hb2 hm hq hS
      go_wp2_with fail
      try go_at_fn K
      refine (HC.out _ HBQ.out).mono ?_
      rintro e w1 ⟨rfl, hb0⟩
      have HB2 := hide (HBQ.out.trans (hb0.mono HBQ.out.size))
      rw [HQ.out]
      clear hb0
      go_wp2
      go_roundw
      case rel => exact ⟨j + 1, by go_num, by rw [HS2.out]; exact congrArg (fun z : Int => Value.int .i64 z) (by omega), by omega, HB2.out⟩
      case measure => simp [intOf]; omega
    · obtain rfl : j = n := by omega
      have HF := hide (sumN_all f HL.out)
      go_wp2
      go_ret
      exact ⟨congrArg (fun z : Nat => Ending.returned (.int .i64 (z : Int))) HF.out, HB.out⟩

set_option maxHeartbeats 1000000 in
set_option maxRecDepth 100000 in
theorem TotSt_any (K : FuncId) (f : StW → Nat) (s : SlW StW) (w : World) (hs : SlH w w.heap.size 11 cSt (OneSt w w.heap.size) s) (hE : Enters Tryz.prog K) (hN : sumN f s.L ≤ 2 ^ 62)
    (hK : ∀ x ∈ s.L, ∀ w1, Below w.heap.size w w1 → Calls Tryz.prog K #[aggSt x] w1 fun e w2 => e = .returned (.int .i64 (f x : Nat)) ∧ Below w1.heap.size w1 w2) :
    Calls Tryz.prog 81 #[s.val, .func (.func K) #[] #[]] w fun e w' => e = .returned (.int .i64 (sumN f s.L : Nat)) ∧ Below w.heap.size w w' := by
  have HX := hide hs
  have HL := hide hs.len
  have HK := hide hK
  have HN := hide hN
  have hn := hs.nm
  obtain ⟨A, n, c, xs⟩ := s
  simp only [] at hn
  unfold maxLen at hn
  clear hs hK hN
  have en := hE
  unfold Enters at en
  show Calls Tryz.prog 81 #[.slice A n c, .func (.func K) #[] #[]] w _
  go_enter Tryz.func81, Tryz.ntmps81
  go_wp2
  go_loopw [5, 10] (fun v i wr => ∃ j : Nat, i = .int .i64 (j : Int) ∧ v = .int .i64 (sumN f (xs.take j) : Nat) ∧ j ≤ n ∧ Below w.heap.size w wr) (fun _ i _ => n - (intOf i).toNat)
  case atStart => exact ⟨0, rfl, rfl, Nat.zero_le _, Below.refl _ _⟩
  case round =>
    obtain ⟨j, rfl, rfl, hj, hb⟩ := hrel
    have HB := hide hb
    clear hb
    by_cases hlt : j < n
    · obtain ⟨p, hp⟩ := HX.out.get hlt
      obtain ⟨g, o, hA, hg, _, cz⟩ := HX.out.at_ hp
      simp only [] at hA
      subst hA
      have hlt' : (j : Int) < (n : Int) := by omega
      have c0 : wr.cell? ⟨g, o + j * 11, none⟩ = some (.int .i64 p.kind) := (HB.out.cell hg).trans (cz 0 _ rfl)
      have c1 : wr.cell? ⟨g, o + j * 11 + 1, none⟩ = some (.int .i64 p.pl.l) := (HB.out.cell hg).trans (cz 1 _ rfl)
      have c2 : wr.cell? ⟨g, o + j * 11 + 2, none⟩ = some (.slice p.pl.A p.pl.n p.pl.c) := (HB.out.cell hg).trans (cz 2 _ rfl)
      have c3 : wr.cell? ⟨g, o + j * 11 + 3, none⟩ = some (.int .i64 p.rv.kind) := (HB.out.cell hg).trans (cz 3 _ rfl)
      have c4 : wr.cell? ⟨g, o + j * 11 + 4, none⟩ = some (.int .i64 p.rv.op) := (HB.out.cell hg).trans (cz 4 _ rfl)
      have c5 : wr.cell? ⟨g, o + j * 11 + 5, none⟩ = some (.int .i64 p.rv.region) := (HB.out.cell hg).trans (cz 5 _ rfl)
      have c6 : wr.cell? ⟨g, o + j * 11 + 6, none⟩ = some (.bool p.rv.mut_) := (HB.out.cell hg).trans (cz 6 _ rfl)
      have c7 : wr.cell? ⟨g, o + j * 11 + 7, none⟩ = some (.int .i64 p.rv.pl.l) := (HB.out.cell hg).trans (cz 7 _ rfl)
      have c8 : wr.cell? ⟨g, o + j * 11 + 8, none⟩ = some (.slice p.rv.pl.A p.rv.pl.n p.rv.pl.c) := (HB.out.cell hg).trans (cz 8 _ rfl)
      have c9 : wr.cell? ⟨g, o + j * 11 + 9, none⟩ = some (.slice p.rv.args.A p.rv.args.n p.rv.args.c) := (HB.out.cell hg).trans (cz 9 _ rfl)
      have c10 : wr.cell? ⟨g, o + j * 11 + 10, none⟩ = some (.int .i64 p.loc) := (HB.out.cell hg).trans (cz 10 _ rfl)
      have HBQ := hide (HB.out.alloc HB.out.size (.cells #[.int .i64 p.kind, .int .i64 p.pl.l, .slice p.pl.A p.pl.n p.pl.c, .int .i64 p.rv.kind, .int .i64 p.rv.op, .int .i64 p.rv.region, .bool p.rv.mut_, .int .i64 p.rv.pl.l, .slice p.rv.pl.A p.rv.pl.n p.rv.pl.c, .slice p.rv.args.A p.rv.args.n p.rv.args.c, .int .i64 p.loc] 58))
      have hb1 : sumN f (xs.take (j + 1)) ≤ 2 ^ 62 := Nat.le_trans (sumN_le _ _ _) HN.out
      have hb2 := sumN_up (f := f) hp
      have HC := hide (HK.out p (List.mem_of_getElem? hp))
      clear hp cz
      obtain ⟨m, hm⟩ : ∃ m, sumN f (xs.take j) = m := ⟨_, rfl⟩
      obtain ⟨q, hq⟩ : ∃ q, f p = q := ⟨_, rfl⟩
      have HQ := hide hq
      have hS : sumN f (xs.take (j + 1)) = m + q := by rw [hb2, hm, hq]
      have HS2 := hide hS
      have hq2 : m + q ≤ 2 ^ 62 := hS ▸ hb1
      have t2 : IntKind.i64.wrap ((m : Int) + (q : Int)) = (m : Int) + (q : Int) := wrapI9 _ (by omega) (by omega)
      rw [hm]
      clear hb1 hb2 hm hq hS
      go_wp2_with fail
      try go_at_fn K
      refine (HC.out _ HBQ.out).mono ?_
      rintro e w1 ⟨rfl, hb0⟩
      have HB2 := hide (HBQ.out.trans (hb0.mono HBQ.out.size))
      rw [HQ.out]
      clear hb0
      go_wp2
      go_roundw
      case rel => exact ⟨j + 1, by go_num, by rw [HS2.out]; exact congrArg (fun z : Int => Value.int .i64 z) (by omega), by omega, HB2.out⟩
      case measure => simp [intOf]; omega
    · obtain rfl : j = n := by omega
      have HF := hide (sumN_all f HL.out)
      go_wp2
      go_ret
      exact ⟨congrArg (fun z : Nat => Ending.returned (.int .i64 (z : Int))) HF.out, HB.out⟩

set_option maxHeartbeats 1000000 in
set_option maxRecDepth 100000 in
theorem TotBk_any (K : FuncId) (f : BkW → Nat) (s : SlW BkW) (w : World) (hs : SlH w w.heap.size 7 cBk (OneBk w w.heap.size) s) (hE : Enters Tryz.prog K) (hN : sumN f s.L ≤ 2 ^ 62)
    (hK : ∀ x ∈ s.L, ∀ w1, Below w.heap.size w w1 → Calls Tryz.prog K #[aggBk x] w1 fun e w2 => e = .returned (.int .i64 (f x : Nat)) ∧ Below w1.heap.size w1 w2) :
    Calls Tryz.prog 49 #[s.val, .func (.func K) #[] #[]] w fun e w' => e = .returned (.int .i64 (sumN f s.L : Nat)) ∧ Below w.heap.size w w' := by
  have HX := hide hs
  have HL := hide hs.len
  have HK := hide hK
  have HN := hide hN
  have hn := hs.nm
  obtain ⟨A, n, c, xs⟩ := s
  simp only [] at hn
  unfold maxLen at hn
  clear hs hK hN
  have en := hE
  unfold Enters at en
  show Calls Tryz.prog 49 #[.slice A n c, .func (.func K) #[] #[]] w _
  go_enter Tryz.func49, Tryz.ntmps49
  go_wp2
  go_loopw [5, 10] (fun v i wr => ∃ j : Nat, i = .int .i64 (j : Int) ∧ v = .int .i64 (sumN f (xs.take j) : Nat) ∧ j ≤ n ∧ Below w.heap.size w wr) (fun _ i _ => n - (intOf i).toNat)
  case atStart => exact ⟨0, rfl, rfl, Nat.zero_le _, Below.refl _ _⟩
  case round =>
    obtain ⟨j, rfl, rfl, hj, hb⟩ := hrel
    have HB := hide hb
    clear hb
    by_cases hlt : j < n
    · obtain ⟨p, hp⟩ := HX.out.get hlt
      obtain ⟨g, o, hA, hg, _, cz⟩ := HX.out.at_ hp
      simp only [] at hA
      subst hA
      have hlt' : (j : Int) < (n : Int) := by omega
      have c0 : wr.cell? ⟨g, o + j * 7, none⟩ = some (.slice p.stmts.A p.stmts.n p.stmts.c) := (HB.out.cell hg).trans (cz 0 _ rfl)
      have c1 : wr.cell? ⟨g, o + j * 7 + 1, none⟩ = some (.int .i64 p.term.kind) := (HB.out.cell hg).trans (cz 1 _ rfl)
      have c2 : wr.cell? ⟨g, o + j * 7 + 2, none⟩ = some (.slice p.term.targets.A p.term.targets.n p.term.targets.c) := (HB.out.cell hg).trans (cz 2 _ rfl)
      have c3 : wr.cell? ⟨g, o + j * 7 + 3, none⟩ = some (.slice p.term.args.A p.term.args.n p.term.args.c) := (HB.out.cell hg).trans (cz 3 _ rfl)
      have c4 : wr.cell? ⟨g, o + j * 7 + 4, none⟩ = some (.int .i64 p.term.pl.l) := (HB.out.cell hg).trans (cz 4 _ rfl)
      have c5 : wr.cell? ⟨g, o + j * 7 + 5, none⟩ = some (.slice p.term.pl.A p.term.pl.n p.term.pl.c) := (HB.out.cell hg).trans (cz 5 _ rfl)
      have c6 : wr.cell? ⟨g, o + j * 7 + 6, none⟩ = some (.string p.term.name) := (HB.out.cell hg).trans (cz 6 _ rfl)
      have HBQ := hide (HB.out.alloc HB.out.size (.cells #[.slice p.stmts.A p.stmts.n p.stmts.c, .int .i64 p.term.kind, .slice p.term.targets.A p.term.targets.n p.term.targets.c, .slice p.term.args.A p.term.args.n p.term.args.c, .int .i64 p.term.pl.l, .slice p.term.pl.A p.term.pl.n p.term.pl.c, .string p.term.name] 44))
      have hb1 : sumN f (xs.take (j + 1)) ≤ 2 ^ 62 := Nat.le_trans (sumN_le _ _ _) HN.out
      have hb2 := sumN_up (f := f) hp
      have HC := hide (HK.out p (List.mem_of_getElem? hp))
      clear hp cz
      obtain ⟨m, hm⟩ : ∃ m, sumN f (xs.take j) = m := ⟨_, rfl⟩
      obtain ⟨q, hq⟩ : ∃ q, f p = q := ⟨_, rfl⟩
      have HQ := hide hq
      have hS : sumN f (xs.take (j + 1)) = m + q := by rw [hb2, hm, hq]
      have HS2 := hide hS
      have hq2 : m + q ≤ 2 ^ 62 := hS ▸ hb1
      have t2 : IntKind.i64.wrap ((m : Int) + (q : Int)) = (m : Int) + (q : Int) := wrapI9 _ (by omega) (by omega)
      rw [hm]
      clear hb1 hb2 hm hq hS
      go_wp2_with fail
      try go_at_fn K
      refine (HC.out _ HBQ.out).mono ?_
      rintro e w1 ⟨rfl, hb0⟩
      have HB2 := hide (HBQ.out.trans (hb0.mono HBQ.out.size))
      rw [HQ.out]
      clear hb0
      go_wp2
      go_roundw
      case rel => exact ⟨j + 1, by go_num, by rw [HS2.out]; exact congrArg (fun z : Int => Value.int .i64 z) (by omega), by omega, HB2.out⟩
      case measure => simp [intOf]; omega
    · obtain rfl : j = n := by omega
      have HF := hide (sumN_all f HL.out)
      go_wp2
      go_ret
      exact ⟨congrArg (fun z : Nat => Ending.returned (.int .i64 (z : Int))) HF.out, HB.out⟩

end Go.Proofs.YtbdimnncobpfdaaGreat

/- The code's measures of places, operands, rvalues, statements and terminators. -/
set_option linter.unusedVariables false
set_option linter.unusedSimpArgs false
namespace Go.Proofs.YtbdimnncobpfdaaGreat
open Go.RowKit Go.Shelf

abbrev cPl9 (x : PlW) : List Value := [.int .i64 x.l, .slice x.A x.n x.c]

/-- the world with one struct in a box -/
def bx1 (w : World) (cx : List Value) (T : TypeId) : World := w.alloc (.cells cx.toArray T)
theorem bx1_size (w : World) (cx : List Value) (T : TypeId) : (bx1 w cx T).heap.size = w.heap.size + 1 := by simp [bx1]
theorem bx1_below (w : World) (cx : List Value) (T : TypeId) : Below w.heap.size w (bx1 w cx T) := (Below.refl _ w).alloc (Nat.le_refl _) _
theorem bx1_cells {w w' : World} {cx : List Value} {T : TypeId} (h : Below (bx1 w cx T).heap.size (bx1 w cx T) w') : ∀ j u, cx[j]? = some u → w'.cell? ⟨w.heap.size, j, none⟩ = some u := by
  intro j u hu
  refine box_at (cs := cx.toArray) (t := T) ?_ (by simpa using hu)
  have := h
  rw [bx1_size] at this
  exact this
theorem sumN_succ {α : Type} (f : α → Nat) (l : List α) : sumN (fun x => 1 + f x) l = l.length + sumN f l := by
  induction l with
  | nil => rfl
  | cons a l ih => rw [sumN_cons, sumN_cons, ih, List.length_cons]; omega
set_option maxHeartbeats 2000000 in
set_option maxRecDepth 100000 in
theorem PlaceN_is {x : PlW} {N : Nat} (hN : plN x.v = N) (w : World) (hx : OnePl w w.heap.size x) (h : N ≤ 2 ^ 62) :
    Calls Tryz.prog 111 #[aggPl x] w fun e w' => e = .returned (.int .i64 (N : Int)) ∧ Below w.heap.size w w' := by
  have HB := hide (bx1_below w (cPl9 x) 40)
  have HX := hide (hx.up HB.out)
  have HL := hide hx.prs.len
  have hn := Nat.le_trans hx.nc hx.cm
  unfold maxLen at hn
  clear hx
  obtain ⟨l, A, n, c, ps⟩ := x
  have hs := hide fun (w' : World) (h : Below (bx1 w (cPl9 ⟨l, A, n, c, ps⟩) 40).heap.size (bx1 w (cPl9 ⟨l, A, n, c, ps⟩) 40) w') => bx1_cells h
  have hNN : 1 + n = N := by have := HL.out; simp only [] at this; rw [← hN, plN, PlW.v, this]
  have HNN := hide hNN
  have t0 : IntKind.i64.wrap (1 + (n : Int)) = 1 + (n : Int) := wrapI9 _ (by omega) (by omega)
  have hbd : 1 + n ≤ 2 ^ 62 := by omega
  clear hN h hNN 
  have hc := hide fun (w' : World) (h : Below (bx1 w (cPl9 ⟨l, A, n, c, ps⟩) 40).heap.size (bx1 w (cPl9 ⟨l, A, n, c, ps⟩) 40) w') => (show w'.cell? ⟨w.heap.size, 0, none⟩ = some (.int .i64 l) ∧ w'.cell? ⟨w.heap.size, 1, none⟩ = some (.slice A n c) from ⟨hs.out _ h 0 _ rfl, hs.out _ h 1 _ rfl⟩)
  go_enter Tryz.func111, Tryz.ntmps111
  go_wp2
  go_ret
  exact ⟨congrArg (fun z : Int => Ending.returned (.int .i64 z)) (by have := HNN.out; omega), HB.out⟩
set_option maxHeartbeats 2000000 in
set_option maxRecDepth 100000 in
theorem OperN_is {x : OpW} {N : Nat} (hN : opN x.v = N) (w : World) (hx : OneOp w w.heap.size x) (h : N ≤ 2 ^ 62) :
    Calls Tryz.prog 114 #[aggOp x] w fun e w' => e = .returned (.int .i64 (N : Int)) ∧ Below w.heap.size w w' := by
  have HB := hide (bx1_below w (cOp x) 96)
  have HX := hide (hx.up HB.out)
  clear hx
  obtain ⟨k, ⟨l, A, n, c, ps⟩, z⟩ := x
  have hs := hide fun (w' : World) (h : Below (bx1 w (cOp ⟨k, ⟨l, A, n, c, ps⟩, z⟩) 96).heap.size (bx1 w (cOp ⟨k, ⟨l, A, n, c, ps⟩, z⟩) 96) w') => bx1_cells h
  obtain ⟨q, hq⟩ : ∃ q, plN (PlW.v ⟨l, A, n, c, ps⟩) = q := ⟨_, rfl⟩
  have Hq := hide hq
  have hNN : 1 + q = N := by rw [← hN, ← hq]; try rfl
  have HNN := hide hNN
  have t0 : IntKind.i64.wrap (1 + (q : Int)) = 1 + (q : Int) := wrapI9 _ (by omega) (by omega)
  have hbd : 1 + q ≤ 2 ^ 62 := by omega
  clear hN h hNN hq
  have hc := hide fun (w' : World) (h : Below (bx1 w (cOp ⟨k, ⟨l, A, n, c, ps⟩, z⟩) 96).heap.size (bx1 w (cOp ⟨k, ⟨l, A, n, c, ps⟩, z⟩) 96) w') => (show w'.cell? ⟨w.heap.size, 0, none⟩ = some (.int .i64 k) ∧ w'.cell? ⟨w.heap.size, 1, none⟩ = some (.int .i64 l) ∧ w'.cell? ⟨w.heap.size, 2, none⟩ = some (.slice A n c) ∧ w'.cell? ⟨w.heap.size, 3, none⟩ = some (.int .i64 z) from ⟨hs.out _ h 0 _ rfl, hs.out _ h 1 _ rfl, hs.out _ h 2 _ rfl, hs.out _ h 3 _ rfl⟩)
  go_enter Tryz.func114, Tryz.ntmps114
  go_wp2_with fail
  refine (PlaceN_is Hq.out _ (HX.out.pl.up (Below.refl _ _)) (by omega)).mono ?_
  rintro e w1 ⟨rfl, hb⟩
  have HW1 := hide (show Below (bx1 w (cOp ⟨k, ⟨l, A, n, c, ps⟩, z⟩) 96).heap.size (bx1 w (cOp ⟨k, ⟨l, A, n, c, ps⟩, z⟩) 96) w1 from hb)
  clear hb
  obtain ⟨c0, c1, c2, c3⟩ := hc.out _ HW1.out
  go_wp2
  go_ret
  exact ⟨congrArg (fun z : Int => Ending.returned (.int .i64 z)) (by have := HNN.out; omega), HB.out.trans (HW1.out.mono HB.out.size)⟩

theorem TotOps_is {s : SlW OpW} {N : Nat} (hN : opsN (s.L.map OpW.v) = N) (w : World) (hs : Ops w w.heap.size s) (h : N ≤ 2 ^ 62) :
    Calls Tryz.prog 113 #[s.val, .func (.func 114) #[] #[]] w fun e w' => e = .returned (.int .i64 (N : Int)) ∧ Below w.heap.size w w' := by
  rw [opsN, sumN_map] at hN
  subst hN
  exact TotOp_any 114 (fun x => opN x.v) s w hs (enters_of Tryz.func114 (by kernel_rfl) rfl) h fun x hx w1 hb => OperN_is rfl w1 ((hs.all x hx).up hb) (Nat.le_trans (sumN_one (f := fun x => opN x.v) hx) h)
def rvN (x : RvV) : Nat := 1 + plN x.pl + opsN x.args
set_option maxHeartbeats 2000000 in
set_option maxRecDepth 100000 in
theorem RvalN_is {x : RvW} {N : Nat} (hN : rvN x.v = N) (w : World) (hx : OneRv w w.heap.size x) (h : N ≤ 2 ^ 62) :
    Calls Tryz.prog 112 #[aggRv x] w fun e w' => e = .returned (.int .i64 (N : Int)) ∧ Below w.heap.size w w' := by
  have HB := hide (bx1_below w (cRv x) 56)
  have HX := hide (hx.up HB.out)
  clear hx
  obtain ⟨k, o, r, m, ⟨l, A, n, c, ps⟩, ⟨gA, gn, gc, gL⟩⟩ := x
  have hs := hide fun (w' : World) (h : Below (bx1 w (cRv ⟨k, o, r, m, ⟨l, A, n, c, ps⟩, ⟨gA, gn, gc, gL⟩⟩) 56).heap.size (bx1 w (cRv ⟨k, o, r, m, ⟨l, A, n, c, ps⟩, ⟨gA, gn, gc, gL⟩⟩) 56) w') => bx1_cells h
  obtain ⟨q1, hq1⟩ : ∃ q, plN (PlW.v ⟨l, A, n, c, ps⟩) = q := ⟨_, rfl⟩
  have Hq1 := hide hq1
  obtain ⟨q2, hq2⟩ : ∃ q, opsN (gL.map OpW.v) = q := ⟨_, rfl⟩
  have Hq2 := hide hq2
  have hNN : 1 + q1 + q2 = N := by rw [← hN, ← hq1, ← hq2]; try rfl
  have HNN := hide hNN
  have t0 : IntKind.i64.wrap (1 + (q1 : Int)) = 1 + (q1 : Int) := wrapI9 _ (by omega) (by omega)
  have t1 : IntKind.i64.wrap (1 + (q1 : Int) + (q2 : Int)) = 1 + (q1 : Int) + (q2 : Int) := wrapI9 _ (by omega) (by omega)
  have hbd : 1 + q1 + q2 ≤ 2 ^ 62 := by omega
  clear hN h hNN hq1 hq2
  have hc := hide fun (w' : World) (h : Below (bx1 w (cRv ⟨k, o, r, m, ⟨l, A, n, c, ps⟩, ⟨gA, gn, gc, gL⟩⟩) 56).heap.size (bx1 w (cRv ⟨k, o, r, m, ⟨l, A, n, c, ps⟩, ⟨gA, gn, gc, gL⟩⟩) 56) w') => (show w'.cell? ⟨w.heap.size, 0, none⟩ = some (.int .i64 k) ∧ w'.cell? ⟨w.heap.size, 1, none⟩ = some (.int .i64 o) ∧ w'.cell? ⟨w.heap.size, 2, none⟩ = some (.int .i64 r) ∧ w'.cell? ⟨w.heap.size, 3, none⟩ = some (.bool m) ∧ w'.cell? ⟨w.heap.size, 4, none⟩ = some (.int .i64 l) ∧ w'.cell? ⟨w.heap.size, 5, none⟩ = some (.slice A n c) ∧ w'.cell? ⟨w.heap.size, 6, none⟩ = some (.slice gA gn gc) from ⟨hs.out _ h 0 _ rfl, hs.out _ h 1 _ rfl, hs.out _ h 2 _ rfl, hs.out _ h 3 _ rfl, hs.out _ h 4 _ rfl, hs.out _ h 5 _ rfl, hs.out _ h 6 _ rfl⟩)
  go_enter Tryz.func112, Tryz.ntmps112
  have HW0 := hide (show Below (bx1 w (cRv ⟨k, o, r, m, ⟨l, A, n, c, ps⟩, ⟨gA, gn, gc, gL⟩⟩) 56).heap.size (bx1 w (cRv ⟨k, o, r, m, ⟨l, A, n, c, ps⟩, ⟨gA, gn, gc, gL⟩⟩) 56) (World.drew (bx1 w (cRv ⟨k, o, r, m, ⟨l, A, n, c, ps⟩, ⟨gA, gn, gc, gL⟩⟩) 56)) from (Below.refl _ _).drew)
  go_wp2
  change Code.wp _ _ _ _ (bx1 w (cRv ⟨k, o, r, m, ⟨l, A, n, c, ps⟩, ⟨gA, gn, gc, gL⟩⟩) 56)
  refine wp_region_held_drew (S := (fun w' => Below (bx1 w (cRv ⟨k, o, r, m, ⟨l, A, n, c, ps⟩, ⟨gA, gn, gc, gL⟩⟩) 56).heap.size (bx1 w (cRv ⟨k, o, r, m, ⟨l, A, n, c, ps⟩, ⟨gA, gn, gc, gL⟩⟩) 56) w' ∧ w'.cell? ⟨w.heap.size, 0, none⟩ = some (.int .i64 k) ∧ w'.cell? ⟨w.heap.size, 1, none⟩ = some (.int .i64 o) ∧ w'.cell? ⟨w.heap.size, 2, none⟩ = some (.int .i64 r) ∧ w'.cell? ⟨w.heap.size, 3, none⟩ = some (.bool m) ∧ w'.cell? ⟨w.heap.size, 4, none⟩ = some (.int .i64 l) ∧ w'.cell? ⟨w.heap.size, 5, none⟩ = some (.slice A n c) ∧ w'.cell? ⟨w.heap.size, 6, none⟩ = some (.slice gA gn gc))) (by kernel_rfl) ⟨HW0.out, hc.out _ HW0.out⟩ (fun hHeld => ?_)
  refine takeY (i := 0) (d := some 3) (v := ?_) rfl rfl (by kernel_rfl) (by kernel_rfl) (by kernel_rfl) (fun _ _ _ h => h) (by rfl) ?_ hHeld ?_
  rotate_left
  · intro w9 hS9
    first | (go_simp; done) | (go_simp; with_reducible rfl)
  try simp only [Act.put, List.setIfInBounds_toArray, List.set_cons_zero, List.set_cons_succ]
  refine takeY (i := 1) (d := some 4) (v := ?_) rfl rfl (by kernel_rfl) (by kernel_rfl) (by kernel_rfl) (fun _ _ _ h => h) (by rfl) ?_ hHeld ?_
  rotate_left
  · intro w9 hS9
    obtain ⟨_, c0, c1, c2, c3, c4, c5, c6⟩ := hS9
    first | (go_simp; done) | (go_simp; with_reducible rfl)
  try simp only [Act.put, List.setIfInBounds_toArray, List.set_cons_zero, List.set_cons_succ]
  refine takeY (i := 4) (d := some 7) (v := ?_) rfl rfl (by kernel_rfl) (by kernel_rfl) (by kernel_rfl) (fun _ _ _ h => h) (by rfl) ?_ hHeld ?_
  rotate_left
  · intro w9 hS9
    first | (go_simp; done) | (go_simp; with_reducible rfl)
  try simp only [Act.put, List.setIfInBounds_toArray, List.set_cons_zero, List.set_cons_succ]
  refine takeY (i := 5) (d := some 8) (v := ?_) rfl rfl (by kernel_rfl) (by kernel_rfl) (by kernel_rfl) (fun _ _ _ h => h) (by rfl) ?_ hHeld ?_
  rotate_left
  · intro w9 hS9
    obtain ⟨_, c0, c1, c2, c3, c4, c5, c6⟩ := hS9
    first | (go_simp; done) | (go_simp; with_reducible rfl)
  try simp only [Act.put, List.setIfInBounds_toArray, List.set_cons_zero, List.set_cons_succ]
  refine wpAnyH_ready (rs := [2]) (by kernel_rfl) (by simp) ?_
  refine AllReadyH.cons rfl (fun K hK => ?_) AllReadyH.nil
  go_simp
  refine (PlaceN_is Hq1.out _ (HX.out.pl.up HW0.out) (by omega)).mono ?_
  rintro x9 w1 ⟨rfl, hb0⟩
  have HW1 := hide (HW0.out.trans (hb0.mono HW0.out.size))
  clear hb0
  refine hK.out _ _ ⟨HW1.out, hc.out _ HW1.out⟩ (fun hHeld => ?_)
  clear hK K
  try simp only [Act.put, List.setIfInBounds_toArray, List.set_cons_zero, List.set_cons_succ]
  refine takeY (i := 3) (d := some 6) (v := ?_) rfl rfl (by kernel_rfl) (by kernel_rfl) (by kernel_rfl) (fun _ _ _ h => h) (by rfl) ?_ hHeld ?_
  rotate_left
  · intro w9 hS9
    first | (go_simp; done) | (go_simp; with_reducible rfl)
  try simp only [Act.put, List.setIfInBounds_toArray, List.set_cons_zero, List.set_cons_succ]
  refine wpAnyH_ready (rs := [6]) (by kernel_rfl) (by simp) ?_
  refine AllReadyH.cons rfl (fun K hK => ?_) AllReadyH.nil
  go_simp
  refine (TotOps_is (s := ⟨gA, gn, gc, gL⟩) Hq2.out _ (Ops.up HX.out.args HW1.out) (by omega)).mono ?_
  rintro x9 w2 ⟨rfl, hb0⟩
  have HW2 := hide (HW1.out.trans (hb0.mono HW1.out.size))
  clear hb0
  refine hK.out _ _ ⟨HW2.out, hc.out _ HW2.out⟩ (fun hHeld => ?_)
  clear hK K
  try simp only [Act.put, List.setIfInBounds_toArray, List.set_cons_zero, List.set_cons_succ]
  refine takeY (i := 7) (d := some 10) (v := ?_) rfl rfl (by kernel_rfl) (by kernel_rfl) (by kernel_rfl) (fun _ _ _ h => h) (by rfl) ?_ hHeld ?_
  rotate_left
  · intro w9 hS9
    first | (go_simp; done) | (go_simp; with_reducible rfl)
  try simp only [Act.put, List.setIfInBounds_toArray, List.set_cons_zero, List.set_cons_succ]
  refine takeY (i := 8) (d := some 2) (v := ?_) rfl rfl (by kernel_rfl) (by kernel_rfl) (by kernel_rfl) (fun _ _ _ h => h) (by rfl) ?_ hHeld ?_
  rotate_left
  · intro w9 hS9
    first | (go_simp; done) | (go_simp; with_reducible rfl)
  try simp only [Act.put, List.setIfInBounds_toArray, List.set_cons_zero, List.set_cons_succ]
  refine wpAnyH_done (by kernel_rfl) ?_ _
  go_wp2
  go_ret
  exact ⟨congrArg (fun z : Int => Ending.returned (.int .i64 z)) (by have := HNN.out; omega), HB.out.trans (HW2.out.mono HB.out.size)⟩
set_option maxHeartbeats 2000000 in
set_option maxRecDepth 100000 in
theorem StmtN_is {x : StW} {N : Nat} (hN : 1 + plN x.pl.v + rvN x.rv.v = N) (w : World) (hx : OneSt w w.heap.size x) (h : N ≤ 2 ^ 62) :
    Calls Tryz.prog 82 #[aggSt x] w fun e w' => e = .returned (.int .i64 (N : Int)) ∧ Below w.heap.size w w' := by
  have HB := hide (bx1_below w (cSt x) 58)
  have HX := hide (hx.up HB.out)
  clear hx
  obtain ⟨k, ⟨l, A, n, c, ps⟩, ⟨rk, ro, rr, rm, ⟨rl, rA, rn, rc, rps⟩, ⟨gA, gn, gc, gL⟩⟩, z⟩ := x
  have hs := hide fun (w' : World) (h : Below (bx1 w (cSt ⟨k, ⟨l, A, n, c, ps⟩, ⟨rk, ro, rr, rm, ⟨rl, rA, rn, rc, rps⟩, ⟨gA, gn, gc, gL⟩⟩, z⟩) 58).heap.size (bx1 w (cSt ⟨k, ⟨l, A, n, c, ps⟩, ⟨rk, ro, rr, rm, ⟨rl, rA, rn, rc, rps⟩, ⟨gA, gn, gc, gL⟩⟩, z⟩) 58) w') => bx1_cells h
  obtain ⟨q1, hq1⟩ : ∃ q, plN (PlW.v ⟨l, A, n, c, ps⟩) = q := ⟨_, rfl⟩
  have Hq1 := hide hq1
  obtain ⟨q2, hq2⟩ : ∃ q, rvN (RvW.v ⟨rk, ro, rr, rm, ⟨rl, rA, rn, rc, rps⟩, ⟨gA, gn, gc, gL⟩⟩) = q := ⟨_, rfl⟩
  have Hq2 := hide hq2
  have hNN : 1 + q1 + q2 = N := by rw [← hN, ← hq1, ← hq2]; try rfl
  have HNN := hide hNN
  have t0 : IntKind.i64.wrap (1 + (q1 : Int)) = 1 + (q1 : Int) := wrapI9 _ (by omega) (by omega)
  have t1 : IntKind.i64.wrap (1 + (q1 : Int) + (q2 : Int)) = 1 + (q1 : Int) + (q2 : Int) := wrapI9 _ (by omega) (by omega)
  have hbd : 1 + q1 + q2 ≤ 2 ^ 62 := by omega
  clear hN h hNN hq1 hq2
  have hc := hide fun (w' : World) (h : Below (bx1 w (cSt ⟨k, ⟨l, A, n, c, ps⟩, ⟨rk, ro, rr, rm, ⟨rl, rA, rn, rc, rps⟩, ⟨gA, gn, gc, gL⟩⟩, z⟩) 58).heap.size (bx1 w (cSt ⟨k, ⟨l, A, n, c, ps⟩, ⟨rk, ro, rr, rm, ⟨rl, rA, rn, rc, rps⟩, ⟨gA, gn, gc, gL⟩⟩, z⟩) 58) w') => (show w'.cell? ⟨w.heap.size, 0, none⟩ = some (.int .i64 k) ∧ w'.cell? ⟨w.heap.size, 1, none⟩ = some (.int .i64 l) ∧ w'.cell? ⟨w.heap.size, 2, none⟩ = some (.slice A n c) ∧ w'.cell? ⟨w.heap.size, 3, none⟩ = some (.int .i64 rk) ∧ w'.cell? ⟨w.heap.size, 4, none⟩ = some (.int .i64 ro) ∧ w'.cell? ⟨w.heap.size, 5, none⟩ = some (.int .i64 rr) ∧ w'.cell? ⟨w.heap.size, 6, none⟩ = some (.bool rm) ∧ w'.cell? ⟨w.heap.size, 7, none⟩ = some (.int .i64 rl) ∧ w'.cell? ⟨w.heap.size, 8, none⟩ = some (.slice rA rn rc) ∧ w'.cell? ⟨w.heap.size, 9, none⟩ = some (.slice gA gn gc) ∧ w'.cell? ⟨w.heap.size, 10, none⟩ = some (.int .i64 z) from ⟨hs.out _ h 0 _ rfl, hs.out _ h 1 _ rfl, hs.out _ h 2 _ rfl, hs.out _ h 3 _ rfl, hs.out _ h 4 _ rfl, hs.out _ h 5 _ rfl, hs.out _ h 6 _ rfl, hs.out _ h 7 _ rfl, hs.out _ h 8 _ rfl, hs.out _ h 9 _ rfl, hs.out _ h 10 _ rfl⟩)
  go_enter Tryz.func82, Tryz.ntmps82
  have HW0 := hide (show Below (bx1 w (cSt ⟨k, ⟨l, A, n, c, ps⟩, ⟨rk, ro, rr, rm, ⟨rl, rA, rn, rc, rps⟩, ⟨gA, gn, gc, gL⟩⟩, z⟩) 58).heap.size (bx1 w (cSt ⟨k, ⟨l, A, n, c, ps⟩, ⟨rk, ro, rr, rm, ⟨rl, rA, rn, rc, rps⟩, ⟨gA, gn, gc, gL⟩⟩, z⟩) 58) (World.drew (bx1 w (cSt ⟨k, ⟨l, A, n, c, ps⟩, ⟨rk, ro, rr, rm, ⟨rl, rA, rn, rc, rps⟩, ⟨gA, gn, gc, gL⟩⟩, z⟩) 58)) from (Below.refl _ _).drew)
  go_wp2
  change Code.wp _ _ _ _ (bx1 w (cSt ⟨k, ⟨l, A, n, c, ps⟩, ⟨rk, ro, rr, rm, ⟨rl, rA, rn, rc, rps⟩, ⟨gA, gn, gc, gL⟩⟩, z⟩) 58)
  refine wp_region_held_drew (S := (fun w' => Below (bx1 w (cSt ⟨k, ⟨l, A, n, c, ps⟩, ⟨rk, ro, rr, rm, ⟨rl, rA, rn, rc, rps⟩, ⟨gA, gn, gc, gL⟩⟩, z⟩) 58).heap.size (bx1 w (cSt ⟨k, ⟨l, A, n, c, ps⟩, ⟨rk, ro, rr, rm, ⟨rl, rA, rn, rc, rps⟩, ⟨gA, gn, gc, gL⟩⟩, z⟩) 58) w' ∧ w'.cell? ⟨w.heap.size, 0, none⟩ = some (.int .i64 k) ∧ w'.cell? ⟨w.heap.size, 1, none⟩ = some (.int .i64 l) ∧ w'.cell? ⟨w.heap.size, 2, none⟩ = some (.slice A n c) ∧ w'.cell? ⟨w.heap.size, 3, none⟩ = some (.int .i64 rk) ∧ w'.cell? ⟨w.heap.size, 4, none⟩ = some (.int .i64 ro) ∧ w'.cell? ⟨w.heap.size, 5, none⟩ = some (.int .i64 rr) ∧ w'.cell? ⟨w.heap.size, 6, none⟩ = some (.bool rm) ∧ w'.cell? ⟨w.heap.size, 7, none⟩ = some (.int .i64 rl) ∧ w'.cell? ⟨w.heap.size, 8, none⟩ = some (.slice rA rn rc) ∧ w'.cell? ⟨w.heap.size, 9, none⟩ = some (.slice gA gn gc) ∧ w'.cell? ⟨w.heap.size, 10, none⟩ = some (.int .i64 z))) (by kernel_rfl) ⟨HW0.out, hc.out _ HW0.out⟩ (fun hHeld => ?_)
  refine takeY (i := 0) (d := some 3) (v := ?_) rfl rfl (by kernel_rfl) (by kernel_rfl) (by kernel_rfl) (fun _ _ _ h => h) (by rfl) ?_ hHeld ?_
  rotate_left
  · intro w9 hS9
    first | (go_simp; done) | (go_simp; with_reducible rfl)
  try simp only [Act.put, List.setIfInBounds_toArray, List.set_cons_zero, List.set_cons_succ]
  refine takeY (i := 1) (d := some 4) (v := ?_) rfl rfl (by kernel_rfl) (by kernel_rfl) (by kernel_rfl) (fun _ _ _ h => h) (by rfl) ?_ hHeld ?_
  rotate_left
  · intro w9 hS9
    obtain ⟨_, c0, c1, c2, c3, c4, c5, c6, c7, c8, c9, c10⟩ := hS9
    first | (go_simp; done) | (go_simp; with_reducible rfl)
  try simp only [Act.put, List.setIfInBounds_toArray, List.set_cons_zero, List.set_cons_succ]
  refine takeY (i := 4) (d := some 7) (v := ?_) rfl rfl (by kernel_rfl) (by kernel_rfl) (by kernel_rfl) (fun _ _ _ h => h) (by rfl) ?_ hHeld ?_
  rotate_left
  · intro w9 hS9
    first | (go_simp; done) | (go_simp; with_reducible rfl)
  try simp only [Act.put, List.setIfInBounds_toArray, List.set_cons_zero, List.set_cons_succ]
  refine takeY (i := 5) (d := some 8) (v := ?_) rfl rfl (by kernel_rfl) (by kernel_rfl) (by kernel_rfl) (fun _ _ _ h => h) (by rfl) ?_ hHeld ?_
  rotate_left
  · intro w9 hS9
    obtain ⟨_, c0, c1, c2, c3, c4, c5, c6, c7, c8, c9, c10⟩ := hS9
    first | (go_simp; done) | (go_simp; with_reducible rfl)
  try simp only [Act.put, List.setIfInBounds_toArray, List.set_cons_zero, List.set_cons_succ]
  refine wpAnyH_ready (rs := [2]) (by kernel_rfl) (by simp) ?_
  refine AllReadyH.cons rfl (fun K hK => ?_) AllReadyH.nil
  go_simp
  refine (PlaceN_is Hq1.out _ (HX.out.pl.up HW0.out) (by omega)).mono ?_
  rintro x9 w1 ⟨rfl, hb0⟩
  have HW1 := hide (HW0.out.trans (hb0.mono HW0.out.size))
  clear hb0
  refine hK.out _ _ ⟨HW1.out, hc.out _ HW1.out⟩ (fun hHeld => ?_)
  clear hK K
  try simp only [Act.put, List.setIfInBounds_toArray, List.set_cons_zero, List.set_cons_succ]
  refine takeY (i := 3) (d := some 6) (v := ?_) rfl rfl (by kernel_rfl) (by kernel_rfl) (by kernel_rfl) (fun _ _ _ h => h) (by rfl) ?_ hHeld ?_
  rotate_left
  · intro w9 hS9
    first | (go_simp; done) | (go_simp; with_reducible rfl)
  try simp only [Act.put, List.setIfInBounds_toArray, List.set_cons_zero, List.set_cons_succ]
  refine wpAnyH_ready (rs := [6]) (by kernel_rfl) (by simp) ?_
  refine AllReadyH.cons rfl (fun K hK => ?_) AllReadyH.nil
  go_simp
  refine (RvalN_is (x := ⟨rk, ro, rr, rm, ⟨rl, rA, rn, rc, rps⟩, ⟨gA, gn, gc, gL⟩⟩) Hq2.out _ (HX.out.rv.up HW1.out) (by omega)).mono ?_
  rintro x9 w2 ⟨rfl, hb0⟩
  have HW2 := hide (HW1.out.trans (hb0.mono HW1.out.size))
  clear hb0
  refine hK.out _ _ ⟨HW2.out, hc.out _ HW2.out⟩ (fun hHeld => ?_)
  clear hK K
  try simp only [Act.put, List.setIfInBounds_toArray, List.set_cons_zero, List.set_cons_succ]
  refine takeY (i := 7) (d := some 10) (v := ?_) rfl rfl (by kernel_rfl) (by kernel_rfl) (by kernel_rfl) (fun _ _ _ h => h) (by rfl) ?_ hHeld ?_
  rotate_left
  · intro w9 hS9
    first | (go_simp; done) | (go_simp; with_reducible rfl)
  try simp only [Act.put, List.setIfInBounds_toArray, List.set_cons_zero, List.set_cons_succ]
  refine takeY (i := 8) (d := some 2) (v := ?_) rfl rfl (by kernel_rfl) (by kernel_rfl) (by kernel_rfl) (fun _ _ _ h => h) (by rfl) ?_ hHeld ?_
  rotate_left
  · intro w9 hS9
    first | (go_simp; done) | (go_simp; with_reducible rfl)
  try simp only [Act.put, List.setIfInBounds_toArray, List.set_cons_zero, List.set_cons_succ]
  refine wpAnyH_done (by kernel_rfl) ?_ _
  go_wp2
  go_ret
  exact ⟨congrArg (fun z : Int => Ending.returned (.int .i64 z)) (by have := HNN.out; omega), HB.out.trans (HW2.out.mono HB.out.size)⟩
set_option maxHeartbeats 2000000 in
set_option maxRecDepth 100000 in
theorem TermN_is {x : TmW} {N : Nat} (hN : 1 + x.targets.n + opsN (x.args.L.map OpW.v) + plN x.pl.v = N) (w : World) (hx : OneTm w w.heap.size x) (h : N ≤ 2 ^ 62) :
    Calls Tryz.prog 83 #[aggTm x] w fun e w' => e = .returned (.int .i64 (N : Int)) ∧ Below w.heap.size w w' := by
  have HB := hide (bx1_below w (cTm x) 42)
  have HX := hide (hx.up HB.out)
  clear hx
  obtain ⟨k, ⟨tA, tn, tc, tL⟩, ⟨gA, gn, gc, gL⟩, ⟨l, A, n, c, ps⟩, nm⟩ := x
  have hs := hide fun (w' : World) (h : Below (bx1 w (cTm ⟨k, ⟨tA, tn, tc, tL⟩, ⟨gA, gn, gc, gL⟩, ⟨l, A, n, c, ps⟩, nm⟩) 42).heap.size (bx1 w (cTm ⟨k, ⟨tA, tn, tc, tL⟩, ⟨gA, gn, gc, gL⟩, ⟨l, A, n, c, ps⟩, nm⟩) 42) w') => bx1_cells h
  obtain ⟨q1, hq1⟩ : ∃ q, opsN (gL.map OpW.v) = q := ⟨_, rfl⟩
  have Hq1 := hide hq1
  obtain ⟨q2, hq2⟩ : ∃ q, plN (PlW.v ⟨l, A, n, c, ps⟩) = q := ⟨_, rfl⟩
  have Hq2 := hide hq2
  have hNN : 1 + tn + q1 + q2 = N := by rw [← hN, ← hq1, ← hq2]; try rfl
  have HNN := hide hNN
  have t0 : IntKind.i64.wrap (1 + (tn : Int)) = 1 + (tn : Int) := wrapI9 _ (by omega) (by omega)
  have t1 : IntKind.i64.wrap (1 + (tn : Int) + (q1 : Int)) = 1 + (tn : Int) + (q1 : Int) := wrapI9 _ (by omega) (by omega)
  have t2 : IntKind.i64.wrap (1 + (tn : Int) + (q1 : Int) + (q2 : Int)) = 1 + (tn : Int) + (q1 : Int) + (q2 : Int) := wrapI9 _ (by omega) (by omega)
  have hbd : 1 + tn + q1 + q2 ≤ 2 ^ 62 := by omega
  clear hN h hNN hq1 hq2
  have hc := hide fun (w' : World) (h : Below (bx1 w (cTm ⟨k, ⟨tA, tn, tc, tL⟩, ⟨gA, gn, gc, gL⟩, ⟨l, A, n, c, ps⟩, nm⟩) 42).heap.size (bx1 w (cTm ⟨k, ⟨tA, tn, tc, tL⟩, ⟨gA, gn, gc, gL⟩, ⟨l, A, n, c, ps⟩, nm⟩) 42) w') => (show w'.cell? ⟨w.heap.size, 0, none⟩ = some (.int .i64 k) ∧ w'.cell? ⟨w.heap.size, 1, none⟩ = some (.slice tA tn tc) ∧ w'.cell? ⟨w.heap.size, 2, none⟩ = some (.slice gA gn gc) ∧ w'.cell? ⟨w.heap.size, 3, none⟩ = some (.int .i64 l) ∧ w'.cell? ⟨w.heap.size, 4, none⟩ = some (.slice A n c) ∧ w'.cell? ⟨w.heap.size, 5, none⟩ = some (.string nm) from ⟨hs.out _ h 0 _ rfl, hs.out _ h 1 _ rfl, hs.out _ h 2 _ rfl, hs.out _ h 3 _ rfl, hs.out _ h 4 _ rfl, hs.out _ h 5 _ rfl⟩)
  go_enter Tryz.func83, Tryz.ntmps83
  have HW0 := hide (show Below (bx1 w (cTm ⟨k, ⟨tA, tn, tc, tL⟩, ⟨gA, gn, gc, gL⟩, ⟨l, A, n, c, ps⟩, nm⟩) 42).heap.size (bx1 w (cTm ⟨k, ⟨tA, tn, tc, tL⟩, ⟨gA, gn, gc, gL⟩, ⟨l, A, n, c, ps⟩, nm⟩) 42) (World.drew (bx1 w (cTm ⟨k, ⟨tA, tn, tc, tL⟩, ⟨gA, gn, gc, gL⟩, ⟨l, A, n, c, ps⟩, nm⟩) 42)) from (Below.refl _ _).drew)
  go_wp2
  change Code.wp _ _ _ _ (bx1 w (cTm ⟨k, ⟨tA, tn, tc, tL⟩, ⟨gA, gn, gc, gL⟩, ⟨l, A, n, c, ps⟩, nm⟩) 42)
  refine wp_region_held_drew (S := (fun w' => Below (bx1 w (cTm ⟨k, ⟨tA, tn, tc, tL⟩, ⟨gA, gn, gc, gL⟩, ⟨l, A, n, c, ps⟩, nm⟩) 42).heap.size (bx1 w (cTm ⟨k, ⟨tA, tn, tc, tL⟩, ⟨gA, gn, gc, gL⟩, ⟨l, A, n, c, ps⟩, nm⟩) 42) w' ∧ w'.cell? ⟨w.heap.size, 0, none⟩ = some (.int .i64 k) ∧ w'.cell? ⟨w.heap.size, 1, none⟩ = some (.slice tA tn tc) ∧ w'.cell? ⟨w.heap.size, 2, none⟩ = some (.slice gA gn gc) ∧ w'.cell? ⟨w.heap.size, 3, none⟩ = some (.int .i64 l) ∧ w'.cell? ⟨w.heap.size, 4, none⟩ = some (.slice A n c) ∧ w'.cell? ⟨w.heap.size, 5, none⟩ = some (.string nm))) (by kernel_rfl) ⟨HW0.out, hc.out _ HW0.out⟩ (fun hHeld => ?_)
  refine takeY (i := 0) (d := some 3) (v := ?_) rfl rfl (by kernel_rfl) (by kernel_rfl) (by kernel_rfl) (fun _ _ _ h => h) (by rfl) ?_ hHeld ?_
  rotate_left
  · intro w9 hS9
    first | (go_simp; done) | (go_simp; with_reducible rfl)
  try simp only [Act.put, List.setIfInBounds_toArray, List.set_cons_zero, List.set_cons_succ]
  refine takeY (i := 1) (d := some 4) (v := ?_) rfl rfl (by kernel_rfl) (by kernel_rfl) (by kernel_rfl) (fun _ _ _ h => h) (by rfl) ?_ hHeld ?_
  rotate_left
  · intro w9 hS9
    obtain ⟨_, c0, c1, c2, c3, c4, c5⟩ := hS9
    first | (go_simp; done) | (go_simp; with_reducible rfl)
  try simp only [Act.put, List.setIfInBounds_toArray, List.set_cons_zero, List.set_cons_succ]
  refine takeY (i := 2) (d := some 5) (v := ?_) rfl rfl (by kernel_rfl) (by kernel_rfl) (by kernel_rfl) (fun _ _ _ h => h) (by rfl) ?_ hHeld ?_
  rotate_left
  · intro w9 hS9
    first | (go_simp; done) | (go_simp; with_reducible rfl)
  try simp only [Act.put, List.setIfInBounds_toArray, List.set_cons_zero, List.set_cons_succ]
  refine takeY (i := 3) (d := some 6) (v := ?_) rfl rfl (by kernel_rfl) (by kernel_rfl) (by kernel_rfl) (fun _ _ _ h => h) (by rfl) ?_ hHeld ?_
  rotate_left
  · intro w9 hS9
    first | (go_simp; done) | (go_simp; with_reducible rfl)
  try simp only [Act.put, List.setIfInBounds_toArray, List.set_cons_zero, List.set_cons_succ]
  refine takeY (i := 4) (d := some 7) (v := ?_) rfl rfl (by kernel_rfl) (by kernel_rfl) (by kernel_rfl) (fun _ _ _ h => h) (by rfl) ?_ hHeld ?_
  rotate_left
  · intro w9 hS9
    first | (go_simp; done) | (go_simp; with_reducible rfl)
  try simp only [Act.put, List.setIfInBounds_toArray, List.set_cons_zero, List.set_cons_succ]
  refine takeY (i := 5) (d := some 8) (v := ?_) rfl rfl (by kernel_rfl) (by kernel_rfl) (by kernel_rfl) (fun _ _ _ h => h) (by rfl) ?_ hHeld ?_
  rotate_left
  · intro w9 hS9
    obtain ⟨_, c0, c1, c2, c3, c4, c5⟩ := hS9
    first | (go_simp; done) | (go_simp; with_reducible rfl)
  try simp only [Act.put, List.setIfInBounds_toArray, List.set_cons_zero, List.set_cons_succ]
  refine takeY (i := 8) (d := some 11) (v := ?_) rfl rfl (by kernel_rfl) (by kernel_rfl) (by kernel_rfl) (fun _ _ _ h => h) (by rfl) ?_ hHeld ?_
  rotate_left
  · intro w9 hS9
    first | (go_simp; done) | (go_simp; with_reducible rfl)
  try simp only [Act.put, List.setIfInBounds_toArray, List.set_cons_zero, List.set_cons_succ]
  refine takeY (i := 9) (d := some 12) (v := ?_) rfl rfl (by kernel_rfl) (by kernel_rfl) (by kernel_rfl) (fun _ _ _ h => h) (by rfl) ?_ hHeld ?_
  rotate_left
  · intro w9 hS9
    obtain ⟨_, c0, c1, c2, c3, c4, c5⟩ := hS9
    first | (go_simp; done) | (go_simp; with_reducible rfl)
  try simp only [Act.put, List.setIfInBounds_toArray, List.set_cons_zero, List.set_cons_succ]
  refine wpAnyH_ready (rs := [6]) (by kernel_rfl) (by simp) ?_
  refine AllReadyH.cons rfl (fun K hK => ?_) AllReadyH.nil
  go_simp
  refine (TotOps_is (s := ⟨gA, gn, gc, gL⟩) Hq1.out _ (Ops.up HX.out.args HW0.out) (by omega)).mono ?_
  rintro x9 w1 ⟨rfl, hb0⟩
  have HW1 := hide (HW0.out.trans (hb0.mono HW0.out.size))
  clear hb0
  refine hK.out _ _ ⟨HW1.out, hc.out _ HW1.out⟩ (fun hHeld => ?_)
  clear hK K
  try simp only [Act.put, List.setIfInBounds_toArray, List.set_cons_zero, List.set_cons_succ]
  refine takeY (i := 7) (d := some 10) (v := ?_) rfl rfl (by kernel_rfl) (by kernel_rfl) (by kernel_rfl) (fun _ _ _ h => h) (by rfl) ?_ hHeld ?_
  rotate_left
  · intro w9 hS9
    first | (go_simp; done) | (go_simp; with_reducible rfl)
  try simp only [Act.put, List.setIfInBounds_toArray, List.set_cons_zero, List.set_cons_succ]
  refine wpAnyH_ready (rs := [10]) (by kernel_rfl) (by simp) ?_
  refine AllReadyH.cons rfl (fun K hK => ?_) AllReadyH.nil
  go_simp
  refine (PlaceN_is Hq2.out _ (HX.out.pl.up HW1.out) (by omega)).mono ?_
  rintro x9 w2 ⟨rfl, hb0⟩
  have HW2 := hide (HW1.out.trans (hb0.mono HW1.out.size))
  clear hb0
  refine hK.out _ _ ⟨HW2.out, hc.out _ HW2.out⟩ (fun hHeld => ?_)
  clear hK K
  try simp only [Act.put, List.setIfInBounds_toArray, List.set_cons_zero, List.set_cons_succ]
  refine takeY (i := 11) (d := some 14) (v := ?_) rfl rfl (by kernel_rfl) (by kernel_rfl) (by kernel_rfl) (fun _ _ _ h => h) (by rfl) ?_ hHeld ?_
  rotate_left
  · intro w9 hS9
    first | (go_simp; done) | (go_simp; with_reducible rfl)
  try simp only [Act.put, List.setIfInBounds_toArray, List.set_cons_zero, List.set_cons_succ]
  refine takeY (i := 12) (d := some 2) (v := ?_) rfl rfl (by kernel_rfl) (by kernel_rfl) (by kernel_rfl) (fun _ _ _ h => h) (by rfl) ?_ hHeld ?_
  rotate_left
  · intro w9 hS9
    first | (go_simp; done) | (go_simp; with_reducible rfl)
  try simp only [Act.put, List.setIfInBounds_toArray, List.set_cons_zero, List.set_cons_succ]
  refine wpAnyH_done (by kernel_rfl) ?_ _
  go_wp2
  go_ret
  exact ⟨congrArg (fun z : Int => Ending.returned (.int .i64 z)) (by have := HNN.out; omega), HB.out.trans (HW2.out.mono HB.out.size)⟩

end Go.Proofs.YtbdimnncobpfdaaGreat

/- The code's number of nodes. -/
set_option linter.unusedVariables false
set_option linter.unusedSimpArgs false
namespace Go.Proofs.YtbdimnncobpfdaaGreat
open Go.RowKit Go.Shelf

theorem StmtN2_is {x : StW} {N : Nat} (hN : stN x.v = N) (w : World) (hx : OneSt w w.heap.size x) (h : N ≤ 2 ^ 62) :
    Calls Tryz.prog 82 #[aggSt x] w fun e w' => e = .returned (.int .i64 (N : Int)) ∧ Below w.heap.size w w' :=
  StmtN_is (by rw [← hN]; unfold stN rvN StW.v RvW.v; simp only []; omega) w hx h
theorem TermN2_is {x : TmW} {N : Nat} (hN : tmN x.v = N) (w : World) (hx : OneTm w w.heap.size x) (h : N ≤ 2 ^ 62) :
    Calls Tryz.prog 83 #[aggTm x] w fun e w' => e = .returned (.int .i64 (N : Int)) ∧ Below w.heap.size w w' :=
  TermN_is (by have := hx.targets.len; rw [← hN]; unfold tmN TmW.v; simp only []; omega) w hx h
def tyN9 (t : Ty) : Nat := 1 + t.fields.length
def bkN9 (b : BkV) : Nat := 1 + bkN b
set_option maxHeartbeats 2000000 in
set_option maxRecDepth 100000 in
theorem TypeN_is {x : TyW} {N : Nat} (hN : 1 + x.n = N) (w : World) (hx : OneT w w.heap.size x) (h : N ≤ 2 ^ 62) :
    Calls Tryz.prog 48 #[aggT x] w fun e w' => e = .returned (.int .i64 (N : Int)) ∧ Below w.heap.size w w' := by
  have HB := hide (bx1_below w (c5 x) 51)
  have HX := hide (hx.up9 HB.out)
  clear hx
  obtain ⟨⟨k, m, r, el, fs⟩, A, n, c⟩ := x
  have hs := hide fun (w' : World) (h : Below (bx1 w (c5 ⟨⟨k, m, r, el, fs⟩, A, n, c⟩) 51).heap.size (bx1 w (c5 ⟨⟨k, m, r, el, fs⟩, A, n, c⟩) 51) w') => bx1_cells h
  have hNN : 1 + n = N := by rw [← hN]; try rfl
  have HNN := hide hNN
  have t0 : IntKind.i64.wrap (1 + (n : Int)) = 1 + (n : Int) := wrapI9 _ (by omega) (by omega)
  have hbd : 1 + n ≤ 2 ^ 62 := by omega
  clear hN h hNN 
  have hc := hide fun (w' : World) (h : Below (bx1 w (c5 ⟨⟨k, m, r, el, fs⟩, A, n, c⟩) 51).heap.size (bx1 w (c5 ⟨⟨k, m, r, el, fs⟩, A, n, c⟩) 51) w') => (show w'.cell? ⟨w.heap.size, 0, none⟩ = some (.int .i64 k) ∧ w'.cell? ⟨w.heap.size, 1, none⟩ = some (.bool m) ∧ w'.cell? ⟨w.heap.size, 2, none⟩ = some (.int .i64 r) ∧ w'.cell? ⟨w.heap.size, 3, none⟩ = some (.int .i64 el) ∧ w'.cell? ⟨w.heap.size, 4, none⟩ = some (.slice A n c) from ⟨hs.out _ h 0 _ rfl, hs.out _ h 1 _ rfl, hs.out _ h 2 _ rfl, hs.out _ h 3 _ rfl, hs.out _ h 4 _ rfl⟩)
  go_enter Tryz.func48, Tryz.ntmps48
  go_wp2
  go_ret
  exact ⟨congrArg (fun z : Int => Ending.returned (.int .i64 z)) (by have := HNN.out; omega), HB.out⟩

theorem TypeN2_is {x : TyW} {N : Nat} (hN : tyN9 x.t = N) (w : World) (hx : OneT w w.heap.size x) (h : N ≤ 2 ^ 62) :
    Calls Tryz.prog 48 #[aggT x] w fun e w' => e = .returned (.int .i64 (N : Int)) ∧ Below w.heap.size w w' :=
  TypeN_is (by have := hx.ok.len; rw [← hN]; unfold tyN9; omega) w hx h

theorem TotSts_is {s : SlW StW} {N : Nat} (hN : sumN stN (s.L.map StW.v) = N) (w : World) (hs : SlH w w.heap.size 11 cSt (OneSt w w.heap.size) s) (h : N ≤ 2 ^ 62) :
    Calls Tryz.prog 81 #[s.val, .func (.func 82) #[] #[]] w fun e w' => e = .returned (.int .i64 (N : Int)) ∧ Below w.heap.size w w' := by
  rw [sumN_map] at hN
  subst hN
  exact TotSt_any 82 (fun x => stN (StW.v x)) s w hs (enters_of Tryz.func82 (by kernel_rfl) rfl) h fun x hx w1 hb => StmtN2_is rfl w1 ((hs.all x hx).up hb) (Nat.le_trans (sumN_one (f := fun x => stN (StW.v x)) hx) h)

theorem TotTys_is {s : SlW TyW} {N : Nat} (hN : sumN tyN9 (s.L.map TyW.t) = N) (w : World) (hs : SlH w w.heap.size 5 c5 (OneT w w.heap.size) s) (h : N ≤ 2 ^ 62) :
    Calls Tryz.prog 47 #[s.val, .func (.func 48) #[] #[]] w fun e w' => e = .returned (.int .i64 (N : Int)) ∧ Below w.heap.size w w' := by
  rw [sumN_map] at hN
  subst hN
  exact TotTy_any 48 (fun x => tyN9 (TyW.t x)) s w hs (enters_of Tryz.func48 (by kernel_rfl) rfl) h fun x hx w1 hb => TypeN2_is rfl w1 ((hs.all x hx).up9 hb) (Nat.le_trans (sumN_one (f := fun x => tyN9 (TyW.t x)) hx) h)
set_option maxHeartbeats 2000000 in
set_option maxRecDepth 100000 in
theorem BlkN_is {x : BkW} {N : Nat} (hN : bkN9 x.v = N) (w : World) (hx : OneBk w w.heap.size x) (h : N ≤ 2 ^ 62) :
    Calls Tryz.prog 50 #[aggBk x] w fun e w' => e = .returned (.int .i64 (N : Int)) ∧ Below w.heap.size w w' := by
  have HB := hide (bx1_below w (cBk x) 44)
  have HX := hide (hx.up HB.out)
  clear hx
  obtain ⟨⟨sA, sn, sc, sL⟩, ⟨tk, ⟨tA, tn, tc, tL⟩, ⟨gA, gn, gc, gL⟩, ⟨l, A, n, c, ps⟩, nm⟩⟩ := x
  have hs := hide fun (w' : World) (h : Below (bx1 w (cBk ⟨⟨sA, sn, sc, sL⟩, ⟨tk, ⟨tA, tn, tc, tL⟩, ⟨gA, gn, gc, gL⟩, ⟨l, A, n, c, ps⟩, nm⟩⟩) 44).heap.size (bx1 w (cBk ⟨⟨sA, sn, sc, sL⟩, ⟨tk, ⟨tA, tn, tc, tL⟩, ⟨gA, gn, gc, gL⟩, ⟨l, A, n, c, ps⟩, nm⟩⟩) 44) w') => bx1_cells h
  obtain ⟨q1, hq1⟩ : ∃ q, sumN stN (sL.map StW.v) = q := ⟨_, rfl⟩
  have Hq1 := hide hq1
  obtain ⟨q2, hq2⟩ : ∃ q, tmN (TmW.v ⟨tk, ⟨tA, tn, tc, tL⟩, ⟨gA, gn, gc, gL⟩, ⟨l, A, n, c, ps⟩, nm⟩) = q := ⟨_, rfl⟩
  have Hq2 := hide hq2
  have hNN : 1 + q1 + q2 = N := by rw [← hN, ← hq1, ← hq2]; unfold bkN9 bkN BkW.v; simp only []; omega
  have HNN := hide hNN
  have t0 : IntKind.i64.wrap (1 + (q1 : Int)) = 1 + (q1 : Int) := wrapI9 _ (by omega) (by omega)
  have t1 : IntKind.i64.wrap (1 + (q1 : Int) + (q2 : Int)) = 1 + (q1 : Int) + (q2 : Int) := wrapI9 _ (by omega) (by omega)
  have hbd : 1 + q1 + q2 ≤ 2 ^ 62 := by omega
  clear hN h hNN hq1 hq2
  have hc := hide fun (w' : World) (h : Below (bx1 w (cBk ⟨⟨sA, sn, sc, sL⟩, ⟨tk, ⟨tA, tn, tc, tL⟩, ⟨gA, gn, gc, gL⟩, ⟨l, A, n, c, ps⟩, nm⟩⟩) 44).heap.size (bx1 w (cBk ⟨⟨sA, sn, sc, sL⟩, ⟨tk, ⟨tA, tn, tc, tL⟩, ⟨gA, gn, gc, gL⟩, ⟨l, A, n, c, ps⟩, nm⟩⟩) 44) w') => (show w'.cell? ⟨w.heap.size, 0, none⟩ = some (.slice sA sn sc) ∧ w'.cell? ⟨w.heap.size, 1, none⟩ = some (.int .i64 tk) ∧ w'.cell? ⟨w.heap.size, 2, none⟩ = some (.slice tA tn tc) ∧ w'.cell? ⟨w.heap.size, 3, none⟩ = some (.slice gA gn gc) ∧ w'.cell? ⟨w.heap.size, 4, none⟩ = some (.int .i64 l) ∧ w'.cell? ⟨w.heap.size, 5, none⟩ = some (.slice A n c) ∧ w'.cell? ⟨w.heap.size, 6, none⟩ = some (.string nm) from ⟨hs.out _ h 0 _ rfl, hs.out _ h 1 _ rfl, hs.out _ h 2 _ rfl, hs.out _ h 3 _ rfl, hs.out _ h 4 _ rfl, hs.out _ h 5 _ rfl, hs.out _ h 6 _ rfl⟩)
  go_enter Tryz.func50, Tryz.ntmps50
  have HW0 := hide (show Below (bx1 w (cBk ⟨⟨sA, sn, sc, sL⟩, ⟨tk, ⟨tA, tn, tc, tL⟩, ⟨gA, gn, gc, gL⟩, ⟨l, A, n, c, ps⟩, nm⟩⟩) 44).heap.size (bx1 w (cBk ⟨⟨sA, sn, sc, sL⟩, ⟨tk, ⟨tA, tn, tc, tL⟩, ⟨gA, gn, gc, gL⟩, ⟨l, A, n, c, ps⟩, nm⟩⟩) 44) (World.drew (bx1 w (cBk ⟨⟨sA, sn, sc, sL⟩, ⟨tk, ⟨tA, tn, tc, tL⟩, ⟨gA, gn, gc, gL⟩, ⟨l, A, n, c, ps⟩, nm⟩⟩) 44)) from (Below.refl _ _).drew)
  go_wp2
  change Code.wp _ _ _ _ (bx1 w (cBk ⟨⟨sA, sn, sc, sL⟩, ⟨tk, ⟨tA, tn, tc, tL⟩, ⟨gA, gn, gc, gL⟩, ⟨l, A, n, c, ps⟩, nm⟩⟩) 44)
  refine wp_region_held_drew (S := (fun w' => Below (bx1 w (cBk ⟨⟨sA, sn, sc, sL⟩, ⟨tk, ⟨tA, tn, tc, tL⟩, ⟨gA, gn, gc, gL⟩, ⟨l, A, n, c, ps⟩, nm⟩⟩) 44).heap.size (bx1 w (cBk ⟨⟨sA, sn, sc, sL⟩, ⟨tk, ⟨tA, tn, tc, tL⟩, ⟨gA, gn, gc, gL⟩, ⟨l, A, n, c, ps⟩, nm⟩⟩) 44) w' ∧ w'.cell? ⟨w.heap.size, 0, none⟩ = some (.slice sA sn sc) ∧ w'.cell? ⟨w.heap.size, 1, none⟩ = some (.int .i64 tk) ∧ w'.cell? ⟨w.heap.size, 2, none⟩ = some (.slice tA tn tc) ∧ w'.cell? ⟨w.heap.size, 3, none⟩ = some (.slice gA gn gc) ∧ w'.cell? ⟨w.heap.size, 4, none⟩ = some (.int .i64 l) ∧ w'.cell? ⟨w.heap.size, 5, none⟩ = some (.slice A n c) ∧ w'.cell? ⟨w.heap.size, 6, none⟩ = some (.string nm))) (by kernel_rfl) ⟨HW0.out, hc.out _ HW0.out⟩ (fun hHeld => ?_)
  refine takeY (i := 0) (d := some 3) (v := ?_) rfl rfl (by kernel_rfl) (by kernel_rfl) (by kernel_rfl) (fun _ _ _ h => h) (by rfl) ?_ hHeld ?_
  rotate_left
  · intro w9 hS9
    first | (go_simp; done) | (go_simp; with_reducible rfl)
  try simp only [Act.put, List.setIfInBounds_toArray, List.set_cons_zero, List.set_cons_succ]
  refine takeY (i := 1) (d := some 4) (v := ?_) rfl rfl (by kernel_rfl) (by kernel_rfl) (by kernel_rfl) (fun _ _ _ h => h) (by rfl) ?_ hHeld ?_
  rotate_left
  · intro w9 hS9
    obtain ⟨_, c0, c1, c2, c3, c4, c5, c6⟩ := hS9
    first | (go_simp; done) | (go_simp; with_reducible rfl)
  try simp only [Act.put, List.setIfInBounds_toArray, List.set_cons_zero, List.set_cons_succ]
  refine takeY (i := 4) (d := some 7) (v := ?_) rfl rfl (by kernel_rfl) (by kernel_rfl) (by kernel_rfl) (fun _ _ _ h => h) (by rfl) ?_ hHeld ?_
  rotate_left
  · intro w9 hS9
    first | (go_simp; done) | (go_simp; with_reducible rfl)
  try simp only [Act.put, List.setIfInBounds_toArray, List.set_cons_zero, List.set_cons_succ]
  refine takeY (i := 5) (d := some 8) (v := ?_) rfl rfl (by kernel_rfl) (by kernel_rfl) (by kernel_rfl) (fun _ _ _ h => h) (by rfl) ?_ hHeld ?_
  rotate_left
  · intro w9 hS9
    obtain ⟨_, c0, c1, c2, c3, c4, c5, c6⟩ := hS9
    first | (go_simp; done) | (go_simp; with_reducible rfl)
  try simp only [Act.put, List.setIfInBounds_toArray, List.set_cons_zero, List.set_cons_succ]
  refine wpAnyH_ready (rs := [2]) (by kernel_rfl) (by simp) ?_
  refine AllReadyH.cons rfl (fun K hK => ?_) AllReadyH.nil
  go_simp
  refine (TotSts_is (s := ⟨sA, sn, sc, sL⟩) Hq1.out _ (Sts.up HX.out.stmts HW0.out) (by omega)).mono ?_
  rintro x9 w1 ⟨rfl, hb0⟩
  have HW1 := hide (HW0.out.trans (hb0.mono HW0.out.size))
  clear hb0
  refine hK.out _ _ ⟨HW1.out, hc.out _ HW1.out⟩ (fun hHeld => ?_)
  clear hK K
  try simp only [Act.put, List.setIfInBounds_toArray, List.set_cons_zero, List.set_cons_succ]
  refine takeY (i := 3) (d := some 6) (v := ?_) rfl rfl (by kernel_rfl) (by kernel_rfl) (by kernel_rfl) (fun _ _ _ h => h) (by rfl) ?_ hHeld ?_
  rotate_left
  · intro w9 hS9
    first | (go_simp; done) | (go_simp; with_reducible rfl)
  try simp only [Act.put, List.setIfInBounds_toArray, List.set_cons_zero, List.set_cons_succ]
  refine wpAnyH_ready (rs := [6]) (by kernel_rfl) (by simp) ?_
  refine AllReadyH.cons rfl (fun K hK => ?_) AllReadyH.nil
  go_simp
  refine (TermN2_is (x := ⟨tk, ⟨tA, tn, tc, tL⟩, ⟨gA, gn, gc, gL⟩, ⟨l, A, n, c, ps⟩, nm⟩) Hq2.out _ (HX.out.term.up HW1.out) (by omega)).mono ?_
  rintro x9 w2 ⟨rfl, hb0⟩
  have HW2 := hide (HW1.out.trans (hb0.mono HW1.out.size))
  clear hb0
  refine hK.out _ _ ⟨HW2.out, hc.out _ HW2.out⟩ (fun hHeld => ?_)
  clear hK K
  try simp only [Act.put, List.setIfInBounds_toArray, List.set_cons_zero, List.set_cons_succ]
  refine takeY (i := 7) (d := some 10) (v := ?_) rfl rfl (by kernel_rfl) (by kernel_rfl) (by kernel_rfl) (fun _ _ _ h => h) (by rfl) ?_ hHeld ?_
  rotate_left
  · intro w9 hS9
    first | (go_simp; done) | (go_simp; with_reducible rfl)
  try simp only [Act.put, List.setIfInBounds_toArray, List.set_cons_zero, List.set_cons_succ]
  refine takeY (i := 8) (d := some 2) (v := ?_) rfl rfl (by kernel_rfl) (by kernel_rfl) (by kernel_rfl) (fun _ _ _ h => h) (by rfl) ?_ hHeld ?_
  rotate_left
  · intro w9 hS9
    first | (go_simp; done) | (go_simp; with_reducible rfl)
  try simp only [Act.put, List.setIfInBounds_toArray, List.set_cons_zero, List.set_cons_succ]
  refine wpAnyH_done (by kernel_rfl) ?_ _
  go_wp2
  go_ret
  exact ⟨congrArg (fun z : Int => Ending.returned (.int .i64 z)) (by have := HNN.out; omega), HB.out.trans (HW2.out.mono HB.out.size)⟩

theorem TotBks_is {s : SlW BkW} {N : Nat} (hN : sumN bkN9 (s.L.map BkW.v) = N) (w : World) (hs : SlH w w.heap.size 7 cBk (OneBk w w.heap.size) s) (h : N ≤ 2 ^ 62) :
    Calls Tryz.prog 49 #[s.val, .func (.func 50) #[] #[]] w fun e w' => e = .returned (.int .i64 (N : Int)) ∧ Below w.heap.size w w' := by
  rw [sumN_map] at hN
  subst hN
  exact TotBk_any 50 (fun x => bkN9 (BkW.v x)) s w hs (enters_of Tryz.func50 (by kernel_rfl) rfl) h fun x hx w1 hb => BlkN_is rfl w1 ((hs.all x hx).up hb) (Nat.le_trans (sumN_one (f := fun x => bkN9 (BkW.v x)) hx) h)
set_option maxHeartbeats 2000000 in
set_option maxRecDepth 100000 in
theorem Nodes_is {x : BdW} {N : Nat} (hN : bdN x.v = N) (w : World) (hx : OneBd w w.heap.size x) (h : N ≤ 2 ^ 62) :
    Calls Tryz.prog 18 #[aggBd x] w fun e w' => e = .returned (.int .i64 (N : Int)) ∧ Below w.heap.size w w' := by
  have HB := hide (bx1_below w (cBd x) 28)
  have HX := hide (hx.up HB.out)
  have HRL := hide hx.regions.len
  have HOL := hide hx.outl.len
  have HLL := hide hx.locals.len
  have HTL := hide hx.types.len
  have HBL := hide hx.blocks.len
  clear hx
  obtain ⟨nm, ⟨rA, rn, rc, rL⟩, ⟨oA, on, oc, oL⟩, ⟨tA, tn, tc, tL⟩, ⟨lA, ln, lc, lL⟩, ar, ⟨bA, bn, bc, bL⟩⟩ := x
  have hs := hide fun (w' : World) (h : Below (bx1 w (cBd ⟨nm, ⟨rA, rn, rc, rL⟩, ⟨oA, on, oc, oL⟩, ⟨tA, tn, tc, tL⟩, ⟨lA, ln, lc, lL⟩, ar, ⟨bA, bn, bc, bL⟩⟩) 28).heap.size (bx1 w (cBd ⟨nm, ⟨rA, rn, rc, rL⟩, ⟨oA, on, oc, oL⟩, ⟨tA, tn, tc, tL⟩, ⟨lA, ln, lc, lL⟩, ar, ⟨bA, bn, bc, bL⟩⟩) 28) w') => bx1_cells h
  obtain ⟨q1, hq1⟩ : ∃ q, sumN tyN9 (tL.map TyW.t) = q := ⟨_, rfl⟩
  have Hq1 := hide hq1
  obtain ⟨q2, hq2⟩ : ∃ q, sumN bkN9 (bL.map BkW.v) = q := ⟨_, rfl⟩
  have Hq2 := hide hq2
  have hNN : 1 + rn + on + ln + q1 + q2 = N := by
    rw [← hN, ← hq1, ← hq2]
    have e1 := sumN_succ (fun t : Ty => t.fields.length) (tL.map TyW.t)
    have e2 := sumN_succ bkN (bL.map BkW.v)
    have l1 := HRL.out
    have l2 := HOL.out
    have l3 := HLL.out
    have l4 := HTL.out
    have l5 := HBL.out
    simp only [List.length_map] at e1 e2 l1 l2 l3 l4 l5
    unfold tyN9 bkN9 bdN bdN0 BdW.v tys
    simp only [List.length_map]
    rw [show sumN (fun t : Ty => 1 + t.fields.length) (tL.map TyW.t) = _ from e1, show sumN (fun b : BkV => 1 + bkN b) (bL.map BkW.v) = _ from e2]
    omega
  have HNN := hide hNN
  have t0 : IntKind.i64.wrap (1 + (rn : Int)) = 1 + (rn : Int) := wrapI9 _ (by omega) (by omega)
  have t1 : IntKind.i64.wrap (1 + (rn : Int) + (on : Int)) = 1 + (rn : Int) + (on : Int) := wrapI9 _ (by omega) (by omega)
  have t2 : IntKind.i64.wrap (1 + (rn : Int) + (on : Int) + (ln : Int)) = 1 + (rn : Int) + (on : Int) + (ln : Int) := wrapI9 _ (by omega) (by omega)
  have t3 : IntKind.i64.wrap (1 + (rn : Int) + (on : Int) + (ln : Int) + (q1 : Int)) = 1 + (rn : Int) + (on : Int) + (ln : Int) + (q1 : Int) := wrapI9 _ (by omega) (by omega)
  have t4 : IntKind.i64.wrap (1 + (rn : Int) + (on : Int) + (ln : Int) + (q1 : Int) + (q2 : Int)) = 1 + (rn : Int) + (on : Int) + (ln : Int) + (q1 : Int) + (q2 : Int) := wrapI9 _ (by omega) (by omega)
  have hbd : 1 + rn + on + ln + q1 + q2 ≤ 2 ^ 62 := by omega
  clear hN h hNN hq1 hq2
  have hc := hide fun (w' : World) (h : Below (bx1 w (cBd ⟨nm, ⟨rA, rn, rc, rL⟩, ⟨oA, on, oc, oL⟩, ⟨tA, tn, tc, tL⟩, ⟨lA, ln, lc, lL⟩, ar, ⟨bA, bn, bc, bL⟩⟩) 28).heap.size (bx1 w (cBd ⟨nm, ⟨rA, rn, rc, rL⟩, ⟨oA, on, oc, oL⟩, ⟨tA, tn, tc, tL⟩, ⟨lA, ln, lc, lL⟩, ar, ⟨bA, bn, bc, bL⟩⟩) 28) w') => (show w'.cell? ⟨w.heap.size, 0, none⟩ = some (.string nm) ∧ w'.cell? ⟨w.heap.size, 1, none⟩ = some (.slice rA rn rc) ∧ w'.cell? ⟨w.heap.size, 2, none⟩ = some (.slice oA on oc) ∧ w'.cell? ⟨w.heap.size, 3, none⟩ = some (.slice tA tn tc) ∧ w'.cell? ⟨w.heap.size, 4, none⟩ = some (.slice lA ln lc) ∧ w'.cell? ⟨w.heap.size, 5, none⟩ = some (.int .i64 ar) ∧ w'.cell? ⟨w.heap.size, 6, none⟩ = some (.slice bA bn bc) from ⟨hs.out _ h 0 _ rfl, hs.out _ h 1 _ rfl, hs.out _ h 2 _ rfl, hs.out _ h 3 _ rfl, hs.out _ h 4 _ rfl, hs.out _ h 5 _ rfl, hs.out _ h 6 _ rfl⟩)
  go_enter Tryz.func18, Tryz.ntmps18
  have HW0 := hide (show Below (bx1 w (cBd ⟨nm, ⟨rA, rn, rc, rL⟩, ⟨oA, on, oc, oL⟩, ⟨tA, tn, tc, tL⟩, ⟨lA, ln, lc, lL⟩, ar, ⟨bA, bn, bc, bL⟩⟩) 28).heap.size (bx1 w (cBd ⟨nm, ⟨rA, rn, rc, rL⟩, ⟨oA, on, oc, oL⟩, ⟨tA, tn, tc, tL⟩, ⟨lA, ln, lc, lL⟩, ar, ⟨bA, bn, bc, bL⟩⟩) 28) (World.drew (bx1 w (cBd ⟨nm, ⟨rA, rn, rc, rL⟩, ⟨oA, on, oc, oL⟩, ⟨tA, tn, tc, tL⟩, ⟨lA, ln, lc, lL⟩, ar, ⟨bA, bn, bc, bL⟩⟩) 28)) from (Below.refl _ _).drew)
  go_wp2
  change Code.wp _ _ _ _ (bx1 w (cBd ⟨nm, ⟨rA, rn, rc, rL⟩, ⟨oA, on, oc, oL⟩, ⟨tA, tn, tc, tL⟩, ⟨lA, ln, lc, lL⟩, ar, ⟨bA, bn, bc, bL⟩⟩) 28)
  refine wp_region_held_drew (S := (fun w' => Below (bx1 w (cBd ⟨nm, ⟨rA, rn, rc, rL⟩, ⟨oA, on, oc, oL⟩, ⟨tA, tn, tc, tL⟩, ⟨lA, ln, lc, lL⟩, ar, ⟨bA, bn, bc, bL⟩⟩) 28).heap.size (bx1 w (cBd ⟨nm, ⟨rA, rn, rc, rL⟩, ⟨oA, on, oc, oL⟩, ⟨tA, tn, tc, tL⟩, ⟨lA, ln, lc, lL⟩, ar, ⟨bA, bn, bc, bL⟩⟩) 28) w' ∧ w'.cell? ⟨w.heap.size, 0, none⟩ = some (.string nm) ∧ w'.cell? ⟨w.heap.size, 1, none⟩ = some (.slice rA rn rc) ∧ w'.cell? ⟨w.heap.size, 2, none⟩ = some (.slice oA on oc) ∧ w'.cell? ⟨w.heap.size, 3, none⟩ = some (.slice tA tn tc) ∧ w'.cell? ⟨w.heap.size, 4, none⟩ = some (.slice lA ln lc) ∧ w'.cell? ⟨w.heap.size, 5, none⟩ = some (.int .i64 ar) ∧ w'.cell? ⟨w.heap.size, 6, none⟩ = some (.slice bA bn bc))) (by kernel_rfl) ⟨HW0.out, hc.out _ HW0.out⟩ (fun hHeld => ?_)
  refine takeY (i := 0) (d := some 3) (v := ?_) rfl rfl (by kernel_rfl) (by kernel_rfl) (by kernel_rfl) (fun _ _ _ h => h) (by rfl) ?_ hHeld ?_
  rotate_left
  · intro w9 hS9
    first | (go_simp; done) | (go_simp; with_reducible rfl)
  try simp only [Act.put, List.setIfInBounds_toArray, List.set_cons_zero, List.set_cons_succ]
  refine takeY (i := 1) (d := some 4) (v := ?_) rfl rfl (by kernel_rfl) (by kernel_rfl) (by kernel_rfl) (fun _ _ _ h => h) (by rfl) ?_ hHeld ?_
  rotate_left
  · intro w9 hS9
    obtain ⟨_, c0, c1, c2, c3, c4, c5, c6⟩ := hS9
    first | (go_simp; done) | (go_simp; with_reducible rfl)
  try simp only [Act.put, List.setIfInBounds_toArray, List.set_cons_zero, List.set_cons_succ]
  refine takeY (i := 2) (d := some 5) (v := ?_) rfl rfl (by kernel_rfl) (by kernel_rfl) (by kernel_rfl) (fun _ _ _ h => h) (by rfl) ?_ hHeld ?_
  rotate_left
  · intro w9 hS9
    first | (go_simp; done) | (go_simp; with_reducible rfl)
  try simp only [Act.put, List.setIfInBounds_toArray, List.set_cons_zero, List.set_cons_succ]
  refine takeY (i := 3) (d := some 6) (v := ?_) rfl rfl (by kernel_rfl) (by kernel_rfl) (by kernel_rfl) (fun _ _ _ h => h) (by rfl) ?_ hHeld ?_
  rotate_left
  · intro w9 hS9
    first | (go_simp; done) | (go_simp; with_reducible rfl)
  try simp only [Act.put, List.setIfInBounds_toArray, List.set_cons_zero, List.set_cons_succ]
  refine takeY (i := 4) (d := some 7) (v := ?_) rfl rfl (by kernel_rfl) (by kernel_rfl) (by kernel_rfl) (fun _ _ _ h => h) (by rfl) ?_ hHeld ?_
  rotate_left
  · intro w9 hS9
    first | (go_simp; done) | (go_simp; with_reducible rfl)
  try simp only [Act.put, List.setIfInBounds_toArray, List.set_cons_zero, List.set_cons_succ]
  refine takeY (i := 5) (d := some 8) (v := ?_) rfl rfl (by kernel_rfl) (by kernel_rfl) (by kernel_rfl) (fun _ _ _ h => h) (by rfl) ?_ hHeld ?_
  rotate_left
  · intro w9 hS9
    obtain ⟨_, c0, c1, c2, c3, c4, c5, c6⟩ := hS9
    first | (go_simp; done) | (go_simp; with_reducible rfl)
  try simp only [Act.put, List.setIfInBounds_toArray, List.set_cons_zero, List.set_cons_succ]
  refine takeY (i := 6) (d := some 9) (v := ?_) rfl rfl (by kernel_rfl) (by kernel_rfl) (by kernel_rfl) (fun _ _ _ h => h) (by rfl) ?_ hHeld ?_
  rotate_left
  · intro w9 hS9
    first | (go_simp; done) | (go_simp; with_reducible rfl)
  try simp only [Act.put, List.setIfInBounds_toArray, List.set_cons_zero, List.set_cons_succ]
  refine takeY (i := 7) (d := some 10) (v := ?_) rfl rfl (by kernel_rfl) (by kernel_rfl) (by kernel_rfl) (fun _ _ _ h => h) (by rfl) ?_ hHeld ?_
  rotate_left
  · intro w9 hS9
    first | (go_simp; done) | (go_simp; with_reducible rfl)
  try simp only [Act.put, List.setIfInBounds_toArray, List.set_cons_zero, List.set_cons_succ]
  refine takeY (i := 8) (d := some 11) (v := ?_) rfl rfl (by kernel_rfl) (by kernel_rfl) (by kernel_rfl) (fun _ _ _ h => h) (by rfl) ?_ hHeld ?_
  rotate_left
  · intro w9 hS9
    first | (go_simp; done) | (go_simp; with_reducible rfl)
  try simp only [Act.put, List.setIfInBounds_toArray, List.set_cons_zero, List.set_cons_succ]
  refine takeY (i := 9) (d := some 12) (v := ?_) rfl rfl (by kernel_rfl) (by kernel_rfl) (by kernel_rfl) (fun _ _ _ h => h) (by rfl) ?_ hHeld ?_
  rotate_left
  · intro w9 hS9
    obtain ⟨_, c0, c1, c2, c3, c4, c5, c6⟩ := hS9
    first | (go_simp; done) | (go_simp; with_reducible rfl)
  try simp only [Act.put, List.setIfInBounds_toArray, List.set_cons_zero, List.set_cons_succ]
  refine takeY (i := 10) (d := some 13) (v := ?_) rfl rfl (by kernel_rfl) (by kernel_rfl) (by kernel_rfl) (fun _ _ _ h => h) (by rfl) ?_ hHeld ?_
  rotate_left
  · intro w9 hS9
    first | (go_simp; done) | (go_simp; with_reducible rfl)
  try simp only [Act.put, List.setIfInBounds_toArray, List.set_cons_zero, List.set_cons_succ]
  refine takeY (i := 11) (d := some 14) (v := ?_) rfl rfl (by kernel_rfl) (by kernel_rfl) (by kernel_rfl) (fun _ _ _ h => h) (by rfl) ?_ hHeld ?_
  rotate_left
  · intro w9 hS9
    first | (go_simp; done) | (go_simp; with_reducible rfl)
  try simp only [Act.put, List.setIfInBounds_toArray, List.set_cons_zero, List.set_cons_succ]
  refine takeY (i := 12) (d := some 15) (v := ?_) rfl rfl (by kernel_rfl) (by kernel_rfl) (by kernel_rfl) (fun _ _ _ h => h) (by rfl) ?_ hHeld ?_
  rotate_left
  · intro w9 hS9
    first | (go_simp; done) | (go_simp; with_reducible rfl)
  try simp only [Act.put, List.setIfInBounds_toArray, List.set_cons_zero, List.set_cons_succ]
  refine takeY (i := 13) (d := some 16) (v := ?_) rfl rfl (by kernel_rfl) (by kernel_rfl) (by kernel_rfl) (fun _ _ _ h => h) (by rfl) ?_ hHeld ?_
  rotate_left
  · intro w9 hS9
    obtain ⟨_, c0, c1, c2, c3, c4, c5, c6⟩ := hS9
    first | (go_simp; done) | (go_simp; with_reducible rfl)
  try simp only [Act.put, List.setIfInBounds_toArray, List.set_cons_zero, List.set_cons_succ]
  refine takeY (i := 16) (d := some 19) (v := ?_) rfl rfl (by kernel_rfl) (by kernel_rfl) (by kernel_rfl) (fun _ _ _ h => h) (by rfl) ?_ hHeld ?_
  rotate_left
  · intro w9 hS9
    first | (go_simp; done) | (go_simp; with_reducible rfl)
  try simp only [Act.put, List.setIfInBounds_toArray, List.set_cons_zero, List.set_cons_succ]
  refine takeY (i := 17) (d := some 20) (v := ?_) rfl rfl (by kernel_rfl) (by kernel_rfl) (by kernel_rfl) (fun _ _ _ h => h) (by rfl) ?_ hHeld ?_
  rotate_left
  · intro w9 hS9
    obtain ⟨_, c0, c1, c2, c3, c4, c5, c6⟩ := hS9
    first | (go_simp; done) | (go_simp; with_reducible rfl)
  try simp only [Act.put, List.setIfInBounds_toArray, List.set_cons_zero, List.set_cons_succ]
  refine wpAnyH_ready (rs := [14]) (by kernel_rfl) (by simp) ?_
  refine AllReadyH.cons rfl (fun K hK => ?_) AllReadyH.nil
  go_simp
  refine (TotTys_is (s := ⟨tA, tn, tc, tL⟩) Hq1.out _ (Tys2.up HX.out.types HW0.out) (by omega)).mono ?_
  rintro x9 w1 ⟨rfl, hb0⟩
  have HW1 := hide (HW0.out.trans (hb0.mono HW0.out.size))
  clear hb0
  refine hK.out _ _ ⟨HW1.out, hc.out _ HW1.out⟩ (fun hHeld => ?_)
  clear hK K
  try simp only [Act.put, List.setIfInBounds_toArray, List.set_cons_zero, List.set_cons_succ]
  refine takeY (i := 15) (d := some 18) (v := ?_) rfl rfl (by kernel_rfl) (by kernel_rfl) (by kernel_rfl) (fun _ _ _ h => h) (by rfl) ?_ hHeld ?_
  rotate_left
  · intro w9 hS9
    first | (go_simp; done) | (go_simp; with_reducible rfl)
  try simp only [Act.put, List.setIfInBounds_toArray, List.set_cons_zero, List.set_cons_succ]
  refine wpAnyH_ready (rs := [18]) (by kernel_rfl) (by simp) ?_
  refine AllReadyH.cons rfl (fun K hK => ?_) AllReadyH.nil
  go_simp
  refine (TotBks_is (s := ⟨bA, bn, bc, bL⟩) Hq2.out _ (Bks2.up HX.out.blocks HW1.out) (by omega)).mono ?_
  rintro x9 w2 ⟨rfl, hb0⟩
  have HW2 := hide (HW1.out.trans (hb0.mono HW1.out.size))
  clear hb0
  refine hK.out _ _ ⟨HW2.out, hc.out _ HW2.out⟩ (fun hHeld => ?_)
  clear hK K
  try simp only [Act.put, List.setIfInBounds_toArray, List.set_cons_zero, List.set_cons_succ]
  refine takeY (i := 19) (d := some 22) (v := ?_) rfl rfl (by kernel_rfl) (by kernel_rfl) (by kernel_rfl) (fun _ _ _ h => h) (by rfl) ?_ hHeld ?_
  rotate_left
  · intro w9 hS9
    first | (go_simp; done) | (go_simp; with_reducible rfl)
  try simp only [Act.put, List.setIfInBounds_toArray, List.set_cons_zero, List.set_cons_succ]
  refine takeY (i := 20) (d := some 2) (v := ?_) rfl rfl (by kernel_rfl) (by kernel_rfl) (by kernel_rfl) (fun _ _ _ h => h) (by rfl) ?_ hHeld ?_
  rotate_left
  · intro w9 hS9
    first | (go_simp; done) | (go_simp; with_reducible rfl)
  try simp only [Act.put, List.setIfInBounds_toArray, List.set_cons_zero, List.set_cons_succ]
  refine wpAnyH_done (by kernel_rfl) ?_ _
  go_wp2
  go_ret
  exact ⟨congrArg (fun z : Int => Ending.returned (.int .i64 z)) (by have := HNN.out; omega), HB.out.trans (HW2.out.mono HB.out.size)⟩

end Go.Proofs.YtbdimnncobpfdaaGreat
