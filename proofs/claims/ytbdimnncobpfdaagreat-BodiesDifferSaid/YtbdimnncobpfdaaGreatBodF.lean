/- The code's comparison of lists by a function: slices.EqualFunc, list.equals, plain. -/
import Derived.Test.YtbdimnncobpfdaaGreatBodE
import Derived.Laws.EntriesVeiled
import Derived.Shelf.Abstract
set_option linter.unusedVariables false
namespace Go.Proofs.YtbdimnncobpfdaaGreat
open Go.RowKit Go.Shelf

/-- how its elements are compared -/
def CmpStr (K : FuncId) (s t : SlW ByteArray) (w : World) : Prop := ∀ x ∈ s.L, ∀ y ∈ t.L, ∀ w1, Below w.heap.size w w1 → Calls Tryz.prog K #[.string x, .string y] w1 fun e w2 => e = .returned (.bool (decide (x = y))) ∧ Below w1.heap.size w1 w2
set_option maxHeartbeats 1000000 in
set_option maxRecDepth 100000 in
theorem EqFStr_any (K : FuncId) (s t : SlW ByteArray) (w : World) (hs : SlH w w.heap.size 1 cStr (fun x => x.size ≤ maxLen) s) (ht : SlH w w.heap.size 1 cStr (fun x => x.size ≤ maxLen) t) (hE : Enters Tryz.prog K) (hK : CmpStr K s t w) :
    Calls Tryz.prog 66 #[s.val, t.val, .func (.func K) #[] #[]] w fun e w' => e = .returned (.bool (eqL s.L t.L)) ∧ Below w.heap.size w w' := by
  have HX := hide hs
  have HY := hide ht
  have HXL := hide hs.len
  have HYL := hide ht.len
  have HK := hide hK
  have hn := hs.nm
  have hm := ht.nm
  obtain ⟨A, n, c, xs⟩ := s
  obtain ⟨B, m, d, ys⟩ := t
  simp only [] at hn hm
  unfold maxLen at hn hm
  clear hs ht hK
  have en := hE
  unfold Enters at en
  show Calls Tryz.prog 66 #[.slice A n c, .slice B m d, .func (.func K) #[] #[]] w _
  by_cases hnm : n = m
  · subst hnm
    go_enter Tryz.func66, Tryz.ntmps66
    go_wp2
    go_loopw [17] (fun i wr => ∃ j : Nat, i = .int .i64 (j : Int) ∧ j ≤ n ∧ Hid (eqLto id xs ys j) ∧ Below w.heap.size w wr) (fun i _ => n - (intOf i).toNat)
    case atStart => exact ⟨0, rfl, Nat.zero_le _, hide (eqLto_zero _ _ _), Below.refl _ _⟩
    case round =>
      obtain ⟨j, rfl, hj, HE, hb⟩ := hrel
      have HB := hide hb
      clear hb
      by_cases hlt : j < n
      · obtain ⟨p, hp⟩ := HX.out.get hlt
        obtain ⟨q, hq⟩ := HY.out.get hlt
        obtain ⟨g, o, hA, hg, _, cz⟩ := HX.out.at_ hp
        obtain ⟨g', o', hA', hg', _, dz⟩ := HY.out.at_ hq
        simp only [] at hA hA'
        subst hA
        subst hA'
        have hlt' : (j : Int) < (n : Int) := by omega
        have HBQ := HB
        have c0 : wr.cell? ⟨g, o + j, none⟩ = some (.string p) := (HB.out.cell hg).trans (by simpa using cz 0 _ rfl)
        have d0 : wr.cell? ⟨g', o' + j, none⟩ = some (.string q) := (HB.out.cell hg').trans (by simpa using dz 0 _ rfl)
        have HP := hide hp
        have HQ := hide hq
        have HC := hide (HK.out p (List.mem_of_getElem? hp) q (List.mem_of_getElem? hq))
        clear hp hq cz dz
        by_cases hab : p = q
        · have HE2 := hide (eqLto_up HE.out HP.out HQ.out hab)
          have HD := hide (decide_eq_true hab)
          clear hab
          go_wp2_with fail
          try go_at_fn K
          refine (HC.out _ HBQ.out).mono ?_
          rintro e w1 ⟨rfl, hb0⟩
          have HB2 := hide (HBQ.out.trans (hb0.mono HBQ.out.size))
          rw [HD.out]
          clear hb0
          go_wp2_with fail
          go_roundw
          case rel => exact ⟨j + 1, by go_num, by omega, HE2, HB2.out⟩
          case measure => simp [intOf]; omega
        · have HF := hide (eqL_noI HP.out HQ.out hab)
          have HD := hide (decide_eq_false hab)
          clear hab
          go_wp2_with fail
          try go_at_fn K
          refine (HC.out _ HBQ.out).mono ?_
          rintro e w1 ⟨rfl, hb0⟩
          have HB2 := hide (HBQ.out.trans (hb0.mono HBQ.out.size))
          rw [HD.out]
          clear hb0
          go_wp2_with fail
          go_ret
          exact ⟨congrArg (fun v => Ending.returned (.bool v)) HF.out.symm, HB2.out⟩
      · obtain rfl : j = n := by omega
        have HF := hide (eqL_yesI HE.out HXL.out HYL.out)
        go_wp2
        go_ret
        exact ⟨congrArg (fun v => Ending.returned (.bool v)) HF.out.symm, HB.out⟩
  · have e1 : ((n : Int) != (m : Int)) = true := by simp; omega
    have HF := hide (eqL_lenI HXL.out HYL.out hnm)
    go_enter Tryz.func66, Tryz.ntmps66
    go_wp2
    go_ret
    exact ⟨congrArg (fun v => Ending.returned (.bool v)) HF.out.symm, Below.refl _ _⟩

set_option maxHeartbeats 1000000 in
set_option maxRecDepth 100000 in
theorem EqsStr_any (K : FuncId) (s t : SlW ByteArray) (w : World) (hs : SlH w w.heap.size 1 cStr (fun x => x.size ≤ maxLen) s) (ht : SlH w w.heap.size 1 cStr (fun x => x.size ≤ maxLen) t) (hE : Enters Tryz.prog K) (hK : CmpStr K s t w) :
    Calls Tryz.prog 27 #[.agg #[s.val, .func (.func K) #[] #[]], t.val] w fun e w' => e = .returned (.bool (eqL s.L t.L)) ∧ Below w.heap.size w w' := by
  have hb : Below w.heap.size w (w.alloc (.cells #[s.val, .func (.func K) #[] #[]] 62)) := (Below.refl _ w).alloc (Nat.le_refl _) _
  have HC := hide (EqFStr_any K s t _ ((hs.below hb fun _ h => h).more hb.size fun _ h => h) ((ht.below hb fun _ h => h).more hb.size fun _ h => h) hE (fun x hx y hy w1 h1 => hK x hx y hy w1 (hb.trans (h1.mono hb.size))))
  have HB := hide hb
  clear hb hs ht hK hE
  obtain ⟨A, n, c, xs⟩ := s
  obtain ⟨B, m, d, ys⟩ := t
  show Calls Tryz.prog 27 #[.agg #[.slice A n c, .func (.func K) #[] #[]], .slice B m d] w _
  obtain ⟨v, hv⟩ : ∃ v, eqL xs ys = v := ⟨_, rfl⟩
  have HC2 := hide (show _ from hv ▸ HC.out)
  rw [show eqL (SlW.mk A n c xs).L (SlW.mk B m d ys).L = v from hv]
  clear hv HC
  go_enter Tryz.func27, Tryz.ntmps27
  go_wp2_with fail
  refine HC2.out.mono ?_
  rintro e w1 ⟨rfl, hb0⟩
  have HB2 := hide (HB.out.trans (hb0.mono HB.out.size))
  clear hb0
  go_wp2_with fail
  go_ret
  exact ⟨rfl, HB2.out⟩


theorem PlainStr_any (s : SlW ByteArray) (w : World) :
    Calls Tryz.prog 26 #[s.val] w fun e w' => e = .returned (.agg #[s.val, .func (.func 65) #[] #[]]) ∧ Below w.heap.size w w' := by
  have HB := hide ((Below.refl _ w).alloc (Nat.le_refl _) (.cells #[s.val, .func (.func 65) #[] #[]] 62))
  obtain ⟨A, n, c, xs⟩ := s
  show Calls Tryz.prog 26 #[.slice A n c] w _
  go_enter Tryz.func26, Tryz.ntmps26
  go_wp2
  refine bodyPost_ret (results_cell_row rfl _ _ w.heap.size _ #[.slice A n c, .func (.func 65) #[] #[]] (0, 0) _ rfl (heap_alloc_new w _) Tryz.underlying62 rfl (by kernel_rfl)) rfl ⟨rfl, HB.out⟩
set_option maxHeartbeats 1000000 in
theorem CmpStr_plain (x y : ByteArray) (w : World) :
    Calls Tryz.prog 65 #[.string x, .string y] w fun e w' => e = .returned (.bool (decide (x = y))) ∧ Below w.heap.size w w' := by
  by_cases h : x = y
  · subst h
    rw [decide_eq_true rfl]
    go_enter Tryz.func65, Tryz.ntmps65
    go_wp2
    go_ret
    exact ⟨rfl, Below.refl _ _⟩
  · rw [decide_eq_false h]
    have t1 : (x.toList == y.toList) = false := str_ne h
    clear h
    go_enter Tryz.func65, Tryz.ntmps65
    go_wp2
    go_ret
    exact ⟨rfl, Below.refl _ _⟩


/-- how its elements are compared -/
def CmpInt (K : FuncId) (s t : SlW Int) (w : World) : Prop := ∀ x ∈ s.L, ∀ y ∈ t.L, ∀ w1, Below w.heap.size w w1 → Calls Tryz.prog K #[.int .i64 x, .int .i64 y] w1 fun e w2 => e = .returned (.bool (decide (x = y))) ∧ Below w1.heap.size w1 w2
set_option maxHeartbeats 1000000 in
set_option maxRecDepth 100000 in
theorem EqFInt_any (K : FuncId) (s t : SlW Int) (w : World) (hs : SlH w w.heap.size 1 cInt (IntR) s) (ht : SlH w w.heap.size 1 cInt (IntR) t) (hE : Enters Tryz.prog K) (hK : CmpInt K s t w) :
    Calls Tryz.prog 119 #[s.val, t.val, .func (.func K) #[] #[]] w fun e w' => e = .returned (.bool (eqL s.L t.L)) ∧ Below w.heap.size w w' := by
  have HX := hide hs
  have HY := hide ht
  have HXL := hide hs.len
  have HYL := hide ht.len
  have HK := hide hK
  have hn := hs.nm
  have hm := ht.nm
  obtain ⟨A, n, c, xs⟩ := s
  obtain ⟨B, m, d, ys⟩ := t
  simp only [] at hn hm
  unfold maxLen at hn hm
  clear hs ht hK
  have en := hE
  unfold Enters at en
  show Calls Tryz.prog 119 #[.slice A n c, .slice B m d, .func (.func K) #[] #[]] w _
  by_cases hnm : n = m
  · subst hnm
    go_enter Tryz.func119, Tryz.ntmps119
    go_wp2
    go_loopw [17] (fun i wr => ∃ j : Nat, i = .int .i64 (j : Int) ∧ j ≤ n ∧ Hid (eqLto id xs ys j) ∧ Below w.heap.size w wr) (fun i _ => n - (intOf i).toNat)
    case atStart => exact ⟨0, rfl, Nat.zero_le _, hide (eqLto_zero _ _ _), Below.refl _ _⟩
    case round =>
      obtain ⟨j, rfl, hj, HE, hb⟩ := hrel
      have HB := hide hb
      clear hb
      by_cases hlt : j < n
      · obtain ⟨p, hp⟩ := HX.out.get hlt
        obtain ⟨q, hq⟩ := HY.out.get hlt
        obtain ⟨g, o, hA, hg, _, cz⟩ := HX.out.at_ hp
        obtain ⟨g', o', hA', hg', _, dz⟩ := HY.out.at_ hq
        simp only [] at hA hA'
        subst hA
        subst hA'
        have hlt' : (j : Int) < (n : Int) := by omega
        have HBQ := HB
        have c0 : wr.cell? ⟨g, o + j, none⟩ = some (.int .i64 p) := (HB.out.cell hg).trans (by simpa using cz 0 _ rfl)
        have d0 : wr.cell? ⟨g', o' + j, none⟩ = some (.int .i64 q) := (HB.out.cell hg').trans (by simpa using dz 0 _ rfl)
        have HP := hide hp
        have HQ := hide hq
        have HC := hide (HK.out p (List.mem_of_getElem? hp) q (List.mem_of_getElem? hq))
        clear hp hq cz dz
        by_cases hab : p = q
        · have HE2 := hide (eqLto_up HE.out HP.out HQ.out hab)
          have HD := hide (decide_eq_true hab)
          clear hab
          go_wp2_with fail
          try go_at_fn K
          refine (HC.out _ HBQ.out).mono ?_
          rintro e w1 ⟨rfl, hb0⟩
          have HB2 := hide (HBQ.out.trans (hb0.mono HBQ.out.size))
          rw [HD.out]
          clear hb0
          go_wp2_with fail
          go_roundw
          case rel => exact ⟨j + 1, by go_num, by omega, HE2, HB2.out⟩
          case measure => simp [intOf]; omega
        · have HF := hide (eqL_noI HP.out HQ.out hab)
          have HD := hide (decide_eq_false hab)
          clear hab
          go_wp2_with fail
          try go_at_fn K
          refine (HC.out _ HBQ.out).mono ?_
          rintro e w1 ⟨rfl, hb0⟩
          have HB2 := hide (HBQ.out.trans (hb0.mono HBQ.out.size))
          rw [HD.out]
          clear hb0
          go_wp2_with fail
          go_ret
          exact ⟨congrArg (fun v => Ending.returned (.bool v)) HF.out.symm, HB2.out⟩
      · obtain rfl : j = n := by omega
        have HF := hide (eqL_yesI HE.out HXL.out HYL.out)
        go_wp2
        go_ret
        exact ⟨congrArg (fun v => Ending.returned (.bool v)) HF.out.symm, HB.out⟩
  · have e1 : ((n : Int) != (m : Int)) = true := by simp; omega
    have HF := hide (eqL_lenI HXL.out HYL.out hnm)
    go_enter Tryz.func119, Tryz.ntmps119
    go_wp2
    go_ret
    exact ⟨congrArg (fun v => Ending.returned (.bool v)) HF.out.symm, Below.refl _ _⟩

set_option maxHeartbeats 1000000 in
set_option maxRecDepth 100000 in
theorem EqsInt_any (K : FuncId) (s t : SlW Int) (w : World) (hs : SlH w w.heap.size 1 cInt (IntR) s) (ht : SlH w w.heap.size 1 cInt (IntR) t) (hE : Enters Tryz.prog K) (hK : CmpInt K s t w) :
    Calls Tryz.prog 97 #[.agg #[s.val, .func (.func K) #[] #[]], t.val] w fun e w' => e = .returned (.bool (eqL s.L t.L)) ∧ Below w.heap.size w w' := by
  have hb : Below w.heap.size w (w.alloc (.cells #[s.val, .func (.func K) #[] #[]] 140)) := (Below.refl _ w).alloc (Nat.le_refl _) _
  have HC := hide (EqFInt_any K s t _ ((hs.below hb fun _ h => h).more hb.size fun _ h => h) ((ht.below hb fun _ h => h).more hb.size fun _ h => h) hE (fun x hx y hy w1 h1 => hK x hx y hy w1 (hb.trans (h1.mono hb.size))))
  have HB := hide hb
  clear hb hs ht hK hE
  obtain ⟨A, n, c, xs⟩ := s
  obtain ⟨B, m, d, ys⟩ := t
  show Calls Tryz.prog 97 #[.agg #[.slice A n c, .func (.func K) #[] #[]], .slice B m d] w _
  obtain ⟨v, hv⟩ : ∃ v, eqL xs ys = v := ⟨_, rfl⟩
  have HC2 := hide (show _ from hv ▸ HC.out)
  rw [show eqL (SlW.mk A n c xs).L (SlW.mk B m d ys).L = v from hv]
  clear hv HC
  go_enter Tryz.func97, Tryz.ntmps97
  go_wp2_with fail
  refine HC2.out.mono ?_
  rintro e w1 ⟨rfl, hb0⟩
  have HB2 := hide (HB.out.trans (hb0.mono HB.out.size))
  clear hb0
  go_wp2_with fail
  go_ret
  exact ⟨rfl, HB2.out⟩


theorem PlainInt_any (s : SlW Int) (w : World) :
    Calls Tryz.prog 96 #[s.val] w fun e w' => e = .returned (.agg #[s.val, .func (.func 118) #[] #[]]) ∧ Below w.heap.size w w' := by
  have HB := hide ((Below.refl _ w).alloc (Nat.le_refl _) (.cells #[s.val, .func (.func 118) #[] #[]] 140))
  obtain ⟨A, n, c, xs⟩ := s
  show Calls Tryz.prog 96 #[.slice A n c] w _
  go_enter Tryz.func96, Tryz.ntmps96
  go_wp2
  refine bodyPost_ret (results_cell_row rfl _ _ w.heap.size _ #[.slice A n c, .func (.func 118) #[] #[]] (0, 0) _ rfl (heap_alloc_new w _) Tryz.underlying140 rfl (by kernel_rfl)) rfl ⟨rfl, HB.out⟩
set_option maxHeartbeats 1000000 in
theorem CmpInt_plain (x y : Int) (w : World) :
    Calls Tryz.prog 118 #[.int .i64 x, .int .i64 y] w fun e w' => e = .returned (.bool (decide (x = y))) ∧ Below w.heap.size w w' := by
  by_cases h : x = y
  · subst h
    rw [decide_eq_true rfl]
    go_enter Tryz.func118, Tryz.ntmps118
    go_wp2
    go_ret
    exact ⟨rfl, Below.refl _ _⟩
  · rw [decide_eq_false h]
    have t1 : (x == y) = false := by simpa using h
    clear h
    go_enter Tryz.func118, Tryz.ntmps118
    go_wp2
    go_ret
    exact ⟨rfl, Below.refl _ _⟩


/-- how its elements are compared -/
def CmpOp (K : FuncId) (s t : SlW OpW) (w : World) : Prop := ∀ x ∈ s.L, ∀ y ∈ t.L, ∀ w1, Below w.heap.size w w1 → Calls Tryz.prog K #[aggOp x, aggOp y] w1 fun e w2 => e = .returned (.bool (decide (OpW.v x = OpW.v y))) ∧ Below w1.heap.size w1 w2
set_option maxHeartbeats 1000000 in
set_option maxRecDepth 100000 in
theorem EqFOp_any (K : FuncId) (s t : SlW OpW) (w : World) (hs : SlH w w.heap.size 4 cOp (OneOp w w.heap.size) s) (ht : SlH w w.heap.size 4 cOp (OneOp w w.heap.size) t) (hE : Enters Tryz.prog K) (hK : CmpOp K s t w) :
    Calls Tryz.prog 120 #[s.val, t.val, .func (.func K) #[] #[]] w fun e w' => e = .returned (.bool (eqL (s.L.map OpW.v) (t.L.map OpW.v))) ∧ Below w.heap.size w w' := by
  have HX := hide hs
  have HY := hide ht
  have HXL := hide hs.len
  have HYL := hide ht.len
  have HK := hide hK
  have hn := hs.nm
  have hm := ht.nm
  obtain ⟨A, n, c, xs⟩ := s
  obtain ⟨B, m, d, ys⟩ := t
  simp only [] at hn hm
  unfold maxLen at hn hm
  clear hs ht hK
  have en := hE
  unfold Enters at en
  show Calls Tryz.prog 120 #[.slice A n c, .slice B m d, .func (.func K) #[] #[]] w _
  by_cases hnm : n = m
  · subst hnm
    go_enter Tryz.func120, Tryz.ntmps120
    go_wp2
    go_loopw [17] (fun i wr => ∃ j : Nat, i = .int .i64 (j : Int) ∧ j ≤ n ∧ Hid (eqLto OpW.v xs ys j) ∧ Below w.heap.size w wr) (fun i _ => n - (intOf i).toNat)
    case atStart => exact ⟨0, rfl, Nat.zero_le _, hide (eqLto_zero _ _ _), Below.refl _ _⟩
    case round =>
      obtain ⟨j, rfl, hj, HE, hb⟩ := hrel
      have HB := hide hb
      clear hb
      by_cases hlt : j < n
      · obtain ⟨p, hp⟩ := HX.out.get hlt
        obtain ⟨q, hq⟩ := HY.out.get hlt
        obtain ⟨g, o, hA, hg, _, cz⟩ := HX.out.at_ hp
        obtain ⟨g', o', hA', hg', _, dz⟩ := HY.out.at_ hq
        simp only [] at hA hA'
        subst hA
        subst hA'
        have hlt' : (j : Int) < (n : Int) := by omega
        have HB1 := hide (HB.out.alloc HB.out.size (.cells #[.int .i64 p.kind, .int .i64 p.pl.l, .slice p.pl.A p.pl.n p.pl.c, .int .i64 p.n] 96))
        have HBQ := hide (HB1.out.alloc HB1.out.size (.cells #[.int .i64 q.kind, .int .i64 q.pl.l, .slice q.pl.A q.pl.n q.pl.c, .int .i64 q.n] 96))
        have c0 : wr.cell? ⟨g, o + j * 4, none⟩ = some (.int .i64 p.kind) := (HB.out.cell hg).trans (cz 0 _ rfl)
        have c1 : wr.cell? ⟨g, o + j * 4 + 1, none⟩ = some (.int .i64 p.pl.l) := (HB.out.cell hg).trans (cz 1 _ rfl)
        have c2 : wr.cell? ⟨g, o + j * 4 + 2, none⟩ = some (.slice p.pl.A p.pl.n p.pl.c) := (HB.out.cell hg).trans (cz 2 _ rfl)
        have c3 : wr.cell? ⟨g, o + j * 4 + 3, none⟩ = some (.int .i64 p.n) := (HB.out.cell hg).trans (cz 3 _ rfl)
        have d0 : (wr.alloc (.cells #[.int .i64 p.kind, .int .i64 p.pl.l, .slice p.pl.A p.pl.n p.pl.c, .int .i64 p.n] 96)).cell? ⟨g', o' + j * 4, none⟩ = some (.int .i64 q.kind) := (HB1.out.cell hg').trans (dz 0 _ rfl)
        have d1 : (wr.alloc (.cells #[.int .i64 p.kind, .int .i64 p.pl.l, .slice p.pl.A p.pl.n p.pl.c, .int .i64 p.n] 96)).cell? ⟨g', o' + j * 4 + 1, none⟩ = some (.int .i64 q.pl.l) := (HB1.out.cell hg').trans (dz 1 _ rfl)
        have d2 : (wr.alloc (.cells #[.int .i64 p.kind, .int .i64 p.pl.l, .slice p.pl.A p.pl.n p.pl.c, .int .i64 p.n] 96)).cell? ⟨g', o' + j * 4 + 2, none⟩ = some (.slice q.pl.A q.pl.n q.pl.c) := (HB1.out.cell hg').trans (dz 2 _ rfl)
        have d3 : (wr.alloc (.cells #[.int .i64 p.kind, .int .i64 p.pl.l, .slice p.pl.A p.pl.n p.pl.c, .int .i64 p.n] 96)).cell? ⟨g', o' + j * 4 + 3, none⟩ = some (.int .i64 q.n) := (HB1.out.cell hg').trans (dz 3 _ rfl)
        have HP := hide hp
        have HQ := hide hq
        have HC := hide (HK.out p (List.mem_of_getElem? hp) q (List.mem_of_getElem? hq))
        clear hp hq cz dz
        by_cases hab : OpW.v p = OpW.v q
        · have HE2 := hide (eqLto_up HE.out HP.out HQ.out hab)
          have HD := hide (decide_eq_true hab)
          clear hab
          go_wp2_with fail
          try go_at_fn K
          refine (HC.out _ HBQ.out).mono ?_
          rintro e w1 ⟨rfl, hb0⟩
          have HB2 := hide (HBQ.out.trans (hb0.mono HBQ.out.size))
          rw [HD.out]
          clear hb0
          go_wp2_with fail
          go_roundw
          case rel => exact ⟨j + 1, by go_num, by omega, HE2, HB2.out⟩
          case measure => simp [intOf]; omega
        · have HF := hide (eqL_no HP.out HQ.out hab)
          have HD := hide (decide_eq_false hab)
          clear hab
          go_wp2_with fail
          try go_at_fn K
          refine (HC.out _ HBQ.out).mono ?_
          rintro e w1 ⟨rfl, hb0⟩
          have HB2 := hide (HBQ.out.trans (hb0.mono HBQ.out.size))
          rw [HD.out]
          clear hb0
          go_wp2_with fail
          go_ret
          exact ⟨congrArg (fun v => Ending.returned (.bool v)) HF.out.symm, HB2.out⟩
      · obtain rfl : j = n := by omega
        have HF := hide (eqL_yes HE.out HXL.out HYL.out)
        go_wp2
        go_ret
        exact ⟨congrArg (fun v => Ending.returned (.bool v)) HF.out.symm, HB.out⟩
  · have e1 : ((n : Int) != (m : Int)) = true := by simp; omega
    have HF := hide (eqL_len (f := OpW.v) HXL.out HYL.out hnm)
    go_enter Tryz.func120, Tryz.ntmps120
    go_wp2
    go_ret
    exact ⟨congrArg (fun v => Ending.returned (.bool v)) HF.out.symm, Below.refl _ _⟩

set_option maxHeartbeats 1000000 in
set_option maxRecDepth 100000 in
theorem EqsOp_any (K : FuncId) (s t : SlW OpW) (w : World) (hs : SlH w w.heap.size 4 cOp (OneOp w w.heap.size) s) (ht : SlH w w.heap.size 4 cOp (OneOp w w.heap.size) t) (hE : Enters Tryz.prog K) (hK : CmpOp K s t w) :
    Calls Tryz.prog 99 #[.agg #[s.val, .func (.func K) #[] #[]], t.val] w fun e w' => e = .returned (.bool (eqL (s.L.map OpW.v) (t.L.map OpW.v))) ∧ Below w.heap.size w w' := by
  have hb : Below w.heap.size w (w.alloc (.cells #[s.val, .func (.func K) #[] #[]] 145)) := (Below.refl _ w).alloc (Nat.le_refl _) _
  have HC := hide (EqFOp_any K s t _ ((hs.below hb fun _ h => h.below hb).more hb.size fun _ h => h.more hb.size) ((ht.below hb fun _ h => h.below hb).more hb.size fun _ h => h.more hb.size) hE (fun x hx y hy w1 h1 => hK x hx y hy w1 (hb.trans (h1.mono hb.size))))
  have HB := hide hb
  clear hb hs ht hK hE
  obtain ⟨A, n, c, xs⟩ := s
  obtain ⟨B, m, d, ys⟩ := t
  show Calls Tryz.prog 99 #[.agg #[.slice A n c, .func (.func K) #[] #[]], .slice B m d] w _
  obtain ⟨v, hv⟩ : ∃ v, eqL (xs.map OpW.v) (ys.map OpW.v) = v := ⟨_, rfl⟩
  have HC2 := hide (show _ from hv ▸ HC.out)
  rw [show eqL ((SlW.mk A n c xs).L.map OpW.v) ((SlW.mk B m d ys).L.map OpW.v) = v from hv]
  clear hv HC
  go_enter Tryz.func99, Tryz.ntmps99
  go_wp2_with fail
  refine HC2.out.mono ?_
  rintro e w1 ⟨rfl, hb0⟩
  have HB2 := hide (HB.out.trans (hb0.mono HB.out.size))
  clear hb0
  go_wp2_with fail
  go_ret
  exact ⟨rfl, HB2.out⟩

end Go.Proofs.YtbdimnncobpfdaaGreat

/- The code's comparison of lists by a function: slices.EqualFunc, list.equals, plain. -/
set_option linter.unusedVariables false
namespace Go.Proofs.YtbdimnncobpfdaaGreat
open Go.RowKit Go.Shelf

/-- how its elements are compared -/
def CmpTy (K : FuncId) (s t : SlW TyW) (w : World) : Prop := ∀ x ∈ s.L, ∀ y ∈ t.L, ∀ w1, Below w.heap.size w w1 → Calls Tryz.prog K #[aggT x, aggT y] w1 fun e w2 => e = .returned (.bool (decide (TyW.t x = TyW.t y))) ∧ Below w1.heap.size w1 w2
set_option maxHeartbeats 1000000 in
set_option maxRecDepth 100000 in
theorem EqFTy_any (K : FuncId) (s t : SlW TyW) (w : World) (hs : SlH w w.heap.size 5 c5 (OneT w w.heap.size) s) (ht : SlH w w.heap.size 5 c5 (OneT w w.heap.size) t) (hE : Enters Tryz.prog K) (hK : CmpTy K s t w) :
    Calls Tryz.prog 70 #[s.val, t.val, .func (.func K) #[] #[]] w fun e w' => e = .returned (.bool (eqL (s.L.map TyW.t) (t.L.map TyW.t))) ∧ Below w.heap.size w w' := by
  have HX := hide hs
  have HY := hide ht
  have HXL := hide hs.len
  have HYL := hide ht.len
  have HK := hide hK
  have hn := hs.nm
  have hm := ht.nm
  obtain ⟨A, n, c, xs⟩ := s
  obtain ⟨B, m, d, ys⟩ := t
  simp only [] at hn hm
  unfold maxLen at hn hm
  clear hs ht hK
  have en := hE
  unfold Enters at en
  show Calls Tryz.prog 70 #[.slice A n c, .slice B m d, .func (.func K) #[] #[]] w _
  by_cases hnm : n = m
  · subst hnm
    go_enter Tryz.func70, Tryz.ntmps70
    go_wp2
    go_loopw [17] (fun i wr => ∃ j : Nat, i = .int .i64 (j : Int) ∧ j ≤ n ∧ Hid (eqLto TyW.t xs ys j) ∧ Below w.heap.size w wr) (fun i _ => n - (intOf i).toNat)
    case atStart => exact ⟨0, rfl, Nat.zero_le _, hide (eqLto_zero _ _ _), Below.refl _ _⟩
    case round =>
      obtain ⟨j, rfl, hj, HE, hb⟩ := hrel
      have HB := hide hb
      clear hb
      by_cases hlt : j < n
      · obtain ⟨p, hp⟩ := HX.out.get hlt
        obtain ⟨q, hq⟩ := HY.out.get hlt
        obtain ⟨g, o, hA, hg, _, cz⟩ := HX.out.at_ hp
        obtain ⟨g', o', hA', hg', _, dz⟩ := HY.out.at_ hq
        simp only [] at hA hA'
        subst hA
        subst hA'
        have hlt' : (j : Int) < (n : Int) := by omega
        have HB1 := hide (HB.out.alloc HB.out.size (.cells #[.int .i64 p.t.kind, .bool p.t.mut_, .int .i64 p.t.region, .int .i64 p.t.elem, .slice p.A p.n p.c] 51))
        have HBQ := hide (HB1.out.alloc HB1.out.size (.cells #[.int .i64 q.t.kind, .bool q.t.mut_, .int .i64 q.t.region, .int .i64 q.t.elem, .slice q.A q.n q.c] 51))
        have c0 : wr.cell? ⟨g, o + j * 5, none⟩ = some (.int .i64 p.t.kind) := (HB.out.cell hg).trans (cz 0 _ rfl)
        have c1 : wr.cell? ⟨g, o + j * 5 + 1, none⟩ = some (.bool p.t.mut_) := (HB.out.cell hg).trans (cz 1 _ rfl)
        have c2 : wr.cell? ⟨g, o + j * 5 + 2, none⟩ = some (.int .i64 p.t.region) := (HB.out.cell hg).trans (cz 2 _ rfl)
        have c3 : wr.cell? ⟨g, o + j * 5 + 3, none⟩ = some (.int .i64 p.t.elem) := (HB.out.cell hg).trans (cz 3 _ rfl)
        have c4 : wr.cell? ⟨g, o + j * 5 + 4, none⟩ = some (.slice p.A p.n p.c) := (HB.out.cell hg).trans (cz 4 _ rfl)
        have d0 : (wr.alloc (.cells #[.int .i64 p.t.kind, .bool p.t.mut_, .int .i64 p.t.region, .int .i64 p.t.elem, .slice p.A p.n p.c] 51)).cell? ⟨g', o' + j * 5, none⟩ = some (.int .i64 q.t.kind) := (HB1.out.cell hg').trans (dz 0 _ rfl)
        have d1 : (wr.alloc (.cells #[.int .i64 p.t.kind, .bool p.t.mut_, .int .i64 p.t.region, .int .i64 p.t.elem, .slice p.A p.n p.c] 51)).cell? ⟨g', o' + j * 5 + 1, none⟩ = some (.bool q.t.mut_) := (HB1.out.cell hg').trans (dz 1 _ rfl)
        have d2 : (wr.alloc (.cells #[.int .i64 p.t.kind, .bool p.t.mut_, .int .i64 p.t.region, .int .i64 p.t.elem, .slice p.A p.n p.c] 51)).cell? ⟨g', o' + j * 5 + 2, none⟩ = some (.int .i64 q.t.region) := (HB1.out.cell hg').trans (dz 2 _ rfl)
        have d3 : (wr.alloc (.cells #[.int .i64 p.t.kind, .bool p.t.mut_, .int .i64 p.t.region, .int .i64 p.t.elem, .slice p.A p.n p.c] 51)).cell? ⟨g', o' + j * 5 + 3, none⟩ = some (.int .i64 q.t.elem) := (HB1.out.cell hg').trans (dz 3 _ rfl)
        have d4 : (wr.alloc (.cells #[.int .i64 p.t.kind, .bool p.t.mut_, .int .i64 p.t.region, .int .i64 p.t.elem, .slice p.A p.n p.c] 51)).cell? ⟨g', o' + j * 5 + 4, none⟩ = some (.slice q.A q.n q.c) := (HB1.out.cell hg').trans (dz 4 _ rfl)
        have HP := hide hp
        have HQ := hide hq
        have HC := hide (HK.out p (List.mem_of_getElem? hp) q (List.mem_of_getElem? hq))
        clear hp hq cz dz
        by_cases hab : TyW.t p = TyW.t q
        · have HE2 := hide (eqLto_up HE.out HP.out HQ.out hab)
          have HD := hide (decide_eq_true hab)
          clear hab
          go_wp2_with fail
          try go_at_fn K
          refine (HC.out _ HBQ.out).mono ?_
          rintro e w1 ⟨rfl, hb0⟩
          have HB2 := hide (HBQ.out.trans (hb0.mono HBQ.out.size))
          rw [HD.out]
          clear hb0
          go_wp2_with fail
          go_roundw
          case rel => exact ⟨j + 1, by go_num, by omega, HE2, HB2.out⟩
          case measure => simp [intOf]; omega
        · have HF := hide (eqL_no HP.out HQ.out hab)
          have HD := hide (decide_eq_false hab)
          clear hab
          go_wp2_with fail
          try go_at_fn K
          refine (HC.out _ HBQ.out).mono ?_
          rintro e w1 ⟨rfl, hb0⟩
          have HB2 := hide (HBQ.out.trans (hb0.mono HBQ.out.size))
          rw [HD.out]
          clear hb0
          go_wp2_with fail
          go_ret
          exact ⟨congrArg (fun v => Ending.returned (.bool v)) HF.out.symm, HB2.out⟩
      · obtain rfl : j = n := by omega
        have HF := hide (eqL_yes HE.out HXL.out HYL.out)
        go_wp2
        go_ret
        exact ⟨congrArg (fun v => Ending.returned (.bool v)) HF.out.symm, HB.out⟩
  · have e1 : ((n : Int) != (m : Int)) = true := by simp; omega
    have HF := hide (eqL_len (f := TyW.t) HXL.out HYL.out hnm)
    go_enter Tryz.func70, Tryz.ntmps70
    go_wp2
    go_ret
    exact ⟨congrArg (fun v => Ending.returned (.bool v)) HF.out.symm, Below.refl _ _⟩

set_option maxHeartbeats 1000000 in
set_option maxRecDepth 100000 in
theorem EqsTy_any (K : FuncId) (s t : SlW TyW) (w : World) (hs : SlH w w.heap.size 5 c5 (OneT w w.heap.size) s) (ht : SlH w w.heap.size 5 c5 (OneT w w.heap.size) t) (hE : Enters Tryz.prog K) (hK : CmpTy K s t w) :
    Calls Tryz.prog 31 #[.agg #[s.val, .func (.func K) #[] #[]], t.val] w fun e w' => e = .returned (.bool (eqL (s.L.map TyW.t) (t.L.map TyW.t))) ∧ Below w.heap.size w w' := by
  have hb : Below w.heap.size w (w.alloc (.cells #[s.val, .func (.func K) #[] #[]] 72)) := (Below.refl _ w).alloc (Nat.le_refl _) _
  have HC := hide (EqFTy_any K s t _ ((hs.below hb fun _ h => h.below hb).more hb.size fun _ h => h.more hb.size) ((ht.below hb fun _ h => h.below hb).more hb.size fun _ h => h.more hb.size) hE (fun x hx y hy w1 h1 => hK x hx y hy w1 (hb.trans (h1.mono hb.size))))
  have HB := hide hb
  clear hb hs ht hK hE
  obtain ⟨A, n, c, xs⟩ := s
  obtain ⟨B, m, d, ys⟩ := t
  show Calls Tryz.prog 31 #[.agg #[.slice A n c, .func (.func K) #[] #[]], .slice B m d] w _
  obtain ⟨v, hv⟩ : ∃ v, eqL (xs.map TyW.t) (ys.map TyW.t) = v := ⟨_, rfl⟩
  have HC2 := hide (show _ from hv ▸ HC.out)
  rw [show eqL ((SlW.mk A n c xs).L.map TyW.t) ((SlW.mk B m d ys).L.map TyW.t) = v from hv]
  clear hv HC
  go_enter Tryz.func31, Tryz.ntmps31
  go_wp2_with fail
  refine HC2.out.mono ?_
  rintro e w1 ⟨rfl, hb0⟩
  have HB2 := hide (HB.out.trans (hb0.mono HB.out.size))
  clear hb0
  go_wp2_with fail
  go_ret
  exact ⟨rfl, HB2.out⟩


/-- how its elements are compared -/
def CmpLc (K : FuncId) (s t : SlW LcW) (w : World) : Prop := ∀ x ∈ s.L, ∀ y ∈ t.L, ∀ w1, Below w.heap.size w w1 → Calls Tryz.prog K #[.agg #[.string x.name, .int .i64 x.ty], .agg #[.string y.name, .int .i64 y.ty]] w1 fun e w2 => e = .returned (.bool (decide (LcW.v x = LcW.v y))) ∧ Below w1.heap.size w1 w2
set_option maxHeartbeats 1000000 in
set_option maxRecDepth 100000 in
theorem EqFLc_any (K : FuncId) (s t : SlW LcW) (w : World) (hs : SlH w w.heap.size 2 cLc (fun y => IntR y.ty ∧ y.name.size ≤ maxLen) s) (ht : SlH w w.heap.size 2 cLc (fun y => IntR y.ty ∧ y.name.size ≤ maxLen) t) (hE : Enters Tryz.prog K) (hK : CmpLc K s t w) :
    Calls Tryz.prog 72 #[s.val, t.val, .func (.func K) #[] #[]] w fun e w' => e = .returned (.bool (eqL (s.L.map LcW.v) (t.L.map LcW.v))) ∧ Below w.heap.size w w' := by
  have HX := hide hs
  have HY := hide ht
  have HXL := hide hs.len
  have HYL := hide ht.len
  have HK := hide hK
  have hn := hs.nm
  have hm := ht.nm
  obtain ⟨A, n, c, xs⟩ := s
  obtain ⟨B, m, d, ys⟩ := t
  simp only [] at hn hm
  unfold maxLen at hn hm
  clear hs ht hK
  have en := hE
  unfold Enters at en
  show Calls Tryz.prog 72 #[.slice A n c, .slice B m d, .func (.func K) #[] #[]] w _
  by_cases hnm : n = m
  · subst hnm
    go_enter Tryz.func72, Tryz.ntmps72
    go_wp2
    go_loopw [17] (fun i wr => ∃ j : Nat, i = .int .i64 (j : Int) ∧ j ≤ n ∧ Hid (eqLto LcW.v xs ys j) ∧ Below w.heap.size w wr) (fun i _ => n - (intOf i).toNat)
    case atStart => exact ⟨0, rfl, Nat.zero_le _, hide (eqLto_zero _ _ _), Below.refl _ _⟩
    case round =>
      obtain ⟨j, rfl, hj, HE, hb⟩ := hrel
      have HB := hide hb
      clear hb
      by_cases hlt : j < n
      · obtain ⟨p, hp⟩ := HX.out.get hlt
        obtain ⟨q, hq⟩ := HY.out.get hlt
        obtain ⟨g, o, hA, hg, _, cz⟩ := HX.out.at_ hp
        obtain ⟨g', o', hA', hg', _, dz⟩ := HY.out.at_ hq
        simp only [] at hA hA'
        subst hA
        subst hA'
        have hlt' : (j : Int) < (n : Int) := by omega
        have HB1 := hide (HB.out.alloc HB.out.size (.cells #[.string p.name, .int .i64 p.ty] 54))
        have HBQ := hide (HB1.out.alloc HB1.out.size (.cells #[.string q.name, .int .i64 q.ty] 54))
        have c0 : wr.cell? ⟨g, o + j * 2, none⟩ = some (.string p.name) := (HB.out.cell hg).trans (cz 0 _ rfl)
        have c1 : wr.cell? ⟨g, o + j * 2 + 1, none⟩ = some (.int .i64 p.ty) := (HB.out.cell hg).trans (cz 1 _ rfl)
        have d0 : (wr.alloc (.cells #[.string p.name, .int .i64 p.ty] 54)).cell? ⟨g', o' + j * 2, none⟩ = some (.string q.name) := (HB1.out.cell hg').trans (dz 0 _ rfl)
        have d1 : (wr.alloc (.cells #[.string p.name, .int .i64 p.ty] 54)).cell? ⟨g', o' + j * 2 + 1, none⟩ = some (.int .i64 q.ty) := (HB1.out.cell hg').trans (dz 1 _ rfl)
        have HP := hide hp
        have HQ := hide hq
        have HC := hide (HK.out p (List.mem_of_getElem? hp) q (List.mem_of_getElem? hq))
        clear hp hq cz dz
        by_cases hab : LcW.v p = LcW.v q
        · have HE2 := hide (eqLto_up HE.out HP.out HQ.out hab)
          have HD := hide (decide_eq_true hab)
          clear hab
          go_wp2_with fail
          try go_at_fn K
          refine (HC.out _ HBQ.out).mono ?_
          rintro e w1 ⟨rfl, hb0⟩
          have HB2 := hide (HBQ.out.trans (hb0.mono HBQ.out.size))
          rw [HD.out]
          clear hb0
          go_wp2_with fail
          go_roundw
          case rel => exact ⟨j + 1, by go_num, by omega, HE2, HB2.out⟩
          case measure => simp [intOf]; omega
        · have HF := hide (eqL_no HP.out HQ.out hab)
          have HD := hide (decide_eq_false hab)
          clear hab
          go_wp2_with fail
          try go_at_fn K
          refine (HC.out _ HBQ.out).mono ?_
          rintro e w1 ⟨rfl, hb0⟩
          have HB2 := hide (HBQ.out.trans (hb0.mono HBQ.out.size))
          rw [HD.out]
          clear hb0
          go_wp2_with fail
          go_ret
          exact ⟨congrArg (fun v => Ending.returned (.bool v)) HF.out.symm, HB2.out⟩
      · obtain rfl : j = n := by omega
        have HF := hide (eqL_yes HE.out HXL.out HYL.out)
        go_wp2
        go_ret
        exact ⟨congrArg (fun v => Ending.returned (.bool v)) HF.out.symm, HB.out⟩
  · have e1 : ((n : Int) != (m : Int)) = true := by simp; omega
    have HF := hide (eqL_len (f := LcW.v) HXL.out HYL.out hnm)
    go_enter Tryz.func72, Tryz.ntmps72
    go_wp2
    go_ret
    exact ⟨congrArg (fun v => Ending.returned (.bool v)) HF.out.symm, Below.refl _ _⟩

set_option maxHeartbeats 1000000 in
set_option maxRecDepth 100000 in
theorem EqsLc_any (K : FuncId) (s t : SlW LcW) (w : World) (hs : SlH w w.heap.size 2 cLc (fun y => IntR y.ty ∧ y.name.size ≤ maxLen) s) (ht : SlH w w.heap.size 2 cLc (fun y => IntR y.ty ∧ y.name.size ≤ maxLen) t) (hE : Enters Tryz.prog K) (hK : CmpLc K s t w) :
    Calls Tryz.prog 33 #[.agg #[s.val, .func (.func K) #[] #[]], t.val] w fun e w' => e = .returned (.bool (eqL (s.L.map LcW.v) (t.L.map LcW.v))) ∧ Below w.heap.size w w' := by
  have hb : Below w.heap.size w (w.alloc (.cells #[s.val, .func (.func K) #[] #[]] 76)) := (Below.refl _ w).alloc (Nat.le_refl _) _
  have HC := hide (EqFLc_any K s t _ ((hs.below hb fun _ h => h).more hb.size fun _ h => h) ((ht.below hb fun _ h => h).more hb.size fun _ h => h) hE (fun x hx y hy w1 h1 => hK x hx y hy w1 (hb.trans (h1.mono hb.size))))
  have HB := hide hb
  clear hb hs ht hK hE
  obtain ⟨A, n, c, xs⟩ := s
  obtain ⟨B, m, d, ys⟩ := t
  show Calls Tryz.prog 33 #[.agg #[.slice A n c, .func (.func K) #[] #[]], .slice B m d] w _
  obtain ⟨v, hv⟩ : ∃ v, eqL (xs.map LcW.v) (ys.map LcW.v) = v := ⟨_, rfl⟩
  have HC2 := hide (show _ from hv ▸ HC.out)
  rw [show eqL ((SlW.mk A n c xs).L.map LcW.v) ((SlW.mk B m d ys).L.map LcW.v) = v from hv]
  clear hv HC
  go_enter Tryz.func33, Tryz.ntmps33
  go_wp2_with fail
  refine HC2.out.mono ?_
  rintro e w1 ⟨rfl, hb0⟩
  have HB2 := hide (HB.out.trans (hb0.mono HB.out.size))
  clear hb0
  go_wp2_with fail
  go_ret
  exact ⟨rfl, HB2.out⟩


theorem PlainLc_any (s : SlW LcW) (w : World) :
    Calls Tryz.prog 32 #[s.val] w fun e w' => e = .returned (.agg #[s.val, .func (.func 71) #[] #[]]) ∧ Below w.heap.size w w' := by
  have HB := hide ((Below.refl _ w).alloc (Nat.le_refl _) (.cells #[s.val, .func (.func 71) #[] #[]] 76))
  obtain ⟨A, n, c, xs⟩ := s
  show Calls Tryz.prog 32 #[.slice A n c] w _
  go_enter Tryz.func32, Tryz.ntmps32
  go_wp2
  refine bodyPost_ret (results_cell_row rfl _ _ w.heap.size _ #[.slice A n c, .func (.func 71) #[] #[]] (0, 0) _ rfl (heap_alloc_new w _) Tryz.underlying76 rfl (by kernel_rfl)) rfl ⟨rfl, HB.out⟩
set_option maxHeartbeats 1000000 in
theorem CmpLc_plain (x y : LcW) (w : World) :
    Calls Tryz.prog 71 #[.agg #[.string x.name, .int .i64 x.ty], .agg #[.string y.name, .int .i64 y.ty]] w fun e w' => e = .returned (.bool (decide (x.v = y.v))) ∧ Below w.heap.size w w' := by
  obtain ⟨a, b⟩ := x
  obtain ⟨a', b'⟩ := y
  have HB := hide (((Below.refl w.heap.size w).alloc (Nat.le_refl _) (.cells #[.string a, .int .i64 b] 54)).alloc (by simp) (.cells #[.string a', .int .i64 b'] 54))
  by_cases h1 : a = a'
  · have t1 : (a.toList == a'.toList) = true := by rw [h1]; simp
    by_cases h2 : b = b'
    · rw [show decide (LcW.v ⟨a, b⟩ = LcW.v ⟨a', b'⟩) = true from by simp [LcW.v, h1, h2]]
      have t2 : (b == b') = true := by rw [beq_iff_eq]; exact h2
      clear h1 h2
      go_enter Tryz.func71, Tryz.ntmps71
      go_wp2
      go_ret
      exact ⟨rfl, HB.out⟩
    · rw [show decide (LcW.v ⟨a, b⟩ = LcW.v ⟨a', b'⟩) = false from by simp [LcW.v, h1, h2]]
      have t2 : (b == b') = false := by rw [beq_eq_false_iff_ne]; exact h2
      clear h1 h2
      go_enter Tryz.func71, Tryz.ntmps71
      go_wp2
      go_ret
      exact ⟨rfl, HB.out⟩
  · rw [show decide (LcW.v ⟨a, b⟩ = LcW.v ⟨a', b'⟩) = false from by simp [LcW.v, h1]]
    have t1 : (a.toList == a'.toList) = false := str_ne h1
    clear h1
    go_enter Tryz.func71, Tryz.ntmps71
    go_wp2
    go_ret
    exact ⟨rfl, HB.out⟩

end Go.Proofs.YtbdimnncobpfdaaGreat

/- The code's comparison of lists by a function: slices.EqualFunc, list.equals, plain. -/
set_option linter.unusedVariables false
namespace Go.Proofs.YtbdimnncobpfdaaGreat
open Go.RowKit Go.Shelf

/-- how its elements are compared -/
def CmpSt (K : FuncId) (s t : SlW StW) (w : World) : Prop := ∀ x ∈ s.L, ∀ y ∈ t.L, ∀ w1, Below w.heap.size w w1 → Calls Tryz.prog K #[aggSt x, aggSt y] w1 fun e w2 => e = .returned (.bool (decide (StW.v x = StW.v y))) ∧ Below w1.heap.size w1 w2
set_option maxHeartbeats 1000000 in
set_option maxRecDepth 100000 in
theorem EqFSt_any (K : FuncId) (s t : SlW StW) (w : World) (hs : SlH w w.heap.size 11 cSt (OneSt w w.heap.size) s) (ht : SlH w w.heap.size 11 cSt (OneSt w w.heap.size) t) (hE : Enters Tryz.prog K) (hK : CmpSt K s t w) :
    Calls Tryz.prog 95 #[s.val, t.val, .func (.func K) #[] #[]] w fun e w' => e = .returned (.bool (eqL (s.L.map StW.v) (t.L.map StW.v))) ∧ Below w.heap.size w w' := by
  have HX := hide hs
  have HY := hide ht
  have HXL := hide hs.len
  have HYL := hide ht.len
  have HK := hide hK
  have hn := hs.nm
  have hm := ht.nm
  obtain ⟨A, n, c, xs⟩ := s
  obtain ⟨B, m, d, ys⟩ := t
  simp only [] at hn hm
  unfold maxLen at hn hm
  clear hs ht hK
  have en := hE
  unfold Enters at en
  show Calls Tryz.prog 95 #[.slice A n c, .slice B m d, .func (.func K) #[] #[]] w _
  by_cases hnm : n = m
  · subst hnm
    go_enter Tryz.func95, Tryz.ntmps95
    go_wp2
    go_loopw [17] (fun i wr => ∃ j : Nat, i = .int .i64 (j : Int) ∧ j ≤ n ∧ Hid (eqLto StW.v xs ys j) ∧ Below w.heap.size w wr) (fun i _ => n - (intOf i).toNat)
    case atStart => exact ⟨0, rfl, Nat.zero_le _, hide (eqLto_zero _ _ _), Below.refl _ _⟩
    case round =>
      obtain ⟨j, rfl, hj, HE, hb⟩ := hrel
      have HB := hide hb
      clear hb
      by_cases hlt : j < n
      · obtain ⟨p, hp⟩ := HX.out.get hlt
        obtain ⟨q, hq⟩ := HY.out.get hlt
        obtain ⟨g, o, hA, hg, _, cz⟩ := HX.out.at_ hp
        obtain ⟨g', o', hA', hg', _, dz⟩ := HY.out.at_ hq
        simp only [] at hA hA'
        subst hA
        subst hA'
        have hlt' : (j : Int) < (n : Int) := by omega
        have HB1 := hide (HB.out.alloc HB.out.size (.cells #[.int .i64 p.kind, .int .i64 p.pl.l, .slice p.pl.A p.pl.n p.pl.c, .int .i64 p.rv.kind, .int .i64 p.rv.op, .int .i64 p.rv.region, .bool p.rv.mut_, .int .i64 p.rv.pl.l, .slice p.rv.pl.A p.rv.pl.n p.rv.pl.c, .slice p.rv.args.A p.rv.args.n p.rv.args.c, .int .i64 p.loc] 58))
        have HBQ := hide (HB1.out.alloc HB1.out.size (.cells #[.int .i64 q.kind, .int .i64 q.pl.l, .slice q.pl.A q.pl.n q.pl.c, .int .i64 q.rv.kind, .int .i64 q.rv.op, .int .i64 q.rv.region, .bool q.rv.mut_, .int .i64 q.rv.pl.l, .slice q.rv.pl.A q.rv.pl.n q.rv.pl.c, .slice q.rv.args.A q.rv.args.n q.rv.args.c, .int .i64 q.loc] 58))
        have c0 : wr.cell? ⟨g, o + j * 11, none⟩ = some (.int .i64 p.kind) := (HB.out.cell hg).trans (cz 0 _ rfl)
        have c1 : wr.cell? ⟨g, o + j * 11 + 1, none⟩ = some (.int .i64 p.pl.l) := (HB.out.cell hg).trans (cz 1 _ rfl)
        have c2 : wr.cell? ⟨g, o + j * 11 + 2, none⟩ = some (.slice p.pl.A p.pl.n p.pl.c) := (HB.out.cell hg).trans (cz 2 _ rfl)
        have c3 : wr.cell? ⟨g, o + j * 11 + 3, none⟩ = some (.int .i64 p.rv.kind) := (HB.out.cell hg).trans (cz 3 _ rfl)
        have c4 : wr.cell? ⟨g, o + j * 11 + 4, none⟩ = some (.int .i64 p.rv.op) := (HB.out.cell hg).trans (cz 4 _ rfl)
        have c5 : wr.cell? ⟨g, o + j * 11 + 5, none⟩ = some (.int .i64 p.rv.region) := (HB.out.cell hg).trans (cz 5 _ rfl)
        have c6 : wr.cell? ⟨g, o + j * 11 + 6, none⟩ = some (.bool p.rv.mut_) := (HB.out.cell hg).trans (cz 6 _ rfl)
        have c7 : wr.cell? ⟨g, o + j * 11 + 7, none⟩ = some (.int .i64 p.rv.pl.l) := (HB.out.cell hg).trans (cz 7 _ rfl)
        have c8 : wr.cell? ⟨g, o + j * 11 + 8, none⟩ = some (.slice p.rv.pl.A p.rv.pl.n p.rv.pl.c) := (HB.out.cell hg).trans (cz 8 _ rfl)
        have c9 : wr.cell? ⟨g, o + j * 11 + 9, none⟩ = some (.slice p.rv.args.A p.rv.args.n p.rv.args.c) := (HB.out.cell hg).trans (cz 9 _ rfl)
        have c10 : wr.cell? ⟨g, o + j * 11 + 10, none⟩ = some (.int .i64 p.loc) := (HB.out.cell hg).trans (cz 10 _ rfl)
        have d0 : (wr.alloc (.cells #[.int .i64 p.kind, .int .i64 p.pl.l, .slice p.pl.A p.pl.n p.pl.c, .int .i64 p.rv.kind, .int .i64 p.rv.op, .int .i64 p.rv.region, .bool p.rv.mut_, .int .i64 p.rv.pl.l, .slice p.rv.pl.A p.rv.pl.n p.rv.pl.c, .slice p.rv.args.A p.rv.args.n p.rv.args.c, .int .i64 p.loc] 58)).cell? ⟨g', o' + j * 11, none⟩ = some (.int .i64 q.kind) := (HB1.out.cell hg').trans (dz 0 _ rfl)
        have d1 : (wr.alloc (.cells #[.int .i64 p.kind, .int .i64 p.pl.l, .slice p.pl.A p.pl.n p.pl.c, .int .i64 p.rv.kind, .int .i64 p.rv.op, .int .i64 p.rv.region, .bool p.rv.mut_, .int .i64 p.rv.pl.l, .slice p.rv.pl.A p.rv.pl.n p.rv.pl.c, .slice p.rv.args.A p.rv.args.n p.rv.args.c, .int .i64 p.loc] 58)).cell? ⟨g', o' + j * 11 + 1, none⟩ = some (.int .i64 q.pl.l) := (HB1.out.cell hg').trans (dz 1 _ rfl)
        have d2 : (wr.alloc (.cells #[.int .i64 p.kind, .int .i64 p.pl.l, .slice p.pl.A p.pl.n p.pl.c, .int .i64 p.rv.kind, .int .i64 p.rv.op, .int .i64 p.rv.region, .bool p.rv.mut_, .int .i64 p.rv.pl.l, .slice p.rv.pl.A p.rv.pl.n p.rv.pl.c, .slice p.rv.args.A p.rv.args.n p.rv.args.c, .int .i64 p.loc] 58)).cell? ⟨g', o' + j * 11 + 2, none⟩ = some (.slice q.pl.A q.pl.n q.pl.c) := (HB1.out.cell hg').trans (dz 2 _ rfl)
        have d3 : (wr.alloc (.cells #[.int .i64 p.kind, .int .i64 p.pl.l, .slice p.pl.A p.pl.n p.pl.c, .int .i64 p.rv.kind, .int .i64 p.rv.op, .int .i64 p.rv.region, .bool p.rv.mut_, .int .i64 p.rv.pl.l, .slice p.rv.pl.A p.rv.pl.n p.rv.pl.c, .slice p.rv.args.A p.rv.args.n p.rv.args.c, .int .i64 p.loc] 58)).cell? ⟨g', o' + j * 11 + 3, none⟩ = some (.int .i64 q.rv.kind) := (HB1.out.cell hg').trans (dz 3 _ rfl)
        have d4 : (wr.alloc (.cells #[.int .i64 p.kind, .int .i64 p.pl.l, .slice p.pl.A p.pl.n p.pl.c, .int .i64 p.rv.kind, .int .i64 p.rv.op, .int .i64 p.rv.region, .bool p.rv.mut_, .int .i64 p.rv.pl.l, .slice p.rv.pl.A p.rv.pl.n p.rv.pl.c, .slice p.rv.args.A p.rv.args.n p.rv.args.c, .int .i64 p.loc] 58)).cell? ⟨g', o' + j * 11 + 4, none⟩ = some (.int .i64 q.rv.op) := (HB1.out.cell hg').trans (dz 4 _ rfl)
        have d5 : (wr.alloc (.cells #[.int .i64 p.kind, .int .i64 p.pl.l, .slice p.pl.A p.pl.n p.pl.c, .int .i64 p.rv.kind, .int .i64 p.rv.op, .int .i64 p.rv.region, .bool p.rv.mut_, .int .i64 p.rv.pl.l, .slice p.rv.pl.A p.rv.pl.n p.rv.pl.c, .slice p.rv.args.A p.rv.args.n p.rv.args.c, .int .i64 p.loc] 58)).cell? ⟨g', o' + j * 11 + 5, none⟩ = some (.int .i64 q.rv.region) := (HB1.out.cell hg').trans (dz 5 _ rfl)
        have d6 : (wr.alloc (.cells #[.int .i64 p.kind, .int .i64 p.pl.l, .slice p.pl.A p.pl.n p.pl.c, .int .i64 p.rv.kind, .int .i64 p.rv.op, .int .i64 p.rv.region, .bool p.rv.mut_, .int .i64 p.rv.pl.l, .slice p.rv.pl.A p.rv.pl.n p.rv.pl.c, .slice p.rv.args.A p.rv.args.n p.rv.args.c, .int .i64 p.loc] 58)).cell? ⟨g', o' + j * 11 + 6, none⟩ = some (.bool q.rv.mut_) := (HB1.out.cell hg').trans (dz 6 _ rfl)
        have d7 : (wr.alloc (.cells #[.int .i64 p.kind, .int .i64 p.pl.l, .slice p.pl.A p.pl.n p.pl.c, .int .i64 p.rv.kind, .int .i64 p.rv.op, .int .i64 p.rv.region, .bool p.rv.mut_, .int .i64 p.rv.pl.l, .slice p.rv.pl.A p.rv.pl.n p.rv.pl.c, .slice p.rv.args.A p.rv.args.n p.rv.args.c, .int .i64 p.loc] 58)).cell? ⟨g', o' + j * 11 + 7, none⟩ = some (.int .i64 q.rv.pl.l) := (HB1.out.cell hg').trans (dz 7 _ rfl)
        have d8 : (wr.alloc (.cells #[.int .i64 p.kind, .int .i64 p.pl.l, .slice p.pl.A p.pl.n p.pl.c, .int .i64 p.rv.kind, .int .i64 p.rv.op, .int .i64 p.rv.region, .bool p.rv.mut_, .int .i64 p.rv.pl.l, .slice p.rv.pl.A p.rv.pl.n p.rv.pl.c, .slice p.rv.args.A p.rv.args.n p.rv.args.c, .int .i64 p.loc] 58)).cell? ⟨g', o' + j * 11 + 8, none⟩ = some (.slice q.rv.pl.A q.rv.pl.n q.rv.pl.c) := (HB1.out.cell hg').trans (dz 8 _ rfl)
        have d9 : (wr.alloc (.cells #[.int .i64 p.kind, .int .i64 p.pl.l, .slice p.pl.A p.pl.n p.pl.c, .int .i64 p.rv.kind, .int .i64 p.rv.op, .int .i64 p.rv.region, .bool p.rv.mut_, .int .i64 p.rv.pl.l, .slice p.rv.pl.A p.rv.pl.n p.rv.pl.c, .slice p.rv.args.A p.rv.args.n p.rv.args.c, .int .i64 p.loc] 58)).cell? ⟨g', o' + j * 11 + 9, none⟩ = some (.slice q.rv.args.A q.rv.args.n q.rv.args.c) := (HB1.out.cell hg').trans (dz 9 _ rfl)
        have d10 : (wr.alloc (.cells #[.int .i64 p.kind, .int .i64 p.pl.l, .slice p.pl.A p.pl.n p.pl.c, .int .i64 p.rv.kind, .int .i64 p.rv.op, .int .i64 p.rv.region, .bool p.rv.mut_, .int .i64 p.rv.pl.l, .slice p.rv.pl.A p.rv.pl.n p.rv.pl.c, .slice p.rv.args.A p.rv.args.n p.rv.args.c, .int .i64 p.loc] 58)).cell? ⟨g', o' + j * 11 + 10, none⟩ = some (.int .i64 q.loc) := (HB1.out.cell hg').trans (dz 10 _ rfl)
        have HP := hide hp
        have HQ := hide hq
        have HC := hide (HK.out p (List.mem_of_getElem? hp) q (List.mem_of_getElem? hq))
        clear hp hq cz dz
        by_cases hab : StW.v p = StW.v q
        · have HE2 := hide (eqLto_up HE.out HP.out HQ.out hab)
          have HD := hide (decide_eq_true hab)
          clear hab
          go_wp2_with fail
          try go_at_fn K
          refine (HC.out _ HBQ.out).mono ?_
          rintro e w1 ⟨rfl, hb0⟩
          have HB2 := hide (HBQ.out.trans (hb0.mono HBQ.out.size))
          rw [HD.out]
          clear hb0
          go_wp2_with fail
          go_roundw
          case rel => exact ⟨j + 1, by go_num, by omega, HE2, HB2.out⟩
          case measure => simp [intOf]; omega
        · have HF := hide (eqL_no HP.out HQ.out hab)
          have HD := hide (decide_eq_false hab)
          clear hab
          go_wp2_with fail
          try go_at_fn K
          refine (HC.out _ HBQ.out).mono ?_
          rintro e w1 ⟨rfl, hb0⟩
          have HB2 := hide (HBQ.out.trans (hb0.mono HBQ.out.size))
          rw [HD.out]
          clear hb0
          go_wp2_with fail
          go_ret
          exact ⟨congrArg (fun v => Ending.returned (.bool v)) HF.out.symm, HB2.out⟩
      · obtain rfl : j = n := by omega
        have HF := hide (eqL_yes HE.out HXL.out HYL.out)
        go_wp2
        go_ret
        exact ⟨congrArg (fun v => Ending.returned (.bool v)) HF.out.symm, HB.out⟩
  · have e1 : ((n : Int) != (m : Int)) = true := by simp; omega
    have HF := hide (eqL_len (f := StW.v) HXL.out HYL.out hnm)
    go_enter Tryz.func95, Tryz.ntmps95
    go_wp2
    go_ret
    exact ⟨congrArg (fun v => Ending.returned (.bool v)) HF.out.symm, Below.refl _ _⟩

set_option maxHeartbeats 1000000 in
set_option maxRecDepth 100000 in
theorem EqsSt_any (K : FuncId) (s t : SlW StW) (w : World) (hs : SlH w w.heap.size 11 cSt (OneSt w w.heap.size) s) (ht : SlH w w.heap.size 11 cSt (OneSt w w.heap.size) t) (hE : Enters Tryz.prog K) (hK : CmpSt K s t w) :
    Calls Tryz.prog 74 #[.agg #[s.val, .func (.func K) #[] #[]], t.val] w fun e w' => e = .returned (.bool (eqL (s.L.map StW.v) (t.L.map StW.v))) ∧ Below w.heap.size w w' := by
  have hb : Below w.heap.size w (w.alloc (.cells #[s.val, .func (.func K) #[] #[]] 116)) := (Below.refl _ w).alloc (Nat.le_refl _) _
  have HC := hide (EqFSt_any K s t _ ((hs.below hb fun _ h => h.below hb).more hb.size fun _ h => h.more hb.size) ((ht.below hb fun _ h => h.below hb).more hb.size fun _ h => h.more hb.size) hE (fun x hx y hy w1 h1 => hK x hx y hy w1 (hb.trans (h1.mono hb.size))))
  have HB := hide hb
  clear hb hs ht hK hE
  obtain ⟨A, n, c, xs⟩ := s
  obtain ⟨B, m, d, ys⟩ := t
  show Calls Tryz.prog 74 #[.agg #[.slice A n c, .func (.func K) #[] #[]], .slice B m d] w _
  obtain ⟨v, hv⟩ : ∃ v, eqL (xs.map StW.v) (ys.map StW.v) = v := ⟨_, rfl⟩
  have HC2 := hide (show _ from hv ▸ HC.out)
  rw [show eqL ((SlW.mk A n c xs).L.map StW.v) ((SlW.mk B m d ys).L.map StW.v) = v from hv]
  clear hv HC
  go_enter Tryz.func74, Tryz.ntmps74
  go_wp2_with fail
  refine HC2.out.mono ?_
  rintro e w1 ⟨rfl, hb0⟩
  have HB2 := hide (HB.out.trans (hb0.mono HB.out.size))
  clear hb0
  go_wp2_with fail
  go_ret
  exact ⟨rfl, HB2.out⟩


/-- how its elements are compared -/
def CmpBk (K : FuncId) (s t : SlW BkW) (w : World) : Prop := ∀ x ∈ s.L, ∀ y ∈ t.L, ∀ w1, Below w.heap.size w w1 → Calls Tryz.prog K #[aggBk x, aggBk y] w1 fun e w2 => e = .returned (.bool (decide (BkW.v x = BkW.v y))) ∧ Below w1.heap.size w1 w2
set_option maxHeartbeats 1000000 in
set_option maxRecDepth 100000 in
theorem EqFBk_any (K : FuncId) (s t : SlW BkW) (w : World) (hs : SlH w w.heap.size 7 cBk (OneBk w w.heap.size) s) (ht : SlH w w.heap.size 7 cBk (OneBk w w.heap.size) t) (hE : Enters Tryz.prog K) (hK : CmpBk K s t w) :
    Calls Tryz.prog 76 #[s.val, t.val, .func (.func K) #[] #[]] w fun e w' => e = .returned (.bool (eqL (s.L.map BkW.v) (t.L.map BkW.v))) ∧ Below w.heap.size w w' := by
  have HX := hide hs
  have HY := hide ht
  have HXL := hide hs.len
  have HYL := hide ht.len
  have HK := hide hK
  have hn := hs.nm
  have hm := ht.nm
  obtain ⟨A, n, c, xs⟩ := s
  obtain ⟨B, m, d, ys⟩ := t
  simp only [] at hn hm
  unfold maxLen at hn hm
  clear hs ht hK
  have en := hE
  unfold Enters at en
  show Calls Tryz.prog 76 #[.slice A n c, .slice B m d, .func (.func K) #[] #[]] w _
  by_cases hnm : n = m
  · subst hnm
    go_enter Tryz.func76, Tryz.ntmps76
    go_wp2
    go_loopw [17] (fun i wr => ∃ j : Nat, i = .int .i64 (j : Int) ∧ j ≤ n ∧ Hid (eqLto BkW.v xs ys j) ∧ Below w.heap.size w wr) (fun i _ => n - (intOf i).toNat)
    case atStart => exact ⟨0, rfl, Nat.zero_le _, hide (eqLto_zero _ _ _), Below.refl _ _⟩
    case round =>
      obtain ⟨j, rfl, hj, HE, hb⟩ := hrel
      have HB := hide hb
      clear hb
      by_cases hlt : j < n
      · obtain ⟨p, hp⟩ := HX.out.get hlt
        obtain ⟨q, hq⟩ := HY.out.get hlt
        obtain ⟨g, o, hA, hg, _, cz⟩ := HX.out.at_ hp
        obtain ⟨g', o', hA', hg', _, dz⟩ := HY.out.at_ hq
        simp only [] at hA hA'
        subst hA
        subst hA'
        have hlt' : (j : Int) < (n : Int) := by omega
        have HB1 := hide (HB.out.alloc HB.out.size (.cells #[.slice p.stmts.A p.stmts.n p.stmts.c, .int .i64 p.term.kind, .slice p.term.targets.A p.term.targets.n p.term.targets.c, .slice p.term.args.A p.term.args.n p.term.args.c, .int .i64 p.term.pl.l, .slice p.term.pl.A p.term.pl.n p.term.pl.c, .string p.term.name] 44))
        have HBQ := hide (HB1.out.alloc HB1.out.size (.cells #[.slice q.stmts.A q.stmts.n q.stmts.c, .int .i64 q.term.kind, .slice q.term.targets.A q.term.targets.n q.term.targets.c, .slice q.term.args.A q.term.args.n q.term.args.c, .int .i64 q.term.pl.l, .slice q.term.pl.A q.term.pl.n q.term.pl.c, .string q.term.name] 44))
        have c0 : wr.cell? ⟨g, o + j * 7, none⟩ = some (.slice p.stmts.A p.stmts.n p.stmts.c) := (HB.out.cell hg).trans (cz 0 _ rfl)
        have c1 : wr.cell? ⟨g, o + j * 7 + 1, none⟩ = some (.int .i64 p.term.kind) := (HB.out.cell hg).trans (cz 1 _ rfl)
        have c2 : wr.cell? ⟨g, o + j * 7 + 2, none⟩ = some (.slice p.term.targets.A p.term.targets.n p.term.targets.c) := (HB.out.cell hg).trans (cz 2 _ rfl)
        have c3 : wr.cell? ⟨g, o + j * 7 + 3, none⟩ = some (.slice p.term.args.A p.term.args.n p.term.args.c) := (HB.out.cell hg).trans (cz 3 _ rfl)
        have c4 : wr.cell? ⟨g, o + j * 7 + 4, none⟩ = some (.int .i64 p.term.pl.l) := (HB.out.cell hg).trans (cz 4 _ rfl)
        have c5 : wr.cell? ⟨g, o + j * 7 + 5, none⟩ = some (.slice p.term.pl.A p.term.pl.n p.term.pl.c) := (HB.out.cell hg).trans (cz 5 _ rfl)
        have c6 : wr.cell? ⟨g, o + j * 7 + 6, none⟩ = some (.string p.term.name) := (HB.out.cell hg).trans (cz 6 _ rfl)
        have d0 : (wr.alloc (.cells #[.slice p.stmts.A p.stmts.n p.stmts.c, .int .i64 p.term.kind, .slice p.term.targets.A p.term.targets.n p.term.targets.c, .slice p.term.args.A p.term.args.n p.term.args.c, .int .i64 p.term.pl.l, .slice p.term.pl.A p.term.pl.n p.term.pl.c, .string p.term.name] 44)).cell? ⟨g', o' + j * 7, none⟩ = some (.slice q.stmts.A q.stmts.n q.stmts.c) := (HB1.out.cell hg').trans (dz 0 _ rfl)
        have d1 : (wr.alloc (.cells #[.slice p.stmts.A p.stmts.n p.stmts.c, .int .i64 p.term.kind, .slice p.term.targets.A p.term.targets.n p.term.targets.c, .slice p.term.args.A p.term.args.n p.term.args.c, .int .i64 p.term.pl.l, .slice p.term.pl.A p.term.pl.n p.term.pl.c, .string p.term.name] 44)).cell? ⟨g', o' + j * 7 + 1, none⟩ = some (.int .i64 q.term.kind) := (HB1.out.cell hg').trans (dz 1 _ rfl)
        have d2 : (wr.alloc (.cells #[.slice p.stmts.A p.stmts.n p.stmts.c, .int .i64 p.term.kind, .slice p.term.targets.A p.term.targets.n p.term.targets.c, .slice p.term.args.A p.term.args.n p.term.args.c, .int .i64 p.term.pl.l, .slice p.term.pl.A p.term.pl.n p.term.pl.c, .string p.term.name] 44)).cell? ⟨g', o' + j * 7 + 2, none⟩ = some (.slice q.term.targets.A q.term.targets.n q.term.targets.c) := (HB1.out.cell hg').trans (dz 2 _ rfl)
        have d3 : (wr.alloc (.cells #[.slice p.stmts.A p.stmts.n p.stmts.c, .int .i64 p.term.kind, .slice p.term.targets.A p.term.targets.n p.term.targets.c, .slice p.term.args.A p.term.args.n p.term.args.c, .int .i64 p.term.pl.l, .slice p.term.pl.A p.term.pl.n p.term.pl.c, .string p.term.name] 44)).cell? ⟨g', o' + j * 7 + 3, none⟩ = some (.slice q.term.args.A q.term.args.n q.term.args.c) := (HB1.out.cell hg').trans (dz 3 _ rfl)
        have d4 : (wr.alloc (.cells #[.slice p.stmts.A p.stmts.n p.stmts.c, .int .i64 p.term.kind, .slice p.term.targets.A p.term.targets.n p.term.targets.c, .slice p.term.args.A p.term.args.n p.term.args.c, .int .i64 p.term.pl.l, .slice p.term.pl.A p.term.pl.n p.term.pl.c, .string p.term.name] 44)).cell? ⟨g', o' + j * 7 + 4, none⟩ = some (.int .i64 q.term.pl.l) := (HB1.out.cell hg').trans (dz 4 _ rfl)
        have d5 : (wr.alloc (.cells #[.slice p.stmts.A p.stmts.n p.stmts.c, .int .i64 p.term.kind, .slice p.term.targets.A p.term.targets.n p.term.targets.c, .slice p.term.args.A p.term.args.n p.term.args.c, .int .i64 p.term.pl.l, .slice p.term.pl.A p.term.pl.n p.term.pl.c, .string p.term.name] 44)).cell? ⟨g', o' + j * 7 + 5, none⟩ = some (.slice q.term.pl.A q.term.pl.n q.term.pl.c) := (HB1.out.cell hg').trans (dz 5 _ rfl)
        have d6 : (wr.alloc (.cells #[.slice p.stmts.A p.stmts.n p.stmts.c, .int .i64 p.term.kind, .slice p.term.targets.A p.term.targets.n p.term.targets.c, .slice p.term.args.A p.term.args.n p.term.args.c, .int .i64 p.term.pl.l, .slice p.term.pl.A p.term.pl.n p.term.pl.c, .string p.term.name] 44)).cell? ⟨g', o' + j * 7 + 6, none⟩ = some (.string q.term.name) := (HB1.out.cell hg').trans (dz 6 _ rfl)
        have HP := hide hp
        have HQ := hide hq
        have HC := hide (HK.out p (List.mem_of_getElem? hp) q (List.mem_of_getElem? hq))
        clear hp hq cz dz
        by_cases hab : BkW.v p = BkW.v q
        · have HE2 := hide (eqLto_up HE.out HP.out HQ.out hab)
          have HD := hide (decide_eq_true hab)
          clear hab
          go_wp2_with fail
          try go_at_fn K
          refine (HC.out _ HBQ.out).mono ?_
          rintro e w1 ⟨rfl, hb0⟩
          have HB2 := hide (HBQ.out.trans (hb0.mono HBQ.out.size))
          rw [HD.out]
          clear hb0
          go_wp2_with fail
          go_roundw
          case rel => exact ⟨j + 1, by go_num, by omega, HE2, HB2.out⟩
          case measure => simp [intOf]; omega
        · have HF := hide (eqL_no HP.out HQ.out hab)
          have HD := hide (decide_eq_false hab)
          clear hab
          go_wp2_with fail
          try go_at_fn K
          refine (HC.out _ HBQ.out).mono ?_
          rintro e w1 ⟨rfl, hb0⟩
          have HB2 := hide (HBQ.out.trans (hb0.mono HBQ.out.size))
          rw [HD.out]
          clear hb0
          go_wp2_with fail
          go_ret
          exact ⟨congrArg (fun v => Ending.returned (.bool v)) HF.out.symm, HB2.out⟩
      · obtain rfl : j = n := by omega
        have HF := hide (eqL_yes HE.out HXL.out HYL.out)
        go_wp2
        go_ret
        exact ⟨congrArg (fun v => Ending.returned (.bool v)) HF.out.symm, HB.out⟩
  · have e1 : ((n : Int) != (m : Int)) = true := by simp; omega
    have HF := hide (eqL_len (f := BkW.v) HXL.out HYL.out hnm)
    go_enter Tryz.func76, Tryz.ntmps76
    go_wp2
    go_ret
    exact ⟨congrArg (fun v => Ending.returned (.bool v)) HF.out.symm, Below.refl _ _⟩

set_option maxHeartbeats 1000000 in
set_option maxRecDepth 100000 in
theorem EqsBk_any (K : FuncId) (s t : SlW BkW) (w : World) (hs : SlH w w.heap.size 7 cBk (OneBk w w.heap.size) s) (ht : SlH w w.heap.size 7 cBk (OneBk w w.heap.size) t) (hE : Enters Tryz.prog K) (hK : CmpBk K s t w) :
    Calls Tryz.prog 35 #[.agg #[s.val, .func (.func K) #[] #[]], t.val] w fun e w' => e = .returned (.bool (eqL (s.L.map BkW.v) (t.L.map BkW.v))) ∧ Below w.heap.size w w' := by
  have hb : Below w.heap.size w (w.alloc (.cells #[s.val, .func (.func K) #[] #[]] 81)) := (Below.refl _ w).alloc (Nat.le_refl _) _
  have HC := hide (EqFBk_any K s t _ ((hs.below hb fun _ h => h.below hb).more hb.size fun _ h => h.more hb.size) ((ht.below hb fun _ h => h.below hb).more hb.size fun _ h => h.more hb.size) hE (fun x hx y hy w1 h1 => hK x hx y hy w1 (hb.trans (h1.mono hb.size))))
  have HB := hide hb
  clear hb hs ht hK hE
  obtain ⟨A, n, c, xs⟩ := s
  obtain ⟨B, m, d, ys⟩ := t
  show Calls Tryz.prog 35 #[.agg #[.slice A n c, .func (.func K) #[] #[]], .slice B m d] w _
  obtain ⟨v, hv⟩ : ∃ v, eqL (xs.map BkW.v) (ys.map BkW.v) = v := ⟨_, rfl⟩
  have HC2 := hide (show _ from hv ▸ HC.out)
  rw [show eqL ((SlW.mk A n c xs).L.map BkW.v) ((SlW.mk B m d ys).L.map BkW.v) = v from hv]
  clear hv HC
  go_enter Tryz.func35, Tryz.ntmps35
  go_wp2_with fail
  refine HC2.out.mono ?_
  rintro e w1 ⟨rfl, hb0⟩
  have HB2 := hide (HB.out.trans (hb0.mono HB.out.size))
  clear hb0
  go_wp2_with fail
  go_ret
  exact ⟨rfl, HB2.out⟩

end Go.Proofs.YtbdimnncobpfdaaGreat

/- The code's comparison of lists by a function: slices.EqualFunc, list.equals, plain. -/
set_option linter.unusedVariables false
namespace Go.Proofs.YtbdimnncobpfdaaGreat
open Go.RowKit Go.Shelf

/-- how its elements are compared -/
def CmpPr (K : FuncId) (s t : SlW Pr) (w : World) : Prop := ∀ x ∈ s.L, ∀ y ∈ t.L, ∀ w1, Below w.heap.size w w1 → Calls Tryz.prog K #[.agg #[.int .i64 x.1, .int .i64 x.2], .agg #[.int .i64 y.1, .int .i64 y.2]] w1 fun e w2 => e = .returned (.bool (decide (x = y))) ∧ Below w1.heap.size w1 w2
set_option maxHeartbeats 1000000 in
set_option maxRecDepth 100000 in
theorem EqFPr_any (K : FuncId) (s t : SlW Pr) (w : World) (hs : SlH w w.heap.size 2 pV (IntP) s) (ht : SlH w w.heap.size 2 pV (IntP) t) (hE : Enters Tryz.prog K) (hK : CmpPr K s t w) :
    Calls Tryz.prog 68 #[s.val, t.val, .func (.func K) #[] #[]] w fun e w' => e = .returned (.bool (eqL s.L t.L)) ∧ Below w.heap.size w w' := by
  have HX := hide hs
  have HY := hide ht
  have HXL := hide hs.len
  have HYL := hide ht.len
  have HK := hide hK
  have hn := hs.nm
  have hm := ht.nm
  obtain ⟨A, n, c, xs⟩ := s
  obtain ⟨B, m, d, ys⟩ := t
  simp only [] at hn hm
  unfold maxLen at hn hm
  clear hs ht hK
  have en := hE
  unfold Enters at en
  show Calls Tryz.prog 68 #[.slice A n c, .slice B m d, .func (.func K) #[] #[]] w _
  by_cases hnm : n = m
  · subst hnm
    go_enter Tryz.func68, Tryz.ntmps68
    go_wp2
    go_loopw [17] (fun i wr => ∃ j : Nat, i = .int .i64 (j : Int) ∧ j ≤ n ∧ Hid (eqLto id xs ys j) ∧ Below w.heap.size w wr) (fun i _ => n - (intOf i).toNat)
    case atStart => exact ⟨0, rfl, Nat.zero_le _, hide (eqLto_zero _ _ _), Below.refl _ _⟩
    case round =>
      obtain ⟨j, rfl, hj, HE, hb⟩ := hrel
      have HB := hide hb
      clear hb
      by_cases hlt : j < n
      · obtain ⟨p, hp⟩ := HX.out.get hlt
        obtain ⟨q, hq⟩ := HY.out.get hlt
        obtain ⟨g, o, hA, hg, _, cz⟩ := HX.out.at_ hp
        obtain ⟨g', o', hA', hg', _, dz⟩ := HY.out.at_ hq
        simp only [] at hA hA'
        subst hA
        subst hA'
        have hlt' : (j : Int) < (n : Int) := by omega
        have HB1 := hide (HB.out.alloc HB.out.size (.cells #[.int .i64 p.1, .int .i64 p.2] 49))
        have HBQ := hide (HB1.out.alloc HB1.out.size (.cells #[.int .i64 q.1, .int .i64 q.2] 49))
        have c0 : wr.cell? ⟨g, o + j * 2, none⟩ = some (.int .i64 p.1) := (HB.out.cell hg).trans (cz 0 _ rfl)
        have c1 : wr.cell? ⟨g, o + j * 2 + 1, none⟩ = some (.int .i64 p.2) := (HB.out.cell hg).trans (cz 1 _ rfl)
        have d0 : (wr.alloc (.cells #[.int .i64 p.1, .int .i64 p.2] 49)).cell? ⟨g', o' + j * 2, none⟩ = some (.int .i64 q.1) := (HB1.out.cell hg').trans (dz 0 _ rfl)
        have d1 : (wr.alloc (.cells #[.int .i64 p.1, .int .i64 p.2] 49)).cell? ⟨g', o' + j * 2 + 1, none⟩ = some (.int .i64 q.2) := (HB1.out.cell hg').trans (dz 1 _ rfl)
        have HP := hide hp
        have HQ := hide hq
        have HC := hide (HK.out p (List.mem_of_getElem? hp) q (List.mem_of_getElem? hq))
        clear hp hq cz dz
        by_cases hab : p = q
        · have HE2 := hide (eqLto_up HE.out HP.out HQ.out hab)
          have HD := hide (decide_eq_true hab)
          clear hab
          go_wp2_with fail
          try go_at_fn K
          refine (HC.out _ HBQ.out).mono ?_
          rintro e w1 ⟨rfl, hb0⟩
          have HB2 := hide (HBQ.out.trans (hb0.mono HBQ.out.size))
          rw [HD.out]
          clear hb0
          go_wp2_with fail
          go_roundw
          case rel => exact ⟨j + 1, by go_num, by omega, HE2, HB2.out⟩
          case measure => simp [intOf]; omega
        · have HF := hide (eqL_noI HP.out HQ.out hab)
          have HD := hide (decide_eq_false hab)
          clear hab
          go_wp2_with fail
          try go_at_fn K
          refine (HC.out _ HBQ.out).mono ?_
          rintro e w1 ⟨rfl, hb0⟩
          have HB2 := hide (HBQ.out.trans (hb0.mono HBQ.out.size))
          rw [HD.out]
          clear hb0
          go_wp2_with fail
          go_ret
          exact ⟨congrArg (fun v => Ending.returned (.bool v)) HF.out.symm, HB2.out⟩
      · obtain rfl : j = n := by omega
        have HF := hide (eqL_yesI HE.out HXL.out HYL.out)
        go_wp2
        go_ret
        exact ⟨congrArg (fun v => Ending.returned (.bool v)) HF.out.symm, HB.out⟩
  · have e1 : ((n : Int) != (m : Int)) = true := by simp; omega
    have HF := hide (eqL_lenI HXL.out HYL.out hnm)
    go_enter Tryz.func68, Tryz.ntmps68
    go_wp2
    go_ret
    exact ⟨congrArg (fun v => Ending.returned (.bool v)) HF.out.symm, Below.refl _ _⟩

set_option maxHeartbeats 1000000 in
set_option maxRecDepth 100000 in
theorem EqsPr_any (K : FuncId) (s t : SlW Pr) (w : World) (hs : SlH w w.heap.size 2 pV (IntP) s) (ht : SlH w w.heap.size 2 pV (IntP) t) (hE : Enters Tryz.prog K) (hK : CmpPr K s t w) :
    Calls Tryz.prog 29 #[.agg #[s.val, .func (.func K) #[] #[]], t.val] w fun e w' => e = .returned (.bool (eqL s.L t.L)) ∧ Below w.heap.size w w' := by
  have hb : Below w.heap.size w (w.alloc (.cells #[s.val, .func (.func K) #[] #[]] 67)) := (Below.refl _ w).alloc (Nat.le_refl _) _
  have HC := hide (EqFPr_any K s t _ ((hs.below hb fun _ h => h).more hb.size fun _ h => h) ((ht.below hb fun _ h => h).more hb.size fun _ h => h) hE (fun x hx y hy w1 h1 => hK x hx y hy w1 (hb.trans (h1.mono hb.size))))
  have HB := hide hb
  clear hb hs ht hK hE
  obtain ⟨A, n, c, xs⟩ := s
  obtain ⟨B, m, d, ys⟩ := t
  show Calls Tryz.prog 29 #[.agg #[.slice A n c, .func (.func K) #[] #[]], .slice B m d] w _
  obtain ⟨v, hv⟩ : ∃ v, eqL xs ys = v := ⟨_, rfl⟩
  have HC2 := hide (show _ from hv ▸ HC.out)
  rw [show eqL (SlW.mk A n c xs).L (SlW.mk B m d ys).L = v from hv]
  clear hv HC
  go_enter Tryz.func29, Tryz.ntmps29
  go_wp2_with fail
  refine HC2.out.mono ?_
  rintro e w1 ⟨rfl, hb0⟩
  have HB2 := hide (HB.out.trans (hb0.mono HB.out.size))
  clear hb0
  go_wp2_with fail
  go_ret
  exact ⟨rfl, HB2.out⟩


theorem PlainPr_any (s : SlW Pr) (w : World) :
    Calls Tryz.prog 28 #[s.val] w fun e w' => e = .returned (.agg #[s.val, .func (.func 67) #[] #[]]) ∧ Below w.heap.size w w' := by
  have HB := hide ((Below.refl _ w).alloc (Nat.le_refl _) (.cells #[s.val, .func (.func 67) #[] #[]] 67))
  obtain ⟨A, n, c, xs⟩ := s
  show Calls Tryz.prog 28 #[.slice A n c] w _
  go_enter Tryz.func28, Tryz.ntmps28
  go_wp2
  refine bodyPost_ret (results_cell_row rfl _ _ w.heap.size _ #[.slice A n c, .func (.func 67) #[] #[]] (0, 0) _ rfl (heap_alloc_new w _) Tryz.underlying67 rfl (by kernel_rfl)) rfl ⟨rfl, HB.out⟩
set_option maxHeartbeats 1000000 in
theorem CmpPr_plain (x y : Pr) (w : World) :
    Calls Tryz.prog 67 #[.agg #[.int .i64 x.1, .int .i64 x.2], .agg #[.int .i64 y.1, .int .i64 y.2]] w fun e w' => e = .returned (.bool (decide (x = y))) ∧ Below w.heap.size w w' := by
  obtain ⟨a, b⟩ := x
  obtain ⟨a', b'⟩ := y
  obtain ⟨v, hv⟩ : ∃ v, decide (a = a' ∧ b = b') = v := ⟨_, rfl⟩
  rw [show decide ((a, b) = (a', b')) = v from by rw [← hv]; simp]
  have HB := hide (((Below.refl w.heap.size w).alloc (Nat.le_refl _) (.cells #[.int .i64 a, .int .i64 b] 49)).alloc (by simp) (.cells #[.int .i64 a', .int .i64 b'] 49))
  have hq := fun w => eqPair a b a' b' w hv
  have HQ := hide hq
  clear hv
  go_enter Tryz.func67, Tryz.ntmps67
  go_wp2
  go_ret
  exact ⟨rfl, ((Below.refl _ w).alloc (Nat.le_refl _) _).alloc (by simp) _⟩

end Go.Proofs.YtbdimnncobpfdaaGreat
