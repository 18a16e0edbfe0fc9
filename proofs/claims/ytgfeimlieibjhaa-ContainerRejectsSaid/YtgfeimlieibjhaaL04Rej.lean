/- ContainerRejects: for every input the law returns true, and turns nothing that lay. No condition. -/
import Derived.Test.YtgfeimlieibjhaaRows
import Derived.Test.YtgfeimlieibjhaaAlive04
import Derived.Test.YtgfeimlieibjhaaLaw04
import Derived.Test.YtgfeimlieibjhaaOpenS
set_option linter.unusedVariables false
namespace Go.Proofs.Ytgfeimlieibjhaa.containerRejects
open Go.ChangeShapes Go.WideShapes Go.ChangeAt Go.RowKit

theorem last_nil (L : List Sec) (h : L.length = 0) : lastId 0 L = 0 := by
  obtain rfl := List.eq_nil_of_length_eq_zero h
  rfl
theorem last_at {L : List SecW} {n : Nat} {x : SecW} (hl : L.length = n + 1) (hx : L[n]? = some x) : lastId 0 (vals L) = x.id := by
  have : L = L.take n ++ [x] := by
    conv => lhs; rw [← List.take_append_drop n L, drop_cons hx, List.drop_of_length_le (by omega)]
  rw [this]
  unfold vals
  rw [List.map_append]
  exact lastId_app _ _ _

set_option maxHeartbeats 8000000 in
set_option maxRecDepth 100000 in
theorem walk (A1 : Option Addr) (n1 c1 : Nat) (L : List SecW) (a : Int) (w : World) (h1 : ArgS w A1 n1 c1 L) (h2 : 0 ≤ a ∧ a ≤ 255) :
    Calls Try.prog 8 #[.slice A1 n1 c1, .int .u8 a] w fun e w' => e = .returned (.bool true) ∧ Below w.heap.size w w' := by
  obtain ⟨i0, hi, hz0, hz1, hz2⟩ := info_parts infoU8
  have hnm : n1 ≤ maxLen := Nat.le_trans h1.nc h1.cm
  have hT := hide (tooLarge_any A1 n1 c1 L w h1.secs hnm)
  by_cases hbig : bigS (vals L) = true
  · rw [hbig] at hT
    clear h1 hbig hnm
    go_enter Try.func8, Try.ntmps8
    go_wp2_with fail
    refine hT.out.mono ?_
    rintro e w1 ⟨rfl, hb⟩
    go_wp2_with fail
    refine (alive04_any _).mono ?_
    rintro e w2 ⟨rfl, hb2⟩
    go_wp2_with fail
    go_ret
    exact ⟨rfl, hb.trans (hb2.mono hb.size)⟩
  · have hsm : secsW (vals L) ≤ 5000 := by
      unfold bigS at hbig
      simpa using hbig
    rw [show bigS (vals L) = false by simpa using hbig] at hT
    have hn1 : n1 ≤ 5000 := by have := (small_len hsm).1; rw [List.length_map, h1.secs.len] at this; exact this
    have hen := encC_len hsm
    have hbs : ∀ s ∈ vals L, Byt s.2 := fun s hs => by obtain ⟨x, hx, rfl⟩ := List.mem_map.1 hs; exact (h1.secs.2 x hx).1.byt
    have hbs2 : ∀ s ∈ vals L, Byt s.2 ∧ s.2.length < 2 ^ 64 := fun s hs => ⟨hbs s hs, by have := (small_len hsm).2.1 s hs; omega⟩
    have hnc1 := h1.nc
    have HSec := hide h1.secs
    have HC := hide fun w' (hb : Below w.heap.size w w') => convert_any A1 n1 c1 L w' ((h1.secs.below hb).more hb.size) hn1 h1.zero
    have HW := hide fun w' A c' (hs : Secs w' w'.heap.size 4 c4 A n1 L) => RefWrite_any A n1 c' L w' hs (by unfold maxLen; omega) (by omega)
    rcases ho : ordL 0 (vals L) with _ | _
    · have e1 : wrE (vals L) = 2 := by unfold wrE; rw [ho]; rfl
      rw [e1] at HW
      clear h1 hbig hnm hsm hen hbs hbs2 e1 ho
      go_enter Try.func8, Try.ntmps8
      go_wp2_with fail
      refine hT.out.mono ?_
      rintro e w1 ⟨rfl, hb1⟩
      have B1 := hide hb1
      clear hb1
      go_wp2_with fail
      refine (HC.out w1 B1.out).mono ?_
      rintro e w2 ⟨A2, d2, A3, d3, rfl, _, _, _, _, hs2, hs3, hb2⟩
      have B2 := hide (B1.out.trans (hb2.mono B1.out.size))
      have S3 := hide hs3
      clear hb2 hs2 hs3
      go_wp2_with fail
      refine (HW.out w2 A3 d3 S3.out).mono ?_
      rintro e w3 ⟨v3, rfl, hob3, hb3⟩
      obtain ⟨A4, n4, c4', rfl, _, _, _, _, HN4⟩ := hob3.var
      have B3 := hide (B2.out.trans (hb3.mono B2.out.size))
      clear hb3 hob3
      go_wp2_with fail
      refine (alive04_any _).mono ?_
      rintro e w5 ⟨rfl, hb5⟩
      have B5 := hide (B3.out.trans (hb5.mono B3.out.size))
      clear hb5
      go_wp2_with fail
      go_ret
      exact ⟨rfl, B5.out⟩
    · have e1 : wrE (vals L) = 0 := by unfold wrE; rw [ho]; rfl
      have e2 : wrB (vals L) = encC (vals L) := by unfold wrB; rw [ho]; rfl
      rw [e1, e2] at HW
      have hbe := encC_byt ho hbs
      have hge : 5 ≤ (encC (vals L)).length := by unfold encC magicL; simp
      have HM := hide (rdE_more ho hbs2 a)
      have HR1 := hide fun w' A n c' (hr : Rd w' w'.heap.size A n (u8s (encC (vals L) ++ [a]))) (hn : n ≤ c') (hc : c' ≤ maxLen) => Read_any A n c' _ w' hr (hbe.append (Byt.cons h2.1 (by omega) Byt.nil)) hn hc (by have := hr.1; simp only [List.length_map, List.length_append, List.length_cons, List.length_nil] at this; omega)
      have HR2 := hide fun w' A n c' (hr : Rd w' w'.heap.size A n (u8s ((encC (vals L)).take ((encC (vals L)).length - 1)))) (hn : n ≤ c') (hc : c' ≤ maxLen) => Read_any A n c' _ w' hr (hbe.take _) hn hc (by have := hr.1; simp only [List.length_map, List.length_take] at this; omega)
      rw [rdE_less ho hbs2] at HR2
      rw [HM.out] at HR1
      have hlg := lastId_ge ho
      have hlast : Hid (0 ≤ lastId 0 (vals L) ∧ lastId 0 (vals L) ≤ 127) := ⟨hlg.1, hlg.2 (by decide)⟩
      have HL0 := hide h1.secs.len
      clear h1 hbig hnm hsm hbs hbs2 e1 e2 ho hbe HM hlg
      generalize encC (vals L) = xs at *
      have Hge := hide hge
      have Hen := hide hen
      clear hge hen
      by_cases hn0 : n1 = 0
      · have hl0 : lastId 0 (vals L) = 0 := last_nil _ (by rw [List.length_map, HL0.out, hn0])
        rw [hl0] at HR1
        subst hn0
        rcases hf : folB a 0 with _ | _
        · rw [hf, if_neg (by decide)] at HR1
          have hno := folB_no hf
          clear hf
          rcases hno with g1 | ⟨g1, g2⟩
          · have g3 : ¬ 0 < a := by omega
            go_enter Try.func8, Try.ntmps8
            go_wp2_with fail
            refine hT.out.mono ?_
            rintro e w1 ⟨rfl, hb1⟩
            have B1 := hide hb1
            clear hb1
            go_wp2_with fail
            refine (HC.out w1 B1.out).mono ?_
            rintro e w2 ⟨A2, d2, A3, d3, rfl, _, _, _, _, hs2, hs3, hb2⟩
            have B2 := hide (B1.out.trans (hb2.mono B1.out.size))
            have S3 := hide hs3
            clear hb2 hs2 hs3
            go_wp2_with fail
            refine (HW.out w2 A3 d3 S3.out).mono ?_
            rintro e w3 ⟨v3, rfl, hob3, hb3⟩
            obtain ⟨A4, n4, c4', rfl, hnc4, hcm4, hr4, _, HN4⟩ := hob3.var
            have hnn : n4 = xs.length := HN4.out
            obtain ⟨m, rfl⟩ : ∃ m, n4 = m + 1 := ⟨n4 - 1, by have := Hge.out; omega⟩
            have hmb : m ≤ 90000 := by have := Hen.out; omega
            have hmx := hide (show xs.length - 1 = m by omega)
            have hbase := hide hb3.size
            have B3 := hide (B2.out.trans (hb3.mono B2.out.size))
            have R4 := hide hr4
            have hs3 := B3.out.size
            have HCM := hide hcm4
            unfold maxLen at hcm4
            clear hb3 hob3 hr4 hnn HN4
            go_wp2_with (first
              | (at_builtin; refine wpList_append_rd _ rfl (.tmp 32) (.tmp 33) 29 rfl w3.heap.size 5 i0 (.int .u8 0) 1 Try.underlying29 hi hz0 hz1 hz2 rfl _ 0 [] rfl (own_empty w3) w3.heap.size A4 (m + 1) c4' (u8s xs) rfl (R4.out.alloc (Nat.le_refl _) _) (ints_oneCell _ _) (by unfold maxLen; omega) (by omega) (by simp) ?_; intro v5 w5 hown5 hg5 hat5; simp only [Nat.zero_add, List.nil_append] at hown5; have hb5 := hide (below_app ((Below.refl w3.heap.size w3).alloc (Nat.le_refl _) _) (own_empty w3) (by simp) hg5); have HO5 := hide hown5; have hs5 := hb5.out.size; clear hg5 hat5 hown5)
              | (at_builtin; refine wpList_append_rd _ rfl (.tmp 34) (.tmp 36) 29 rfl w3.heap.size 5 i0 (.int .u8 0) 1 Try.underlying29 hi hz0 hz1 hz2 rfl _ (m + 1) (u8s xs) rfl (HO5.out.alloc _) (w5.heap.size + 1) _ 1 1 (u8s [a]) rfl (Rd_lit w5 [a] 5) (ints_oneCell _ _) (by unfold maxLen; omega) (by omega) (by simp; omega) ?_; intro v6 w6 hown6 hg6 hat6; have hb6 := hide (below_app (hb5.out.alloc hs5 (.cells #[.int .u8 a] 5)) (HO5.out.alloc _) (by simp; omega) hg6); obtain ⟨A6, d6, rfl, hn6, hm6⟩ := row_slice hown6; have R6 := hide (show Rd w6 w6.heap.size A6 (m + 1 + 1) (u8s (xs ++ [a])) by have h := Rd.of_own hown6; rwa [← List.map_append] at h); clear hg6 hat6 hown6))
            refine (HR1.out w6 A6 (m + 1 + 1) d6 R6.out hn6 hm6).mono ?_
            rintro e w7 ⟨v7, rfl, hc7, hb7⟩
            obtain ⟨A7, n7, d7, L7, rfl, _, _, _, _⟩ := hc7.secs
            have hb37 := hb6.out.trans (hb7.mono hb6.out.size)
            have B7 := hide (B3.out.trans (hb37.mono hs3))
            have R47 := hide (((R4.out.below hb37).more hb37.size).to_ (k := m) (by omega))
            have hm0 : (0 : Int) ≤ (m : Int) := by omega
            have hm1 : m ≤ c4' := by omega
            clear hb7 hb37 hc7
            go_wp2_with fail
            refine (HR2.out w7 A4 m c4' (by rw [hmx.out]; have h := R47.out; rwa [← List.map_take] at h) hm1 HCM.out).mono ?_
            rintro e w8 ⟨v8, rfl, hc8, hb8⟩
            obtain ⟨A8, n8, d8, L8, rfl, _, _, _, _⟩ := hc8.secs
            have B8 := hide (B7.out.trans (hb8.mono B7.out.size))
            clear hb8 hc8
            go_wp2_with fail
            refine (alive04_any _).mono ?_
            rintro e w9 ⟨rfl, hb9⟩
            have B9 := hide (B8.out.trans (hb9.mono B8.out.size))
            clear hb9
            go_wp2_with fail
            go_ret
            exact ⟨rfl, B9.out⟩
          · have g3 : ¬ a < 128 := by omega
            go_enter Try.func8, Try.ntmps8
            go_wp2_with fail
            refine hT.out.mono ?_
            rintro e w1 ⟨rfl, hb1⟩
            have B1 := hide hb1
            clear hb1
            go_wp2_with fail
            refine (HC.out w1 B1.out).mono ?_
            rintro e w2 ⟨A2, d2, A3, d3, rfl, _, _, _, _, hs2, hs3, hb2⟩
            have B2 := hide (B1.out.trans (hb2.mono B1.out.size))
            have S3 := hide hs3
            clear hb2 hs2 hs3
            go_wp2_with fail
            refine (HW.out w2 A3 d3 S3.out).mono ?_
            rintro e w3 ⟨v3, rfl, hob3, hb3⟩
            obtain ⟨A4, n4, c4', rfl, hnc4, hcm4, hr4, _, HN4⟩ := hob3.var
            have hnn : n4 = xs.length := HN4.out
            obtain ⟨m, rfl⟩ : ∃ m, n4 = m + 1 := ⟨n4 - 1, by have := Hge.out; omega⟩
            have hmb : m ≤ 90000 := by have := Hen.out; omega
            have hmx := hide (show xs.length - 1 = m by omega)
            have hbase := hide hb3.size
            have B3 := hide (B2.out.trans (hb3.mono B2.out.size))
            have R4 := hide hr4
            have hs3 := B3.out.size
            have HCM := hide hcm4
            unfold maxLen at hcm4
            clear hb3 hob3 hr4 hnn HN4
            go_wp2_with (first
              | (at_builtin; refine wpList_append_rd _ rfl (.tmp 32) (.tmp 33) 29 rfl w3.heap.size 5 i0 (.int .u8 0) 1 Try.underlying29 hi hz0 hz1 hz2 rfl _ 0 [] rfl (own_empty w3) w3.heap.size A4 (m + 1) c4' (u8s xs) rfl (R4.out.alloc (Nat.le_refl _) _) (ints_oneCell _ _) (by unfold maxLen; omega) (by omega) (by simp) ?_; intro v5 w5 hown5 hg5 hat5; simp only [Nat.zero_add, List.nil_append] at hown5; have hb5 := hide (below_app ((Below.refl w3.heap.size w3).alloc (Nat.le_refl _) _) (own_empty w3) (by simp) hg5); have HO5 := hide hown5; have hs5 := hb5.out.size; clear hg5 hat5 hown5)
              | (at_builtin; refine wpList_append_rd _ rfl (.tmp 34) (.tmp 36) 29 rfl w3.heap.size 5 i0 (.int .u8 0) 1 Try.underlying29 hi hz0 hz1 hz2 rfl _ (m + 1) (u8s xs) rfl (HO5.out.alloc _) (w5.heap.size + 1) _ 1 1 (u8s [a]) rfl (Rd_lit w5 [a] 5) (ints_oneCell _ _) (by unfold maxLen; omega) (by omega) (by simp; omega) ?_; intro v6 w6 hown6 hg6 hat6; have hb6 := hide (below_app (hb5.out.alloc hs5 (.cells #[.int .u8 a] 5)) (HO5.out.alloc _) (by simp; omega) hg6); obtain ⟨A6, d6, rfl, hn6, hm6⟩ := row_slice hown6; have R6 := hide (show Rd w6 w6.heap.size A6 (m + 1 + 1) (u8s (xs ++ [a])) by have h := Rd.of_own hown6; rwa [← List.map_append] at h); clear hg6 hat6 hown6))
            refine (HR1.out w6 A6 (m + 1 + 1) d6 R6.out hn6 hm6).mono ?_
            rintro e w7 ⟨v7, rfl, hc7, hb7⟩
            obtain ⟨A7, n7, d7, L7, rfl, _, _, _, _⟩ := hc7.secs
            have hb37 := hb6.out.trans (hb7.mono hb6.out.size)
            have B7 := hide (B3.out.trans (hb37.mono hs3))
            have R47 := hide (((R4.out.below hb37).more hb37.size).to_ (k := m) (by omega))
            have hm0 : (0 : Int) ≤ (m : Int) := by omega
            have hm1 : m ≤ c4' := by omega
            clear hb7 hb37 hc7
            go_wp2_with fail
            refine (HR2.out w7 A4 m c4' (by rw [hmx.out]; have h := R47.out; rwa [← List.map_take] at h) hm1 HCM.out).mono ?_
            rintro e w8 ⟨v8, rfl, hc8, hb8⟩
            obtain ⟨A8, n8, d8, L8, rfl, _, _, _, _⟩ := hc8.secs
            have B8 := hide (B7.out.trans (hb8.mono B7.out.size))
            clear hb8 hc8
            go_wp2_with fail
            refine (alive04_any _).mono ?_
            rintro e w9 ⟨rfl, hb9⟩
            have B9 := hide (B8.out.trans (hb9.mono B8.out.size))
            clear hb9
            go_wp2_with fail
            go_ret
            exact ⟨rfl, B9.out⟩
        · rw [hf, if_pos rfl] at HR1
          obtain ⟨g1, g2⟩ := folB_iff.1 hf
          have g3 : a < 128 := by omega
          clear hf
          go_enter Try.func8, Try.ntmps8
          go_wp2_with fail
          refine hT.out.mono ?_
          rintro e w1 ⟨rfl, hb1⟩
          have B1 := hide hb1
          clear hb1
          go_wp2_with fail
          refine (HC.out w1 B1.out).mono ?_
          rintro e w2 ⟨A2, d2, A3, d3, rfl, _, _, _, _, hs2, hs3, hb2⟩
          have B2 := hide (B1.out.trans (hb2.mono B1.out.size))
          have S3 := hide hs3
          clear hb2 hs2 hs3
          go_wp2_with fail
          refine (HW.out w2 A3 d3 S3.out).mono ?_
          rintro e w3 ⟨v3, rfl, hob3, hb3⟩
          obtain ⟨A4, n4, c4', rfl, hnc4, hcm4, hr4, _, HN4⟩ := hob3.var
          have hnn : n4 = xs.length := HN4.out
          obtain ⟨m, rfl⟩ : ∃ m, n4 = m + 1 := ⟨n4 - 1, by have := Hge.out; omega⟩
          have hmb : m ≤ 90000 := by have := Hen.out; omega
          have hmx := hide (show xs.length - 1 = m by omega)
          have hbase := hide hb3.size
          have B3 := hide (B2.out.trans (hb3.mono B2.out.size))
          have R4 := hide hr4
          have hs3 := B3.out.size
          have HCM := hide hcm4
          unfold maxLen at hcm4
          clear hb3 hob3 hr4 hnn HN4
          go_wp2_with (first
            | (at_builtin; refine wpList_append_rd _ rfl (.tmp 32) (.tmp 33) 29 rfl w3.heap.size 5 i0 (.int .u8 0) 1 Try.underlying29 hi hz0 hz1 hz2 rfl _ 0 [] rfl (own_empty w3) w3.heap.size A4 (m + 1) c4' (u8s xs) rfl (R4.out.alloc (Nat.le_refl _) _) (ints_oneCell _ _) (by unfold maxLen; omega) (by omega) (by simp) ?_; intro v5 w5 hown5 hg5 hat5; simp only [Nat.zero_add, List.nil_append] at hown5; have hb5 := hide (below_app ((Below.refl w3.heap.size w3).alloc (Nat.le_refl _) _) (own_empty w3) (by simp) hg5); have HO5 := hide hown5; have hs5 := hb5.out.size; clear hg5 hat5 hown5)
            | (at_builtin; refine wpList_append_rd _ rfl (.tmp 34) (.tmp 36) 29 rfl w3.heap.size 5 i0 (.int .u8 0) 1 Try.underlying29 hi hz0 hz1 hz2 rfl _ (m + 1) (u8s xs) rfl (HO5.out.alloc _) (w5.heap.size + 1) _ 1 1 (u8s [a]) rfl (Rd_lit w5 [a] 5) (ints_oneCell _ _) (by unfold maxLen; omega) (by omega) (by simp; omega) ?_; intro v6 w6 hown6 hg6 hat6; have hb6 := hide (below_app (hb5.out.alloc hs5 (.cells #[.int .u8 a] 5)) (HO5.out.alloc _) (by simp; omega) hg6); obtain ⟨A6, d6, rfl, hn6, hm6⟩ := row_slice hown6; have R6 := hide (show Rd w6 w6.heap.size A6 (m + 1 + 1) (u8s (xs ++ [a])) by have h := Rd.of_own hown6; rwa [← List.map_append] at h); clear hg6 hat6 hown6))
          refine (HR1.out w6 A6 (m + 1 + 1) d6 R6.out hn6 hm6).mono ?_
          rintro e w7 ⟨v7, rfl, hc7, hb7⟩
          obtain ⟨A7, n7, d7, L7, rfl, _, _, _, _⟩ := hc7.secs
          have hb37 := hb6.out.trans (hb7.mono hb6.out.size)
          have B7 := hide (B3.out.trans (hb37.mono hs3))
          have R47 := hide (((R4.out.below hb37).more hb37.size).to_ (k := m) (by omega))
          have hm0 : (0 : Int) ≤ (m : Int) := by omega
          have hm1 : m ≤ c4' := by omega
          clear hb7 hb37 hc7
          go_wp2_with fail
          refine (HR2.out w7 A4 m c4' (by rw [hmx.out]; have h := R47.out; rwa [← List.map_take] at h) hm1 HCM.out).mono ?_
          rintro e w8 ⟨v8, rfl, hc8, hb8⟩
          obtain ⟨A8, n8, d8, L8, rfl, _, _, _, _⟩ := hc8.secs
          have B8 := hide (B7.out.trans (hb8.mono B7.out.size))
          clear hb8 hc8
          go_wp2_with fail
          refine (alive04_any _).mono ?_
          rintro e w9 ⟨rfl, hb9⟩
          have B9 := hide (B8.out.trans (hb9.mono B8.out.size))
          clear hb9
          go_wp2_with fail
          go_ret
          exact ⟨rfl, B9.out⟩
      · obtain ⟨q, rfl⟩ : ∃ q, n1 = q + 1 := ⟨n1 - 1, by omega⟩
        have hex : ∃ x, L[q]? = some x := ⟨_, List.getElem?_eq_getElem (by rw [HL0.out]; omega)⟩
        obtain ⟨x, hx⟩ := hex
        have hl0 : lastId 0 (vals L) = x.id := last_at HL0.out hx
        rw [hl0] at HR1 hlast
        have hl1 := hlast.out.1
        have hl2 := hlast.out.2
        obtain ⟨b, o, rfl, hbB, _, _, cc0, _⟩ := HSec.out.at2 hx
        have HX := hide fun w' (hb : Below w.heap.size w w') => (hb.cell (p := ⟨b, o + q * 2, none⟩) hbB).trans cc0
        generalize x.id = lst at *
        clear hx hl0 cc0 hn0
        rcases hf : folB a lst with _ | _
        · rw [hf, if_neg (by decide)] at HR1
          have hno := folB_no hf
          clear hf
          rcases hno with g1 | ⟨g1, g2⟩
          · have g3 : ¬ lst < a := by omega
            go_enter Try.func8, Try.ntmps8
            go_wp2_with fail
            refine hT.out.mono ?_
            rintro e w1 ⟨rfl, hb1⟩
            have B1 := hide hb1
            clear hb1
            go_wp2_with fail
            refine (HC.out w1 B1.out).mono ?_
            rintro e w2 ⟨A2, d2, A3, d3, rfl, _, _, _, _, hs2, hs3, hb2⟩
            have B2 := hide (B1.out.trans (hb2.mono B1.out.size))
            have S3 := hide hs3
            clear hb2 hs2 hs3
            go_wp2_with fail
            refine (HW.out w2 A3 d3 S3.out).mono ?_
            rintro e w3 ⟨v3, rfl, hob3, hb3⟩
            obtain ⟨A4, n4, c4', rfl, hnc4, hcm4, hr4, _, HN4⟩ := hob3.var
            have hnn : n4 = xs.length := HN4.out
            obtain ⟨m, rfl⟩ : ∃ m, n4 = m + 1 := ⟨n4 - 1, by have := Hge.out; omega⟩
            have hmb : m ≤ 90000 := by have := Hen.out; omega
            have hmx := hide (show xs.length - 1 = m by omega)
            have hbase := hide hb3.size
            have B3 := hide (B2.out.trans (hb3.mono B2.out.size))
            have R4 := hide hr4
            have hs3 := B3.out.size
            have HCM := hide hcm4
            unfold maxLen at hcm4
            clear hb3 hob3 hr4 hnn HN4
            go_wp2_with (first
              | (at_builtin; refine wpList_append_rd _ rfl (.tmp 32) (.tmp 33) 29 rfl w3.heap.size 5 i0 (.int .u8 0) 1 Try.underlying29 hi hz0 hz1 hz2 rfl _ 0 [] rfl (own_empty w3) w3.heap.size A4 (m + 1) c4' (u8s xs) rfl (R4.out.alloc (Nat.le_refl _) _) (ints_oneCell _ _) (by unfold maxLen; omega) (by omega) (by simp) ?_; intro v5 w5 hown5 hg5 hat5; simp only [Nat.zero_add, List.nil_append] at hown5; have hb5 := hide (below_app ((Below.refl w3.heap.size w3).alloc (Nat.le_refl _) _) (own_empty w3) (by simp) hg5); have HO5 := hide hown5; have hs5 := hb5.out.size; clear hg5 hat5 hown5)
              | (at_builtin; refine wpList_append_rd _ rfl (.tmp 34) (.tmp 36) 29 rfl w3.heap.size 5 i0 (.int .u8 0) 1 Try.underlying29 hi hz0 hz1 hz2 rfl _ (m + 1) (u8s xs) rfl (HO5.out.alloc _) (w5.heap.size + 1) _ 1 1 (u8s [a]) rfl (Rd_lit w5 [a] 5) (ints_oneCell _ _) (by unfold maxLen; omega) (by omega) (by simp; omega) ?_; intro v6 w6 hown6 hg6 hat6; have hb6 := hide (below_app (hb5.out.alloc hs5 (.cells #[.int .u8 a] 5)) (HO5.out.alloc _) (by simp; omega) hg6); obtain ⟨A6, d6, rfl, hn6, hm6⟩ := row_slice hown6; have R6 := hide (show Rd w6 w6.heap.size A6 (m + 1 + 1) (u8s (xs ++ [a])) by have h := Rd.of_own hown6; rwa [← List.map_append] at h); clear hg6 hat6 hown6))
            refine (HR1.out w6 A6 (m + 1 + 1) d6 R6.out hn6 hm6).mono ?_
            rintro e w7 ⟨v7, rfl, hc7, hb7⟩
            obtain ⟨A7, n7, d7, L7, rfl, _, _, _, _⟩ := hc7.secs
            have hb37 := hb6.out.trans (hb7.mono hb6.out.size)
            have B7 := hide (B3.out.trans (hb37.mono hs3))
            have R47 := hide (((R4.out.below hb37).more hb37.size).to_ (k := m) (by omega))
            have hm0 : (0 : Int) ≤ (m : Int) := by omega
            have hm1 : m ≤ c4' := by omega
            clear hb7 hb37 hc7
            go_wp2_with fail
            refine (HR2.out w7 A4 m c4' (by rw [hmx.out]; have h := R47.out; rwa [← List.map_take] at h) hm1 HCM.out).mono ?_
            rintro e w8 ⟨v8, rfl, hc8, hb8⟩
            obtain ⟨A8, n8, d8, L8, rfl, _, _, _, _⟩ := hc8.secs
            have B8 := hide (B7.out.trans (hb8.mono B7.out.size))
            clear hb8 hc8
            have hcx := HX.out w8 B8.out
            go_wp2_with fail
            refine (alive04_any _).mono ?_
            rintro e w9 ⟨rfl, hb9⟩
            have B9 := hide (B8.out.trans (hb9.mono B8.out.size))
            clear hb9
            go_wp2_with fail
            go_ret
            exact ⟨rfl, B9.out⟩
          · have g3 : ¬ a < 128 := by omega
            go_enter Try.func8, Try.ntmps8
            go_wp2_with fail
            refine hT.out.mono ?_
            rintro e w1 ⟨rfl, hb1⟩
            have B1 := hide hb1
            clear hb1
            go_wp2_with fail
            refine (HC.out w1 B1.out).mono ?_
            rintro e w2 ⟨A2, d2, A3, d3, rfl, _, _, _, _, hs2, hs3, hb2⟩
            have B2 := hide (B1.out.trans (hb2.mono B1.out.size))
            have S3 := hide hs3
            clear hb2 hs2 hs3
            go_wp2_with fail
            refine (HW.out w2 A3 d3 S3.out).mono ?_
            rintro e w3 ⟨v3, rfl, hob3, hb3⟩
            obtain ⟨A4, n4, c4', rfl, hnc4, hcm4, hr4, _, HN4⟩ := hob3.var
            have hnn : n4 = xs.length := HN4.out
            obtain ⟨m, rfl⟩ : ∃ m, n4 = m + 1 := ⟨n4 - 1, by have := Hge.out; omega⟩
            have hmb : m ≤ 90000 := by have := Hen.out; omega
            have hmx := hide (show xs.length - 1 = m by omega)
            have hbase := hide hb3.size
            have B3 := hide (B2.out.trans (hb3.mono B2.out.size))
            have R4 := hide hr4
            have hs3 := B3.out.size
            have HCM := hide hcm4
            unfold maxLen at hcm4
            clear hb3 hob3 hr4 hnn HN4
            go_wp2_with (first
              | (at_builtin; refine wpList_append_rd _ rfl (.tmp 32) (.tmp 33) 29 rfl w3.heap.size 5 i0 (.int .u8 0) 1 Try.underlying29 hi hz0 hz1 hz2 rfl _ 0 [] rfl (own_empty w3) w3.heap.size A4 (m + 1) c4' (u8s xs) rfl (R4.out.alloc (Nat.le_refl _) _) (ints_oneCell _ _) (by unfold maxLen; omega) (by omega) (by simp) ?_; intro v5 w5 hown5 hg5 hat5; simp only [Nat.zero_add, List.nil_append] at hown5; have hb5 := hide (below_app ((Below.refl w3.heap.size w3).alloc (Nat.le_refl _) _) (own_empty w3) (by simp) hg5); have HO5 := hide hown5; have hs5 := hb5.out.size; clear hg5 hat5 hown5)
              | (at_builtin; refine wpList_append_rd _ rfl (.tmp 34) (.tmp 36) 29 rfl w3.heap.size 5 i0 (.int .u8 0) 1 Try.underlying29 hi hz0 hz1 hz2 rfl _ (m + 1) (u8s xs) rfl (HO5.out.alloc _) (w5.heap.size + 1) _ 1 1 (u8s [a]) rfl (Rd_lit w5 [a] 5) (ints_oneCell _ _) (by unfold maxLen; omega) (by omega) (by simp; omega) ?_; intro v6 w6 hown6 hg6 hat6; have hb6 := hide (below_app (hb5.out.alloc hs5 (.cells #[.int .u8 a] 5)) (HO5.out.alloc _) (by simp; omega) hg6); obtain ⟨A6, d6, rfl, hn6, hm6⟩ := row_slice hown6; have R6 := hide (show Rd w6 w6.heap.size A6 (m + 1 + 1) (u8s (xs ++ [a])) by have h := Rd.of_own hown6; rwa [← List.map_append] at h); clear hg6 hat6 hown6))
            refine (HR1.out w6 A6 (m + 1 + 1) d6 R6.out hn6 hm6).mono ?_
            rintro e w7 ⟨v7, rfl, hc7, hb7⟩
            obtain ⟨A7, n7, d7, L7, rfl, _, _, _, _⟩ := hc7.secs
            have hb37 := hb6.out.trans (hb7.mono hb6.out.size)
            have B7 := hide (B3.out.trans (hb37.mono hs3))
            have R47 := hide (((R4.out.below hb37).more hb37.size).to_ (k := m) (by omega))
            have hm0 : (0 : Int) ≤ (m : Int) := by omega
            have hm1 : m ≤ c4' := by omega
            clear hb7 hb37 hc7
            go_wp2_with fail
            refine (HR2.out w7 A4 m c4' (by rw [hmx.out]; have h := R47.out; rwa [← List.map_take] at h) hm1 HCM.out).mono ?_
            rintro e w8 ⟨v8, rfl, hc8, hb8⟩
            obtain ⟨A8, n8, d8, L8, rfl, _, _, _, _⟩ := hc8.secs
            have B8 := hide (B7.out.trans (hb8.mono B7.out.size))
            clear hb8 hc8
            have hcx := HX.out w8 B8.out
            go_wp2_with fail
            refine (alive04_any _).mono ?_
            rintro e w9 ⟨rfl, hb9⟩
            have B9 := hide (B8.out.trans (hb9.mono B8.out.size))
            clear hb9
            go_wp2_with fail
            go_ret
            exact ⟨rfl, B9.out⟩
        · rw [hf, if_pos rfl] at HR1
          obtain ⟨g1, g2⟩ := folB_iff.1 hf
          have g3 : a < 128 := by omega
          clear hf
          go_enter Try.func8, Try.ntmps8
          go_wp2_with fail
          refine hT.out.mono ?_
          rintro e w1 ⟨rfl, hb1⟩
          have B1 := hide hb1
          clear hb1
          go_wp2_with fail
          refine (HC.out w1 B1.out).mono ?_
          rintro e w2 ⟨A2, d2, A3, d3, rfl, _, _, _, _, hs2, hs3, hb2⟩
          have B2 := hide (B1.out.trans (hb2.mono B1.out.size))
          have S3 := hide hs3
          clear hb2 hs2 hs3
          go_wp2_with fail
          refine (HW.out w2 A3 d3 S3.out).mono ?_
          rintro e w3 ⟨v3, rfl, hob3, hb3⟩
          obtain ⟨A4, n4, c4', rfl, hnc4, hcm4, hr4, _, HN4⟩ := hob3.var
          have hnn : n4 = xs.length := HN4.out
          obtain ⟨m, rfl⟩ : ∃ m, n4 = m + 1 := ⟨n4 - 1, by have := Hge.out; omega⟩
          have hmb : m ≤ 90000 := by have := Hen.out; omega
          have hmx := hide (show xs.length - 1 = m by omega)
          have hbase := hide hb3.size
          have B3 := hide (B2.out.trans (hb3.mono B2.out.size))
          have R4 := hide hr4
          have hs3 := B3.out.size
          have HCM := hide hcm4
          unfold maxLen at hcm4
          clear hb3 hob3 hr4 hnn HN4
          go_wp2_with (first
            | (at_builtin; refine wpList_append_rd _ rfl (.tmp 32) (.tmp 33) 29 rfl w3.heap.size 5 i0 (.int .u8 0) 1 Try.underlying29 hi hz0 hz1 hz2 rfl _ 0 [] rfl (own_empty w3) w3.heap.size A4 (m + 1) c4' (u8s xs) rfl (R4.out.alloc (Nat.le_refl _) _) (ints_oneCell _ _) (by unfold maxLen; omega) (by omega) (by simp) ?_; intro v5 w5 hown5 hg5 hat5; simp only [Nat.zero_add, List.nil_append] at hown5; have hb5 := hide (below_app ((Below.refl w3.heap.size w3).alloc (Nat.le_refl _) _) (own_empty w3) (by simp) hg5); have HO5 := hide hown5; have hs5 := hb5.out.size; clear hg5 hat5 hown5)
            | (at_builtin; refine wpList_append_rd _ rfl (.tmp 34) (.tmp 36) 29 rfl w3.heap.size 5 i0 (.int .u8 0) 1 Try.underlying29 hi hz0 hz1 hz2 rfl _ (m + 1) (u8s xs) rfl (HO5.out.alloc _) (w5.heap.size + 1) _ 1 1 (u8s [a]) rfl (Rd_lit w5 [a] 5) (ints_oneCell _ _) (by unfold maxLen; omega) (by omega) (by simp; omega) ?_; intro v6 w6 hown6 hg6 hat6; have hb6 := hide (below_app (hb5.out.alloc hs5 (.cells #[.int .u8 a] 5)) (HO5.out.alloc _) (by simp; omega) hg6); obtain ⟨A6, d6, rfl, hn6, hm6⟩ := row_slice hown6; have R6 := hide (show Rd w6 w6.heap.size A6 (m + 1 + 1) (u8s (xs ++ [a])) by have h := Rd.of_own hown6; rwa [← List.map_append] at h); clear hg6 hat6 hown6))
          refine (HR1.out w6 A6 (m + 1 + 1) d6 R6.out hn6 hm6).mono ?_
          rintro e w7 ⟨v7, rfl, hc7, hb7⟩
          obtain ⟨A7, n7, d7, L7, rfl, _, _, _, _⟩ := hc7.secs
          have hb37 := hb6.out.trans (hb7.mono hb6.out.size)
          have B7 := hide (B3.out.trans (hb37.mono hs3))
          have R47 := hide (((R4.out.below hb37).more hb37.size).to_ (k := m) (by omega))
          have hm0 : (0 : Int) ≤ (m : Int) := by omega
          have hm1 : m ≤ c4' := by omega
          clear hb7 hb37 hc7
          go_wp2_with fail
          refine (HR2.out w7 A4 m c4' (by rw [hmx.out]; have h := R47.out; rwa [← List.map_take] at h) hm1 HCM.out).mono ?_
          rintro e w8 ⟨v8, rfl, hc8, hb8⟩
          obtain ⟨A8, n8, d8, L8, rfl, _, _, _, _⟩ := hc8.secs
          have B8 := hide (B7.out.trans (hb8.mono B7.out.size))
          clear hb8 hc8
          have hcx := HX.out w8 B8.out
          go_wp2_with fail
          refine (alive04_any _).mono ?_
          rintro e w9 ⟨rfl, hb9⟩
          have B9 := hide (B8.out.trans (hb9.mono B8.out.size))
          clear hb9
          go_wp2_with fail
          go_ret
          exact ⟨rfl, B9.out⟩
theorem own : ownKnob Try.prog.godebug = none := by kernel_rfl
theorem laidOut : laidOutB Try.prog = true := by kernel_rfl

set_option maxRecDepth 100000 in
/-- what the walk gives, for every argument that can be read -/
theorem contract (H : Type) (enc : TypeId × Value → H) (W : World) (base : Nat) (args : Array Value) (ds gs : List (DataW H)) (before : List MemPlace)
    (hval0 : ∀ (j : Nat) t v, Try.f8.params[j]? = some t → args[j]? = some v → Value.okWide Try.prog W .any base t v)
    (hW : DataW.Whole enc Try.prog Try.f8.params.toList Rows.containerRejectsSpec.vars false W args.toList ds gs before) :
    Calls Try.prog 8 args W fun e W' => ∃ v, e = .returned v ∧ Rows.containerRejectsSpec.post enc Try.prog Try.f8 false true false false W args v W' := by
  have hval : ∀ (j : Nat) t v, Try.f8.params[j]? = some t → args[j]? = some v → Value.okWide Try.prog W .any base t v := hval0
  have hW' := hW
  obtain ⟨p, q, hA0, hV, rfl, hfz, hnd⟩ := hW
  have hA : DataW.TrodAll enc Try.prog W 0 (fun _ => true) true Try.f8.params.toList args.toList ds p := hA0
  rw [Try.params8] at hA hval
  obtain ⟨v0, vs0, d0, ds0, p0, q0, hargs, rfl, rfl, h0, r0⟩ := trodAll_cons hA
  obtain ⟨v1, vs1, d1, ds1, p1, q1, rfl, rfl, rfl, h1, r1⟩ := trodAll_cons r0
  obtain ⟨rfl, rfl, rfl⟩ := trodAll_nil r1
  obtain rfl : args = #[v0, v1] := by cases args; simp_all
  obtain ⟨rfl, rfl⟩ := trodVars_none hV
  have k0 := h0
  have lt0 : ∀ x ∈ p0, x.block < W.heap.size := by obtain ⟨m, hm⟩ := k0; exact DataW.trod_lt m _ _ _ hm
  obtain ⟨A0, n0, c0, xs0, rfl, g0⟩ := openSecs Try.underlying22 Try.underlying54 rfl (by kernel_rfl) (by kernel_rfl) Try.underlying3 Try.underlying29 Try.underlying5 (by kernel_rfl) (hval 0 22 v0 rfl rfl) h0
  obtain ⟨a1, rfl, rfl, rfl, w1⟩ := open_int Try.underlying5 (hval 1 5 v1 rfl rfl) h1
  have g1 : 0 ≤ a1 ∧ a1 ≤ 255 := by simpa [Lit.wf, IntKind.min, IntKind.max, IntKind.signed, IntKind.bits] using w1
  clear hA0 hval0
  simp only [List.append_nil] at hW'
  refine (walk A0 n0 c0 xs0 a1 W g0 g1).mono fun e W' ⟨he, bel⟩ => ?_
  subst he
  exact ⟨_, rfl, _, _, _, [], _, [], hW', trodAll_mk1 (shut_bool Try.underlying4 _), (trodAll_cons_mk (Below.trod laidOut (by kernel_rfl) (of_decide_eq_true (by kernel_rfl)) k0 bel lt0) (trodAll_cons_mk (shut_int Try.underlying5 w1) trodAll_mk0)), rfl, bel.frame _, fun h => by cases h⟩

set_option maxRecDepth 100000 in
theorem lifted (os : Os) (started : os.Started) (H : Type) (enc : TypeId × Value → H) :
    ReturnsInHanded {} Try.checked os 8 .any (Rows.containerRejectsSpec.pre6 enc Try.prog Try.f8 Rows.containerRejectsRow.domain false) (Rows.containerRejectsSpec.post enc Try.prog Try.f8 false true false false) := by
  refine returnsInHanded_of_change (C := Try.checked) own started (by kernel_rfl) Try.func8
    (ChangeSpec.witness6 (enc := enc) (C := Try.checked) false ⟨#[], #[.slice none 0 0, .int .u8 0], []⟩ 8 (by kernel_rfl) (by kernel_rfl) (by kernel_rfl) (by kernel_rfl)) ?_
  intro W base args ds gs before hval hW _ _
  exact contract H enc W base args ds gs before hval hW

/-- the statement -/
theorem proved : Rows.ContainerRejectsSaid :=
  OpenClaim.holds_of_wide 8 Try.f8 rfl rfl rfl rfl rfl rfl rfl ⟨rfl, rfl, rfl, rfl, rfl⟩ rfl rfl rfl rfl rfl (by kernel_rfl) Try.func8 (by kernel_rfl)
    (of_decide_eq_true (by kernel_rfl)) (by unfold Func.isWrapper; first | (rw [if_pos (by decide +kernel)]; kernel_rfl) | (rw [if_neg (by decide +kernel)]; exact ⟨rfl, rfl⟩))
    (fun os started H enc _ => lifted os started H enc)
end Go.Proofs.Ytgfeimlieibjhaa.containerRejects
