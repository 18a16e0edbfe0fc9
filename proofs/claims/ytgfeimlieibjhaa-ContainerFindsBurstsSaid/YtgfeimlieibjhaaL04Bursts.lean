/- ContainerFindsBursts: for every input the law returns true, and turns nothing that lay. No condition. -/
import Derived.Test.YtgfeimlieibjhaaRows
import Derived.Test.YtgfeimlieibjhaaAlive04
import Derived.Test.YtgfeimlieibjhaaLaw04
import Derived.Test.YtgfeimlieibjhaaOpenS
import Derived.Test.YtgfeimlieibjhaaCrcFlip
import Derived.Laws.CopyOwn
set_option linter.unusedVariables false
namespace Go.Proofs.Ytgfeimlieibjhaa.containerFindsBursts
open Go.ChangeShapes Go.WideShapes Go.ChangeAt Go.RowKit

theorem sizeU8 : (Try.prog.info? 5).map (·.size) = some 1 := by kernel_rfl
theorem cells_add {w : World} {b o : Nat} {xs : List Value} (h : ∀ (j : Nat) (u : Value), xs[j]? = some u → w.cell? ⟨b, o + j, none⟩ = some u) (j : Nat) (u : Value) (hu : xs[j]? = some u) : w.cell? (Addr.add ⟨b, o, none⟩ j) = some u := by
  have e : Addr.add ⟨b, o, none⟩ j = ⟨b, o + j, none⟩ := by
    unfold Addr.add
    by_cases h0 : j = 0 <;> simp [h0]
  rw [e]
  exact h j u hu
theorem splice_take {cur cs xs : List Value} {F n : Nat} (hx : cur.take n = xs) (hn : n ≤ cur.length) (hF : F + cs.length ≤ n) : (splice cur F cs).take n = xs.take F ++ (cs ++ xs.drop (F + cs.length)) := by
  subst hx
  unfold splice
  rw [List.take_append, List.take_append, List.take_take, List.take_take, Nat.min_eq_right (by omega), Nat.min_eq_left (by omega)]
  congr 1
  rw [List.take_of_length_le (show cs.length ≤ _ by rw [List.length_take]; omega)]
  congr 1
  rw [List.length_take, Nat.min_eq_left (by omega), List.drop_take]
  congr 1
  omega
theorem Rd_block {w : World} {g n F : Nat} {cur cs xs : List Value} {t : TypeId} (hg : w.heap[g]? = some (.cells (splice cur F cs).toArray t (0, 0))) (hx : cur.take n = xs) (hn : n ≤ cur.length) (hF : F + cs.length ≤ n) :
    Rd w w.heap.size (some ⟨g, 0, none⟩) n (xs.take F ++ (cs ++ xs.drop (F + cs.length))) := by
  have hz := splice_take hx hn hF
  have hxl : xs.length = n := by rw [← hx, List.length_take]; omega
  refine ⟨by simp only [List.length_append, List.length_take, List.length_drop]; omega, fun _ => ⟨g, 0, rfl, (Array.getElem?_eq_some_iff.1 hg).1, fun j u hu => ?_⟩⟩
  rw [← hz, List.getElem?_take] at hu
  split at hu
  · rw [cell_of_row w g (0 + j) _ t (0, 0) hg]
    simpa using hu
  · cases hu
/-- what is read of the container with some bits of one section inverted -/
theorem flip_read {L : List Sec} {i from_ F T : Nat} {s : Sec} {ys : List Int} (ho : ordL 0 L = true) (hb : ∀ s ∈ L, Byt s.2 ∧ s.2.length < 2 ^ 64) (h : L[i]? = some s) (hFT : (F, T) = ((frS (5 + ((L.take i).flatMap encS).length) s).fr, (frS (5 + ((L.take i).flatMap encS).length) s).to))
    (hfl : Flipped s.2 from_ ys) (hf : from_ ≤ 8 * s.2.length) :
    (eqB (encC L) ((encC L).take F ++ (ys ++ (encC L).drop T)) = true ∧ rdE ((encC L).take F ++ (ys ++ (encC L).drop T)) = 0) ∨ (eqB (encC L) ((encC L).take F ++ (ys ++ (encC L).drop T)) = false ∧ rdE ((encC L).take F ++ (ys ++ (encC L).drop T)) = 10) := by
  obtain ⟨f1, f2, q, f3, f4⟩ := hfl
  have hs := (hb s (List.mem_of_getElem? h)).1
  injection hFT with e1 e2
  have hck := burst_dat hs f2 f1 hf f3 f4
  have hself : (encC L).take F ++ (s.2 ++ (encC L).drop T) = encC L := by
    rw [e1, e2, put_parts h rfl, enc_parts h]
    simp only [List.append_assoc, List.cons_append]
  by_cases hys : s.2 = ys
  · subst hys
    rw [hself]
    exact .inl ⟨eqB_self _, rdE_enc ho hb⟩
  · refine .inr ⟨?_, ?_⟩
    · unfold eqB
      rw [decide_eq_false_iff_not]
      intro h'
      have h2 := List.append_cancel_left (hself.trans h')
      exact hys (List.append_cancel_right h2)
    · rw [e1, e2]
      exact rdE_put ho hb h f1 (by rw [hck]; unfold eqB; simpa using hys)

set_option maxHeartbeats 8000000 in
set_option maxRecDepth 100000 in
theorem walk (A1 : Option Addr) (n1 c1 : Nat) (L : List SecW) (a b p : Int) (w : World) (h1 : ArgS w A1 n1 c1 L) (h2 : (0 ≤ a ∧ a ≤ 65535) ∧ 0 ≤ b ∧ b ≤ 65535) (h3 : 0 ≤ p ∧ p ≤ 4294967295) :
    Calls Try.prog 7 #[.slice A1 n1 c1, .agg #[.int .u16 a, .int .u16 b], .int .u32 p] w fun e w' => e = .returned (.bool true) ∧ Below w.heap.size w w' := by
  obtain ⟨i0, hi, hz0, hz1, hz2⟩ := info_parts infoU8
  obtain ⟨⟨ha0, ha1⟩, hb0, hb1⟩ := h2
  obtain ⟨hp0, hp1⟩ := h3
  obtain ⟨a, rfl⟩ := Int.eq_ofNat_of_zero_le ha0
  obtain ⟨b, rfl⟩ := Int.eq_ofNat_of_zero_le hb0
  obtain ⟨p, rfl⟩ := Int.eq_ofNat_of_zero_le hp0
  have hnm : n1 ≤ maxLen := Nat.le_trans h1.nc h1.cm
  have HBX := hide fun q => ((Below.refl w.heap.size w).alloc (Nat.le_refl _) (.cells #[.int .u16 (a : Int), .int .u16 (b : Int)] 49)).trans ((belowN _ q).mono (by simp))
  have hT := hide fun w' (hb : Below w.heap.size w w') => tooLarge_any A1 n1 c1 L w' ((h1.secs.below hb).more hb.size) hnm
  by_cases hbig : bigS (vals L) = true
  · rw [hbig] at hT
    clear h1 hbig hnm
    go_enter Try.func7, Try.ntmps7
    go_wp2_with fail
    go_quiet (fail)
    go_wp2_with fail
    refine (hT.out _ (HBX.out _)).mono ?_
    rintro e w1 ⟨rfl, hb⟩
    have B1 := hide ((HBX.out nq).trans (hb.mono (HBX.out nq).size))
    clear hb
    go_wp2_with fail
    refine (alive04_any _).mono ?_
    rintro e w2 ⟨rfl, hb2⟩
    go_wp2_with fail
    go_ret
    exact ⟨rfl, B1.out.trans (hb2.mono B1.out.size)⟩
  · have hsm : secsW (vals L) ≤ 5000 := by
      unfold bigS at hbig
      simpa using hbig
    rw [show bigS (vals L) = false by simpa using hbig] at hT
    have hn1 : n1 ≤ 5000 := by have := (small_len hsm).1; rw [List.length_map, h1.secs.len] at this; exact this
    have hen := encC_len hsm
    have hbs : ∀ s ∈ vals L, Byt s.2 := fun s hs => by obtain ⟨x, hx, rfl⟩ := List.mem_map.1 hs; exact (h1.secs.2 x hx).1.byt
    have hbs2 : ∀ s ∈ vals L, Byt s.2 ∧ s.2.length < 2 ^ 64 := fun s hs => ⟨hbs s hs, by have := (small_len hsm).2.1 s hs; omega⟩
    have hnc1 := h1.nc
    have HC := hide fun w' (hb : Below w.heap.size w w') => convert_any A1 n1 c1 L w' ((h1.secs.below hb).more hb.size) hn1 h1.zero
    have HW := hide fun w' A c' (hs : Secs w' w'.heap.size 4 c4 A n1 L) => RefWrite_any A n1 c' L w' hs (by unfold maxLen; omega) (by omega)
    rcases ho : ordL 0 (vals L) with _ | _
    · have e1 : wrE (vals L) = 2 := by unfold wrE; rw [ho]; rfl
      have e2 : wrB (vals L) = [] := by unfold wrB; rw [ho]; rfl
      rw [e1, e2] at HW
      have HSp := hide fun w' A c' (hc : c' ≤ maxLen) => Spans_any A 0 c' [] w' (Rd.nil _ _ _) Byt.nil (Nat.zero_le _) hc (by decide)
      clear h1 hbig hnm hsm hen hbs hbs2 e1 e2 ho
      go_enter Try.func7, Try.ntmps7
      go_wp2_with fail
      go_quiet (fail)
      go_wp2_with fail
      refine (hT.out _ (HBX.out _)).mono ?_
      rintro e w1 ⟨rfl, hb⟩
      have B1 := hide ((HBX.out nq).trans (hb.mono (HBX.out nq).size))
      clear hb
      go_wp2_with fail
      refine (HC.out w1 B1.out).mono ?_
      rintro e w2 ⟨A2, d2, A3, d3, rfl, _, _, _, _, hs2, hs3, hb2⟩
      have B2 := hide (B1.out.trans (hb2.mono B1.out.size))
      have S3 := hide hs3
      clear hb2 hs2 hs3
      go_wp2_with fail
      refine (HW.out w2 A3 d3 S3.out).mono ?_
      rintro e w3 ⟨v3, rfl, hob3, hb3⟩
      obtain ⟨A4, n4, c4', rfl, _, hcm4, _, _, HN4⟩ := hob3.var
      obtain rfl : n4 = 0 := HN4.out
      have B3 := hide (B2.out.trans (hb3.mono B2.out.size))
      clear hb3 hob3
      go_wp2_with fail
      refine (HSp.out w3 A4 c4' hcm4).mono ?_
      rintro e w4 ⟨v4, rfl, hc4, hb4⟩
      obtain ⟨A5, n5, d5, rfl, _, _, _⟩ := hc4.pairs
      have B4 := hide (B3.out.trans (hb4.mono B3.out.size))
      clear hb4 hc4
      go_wp2_with fail
      refine (alive04_any _).mono ?_
      rintro e w5 ⟨rfl, hb5⟩
      have B5 := hide (B4.out.trans (hb5.mono B4.out.size))
      clear hb5
      go_wp2_with fail
      go_ret
      exact ⟨rfl, B5.out⟩
    · have e1 : wrE (vals L) = 0 := by unfold wrE; rw [ho]; rfl
      have e2 : wrB (vals L) = encC (vals L) := by unfold wrB; rw [ho]; rfl
      rw [e1, e2] at HW
      have hbe := encC_byt ho hbs
      have HBe := hide hbe
      have hrp : rdP (encC (vals L)) = (frs 5 (vals L)).map fun f => (f.fr, f.to) := by unfold rdP; rw [rdF_enc ho hbs2]
      have HSp := hide fun w' A n c' (hr : Rd w' w'.heap.size A n (u8s (encC (vals L)))) (hn : n ≤ c') (hc : c' ≤ maxLen) => Spans_any A n c' _ w' hr hbe hn hc (by have := hr.1; simp only [List.length_map] at this; omega)
      rw [rdE_enc ho hbs2, hrp] at HSp
      have HL0 := hide h1.secs.len
      have Hen := hide hen
      have HPL : Hid (((frs 5 (vals L)).map fun f => (f.fr, f.to)).length = n1) := by show _ = _; rw [List.length_map, frs_len, List.length_map]; exact HL0.out
      by_cases hn0 : n1 = 0
      · subst hn0
        clear h1 hbig hnm hsm hen hbs hbs2 e1 e2 ho hbe hrp
        go_enter Try.func7, Try.ntmps7
        go_wp2_with fail
        go_quiet (fail)
        go_wp2_with fail
        refine (hT.out _ (HBX.out _)).mono ?_
        rintro e w1 ⟨rfl, hb⟩
        have B1 := hide ((HBX.out nq).trans (hb.mono (HBX.out nq).size))
        clear hb
        go_wp2_with fail
        refine (HC.out w1 B1.out).mono ?_
        rintro e w2 ⟨A2, d2, A3, d3, rfl, _, _, _, _, hs2, hs3, hb2⟩
        have B2 := hide (B1.out.trans (hb2.mono B1.out.size))
        have S3 := hide hs3
        clear hb2 hs2 hs3
        go_wp2_with fail
        refine (HW.out w2 A3 d3 S3.out).mono ?_
        rintro e w3 ⟨v3, rfl, hob3, hb3⟩
        obtain ⟨A4, n4, c4', rfl, hnc4, hcm4, hr4, _, _⟩ := hob3.var
        have B3 := hide (B2.out.trans (hb3.mono B2.out.size))
        have R4 := hide hr4
        clear hb3 hob3 hr4
        go_wp2_with fail
        refine (HSp.out w3 A4 n4 c4' R4.out hnc4 hcm4).mono ?_
        rintro e w4 ⟨v4, rfl, hc4, hb4⟩
        obtain ⟨A5, n5, d5, rfl, _, _, hp5⟩ := hc4.pairs
        obtain rfl : n5 = 0 := hp5.1.symm.trans HPL.out
        have B4 := hide (B3.out.trans (hb4.mono B3.out.size))
        clear hb4 hc4 hp5
        go_wp2_with fail
        refine (alive04_any _).mono ?_
        rintro e w5 ⟨rfl, hb5⟩
        have B5 := hide (B4.out.trans (hb5.mono B4.out.size))
        clear hb5
        go_wp2_with fail
        go_ret
        exact ⟨rfl, B5.out⟩
      · obtain ⟨I, hI⟩ : ∃ I : Nat, Hid (I = a % n1) := ⟨_, rfl⟩
        have hIe : (a : Int) % (n1 : Int) = (I : Int) := by rw [hI.out]; simp
        have hIl : I < n1 := by rw [hI.out]; exact Nat.mod_lt _ (by omega)
        have hex : ∃ s, (vals L)[I]? = some s := ⟨_, List.getElem?_eq_getElem (by rw [List.length_map, HL0.out]; exact hIl)⟩
        obtain ⟨s, hs⟩ := hex
        obtain ⟨F, T, hFT⟩ : ∃ F T : Nat, (F, T) = ((frS (5 + (((vals L).take I).flatMap encS).length) s).fr, (frS (5 + (((vals L).take I).flatMap encS).length) s).to) := ⟨_, _, rfl⟩
        have hPI : (((frs 5 (vals L)).map fun f => (f.fr, f.to)))[I]? = some (F, T) := by rw [List.getElem?_map, frs_at hs, hFT]; rfl
        have hdat : ((encC (vals L)).drop F).take s.2.length = s.2 := by
          injection hFT with e1 e2
          rw [e1]
          exact dat_parts hs
        have hTF : T = F + s.2.length ∧ 5 ≤ F ∧ T + 4 ≤ (encC (vals L)).length := by
          injection hFT with e1 e2
          have h3 := congrArg List.length (enc_parts hs)
          have h4 := frS_fr (L := vals L) (i := I) (s := s)
          have h5 := frS_to (L := vals L) (i := I) (s := s)
          rw [← e1] at h4
          rw [← e2] at h5
          simp only [List.length_append, List.length_cons, sto_len] at h3 h4 h5
          have h6 : 5 ≤ (encC ((vals L).take I)).length := by unfold encC magicL; simp
          refine ⟨by omega, by omega, by omega⟩
        obtain ⟨hT1, hF5, hT4⟩ := hTF
        have HFL := hide fun ys from_ (hfl : Flipped s.2 from_ ys) (hf : from_ ≤ 8 * s.2.length) => flip_read ho hbs2 hs hFT hfl hf
        have HSB := hide (hbs2 s (List.mem_of_getElem? hs)).1
        have HD := hide hdat
        have HP := hide hPI
        clear h1 hbig hnm hsm hbs hbs2 e1 e2 ho hbe hrp hdat hPI hFT hs
        generalize ((frs 5 (vals L)).map fun f => (f.fr, f.to)) = P at *
        generalize encC (vals L) = xs at *
        obtain ⟨sid, sd⟩ := s
        simp only [] at *
        generalize hNN : sd.length = N at *
        have HN := hide hNN
        clear hNN hen
        have pre1 : True := trivial
        by_cases hN0 : N = 0
        · obtain rfl : T = F := by omega
          clear hT1 hN0 HFL HD HN HSB
          go_enter Try.func7, Try.ntmps7
          go_wp2_with fail
          go_quiet (fail)
          go_wp2_with fail
          refine (hT.out _ (HBX.out _)).mono ?_
          rintro e w1 ⟨rfl, hb⟩
          have B1 := hide ((HBX.out nq).trans (hb.mono (HBX.out nq).size))
          clear hb
          go_wp2_with fail
          refine (HC.out w1 B1.out).mono ?_
          rintro e w2 ⟨A2, d2, A3, d3, rfl, _, _, _, _, hs2, hs3, hb2⟩
          have B2 := hide (B1.out.trans (hb2.mono B1.out.size))
          have S3 := hide hs3
          clear hb2 hs2 hs3
          go_wp2_with fail
          refine (HW.out w2 A3 d3 S3.out).mono ?_
          rintro e w3 ⟨v3, rfl, hob3, hb3⟩
          obtain ⟨A4, n4, c4', rfl, hnc4, hcm4, hr4, _, HN4⟩ := hob3.var
          have hT5 : T + 4 ≤ n4 := by have := HN4.out; omega
          have hn4b : n4 ≤ 90000 := by have := HN4.out; have := Hen.out; omega
          have B3 := hide (B2.out.trans (hb3.mono B2.out.size))
          have R4 := hide hr4
          clear hb3 hob3 hr4
          go_wp2_with fail
          refine (HSp.out w3 A4 n4 c4' R4.out hnc4 hcm4).mono ?_
          rintro e w4 ⟨v4, rfl, hc4, hb4⟩
          obtain ⟨A5, n5, d5, rfl, _, _, hp5⟩ := hc4.pairs
          obtain rfl : n5 = n1 := hp5.1.symm.trans HPL.out
          have B4 := hide (B3.out.trans (hb4.mono B3.out.size))
          obtain ⟨g, o, rfl, hgB, hcp⟩ := hp5.at_ HP.out
          have q0 := hcp 0 _ rfl
          have q1 := hcp 1 _ rfl
          simp only [Nat.add_zero] at q0 q1
          have hq1 : (I : Int) < (n5 : Int) := by omega
          have hq2 : (0 : Int) ≤ (I : Int) := by omega
          have B4' := hide (B4.out.alloc B4.out.size (.cells #[.int .i64 (T : Int), .int .i64 (T : Int)] 44))
          clear hb4 hc4 hp5 hcp
          go_wp2_with fail
          refine (alive04_any _).mono ?_
          rintro e w5 ⟨rfl, hb5⟩
          have B5 := hide (B4'.out.trans (hb5.mono B4'.out.size))
          clear hb5
          go_wp2_with fail
          go_ret
          exact ⟨rfl, B5.out⟩
        · obtain ⟨K, hK⟩ : ∃ K : Nat, Hid (K = b % (8 * N)) := ⟨_, rfl⟩
          have hKe : (b : Int) % (8 * (N : Int)) = (K : Int) := by rw [hK.out]; simp
          have hKl : K < 8 * N := by rw [hK.out]; exact Nat.mod_lt _ (by omega)
          have hTF : T - F = N := by omega
          have hne : ¬ F = T := by omega
          have hle : F ≤ T := by omega
          have hne2 : ((F : Int) == (T : Int)) = false := by simp; omega
          have HT1 := hide hT1
          clear hT1
          go_enter Try.func7, Try.ntmps7
          go_wp2_with fail
          go_quiet (fail)
          go_wp2_with fail
          refine (hT.out _ (HBX.out _)).mono ?_
          rintro e w1 ⟨rfl, hb⟩
          have B1 := hide ((HBX.out nq).trans (hb.mono (HBX.out nq).size))
          clear hb
          go_wp2_with fail
          refine (HC.out w1 B1.out).mono ?_
          rintro e w2 ⟨A2, d2, A3, d3, rfl, _, _, _, _, hs2, hs3, hb2⟩
          have B2 := hide (B1.out.trans (hb2.mono B1.out.size))
          have S3 := hide hs3
          clear hb2 hs2 hs3
          go_wp2_with fail
          refine (HW.out w2 A3 d3 S3.out).mono ?_
          rintro e w3 ⟨v3, rfl, hob3, hb3⟩
          obtain ⟨A4, n4, c4', rfl, hnc4, hcm4, hr4, _, HN4⟩ := hob3.var
          have hT5 : T + 4 ≤ n4 := by have := HN4.out; omega
          have hn4b : n4 ≤ 90000 := by have := HN4.out; have := Hen.out; omega
          have B3 := hide (B2.out.trans (hb3.mono B2.out.size))
          have R4 := hide hr4
          clear hb3 hob3 hr4
          go_wp2_with fail
          refine (HSp.out w3 A4 n4 c4' R4.out hnc4 hcm4).mono ?_
          rintro e w4 ⟨v4, rfl, hc4, hb4⟩
          obtain ⟨A5, n5, d5, rfl, _, _, hp5⟩ := hc4.pairs
          obtain rfl : n5 = n1 := hp5.1.symm.trans HPL.out
          have B4 := hide (B3.out.trans (hb4.mono B3.out.size))
          obtain ⟨g, o, rfl, hgB, hcp⟩ := hp5.at_ HP.out
          have q0 := hcp 0 _ rfl
          have q1 := hcp 1 _ rfl
          simp only [Nat.add_zero] at q0 q1
          have hq1 : (I : Int) < (n5 : Int) := by omega
          have hq2 : (0 : Int) ≤ (I : Int) := by omega
          have B4' := hide (B4.out.alloc B4.out.size (.cells #[.int .i64 (F : Int), .int .i64 (T : Int)] 44))
          have hb34 := hb4.alloc hb4.size (.cells #[.int .i64 (F : Int), .int .i64 (T : Int)] 44)
          have R44 := hide ((R4.out.below hb34).more hb34.size)
          obtain ⟨b4, o4, rfl, hb4l, _⟩ := R4.out.2 (by omega)
          have hb4G : b4 < w4.heap.size := Nat.lt_of_lt_of_le hb4l hb4.size
          have k1 : F ≤ c4' := by omega
          have k2 : T ≤ c4' := by omega
          have k3 : ¬ c4' = F := by omega
          have k4 : F ≤ n4 := by omega
          have HCM := hide hcm4
          unfold maxLen at hcm4
          have hs4 := B4'.out.size
          clear hb4 hc4 hp5 hcp hb34
          go_wp2_with (at_builtin; refine wpList_append_rd _ rfl (.tmp 101) (.tmp 102) 29 rfl (w4.heap.size + 1) 5 i0 (.int .u8 0) 1 Try.underlying29 hi hz0 hz1 hz2 rfl _ 0 [] rfl (by have h := own_empty (w4.alloc (.cells #[.int .i64 (F : Int), .int .i64 (T : Int)] 44)); rw [World.size_alloc] at h; exact h) _ (some ⟨b4, o4, none⟩) n4 c4' (u8s xs) rfl (R44.out.alloc (Nat.le_refl _) _) (ints_oneCell _ _) (by unfold maxLen; omega) (by omega) (by simp) ?_; intro v5 w5 hown5 hg5 hat5)
          have hbB := below_app ((Below.refl (w4.heap.size + 1) (w4.alloc (.cells #[.int .i64 (F : Int), .int .i64 (T : Int)] 44))).alloc (by simp) (.cells #[] 5)) (by have h := own_empty (w4.alloc (.cells #[.int .i64 (F : Int), .int .i64 (T : Int)] 44)); rw [World.size_alloc] at h; exact h) (by simp) hg5
          simp only [Nat.zero_add, List.nil_append] at hown5
          rcases hown5.2 with ⟨_, h0⟩ | ⟨g5, cap5, cur, rfl, hg5b, hg5c, hn5, hcap5, hcs5, htk5⟩
          · exact absurd h0 (by omega)
          obtain ⟨cur⟩ := cur
          simp only [Nat.mul_one] at hcs5 htk5
          have hcl : cur.length = cap5 := by simpa using hcs5
          have hg5l : g5 < w5.heap.size := (Array.getElem?_eq_some_iff.1 hg5c).1
          have hk5 : w5.drew.cell? ⟨w4.heap.size, 0, none⟩ = some (.int .i64 (F : Int)) := (hbB.drew.cell (p := ⟨w4.heap.size, 0, none⟩) (Nat.lt_succ_self _)).trans (by simp [go_sem])
          have HbB := hide hbB
          have R40 := R44.out
          rw [World.size_alloc] at R40
          have R45 := R40.below hbB.drew
          have R43 := hide R40
          clear R40
          have HRF := hide (show Rd w5.drew (w4.heap.size + 1) (some ⟨b4, o4 + F, none⟩) N (u8s sd) from by
            have h1 := R45.from_ k4 hnc4
            rw [if_neg k3, show (Option.map (fun x : Addr => x.add F) (some ⟨b4, o4, none⟩)) = some ⟨b4, o4 + F, none⟩ from by simp only [Option.map_some, Addr.add]; by_cases h0 : F = 0 <;> simp [h0]] at h1
            have h2 := h1.to_ (k := N) (by omega)
            rw [← List.map_drop, ← List.map_take, HD.out] at h2
            exact h2)
          have HC5 := hide hcap5
          unfold maxLen at hcap5
          have j0 : N ≤ n4 - F := by have h := HT1.out; omega
          have j1 : F ≤ cap5 := by omega
          have j2 : ¬ cap5 = F := by omega
          have j3 : (0 : Int) ≤ (F : Int) := by omega
          have j4 : (F : Int) ≤ (n4 : Int) := by omega
          have j5 : ((n4 : Int) ≤ (cap5 : Int)) := by omega
          have j6 : IntKind.i64.wrap (8 * (N : Int)) = 8 * (N : Int) := by have h := HT1.out; rw [IntKind.wrap_i64]; omega
          have j7 : ¬ (8 * (N : Int)) = 0 := by omega
          have j8 : IntKind.i64.wrap (b : Int) = (b : Int) := by rw [IntKind.wrap_i64]; omega
          have j9 : (b : Int).tmod (8 * (N : Int)) = (K : Int) := (Int.tmod_eq_emod_of_nonneg hb0).trans hKe
          have hSz := hide (show w4.heap.size + 1 ≤ w5.heap.size by have := hbB.size; simpa using this)
          clear hg5 hat5 hown5 hbB hcs5
          go_region_held3 (fun w' => w'.cell? ⟨w4.heap.size, 0, none⟩ = some (.int .i64 (F : Int)))
            (first | assumption)
            ((first
              | (refine step_copy_splice (by rfl) (.tmp 107) (.tmp 116) 29 29 (by rfl) 5 Try.underlying29 sizeU8 (some ⟨g5, F, none⟩) (some ⟨b7, o7, none⟩) (n4 - F) (cap5 - F) N c7 (by rfl) (by rfl) g5 F cur 5 hg7 (u8s ys) (by rw [List.length_map, hyl]; exact (Nat.min_eq_left (by omega)).symm) (fun _ => ⟨rfl, ⟨b7, o7, none⟩, rfl, hc8⟩) (by rw [List.length_map, hyl, hcl]; omega) (ints_oneCell _ _) (w4.heap.size + 1) (w4.alloc (.cells #[.int .i64 (F : Int), .int .i64 (T : Int)] 44)) hbB7 hg5b ?_; intro w8 hh8 hb8; have hk8 : w8.cell? ⟨w4.heap.size, 0, none⟩ = some (.int .i64 (F : Int)) := (hb8.cell (p := ⟨w4.heap.size, 0, none⟩) (Nat.lt_succ_self _)).trans (by simp [go_sem]))
              | (go_at_call 19; refine (Flip_any (some ⟨b4, o4 + F, none⟩) N (c4' - F) sd K p _ _ HRF.out hSz.out HSB.out (by omega) hKl (by omega)).mono ?_; rintro e w7 ⟨v7, ys, rfl, hob7, hfl, hb7⟩; obtain ⟨A7, n7, c7, rfl, hnc7, hcm7, hr7, _, HN7⟩ := hob7.var; have hn7 : N = n7 := (HN.out.symm.trans hfl.1.symm).trans HN7.out.symm; subst hn7; obtain ⟨b7, o7, rfl, hb7l, hc7⟩ := hr7.2 (by omega); have hc8 := cells_add hc7; have hk7 : w7.cell? ⟨w4.heap.size, 0, none⟩ = some (.int .i64 (F : Int)) := (hb7.cell (p := ⟨w4.heap.size, 0, none⟩) hSz.out).trans hk5; have hg7 := (hb7.block g5 hg5l).trans hg5c; have hbB7 := HbB.out.drew.trans (hb7.mono hSz.out); have hyl := hfl.1.trans HN.out; have HFY := hide hfl)))
          have B8 := hide (B4'.out.trans (hb8.mono (Nat.le_succ_of_le B4.out.size)))
          have R8 := hide ((R43.out.below hb8).more (Nat.le_trans (by rw [World.size_alloc]; exact Nat.le_refl _) hb8.size))
          have Q8 := Rd_block hh8.out htk5 (by omega) (by rw [List.length_map, hyl]; omega)
          rw [List.length_map, hyl, ← HT1.out, ← List.map_take, ← List.map_drop, ← List.map_append, ← List.map_append] at Q8
          have HZ := HFL.out ys K HFY.out (by omega)
          have HZB : Byt (xs.take F ++ (ys ++ xs.drop T)) := (HBe.out.take F).append (HFY.out.2.1.append (HBe.out.drop T))
          obtain ⟨zs, hzs⟩ : ∃ zs, xs.take F ++ (ys ++ xs.drop T) = zs := ⟨_, rfl⟩
          rw [hzs] at Q8 HZ HZB
          have HRd := hide (Read_any (some ⟨g5, 0, none⟩) n4 cap5 zs w8 Q8 HZB hn5 HC5.out (by omega))
          have HEq := hide fun w' (hb' : Below w8.heap.size w8 w') => Equal_any (some ⟨b4, o4, none⟩) (some ⟨g5, 0, none⟩) n4 n4 c4' cap5 xs zs w' _ _ (R8.out.below hb') (Q8.below hb') HBe.out HZB
          clear hzs hyl hc8 hc7 hr7 hb7 hfl hk5 hk7 hk8 hg7 hbB7 hh8 hb8 Q8 R8 R43 R45 R44 R4 htk5 hcl hg5c j0 j1 j2 j3 j4 j5 j6 j7 j8 j9
          rcases HZ with ⟨e1, e2⟩ | ⟨e1, e2⟩ <;> rw [e1] at HEq <;> rw [e2] at HRd <;> clear e1 e2
          all_goals
            go_wp2_with fail
            refine HRd.out.mono ?_
            rintro e w9 ⟨v9, rfl, hc9, hb9⟩
            obtain ⟨A9, n9, c9, rfl, _, _, _⟩ := hc9.form
            have B9 := hide (B8.out.trans (hb9.mono B8.out.size))
            have E9 := hide (HEq.out w9 hb9)
            clear hb9 hc9
            go_wp2_with fail
            refine E9.out.mono ?_
            rintro e w10 ⟨rfl, rfl⟩
            go_wp2_with fail
            refine (alive04_any _).mono ?_
            rintro e w11 ⟨rfl, hb11⟩
            have B11 := hide (B9.out.trans (hb11.mono B9.out.size))
            clear hb11
            go_wp2_with fail
            go_ret
            exact ⟨rfl, B11.out⟩

theorem own : ownKnob Try.prog.godebug = none := by kernel_rfl
theorem laidOut : laidOutB Try.prog = true := by kernel_rfl

set_option maxRecDepth 100000 in
/-- what the walk gives, for every argument that can be read -/
theorem contract (H : Type) (enc : TypeId × Value → H) (W : World) (base : Nat) (args : Array Value) (ds gs : List (DataW H)) (before : List MemPlace)
    (hval0 : ∀ (j : Nat) t v, Try.f7.params[j]? = some t → args[j]? = some v → Value.okWide Try.prog W .any base t v)
    (hW : DataW.Whole enc Try.prog Try.f7.params.toList Rows.containerFindsBurstsSpec.vars false W args.toList ds gs before) :
    Calls Try.prog 7 args W fun e W' => ∃ v, e = .returned v ∧ Rows.containerFindsBurstsSpec.post enc Try.prog Try.f7 false true false false W args v W' := by
  have hval : ∀ (j : Nat) t v, Try.f7.params[j]? = some t → args[j]? = some v → Value.okWide Try.prog W .any base t v := hval0
  have hW' := hW
  obtain ⟨p, q, hA0, hV, rfl, hfz, hnd⟩ := hW
  have hA : DataW.TrodAll enc Try.prog W 0 (fun _ => true) true Try.f7.params.toList args.toList ds p := hA0
  rw [Try.params7] at hA hval
  obtain ⟨v0, vs0, d0, ds0, p0, q0, hargs, rfl, rfl, h0, r0⟩ := trodAll_cons hA
  obtain ⟨v1, vs1, d1, ds1, p1, q1, rfl, rfl, rfl, h1, r1⟩ := trodAll_cons r0
  obtain ⟨v2, vs2, d2, ds2, p2, q2, rfl, rfl, rfl, h2, r2⟩ := trodAll_cons r1
  obtain ⟨rfl, rfl, rfl⟩ := trodAll_nil r2
  obtain rfl : args = #[v0, v1, v2] := by cases args; simp_all
  obtain ⟨rfl, rfl⟩ := trodVars_none hV
  have k0 := h0
  have lt0 : ∀ x ∈ p0, x.block < W.heap.size := by obtain ⟨m, hm⟩ := k0; exact DataW.trod_lt m _ _ _ hm
  obtain ⟨A0, n0, c0, xs0, rfl, g0⟩ := openSecs Try.underlying22 Try.underlying54 rfl (by kernel_rfl) (by kernel_rfl) Try.underlying3 Try.underlying29 Try.underlying5 (by kernel_rfl) (hval 0 22 v0 rfl rfl) h0
  have k1 := h1
  have lt1 : ∀ x ∈ p1, x.block < W.heap.size := by obtain ⟨m, hm⟩ := k1; exact DataW.trod_lt m _ _ _ hm
  obtain ⟨a1, b1, rfl, g1⟩ := openPair16 Try.underlying49 Try.underlying48 (by kernel_rfl) (by kernel_rfl) (hval 1 49 v1 rfl rfl) h1
  obtain ⟨a2, rfl, rfl, rfl, w2⟩ := open_int Try.underlying50 (hval 2 50 v2 rfl rfl) h2
  have g2 : 0 ≤ a2 ∧ a2 ≤ 4294967295 := by simpa [Lit.wf, IntKind.min, IntKind.max, IntKind.signed, IntKind.bits] using w2
  clear hA0 hval0
  simp only [List.append_nil] at hW'
  refine (walk A0 n0 c0 xs0 a1 b1 a2 W g0 g1 g2).mono fun e W' ⟨he, bel⟩ => ?_
  subst he
  exact ⟨_, rfl, _, _, _, [], _, [], hW', trodAll_mk1 (shut_bool Try.underlying4 _), (trodAll_cons_mk (Below.trod laidOut (by kernel_rfl) (of_decide_eq_true (by kernel_rfl)) k0 bel lt0) (trodAll_cons_mk (Below.trod laidOut (by kernel_rfl) (of_decide_eq_true (by kernel_rfl)) k1 bel lt1) (trodAll_cons_mk (shut_int Try.underlying50 w2) trodAll_mk0))), rfl, bel.frame _, fun h => by cases h⟩

set_option maxRecDepth 100000 in
theorem lifted (os : Os) (started : os.Started) (H : Type) (enc : TypeId × Value → H) :
    ReturnsInHanded {} Try.checked os 7 .any (Rows.containerFindsBurstsSpec.pre6 enc Try.prog Try.f7 Rows.containerFindsBurstsRow.domain false) (Rows.containerFindsBurstsSpec.post enc Try.prog Try.f7 false true false false) := by
  refine returnsInHanded_of_change (C := Try.checked) own started (by kernel_rfl) Try.func7
    (ChangeSpec.witness6 (enc := enc) (C := Try.checked) false ⟨#[], #[.slice none 0 0, .agg #[.int .u16 0, .int .u16 0], .int .u32 0], []⟩ 8 (by kernel_rfl) (by kernel_rfl) (by kernel_rfl) (by kernel_rfl)) ?_
  intro W base args ds gs before hval hW _ _
  exact contract H enc W base args ds gs before hval hW

/-- the statement -/
theorem proved : Rows.ContainerFindsBurstsSaid :=
  OpenClaim.holds_of_wide 7 Try.f7 rfl rfl rfl rfl rfl rfl rfl ⟨rfl, rfl, rfl, rfl, rfl⟩ rfl rfl rfl rfl rfl (by kernel_rfl) Try.func7 (by kernel_rfl)
    (of_decide_eq_true (by kernel_rfl)) (by unfold Func.isWrapper; first | (rw [if_pos (by decide +kernel)]; kernel_rfl) | (rw [if_neg (by decide +kernel)]; exact ⟨rfl, rfl⟩))
    (fun os started H enc _ => lifted os started H enc)
end Go.Proofs.Ytgfeimlieibjhaa.containerFindsBursts
