/- A writer of package wire in memory, and what its methods do; the reference's two encoders. -/
import Derived.Test.YtbkgooeghmaokaaRdrIn
import Derived.Test.YtbkgooeghmaokaaPut
import Derived.Test.YtbkgooeghmaokaaRef01
import Derived.Deep.AppendLies
import Derived.Deep.RegionLaw
import Derived.Lib.AppendStr
set_option linter.unusedVariables false
namespace Go.Proofs.Ytbkgooeghmaokaa
open Go.RowKit

/-- the writer of block g has collected xs -/
structure CWat (w : World) (g : Nat) (A : Option Addr) (n c : Nat) (xs : List Int) : Prop where
  c0 : w.cell? ⟨g, 0, none⟩ = some (.slice A n c)
  fr : w.frozen? ⟨g, 0, none⟩ = false
  lt : g < w.heap.size
  own : w.ownsRow (g + 1) 5 1 (.slice A n c) n (u8s xs)
  byt : Byt xs
def CW (w : World) (g : Nat) (xs : List Int) : Prop := ∃ A n c, CWat w g A n c xs

theorem ownsRow_slice {w : World} {base : Nat} {e : TypeId} {v : Value} {n : Nat} {xs : List Value} (h : w.ownsRow base e 1 v n xs) : ∃ A c, v = .slice A n c ∧ n ≤ c ∧ c ≤ maxLen := by
  rcases h.2 with ⟨rfl, rfl⟩ | ⟨g, cap, cur, rfl, _, _, h1, h2, _⟩
  · exact ⟨_, _, rfl, Nat.le_refl _, Nat.zero_le _⟩
  · exact ⟨_, _, rfl, h1, h2⟩
section
variable {w w' : World} {g n c : Nat} {A : Option Addr} {xs : List Int}
theorem CWat.len (h : CWat w g A n c xs) : xs.length = n := by have := h.own.1; simpa using this
theorem CWat.rd (h : CWat w g A n c xs) : Rd w w.heap.size A n (u8s xs) := Rd.of_own h.own
theorem CW.below (h : CW w g xs) {b : Nat} (hb : Below b w w') (hB : w.heap.size ≤ b) : CW w' g xs := by
  obtain ⟨A, n, c, h⟩ := h
  have hb' := hb.mono hB
  exact ⟨A, n, c, (hb'.cell (p := ⟨g, 0, none⟩) h.lt).trans h.c0, (hb'.frozen (p := ⟨g, 0, none⟩) h.lt).trans h.fr, Nat.lt_of_lt_of_le h.lt hb.size, ownsRow_below h.own hb', h.byt⟩
theorem CW.lt (h : CW w g xs) : g < w.heap.size := by obtain ⟨A, n, c, h⟩ := h; exact h.lt
/-- the row has been appended to, and is stored -/
theorem CWat.store (h : CWat w g A n c xs) {w1 w2 : World} {v2 : Value} {m : Nat} {ys : List Int} (hb : Below w.heap.size w w1) (hown : w2.ownsRow (g + 1) 5 1 v2 m (u8s ys)) (hg : w1.grownBy w2 (Value.slice A n c).ownBlock) (hy : Byt ys) :
    CW (w2.setCell ⟨g, 0, none⟩ v2) g ys ∧ Below g w (w2.setCell ⟨g, 0, none⟩ v2) := by
  have h1 : Below (g + 1) w w2 := below_app (hb.mono h.lt) (ownsRow_below h.own hb) (Nat.le_trans h.lt hb.size) hg
  obtain ⟨A2, c2, rfl, _, _⟩ := ownsRow_slice hown
  have hc : w2.cell? ⟨g, 0, none⟩ = some (.slice A n c) := (h1.cell (p := ⟨g, 0, none⟩) (Nat.lt_succ_self g)).trans h.c0
  have hf : w2.frozen? ⟨g, 0, none⟩ = false := (h1.frozen (p := ⟨g, 0, none⟩) (Nat.lt_succ_self g)).trans h.fr
  refine ⟨⟨A2, m, c2, World.cell?_setCell_same _ _ _ hc, by rw [World.frozen?_setCell]; exact hf, by have := h1.size; have := h.lt; simp [World.setCell]; omega, ownsRow_setCell_below hown (a := ⟨g, 0, none⟩) (Nat.lt_succ_self g) _, hy⟩,
    (h1.mono (Nat.le_succ g)).setCell (Nat.le_refl _) _⟩
end

theorem NewWriter_any (w : World) : Calls Try.prog 32 #[] w fun x w' => ∃ g, x = .returned (.pointer (some ⟨g, 0, none⟩)) ∧ g = w.heap.size ∧ CW w' g [] ∧ Below w.heap.size w w' := by
  go_enter Try.func32, Try.ntmps32
  go_wp2
  go_ret
  exact ⟨_, rfl, rfl, ⟨none, 0, 0, by simp [go_sem], by simp [go_sem], by simp, World.ownsRow_nil _ _ _ _, Byt.nil⟩, (Below.refl _ _).alloc (Nat.le_refl _) _⟩

/-- what a method of a writer does -/
def Wrote (w : World) (g : Nat) (ys : List Int) (x : Ending) (w' : World) : Prop := (∃ v, x = .returned v) ∧ CW w' g ys ∧ Below g w w'

theorem Put_lit (a : Int) (h0 : 0 ≤ a) (h1 : a ≤ 18446744073709551615) (w : World) :
    Calls Try.prog 47 #[.int .u64 a] w fun e w' => ∃ g1 c1, e = .returned (.slice (some ⟨g1, 0, none⟩) (vput a.toNat).length c1) ∧ (∀ j u, (u8s (vput a.toNat))[j]? = some u → w'.cell? ((⟨g1, 0, none⟩ : Addr).add j) = some u) ∧ Below w.heap.size w w' := by
  refine (Put_any a h0 h1 w).mono ?_
  rintro e w' ⟨v, rfl, ⟨A, c, rfl, k1, k2, k3, k4⟩, hb⟩
  obtain ⟨g1, c1, hv, _, _⟩ := k4.form (vput_pos _)
  injection hv with e1 e2 e3
  subst e1 e3
  exact ⟨g1, c, rfl, k4.cells rfl, hb⟩

set_option maxRecDepth 100000 in
set_option maxHeartbeats 1000000 in
theorem wUint_any {w : World} {g : Nat} {xs : List Int} (h : CW w g xs) (a : Int) (h0 : 0 ≤ a) (h1 : a ≤ 18446744073709551615) (hs : xs.length ≤ 1099511627776) :
    Calls Try.prog 33 #[.pointer (some ⟨g, 0, none⟩), .int .u64 a] w (Wrote w g (xs ++ vput a.toNat)) := by
  obtain ⟨i0, hi, hz0, hz1, hz2⟩ := info_parts infoU8
  obtain ⟨A, n, c, h⟩ := h
  have hl := h.len
  have HW := hide h
  have HY := hide (h.byt.append (show Byt (vput a.toNat) from vput_byte _))
  have hp1 := vput_pos a.toNat
  have hp2 := vput_le10 (a := a.toNat) (by omega)
  have HPut := hide fun w1 => Put_lit a h0 h1 w1
  obtain ⟨hc0, hf0, hlt, hown, hbyt⟩ := h
  have HO := hide hown
  clear hown hbyt
  have hn : n ≤ 1099511627776 := by omega
  generalize vput a.toNat = ys at *
  clear hl
  generalize hm : ys.length = m at *
  have HM := hide hm
  clear hm
  go_enter Try.func33, Try.ntmps33
  go_wp2
  go_region_law (first
    | (refine step_append_lies _ (by rfl) (.tmp 10) (.tmp 12) 41 (by rfl) (g + 1) 5 i0 (.int .u8 0) 1 1 Try.underlying41 hi hz0 hz1 hz2 rfl (by omega) (.slice A n c) n (u8s xs) (by rfl) (ownsRow_below HO.out hb1) ⟨g1, 0, none⟩ m c1 (u8s ys) (by rfl) (by have := HM.out; simp [u8s]; omega) hcs (ints_oneCell _ _) (by omega) (by unfold maxLen; omega) (by omega) (by have := hb1.size; omega) w1.heap.size rfl ?_; intro g2 cap w2 hown2 hg2 hat2 hlt2; have h12 : Below (g + 1) w w2 := below_app (hb1.mono hlt) (ownsRow_below HO.out hb1) (Nat.le_trans hlt hb1.size) hg2; have hc2 : w2.cell? ⟨g, 0, none⟩ = some (.slice A n c) := (h12.cell (p := ⟨g, 0, none⟩) (Nat.lt_succ_self g)).trans hc0; have hf2 : w2.frozen? ⟨g, 0, none⟩ = false := (h12.frozen (p := ⟨g, 0, none⟩) (Nat.lt_succ_self g)).trans hf0)
    | (go_simp; refine (HPut.out _).mono ?_; rintro e w1 ⟨g1, c1, rfl, hcs, hb0⟩; have hb1 : Below w.heap.size w w1 := ⟨hb0.os, hb0.tape, hb0.output, hb0.size, hb0.block⟩; clear hb0; have hc1 : w1.cell? ⟨g, 0, none⟩ = some (.slice A n c) := (hb1.cell (p := ⟨g, 0, none⟩) hlt).trans hc0))
  all_goals
    go_end0
    have hst := HW.out.store (ys := xs ++ ys) hb1 (by simpa [u8s] using hown2) hg2 HY.out
    exact ⟨⟨_, rfl⟩, hst.1, hst.2⟩

set_option maxRecDepth 100000 in
theorem wStr_any {w : World} {g : Nat} {xs : List Int} (h : CW w g xs) (s : ByteArray) (hm : s.size ≤ 1099511627776) (hs : xs.length ≤ 1099511627776) :
    Calls Try.prog 34 #[.pointer (some ⟨g, 0, none⟩), .string s] w (Wrote w g (xs ++ encStr s)) := by
  obtain ⟨i0, hi, hz0, hz1, hz2⟩ := info_parts infoU8
  have HU := hide (wUint_any h (s.size : Int) (by omega) (by omega) hs)
  rw [Int.toNat_natCast] at HU
  have hl := vput_le10 (a := s.size) (by omega)
  have HE : Hid (u8s (xs ++ vput s.size) ++ Lib.strCells s = u8s (xs ++ encStr s)) := by
    show _ = _
    rw [strCells_sB]
    simp [u8s, encStr]
  have HY := hide (sB_byt s)
  clear h
  go_enter Try.func34, Try.ntmps34
  go_wp2_with fail
  refine HU.out.mono ?_
  rintro e w1 ⟨⟨v, rfl⟩, ⟨A, n, c, h⟩, hb⟩
  have hln := h.len
  rw [List.length_append] at hln
  have HW := hide h
  obtain ⟨hc0, hf0, hlt, hown, hbyt⟩ := h
  have HO := hide hown
  have HB := hide hbyt
  clear hown hbyt
  have hn : n ≤ 1099511627786 := by omega
  clear hln hl
  go_wp2_with (at_builtin; refine Lib.wpList_append_own_string _ rfl (.tmp 15) (.tmp 16) 41 9 rfl (g + 1) 5 i0 Try.underlying41 Try.underlying9 hi hz0 hz1 hz2 _ n _ rfl HO.out s rfl (by unfold maxLen; omega) (by omega) hlt ?_; intro v2 w2 hown2 hg2 hat2; rw [HE.out] at hown2; have h12 : Below (g + 1) w1 w2 := below_app (Below.refl _ _) HO.out hlt hg2; have hc2 : w2.cell? ⟨g, 0, none⟩ = some (.slice A n c) := (h12.cell (p := ⟨g, 0, none⟩) (Nat.lt_succ_self g)).trans hc0; have hf2 : w2.frozen? ⟨g, 0, none⟩ = false := (h12.frozen (p := ⟨g, 0, none⟩) (Nat.lt_succ_self g)).trans hf0; have HS := hide (HW.out.store (Below.refl _ _) hown2 hg2 (fun x hx => by rcases List.mem_append.1 hx with hx | hx; exact HB.out x (List.mem_append.2 (.inl hx)); rcases List.mem_append.1 hx with hx | hx; exact HB.out x (List.mem_append.2 (.inr hx)); exact HY.out x hx)); obtain ⟨A2, c2, rfl, _, _⟩ := ownsRow_slice hown2; clear hown2 hg2 hat2 h12)
  go_end0
  exact ⟨⟨_, rfl⟩, HS.out.1, hb.trans HS.out.2⟩

theorem wBytes_any {w : World} {g : Nat} {xs : List Int} (h : CW w g xs) (hs : xs.length ≤ 1099511627776) :
    Calls Try.prog 35 #[.pointer (some ⟨g, 0, none⟩)] w fun x w' => ∃ v, x = .returned v ∧ OwnB w w' v xs ∧ CW w' g xs ∧ Below w.heap.size w w' := by
  have HR := hide h
  obtain ⟨A, n, c, h⟩ := h
  have hl := h.len
  have HC := hide (Clone_any A n c xs w h.rd (Nat.le_refl _) (by omega))
  obtain ⟨hc0, hf0, hlt, hown, hbyt⟩ := h
  clear hown hbyt hl
  go_enter Try.func35, Try.ntmps35
  go_wp2_with fail
  refine HC.out.mono ?_
  rintro e w1 ⟨v, rfl, hown, hb⟩
  have HO := hide hown
  clear hown
  go_wp2_with fail
  go_ret
  exact ⟨_, rfl, HO.out, HR.out.below hb (Nat.le_refl _), hb⟩

/-! ### of nil -/
theorem wUint_nil (w : World) (a : Int) : Calls Try.prog 33 #[.pointer none, .int .u64 a] w fun x w' => (∃ v, x = .returned v) ∧ w = w' := by
  go_enter Try.func33, Try.ntmps33
  go_wp2
  refine bodyPost_ret (results_none rfl _ _ _) rfl ?_
  exact ⟨⟨_, rfl⟩, rfl⟩
theorem wStr_nil (w : World) (s : ByteArray) : Calls Try.prog 34 #[.pointer none, .string s] w fun x w' => (∃ v, x = .returned v) ∧ w = w' := by
  go_enter Try.func34, Try.ntmps34
  go_wp2
  refine bodyPost_ret (results_none rfl _ _ _) rfl ?_
  exact ⟨⟨_, rfl⟩, rfl⟩
theorem wBytes_nil (w : World) : Calls Try.prog 35 #[.pointer none] w fun x w' => x = .returned (.slice none 0 0) ∧ w = w' := by
  go_enter Try.func35, Try.ntmps35
  go_wp2
  go_ret
  exact ⟨rfl, rfl⟩

/-! ### the reference -/
theorem rInt3_any (w : World) (a : Int) (h0 : -9223372036854775808 ≤ a) (h1 : a ≤ 9223372036854775807) :
    Calls Try.prog 42 #[.int .i64 a] w fun x w' => ∃ v, x = .returned v ∧ OwnB w w' v (vput (zz a).toNat) ∧ Below w.heap.size w w' := by
  have HP := hide fun w' => RefPut_any (zz a) (zz_lo a) (zz_hi a h0 h1) w'
  go_enter Try.func42, Try.ntmps42
  go_wp2_with fail
  refine (RefZigzag_any a _ h0 h1).mono ?_
  rintro e w1 ⟨rfl, rfl⟩
  go_wp2_with fail
  refine (HP.out _).mono ?_
  rintro e w1 ⟨v, rfl, hown, hb⟩
  have HO := hide hown
  clear hown
  go_wp2_with fail
  go_ret
  exact ⟨_, rfl, HO.out, hb⟩
set_option maxRecDepth 100000 in
theorem rStr3_any (w : World) (s : ByteArray) (hm : s.size ≤ 1099511627776) :
    Calls Try.prog 44 #[.string s] w fun x w' => ∃ v, x = .returned v ∧ OwnB w w' v (encStr s) ∧ Below w.heap.size w w' := by
  obtain ⟨i0, hi, hz0, hz1, hz2⟩ := info_parts infoU8
  have HP := hide (RefPut_any (s.size : Int) (by omega) (by omega) w)
  rw [Int.toNat_natCast] at HP
  have hl := vput_le10 (a := s.size) (by omega)
  have HE : Hid (u8s (vput s.size) ++ Lib.strCells s = u8s (encStr s)) := by
    show _ = _
    rw [strCells_sB]
    simp [u8s, encStr]
  have HL : Hid ((encStr s).length = (vput s.size).length + s.size) := by
    show _ = _
    rw [encStr, List.length_append, sB_length]
  generalize vput s.size = ys at *
  go_enter Try.func44, Try.ntmps44
  go_wp2_with fail
  refine HP.out.mono ?_
  rintro e w1 ⟨v, rfl, hown0, hb⟩
  obtain ⟨A, n, c, rfl, hnc, hcm, hrd, hown, HN⟩ := hown0.var
  have hn : n ≤ 10 := by have := HN.out; omega
  have HO := hide hown
  clear hown hrd hown0
  go_wp2_with (at_builtin; refine Lib.wpList_append_own_string _ rfl (.tmp 6) (.tmp 7) 41 9 rfl w.heap.size 5 i0 Try.underlying41 Try.underlying9 hi hz0 hz1 hz2 _ n _ rfl HO.out s rfl (by unfold maxLen; omega) (by omega) hb.size ?_; intro v2 w2 hown2 hg2 hat2)
  go_ret
  refine ⟨_, rfl, ownB_of ?_, below_app hb HO.out hb.size hg2⟩
  rw [HE.out] at hown2
  rw [HL.out, ← HN.out]
  exact hown2
end Go.Proofs.Ytbkgooeghmaokaa
