/- The examples of chapter 5 hold: 'alive' returns true and turns nothing that lay. -/
import Derived.Test.YtbkgooeghmaokaaIntN
set_option linter.unusedVariables false
namespace Go.Proofs.Ytbkgooeghmaokaa
open Go.RowKit

def sa : ByteArray := { data := #[97] }
def sb : ByteArray := { data := #[98] }
def s1a : ByteArray := { data := #[49, 97] }
def sa1 : ByteArray := { data := #[97, 49] }
def su : ByteArray := { data := #[95] }
def se : ByteArray := { data := #[] }

theorem one_ident {s : ByteArray} {c : Int} (h : sB s = [c]) (hs : s.size = 1) (hc : letB c = true) : identB s = true :=
  identB_yes (by omega) (by omega) fun j hj d hd => by
    obtain rfl : j = 0 := by omega
    rw [h] at hd
    injection hd with e
    subst e
    exact .inl hc
theorem id_a : identB sa = true := one_ident (c := 97) rfl rfl rfl
theorem id_b : identB sb = true := one_ident (c := 98) rfl rfl rfl
theorem id_u : identB su = true := one_ident (c := 95) rfl rfl rfl
theorem id_e : identB se = false := identB_long (.inl (by decide))
theorem id_1a : identB s1a = false := identB_no (k := 0) (c := 49) rfl rfl (.inl rfl)
theorem id_a1 : identB sa1 = true := identB_yes (by decide) (by decide) fun j hj d hd => by
  have h2 : j < 2 := hj
  have e : sB sa1 = [97, 49] := rfl
  rw [e] at hd
  rcases (show j = 0 ∨ j = 1 by omega) with rfl | rfl
  · injection hd with e
    subst e
    exact .inl rfl
  · injection hd with e
    subst e
    exact .inr ⟨by decide, rfl⟩
theorem tab_bab : tab [sb, sa, sb] = [sa, sb] := by decide +kernel
theorem enc_ab : encT [sa, sb] = [2, 1, 97, 1, 98] := by
  have h1 : vput 1 = [1] := vput_small (by decide)
  have h2 : vput 2 = [2] := vput_small (by decide)
  show vput 2 ++ encS [sa, sb] = _
  have e1 : encStr sa = [1, 97] := by show vput 1 ++ [97] = _; rw [h1]; rfl
  have e2 : encStr sb = [1, 98] := by show vput 1 ++ [98] = _; rw [h1]; rfl
  rw [h2]
  show [2] ++ [encStr sa, encStr sb].flatten = _
  rw [e1, e2]
  rfl
theorem sV_lit (w : World) (L : List ByteArray) (t : TypeId) : Rd (w.alloc (.cells (sV L).toArray t)) (w.heap.size + 1) (some ⟨w.heap.size, 0, none⟩) L.length (sV L) :=
  ⟨by simp, fun _ => ⟨w.heap.size, 0, rfl, by omega, fun j u hu => by
    rw [cell_of_row (w.alloc (.cells (sV L).toArray t)) w.heap.size (0 + j) (sV L).toArray t (0, 0) (heap_alloc_new w _)]
    simpa using hu⟩⟩

theorem aliveA (W : World) (g : Nat) (hr : Rd W W.heap.size (some ⟨g, 0, none⟩) 3 (sV [sb, sa, sb])) : Calls Try.prog 12 #[.slice (some ⟨g, 0, none⟩) 3 3] W fun e w' =>
    ∃ h, e = .returned (.tuple #[.pointer (some ⟨h, 0, none⟩), .int .i64 0]) ∧ W.heap.size ≤ h ∧ Tab w' h [sa, sb] ∧ Below W.heap.size W w' := by
  refine (New_any _ 3 3 [sb, sa, sb] W hr ?_ (by decide)).mono ?_
  · intro s hs
    have : s.size = 1 := by
      simp only [List.mem_cons, List.not_mem_nil, or_false] at hs
      rcases hs with rfl | rfl | rfl <;> rfl
    unfold maxLen; omega
  · rintro e w' (⟨_, h, rfl, h1, h2, h3⟩ | ⟨hn, _⟩)
    · rw [tab_bab] at h2
      exact ⟨h, rfl, h1, h2, h3⟩
    · refine absurd (fun s hs => ?_) hn
      simp only [List.mem_cons, List.not_mem_nil, or_false] at hs
      rcases hs with rfl | rfl | rfl
      · exact id_b
      · exact id_a
      · exact id_b
theorem aliveB (W : World) (g : Nat) (hr : Rd W W.heap.size (some ⟨g, 0, none⟩) 1 (sV [s1a])) : Calls Try.prog 12 #[.slice (some ⟨g, 0, none⟩) 1 1] W fun e w' =>
    e = .returned (.tuple #[.pointer none, .int .i64 12]) ∧ w' = W := by
  refine (New_any _ 1 1 [s1a] W hr ?_ (by decide)).mono ?_
  · intro s hs
    obtain rfl : s = s1a := by simpa using hs
    decide
  · rintro e w' (⟨hy, _⟩ | ⟨_, rfl, rfl⟩)
    · have := hy s1a (by simp)
      rw [id_1a] at this
      cases this
    · exact ⟨rfl, rfl⟩
theorem aliveLen {W : World} {g : Nat} (h : Tab W g [sa, sb]) : Calls Try.prog 17 #[.pointer (some ⟨g, 0, none⟩)] W fun e w' => e = .returned (.int .i64 2) ∧ w' = W :=
  (Len_any h).mono fun e w' (p : _ ∧ _) => ⟨p.1, p.2.symm⟩
theorem aliveEnc {W : World} {g : Nat} (h : Tab W g [sa, sb]) : Calls Try.prog 20 #[.pointer (some ⟨g, 0, none⟩)] W fun e w' =>
    ∃ A n c, e = .returned (.slice A n c) ∧ Rd w' w'.heap.size A n (u8s [2, 1, 97, 1, 98]) ∧ Below W.heap.size W w' := by
  refine (Encode_any h ?_ (by decide)).mono ?_
  · intro s hs
    simp only [List.mem_cons, List.not_mem_nil, or_false] at hs
    rcases hs with rfl | rfl <;> decide
  · rintro e w' ⟨v, rfl, ho, hb⟩
    obtain ⟨A, n, c, rfl, _, _, hr, _, _⟩ := ho.var
    rw [enc_ab] at hr
    exact ⟨A, n, c, rfl, hr, hb⟩
theorem aliveEq (W : World) (A : Option Addr) (n c g : Nat) (hr : Rd W W.heap.size A n (u8s [2, 1, 97, 1, 98])) (hl : Rd W W.heap.size (some ⟨g, 0, none⟩) 5 (u8s [2, 1, 97, 1, 98])) :
    Calls Try.prog 23 #[.slice A n c, .slice (some ⟨g, 0, none⟩) 5 5] W fun e w' => e = .returned (.bool true) ∧ w' = W := by
  refine (Equal_any A _ n 5 c 5 _ _ W _ _ hr hl (by simp [Byt]) (by simp [Byt])).mono ?_
  rintro e w' ⟨rfl, rfl⟩
  rw [eqB_self]
  exact ⟨rfl, rfl⟩

set_option maxHeartbeats 2000000 in
set_option maxRecDepth 100000 in
theorem alive05_any (w : World) : Calls Try.prog 8 #[] w fun e w' => e = .returned (.bool true) ∧ Below w.heap.size w w' := by
  go_enter Try.func8, Try.ntmps8
  go_wp2_with fail
  refine (aliveA _ _ ((sV_lit w [sb, sa, sb] _).more (by simp))).mono ?_
  rintro e w1 ⟨h, rfl, hh, ht, hb⟩
  have hb1 : Below w.heap.size w w1 := ((Below.refl _ _).alloc (Nat.le_refl _) _).trans (hb.mono (by simp))
  have HT := hide ht
  have HB := hide hb1
  clear hb hb1 ht hh
  go_wp2_with fail
  refine (aliveB _ _ ((sV_lit w1 [s1a] _).more (by simp))).mono ?_
  rintro e w2 ⟨rfl, rfl⟩
  have hx := (Below.refl w1.heap.size w1).alloc (Nat.le_refl _) (.cells (sV [s1a]).toArray 9)
  have HT2 := hide (HT.out.now hx)
  have HB2 := hide (HB.out.trans (hx.mono HB.out.size))
  clear hx
  go_wp2_with fail
  refine (aliveLen HT2.out).mono ?_
  rintro e w2 ⟨rfl, rfl⟩
  go_wp2_with fail
  refine (aliveEnc HT2.out).mono ?_
  rintro e w3 ⟨A, n, c, rfl, hr, hb3⟩
  have HB3 := hide (HB2.out.trans (hb3.mono HB2.out.size))
  have hx := (Below.refl w3.heap.size w3).alloc (Nat.le_refl _) (.cells (u8s [2, 1, 97, 1, 98]).toArray 5)
  have HR := hide ((hr.below hx).more (B' := (w3.alloc (.cells (u8s [2, 1, 97, 1, 98]).toArray 5)).heap.size) (by simp))
  have HB4 := hide (HB3.out.trans (hx.mono HB3.out.size))
  clear hr hb3 hx
  go_wp2_with fail
  refine (aliveEq _ A n c _ HR.out ((Rd_lit w3 [2, 1, 97, 1, 98] _).more (by simp))).mono ?_
  rintro e w4 ⟨rfl, rfl⟩
  go_wp2_with fail
  refine (IsIdent_is id_a1 _ (by decide)).mono ?_
  rintro e w4 ⟨rfl, rfl⟩
  go_wp2_with fail
  refine (IsIdent_is id_u _ (by decide)).mono ?_
  rintro e w4 ⟨rfl, rfl⟩
  go_wp2_with fail
  refine (IsIdent_is id_e _ (by decide)).mono ?_
  rintro e w4 ⟨rfl, rfl⟩
  go_wp2_with fail
  go_ret
  exact ⟨rfl, HB4.out⟩
end Go.Proofs.Ytbkgooeghmaokaa
