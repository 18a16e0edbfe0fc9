/- What the laws of layer 6 share: Large, wide, Skip. -/
import Derived.Test.YtphfiohjkjipiaaTyp
import Derived.Test.YtphfiohjkjipiaaTypE
import Derived.Test.YtphfiohjkjipiaaAppend
import Derived.Test.YtphfiohjkjipiaaTypS
set_option linter.unusedVariables false
namespace Go.Proofs.Ytphfiohjkjipiaa
open Go.RowKit

theorem tyBig_at : ∀ {l : List Ty} {k : Nat} {m : Nat} {t : Ty}, l[k]? = some t → tyBig m (l.drop k) = if 200 < m + (1 + min t.fields.length 500) then true else tyBig (m + (1 + min t.fields.length 500)) (l.drop (k + 1)) := by
  intro l k m t h
  have hk : k < l.length := (List.getElem?_eq_some_iff.1 h).1
  have e : l.drop k = t :: l.drop (k + 1) := by
    rw [List.drop_eq_getElem_cons hk]
    rw [List.getElem?_eq_getElem hk] at h
    injection h with h
    rw [h]
  rw [e]
  rfl
def largeN (L : List TyW) : Int := if tyLarge (tys L) = true then 1 else 0

set_option maxHeartbeats 1000000 in
set_option maxRecDepth 100000 in
theorem Large_any (A : Option Addr) (n c : Nat) (L : List TyW) (w : World) (hA : Typs w w.heap.size A n L) (hn : n ≤ maxLen) :
    Calls Try.prog 27 #[.slice A n c] w fun e w' => e = .returned (.int .i64 (largeN L)) ∧ Below w.heap.size w w' := by
  have HA := hide hA
  have HL := hide hA.len
  unfold maxLen at hn
  clear hA
  go_enter Try.func27, Try.ntmps27
  go_wp2_with fail
  go_loopw [3, 8] (fun s i wr => ∃ k m : Nat, i = .int .i64 (k : Int) ∧ k ≤ n ∧ s = .int .i64 (m : Int) ∧ m ≤ 200 ∧ Hid (tyLarge (tys L) = tyBig m ((tys L).drop k)) ∧ Below w.heap.size w wr) (fun _ i _ => n - (intOf i).toNat)
  case atStart => exact ⟨0, 0, rfl, Nat.zero_le _, rfl, Nat.zero_le _, rfl, Below.refl _ _⟩
  case round =>
    obtain ⟨k, m, rfl, hk, rfl, hm, HT, hb⟩ := hrel
    have HB := hide hb
    have hsz := hb.size
    by_cases hlt : k < n
    · have hlt' : (k : Int) < (n : Int) := by omega
      have hex : ∃ a, L[k]? = some a := ⟨_, List.getElem?_eq_getElem (by have := HL.out; omega)⟩
      obtain ⟨x, hx⟩ := hex
      obtain ⟨g, o, rfl, hgB, hone, c0, c1, c2, c3, c4⟩ := (HA.out.below hb).at_ hx
      have hst := tyBig_at (m := m) (tys_at hx)
      rw [hone.ok.len] at hst
      have hxn : x.n ≤ maxLen := Nat.le_trans hone.ok.nc hone.ok.cm
      unfold maxLen at hxn
      have HB2 := hide (hb.alloc hsz (.cells (c5 x).toArray 48))
      by_cases h5 : x.n < 500
      · have h5' : (x.n : Int) < 500 := by omega
        have h5m : min x.n 500 = x.n := Nat.min_eq_left (by omega)
        rw [h5m] at hst
        by_cases hbig : 200 < m + (1 + x.n)
        · have hbig' : (200 : Int) < (m : Int) + (1 + (x.n : Int)) := by omega
          have HF := hide (show largeN L = 1 from if_pos (by rw [HT.out, hst, if_pos hbig]))
          clear hx hone hst hb hbig h5 h5m
          go_wp2_with fail
          all_goals
            go_ret
            exact ⟨congrArg (fun z => Ending.returned (.int .i64 z)) HF.out.symm, HB2.out⟩
        · have hbig' : (m : Int) + (1 + (x.n : Int)) ≤ 200 := by omega
          have HT2 := hide (HT.out.trans (hst.trans (if_neg hbig)))
          clear hx hone hst hb h5 h5m hbig
          go_wp2_with fail
          all_goals
            go_roundw
            case rel => exact ⟨k + 1, m + (1 + x.n), by go_num, by omega, by go_num, by omega, HT2.out, HB2.out⟩
            case measure => simp [intOf]; omega
      · have h5' : (500 : Int) ≤ (x.n : Int) := by omega
        have h5m : min x.n 500 = 500 := Nat.min_eq_right (by omega)
        rw [h5m] at hst
        have hbig' : (200 : Int) < (m : Int) + (1 + 500) := by omega
        have HF := hide (show largeN L = 1 from if_pos (by rw [HT.out, hst, if_pos (by omega)]))
        clear hx hone hst hb h5 h5m
        go_wp2_with fail
        all_goals
          go_ret
          exact ⟨congrArg (fun z => Ending.returned (.int .i64 z)) HF.out.symm, HB2.out⟩
    · obtain rfl : k = n := by omega
      have HF := hide (show largeN L = 0 from if_neg (by rw [HT.out, List.drop_of_length_le (by rw [tys_len, HL.out]; exact Nat.le_refl _)]; simp [tyBig]))
      go_wp2_with fail
      go_ret
      exact ⟨congrArg (fun z => Ending.returned (.int .i64 z)) HF.out.symm, HB.out⟩

theorem Large_is {A : Option Addr} {n c : Nat} {L : List TyW} {v : Int} (h : largeN L = v) (w : World) (hA : Typs w w.heap.size A n L) (hn : n ≤ maxLen) :
    Calls Try.prog 27 #[.slice A n c] w fun e w' => e = .returned (.int .i64 v) ∧ Below w.heap.size w w' := h ▸ Large_any A n c L w hA hn
theorem large_no {L : List TyW} (h : tyLarge (tys L) = false) : largeN L = 0 := if_neg (by rw [h]; exact Bool.false_ne_true)
theorem large_yes {L : List TyW} (h : tyLarge (tys L) = true) : largeN L = 1 := if_pos h

theorem EqI_is {A B : Option Addr} {n m c d : Nat} {xs ys : List Int} {w : World} {k l : Nat} {b : Bool} (h : eqIs xs ys = b) (hx : Rd w k A n (i64s xs)) (hy : Rd w l B m (i64s ys)) (hn : n ≤ maxLen) (hm : m ≤ maxLen) :
    Calls Try.prog 17 #[.slice A n c, .slice B m d] w fun e w' => e = .returned (.bool b) ∧ Below w.heap.size w w' := h ▸ EqI_any A B n m c d xs ys w k l hx hy hn hm

/-! ### wide, Skip -/
/-- a bool came back -/
def SomeB (e : Ending) : Prop := ∃ b, e = .returned (.bool b)
/-- Skip's answer: 1 if the list is large, else one of 0 and 1 -/
def SkipE (L : List TyW) (e : Ending) : Prop := ∃ v : Int, e = .returned (.int .i64 v) ∧ (tyLarge (tys L) = true → v = 1) ∧ (v = 0 ∨ v = 1)
theorem cell_last (w : World) (o : Obj) (x : Int) (t : TypeId) : ∀ j u, (i64s [x])[j]? = some u → ((w.alloc o).alloc (.cells #[.int .i64 x] t)).cell? ((⟨w.heap.size + 1, 0, none⟩ : Addr).add j) = some u := by
  have h := heap_alloc_new (w.alloc o) (.cells #[.int .i64 x] t)
  rw [World.size_alloc] at h
  exact World.news_of_block h

end Go.Proofs.Ytphfiohjkjipiaa
