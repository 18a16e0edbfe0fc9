/- A list of calls as the laws of layer 3 take it: how it reads, and how large it is. -/
import Derived.Test.YtakjlomgkbloeaaWireM
import Derived.Test.YtakjlomgkbloeaaOwn
import Derived.Outline
set_option linter.unusedVariables false
namespace Go.Proofs.Ytakjlomgkbloeaa
open Go.RowKit

/-- the slice '.slice A n c' holds the calls L, four cells each -/
def Acts (w : World) (B : Nat) (A : Option Addr) (n : Nat) (L : List ActV) : Prop :=
  L.length = n ∧ (∀ a ∈ L, a.ok) ∧ (0 < n → ∃ b o, A = some ⟨b, o, none⟩ ∧ b < B ∧ ∀ (i : Nat) (a : ActV), L[i]? = some a →
    w.cell? ⟨b, o + i * 4, none⟩ = some (.int .i64 a.k) ∧ w.cell? ⟨b, o + i * 4 + 1, none⟩ = some (.int .u64 a.u) ∧ w.cell? ⟨b, o + i * 4 + 2, none⟩ = some (.int .i64 a.n) ∧ w.cell? ⟨b, o + i * 4 + 3, none⟩ = some (.string a.s))
theorem Acts.below {w w' : World} {B : Nat} {A : Option Addr} {n : Nat} {L : List ActV} (h : Acts w B A n L) (hb : Below B w w') : Acts w' B A n L :=
  ⟨h.1, h.2.1, fun hn => by
    obtain ⟨b, o, h1, h2, h3⟩ := h.2.2 hn
    refine ⟨b, o, h1, h2, fun i a ha => ?_⟩
    obtain ⟨c0, c1, c2, c3⟩ := h3 i a ha
    exact ⟨(hb.cell h2).trans c0, (hb.cell h2).trans c1, (hb.cell h2).trans c2, (hb.cell h2).trans c3⟩⟩
theorem Acts.at_ {w : World} {B : Nat} {A : Option Addr} {n : Nat} {L : List ActV} (h : Acts w B A n L) {i : Nat} {a : ActV} (ha : L[i]? = some a) : ∃ b o, A = some ⟨b, o, none⟩ ∧ b < B ∧ a.ok ∧
    w.cell? ⟨b, o + i * 4, none⟩ = some (.int .i64 a.k) ∧ w.cell? ⟨b, o + i * 4 + 1, none⟩ = some (.int .u64 a.u) ∧ w.cell? ⟨b, o + i * 4 + 2, none⟩ = some (.int .i64 a.n) ∧ w.cell? ⟨b, o + i * 4 + 3, none⟩ = some (.string a.s) := by
  have hi : i < L.length := by
    rcases Nat.lt_or_ge i L.length with h' | h'
    · exact h'
    · rw [List.getElem?_eq_none h'] at ha; cases ha
  obtain ⟨b, o, h1, h2, h3⟩ := h.2.2 (by have := h.1; omega)
  exact ⟨b, o, h1, h2, h.2.1 a (List.mem_of_getElem? ha), h3 i a ha⟩
/-- the cells of one call, boxed -/
def cells4 (a : ActV) : Array Value := #[.int .i64 a.k, .int .u64 a.u, .int .i64 a.n, .string a.s]

set_option maxHeartbeats 1000000 in
set_option maxRecDepth 100000 in
theorem tooLarge_any (A : Option Addr) (n c : Nat) (L : List ActV) (w : World) (hA : Acts w w.heap.size A n L) (hn : n ≤ maxLen) :
    Calls Try.prog 9 #[.slice A n c] w fun x w' => x = .returned (.bool (bigL L)) ∧ Below w.heap.size w w' := by
  have HA := hide hA
  have hl := hA.1
  have HL := hide hl
  unfold maxLen at hn
  clear hA
  go_enter Try.func9, Try.ntmps9
  go_wp2
  go_loopw [3, 8] (fun s i wr => ∃ k t : Nat, i = .int .i64 (k : Int) ∧ k ≤ n ∧ s = .int .i64 (t : Int) ∧ t ≤ 5000 ∧ Hid (t = wts (L.take k)) ∧ Below w.heap.size w wr) (fun _ i _ => n - (intOf i).toNat)
  case atStart => exact ⟨0, 0, rfl, Nat.zero_le _, rfl, by omega, rfl, Below.refl _ _⟩
  case round =>
    obtain ⟨k, t, rfl, hk, rfl, ht, HT, hb⟩ := hrel
    by_cases hlt : k < n
    · have hex : ∃ a, L[k]? = some a := ⟨_, List.getElem?_eq_getElem (by omega)⟩
      obtain ⟨a, ha⟩ := hex
      obtain ⟨b, o, rfl, hbB, hok, c0, c1, c2, c3⟩ := (HA.out.below hb).at_ ha
      have HS := hide (wts_take_succ ha)
      have hs := hok.2.2.2
      unfold maxLen at hs
      have hb' := hide hb
      have HW := hide (wts_take_le L (k + 1))
      have hwt : Hid (wt a = 1 + min a.s.size 5000) := rfl
      have hbig : 5000 < t + (1 + min a.s.size 5000) → bigL L = true := fun h => by
        unfold bigL
        have := HW.out
        rw [HS.out, ← HT.out, hwt.out] at this
        simp; omega
      have HB := hide hbig
      clear hl ha hbig hb
      by_cases h5 : 5000 < a.s.size
      · have h5' : (5000 : Int) < (a.s.size : Int) := by omega
        go_wp2
        go_ret
        exact ⟨congrArg (fun v => Ending.returned (.bool v)) (HB.out (by omega)).symm, hb'.out.alloc hb'.out.size _⟩
      · have h5' : (a.s.size : Int) ≤ 5000 := by omega
        have h5'' : ¬ (5000 : Int) < (a.s.size : Int) := by omega
        by_cases h6 : 5000 < t + (1 + a.s.size)
        · have h6' : (5000 : Int) < (t : Int) + (1 + (a.s.size : Int)) := by omega
          go_wp2
          go_ret
          exact ⟨congrArg (fun v => Ending.returned (.bool v)) (HB.out (by omega)).symm, hb'.out.alloc hb'.out.size _⟩
        · have h6' : ¬ (5000 : Int) < (t : Int) + (1 + (a.s.size : Int)) := by omega
          have HT2 : Hid (t + (1 + a.s.size) = wts (L.take (k + 1))) := by
            show _ = _
            rw [HS.out, ← HT.out, hwt.out]
            omega
          go_wp2
          go_roundw
          case rel => exact ⟨k + 1, t + (1 + a.s.size), by go_num, by omega, by go_num, by omega, HT2, hb'.out.alloc hb'.out.size _⟩
          case measure => simp [intOf]; omega
    · obtain rfl : k = n := by omega
      have hno : bigL L = false := by
        unfold bigL
        have := HT.out
        rw [List.take_of_length_le (by omega)] at this
        simp; omega
      have HN := hide hno
      clear hno hl
      go_wp2
      go_ret
      exact ⟨congrArg (fun v => Ending.returned (.bool v)) HN.out.symm, hb⟩
end Go.Proofs.Ytakjlomgkbloeaa
