/- One call of both readers: the law's 'step'. -/
import Derived.Test.YtakjlomgkbloeaaActs
import Derived.Test.YtakjlomgkbloeaaRdrM
import Derived.Test.YtakjlomgkbloeaaRefW
import Derived.Deep.RegionHeld3
set_option linter.unusedVariables false
namespace Go.Proofs.Ytakjlomgkbloeaa
open Go.RowKit

theorem CR.drew {w : World} {g : Nat} {ys : List Int} {e : Int} (h : CR w g ys e) : CR w.drew g ys e := h.keep (Nat.le_refl _) (fun _ _ => rfl) (fun _ _ => rfl)
theorem RR.drew {w : World} {B h : Nat} {ys : List Int} {e : Int} (r : RR w B h ys e) : RR w.drew B h ys e := r.keep (Nat.le_refl _) (fun _ _ => rfl) (fun _ _ => rfl)
theorem RR.drewN {w : World} {B h : Nat} {ys : List Int} {e : Int} (r : RR w B h ys e) (k : Nat) : RR (w.drewN k) B h ys e := r.keep (Nat.le_refl _) (fun _ _ => rfl) (fun _ _ => rfl)

/-- both readers stand alike -/
def Both (w0 w : World) (B g h : Nat) (ys : List Int) (e : Int) : Prop := CR w g ys e ∧ RR w B h ys e ∧ Below g w0 w
theorem Both.drew {w0 w : World} {B g h : Nat} {ys : List Int} {e : Int} (r : Both w0 w B g h ys e) : Both w0 w.drew B g h ys e := ⟨r.1.drew, r.2.1.drew, r.2.2.drew⟩
theorem Both.alloc {w0 w : World} {B g h : Nat} {ys : List Int} {e : Int} (r : Both w0 w B g h ys e) (o : Obj) : Both w0 (w.alloc o) B g h ys e :=
  have hb := (Below.refl w.heap.size w).alloc (Nat.le_refl _) o
  ⟨r.1.below hb r.1.lt, r.2.1.below hb r.2.1.lt, r.2.2.trans (hb.mono (Nat.le_of_lt r.1.lt))⟩
/-- the reader has moved, then the reference's -/
theorem Both.step {w0 w w1 w2 : World} {B g h : Nat} {ys zs : List Int} {e E : Int} (r : Both w0 w B g h ys e) (hBg : B ≤ g) (hgh : g < h) (h1 : CR w1 g zs E) (g1 : w.grownBy w1 (some g)) (h2 : RR w2 B h zs E) (g2 : w1.grownBy w2 (some h)) : Both w0 w2 B g h zs E :=
  have hl := r.1.lt
  ⟨h1.far g2 hgh, h2, (below_only (below_only r.2.2 (Nat.le_of_lt hl) (Nat.le_refl _) g1) (Nat.le_of_lt h1.lt) (Nat.le_of_lt hgh) g2)⟩
theorem Both.drewN {w0 w : World} {B g h : Nat} {ys : List Int} {e : Int} (r : Both w0 w B g h ys e) (k : Nat) : Both w0 (w.drewN k) B g h ys e := ⟨r.1.drewN k, r.2.1.drewN k, below_drewN r.2.2 k⟩
theorem Both.far {w0 w w1 : World} {B g h : Nat} {ys : List Int} {e : Int} (r : Both w0 w B g h ys e) (hBg : B ≤ g) (hgh : g < h) (g1 : w.grownBy w1 (some g)) : RR w1 B h ys e := r.2.1.far g1 hBg (by omega)

/-- what 'step' returns -/
def Stepped (w0 : World) (B g h : Nat) (x : Ending) (w' : World) : Prop := ∃ ys e, x = .returned (.int .i64 1) ∧ Both w0 w' B g h ys e

theorem left_len {w : World} {B h : Nat} {A : Option Addr} {n c : Nat} {ys : List Int} {e : Int} (r : RRat w B h A n c ys e) : aLeft ys e = (n : Int) := by
  unfold aLeft
  have hl := r.len
  by_cases he : e = 0
  · subst he
    rw [if_neg (by simp), hl]
  · rw [if_pos he]
    have := r.er he
    subst this
    simp at hl
    omega


set_option maxHeartbeats 4000000 in
set_option maxRecDepth 100000 in
theorem step_byte {w0 w : World} {B g h : Nat} {ys : List Int} {e : Int} (r : Both w0 w B g h ys e) (hBg : B ≤ g) (hgh : g < h) (U N : Int) (S : ByteArray) :
    Calls Try.prog 17 #[.pointer (some ⟨g, 0, none⟩), .pointer (some ⟨h, 0, none⟩), .agg #[.int .i64 0, .int .u64 U, .int .i64 N, .string S]] w (Stepped w0 B g h) := by
  have HR := hide (r.alloc (.cells #[.int .i64 0, .int .u64 U, .int .i64 N, .string S] 39))
  clear r
  go_enter Try.func17, Try.ntmps17
  go_wp2_with fail
  refine (Byte_any HR.out.1).mono ?_
  rintro x w1 ⟨v, rfl, hv, h1, g1⟩
  obtain rfl := hv
  have HF := hide (HR.out.far hBg hgh g1)
  go_wp2_with fail
  refine (rByte_any HF.out).mono ?_
  rintro x w2 ⟨v, rfl, hv, h2, g2⟩
  obtain rfl := hv
  have HB := hide (HR.out.step hBg hgh h1 g1 h2 g2)
  clear h1 g1 h2 g2 HF HR
  generalize (aByte ys e).2.1 = zs at *
  generalize (aByte ys e).2.2 = E at *
  have hb := HB.out
  obtain ⟨b1, b2, b3⟩ := hb
  have HErr := hide fun k => ((Err_of (w2.drewN k) _ E (b1.drewN k).errOf).mono fun x w' (q : _ ∧ _) => (⟨q.1, q.2.symm⟩ : x = .returned (.int .i64 E) ∧ w' = w2.drewN k))
  have HEnd := hide fun k => End_any (b1.drewN k)
  have HrEnd := hide fun k => ((rEnd_any (b2.drewN k)).mono fun x w' (q : _ ∧ _) => (⟨q.1, q.2.symm⟩ : x = .returned (.int .i64 (aEnd zs E)) ∧ w' = w2.drewN k))
  have HLeft := hide fun k => Left_any (b1.drewN k)
  obtain ⟨A, n, c, rr⟩ := b2
  rw [left_len rr] at HLeft
  generalize aEnd zs E = D at HEnd HrEnd
  obtain ⟨q0, q1, _, _, _, _, _, _, _, _, _⟩ := rr
  clear b1 b3
  go_wp2_with fail
  go_quiet (first | (exact Calls.quiet_of_same (HErr.out _)) | (exact Calls.quiet_of (HEnd.out _)) | (exact Calls.quiet_of_same (HrEnd.out _)) | (exact Calls.quiet_of (HLeft.out _)))
  go_wp2
  go_ret
  exact ⟨_, _, rfl, HB.out.drewN _⟩

set_option maxHeartbeats 4000000 in
set_option maxRecDepth 100000 in
theorem step_int {w0 w : World} {B g h : Nat} {ys : List Int} {e : Int} (r : Both w0 w B g h ys e) (hBg : B ≤ g) (hgh : g < h) (U N : Int) (S : ByteArray) :
    Calls Try.prog 17 #[.pointer (some ⟨g, 0, none⟩), .pointer (some ⟨h, 0, none⟩), .agg #[.int .i64 2, .int .u64 U, .int .i64 N, .string S]] w (Stepped w0 B g h) := by
  have HR := hide (r.alloc (.cells #[.int .i64 2, .int .u64 U, .int .i64 N, .string S] 39))
  clear r
  go_enter Try.func17, Try.ntmps17
  go_wp2_with fail
  refine (Int_any HR.out.1).mono ?_
  rintro x w1 ⟨v, rfl, hv, h1, g1⟩
  obtain rfl := hv
  have HF := hide (HR.out.far hBg hgh g1)
  go_wp2_with fail
  refine (rInt_any HF.out).mono ?_
  rintro x w2 ⟨v, rfl, hv, h2, g2⟩
  obtain rfl := hv
  have HB := hide (HR.out.step hBg hgh h1 g1 h2 g2)
  clear h1 g1 h2 g2 HF HR
  generalize (aInt ys e).2.1 = zs at *
  generalize (aInt ys e).2.2 = E at *
  have hb := HB.out
  obtain ⟨b1, b2, b3⟩ := hb
  have HErr := hide fun k => ((Err_of (w2.drewN k) _ E (b1.drewN k).errOf).mono fun x w' (q : _ ∧ _) => (⟨q.1, q.2.symm⟩ : x = .returned (.int .i64 E) ∧ w' = w2.drewN k))
  have HEnd := hide fun k => End_any (b1.drewN k)
  have HrEnd := hide fun k => ((rEnd_any (b2.drewN k)).mono fun x w' (q : _ ∧ _) => (⟨q.1, q.2.symm⟩ : x = .returned (.int .i64 (aEnd zs E)) ∧ w' = w2.drewN k))
  have HLeft := hide fun k => Left_any (b1.drewN k)
  obtain ⟨A, n, c, rr⟩ := b2
  rw [left_len rr] at HLeft
  generalize aEnd zs E = D at HEnd HrEnd
  obtain ⟨q0, q1, _, _, _, _, _, _, _, _, _⟩ := rr
  clear b1 b3
  go_wp2_with fail
  go_quiet (first | (exact Calls.quiet_of_same (HErr.out _)) | (exact Calls.quiet_of (HEnd.out _)) | (exact Calls.quiet_of_same (HrEnd.out _)) | (exact Calls.quiet_of (HLeft.out _)))
  go_wp2
  go_ret
  exact ⟨_, _, rfl, HB.out.drewN _⟩

set_option maxHeartbeats 4000000 in
set_option maxRecDepth 100000 in
theorem step_uint {w0 w : World} {B g h : Nat} {ys : List Int} {e : Int} (r : Both w0 w B g h ys e) (hBg : B ≤ g) (hgh : g < h) (U N : Int) (S : ByteArray) :
    Calls Try.prog 17 #[.pointer (some ⟨g, 0, none⟩), .pointer (some ⟨h, 0, none⟩), .agg #[.int .i64 1, .int .u64 U, .int .i64 N, .string S]] w (Stepped w0 B g h) := by
  have HR := hide ((r.alloc (.cells #[.int .i64 1, .int .u64 U, .int .i64 N, .string S] 39)).drew)
  have hgw := r.1.lt
  have hhw := r.2.1.lt
  have hne : w.heap.size ≠ g := by omega
  have hne2 : w.heap.size ≠ h := by omega
  clear r
  go_enter Try.func17, Try.ntmps17
  go_wp2_with fail
  have hk0 : (w.alloc (.cells #[.int .i64 1, .int .u64 U, .int .i64 N, .string S] 39)).cell? ⟨w.heap.size, 1, none⟩ = some (.int .u64 U) := by simp [go_sem]
  go_region_held3 (fun w' => w'.cell? ⟨w.heap.size, 1, none⟩ = some (.int .u64 U))
    (first | assumption | exact hk0)
    (first
      | (go_at_call 19; refine (Uint_any HR.out.1 U).mono ?_; rintro x w1 ⟨v, rfl, hv, h1, g1⟩; obtain rfl := hv; have HF := hide (HR.out.far hBg hgh g1); have hk1 : w1.cell? ⟨w.heap.size, 1, none⟩ = some (.int .u64 U) := (g1.cell_far ⟨w.heap.size, 1, none⟩ (by simp) (fun x => by injection x with x; exact hne x)).trans hk0)
      | (go_at_call 37; refine (rUint_any HF.out U).mono ?_; rintro x w2 ⟨v, rfl, hv, h2, g2⟩; obtain rfl := hv; have HB := hide (HR.out.step hBg hgh h1 g1 h2 g2); have hk2 : w2.cell? ⟨w.heap.size, 1, none⟩ = some (.int .u64 U) := (g2.cell_far ⟨w.heap.size, 1, none⟩ (show w.heap.size < w1.heap.size by have := g1.size; simp at this; omega) (fun x => by injection x with x; exact hne2 x)).trans hk1))
  clear h1 g1 h2 g2 HF HR hk0 hk1 hk2
  generalize (aUint ys e U).2.1 = zs at *
  generalize (aUint ys e U).2.2 = E at *
  have hb := HB.out
  obtain ⟨b1, b2, b3⟩ := hb
  have HErr := hide fun k => ((Err_of (w2.drewN k) _ E (b1.drewN k).errOf).mono fun x w' (q : _ ∧ _) => (⟨q.1, q.2.symm⟩ : x = .returned (.int .i64 E) ∧ w' = w2.drewN k))
  have HEnd := hide fun k => End_any (b1.drewN k)
  have HrEnd := hide fun k => ((rEnd_any (b2.drewN k)).mono fun x w' (q : _ ∧ _) => (⟨q.1, q.2.symm⟩ : x = .returned (.int .i64 (aEnd zs E)) ∧ w' = w2.drewN k))
  have HLeft := hide fun k => Left_any (b1.drewN k)
  obtain ⟨A, n, c, rr⟩ := b2
  rw [left_len rr] at HLeft
  generalize aEnd zs E = D at HEnd HrEnd
  obtain ⟨q0, q1, _, _, _, _, _, _, _, _, _⟩ := rr
  clear b1 b3
  go_wp2_with fail
  go_quiet (first | (exact Calls.quiet_of_same (HErr.out _)) | (exact Calls.quiet_of (HEnd.out _)) | (exact Calls.quiet_of_same (HrEnd.out _)) | (exact Calls.quiet_of (HLeft.out _)))
  go_wp2
  go_ret
  exact ⟨_, _, rfl, HB.out.drewN _⟩
set_option maxHeartbeats 4000000 in
set_option maxRecDepth 100000 in
theorem step_count {w0 w : World} {B g h : Nat} {ys : List Int} {e : Int} (r : Both w0 w B g h ys e) (hBg : B ≤ g) (hgh : g < h) (U N : Int) (S : ByteArray) (hN0 : -9223372036854775808 ≤ N) (hN1 : N ≤ 9223372036854775807) :
    Calls Try.prog 17 #[.pointer (some ⟨g, 0, none⟩), .pointer (some ⟨h, 0, none⟩), .agg #[.int .i64 5, .int .u64 U, .int .i64 N, .string S]] w (Stepped w0 B g h) := by
  have HR := hide ((r.alloc (.cells #[.int .i64 5, .int .u64 U, .int .i64 N, .string S] 39)).drew)
  have hgw := r.1.lt
  have hhw := r.2.1.lt
  have hne : w.heap.size ≠ g := by omega
  have hne2 : w.heap.size ≠ h := by omega
  clear r
  go_enter Try.func17, Try.ntmps17
  go_wp2_with fail
  have hk0 : (w.alloc (.cells #[.int .i64 5, .int .u64 U, .int .i64 N, .string S] 39)).cell? ⟨w.heap.size, 2, none⟩ = some (.int .i64 N) := by simp [go_sem]
  go_region_held3 (fun w' => w'.cell? ⟨w.heap.size, 2, none⟩ = some (.int .i64 N))
    (first | assumption | exact hk0)
    (first
      | (go_at_call 27; refine (Count_any HR.out.1 N hN0 hN1).mono ?_; rintro x w1 ⟨v, rfl, hv, h1, g1⟩; obtain rfl := hv; have HF := hide (HR.out.far hBg hgh g1); have hk1 : w1.cell? ⟨w.heap.size, 2, none⟩ = some (.int .i64 N) := (g1.cell_far ⟨w.heap.size, 2, none⟩ (by simp) (fun x => by injection x with x; exact hne x)).trans hk0)
      | (go_at_call 41; refine (rCount_any HF.out N hN0 hN1).mono ?_; rintro x w2 ⟨v, rfl, hv, h2, g2⟩; obtain rfl := hv; have HB := hide (HR.out.step hBg hgh h1 g1 h2 g2); have hk2 : w2.cell? ⟨w.heap.size, 2, none⟩ = some (.int .i64 N) := (g2.cell_far ⟨w.heap.size, 2, none⟩ (show w.heap.size < w1.heap.size by have := g1.size; simp at this; omega) (fun x => by injection x with x; exact hne2 x)).trans hk1))
  clear h1 g1 h2 g2 HF HR hk0 hk1 hk2
  generalize (aCount ys e N).2.1 = zs at *
  generalize (aCount ys e N).2.2 = E at *
  have hb := HB.out
  obtain ⟨b1, b2, b3⟩ := hb
  have HErr := hide fun k => ((Err_of (w2.drewN k) _ E (b1.drewN k).errOf).mono fun x w' (q : _ ∧ _) => (⟨q.1, q.2.symm⟩ : x = .returned (.int .i64 E) ∧ w' = w2.drewN k))
  have HEnd := hide fun k => End_any (b1.drewN k)
  have HrEnd := hide fun k => ((rEnd_any (b2.drewN k)).mono fun x w' (q : _ ∧ _) => (⟨q.1, q.2.symm⟩ : x = .returned (.int .i64 (aEnd zs E)) ∧ w' = w2.drewN k))
  have HLeft := hide fun k => Left_any (b1.drewN k)
  obtain ⟨A, n, c, rr⟩ := b2
  rw [left_len rr] at HLeft
  generalize aEnd zs E = D at HEnd HrEnd
  obtain ⟨q0, q1, _, _, _, _, _, _, _, _, _⟩ := rr
  clear b1 b3
  go_wp2_with fail
  go_quiet (first | (exact Calls.quiet_of_same (HErr.out _)) | (exact Calls.quiet_of (HEnd.out _)) | (exact Calls.quiet_of_same (HrEnd.out _)) | (exact Calls.quiet_of (HLeft.out _)))
  go_wp2
  go_ret
  exact ⟨_, _, rfl, HB.out.drewN _⟩
set_option maxHeartbeats 4000000 in
set_option maxRecDepth 100000 in
theorem step_str {w0 w : World} {B g h : Nat} {ys : List Int} {e : Int} (r : Both w0 w B g h ys e) (hBg : B ≤ g) (hgh : g < h) (U N : Int) (S : ByteArray) (hN0 : -9223372036854775808 ≤ N) (hN1 : N ≤ 9223372036854775807) :
    Calls Try.prog 17 #[.pointer (some ⟨g, 0, none⟩), .pointer (some ⟨h, 0, none⟩), .agg #[.int .i64 4, .int .u64 U, .int .i64 N, .string S]] w (Stepped w0 B g h) := by
  have HR := hide ((r.alloc (.cells #[.int .i64 4, .int .u64 U, .int .i64 N, .string S] 39)).drew)
  have hgw := r.1.lt
  have hhw := r.2.1.lt
  have hne : w.heap.size ≠ g := by omega
  have hne2 : w.heap.size ≠ h := by omega
  clear r
  go_enter Try.func17, Try.ntmps17
  go_wp2_with fail
  have hk0 : (w.alloc (.cells #[.int .i64 4, .int .u64 U, .int .i64 N, .string S] 39)).cell? ⟨w.heap.size, 2, none⟩ = some (.int .i64 N) := by simp [go_sem]
  go_region_held3 (fun w' => w'.cell? ⟨w.heap.size, 2, none⟩ = some (.int .i64 N))
    (first | assumption | exact hk0)
    (first
      | (go_at_call 21; refine (String_any HR.out.1 N hN0 hN1).mono ?_; rintro x w1 ⟨v, rfl, hv, h1, g1⟩; obtain rfl := (show v = _ from hv); have HF := hide (HR.out.far hBg hgh g1); have hk1 : w1.cell? ⟨w.heap.size, 2, none⟩ = some (.int .i64 N) := (g1.cell_far ⟨w.heap.size, 2, none⟩ (by simp) (fun x => by injection x with x; exact hne x)).trans hk0)
      | (go_at_call 40; refine (rStr_any HF.out N hN0 hN1).mono ?_; rintro x w2 ⟨v, rfl, hv, h2, g2⟩; obtain rfl := (show v = _ from hv); have HB := hide (HR.out.step hBg hgh h1 g1 h2 g2); have hk2 : w2.cell? ⟨w.heap.size, 2, none⟩ = some (.int .i64 N) := (g2.cell_far ⟨w.heap.size, 2, none⟩ (show w.heap.size < w1.heap.size by have := g1.size; simp at this; omega) (fun x => by injection x with x; exact hne2 x)).trans hk1))
  clear h1 g1 h2 g2 HF HR hk0 hk1 hk2
  generalize (aStr ys e N).2.1 = zs at *
  generalize (aStr ys e N).2.2 = E at *
  have hb := HB.out
  obtain ⟨b1, b2, b3⟩ := hb
  have HErr := hide fun k => ((Err_of (w2.drewN k) _ E (b1.drewN k).errOf).mono fun x w' (q : _ ∧ _) => (⟨q.1, q.2.symm⟩ : x = .returned (.int .i64 E) ∧ w' = w2.drewN k))
  have HEnd := hide fun k => End_any (b1.drewN k)
  have HrEnd := hide fun k => ((rEnd_any (b2.drewN k)).mono fun x w' (q : _ ∧ _) => (⟨q.1, q.2.symm⟩ : x = .returned (.int .i64 (aEnd zs E)) ∧ w' = w2.drewN k))
  have HLeft := hide fun k => Left_any (b1.drewN k)
  obtain ⟨A, n, c, rr⟩ := b2
  rw [left_len rr] at HLeft
  generalize aEnd zs E = D at HEnd HrEnd
  obtain ⟨q0, q1, _, _, _, _, _, _, _, _, _⟩ := rr
  clear b1 b3
  go_wp2_with fail
  go_quiet (first | (exact Calls.quiet_of_same (HErr.out _)) | (exact Calls.quiet_of (HEnd.out _)) | (exact Calls.quiet_of_same (HrEnd.out _)) | (exact Calls.quiet_of (HLeft.out _)))
  go_wp2
  go_ret
  exact ⟨_, _, rfl, HB.out.drewN _⟩

theorem take_byt {ys : List Int} (h : Byt ys) (e k : Int) : Byt (aTake ys e k).1 := by
  unfold aTake
  repeat (split; · exact Byt.nil)
  exact h.take _
theorem Take_sl {w : World} {g : Nat} {ys : List Int} {e : Int} (h : CR w g ys e) (k : Int) (h1 : k ≤ 9223372036854775807) {vs : List Int} {m : Nat} (hv : (aTake ys e k).1 = vs) (hm : vs.length = m) :
    Calls Try.prog 26 #[.pointer (some ⟨g, 0, none⟩), .int .i64 k] w fun x w' => ∃ A1 c1, x = .returned (.slice A1 m c1) ∧ w'.ownsRow w.heap.size 5 1 (.slice A1 m c1) m (u8s vs) ∧ CR w' g (aTake ys e k).2.1 (aTake ys e k).2.2 ∧ w.grownBy w' (some g) := by
  refine (Take_any h k h1).mono ?_
  rintro x w' ⟨v, rfl, ⟨A, c, rfl, _, _, _, k4⟩, hr, hg⟩
  rw [hv] at k4 ⊢
  rw [hm] at k4 ⊢
  exact ⟨A, c, rfl, k4, hr, hg⟩
theorem rTake_sl {w : World} {B g : Nat} {ys : List Int} {e : Int} (h : RR w B g ys e) (k : Int) (h1 : k ≤ 9223372036854775807) {vs : List Int} {m : Nat} (hv : (aTake ys e k).1 = vs) (hm : vs.length = m) :
    Calls Try.prog 39 #[.pointer (some ⟨g, 0, none⟩), .int .i64 k] w fun x w' => ∃ A1 c1, x = .returned (.slice A1 m c1) ∧ w'.ownsRow w.heap.size 5 1 (.slice A1 m c1) m (u8s vs) ∧ RR w' B g (aTake ys e k).2.1 (aTake ys e k).2.2 ∧ w.grownBy w' (some g) := by
  refine (rTake_any h k h1).mono ?_
  rintro x w' ⟨v, rfl, ⟨A, c, rfl, _, _, _, k4⟩, hr, hg⟩
  rw [hv] at k4 ⊢
  rw [hm] at k4 ⊢
  exact ⟨A, c, rfl, k4, hr, hg⟩
theorem own_far {w w' : World} {base h n : Nat} {v : Value} {xs : List Value} (r : w.ownsRow base 5 1 v n xs) (hg : w.grownBy w' (some h)) (hb : h < base) : w'.ownsRow base 5 1 v n xs := by
  refine r.kept hg (.inr fun x => ?_)
  have := (r.lt h x).1
  omega
theorem Equal_own {w : World} {B1 B2 : Nat} {A1 A2 : Option Addr} {m c1 c2 : Nat} {vs : List Int} (r1 : w.ownsRow B1 5 1 (.slice A1 m c1) m (u8s vs)) (r2 : w.ownsRow B2 5 1 (.slice A2 m c2) m (u8s vs)) (hb : Byt vs) :
    Calls Try.prog 15 #[.slice A1 m c1, .slice A2 m c2] w fun x w' => x = .returned (.bool true) ∧ w = w' := by
  have H := Equal_any A1 A2 m m c1 c2 vs vs w _ _ (Rd.of_own r1) (Rd.of_own r2) hb hb
  rw [eqB_self] at H
  exact H

set_option maxHeartbeats 4000000 in
set_option maxRecDepth 100000 in
theorem step_take {w0 w : World} {B g h : Nat} {ys : List Int} {e : Int} (r : Both w0 w B g h ys e) (hBg : B ≤ g) (hgh : g < h) (U N : Int) (S : ByteArray) (hN1 : N ≤ 9223372036854775807) :
    Calls Try.prog 17 #[.pointer (some ⟨g, 0, none⟩), .pointer (some ⟨h, 0, none⟩), .agg #[.int .i64 3, .int .u64 U, .int .i64 N, .string S]] w (Stepped w0 B g h) := by
  have HR := hide ((r.alloc (.cells #[.int .i64 3, .int .u64 U, .int .i64 N, .string S] 39)).drew)
  have hgw := r.1.lt
  have hhw := r.2.1.lt
  have hne : w.heap.size ≠ g := by omega
  have hne2 : w.heap.size ≠ h := by omega
  have HY := hide (take_byt r.1.byt e N)
  generalize hvs : (aTake ys e N).1 = vs at *
  generalize hms : vs.length = m at *
  have HV := hide hvs
  have HM := hide hms
  clear r hvs hms
  go_enter Try.func17, Try.ntmps17
  go_wp2_with fail
  have hk0 : (w.alloc (.cells #[.int .i64 3, .int .u64 U, .int .i64 N, .string S] 39)).cell? ⟨w.heap.size, 2, none⟩ = some (.int .i64 N) := by simp [go_sem]
  go_region_held3 (fun w' => w'.cell? ⟨w.heap.size, 2, none⟩ = some (.int .i64 N))
    (first | assumption | exact hk0)
    (first
      | (go_at_call 26; refine (Take_sl HR.out.1 N hN1 HV.out HM.out).mono ?_; rintro x w1 ⟨A1, c1, rfl, o1, h1, g1⟩; have HF := hide (HR.out.far hBg hgh g1); have O1 := hide o1; clear o1; have hk1 : w1.cell? ⟨w.heap.size, 2, none⟩ = some (.int .i64 N) := (g1.cell_far ⟨w.heap.size, 2, none⟩ (by simp) (fun x => by injection x with x; exact hne x)).trans hk0)
      | (go_at_call 39; refine (rTake_sl HF.out N hN1 HV.out HM.out).mono ?_; rintro x w2 ⟨A2, c2, rfl, o2, h2, g2⟩; have HB := hide (HR.out.step hBg hgh h1 g1 h2 g2); have hk2 : w2.cell? ⟨w.heap.size, 2, none⟩ = some (.int .i64 N) := (g2.cell_far ⟨w.heap.size, 2, none⟩ (show w.heap.size < w1.heap.size by have := g1.size; simp at this; omega) (fun x => by injection x with x; exact hne2 x)).trans hk1; have HE := hide (Equal_own (own_far O1.out g2 (by simp; omega)) o2 HY.out); clear o2)
      | (go_at_call 15; refine HE.out.mono ?_; rintro x w3 ⟨rfl, rfl⟩))
  clear h1 g1 h2 g2 HF HR hk0 hk1 hk2 HE O1 HV
  generalize (aTake ys e N).2.1 = zs at *
  generalize (aTake ys e N).2.2 = E at *
  have hb := HB.out
  obtain ⟨b1, b2, b3⟩ := hb
  have HErr := hide fun k => ((Err_of (w2.drewN k) _ E (b1.drewN k).errOf).mono fun x w' (q : _ ∧ _) => (⟨q.1, q.2.symm⟩ : x = .returned (.int .i64 E) ∧ w' = w2.drewN k))
  have HEnd := hide fun k => End_any (b1.drewN k)
  have HrEnd := hide fun k => ((rEnd_any (b2.drewN k)).mono fun x w' (q : _ ∧ _) => (⟨q.1, q.2.symm⟩ : x = .returned (.int .i64 (aEnd zs E)) ∧ w' = w2.drewN k))
  have HLeft := hide fun k => Left_any (b1.drewN k)
  obtain ⟨A, n, c, rr⟩ := b2
  rw [left_len rr] at HLeft
  generalize aEnd zs E = D at HEnd HrEnd
  obtain ⟨q0, q1, _, _, _, _, _, _, _, _, _⟩ := rr
  clear b1 b3
  go_wp2_with fail
  go_quiet (first | (exact Calls.quiet_of_same (HErr.out _)) | (exact Calls.quiet_of (HEnd.out _)) | (exact Calls.quiet_of_same (HrEnd.out _)) | (exact Calls.quiet_of (HLeft.out _)))
  go_wp2
  go_ret
  exact ⟨_, _, rfl, HB.out.drewN _⟩

set_option maxHeartbeats 4000000 in
set_option maxRecDepth 100000 in
theorem step_fail {w0 w : World} {B g h : Nat} {ys : List Int} {e : Int} (r : Both w0 w B g h ys e) (hBg : B ≤ g) (hgh : g < h) (U N : Int) (S : ByteArray) :
    Calls Try.prog 17 #[.pointer (some ⟨g, 0, none⟩), .pointer (some ⟨h, 0, none⟩), .agg #[.int .i64 6, .int .u64 U, .int .i64 N, .string S]] w (Stepped w0 B g h) := by
  have HR := hide (r.alloc (.cells #[.int .i64 6, .int .u64 U, .int .i64 N, .string S] 39))
  have hgw := r.1.lt
  have hhw := r.2.1.lt
  have hne : w.heap.size ≠ g := by omega
  clear r
  go_enter Try.func17, Try.ntmps17
  go_wp2_with fail
  refine (Fail_any HR.out.1 N).mono ?_
  rintro x w1 ⟨⟨v, rfl⟩, h1, g1⟩
  have HF := hide (HR.out.far hBg hgh g1)
  have hk0 : (w.alloc (.cells #[.int .i64 6, .int .u64 U, .int .i64 N, .string S] 39)).cell? ⟨w.heap.size, 2, none⟩ = some (.int .i64 N) := by simp [go_sem]
  have hk1 : w1.cell? ⟨w.heap.size, 2, none⟩ = some (.int .i64 N) := (g1.cell_far ⟨w.heap.size, 2, none⟩ (by simp) (fun x => by injection x with x; exact hne x)).trans hk0
  clear hk0
  go_wp2_with fail
  refine (rFail_any HF.out N).mono ?_
  rintro x w2 ⟨⟨v, rfl⟩, h2, g2⟩
  have HB := hide (HR.out.step hBg hgh h1 g1 h2 g2)
  clear h1 g1 h2 g2 HF HR hk1
  generalize (aFail ys e N).1 = zs at *
  generalize (aFail ys e N).2 = E at *
  have hb := HB.out
  obtain ⟨b1, b2, b3⟩ := hb
  have HErr := hide fun k => ((Err_of (w2.drewN k) _ E (b1.drewN k).errOf).mono fun x w' (q : _ ∧ _) => (⟨q.1, q.2.symm⟩ : x = .returned (.int .i64 E) ∧ w' = w2.drewN k))
  have HEnd := hide fun k => End_any (b1.drewN k)
  have HrEnd := hide fun k => ((rEnd_any (b2.drewN k)).mono fun x w' (q : _ ∧ _) => (⟨q.1, q.2.symm⟩ : x = .returned (.int .i64 (aEnd zs E)) ∧ w' = w2.drewN k))
  have HLeft := hide fun k => Left_any (b1.drewN k)
  obtain ⟨A, n, c, rr⟩ := b2
  rw [left_len rr] at HLeft
  generalize aEnd zs E = D at HEnd HrEnd
  obtain ⟨q0, q1, _, _, _, _, _, _, _, _, _⟩ := rr
  clear b1 b3
  go_wp2_with fail
  go_quiet (first | (exact Calls.quiet_of_same (HErr.out _)) | (exact Calls.quiet_of (HEnd.out _)) | (exact Calls.quiet_of_same (HrEnd.out _)) | (exact Calls.quiet_of (HLeft.out _)))
  go_wp2
  go_ret
  exact ⟨_, _, rfl, HB.out.drewN _⟩

set_option maxHeartbeats 4000000 in
set_option maxRecDepth 100000 in
theorem step_none {w0 w : World} {B g h : Nat} {zs : List Int} {E : Int} (r : Both w0 w B g h zs E) (hBg : B ≤ g) (hgh : g < h) (K U N : Int) (S : ByteArray) (hK : K < 0 ∨ 6 < K) :
    Calls Try.prog 17 #[.pointer (some ⟨g, 0, none⟩), .pointer (some ⟨h, 0, none⟩), .agg #[.int .i64 K, .int .u64 U, .int .i64 N, .string S]] w (Stepped w0 B g h) := by
  have HB := hide (r.alloc (.cells #[.int .i64 K, .int .u64 U, .int .i64 N, .string S] 39))
  have b0 : (K == 0) = false := by simp; omega
  have b1 : (K == 1) = false := by simp; omega
  have b2 : (K == 2) = false := by simp; omega
  have b3 : (K == 3) = false := by simp; omega
  have b4 : (K == 4) = false := by simp; omega
  have b5 : (K == 5) = false := by simp; omega
  have b6 : (K == 6) = false := by simp; omega
  clear r hK
  go_enter Try.func17, Try.ntmps17
  generalize hw2 : w.alloc (.cells #[.int .i64 K, .int .u64 U, .int .i64 N, .string S] 39) = w2 at HB
  have hb := HB.out
  obtain ⟨p1, p2, p3⟩ := hb
  have HErr := hide fun k => ((Err_of (w2.drewN k) _ E (p1.drewN k).errOf).mono fun x w' (q : _ ∧ _) => (⟨q.1, q.2.symm⟩ : x = .returned (.int .i64 E) ∧ w' = w2.drewN k))
  have HEnd := hide fun k => End_any (p1.drewN k)
  have HrEnd := hide fun k => ((rEnd_any (p2.drewN k)).mono fun x w' (q : _ ∧ _) => (⟨q.1, q.2.symm⟩ : x = .returned (.int .i64 (aEnd zs E)) ∧ w' = w2.drewN k))
  have HLeft := hide fun k => Left_any (p1.drewN k)
  obtain ⟨A, n, c, rr⟩ := p2
  rw [left_len rr] at HLeft
  generalize aEnd zs E = D at HEnd HrEnd
  obtain ⟨q0, q1, _, _, _, _, _, _, _, _, _⟩ := rr
  subst hw2
  clear p1 p3
  go_wp2_with fail
  go_quiet (first | (exact Calls.quiet_of_same (HErr.out _)) | (exact Calls.quiet_of (HEnd.out _)) | (exact Calls.quiet_of_same (HrEnd.out _)) | (exact Calls.quiet_of (HLeft.out _)))
  go_wp2
  go_ret
  exact ⟨_, _, rfl, HB.out.drewN _⟩

/-- any call -/
theorem step_any {w0 w : World} {B g h : Nat} {ys : List Int} {e : Int} (r : Both w0 w B g h ys e) (hBg : B ≤ g) (hgh : g < h) (a : ActV) (ha : a.ok) :
    Calls Try.prog 17 #[.pointer (some ⟨g, 0, none⟩), .pointer (some ⟨h, 0, none⟩), .agg #[.int .i64 a.k, .int .u64 a.u, .int .i64 a.n, .string a.s]] w (Stepped w0 B g h) := by
  obtain ⟨K, U, N, S⟩ := a
  obtain ⟨_, _, hN, _⟩ := ha
  simp only at hN ⊢
  by_cases k0 : K = 0
  · subst k0; exact step_byte r hBg hgh U N S
  by_cases k1 : K = 1
  · subst k1; exact step_uint r hBg hgh U N S
  by_cases k2 : K = 2
  · subst k2; exact step_int r hBg hgh U N S
  by_cases k3 : K = 3
  · subst k3; exact step_take r hBg hgh U N S hN.2
  by_cases k4 : K = 4
  · subst k4; exact step_str r hBg hgh U N S hN.1 hN.2
  by_cases k5 : K = 5
  · subst k5; exact step_count r hBg hgh U N S hN.1 hN.2
  by_cases k6 : K = 6
  · subst k6; exact step_fail r hBg hgh U N S
  exact step_none r hBg hgh K U N S (by omega)
end Go.Proofs.Ytakjlomgkbloeaa
