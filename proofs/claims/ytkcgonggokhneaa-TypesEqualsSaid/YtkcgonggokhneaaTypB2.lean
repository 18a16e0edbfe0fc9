/- compute at bool, whole. -/
import Derived.Test.YtkcgonggokhneaaTypB
import Derived.Laws.EntriesVeiled
set_option linter.unusedVariables false
namespace Go.Proofs.Ytkcgonggokhneaa
open Go.RowKit

section
variable {A : Option Addr} {n c : Nat} {L : List TyW} {w : World} {Sx : Nat → Prop} {KP : FuncId} {cp : Array Value} {men : Int → Int → Prop} {val : Int → Bool} {M : World → (Int → Prop) → Prop} {D0 : Int → Prop}
theorem ctxB_fix {B : Nat} (hA : Typs w B A n L) (hB : B ≤ w.heap.size) (hnc : n ≤ c) (hcm : c ≤ maxLen) (hn : n ≤ 65535) (hSx : ∀ k, Sx k → B ≤ k ∧ k < w.heap.size) : (ctxB w A n c L Sx KP cp).fix := by
  have far : ∀ d : Nat, d ≠ 2 → ¬ (w.heap.size + d = w.heap.size + 2 ∨ Sx (w.heap.size + d)) := fun d hd h => by
    rcases h with h | h
    · omega
    · have := hSx _ h; omega
  have low : ∀ b, b < B → ¬ (b = w.heap.size + 2 ∨ Sx b) := fun b hb h => by
    rcases h with h | h
    · omega
    · have := hSx _ h; omega
  refine ⟨far 0 (by omega), far 1 (by omega), far 3 (by omega), far 4 (by omega), .inl rfl, fun h0 b o e => ?_, fun x hx h0 b o e => ?_, hnc, hcm, hn⟩
  · obtain ⟨b', o', e', hb, _⟩ := hA.cells.2 h0
    have e2 : A = some ⟨b, o, none⟩ := e
    rw [e2] at e'
    injection e' with e'
    injection e' with e1 _
    exact low b (by omega)
  · obtain ⟨b', o', e', hb, _⟩ := (hA.one x hx).rd.2 h0
    rw [e] at e'
    injection e' with e'
    injection e' with e1 _
    exact low b (by omega)

set_option maxHeartbeats 1000000 in
set_option maxRecDepth 100000 in
/-- compute hands on what find returns -/
theorem computeB_of (i : Int) (R : Ending → World → Prop) (hR : ∀ e w', R e w' → ∃ v, e = .returned v)
    (hc : Calls Try.prog 43 #[.int .i64 i, .int .i64 32, .pointer (some ⟨w.heap.size + 3, 0, none⟩), .pointer (some ⟨w.heap.size, 0, none⟩), .pointer (some ⟨w.heap.size + 1, 0, none⟩), .pointer (some ⟨w.heap.size + 4, 0, none⟩)] (laidB w A n c KP cp) R) :
    Calls Try.prog 33 #[.slice A n c, .int .i64 i, .func (.func KP) #[] cp] w R := by
  have HC := hide hc
  have HR := hide hR
  unfold laidB at HC
  clear hc hR
  have hmm := @run_makeMap Try.prog
  go_enter Try.func33, Try.ntmps33
  go_wp2_with fail
  refine HC.out.mono ?_
  intro e w1 hr
  obtain ⟨v, rfl⟩ := HR.out _ _ hr
  have HRR := hide hr
  clear hr
  go_wp2_with fail
  exact HRR.out

theorem computeB_in {B : Nat} (hA : Typs w B A n L) (hB : B ≤ w.heap.size) (hnc : n ≤ c) (hcm : c ≤ maxLen) (hn : n ≤ 65535) {r : Int} (hok : TyOk (tys L) r) (hSx : ∀ k, Sx k → B ≤ k ∧ k < w.heap.size) (hM : ∀ bm, w.heap.size ≤ bm → ∀ w1 w2 D, M w1 D → Turn (fun k => k = bm) w1 w2 → M w2 D) (hm : M w D0)
    (hP : (ctxB w A n c L Sx KP cp).fix → PropC (ctxB w A n c L Sx KP cp) (fun p => .bool (val p)) men (JB (ctxB w A n c L Sx KP cp) men val M)) (hval : True) (i : Nat) (x : TyW) (hx : L[i]? = some x) :
    Calls Try.prog 33 #[.slice A n c, .int .i64 (i : Int), .func (.func KP) #[] cp] w fun e w' => e = .returned (.bool (val (i : Int))) ∧ M w' (fun q => D0 q ∨ men (i : Int) q) ∧ Turn Sx w w' := by
  have hf := ctxB_fix (KP := KP) (cp := cp) hA hB hnc hcm hn hSx
  have hJ := laidB_J (c := c) (KP := KP) (cp := cp) (men := men) (val := val) (hA.more hB) (fun k hk => (hSx k hk).2) hM hm
  have hd := (hok.dep_pos (tys_at hx)).2.1
  refine computeB_of (i : Int) _ (fun e w' h => ⟨_, h.1⟩) ((findB hf hok (hM (w.heap.size + 2) (by omega)) (hP hf) hval hA.len 32 (Nat.le_refl _) i x _ D0 hx hd hJ).mono ?_)
  rintro e w' ⟨h1, h2, h3⟩
  refine ⟨h1, h2.m, ?_⟩
  have hb := laidB_below (w := w) (A := A) (n := n) (c := c) (KP := KP) (cp := cp)
  refine ⟨h3.os.trans hb.os, h3.tape.trans hb.tape, h3.output.trans hb.output, Nat.le_trans hb.size h3.size, fun k hk hs => (h3.block k (Nat.lt_of_lt_of_le hk hb.size) ?_).trans (hb.block k hk)⟩
  rintro (rfl | h)
  · omega
  · exact hs h

theorem computeB_out {B : Nat} (hA : Typs w B A n L) (hB : B ≤ w.heap.size) (hnc : n ≤ c) (hcm : c ≤ maxLen) (hn : n ≤ 65535) (i : Int) (hi : IntR i) (hout : ¬ (0 ≤ i ∧ i < (n : Int))) :
    Calls Try.prog 33 #[.slice A n c, .int .i64 i, .func (.func KP) #[] cp] w fun e w' => e = .returned (.bool false) ∧ Below w.heap.size w w' := by
  have hf := ctxB_fix (KP := KP) (cp := cp) (Sx := fun _ => False) hA hB hnc hcm hn (fun k h => h.elim)
  have hJ := laidB_J (c := c) (KP := KP) (cp := cp) (men := fun _ _ => False) (val := fun _ => false) (M := fun _ _ => True) (D0 := fun _ => False) (hA.more hB) (Sx := fun _ => False) (fun k h => h.elim) (fun _ _ _ _ _ _ _ => trivial) trivial
  refine computeB_of i _ (fun e w' h => ⟨_, h.1⟩) ((findOutB hf hA.len i hi hout (fun _ _ _ _ _ => trivial) _ _ hJ).mono ?_)
  rintro e w' ⟨h1, h2⟩
  have hb := laidB_below (w := w) (A := A) (n := n) (c := c) (KP := KP) (cp := cp)
  exact ⟨h1, hb.trans (h2.mono hb.size)⟩
end
end Go.Proofs.Ytkcgonggokhneaa
