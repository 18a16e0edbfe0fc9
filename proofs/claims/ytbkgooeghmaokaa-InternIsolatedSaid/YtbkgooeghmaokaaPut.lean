/- What varint.Put returns: the encoding, in memory of its own. -/
import Derived.Test.YtbkgooeghmaokaaVar
import Derived.Test.YtbkgooeghmaokaaOwn
set_option linter.unusedVariables false
namespace Go.Proofs.Ytbkgooeghmaokaa
open Go.RowKit Go.Shelf
attribute [local go_sem] Oper.semAt_some

theorem orByteAll : ∀ a : Fin 256, bits .or .u8 (a.val : Int) 128 = ((a.val % 128 + 128 : Nat) : Int) := by decide +kernel
theorem orByte (r : Nat) : bits .or .u8 ((r : Int) % 256) 128 = (r : Int) % 128 + 128 := by
  have h := orByteAll ⟨r % 256, by omega⟩
  have e : (((⟨r % 256, by omega⟩ : Fin 256).val : Nat) : Int) = (r : Int) % 256 := by simp
  rw [e] at h
  rw [h]
  omega

set_option maxRecDepth 100000 in
set_option maxHeartbeats 1000000 in
theorem enc1_in (F : Fence) (n : Nat) (hf : F.fn 80) (hro : F.round = none) (hn : 1 ≤ n) (l Bn n₀ : Nat) (x : Nat) (hx : x < 18446744073709551616) (J Jx : List Int → World → Prop)
    (hY : ∀ pre b W, J pre W → pre.length < (vput x).length → YieldAt F (n - 1) Try.prog l #[.int .u8 b] W fun e W' =>
      (e = .returned (.bool true) ∧ J (pre ++ [b]) W' ∧ Below n₀ W W') ∨ (e = .returned (.bool false) ∧ Jx (pre ++ [b]) W'))
    (W : World) (hBn : W.cell? ⟨Bn, 0, none⟩ = some (.int .u64 x)) (h0 : J [] W) :
    CallsIn F n Try.prog 80 #[.func (.yield l) #[] #[], .pointer (some ⟨Bn, 0, none⟩)] W fun e W' => (∃ v, e = .returned v) ∧
      ((∃ ys, ys = vput x ∧ J ys W') ∨ (∃ pre, pre <+: vput x ∧ Jx pre W')) := by
  refine callsIn_of_wp Try.func80 rfl hf ?_ hro
  simp only [Try.ntmps80, List.size_toArray, List.length_cons, List.length_nil, Nat.reduceAdd, Nat.reduceSub, Array.replicate_succ, Array.replicate_zero, List.push_toArray, List.append_toArray, List.nil_append, List.cons_append]
  gi_wp2
  gi_loopw [3] (fun p wr => ∃ (pre : List Int) (r : Nat), p = .int .u64 (r : Int) ∧ r ≤ x ∧ vput x = pre ++ vput r ∧ J pre wr)
    (fun p _ => (intOf p).toNat)
  case atStart =>
    exact ⟨[], x, rfl, Nat.le_refl _, rfl, h0⟩
  case round =>
    obtain ⟨pre, r, rfl, hr, hp, hJs⟩ := hrel
    have hlt : pre.length < (vput x).length := by rw [hp]; have := vput_pos r; simp; omega
    have Hp := hide hp
    clear hp
    by_cases hbig : 128 ≤ r
    · obtain ⟨fn, tmps, assign, body, hy, hR⟩ := hY pre ((r : Int) % 128 + 128) wr hJs hlt
      have ho := orByte r
      gi_wp2
      refine hR.mono ?_
      have e : vput r = ((r : Int) % 128 + 128) :: vput (r / 128) := by rw [vput_big hbig]; simp
      rintro e1 W3 (⟨rfl, hJ3, hk3⟩ | ⟨rfl, hJx3⟩)
      · gi_wp2
        go_roundw
        case rel => exact ⟨pre ++ [(r : Int) % 128 + 128], r / 128, by go_num, by omega, by rw [Hp.out, e]; simp, hJ3⟩
        case measure => simp [intOf]; omega
      · gi_wp2
        refine bodyPost_ret (results_none rfl _ _ _) rfl ?_
        exact ⟨⟨_, rfl⟩, .inr ⟨pre ++ [(r : Int) % 128 + 128], ⟨vput (r / 128), by rw [Hp.out, e]; simp⟩, hJx3⟩⟩
    · obtain ⟨fn, tmps, assign, body, hy, hR⟩ := hY pre (r : Int) wr hJs hlt
      have e : vput r = [(r : Int)] := vput_small (by omega)
      have h8 : (r : Int) % 256 = r := by omega
      gi_wp2
      refine hR.mono ?_
      rintro e1 W3 (⟨rfl, hJ3, hk3⟩ | ⟨rfl, hJx3⟩)
      · gi_wp2
        go_end0
        exact ⟨⟨_, rfl⟩, .inl ⟨_, by rw [Hp.out, e], hJ3⟩⟩
      · gi_wp2
        go_end0
        exact ⟨⟨_, rfl⟩, .inr ⟨_, ⟨[], by rw [Hp.out, e]; simp⟩, hJx3⟩⟩

theorem enc_in (F : Fence) (n : Nat) (hf : F.fn 71) (hro : F.round = none) (x : Int) (w : World) :
    CallsIn F n Try.prog 71 #[.int .u64 x] w fun e w' => e = .returned (.func (.func 80) #[] #[.pointer (some ⟨w.heap.size, 0, none⟩)]) ∧ w' = w.alloc (.cells #[.int .u64 x] 56) := by
  refine callsIn_of_wp Try.func71 rfl hf ?_ hro
  simp only [Try.ntmps71, List.size_toArray, List.length_cons, List.length_nil, Nat.reduceAdd, Nat.reduceSub, Array.replicate_succ, Array.replicate_zero, List.push_toArray, List.append_toArray, List.nil_append, List.cons_append]
  gi_wp2
  go_ret
  exact ⟨rfl, rfl⟩

theorem enc_stops (F : Fence) (n : Nat) (hf : F.fn 80) (hro : F.round = none) (hn : 1 ≤ n) (Bn n₀ : Nat) (x : Nat) (hx : x < 18446744073709551616) (w : World) (hBn : Bn < w.heap.size)
    (hc : w.cell? ⟨Bn, 0, none⟩ = some (.int .u64 x)) :
    SeqStopsK F n Try.prog 80 #[.pointer (some ⟨Bn, 0, none⟩)] (fun b : Int => #[Value.int .u8 b]) (Below n₀) (fun ys => ys = vput x) (fun pre => pre <+: vput x) (vput x).length w := fun l J Jx W hW _ _ hY h0 =>
  enc1_in F n hf hro hn l Bn n₀ x hx J Jx hY W ((hW.cell (p := ⟨Bn, 0, none⟩) hBn).trans hc) h0

set_option maxRecDepth 100000 in
set_option maxHeartbeats 2000000 in
theorem Put_in (a : Nat) (hx1 : a ≤ 18446744073709551615) (w : World) :
    CallsIn Fence.wide 9 Try.prog 47 #[.int .u64 a] w fun e W' => ∃ v, e = .returned v ∧ W'.ownsRow w.heap.size 5 1 v (vput a).length (u8s (vput a)) ∧ Below w.heap.size w W' := by
  have hl2 := vput_le10 (a := a) (by omega)
  have hl1 := vput_pos a
  have hml : (vput a).length ≤ maxLen := by unfold maxLen; omega
  obtain ⟨i0, hi, hz0, hz1, hz2⟩ := info_parts infoU8
  have hC : ∀ n : Nat, n = 9 → vlen (a : Int) = (((vput a).length : Nat) : Int) := fun _ _ => by simp [vlen]
  have hib : ∀ n : Nat, n = 9 → i0.bytes * (vput a).length ≤ 281474976710656 := fun _ _ => by rw [hz2]; omega
  refine callsIn_of_wp_marks Try.func47 rfl trivial ?_ rfl
  simp only [Try.ntmps47, List.size_toArray, List.length_cons, List.length_nil, Nat.reduceAdd, Nat.reduceSub, Array.replicate_succ, Array.replicate_zero, List.push_toArray, List.append_toArray, List.nil_append, List.cons_append]
  gi_wp2_with (first
    | (refine ⟨trivial, ?_⟩; gi_at_call 70; refine (callsIn_wide.2 (Size_any _ _ (by omega) (by omega))).mono ?_; rintro e w' ⟨rfl, rfl⟩)
    | (gi_at_make; refine wpListIn_make_own _ rfl _ _ _ rfl w.heap.size 5 i0 _ 1 Try.underlying41 hi hz0 hz1 .i64 .i64 _ (vput a).length rfl rfl (hC 9 rfl) (hib 9 rfl) hml (Nat.le_refl _) ?_; intro w1 hown1 hg1)
    | (refine ⟨trivial, ?_⟩; gi_at_call 71; refine (enc_in Fence.wide _ trivial rfl _ _).mono ?_; rintro e w' ⟨rfl, rfl⟩))
  have hB1 : Below w.heap.size w w1 := (Below.refl _ _).grown hg1 (Nat.le_refl _) (fun _ h => by cases h)
  have hle : w.heap.size ≤ w1.heap.size := hB1.size
  have bO := Boxed.new w1 41 (.slice (some ⟨w.heap.size, 0, none⟩) 0 (vput a).length)
  have bN := Boxed.new (w1.alloc (.cells #[.slice (some ⟨w.heap.size, 0, none⟩) 0 (vput a).length] 41)) 56 (.int .u64 a)
  rw [World.size_alloc] at bN
  have hB0 : Below w.heap.size w ((w1.alloc (.cells #[.slice (some ⟨w.heap.size, 0, none⟩) 0 (vput a).length] 41)).alloc (.cells #[.int .u64 a] 56)) := (hB1.alloc hle _).alloc (by simp; omega) _
  refine wpIn_rangeFunc_ownG rfl (by omega) (gf := 80) (lb := #[.pointer (some ⟨w1.heap.size + 1, 0, none⟩)]) rfl trivial (enters_of Try.func80 (by kernel_rfl) rfl)
    (enc_stops Fence.wide _ trivial rfl (by omega) (w1.heap.size + 1) w.heap.size a (by omega) _ (by simp) bN.cell) belowK_t (belowK_b (by simp; omega)) (Below.refl _ _) (fun _ => rfl)
    (fun pre W => (∃ v, Boxed W w1.heap.size 41 v ∧ W.ownsRow w.heap.size 5 1 v pre.length (u8s pre) ∧ True) ∧ Below w.heap.size w W)
    (fun _ _ _ => False)
    (OwnFrom.and (Own.from (holdsRow_own w.heap.size w1.heap.size 41 5 1 (fun pre : List Int => pre.length) (fun pre => u8s pre) (fun _ _ => True)) _) (ownFrom_below (Nat.le_refl _) (by simp; omega)))
    (fun _ _ _ _ _ hs _ _ => hs)
    ⟨⟨_, bO.alloc _, (hown1.alloc _).alloc _, trivial⟩, hB0⟩
    (fun x => { tmps := #[.int .u64 a, undef, .slice none 0 0, .pointer (some ⟨w1.heap.size, 0, none⟩), .int .u8 x, .int .u64 a, .int .i64 (vput a).length, .slice (some ⟨w.heap.size, 0, none⟩) 0 (vput a).length, .int .u64 a, .func (.func 80) #[] #[.pointer (some ⟨w1.heap.size + 1, 0, none⟩)], .int .u8 x, undef, undef, undef, undef, undef], defers := [] }) ?assign ?body ?done ?stop
  case assign =>
    intro l x W K hK
    gi_wp2
    exact hK
  case body =>
    rintro l pre x W ⟨⟨v, hv, hrow, _⟩, hB⟩ hlt
    have hc := hv.cell
    gi_wp2_with (gi_at_builtin; refine wpListIn_append_own _ rfl _ _ 41 rfl w.heap.size 5 i0 (.int .u8 0) 1 1 Try.underlying41 hi hz0 hz1 hz2 rfl (by decide) _ _ _ rfl (hrow.alloc _) ⟨W.heap.size, 0, none⟩ 1 1 [.int .u8 x] rfl rfl (cell_one_new _ _ _) (by simp [Value.oneCell']) (by unfold maxLen; omega) (by omega) (by have := hB.size; simp; omega) ?_; intro v' w1 hown' hgrow _; obtain ⟨g', cap', rfl⟩ := ownsRow_succ hown'; obtain ⟨hv1, hv2, hr2, hk2, hb2⟩ := hv.appended (by decide) hrow hB.size hle hown' hgrow; have hc1 := hv1.cell; have hf1 := hv1.frozen)
    exact ⟨hk2.from _, hb2, ⟨_, hv2, by simpa using hr2, trivial⟩, hB.trans hb2⟩
  case done =>
    rintro D ys W hD rfl ⟨⟨v, hv, hrow, _⟩, hB⟩ hK
    have hc := hv.cell
    gi_wp2
    refine ⟨by simp, .inl ⟨_, _, rfl, run_takeDeferred hK, ?_⟩⟩
    exact ⟨_, results_tmp rfl _ _ _, v, rfl, ownsRow_putObj hrow _ hK rfl, hB.trans (belowK_b (w := w) (Nat.le_refl _) W D _ _ (by simp at hD; omega) hK rfl rfl)⟩
  case stop =>
    rintro D c pre W _ _ h _
    exact h.elim

/-- Put: the encoding, in new memory. -/
theorem Put_any (a : Int) (h0 : 0 ≤ a) (hx1 : a ≤ 18446744073709551615) (w : World) :
    Calls Try.prog 47 #[.int .u64 a] w fun e W' => ∃ v, e = .returned v ∧ OwnB w W' v (vput a.toNat) ∧ Below w.heap.size w W' := by
  obtain ⟨a, rfl⟩ := Int.eq_ofNat_of_zero_le h0
  rw [Int.toNat_natCast]
  exact (callsIn_wide.1 (Put_in a (by omega) w)).mono fun e W' ⟨v, he, ho, hb⟩ => ⟨v, he, ownB_of ho, hb⟩
end Go.Proofs.Ytbkgooeghmaokaa
