/- Outlives. -/
import Derived.Test.YtagnikaghhobjaaRegU
set_option linter.unusedVariables false
namespace Go.Proofs.Ytagnikaghhobjaa
open Go.RowKit Go.Shelf
attribute [local go_sem] Oper.semAt_some

theorem outliving_any (r : Nat) (A : Option Addr) (n c : Nat) (w : World) :
    Calls Try.prog 32 #[.pointer (some ⟨r, 0, none⟩), .slice A n c] w fun e w' => e = .returned (.func (.func 43) #[] #[.pointer (some ⟨w.heap.size + 1, 0, none⟩), .pointer (some ⟨w.heap.size, 0, none⟩)]) ∧
      w' = (w.alloc (.cells #[.pointer (some ⟨r, 0, none⟩)] 25)).alloc (.cells #[.slice A n c] 35) := by
  go_enter Try.func32, Try.ntmps32
  go_wp2
  go_ret
  exact ⟨rfl, rfl⟩
theorem block_ownB {W W' : World} {row : Option Nat} {B : Nat} {t : TypeId} {v : Value} (h : Boxed W B t v) (hg : W.grownBy W' row) (hr : ∀ r, row = some r → ∃ o : Obj, W.heap[r]? = some o ∧ o.isCells = false) : Boxed W' B t v :=
  (hg.block B h.lt (fun e' => by
    obtain ⟨o, ho, hc⟩ := hr B e'.symm
    have h' : W.heap[B]? = some (.cells #[v] t (0, 0)) := h
    rw [h'] at ho
    injection ho with ho
    subst ho
    cases hc)).trans h
theorem block_low {B n X : Nat} {W W' : World} {t : TypeId} {v : Value} (h : Boxed W B t v) (hi : ItX n X W W') (hB : B < n) : Boxed W' B t v := (hi.low.block B hB).trans h
theorem outL_one {ps : List Pr} {rg a b : Int} : OutL ps rg [b] a ↔ Out ps rg a b :=
  ⟨fun ⟨c, h, k⟩ => by have e : c = b := by simpa using h
                       subst e; exact k, fun h => ⟨b, by simp, h⟩⟩

set_option maxHeartbeats 8000000 in
set_option maxRecDepth 100000 in
theorem Outlives_any (r : Nat) (ps : List Pr) (rg a b : Int) (w : World) (hR : Rel w w.heap.size r ps rg) :
    Calls Try.prog 16 #[.pointer (some ⟨r, 0, none⟩), .int .i64 a, .int .i64 b] w fun e w' => e = .returned (.bool (out ps rg a b)) ∧ Below w.heap.size w w' := by
  refine (callsIn_wide (n := 9)).1 ?_
  obtain ⟨A1, nD, cD, D, A2, c2, L, hR⟩ := hR
  refine callsIn_of_wp_marks Try.func16 rfl trivial ?_ rfl
  simp only [Try.ntmps16, List.size_toArray, List.length_cons, List.length_nil, Nat.reduceAdd, Nat.reduceSub, Array.replicate_succ, Array.replicate_zero, List.push_toArray, List.append_toArray, List.nil_append, List.cons_append]
  gi_wp2_with (refine ⟨trivial, ?_⟩; gi_at_call 32; refine (callsIn_wide.2 (outliving_any _ _ _ _ _)).mono ?_; rintro e w' ⟨rfl, rfl⟩)
  have hex : ∃ s, s = w.heap.size := ⟨_, rfl⟩
  obtain ⟨s, hs⟩ := hex
  have bA := (((((Boxed.new w 3 (.int .i64 a)).alloc (.cells #[.bool false] 4)).alloc (.cells #[.int .i64 b] 3)).alloc (.cells #[.pointer (some ⟨r, 0, none⟩)] 25)).alloc (.cells #[.slice (some ⟨w.heap.size + 1 + 1, 0, none⟩) 1 1] 35))
  have bR := ((((Boxed.new (w.alloc (.cells #[.int .i64 a] 3)) 4 (.bool false)).alloc (.cells #[.int .i64 b] 3)).alloc (.cells #[.pointer (some ⟨r, 0, none⟩)] 25)).alloc (.cells #[.slice (some ⟨w.heap.size + 1 + 1, 0, none⟩) 1 1] 35))
  have bB := (((Boxed.new ((w.alloc (.cells #[.int .i64 a] 3)).alloc (.cells #[.bool false] 4)) 3 (.int .i64 b)).alloc (.cells #[.pointer (some ⟨r, 0, none⟩)] 25)).alloc (.cells #[.slice (some ⟨w.heap.size + 1 + 1, 0, none⟩) 1 1] 35))
  have bP := ((Boxed.new (((w.alloc (.cells #[.int .i64 a] 3)).alloc (.cells #[.bool false] 4)).alloc (.cells #[.int .i64 b] 3)) 25 (.pointer (some ⟨r, 0, none⟩))).alloc (.cells #[.slice (some ⟨w.heap.size + 1 + 1, 0, none⟩) 1 1] 35))
  have bS := Boxed.new ((((w.alloc (.cells #[.int .i64 a] 3)).alloc (.cells #[.bool false] 4)).alloc (.cells #[.int .i64 b] 3)).alloc (.cells #[.pointer (some ⟨r, 0, none⟩)] 25)) 35 (.slice (some ⟨w.heap.size + 1 + 1, 0, none⟩) 1 1)
  have hB0 : Below w.heap.size w (((((w.alloc (.cells #[.int .i64 a] 3)).alloc (.cells #[.bool false] 4)).alloc (.cells #[.int .i64 b] 3)).alloc (.cells #[.pointer (some ⟨r, 0, none⟩)] 25)).alloc (.cells #[.slice (some ⟨w.heap.size + 1 + 1, 0, none⟩) 1 1] 35)) :=
    (((((Below.refl _ w).alloc (Nat.le_refl _) _).alloc (by simp) _).alloc (by simp; omega) _).alloc (by simp; omega) _).alloc (by simp; omega) _
  have hsz : (((((w.alloc (.cells #[.int .i64 a] 3)).alloc (.cells #[.bool false] 4)).alloc (.cells #[.int .i64 b] 3)).alloc (.cells #[.pointer (some ⟨r, 0, none⟩)] 25)).alloc (.cells #[.slice (some ⟨w.heap.size + 1 + 1, 0, none⟩) 1 1] 35)).heap.size = w.heap.size + 5 := by simp
  simp only [World.size_alloc] at bR bB bP bS
  generalize (((((w.alloc (.cells #[.int .i64 a] 3)).alloc (.cells #[.bool false] 4)).alloc (.cells #[.int .i64 b] 3)).alloc (.cells #[.pointer (some ⟨r, 0, none⟩)] 25)).alloc (.cells #[.slice (some ⟨w.heap.size + 1 + 1, 0, none⟩) 1 1] 35)) = W0 at *
  rw [← hs] at hR bA bR bB bP bS hB0 hsz ⊢
  have HS := hide hs
  clear hs
  have hOX : ownX (s + 1) W0 = none := ownX_of bR.cell
  have hLb : RdX W0.heap.size (s + 1) W0 (some ⟨s + 1 + 1, 0, none⟩) 1 [b] := ⟨rfl, fun _ => ⟨s + 1 + 1, 0, rfl, by omega, by omega, by rw [hOX]; simp, fun j x hx => by
    match j, hx with
    | 0, hx =>
      have e : b = x := by simpa using hx
      subst e
      exact bB.cell
    | j + 1, hx => simp at hx⟩⟩
  refine wpIn_rangeFunc_X (by omega) (gf := 43) (lb := #[.pointer (some ⟨s + 1 + 1 + 1 + 1, 0, none⟩), .pointer (some ⟨s + 1 + 1 + 1, 0, none⟩)]) rfl (enters_of Try.func43 (by kernel_rfl) rfl)
    (outliving_seq _ (by omega) (s + 1) (s + 1) (s + 1 + 1 + 1 + 1) (s + 1 + 1 + 1) r ps rg A1 nD cD D A2 c2 L _ 1 1 [b] W0 ((hR.below hB0).more (by omega)) (Nat.le_refl _) (by omega) hLb (by omega) bS.cell bP.cell (by omega))
    (Below.refl _ _) (by omega) (by omega) hOX
    (fun pre W => ((a ∉ pre) ∧ Boxed W s 3 (.int .i64 a) ∧ Boxed W (s + 1) 4 (.bool false)) ∧ Below s w W)
    (fun cd pre W => (cd = .ret ∧ a ∈ pre ∧ Boxed W (s + 1) 4 (.bool true)) ∧ Below s w W)
    (OwnFrom.and (Own.from (fun s A B row hs hg hr => ⟨hs.1, block_ownB hs.2.1 hg hr, block_ownB hs.2.2 hg hr⟩) _) (ownFrom_below (Nat.le_of_eq HS.out) (by omega)))
    (fun cd => OwnFrom.and (Own.from (fun s A B row hs hg hr => ⟨hs.1, hs.2.1, block_ownB hs.2.2 hg hr⟩) _) (ownFrom_below (Nat.le_of_eq HS.out) (by omega)))
    (fun pre A C h hi => ⟨⟨h.1.1, block_low h.1.2.1 hi (by omega), block_low h.1.2.2 hi (by omega)⟩, h.2.trans (hi.low.mono (by omega))⟩)
    (fun cd pre A C h hi => ⟨⟨h.1.1, h.1.2.1, block_low h.1.2.2 hi (by omega)⟩, h.2.trans (hi.low.mono (by omega))⟩)
    ⟨⟨by simp, bA, bR⟩, hB0⟩
    (fun x => { tmps := #[.pointer (some ⟨r, 0, none⟩), .int .i64 a, .int .i64 b, undef, .pointer (some ⟨s, 0, none⟩), undef, .pointer (some ⟨s + 1, 0, none⟩), .int .i64 x, .pointer (some ⟨r, 0, none⟩), .bool false, .pointer (some ⟨r, 0, none⟩), .int .i64 b, .slice (some ⟨s + 1 + 1, 0, none⟩) 1 1,
      .func (.func 43) #[] #[.pointer (some ⟨s + 1 + 1 + 1 + 1, 0, none⟩), .pointer (some ⟨s + 1 + 1 + 1, 0, none⟩)], .int .i64 x, undef, undef, undef], defers := [] }) ?assign ?body ?done ?stop
  case assign =>
    intro l x W K hK
    gi_wp2
    exact hK
  case body =>
    rintro l pre x W ⟨⟨hp, hA, hF⟩, hB⟩ _
    have cA := hA.cell
    have cF := hF.cell
    have fF := hF.frozen
    have HA := hide hA
    have HF := hide hF
    have HB := hide hB
    have HP := hide hp
    clear hA hF hB hp
    by_cases hx : x = a
    · subst hx
      have tx : (x == x) = true := by simp
      gi_wp2
      exact ⟨(KeepsOthers.setCell _ _ _).from _, ⟨rfl, List.mem_append.2 (.inr (by simp)), HF.out.set _⟩, HB.out.setCell (p := ⟨s + 1, 0, none⟩) (by simp) _⟩
    · have tx : (x == a) = false := by simpa using hx
      have HX := hide hx
      clear hx
      gi_wp2
      exact ⟨KeepsFrom.refl _ _, ⟨Below.refl _ _, fun _ _ _ _ h _ _ => h, .inl rfl, fun h => h⟩, ⟨fun h => (List.mem_append.1 h).elim HP.out (fun e => HX.out (by have h : a = x := (by simpa using e); exact h.symm)), HA.out, HF.out⟩, HB.out⟩
  case done =>
    rintro D ys W hD hys ⟨⟨hne, hA, hF⟩, hB⟩ hK
    have HV := hide (show out ps rg a b = false from out_not.2 fun h => hne ((hys a).2 (outL_one.2 h)))
    have cF := hF.cell
    have fF := hF.frozen
    have HF := hide hF
    have HB := hide hB
    clear hF hB hA hne hys
    gi_wp2
    have hK' := (KeepsOthers.setCell W ⟨s + 1, 0, none⟩ (.bool false)).same D _ hK rfl
    refine ⟨by simp, .inl ⟨_, _, rfl, run_takeDeferred hK', ?_⟩⟩
    have hc5 := cell_kept (World.cell?_setCell_same' W ⟨s + 1, 0, none⟩ (.bool false) (by rw [cF]; rfl)) (grownBy_putObj' _ D (.deferred none)) (fun r e => by cases e; exact ⟨_, hK', rfl⟩)
    refine ⟨.bool false, ?_, by rw [HV.out], by rw [← HS.out]; exact (HB.out.setCell (p := ⟨s + 1, 0, none⟩) (by simp) _).trans (belowK_b (w := W0) (by omega) _ D _ _ hD hK' rfl rfl)⟩
    simp [results, Try.f16, go_sem, hc5]
  case stop =>
    rintro D cd pre W hD hpre ⟨⟨rfl, hin, hF⟩, hB⟩ hK
    have HV := hide (show out ps rg a b = true from out_iff.2 (outL_one.1 (hpre a hin)))
    have cF := hF.cell
    gi_wp2
    refine ⟨by simp, .inl ⟨_, _, rfl, run_takeDeferred hK, ?_⟩⟩
    have hc5 := cell_kept cF (grownBy_putObj' _ D (.deferred none)) (fun r e => by cases e; exact ⟨_, hK, rfl⟩)
    refine ⟨.bool true, ?_, by rw [HV.out], by rw [← HS.out]; exact hB.trans (belowK_b (w := W0) (by omega) W D _ _ hD hK rfl rfl)⟩
    simp [results, Try.f16, go_sem, hc5]
theorem Outlives_is {r : Nat} {ps : List Pr} {rg a b : Int} {v : Bool} (h : out ps rg a b = v) (w : World) (hR : Rel w w.heap.size r ps rg) :
    Calls Try.prog 16 #[.pointer (some ⟨r, 0, none⟩), .int .i64 a, .int .i64 b] w fun e w' => e = .returned (.bool v) ∧ Below w.heap.size w w' := h ▸ Outlives_any r ps rg a b w hR
set_option maxRecDepth 100000 in
theorem Outlives_nil (a b : Int) (w : World) :
    Calls Try.prog 16 #[.pointer none, .int .i64 a, .int .i64 b] w fun e w' => e = .returned (.bool false) ∧ Below w.heap.size w w' := by
  have hB0 : Below w.heap.size w ((w.alloc (.cells #[.int .i64 a] 3)).alloc (.cells #[.bool false] 4)) := ((Below.refl _ w).alloc (Nat.le_refl _) _).alloc (by simp) _
  have HB := hide hB0
  clear hB0
  go_enter Try.func16, Try.ntmps16
  go_wp2
  refine bodyPost_ret (v := .bool false) ?_ rfl ⟨rfl, HB.out⟩
  simp [results, Try.f16, go_sem]
end Go.Proofs.Ytagnikaghhobjaa
