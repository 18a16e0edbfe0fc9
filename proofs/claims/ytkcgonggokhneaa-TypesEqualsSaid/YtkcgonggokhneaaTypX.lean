/- Depth and Copyable of a valid list. -/
import Derived.Test.YtkcgonggokhneaaTypI2
import Derived.Test.YtkcgonggokhneaaTypB2
set_option linter.unusedVariables false
namespace Go.Proofs.Ytkcgonggokhneaa
open Go.RowKit

theorem tyDep_bd {l : List Ty} {r : Int} (h : TyOk l r) (p : Int) : 0 ≤ tyDep l p ∧ tyDep l p ≤ 65535 := by
  rcases Nat.lt_or_ge p.toNat l.length with hl | hl
  · have hex : ∃ t, l[p.toNat]? = some t := ⟨_, List.getElem?_eq_getElem hl⟩
    obtain ⟨t, ht⟩ := hex
    have := h.dep_pos ht
    have e : tyDep l ((p.toNat : Nat) : Int) = tyDep l p := by unfold tyDep; rw [Int.toNat_natCast]
    rw [e] at this
    omega
  · have e : tyDep l p = 0 := by
      unfold tyDep
      rw [List.getD_eq_getElem?_getD, List.getElem?_eq_none (by unfold tyDeps; rw [tyTab_len]; exact hl)]
      rfl
    omega
theorem none_or (D : Int → Prop) (ps : List Int) : (fun r => D r ∨ ∃ p ∈ ps, False) = fun r => D r ∨ False := by
  funext r; simp

theorem propDepth {C : Ctx} {r : Int} (hok : TyOk (tys C.L) r) (hK : C.KP = 26) (hc : C.cp = #[]) (hf : C.fix) :
    PropC C (fun p => .int .i64 (tyDep (tys C.L) p)) (fun _ _ => False) (JI C (fun _ _ => False) (tyDep (tys C.L)) fun _ _ => True) := by
  refine ⟨fun args w => ?_, fun i x hx w D K caps h1 hS hJ V => ?_⟩
  · rw [hK]
    exact run_enter Try.func26 (by kernel_rfl) rfl args w
  · rw [hK, hc, Array.append_empty]
    have h := depthV x K caps w h1 C.S (JI C (fun _ _ => False) (tyDep (tys C.L)) fun _ _ => True) (fun _ _ => False) D (fun w w' D hj hb => hj.below hf (fun _ _ _ _ _ => trivial) hb) hJ (hf.fx x (List.mem_of_getElem? hx)) hS (tyDep (tys C.L)) (fun p _ => tyDep_bd hok p) V
    refine h.mono ?_
    rintro e w' ⟨rfl, h2, h3⟩
    rw [none_or] at h2
    refine ⟨?_, h2, h3⟩
    rw [hok.dep_at (tys_at hx)]

theorem Depth_of (A : Option Addr) (n c : Nat) (i : Int) (v : Int) (w : World) (R : World → Prop)
    (hc : Calls Try.prog 32 #[.slice A n c, .int .i64 i, .func (.func 26) #[] #[]] w fun e w' => e = .returned (.int .i64 v) ∧ R w') :
    Calls Try.prog 18 #[.slice A n c, .int .i64 i] w fun e w' => e = .returned (.int .i64 v) ∧ R w' := by
  have HC := hide hc
  clear hc
  go_enter Try.func18, Try.ntmps18
  go_wp2_with fail
  refine HC.out.mono ?_
  rintro e w1 ⟨rfl, hr⟩
  have HR := hide hr
  clear hr
  go_wp2_with fail
  go_ret
  exact ⟨rfl, HR.out⟩

/-- Depth of an index of a valid list -/
theorem Depth_in {A : Option Addr} {n c : Nat} {L : List TyW} {w : World} {B : Nat} (hA : Typs w B A n L) (hB : B ≤ w.heap.size) (hnc : n ≤ c) (hcm : c ≤ maxLen) (hn : n ≤ 65535) {r : Int} (hok : TyOk (tys L) r) (i : Nat) (hi : i < n) :
    Calls Try.prog 18 #[.slice A n c, .int .i64 (i : Int)] w fun e w' => e = .returned (.int .i64 (tyDep (tys L) (i : Int))) ∧ Below w.heap.size w w' := by
  have hex : ∃ x, L[i]? = some x := ⟨_, List.getElem?_eq_getElem (by have := hA.len; omega)⟩
  obtain ⟨x, hx⟩ := hex
  refine Depth_of A n c _ _ w _ ((computeI_in (Sx := fun _ => False) (D0 := fun _ => False) (men := fun _ _ => False) (M := fun _ _ => True) hA hB hnc hcm hn hok (fun k h => h.elim) (fun _ _ _ _ _ _ _ => trivial) trivial (fun hf => propDepth (C := ctxI w A n c L (fun _ => False) 26 #[]) hok rfl rfl hf) (fun p => ?_) i x hx).mono ?_)
  · show IntR (tyDep (tys L) p)
    have := tyDep_bd hok p
    unfold IntR; omega
  · rintro e w' ⟨h1, _, h3⟩
    exact ⟨h1, h3.below (Nat.le_refl _) fun k h => h.elim⟩
theorem Depth_out {A : Option Addr} {n c : Nat} {L : List TyW} {w : World} {B : Nat} (hA : Typs w B A n L) (hB : B ≤ w.heap.size) (hnc : n ≤ c) (hcm : c ≤ maxLen) (hn : n ≤ 65535) (i : Int) (hi : IntR i) (hout : ¬ (0 ≤ i ∧ i < (n : Int))) :
    Calls Try.prog 18 #[.slice A n c, .int .i64 i] w fun e w' => e = .returned (.int .i64 0) ∧ Below w.heap.size w w' :=
  Depth_of A n c _ _ w _ (computeI_out hA hB hnc hcm hn i hi hout)

/-! ### Copyable -/
theorem propCop {C : Ctx} {r : Int} (hok : TyOk (tys C.L) r) (hK : C.KP = 38) (hc : C.cp = #[]) (hf : C.fix) :
    PropC C (fun p => .bool (tyCop (tys C.L) p)) (fun _ _ => False) (JB C (fun _ _ => False) (tyCop (tys C.L)) fun _ _ => True) := by
  have hent : ∀ (args : Array Value) (w : World), (callFunc C.KP args).run Try.prog w = .ok (.enter C.KP args) w := fun args w => by
    rw [hK]
    exact run_enter Try.func38 (by kernel_rfl) rfl args w
  refine ⟨hent, fun i x hx w D K caps h1 hS hJ V => ?_⟩
  rw [hK, hc, Array.append_empty]
  have h := copyableV x K caps w h1 C.S (JB C (fun _ _ => False) (tyCop (tys C.L)) fun _ _ => True) (fun _ _ => False) D (fun w w' D hj hb => hj.below hf (fun _ _ _ _ _ => trivial) hb) hJ (hf.fx x (List.mem_of_getElem? hx)) hS (tyCop (tys C.L))
    (fun w D D' hj hd => ⟨hj.fr, hj.kn.grow hd, trivial⟩) (fun h3 => hok.fields (tys_at hx) h3) (fun _ => V) V.enter
  refine h.mono ?_
  rintro e w' ⟨rfl, h2, h3⟩
  rw [none_or] at h2
  refine ⟨?_, h2, h3⟩
  rw [hok.cop_at (tys_at hx)]
  rfl

theorem Copyable_of (A : Option Addr) (n c : Nat) (i : Int) (v : Bool) (w : World) (R : World → Prop)
    (hc : Calls Try.prog 33 #[.slice A n c, .int .i64 i, .func (.func 38) #[] #[]] w fun e w' => e = .returned (.bool v) ∧ R w') :
    Calls Try.prog 23 #[.slice A n c, .int .i64 i] w fun e w' => e = .returned (.bool v) ∧ R w' := by
  have HC := hide hc
  clear hc
  go_enter Try.func23, Try.ntmps23
  go_wp2_with fail
  refine HC.out.mono ?_
  rintro e w1 ⟨rfl, hr⟩
  have HR := hide hr
  clear hr
  go_wp2_with fail
  go_ret
  exact ⟨rfl, HR.out⟩

theorem Copyable_in {A : Option Addr} {n c : Nat} {L : List TyW} {w : World} {B : Nat} (hA : Typs w B A n L) (hB : B ≤ w.heap.size) (hnc : n ≤ c) (hcm : c ≤ maxLen) (hn : n ≤ 65535) {r : Int} (hok : TyOk (tys L) r) (i : Nat) (hi : i < n) :
    Calls Try.prog 23 #[.slice A n c, .int .i64 (i : Int)] w fun e w' => e = .returned (.bool (tyCop (tys L) (i : Int))) ∧ Below w.heap.size w w' := by
  have hex : ∃ x, L[i]? = some x := ⟨_, List.getElem?_eq_getElem (by have := hA.len; omega)⟩
  obtain ⟨x, hx⟩ := hex
  refine Copyable_of A n c _ _ w _ ((computeB_in (Sx := fun _ => False) (D0 := fun _ => False) (men := fun _ _ => False) (M := fun _ _ => True) hA hB hnc hcm hn hok (fun k h => h.elim) (fun _ _ _ _ _ _ _ => trivial) trivial (fun hf => propCop (C := ctxB w A n c L (fun _ => False) 38 #[]) hok rfl rfl hf) trivial i x hx).mono ?_)
  rintro e w' ⟨h1, _, h3⟩
  exact ⟨h1, h3.below (Nat.le_refl _) fun k h => h.elim⟩
theorem Copyable_out {A : Option Addr} {n c : Nat} {L : List TyW} {w : World} {B : Nat} (hA : Typs w B A n L) (hB : B ≤ w.heap.size) (hnc : n ≤ c) (hcm : c ≤ maxLen) (hn : n ≤ 65535) (i : Int) (hi : IntR i) (hout : ¬ (0 ≤ i ∧ i < (n : Int))) :
    Calls Try.prog 23 #[.slice A n c, .int .i64 i] w fun e w' => e = .returned (.bool false) ∧ Below w.heap.size w w' :=
  Copyable_of A n c _ _ w _ (computeB_out hA hB hnc hcm hn i hi hout)
end Go.Proofs.Ytkcgonggokhneaa
