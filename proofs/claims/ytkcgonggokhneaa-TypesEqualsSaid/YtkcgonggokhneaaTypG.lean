/- Regions of a valid list: the map of regions, its keys collected and sorted. -/
import Derived.Test.YtkcgonggokhneaaTypX
import Derived.Test.YtkcgonggokhneaaTypV
import Derived.Test.YtkcgonggokhneaaAppend
import Derived.Test.YtkcgonggokhneaaShelf
import Derived.Sort.OwnSortedInts
import Derived.Laws.EntriesVeiled
set_option linter.unusedVariables false
namespace Go.Proofs.Ytkcgonggokhneaa
open Go.RowKit

/-! ### sorting numbers of one's own -/
theorem SortRowI {w : World} {base n : Nat} {v : Value} {zs : List Int} (h : w.ownsRow base 3 1 v n (i64s zs)) (hn : n ≤ 4611686018427387903) :
    Calls Try.prog 36 #[v] w fun e w' => e = .returned (.tuple #[]) ∧ w'.ownsRow base 3 1 v n (i64s (zs.mergeSort fun x y => decide (x ≤ y))) ∧ (base ≤ w.heap.size → Below base w w') := by
  have hl : zs.length = n := by simpa using h.1
  rcases h.2 with ⟨rfl, hx⟩ | ⟨g, cap, cur, rfl, hbase, hb, h1, h2, h3, h4⟩
  · subst hx
    obtain rfl : zs = [] := List.eq_nil_of_length_eq_zero hl
    refine (Try.slices_Sort_int_none none 0 w).mono ?_
    rintro e w' ⟨rfl, rfl⟩
    exact ⟨rfl, by simpa using h, fun _ => Below.refl _ _⟩
  · subst hl
    have hH := Go.holds_of_blockI hb (by simpa using h4)
    have hg : g < w.heap.size := (Array.getElem?_eq_some_iff.1 hb).1
    refine (Try.slices_Sort_int g 0 cap zs w hH hg (by omega)).mono ?_
    rintro e w' ⟨rfl, m, os, rfl⟩
    refine ⟨rfl, Go.ownsRow_sortedI (by simp) hbase hb h1 h2 h3, fun hs => ?_⟩
    exact (Below.refl base w).grown (Go.grownBy_sortedI _) hs (fun j hj => by cases hj; exact hbase)

theorem ascI_sort {zs : List Int} (h : zs.Nodup) : AscI (zs.mergeSort fun x y => decide (x ≤ y)) := by
  refine ascI_of_sorted ?_ ((List.mergeSort_perm zs _).nodup_iff.2 h)
  have := List.pairwise_mergeSort (le := fun x y : Int => decide (x ≤ y)) (fun a b c h1 h2 => by simp only [decide_eq_true_eq] at *; omega) (fun a b => by simp only [Bool.or_eq_true, decide_eq_true_eq]; omega) zs
  exact this.imp fun h => by simpa using h

/-! ### the keys of a map of numbers, collected -/
/-- the keys met so far -/
def CollI (D0 : DataW Unit) (left : Lit → Bool) (ss : List Int) : Prop := ss.Nodup ∧ ∀ x, x ∈ ss ↔ (Maps.has D0 (.int .i64 x) = true ∧ left (.int .i64 x) = false)
theorem CollI.start (D0 : DataW Unit) : CollI D0 (Maps.has D0) [] := ⟨List.nodup_nil, fun x => by cases Maps.has D0 (.int .i64 x) <;> simp⟩
theorem CollI.step {D0 : DataW Unit} {left : Lit → Bool} {ss : List Int} (h : CollI D0 left ss) {x : Int} {y : DataW Unit} (hlk : left (.int .i64 x) = true) (hat : ∀ zd, D0.atKey (.int .i64 x) zd = y) : CollI D0 (fun z => left z && !z.sameKey (.int .i64 x)) (ss ++ [x]) := by
  have hhas : Maps.has D0 (.int .i64 x) = true := Maps.has_true_of_atKey hat
  have hnew : x ∉ ss := fun hx => by have := ((h.2 x).1 hx).2; rw [hlk] at this; cases this
  refine ⟨List.nodup_append.2 ⟨h.1, by simp, fun a ha b hb => by simp at hb; subst hb; exact fun e => hnew (e ▸ ha)⟩, fun y => ?_⟩
  by_cases hy : y = x
  · subst hy; simp [hhas, Lit.sameKey]
  · simp [h.2 y, hy, Lit.sameKey]

/-! ### the state -/
/-- the map of regions in block s, its variable behind it: the regions D -/
def MR (s : Nat) (RR : List Int) (w : World) (D : Int → Prop) : Prop := w.cell? ⟨s + 1, 0, none⟩ = some (.map (some s)) ∧ s + 1 < w.heap.size ∧ ∃ m Dm, w.ownsMap (H := Unit) Try.prog 3 (plainElem Try.prog 4) s m Dm ∧
  (∀ q, IntR q → (Maps.has Dm (.int .i64 q) = true ↔ D q)) ∧ ∀ q, D q → q ∈ RR
theorem MR.turn {s : Nat} {RR : List Int} {w w' : World} {D : Int → Prop} (h : MR s RR w D) {S : Nat → Prop} (ht : Turn S w w') (h0 : ¬ S s) (h1 : ¬ S (s + 1)) : MR s RR w' D := by
  obtain ⟨a, b, m, Dm, c, d⟩ := h
  exact ⟨(ht.cell (p := ⟨s + 1, 0, none⟩) b h1).trans a, Nat.lt_of_lt_of_le b ht.size, m, Dm, owns_block c (ht.block s (by omega) h0), d⟩
theorem MR.few {s : Nat} {RR : List Int} {w : World} {D : Int → Prop} (h : MR s RR w D) : ∃ Dm, w.ownsMap (H := Unit) Try.prog 3 (plainElem Try.prog 4) s RR.length Dm ∧ ∀ q, IntR q → (Maps.has Dm (.int .i64 q) = true ↔ D q) := by
  obtain ⟨_, _, m, Dm, c, d, e⟩ := h
  exact ⟨Dm, owns_few intK Try.underlying3 c RR fun q hw hh => e q ((d q (by simpa [Lit.wf, IntKind.min, IntKind.max, IntKind.signed, IntKind.bits, IntR] using hw)).1 hh), d⟩
theorem intR_of_wf {q : Int} (hw : (Lit.int .i64 q).wf = true) : IntR q := by simpa [Lit.wf, IntKind.min, IntKind.max, IntKind.signed, IntKind.bits, IntR] using hw

theorem propReg {C : Ctx} {r : Int} {s : Nat} (hok : TyOk (tys C.L) r) (hK : C.KP = 34) (hc : C.cp = #[.pointer (some ⟨s + 1, 0, none⟩)]) (hf : C.fix) (hS : ∀ k, C.S k ↔ k = C.bm ∨ k = s) (hbm : s + 1 < C.bm) (hlen : C.L.length = C.n) :
    PropC C (fun _ => .bool true) (TyMen (tys C.L)) (JB C (TyMen (tys C.L)) (fun _ => true) (MR s ((tys C.L).map Ty.region))) := by
  refine ⟨fun args w => ?_, fun i x hx w D K caps h1 hSs hJ V => ?_⟩
  · rw [hK]
    exact run_enter Try.func34 (by kernel_rfl) rfl args w
  · rw [hK, hc]
    have hM : ∀ w w' D, MR s ((tys C.L).map Ty.region) w D → Turn (fun k => k = C.bm) w w' → MR s ((tys C.L).map Ty.region) w' D := fun w w' D h ht => h.turn ht (fun e => by omega) (fun e => by omega)
    have hN : Notes C.S (JB C (TyMen (tys C.L)) (fun _ => true) (MR s ((tys C.L).map Ty.region))) (s + 1) (fun q => q ∈ (tys C.L).map Ty.region) := by
      refine ⟨fun w D hj => ?_⟩
      obtain ⟨Dm, ho, hd⟩ := hj.m.few
      refine ⟨s, _, Dm, hj.m.1, ho, ?_, (hS s).2 (.inr rfl), fun q w' hq hr hown hg => ?_⟩
      · rw [List.length_map, List.length_map]
        have := hf.few
        unfold maxLen; omega
      · have ht : Turn (fun k => k = s) w w' := (Turn.refl _ w).grown hg (fun k hk => by injection hk with hk; exact .inl hk.symm)
        refine ⟨hj.fr.turn hf ht (fun k e => (hS k).2 (.inr e)), (hj.kn.block (ht.block _ (hj.fr.ls _ hf.sm) (by omega))).grow (fun q h => .inl h), ?_⟩
        refine ⟨(ht.cell (p := ⟨s + 1, 0, none⟩) hj.m.2.1 (by simp)).trans hj.m.1, Nat.lt_of_lt_of_le hj.m.2.1 ht.size, _, _, hown, fun p hp => ?_, fun p hp => ?_⟩
        · by_cases hpq : p = q
          · subst hpq
            rw [Maps.has_put_same ⟨_, ho.entries intK |>.choose_spec.1⟩ (show Go.WideAt.IsKeyLit (.int .i64 p) from trivial)]
            exact ⟨fun _ => .inr rfl, fun _ => rfl⟩
          · have hne : Lit.int .i64 p ≠ Lit.int .i64 q := fun e => by injection e with _ e; exact hpq e
            rw [Maps.has_put_other hne, hd p hp]
            exact ⟨.inl, fun h => h.elim id (fun e => absurd e hpq)⟩
        · rcases hp with hp | rfl
          · obtain ⟨_, _, _, _, _, _, hsub⟩ := hj.m
            exact hsub p hp
          · exact hr
    have h := regionsV x K caps w h1 C.S (JB C (TyMen (tys C.L)) (fun _ => true) (MR s ((tys C.L).map Ty.region))) (TyMen (tys C.L)) D (fun w w' D hj hb => hj.below hf hM hb) hJ (hf.fx x (List.mem_of_getElem? hx)) hSs (s + 1) hJ.m.2.1 (fun q => q ∈ (tys C.L).map Ty.region)
      (List.mem_map.2 ⟨x.t, List.mem_map.2 ⟨x, List.mem_of_getElem? hx, rfl⟩, rfl⟩) hN (fun w' ht => V.later ht)
    refine h.mono ?_
    rintro e w' ⟨rfl, h2, h3⟩
    have e1 : (fun q => D q ∨ menOf x.t (TyMen (tys C.L)) q) = fun q => D q ∨ TyMen (tys C.L) (i : Int) q := by
      funext q
      rw [hok.men_at (tys_at hx)]
      rfl
    rw [e1] at h2
    exact ⟨rfl, h2, h3⟩
end Go.Proofs.Ytkcgonggokhneaa
