/- The depth of an element of a list whose depths stand in a slice. -/
import Derived.Test.YtkcgonggokhneaaTypD
import Derived.Test.YtkcgonggokhneaaTypF
import Derived.Deep.OwnRows
set_option linter.unusedVariables false
namespace Go.Proofs.Ytkcgonggokhneaa
open Go.RowKit

/-- the closure that reads a slice of depths -/
theorem depthAt (bx d n c : Nat) (p v : Int) (w : World) (hbx : w.cell? ⟨bx, 0, none⟩ = some (.slice (some ⟨d, 0, none⟩) n c)) (h0 : 0 ≤ p) (h1 : p < (n : Int)) (hn : n ≤ 65535) (hv : w.cell? ⟨d, p.toNat, none⟩ = some (.int .i64 v)) :
    Calls Try.prog 27 #[.int .i64 p, .pointer (some ⟨bx, 0, none⟩)] w fun e w' => e = .returned (.int .i64 v) ∧ w = w' := by
  obtain ⟨q, rfl⟩ := Int.eq_ofNat_of_zero_le h0
  rw [Int.toNat_natCast] at hv
  go_enter Try.func27, Try.ntmps27
  go_wp2
  go_ret
  exact ⟨rfl, rfl⟩

theorem tyDpt_bd {ds : List Int} (h : ∀ v ∈ ds, 0 ≤ v ∧ v ≤ 65535) (p : Int) : 0 ≤ ds.getD p.toNat 0 ∧ ds.getD p.toNat 0 ≤ 65535 := by
  rw [List.getD_eq_getElem?_getD]
  cases hx : ds[p.toNat]? with
  | none => exact ⟨Int.le_refl _, by decide⟩
  | some v => exact h v (List.mem_of_getElem? hx)

theorem enterChk (args : Array Value) (w : World) : (callFunc 27 args).run Try.prog w = .ok (.enter 27 args) w := run_enter Try.func27 (by kernel_rfl) rfl args w

theorem depthC (x : TyW) (w : World) (hx : OneT w w.heap.size x) (bx d n c : Nat) (ds : List Int) (hbx : w.cell? ⟨bx, 0, none⟩ = some (.slice (some ⟨d, 0, none⟩) n c)) (hds : ∀ j v, ds[j]? = some v → w.cell? ⟨d, j, none⟩ = some (.int .i64 v))
    (hlb : bx < w.heap.size) (hld : d < w.heap.size) (hp : ∀ p ∈ tyParts x.t, 0 ≤ p ∧ p < (ds.length : Int)) (hn : ds.length ≤ n) (hn' : n ≤ 65535) (hbd : ∀ v ∈ ds, 0 ≤ v ∧ v ≤ 65535) :
    Calls Try.prog 26 #[aggT x, .func (.func 27) #[] #[.pointer (some ⟨bx, 0, none⟩)]] w fun e w' => e = .returned (.int .i64 (tyDpt ds x.t)) ∧ Below w.heap.size w w' := by
  have V : Visits 27 #[.pointer (some ⟨bx, 0, none⟩)] (fun p => .int .i64 (ds.getD p.toNat 0)) (tyParts x.t) w (fun _ => False) (fun _ _ => True) (fun _ _ => False) := by
    refine ⟨enterChk, ?_⟩
    intro p hpp w1 D ht _
    obtain ⟨h0, h1⟩ := hp p hpp
    have hex : ∃ v, ds[p.toNat]? = some v := ⟨_, List.getElem?_eq_getElem (by omega)⟩
    obtain ⟨v, hv⟩ := hex
    have e : ds.getD p.toNat 0 = v := by rw [List.getD_eq_getElem?_getD, hv]; rfl
    have hc := depthAt bx d n c p v w1 ((ht.cell (p := ⟨bx, 0, none⟩) hlb (fun h => h)).trans hbx) h0 (by omega) hn' ((ht.cell (p := ⟨d, p.toNat, none⟩) hld (fun h => h)).trans (hds _ _ hv))
    rw [e]
    have h2 : Calls Try.prog 27 (#[.int .i64 p] ++ #[.pointer (some ⟨bx, 0, none⟩)]) w1 fun e w' => e = .returned (.int .i64 v) ∧ w1 = w' := hc
    refine h2.mono ?_
    rintro e w2 ⟨rfl, rfl⟩
    exact ⟨rfl, trivial, Turn.refl _ _⟩
  have h := depthV x 27 #[.pointer (some ⟨bx, 0, none⟩)] w hx (fun _ => False) (fun _ _ => True) (fun _ _ => False) (fun _ => False) (fun _ _ _ _ _ => trivial) trivial (fun _ _ _ _ h => h) (fun _ h => h.elim) (fun p => ds.getD p.toNat 0) (fun p _ => tyDpt_bd hbd p) V
  refine h.mono ?_
  rintro e w' ⟨rfl, _, ht⟩
  exact ⟨rfl, ht.below (Nat.le_refl _) fun k h => h.elim⟩

/-- a new row of zeros -/
theorem made_cell (w : World) (n : Nat) (t : TypeId) {j : Nat} (hj : j < n) : (w.alloc (.cells (madeCells #[.int .i64 0] n) t)).cell? ⟨w.heap.size, j, none⟩ = some (.int .i64 0) := by
  rw [cell_of_row (w.alloc (.cells (madeCells #[.int .i64 0] n) t)) w.heap.size j _ t (0, 0) (heap_alloc_new w _), ← Array.getElem?_toList, toList_madeCells_one]
  simp [hj]
end Go.Proofs.Ytkcgonggokhneaa
