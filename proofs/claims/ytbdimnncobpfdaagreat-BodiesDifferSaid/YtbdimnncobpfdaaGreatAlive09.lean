/- The example of chapter 9 holds: 'alive' returns true and turns nothing that lay. -/
import Derived.Test.YtbdimnncobpfdaaGreatBodJ
import Derived.Test.YtbdimnncobpfdaaGreatBodG5
import Derived.Test.YtbdimnncobpfdaaGreatBodT
import Derived.Test.YtbdimnncobpfdaaGreatStrN
set_option linter.unusedVariables false
set_option linter.unusedSimpArgs false
namespace Go.Proofs.YtbdimnncobpfdaaGreat
open Go.RowKit Go.Shelf

theorem cells_new9 {α : Type} (w : World) (f : α → List Value) {k : Nat} (hk : ∀ x, (f x).length = k) (L : List α) (t : TypeId) : Cells (w.alloc (.cells (L.flatMap f).toArray t)) (w.heap.size + 1) k f (some ⟨w.heap.size, 0, none⟩) L.length L := by
  refine ⟨rfl, fun _ => ⟨w.heap.size, 0, rfl, by omega, fun i x hx j u hu => ?_⟩⟩
  have hj : j < k := by have := (List.getElem?_eq_some_iff.1 hu).1; rwa [hk] at this
  rw [cell_of_row (w.alloc (.cells (L.flatMap f).toArray t)) w.heap.size (0 + i * k + j) (L.flatMap f).toArray t (0, 0) (heap_alloc_new w _), Nat.zero_add]
  rw [List.getElem?_toArray, flatMap_at hk hx hj, hu]
abbrev sl9 (α : Type) : SlW α := ⟨none, 0, 0, []⟩
abbrev bk9 : BkW := ⟨⟨none, 0, 0, []⟩, ⟨2, ⟨none, 0, 0, []⟩, ⟨none, 0, 0, []⟩, ⟨0, none, 0, 0, []⟩, .empty⟩⟩
abbrev ex9 (g : Nat) : BdW := ⟨⟨#[102]⟩, ⟨none, 0, 0, []⟩, ⟨none, 0, 0, []⟩, ⟨none, 0, 0, []⟩, ⟨none, 0, 0, []⟩, 0, ⟨some ⟨g, 0, none⟩, 1, 1, [bk9]⟩⟩
abbrev no9 : BdW := ⟨.empty, ⟨none, 0, 0, []⟩, ⟨none, 0, 0, []⟩, ⟨none, 0, 0, []⟩, ⟨none, 0, 0, []⟩, 0, ⟨none, 0, 0, []⟩⟩
theorem slH_nil9 {α : Type} (w : World) (B k : Nat) (f : α → List Value) (Q : α → Prop) : SlH w B k f Q ⟨none, 0, 0, []⟩ := ⟨Nat.le_refl _, Nat.zero_le _, ⟨rfl, fun h => absurd h (Nat.lt_irrefl 0)⟩, fun x hx => by cases hx⟩
theorem int9 {x : Int} (h : -100 ≤ x ∧ x ≤ 100) : IntR x := ⟨by omega, by omega⟩
theorem onePl_nil9 (w : World) (B : Nat) : OnePl w B ⟨0, none, 0, 0, []⟩ := ⟨Nat.le_refl _, Nat.zero_le _, int9 (by decide), ⟨⟨rfl, fun h => absurd h (Nat.lt_irrefl 0)⟩, fun x hx => by cases hx⟩⟩
theorem bk9_one (w : World) (B : Nat) : OneBk w B bk9 := ⟨slH_nil9 _ _ _ _ _, int9 (by decide), slH_nil9 _ _ _ _ _, slH_nil9 _ _ _ _ _, onePl_nil9 _ _, by decide⟩
theorem no9_one (w : World) (B : Nat) : OneBd w B no9 := ⟨by decide, slH_nil9 _ _ _ _ _, slH_nil9 _ _ _ _ _, slH_nil9 _ _ _ _ _, slH_nil9 _ _ _ _ _, int9 (by decide), slH_nil9 _ _ _ _ _⟩
/-- the world of the example -/
def ex9W (w : World) : World := (w.alloc (.cells #[.slice none 0 0, .int .i64 2, .slice none 0 0, .slice none 0 0, .int .i64 0, .slice none 0 0, .string .empty] 44)).alloc (.cells #[.string ⟨#[102]⟩, .slice none 0 0, .slice none 0 0, .slice none 0 0, .slice none 0 0, .int .i64 0, .slice (some ⟨w.heap.size, 0, none⟩) 1 1] 28)
theorem ex9W_size (w : World) : (ex9W w).heap.size = w.heap.size + 2 := by simp [ex9W]
theorem ex9W_below (w : World) : Below w.heap.size w (ex9W w) := ((Below.refl _ w).alloc (Nat.le_refl _) _).alloc (by simp) _
theorem ex9_one (w : World) : OneBd (ex9W w) (ex9W w).heap.size (ex9 w.heap.size) := by
  refine ⟨(show (1 : Nat) ≤ maxLen by decide), slH_nil9 _ _ _ _ _, slH_nil9 _ _ _ _ _, slH_nil9 _ _ _ _ _, slH_nil9 _ _ _ _ _, int9 (show (-100 : Int) ≤ 0 ∧ (0 : Int) ≤ 100 by decide), ?_⟩
  have c1 := cells_new9 w cBk cBk_len [bk9] 44
  have b1 : Below (w.heap.size + 1) (w.alloc (.cells ([bk9].flatMap cBk).toArray 44)) (ex9W w) := (Below.refl _ _).alloc (by simp) _
  exact ⟨Nat.le_refl _, (show (1 : Nat) ≤ maxLen by decide), (c1.below b1).more (by rw [ex9W_size]; omega), fun x hx => by
    obtain rfl : x = bk9 := by simpa using hx
    exact bk9_one _ _⟩
theorem ex9_cells {w w' : World} (h : Below (ex9W w).heap.size (ex9W w) w') : w'.cell? ⟨w.heap.size + 1, 0, none⟩ = some (.string ⟨#[102]⟩) ∧ w'.cell? ⟨w.heap.size + 1, 1, none⟩ = some (.slice none 0 0) ∧ w'.cell? ⟨w.heap.size + 1, 2, none⟩ = some (.slice none 0 0) ∧ w'.cell? ⟨w.heap.size + 1, 3, none⟩ = some (.slice none 0 0) ∧ w'.cell? ⟨w.heap.size + 1, 4, none⟩ = some (.slice none 0 0) ∧ w'.cell? ⟨w.heap.size + 1, 5, none⟩ = some (.int .i64 0) ∧ w'.cell? ⟨w.heap.size + 1, 6, none⟩ = some (.slice (some ⟨w.heap.size, 0, none⟩) 1 1) := by
  have hx : Bx (ex9W w) (w.heap.size + 1) [.string ⟨#[102]⟩, .slice none 0 0, .slice none 0 0, .slice none 0 0, .slice none 0 0, .int .i64 0, .slice (some ⟨w.heap.size, 0, none⟩) 1 1] 28 := by
    have h9 := Bx.new (w.alloc (.cells #[.slice none 0 0, .int .i64 2, .slice none 0 0, .slice none 0 0, .int .i64 0, .slice none 0 0, .string .empty] 44)) [.string ⟨#[102]⟩, .slice none 0 0, .slice none 0 0, .slice none 0 0, .slice none 0 0, .int .i64 0, .slice (some ⟨w.heap.size, 0, none⟩) 1 1] 28
    rwa [show (w.alloc (.cells #[.slice none 0 0, .int .i64 2, .slice none 0 0, .slice none 0 0, .int .i64 0, .slice none 0 0, .string .empty] 44)).heap.size = w.heap.size + 1 by simp] at h9
  have hx' := hx.below h
  exact ⟨hx'.cell (j := 0) rfl, hx'.cell (j := 1) rfl, hx'.cell (j := 2) rfl, hx'.cell (j := 3) rfl, hx'.cell (j := 4) rfl, hx'.cell (j := 5) rfl, hx'.cell (j := 6) rfl⟩
theorem ex9_sm (g : Nat) : SmBd (ex9 g) := ⟨(show (0 : Nat) ≤ 2 ^ 39 by decide), (show (0 : Nat) ≤ 2 ^ 39 by decide), (show (0 : Nat) ≤ 2 ^ 39 by decide), (fun t ht => by cases ht), (show (0 : Nat) ≤ 2 ^ 39 by decide), (show (1 : Nat) ≤ 2 ^ 39 by decide), fun b hb => by
  obtain rfl : b = bk9 := by simpa using hb
  exact ⟨by decide, (fun s hs => by cases hs), by decide, ⟨by decide, fun s hs => by cases hs⟩, by decide⟩⟩
theorem ex9_nodes (g : Nat) : bdN (ex9 g).v = 4 := rfl
theorem ex9_names (g : Nat) : namesS (ex9 g).v = [⟨#[102]⟩] := rfl
theorem ex9_all (g : Nat) : allS (ex9 g).v = [⟨#[102]⟩] := rfl
theorem ex9_bytes (g : Nat) : bytesN (ex9 g).v = 1 := rfl
theorem ex9_no (g : Nat) : eqBd (ex9 g) no9 = false := decide_eq_false fun h => by
  have := congrArg (fun b : BdV => b.name.size) h
  exact absurd (show (1 : Nat) = 0 from this) (by decide)
theorem Nodes_any (x : BdW) (w : World) (hx : OneBd w w.heap.size x) (h : bdN x.v ≤ 2 ^ 62) :
    Calls Tryz.prog 18 #[aggBd x] w fun e w' => e = .returned (.int .i64 (bdN x.v : Nat)) ∧ Below w.heap.size w w' := Nodes_is rfl w hx h

theorem Bytes_is9 {x : BdW} {N : Nat} (hN : bytesN x.v = N) (w : World) (hx : OneBd w w.heap.size x) (h1 : (allS x.v).length ≤ 2 ^ 40) (h2 : N ≤ 2 ^ 62) :
    Calls Tryz.prog 16 #[aggBd x] w fun e w' => e = .returned (.int .i64 (N : Int)) ∧ Below w.heap.size w w' := hN ▸ Bytes_any x w hx h1 (hN ▸ h2)
theorem rd_own9 {w : World} {lo : Nat} {A : Option Addr} {c : Nat} (h : w.ownsRow lo 9 1 (.slice A 1 c) 1 [.string ⟨#[102]⟩]) : Rd w w.heap.size A 1 (sV [⟨#[102]⟩]) :=
  Strs.rd (s := ⟨A, 1, c, [⟨#[102]⟩]⟩) (own_sl9 (L := [⟨#[102]⟩]) h (fun s hs => by
    obtain rfl : s = (⟨#[102]⟩ : ByteArray) := by simpa using hs
    decide))
theorem rd_lit9 (w : World) : Rd (w.alloc (.cells #[.string ⟨#[102]⟩] 9)) (w.heap.size + 1) (some ⟨w.heap.size, 0, none⟩) 1 (sV [⟨#[102]⟩]) :=
  Strs.rd (s := ⟨some ⟨w.heap.size, 0, none⟩, 1, 1, [⟨#[102]⟩]⟩) ⟨Nat.le_refl _, (show (1 : Nat) ≤ maxLen by decide), cells_new9 w cStr cStr_len [⟨#[102]⟩] 9, fun s hs => by
    obtain rfl : s = (⟨#[102]⟩ : ByteArray) := by simpa using hs
    decide⟩

set_option maxHeartbeats 2000000 in
set_option maxRecDepth 100000 in
theorem alive09_any (w : World) : Calls Tryz.prog 10 #[] w fun e w' => e = .returned (.bool true) ∧ Below w.heap.size w w' := by
  have HB := hide (ex9W_below w)
  have HX := hide (ex9_one w)
  have HW0 := hide (show Below (ex9W w).heap.size (ex9W w) (World.drew (ex9W w)) from (Below.refl _ _).drew)
  go_enter Tryz.func10, Tryz.ntmps10
  go_wp2
  change Code.wp _ _ _ _ (ex9W w)
  refine wp_region_held_drew (S := (fun w' => Below (ex9W w).heap.size (ex9W w) w' ∧ w'.cell? ⟨w.heap.size + 1, 0, none⟩ = some (.string ⟨#[102]⟩) ∧ w'.cell? ⟨w.heap.size + 1, 1, none⟩ = some (.slice none 0 0) ∧ w'.cell? ⟨w.heap.size + 1, 2, none⟩ = some (.slice none 0 0) ∧ w'.cell? ⟨w.heap.size + 1, 3, none⟩ = some (.slice none 0 0) ∧ w'.cell? ⟨w.heap.size + 1, 4, none⟩ = some (.slice none 0 0) ∧ w'.cell? ⟨w.heap.size + 1, 5, none⟩ = some (.int .i64 0) ∧ w'.cell? ⟨w.heap.size + 1, 6, none⟩ = some (.slice (some ⟨w.heap.size, 0, none⟩) 1 1))) (by kernel_rfl) ⟨HW0.out, ex9_cells HW0.out⟩ (fun hHeld => ?_)
  refine takeY (i := 0) (d := some 6) (v := ?_) rfl rfl (by kernel_rfl) (by kernel_rfl) (by kernel_rfl) (fun _ _ _ h => h) (by rfl) ?_ hHeld ?_
  rotate_left
  · intro w9 hS9
    obtain ⟨_, c0, c1, c2, c3, c4, c5, c6⟩ := hS9
    first | (go_simp; done) | (go_simp; with_reducible rfl)
  try simp only [Act.put, List.setIfInBounds_toArray, List.set_cons_zero, List.set_cons_succ]
  refine wpAnyH_ready (rs := [1]) (by kernel_rfl) (by simp) ?_
  refine AllReadyH.cons rfl (fun K hK => ?_) AllReadyH.nil
  go_simp
  refine (Nodes_is (x := (ex9 w.heap.size)) (ex9_nodes _) _ (HX.out.up HW0.out) (by decide)).mono ?_
  rintro e1 w1 ⟨rfl, hb0⟩
  have HW1 := hide (HW0.out.trans (hb0.mono HW0.out.size))
  clear hb0
  refine hK.out _ _ ⟨HW1.out, ex9_cells HW1.out⟩ (fun hHeld => ?_)
  clear hK K
  try simp only [Act.put, List.setIfInBounds_toArray, List.set_cons_zero, List.set_cons_succ]
  refine takeY (i := 2) (d := some 8) (v := ?_) rfl rfl (by kernel_rfl) (by kernel_rfl) (by kernel_rfl) (fun _ _ _ h => h) (by rfl) ?_ hHeld ?_
  rotate_left
  · intro w9 hS9
    first | (go_simp; done) | (go_simp; with_reducible rfl)
  try simp only [Act.put, List.setIfInBounds_toArray, List.set_cons_zero, List.set_cons_succ]
  refine takeY (i := 3) (d := some 9) (v := ?_) rfl rfl (by kernel_rfl) (by kernel_rfl) (by kernel_rfl) (fun _ _ _ h => h) (by rfl) ?_ hHeld ?_
  rotate_left
  · intro w9 hS9
    first | (go_simp; done) | (go_simp; with_reducible rfl)
  try simp only [Act.put, List.setIfInBounds_toArray, List.set_cons_zero, List.set_cons_succ]
  refine takeY (i := 4) (d := some 10) (v := ?_) rfl rfl (by kernel_rfl) (by kernel_rfl) (by kernel_rfl) (fun _ _ _ h => h) (by rfl) ?_ hHeld ?_
  rotate_left
  · intro w9 hS9
    obtain ⟨_, c0, c1, c2, c3, c4, c5, c6⟩ := hS9
    first | (go_simp; done) | (go_simp; with_reducible rfl)
  try simp only [Act.put, List.setIfInBounds_toArray, List.set_cons_zero, List.set_cons_succ]
  refine wpAnyH_ready (rs := [5]) (by kernel_rfl) (by simp) ?_
  refine AllReadyH.cons rfl (fun K hK => ?_) AllReadyH.nil
  go_simp
  refine (Bytes_is9 (x := (ex9 w.heap.size)) (ex9_bytes _) _ (HX.out.up HW1.out) (by rw [ex9_all]; decide) (by decide)).mono ?_
  rintro e2 w2 ⟨rfl, hb0⟩
  have HW2 := hide (HW1.out.trans (hb0.mono HW1.out.size))
  clear hb0
  refine hK.out _ _ ⟨HW2.out, ex9_cells HW2.out⟩ (fun hHeld => ?_)
  clear hK K
  try simp only [Act.put, List.setIfInBounds_toArray, List.set_cons_zero, List.set_cons_succ]
  refine takeY (i := 6) (d := some 12) (v := ?_) rfl rfl (by kernel_rfl) (by kernel_rfl) (by kernel_rfl) (fun _ _ _ h => h) (by rfl) ?_ hHeld ?_
  rotate_left
  · intro w9 hS9
    first | (go_simp; done) | (go_simp; with_reducible rfl)
  try simp only [Act.put, List.setIfInBounds_toArray, List.set_cons_zero, List.set_cons_succ]
  refine takeY (i := 7) (d := some 13) (v := ?_) rfl rfl (by kernel_rfl) (by kernel_rfl) (by kernel_rfl) (fun _ _ _ h => h) (by rfl) ?_ hHeld ?_
  rotate_left
  · intro w9 hS9
    first | (go_simp; done) | (go_simp; with_reducible rfl)
  try simp only [Act.put, List.setIfInBounds_toArray, List.set_cons_zero, List.set_cons_succ]
  refine takeY (i := 8) (d := some 14) (v := ?_) rfl rfl (by kernel_rfl) (by kernel_rfl) (by kernel_rfl) (fun _ _ _ h => h) (by rfl) ?_ hHeld ?_
  rotate_left
  · intro w9 hS9
    first | (go_simp; done) | (go_simp; with_reducible rfl)
  try simp only [Act.put, List.setIfInBounds_toArray, List.set_cons_zero, List.set_cons_succ]
  refine takeY (i := 9) (d := some 15) (v := ?_) rfl rfl (by kernel_rfl) (by kernel_rfl) (by kernel_rfl) (fun _ _ _ h => h) (by rfl) ?_ hHeld ?_
  rotate_left
  · intro w9 hS9
    obtain ⟨_, c0, c1, c2, c3, c4, c5, c6⟩ := hS9
    first | (go_simp; done) | (go_simp; with_reducible rfl)
  try simp only [Act.put, List.setIfInBounds_toArray, List.set_cons_zero, List.set_cons_succ]
  refine wpAnyH_ready (rs := [10, 11]) (by kernel_rfl) (by simp) ?_
  refine AllReadyH.cons rfl (fun K hK => ?_) (AllReadyH.cons rfl (fun K hK => ?_) AllReadyH.nil)
  · skip
    go_simp
    refine (Names_any (ex9 w.heap.size) _ (HX.out.up HW2.out) (by rw [ex9_all]; decide)).mono ?_
    rintro e3 w3 ⟨v3, rfl, hown, hb0⟩
    have hown1 : w3.ownsRow _ 9 1 v3 1 [.string ⟨#[102]⟩] := hown
    obtain ⟨A9, c9, rfl⟩ := own_slice hown1
    have HN9 := hide (rd_own9 hown1)
    have HW3 := hide (HW2.out.trans (hb0.mono HW2.out.size))
    clear hb0 hown hown1
    refine hK.out _ _ ⟨HW3.out, ex9_cells HW3.out⟩ (fun hHeld => ?_)
    clear hK K
    try simp only [Act.put, List.setIfInBounds_toArray, List.set_cons_zero, List.set_cons_succ]
    refine wpAnyH_ready (rs := [11]) (by kernel_rfl) (by simp) ?_
    refine AllReadyH.cons rfl (fun K hK => ?_) AllReadyH.nil
    go_simp
    have HL9 := hide (rd_lit9 w3)
    have HW4 := hide (HW3.out.alloc HW3.out.size (.cells #[.string ⟨#[102]⟩] 9))
    have HN9b := hide (HN9.out.below ((Below.refl _ _).alloc (Nat.le_refl _) (.cells #[.string ⟨#[102]⟩] 9)))
    clear HN9
    have HN9 := HN9b
    clear HN9b
    refine hK.out _ _ ⟨HW4.out, ex9_cells HW4.out⟩ (fun hHeld => ?_)
    clear hK K
    try simp only [Act.put, List.setIfInBounds_toArray, List.set_cons_zero, List.set_cons_succ]
    refine wpAnyH_ready (rs := [12]) (by kernel_rfl) (by simp) ?_
    refine AllReadyH.cons rfl (fun K hK => ?_) AllReadyH.nil
    go_simp
    refine (EqS_any A9 (some ⟨w3.heap.size, 0, none⟩) 1 c9 1 1 [⟨#[102]⟩] [⟨#[102]⟩] _ _ _ HN9.out HL9.out (by decide) (by decide)).mono ?_
    rintro e5 w5 ⟨h9, q9, rfl⟩
    obtain rfl : e5 = .returned (.bool true) := h9.trans (by rw [decide_eq_true rfl])
    have HW5 := hide (below_drewN HW4.out q9)
    clear HN9 HL9
    refine hK.out _ _ ⟨HW5.out, ex9_cells HW5.out⟩ (fun hHeld => ?_)
    clear hK K
    try simp only [Act.put, List.setIfInBounds_toArray, List.set_cons_zero, List.set_cons_succ]
    refine takeY (i := 13) (d := some 19) (v := ?_) rfl rfl (by kernel_rfl) (by kernel_rfl) (by kernel_rfl) (fun _ _ _ h => h) (by rfl) ?_ hHeld ?_
    rotate_left
    · intro w9 hS9
      first | (go_simp; done) | (go_simp; with_reducible rfl)
    try simp only [Act.put, List.setIfInBounds_toArray, List.set_cons_zero, List.set_cons_succ]
    refine takeY (i := 14) (d := some 20) (v := ?_) rfl rfl (by kernel_rfl) (by kernel_rfl) (by kernel_rfl) (fun _ _ _ h => h) (by rfl) ?_ hHeld ?_
    rotate_left
    · intro w9 hS9
      first | (go_simp; done) | (go_simp; with_reducible rfl)
    try simp only [Act.put, List.setIfInBounds_toArray, List.set_cons_zero, List.set_cons_succ]
    refine takeY (i := 15) (d := some 21) (v := ?_) rfl rfl (by kernel_rfl) (by kernel_rfl) (by kernel_rfl) (fun _ _ _ h => h) (by rfl) ?_ hHeld ?_
    rotate_left
    · intro w9 hS9
      obtain ⟨_, c0, c1, c2, c3, c4, c5, c6⟩ := hS9
      first | (go_simp; done) | (go_simp; with_reducible rfl)
    try simp only [Act.put, List.setIfInBounds_toArray, List.set_cons_zero, List.set_cons_succ]
    refine takeY (i := 16) (d := some 22) (v := ?_) rfl rfl (by kernel_rfl) (by kernel_rfl) (by kernel_rfl) (fun _ _ _ h => h) (by rfl) ?_ hHeld ?_
    rotate_left
    · intro w9 hS9
      obtain ⟨_, c0, c1, c2, c3, c4, c5, c6⟩ := hS9
      first | (go_simp; done) | (go_simp; with_reducible rfl)
    try simp only [Act.put, List.setIfInBounds_toArray, List.set_cons_zero, List.set_cons_succ]
    refine wpAnyH_ready (rs := [17]) (by kernel_rfl) (by simp) ?_
    refine AllReadyH.cons rfl (fun K hK => ?_) AllReadyH.nil
    go_simp
    refine (CloneBd_any (ex9 w.heap.size) _ (HX.out.up HW5.out) (ex9_sm _)).mono ?_
    rintro e6 w6 ⟨y9, rfl, hv9, ho9, hb0⟩
    have HW6 := hide (HW5.out.trans (hb0.mono HW5.out.size))
    have HY9 := hide (OneBd.of_own (HX.out.up HW5.out) hv9 ho9)
    have HE9 := hide (show eqBd (ex9 w.heap.size) y9 = true from decide_eq_true hv9.symm)
    clear hv9 ho9
    clear hb0
    refine hK.out _ _ ⟨HW6.out, ex9_cells HW6.out⟩ (fun hHeld => ?_)
    clear hK K
    try simp only [Act.put, List.setIfInBounds_toArray, List.set_cons_zero, List.set_cons_succ]
    refine wpAnyH_ready (rs := [18]) (by kernel_rfl) (by simp) ?_
    refine AllReadyH.cons rfl (fun K hK => ?_) AllReadyH.nil
    go_simp
    refine (EqBd_is (x := (ex9 w.heap.size)) (y := y9) HE9.out _ (HX.out.up HW6.out) HY9.out).mono ?_
    rintro e7 w7 ⟨rfl, hb0⟩
    have HW7 := hide (HW6.out.trans (hb0.mono HW6.out.size))
    clear hb0
    refine hK.out _ _ ⟨HW7.out, ex9_cells HW7.out⟩ (fun hHeld => ?_)
    clear hK K
    try simp only [Act.put, List.setIfInBounds_toArray, List.set_cons_zero, List.set_cons_succ]
    refine takeY (i := 19) (d := some 25) (v := ?_) rfl rfl (by kernel_rfl) (by kernel_rfl) (by kernel_rfl) (fun _ _ _ h => h) (by rfl) ?_ hHeld ?_
    rotate_left
    · intro w9 hS9
      first | (go_simp; done) | (go_simp; with_reducible rfl)
    try simp only [Act.put, List.setIfInBounds_toArray, List.set_cons_zero, List.set_cons_succ]
    refine takeY (i := 20) (d := some 26) (v := ?_) rfl rfl (by kernel_rfl) (by kernel_rfl) (by kernel_rfl) (fun _ _ _ h => h) (by rfl) ?_ hHeld ?_
    rotate_left
    · intro w9 hS9
      first | (go_simp; done) | (go_simp; with_reducible rfl)
    try simp only [Act.put, List.setIfInBounds_toArray, List.set_cons_zero, List.set_cons_succ]
    refine takeY (i := 21) (d := some 27) (v := ?_) rfl rfl (by kernel_rfl) (by kernel_rfl) (by kernel_rfl) (fun _ _ _ h => h) (by rfl) ?_ hHeld ?_
    rotate_left
    · intro w9 hS9
      obtain ⟨_, c0, c1, c2, c3, c4, c5, c6⟩ := hS9
      first | (go_simp; done) | (go_simp; with_reducible rfl)
    try simp only [Act.put, List.setIfInBounds_toArray, List.set_cons_zero, List.set_cons_succ]
    refine takeY (i := 22) (d := some 28) (v := ?_) rfl rfl (by kernel_rfl) (by kernel_rfl) (by kernel_rfl) (fun _ _ _ h => h) (by rfl) ?_ hHeld ?_
    rotate_left
    · intro w9 hS9
      first | (go_simp; done) | (go_simp; with_reducible rfl)
    try simp only [Act.put, List.setIfInBounds_toArray, List.set_cons_zero, List.set_cons_succ]
    refine wpAnyH_ready (rs := [23]) (by kernel_rfl) (by simp) ?_
    refine AllReadyH.cons rfl (fun K hK => ?_) AllReadyH.nil
    go_simp
    refine (EqBd_is (x := (ex9 w.heap.size)) (y := no9) (ex9_no _) _ (HX.out.up HW7.out) (no9_one _ _)).mono ?_
    rintro e8 w8 ⟨rfl, hb0⟩
    have HW8 := hide (HW7.out.trans (hb0.mono HW7.out.size))
    clear hb0
    refine hK.out _ _ ⟨HW8.out, ex9_cells HW8.out⟩ (fun hHeld => ?_)
    clear hK K
    try simp only [Act.put, List.setIfInBounds_toArray, List.set_cons_zero, List.set_cons_succ]
    refine takeY (i := 24) (d := some 30) (v := ?_) rfl rfl (by kernel_rfl) (by kernel_rfl) (by kernel_rfl) (fun _ _ _ h => h) (by rfl) ?_ hHeld ?_
    rotate_left
    · intro w9 hS9
      first | (go_simp; done) | (go_simp; with_reducible rfl)
    try simp only [Act.put, List.setIfInBounds_toArray, List.set_cons_zero, List.set_cons_succ]
    refine takeY (i := 25) (d := some 31) (v := ?_) rfl rfl (by kernel_rfl) (by kernel_rfl) (by kernel_rfl) (fun _ _ _ h => h) (by rfl) ?_ hHeld ?_
    rotate_left
    · intro w9 hS9
      first | (go_simp; done) | (go_simp; with_reducible rfl)
    try simp only [Act.put, List.setIfInBounds_toArray, List.set_cons_zero, List.set_cons_succ]
    refine takeY (i := 26) (d := some 0) (v := ?_) rfl rfl (by kernel_rfl) (by kernel_rfl) (by kernel_rfl) (fun _ _ _ h => h) (by rfl) ?_ hHeld ?_
    rotate_left
    · intro w9 hS9
      first | (go_simp; done) | (go_simp; with_reducible rfl)
    try simp only [Act.put, List.setIfInBounds_toArray, List.set_cons_zero, List.set_cons_succ]
    refine wpAnyH_done (by kernel_rfl) ?_ _
    go_wp2
    go_ret
    exact ⟨rfl, HB.out.trans (HW8.out.mono HB.out.size)⟩
  · skip
    go_simp
    have HL9 := hide (rd_lit9 w2)
    have HW3 := hide (HW2.out.alloc HW2.out.size (.cells #[.string ⟨#[102]⟩] 9))
    refine hK.out _ _ ⟨HW3.out, ex9_cells HW3.out⟩ (fun hHeld => ?_)
    clear hK K
    try simp only [Act.put, List.setIfInBounds_toArray, List.set_cons_zero, List.set_cons_succ]
    refine wpAnyH_ready (rs := [10]) (by kernel_rfl) (by simp) ?_
    refine AllReadyH.cons rfl (fun K hK => ?_) AllReadyH.nil
    go_simp
    refine (Names_any (ex9 w.heap.size) _ (HX.out.up HW3.out) (by rw [ex9_all]; decide)).mono ?_
    rintro e4 w4 ⟨v4, rfl, hown, hb0⟩
    have hown1 : w4.ownsRow _ 9 1 v4 1 [.string ⟨#[102]⟩] := hown
    obtain ⟨A9, c9, rfl⟩ := own_slice hown1
    have HN9 := hide (rd_own9 hown1)
    have HW4 := hide (HW3.out.trans (hb0.mono HW3.out.size))
    have HL9b := hide (HL9.out.below (hb0.mono (by simp)))
    clear HL9
    have HL9 := HL9b
    clear HL9b
    clear hb0 hown hown1
    refine hK.out _ _ ⟨HW4.out, ex9_cells HW4.out⟩ (fun hHeld => ?_)
    clear hK K
    try simp only [Act.put, List.setIfInBounds_toArray, List.set_cons_zero, List.set_cons_succ]
    refine wpAnyH_ready (rs := [12]) (by kernel_rfl) (by simp) ?_
    refine AllReadyH.cons rfl (fun K hK => ?_) AllReadyH.nil
    go_simp
    refine (EqS_any A9 (some ⟨w2.heap.size, 0, none⟩) 1 c9 1 1 [⟨#[102]⟩] [⟨#[102]⟩] _ _ _ HN9.out HL9.out (by decide) (by decide)).mono ?_
    rintro e5 w5 ⟨h9, q9, rfl⟩
    obtain rfl : e5 = .returned (.bool true) := h9.trans (by rw [decide_eq_true rfl])
    have HW5 := hide (below_drewN HW4.out q9)
    clear HN9 HL9
    refine hK.out _ _ ⟨HW5.out, ex9_cells HW5.out⟩ (fun hHeld => ?_)
    clear hK K
    try simp only [Act.put, List.setIfInBounds_toArray, List.set_cons_zero, List.set_cons_succ]
    refine takeY (i := 13) (d := some 19) (v := ?_) rfl rfl (by kernel_rfl) (by kernel_rfl) (by kernel_rfl) (fun _ _ _ h => h) (by rfl) ?_ hHeld ?_
    rotate_left
    · intro w9 hS9
      first | (go_simp; done) | (go_simp; with_reducible rfl)
    try simp only [Act.put, List.setIfInBounds_toArray, List.set_cons_zero, List.set_cons_succ]
    refine takeY (i := 14) (d := some 20) (v := ?_) rfl rfl (by kernel_rfl) (by kernel_rfl) (by kernel_rfl) (fun _ _ _ h => h) (by rfl) ?_ hHeld ?_
    rotate_left
    · intro w9 hS9
      first | (go_simp; done) | (go_simp; with_reducible rfl)
    try simp only [Act.put, List.setIfInBounds_toArray, List.set_cons_zero, List.set_cons_succ]
    refine takeY (i := 15) (d := some 21) (v := ?_) rfl rfl (by kernel_rfl) (by kernel_rfl) (by kernel_rfl) (fun _ _ _ h => h) (by rfl) ?_ hHeld ?_
    rotate_left
    · intro w9 hS9
      obtain ⟨_, c0, c1, c2, c3, c4, c5, c6⟩ := hS9
      first | (go_simp; done) | (go_simp; with_reducible rfl)
    try simp only [Act.put, List.setIfInBounds_toArray, List.set_cons_zero, List.set_cons_succ]
    refine takeY (i := 16) (d := some 22) (v := ?_) rfl rfl (by kernel_rfl) (by kernel_rfl) (by kernel_rfl) (fun _ _ _ h => h) (by rfl) ?_ hHeld ?_
    rotate_left
    · intro w9 hS9
      obtain ⟨_, c0, c1, c2, c3, c4, c5, c6⟩ := hS9
      first | (go_simp; done) | (go_simp; with_reducible rfl)
    try simp only [Act.put, List.setIfInBounds_toArray, List.set_cons_zero, List.set_cons_succ]
    refine wpAnyH_ready (rs := [17]) (by kernel_rfl) (by simp) ?_
    refine AllReadyH.cons rfl (fun K hK => ?_) AllReadyH.nil
    go_simp
    refine (CloneBd_any (ex9 w.heap.size) _ (HX.out.up HW5.out) (ex9_sm _)).mono ?_
    rintro e6 w6 ⟨y9, rfl, hv9, ho9, hb0⟩
    have HW6 := hide (HW5.out.trans (hb0.mono HW5.out.size))
    have HY9 := hide (OneBd.of_own (HX.out.up HW5.out) hv9 ho9)
    have HE9 := hide (show eqBd (ex9 w.heap.size) y9 = true from decide_eq_true hv9.symm)
    clear hv9 ho9
    clear hb0
    refine hK.out _ _ ⟨HW6.out, ex9_cells HW6.out⟩ (fun hHeld => ?_)
    clear hK K
    try simp only [Act.put, List.setIfInBounds_toArray, List.set_cons_zero, List.set_cons_succ]
    refine wpAnyH_ready (rs := [18]) (by kernel_rfl) (by simp) ?_
    refine AllReadyH.cons rfl (fun K hK => ?_) AllReadyH.nil
    go_simp
    refine (EqBd_is (x := (ex9 w.heap.size)) (y := y9) HE9.out _ (HX.out.up HW6.out) HY9.out).mono ?_
    rintro e7 w7 ⟨rfl, hb0⟩
    have HW7 := hide (HW6.out.trans (hb0.mono HW6.out.size))
    clear hb0
    refine hK.out _ _ ⟨HW7.out, ex9_cells HW7.out⟩ (fun hHeld => ?_)
    clear hK K
    try simp only [Act.put, List.setIfInBounds_toArray, List.set_cons_zero, List.set_cons_succ]
    refine takeY (i := 19) (d := some 25) (v := ?_) rfl rfl (by kernel_rfl) (by kernel_rfl) (by kernel_rfl) (fun _ _ _ h => h) (by rfl) ?_ hHeld ?_
    rotate_left
    · intro w9 hS9
      first | (go_simp; done) | (go_simp; with_reducible rfl)
    try simp only [Act.put, List.setIfInBounds_toArray, List.set_cons_zero, List.set_cons_succ]
    refine takeY (i := 20) (d := some 26) (v := ?_) rfl rfl (by kernel_rfl) (by kernel_rfl) (by kernel_rfl) (fun _ _ _ h => h) (by rfl) ?_ hHeld ?_
    rotate_left
    · intro w9 hS9
      first | (go_simp; done) | (go_simp; with_reducible rfl)
    try simp only [Act.put, List.setIfInBounds_toArray, List.set_cons_zero, List.set_cons_succ]
    refine takeY (i := 21) (d := some 27) (v := ?_) rfl rfl (by kernel_rfl) (by kernel_rfl) (by kernel_rfl) (fun _ _ _ h => h) (by rfl) ?_ hHeld ?_
    rotate_left
    · intro w9 hS9
      obtain ⟨_, c0, c1, c2, c3, c4, c5, c6⟩ := hS9
      first | (go_simp; done) | (go_simp; with_reducible rfl)
    try simp only [Act.put, List.setIfInBounds_toArray, List.set_cons_zero, List.set_cons_succ]
    refine takeY (i := 22) (d := some 28) (v := ?_) rfl rfl (by kernel_rfl) (by kernel_rfl) (by kernel_rfl) (fun _ _ _ h => h) (by rfl) ?_ hHeld ?_
    rotate_left
    · intro w9 hS9
      first | (go_simp; done) | (go_simp; with_reducible rfl)
    try simp only [Act.put, List.setIfInBounds_toArray, List.set_cons_zero, List.set_cons_succ]
    refine wpAnyH_ready (rs := [23]) (by kernel_rfl) (by simp) ?_
    refine AllReadyH.cons rfl (fun K hK => ?_) AllReadyH.nil
    go_simp
    refine (EqBd_is (x := (ex9 w.heap.size)) (y := no9) (ex9_no _) _ (HX.out.up HW7.out) (no9_one _ _)).mono ?_
    rintro e8 w8 ⟨rfl, hb0⟩
    have HW8 := hide (HW7.out.trans (hb0.mono HW7.out.size))
    clear hb0
    refine hK.out _ _ ⟨HW8.out, ex9_cells HW8.out⟩ (fun hHeld => ?_)
    clear hK K
    try simp only [Act.put, List.setIfInBounds_toArray, List.set_cons_zero, List.set_cons_succ]
    refine takeY (i := 24) (d := some 30) (v := ?_) rfl rfl (by kernel_rfl) (by kernel_rfl) (by kernel_rfl) (fun _ _ _ h => h) (by rfl) ?_ hHeld ?_
    rotate_left
    · intro w9 hS9
      first | (go_simp; done) | (go_simp; with_reducible rfl)
    try simp only [Act.put, List.setIfInBounds_toArray, List.set_cons_zero, List.set_cons_succ]
    refine takeY (i := 25) (d := some 31) (v := ?_) rfl rfl (by kernel_rfl) (by kernel_rfl) (by kernel_rfl) (fun _ _ _ h => h) (by rfl) ?_ hHeld ?_
    rotate_left
    · intro w9 hS9
      first | (go_simp; done) | (go_simp; with_reducible rfl)
    try simp only [Act.put, List.setIfInBounds_toArray, List.set_cons_zero, List.set_cons_succ]
    refine takeY (i := 26) (d := some 0) (v := ?_) rfl rfl (by kernel_rfl) (by kernel_rfl) (by kernel_rfl) (fun _ _ _ h => h) (by rfl) ?_ hHeld ?_
    rotate_left
    · intro w9 hS9
      first | (go_simp; done) | (go_simp; with_reducible rfl)
    try simp only [Act.put, List.setIfInBounds_toArray, List.set_cons_zero, List.set_cons_succ]
    refine wpAnyH_done (by kernel_rfl) ?_ _
    go_wp2
    go_ret
    exact ⟨rfl, HB.out.trans (HW8.out.mono HB.out.size)⟩
end Go.Proofs.YtbdimnncobpfdaaGreat
