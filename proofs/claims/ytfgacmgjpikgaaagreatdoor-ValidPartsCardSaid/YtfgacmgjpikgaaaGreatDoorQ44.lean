/- Part 45 of the contracts and their mathematics. -/
import Derived.Test.YtfgacmgjpikgaaaGreatDoorQ43
set_option linter.unusedVariables false
set_option linter.unusedSimpArgs false
namespace Go.Proofs.YtfgacmgjpikgaaaGreatDoor
open Go.RowKit
theorem cells_new10 {α : Type} (w : World) (f : α → List Value) {k : Nat} (hk : ∀ x, (f x).length = k) (L : List α) (t : TypeId) : Cells (w.alloc (.cells (L.flatMap f).toArray t)) (w.heap.size + 1) k f (some ⟨w.heap.size, 0, none⟩) L.length L := by
 refine ⟨rfl, fun _ => ⟨w.heap.size, 0, rfl, by omega, fun i x hx j u hu => ?_⟩⟩
 have hj : j < k := by have := (List.getElem?_eq_some_iff.1 hu).1; rwa [hk] at this
 rw [cell_of_row (w.alloc (.cells (L.flatMap f).toArray t)) w.heap.size (0 + i * k + j) (L.flatMap f).toArray t (0, 0) (heap_alloc_new w _), Nat.zero_add]
 rw [List.getElem?_toArray, flatMap_at hk hx hj, hu]
theorem slH_nil10 {α : Type} (w : World) (B k : Nat) (f : α → List Value) (Q : α → Prop) : SlH w B k f Q ⟨none, 0, 0, []⟩ := ⟨Nat.le_refl _, Nat.zero_le _, ⟨rfl, fun h => absurd h (Nat.lt_irrefl 0)⟩, fun x hx => by cases hx⟩
theorem int10 {x : Int} (h : -100 ≤ x ∧ x ≤ 100) : IntR x := ⟨by omega, by omega⟩
theorem i0_10 : IntR 0 := int10 (by decide)
theorem onePl_10 (w : World) (B : Nat) {l : Int} (h : -100 ≤ l ∧ l ≤ 100) : OnePl w B ⟨l, none, 0, 0, []⟩ := ⟨Nat.le_refl _, Nat.zero_le _, int10 h, ⟨⟨rfl, fun h => absurd h (Nat.lt_irrefl 0)⟩, fun x hx => by cases hx⟩⟩
abbrev ty10 : TyW := ⟨⟨2, false, 0, 0, []⟩, none, 0, 0⟩
abbrev lc10 : LcW := ⟨⟨#[120]⟩, 0⟩
abbrev bk10 : BkW := ⟨⟨none, 0, 0, []⟩, ⟨2, ⟨none, 0, 0, []⟩, ⟨none, 0, 0, []⟩, ⟨0, none, 0, 0, []⟩, .empty⟩⟩
abbrev ex10 (g : Nat) : BdW := ⟨⟨#[102]⟩, ⟨none, 0, 0, []⟩, ⟨none, 0, 0, []⟩, ⟨some ⟨g, 0, none⟩, 1, 1, [ty10]⟩, ⟨some ⟨g + 1, 0, none⟩, 1, 1, [lc10]⟩, 0, ⟨some ⟨g + 1 + 1, 0, none⟩, 1, 1, [bk10]⟩⟩
abbrev no10 : BdW := ⟨⟨#[102]⟩, ⟨none, 0, 0, []⟩, ⟨none, 0, 0, []⟩, ⟨none, 0, 0, []⟩, ⟨none, 0, 0, []⟩, 0, ⟨none, 0, 0, []⟩⟩
abbrev st10 (A : Option Addr) (l k : Int) : StW := ⟨0, ⟨l, none, 0, 0, []⟩, ⟨0, 0, 0, false, ⟨0, none, 0, 0, []⟩, ⟨A, 1, 1, [⟨k, ⟨0, none, 0, 0, []⟩, 0⟩]⟩⟩, 0⟩
abbrev tm10 (A : Option Addr) : TmW := ⟨0, ⟨A, 1, 1, [0]⟩, ⟨none, 0, 0, []⟩, ⟨0, none, 0, 0, []⟩, .empty⟩
abbrev op10 : OpW := ⟨9, ⟨0, none, 0, 0, []⟩, 0⟩
theorem oneT_10 (w : World) (B : Nat) : OneT w B ty10 := ⟨⟨Nat.le_refl _, Nat.zero_le _, rfl, int10 (by decide), int10 (by decide), int10 (by decide), fun x hx => by cases hx⟩, ⟨rfl, fun h => absurd h (Nat.lt_irrefl 0)⟩⟩
theorem bk10_one (w : World) (B : Nat) : OneBk w B bk10 := ⟨slH_nil10 _ _ _ _ _, int10 (by decide), slH_nil10 _ _ _ _ _, slH_nil10 _ _ _ _ _, onePl_10 _ _ (by decide), by decide⟩
theorem no10_one (w : World) (B : Nat) : OneBd w B no10 := ⟨(show (1 : Nat) ≤ maxLen by decide), slH_nil10 _ _ _ _ _, slH_nil10 _ _ _ _ _, slH_nil10 _ _ _ _ _, slH_nil10 _ _ _ _ _, int10 (by decide), slH_nil10 _ _ _ _ _⟩
theorem op10_one (w : World) (B : Nat) : OneOp w B op10 := ⟨int10 (by decide), onePl_10 _ _ (by decide), int10 (by decide)⟩
def row10 (w : World) : World := (((w.alloc (.cells #[.int .i64 2, .bool false, .int .i64 0, .int .i64 0, .slice none 0 0] 62)).alloc (.cells #[.string ⟨#[120]⟩, .int .i64 0] 64)).alloc (.cells #[.slice none 0 0, .int .i64 2, .slice none 0 0, .slice none 0 0, .int .i64 0, .slice none 0 0, .string .empty] 52))
def ex10W (w : World) : World := (row10 w).alloc (.cells #[.string ⟨#[102]⟩, .slice none 0 0, .slice none 0 0, .slice (some ⟨w.heap.size, 0, none⟩) 1 1, .slice (some ⟨w.heap.size + 1, 0, none⟩) 1 1, .int .i64 0, .slice (some ⟨w.heap.size + 1 + 1, 0, none⟩) 1 1] 28)
theorem row10_size (w : World) : (row10 w).heap.size = w.heap.size + 1 + 1 + 1 := by simp [row10]
theorem ex10W_below (w : World) : Below w.heap.size w (ex10W w) := ((((Below.refl _ w).alloc (Nat.le_refl _) _).alloc (by simp) _).alloc (by simp; omega) _).alloc (by simp [row10]; omega) _
theorem ex10_one (w : World) : OneBd (ex10W w) (ex10W w).heap.size (ex10 w.heap.size) := by
 have hsz : (ex10W w).heap.size = w.heap.size + 1 + 1 + 1 + 1 := by unfold ex10W; simp [row10_size]
 have c1 := cells_new10 w c5 c5_len [ty10] 62
 have c2 := cells_new10 (w.alloc (.cells #[.int .i64 2, .bool false, .int .i64 0, .int .i64 0, .slice none 0 0] 62)) cLc cLc_len [lc10] 64
 have c3 := cells_new10 ((w.alloc (.cells #[.int .i64 2, .bool false, .int .i64 0, .int .i64 0, .slice none 0 0] 62)).alloc (.cells #[.string ⟨#[120]⟩, .int .i64 0] 64)) cBk cBk_len [bk10] 52
 have z1 : (w.alloc (.cells #[.int .i64 2, .bool false, .int .i64 0, .int .i64 0, .slice none 0 0] 62)).heap.size = w.heap.size + 1 := by simp
 have z2 : ((w.alloc (.cells #[.int .i64 2, .bool false, .int .i64 0, .int .i64 0, .slice none 0 0] 62)).alloc (.cells #[.string ⟨#[120]⟩, .int .i64 0] 64)).heap.size = w.heap.size + 1 + 1 := by simp
 rw [z1] at c2
 rw [z2] at c3
 have b1 : Below (w.heap.size + 1) (w.alloc (.cells ([ty10].flatMap c5).toArray 62)) (ex10W w) := (((Below.refl _ _).alloc (by simp) _).alloc (by simp) _).alloc (by simp) _
 have b2 : Below (w.heap.size + 1 + 1) ((w.alloc (.cells #[.int .i64 2, .bool false, .int .i64 0, .int .i64 0, .slice none 0 0] 62)).alloc (.cells ([lc10].flatMap cLc).toArray 64)) (ex10W w) := ((Below.refl _ _).alloc (by simp) _).alloc (by simp) _
 have b3 : Below (w.heap.size + 1 + 1 + 1) (((w.alloc (.cells #[.int .i64 2, .bool false, .int .i64 0, .int .i64 0, .slice none 0 0] 62)).alloc (.cells #[.string ⟨#[120]⟩, .int .i64 0] 64)).alloc (.cells ([bk10].flatMap cBk).toArray 52)) (ex10W w) := (Below.refl _ _).alloc (by simp) _
 refine ⟨(show (1 : Nat) ≤ maxLen by decide), slH_nil10 _ _ _ _ _, slH_nil10 _ _ _ _ _, ⟨Nat.le_refl _, (show (1 : Nat) ≤ maxLen by decide), (c1.below b1).more (by rw [hsz]; omega), fun x hx => by obtain rfl : x = ty10 := (by simpa using hx); exact oneT_10 _ _⟩, ⟨Nat.le_refl _, (show (1 : Nat) ≤ maxLen by decide), (c2.below b2).more (by rw [hsz]; omega), fun x hx => by obtain rfl : x = lc10 := (by simpa using hx); exact ⟨int10 (by decide), (show (1 : Nat) ≤ maxLen by decide)⟩⟩, int10 (show (-100 : Int) ≤ 0 ∧ (0 : Int) ≤ 100 by decide), ⟨Nat.le_refl _, (show (1 : Nat) ≤ maxLen by decide), (c3.below b3).more (by rw [hsz]; omega), fun x hx => by obtain rfl : x = bk10 := (by simpa using hx); exact bk10_one _ _⟩⟩
theorem ex10_cells {w w' : World} (h : Below (ex10W w).heap.size (ex10W w) w') : w'.cell? ⟨w.heap.size + 1 + 1 + 1, 0, none⟩ = some (.string ⟨#[102]⟩) ∧ w'.cell? ⟨w.heap.size + 1 + 1 + 1, 1, none⟩ = some (.slice none 0 0) ∧ w'.cell? ⟨w.heap.size + 1 + 1 + 1, 2, none⟩ = some (.slice none 0 0) ∧ w'.cell? ⟨w.heap.size + 1 + 1 + 1, 3, none⟩ = some (.slice (some ⟨w.heap.size, 0, none⟩) 1 1) ∧ w'.cell? ⟨w.heap.size + 1 + 1 + 1, 4, none⟩ = some (.slice (some ⟨w.heap.size + 1, 0, none⟩) 1 1) ∧ w'.cell? ⟨w.heap.size + 1 + 1 + 1, 5, none⟩ = some (.int .i64 0) ∧ w'.cell? ⟨w.heap.size + 1 + 1 + 1, 6, none⟩ = some (.slice (some ⟨w.heap.size + 1 + 1, 0, none⟩) 1 1) := by
 have hq := one_cells (w := row10 w) (cs := [.string ⟨#[102]⟩, .slice none 0 0, .slice none 0 0, .slice (some ⟨w.heap.size, 0, none⟩) 1 1, .slice (some ⟨w.heap.size + 1, 0, none⟩) 1 1, .int .i64 0, .slice (some ⟨w.heap.size + 1 + 1, 0, none⟩) 1 1]) (T := 28) h
 rw [row10_size] at hq
 exact ⟨hq 0 _ rfl, hq 1 _ rfl, hq 2 _ rfl, hq 3 _ rfl, hq 4 _ rfl, hq 5 _ rfl, hq 6 _ rfl⟩
theorem asErr_use10 {E : Env} {r : RvV} {t : Int} (hk : r.kind = 0) (hs : shErr r = 0) :
  asErr E r t = if opsErr E r.args ≠ 0 then opsErr E r.args else if r.args.all (fun o => fitT E o t) then 0 else 22 := by
 unfold asErr
 rw [if_neg (show ¬ shErr r ≠ 0 by omega), if_neg (show ¬ r.kind = 1 by omega), if_neg (show ¬ ((r.kind = 2 ∧ (r.op < 0 ∨ 1 < r.op)) ∨ (r.kind = 3 ∧ (r.op < 0 ∨ 5 < r.op))) by omega), if_neg (show ¬ r.kind = 4 by omega), if_pos hk]
def E10 : Env := ⟨[⟨2, false, 0, 0, []⟩], [0], [], 0, 1⟩
theorem one_ident10 {s : ByteArray} {c : Int} (h : sB s = [c]) (hs : s.size = 1) (hc : letB c = true) : identB s = true :=
 identB_yes (by omega) (by omega) fun j hj d hd => by
  rw [h] at hd
  have : j = 0 := by omega
  subst this
  injection hd with hd
  exact .inl (hd ▸ hc)
theorem id_f10 : identB ⟨#[102]⟩ = true := one_ident10 (c := 102) rfl rfl rfl
theorem id_x10 : identB ⟨#[120]⟩ = true := one_ident10 (c := 120) rfl rfl rfl
theorem wE10 (g : Nat) : wE (ex10 g) = E10 := rfl
theorem de10 (g : Nat) : deErr (ex10 g).v = 0 := by
 have h1 : hasB [] (⟨#[120]⟩ : ByteArray) = false := hasB_not.2 (by simp)
 have h2 : lcErr 1 [] [⟨⟨#[120]⟩, 0⟩] = 0 := by
  show (if identB ⟨#[120]⟩ = false then (12 : Int) else if hasB [] ⟨#[120]⟩ = true then 21 else if (0 : Int) < 0 ∨ ((1 : Nat) : Int) ≤ 0 then 3 else 0) = 0
  rw [h1, id_x10]
  decide
 unfold deErr
 rw [if_neg (show ¬ identB (ex10 g).v.name = false by show ¬ identB ⟨#[102]⟩ = false; rw [id_f10]; decide), if_neg (show ¬ 65535 < (ex10 g).v.regions.length by show ¬ 65535 < 0; decide), if_neg (show ¬ rgErr [] (ex10 g).v.regions ≠ 0 by show ¬ (0 : Int) ≠ 0; decide), if_neg (show ¬ prChk (ex10 g).v.outl (ex10 g).v.regions.length ≠ 0 by show ¬ prChk [] 0 ≠ 0; decide),
  if_neg (show ¬ tyChk (ex10 g).v.types (ex10 g).v.regions.length ≠ 0 by show ¬ tyChk [⟨2, false, 0, 0, []⟩] 0 ≠ 0; decide), if_neg (show ¬ 65535 < (ex10 g).v.locals.length by show ¬ 65535 < 1; decide), if_neg (show ¬ lcErr (ex10 g).v.types.length [] (ex10 g).v.locals ≠ 0 by show ¬ lcErr 1 [] [⟨⟨#[120]⟩, 0⟩] ≠ 0; rw [h2]; decide), if_neg (show ¬ ((ex10 g).v.args < 0 ∨ ((ex10 g).v.locals.length : Int) < (ex10 g).v.args) by show ¬ ((0 : Int) < 0 ∨ ((1 : Nat) : Int) < 0); decide)]
 exact if_neg (show ¬ ((1 : Nat) = 0 ∨ 65535 < 1) by decide)
theorem ret10 (g : Nat) : tmErr E10 (TmW.v ⟨2, ⟨none, 0, 0, []⟩, ⟨none, 0, 0, []⟩, ⟨0, none, 0, 0, []⟩, .empty⟩) = 0 := by
 have hs : tmSh (TmW.v ⟨2, ⟨none, 0, 0, []⟩, ⟨none, 0, 0, []⟩, ⟨0, none, 0, 0, []⟩, .empty⟩) = 0 := by simp [tmSh, TmW.v, tmTgs, noP, PlW.v]
 rw [tmErr_eq, if_neg (show ¬ tmSh (TmW.v ⟨2, ⟨none, 0, 0, []⟩, ⟨none, 0, 0, []⟩, ⟨0, none, 0, 0, []⟩, .empty⟩) ≠ 0 by rw [hs]; simp), if_neg (show ¬ tgErr E10 (TmW.v ⟨2, ⟨none, 0, 0, []⟩, ⟨none, 0, 0, []⟩, ⟨0, none, 0, 0, []⟩, .empty⟩).targets ≠ 0 by show ¬ (0 : Int) ≠ 0; decide)]
 simp [teV, TmW.v]
theorem bd10 (g : Nat) : bdErr (ex10 g).v = 0 := by
 unfold bdErr
 rw [if_neg (show ¬ deErr (ex10 g).v ≠ 0 by rw [de10]; decide), wE_v, wE10]
 refine bksErr_zero.2 fun b hb => ?_
 obtain rfl : b = bk10.v := by simpa [ex10, BdW.v] using hb
 exact bkErr_zero.2 ⟨(show 0 ≤ 65535 by decide), (fun s hs => by cases hs), ret10 g⟩
theorem vb10 (w : World) : VB (ex10W w) (ex10 w.heap.size) := ⟨ex10_one w, deErr_ok (de10 _)⟩
theorem st10_a (A : Option Addr) : stErr E10 (st10 A 0 2).v = 0 := by
 rw [stErr_asg (s := (st10 A 0 2).v) rfl rfl, asgV, if_neg (show ¬ (tyV E10 (st10 A 0 2).v.pl).2 ≠ 0 by show ¬ (tyV E10 ⟨0, []⟩).2 ≠ 0; decide), if_neg (show ¬ muV E10 (st10 A 0 2).v.pl = false by show ¬ muV E10 ⟨0, []⟩ = false; decide)]
 show asErr E10 ⟨0, 0, 0, false, ⟨0, []⟩, [⟨2, ⟨0, []⟩, 0⟩]⟩ (tyV E10 ⟨0, []⟩).1 = 0
 rw [asErr_use10 rfl (by decide), if_neg (show ¬ opsErr E10 [⟨2, ⟨0, []⟩, 0⟩] ≠ 0 by decide)]
 rw [if_pos]
 show (fitT E10 ⟨2, ⟨0, []⟩, 0⟩ (tyV E10 ⟨0, []⟩).1 && true) = true
 rw [show fitT E10 ⟨2, ⟨0, []⟩, 0⟩ (tyV E10 ⟨0, []⟩).1 = conK 2 (tyGet E10.T (tyV E10 ⟨0, []⟩).1).kind from if_pos (show (1 : Int) < 2 by decide)]
 decide
theorem st10_b (A : Option Addr) : stErr E10 (st10 A 0 3).v = 22 := by
 rw [stErr_asg (s := (st10 A 0 3).v) rfl rfl, asgV, if_neg (show ¬ (tyV E10 (st10 A 0 3).v.pl).2 ≠ 0 by show ¬ (tyV E10 ⟨0, []⟩).2 ≠ 0; decide), if_neg (show ¬ muV E10 (st10 A 0 3).v.pl = false by show ¬ muV E10 ⟨0, []⟩ = false; decide)]
 show asErr E10 ⟨0, 0, 0, false, ⟨0, []⟩, [⟨3, ⟨0, []⟩, 0⟩]⟩ (tyV E10 ⟨0, []⟩).1 = 22
 rw [asErr_use10 rfl (by decide), if_neg (show ¬ opsErr E10 [⟨3, ⟨0, []⟩, 0⟩] ≠ 0 by decide)]
 rw [if_neg]
 show ¬ (fitT E10 ⟨3, ⟨0, []⟩, 0⟩ (tyV E10 ⟨0, []⟩).1 && true) = true
 rw [show fitT E10 ⟨3, ⟨0, []⟩, 0⟩ (tyV E10 ⟨0, []⟩).1 = conK 3 (tyGet E10.T (tyV E10 ⟨0, []⟩).1).kind from if_pos (show (1 : Int) < 3 by decide)]
 decide
theorem st10_c (A : Option Addr) : stErr E10 (st10 A 1 2).v = 3 := by
 rw [stErr_asg (s := (st10 A 1 2).v) rfl rfl, asgV, if_pos (show (tyV E10 (st10 A 1 2).v.pl).2 ≠ 0 by show (tyV E10 ⟨1, []⟩).2 ≠ 0; decide)]
 show (tyV E10 ⟨1, []⟩).2 = 3
 decide
theorem no10_err : bdErr no10.v = 15 := by
 have h : deErr no10.v = 15 := by
  unfold deErr
  rw [if_neg (show ¬ identB no10.v.name = false by show ¬ identB ⟨#[102]⟩ = false; rw [id_f10]; decide), if_neg (show ¬ 65535 < no10.v.regions.length by show ¬ 65535 < 0; decide), if_neg (show ¬ rgErr [] no10.v.regions ≠ 0 by show ¬ (0 : Int) ≠ 0; decide), if_neg (show ¬ prChk no10.v.outl no10.v.regions.length ≠ 0 by show ¬ prChk [] 0 ≠ 0; decide),
   if_neg (show ¬ tyChk no10.v.types no10.v.regions.length ≠ 0 by show ¬ tyChk [] 0 ≠ 0; decide), if_neg (show ¬ 65535 < no10.v.locals.length by show ¬ 65535 < 0; decide), if_neg (show ¬ lcErr no10.v.types.length [] no10.v.locals ≠ 0 by show ¬ (0 : Int) ≠ 0; decide), if_neg (show ¬ (no10.v.args < 0 ∨ (no10.v.locals.length : Int) < no10.v.args) by show ¬ ((0 : Int) < 0 ∨ ((0 : Nat) : Int) < 0); decide)]
  exact if_pos (show ((0 : Nat) = 0 ∨ 65535 < 0) by decide)
 unfold bdErr
 rw [h]
 rfl
theorem tm10_err (A : Option Addr) : tmErr E10 (tm10 A).v = 0 := by
 have hs : tmSh (tm10 A).v = 0 := by simp [tmSh, tm10, TmW.v, tmTgs, noP, PlW.v]
 rw [tmErr_eq, if_neg (show ¬ tmSh (tm10 A).v ≠ 0 by rw [hs]; simp), if_neg (show ¬ tgErr E10 (tm10 A).v.targets ≠ 0 by show ¬ tgErr E10 [0] ≠ 0; decide)]
 simp [teV, tm10, TmW.v]
theorem op10_err : opErr E10 op10.v = 14 := by decide
def UseOut (l k : Int) (w : World) (e : Ending) (w' : World) : Prop := ∃ A, e = .returned (aggSt (st10 A l k)) ∧ OneSt w' w'.heap.size (st10 A l k) ∧ Below w.heap.size w w'
set_option maxHeartbeats 4000000 in
set_option maxRecDepth 100000 in
theorem use10 (l k : Int) (w : World) (hl : -100 ≤ l ∧ l ≤ 100) (hk : -100 ≤ k ∧ k ≤ 100) : Calls Tryz.prog 25 #[.int .i64 l, .int .i64 k] w (UseOut l k w) := by
 go_enter Tryz.func25, Tryz.ntmps25
 go_wp2
 have z1 : (w.alloc (.cells #[.int .i64 0, .int .i64 l, .slice none 0 0, .int .i64 0, .int .i64 0, .int .i64 0, .bool false, .int .i64 0, .slice none 0 0, .slice (some ⟨w.heap.size + 1, 0, none⟩) 1 1, .int .i64 0] 46)).heap.size = w.heap.size + 1 := by simp
 have c := cells_new10 (w.alloc (.cells #[.int .i64 0, .int .i64 l, .slice none 0 0, .int .i64 0, .int .i64 0, .int .i64 0, .bool false, .int .i64 0, .slice none 0 0, .slice (some ⟨w.heap.size + 1, 0, none⟩) 1 1, .int .i64 0] 46)) cOp cOp_len [⟨k, ⟨0, none, 0, 0, []⟩, 0⟩] 38
 rw [z1] at c
 refine bodyPost_ret (results_cell_row rfl _ _ w.heap.size _ #[.int .i64 0, .int .i64 l, .slice none 0 0, .int .i64 0, .int .i64 0, .int .i64 0, .bool false, .int .i64 0, .slice none 0 0, .slice (some ⟨w.heap.size + 1, 0, none⟩) 1 1, .int .i64 0] (0, 0) _ rfl ((((Below.refl _ _).alloc (Nat.le_refl _) _).block w.heap.size (by simp)).trans (heap_alloc_new w _)) Tryz.underlying46 rfl (by kernel_rfl)) rfl ⟨some ⟨w.heap.size + 1, 0, none⟩, rfl, ⟨i0_10, onePl_10 _ _ hl, ⟨i0_10, i0_10, i0_10, onePl_10 _ _ (by decide), ⟨Nat.le_refl _, (show (1 : Nat) ≤ maxLen by decide), c.more (by simp), fun x hx => by obtain rfl : x = ⟨k, ⟨0, none, 0, 0, []⟩, 0⟩ := (by simpa using hx); exact ⟨int10 hk, onePl_10 _ _ (by decide), i0_10⟩⟩⟩, i0_10⟩, ((Below.refl _ w).alloc (Nat.le_refl _) _).alloc (by simp) _⟩
theorem tm10_one (w : World) : OneTm (w.alloc (.cells #[.int .i64 0] 3)) (w.alloc (.cells #[.int .i64 0] 3)).heap.size (tm10 (some ⟨w.heap.size, 0, none⟩)) :=
 ⟨int10 (show (-100 : Int) ≤ 0 ∧ (0 : Int) ≤ 100 by decide), ⟨Nat.le_refl _, (show (1 : Nat) ≤ maxLen by decide), (cells_new10 w cInt cInt_len [0] 3).more (by simp), fun x hx => by obtain rfl : x = 0 := (by simpa using hx); exact int10 (by decide)⟩, slH_nil10 _ _ _ _ _, onePl_10 _ _ (by decide), (show (0 : Nat) ≤ maxLen by decide)⟩
set_option maxHeartbeats 8000000 in
set_option maxRecDepth 100000 in
theorem alive10_any (w : World) (hT : OpsT w) : Calls Tryz.prog 10 #[] w fun e w' => e = .returned (.bool true) ∧ Below w.heap.size w w' := by
 have HB := hide (ex10W_below w)
 have HV := hide (vb10 w)
 have HT := hide (hT.up HB.out)
 have HW0 := hide (show Below (ex10W w).heap.size (ex10W w) (World.drew (ex10W w)) from (Below.refl _ _).drew)
 clear hT
 go_enter Tryz.func10, Tryz.ntmps10
 go_wp2
 change Code.wp _ _ _ _ (ex10W w)
 refine wp_region_held_drew (S := (fun w' => w'.cell? ⟨w.heap.size + 1 + 1 + 1, 0, none⟩ = some (.string ⟨#[102]⟩) ∧ w'.cell? ⟨w.heap.size + 1 + 1 + 1, 1, none⟩ = some (.slice none 0 0) ∧ w'.cell? ⟨w.heap.size + 1 + 1 + 1, 2, none⟩ = some (.slice none 0 0) ∧ w'.cell? ⟨w.heap.size + 1 + 1 + 1, 3, none⟩ = some (.slice (some ⟨w.heap.size, 0, none⟩) 1 1) ∧ w'.cell? ⟨w.heap.size + 1 + 1 + 1, 4, none⟩ = some (.slice (some ⟨w.heap.size + 1, 0, none⟩) 1 1) ∧ w'.cell? ⟨w.heap.size + 1 + 1 + 1, 5, none⟩ = some (.int .i64 0) ∧ w'.cell? ⟨w.heap.size + 1 + 1 + 1, 6, none⟩ = some (.slice (some ⟨w.heap.size + 1 + 1, 0, none⟩) 1 1))) (by kernel_rfl) (ex10_cells HW0.out) (fun hHeld => ?_)
 refine plan [(0, some 11, true)] ?_
 repeat' (first | (refine planN hHeld rfl rfl (by kernel_rfl) (by kernel_rfl) (by kernel_rfl) (fun _ _ _ h => h) (by rfl) ?_; try simp only [Act.put, List.setIfInBounds_toArray, List.set_cons_zero, List.set_cons_succ]) | (refine planY (v := ?_) hHeld rfl rfl (by kernel_rfl) (by kernel_rfl) (by kernel_rfl) (fun _ _ _ h => h) (by rfl) ?_ ?_; rotate_left; (· (intro w9 hS9; obtain ⟨c0, c1, c2, c3, c4, c5, c6⟩ := hS9; first | (go_simp; done) | (go_simp; with_reducible rfl))); try simp only [Act.put, List.setIfInBounds_toArray, List.set_cons_zero, List.set_cons_succ]))
 refine plan0 ?_
 refine wpAnyH_ready (rs := [1]) (by kernel_rfl) (by simp) ?_
 refine AllReadyH.cons rfl (fun KZ hK => ?_) AllReadyH.nil
 go_simp
 refine (vCheck_is (x := (ex10 w.heap.size)) (HV.out.up HW0.out).one (show (1 : Nat) ≤ 1000 by decide) (HT.out.up HW0.out) (bd10 _)).mono ?_
 rintro e1 w1 ⟨rfl, hb0⟩
 have HW1 := hide (HW0.out.trans (hb0.mono HW0.out.size))
 clear hb0
 refine hK.out _ _ (ex10_cells HW1.out) (fun hHeld => ?_)
 clear hK KZ
 try simp only [Act.put, List.setIfInBounds_toArray, List.set_cons_zero, List.set_cons_succ]
 refine plan [(2, some 13, true), (3, some 14, true), (4, some 15, true), (5, some 16, true)] ?_
 repeat' (first | (refine planN hHeld rfl rfl (by kernel_rfl) (by kernel_rfl) (by kernel_rfl) (fun _ _ _ h => h) (by rfl) ?_; try simp only [Act.put, List.setIfInBounds_toArray, List.set_cons_zero, List.set_cons_succ]) | (refine planY (v := ?_) hHeld rfl rfl (by kernel_rfl) (by kernel_rfl) (by kernel_rfl) (fun _ _ _ h => h) (by rfl) ?_ ?_; rotate_left; (· (intro w9 hS9; obtain ⟨c0, c1, c2, c3, c4, c5, c6⟩ := hS9; first | (go_simp; done) | (go_simp; with_reducible rfl))); try simp only [Act.put, List.setIfInBounds_toArray, List.set_cons_zero, List.set_cons_succ]))
 refine plan0 ?_
 refine wpAnyH_ready (rs := [6]) (by kernel_rfl) (by simp) ?_
 refine AllReadyH.cons rfl (fun KZ hK => ?_) AllReadyH.nil
 go_simp
 refine (use10 0 2 _ (by decide) (by decide)).mono ?_
 rintro e2 w2 ⟨A2, rfl, hst, hb0⟩
 have HW2 := hide (HW1.out.trans (hb0.mono HW1.out.size))
 have HST := hide hst
 clear hst
 clear hb0
 refine hK.out _ _ (ex10_cells HW2.out) (fun hHeld => ?_)
 clear hK KZ
 try simp only [Act.put, List.setIfInBounds_toArray, List.set_cons_zero, List.set_cons_succ]
 refine wpAnyH_ready (rs := [7]) (by kernel_rfl) (by simp) ?_
 refine AllReadyH.cons rfl (fun KZ hK => ?_) AllReadyH.nil
 go_simp
 refine (vStmt_is (x := (ex10 w.heap.size)) (HV.out.up HW2.out) (show (1 : Nat) ≤ 1000 by decide) (HT.out.up HW2.out) HST.out (st10_a _)).mono ?_
 rintro e3 w3 ⟨rfl, hb0⟩
 have HW3 := hide (HW2.out.trans (hb0.mono HW2.out.size))
 clear HST
 clear hb0
 refine hK.out _ _ (ex10_cells HW3.out) (fun hHeld => ?_)
 clear hK KZ
 try simp only [Act.put, List.setIfInBounds_toArray, List.set_cons_zero, List.set_cons_succ]
 refine plan [(8, some 19, true), (9, some 20, true), (10, some 21, true), (11, some 22, true), (12, some 23, true)] ?_
 repeat' (first | (refine planN hHeld rfl rfl (by kernel_rfl) (by kernel_rfl) (by kernel_rfl) (fun _ _ _ h => h) (by rfl) ?_; try simp only [Act.put, List.setIfInBounds_toArray, List.set_cons_zero, List.set_cons_succ]) | (refine planY (v := ?_) hHeld rfl rfl (by kernel_rfl) (by kernel_rfl) (by kernel_rfl) (fun _ _ _ h => h) (by rfl) ?_ ?_; rotate_left; (· (intro w9 hS9; obtain ⟨c0, c1, c2, c3, c4, c5, c6⟩ := hS9; first | (go_simp; done) | (go_simp; with_reducible rfl))); try simp only [Act.put, List.setIfInBounds_toArray, List.set_cons_zero, List.set_cons_succ]))
 refine plan0 ?_
 refine wpAnyH_ready (rs := [13]) (by kernel_rfl) (by simp) ?_
 refine AllReadyH.cons rfl (fun KZ hK => ?_) AllReadyH.nil
 go_simp
 refine (use10 0 3 _ (by decide) (by decide)).mono ?_
 rintro e4 w4 ⟨A4, rfl, hst, hb0⟩
 have HW4 := hide (HW3.out.trans (hb0.mono HW3.out.size))
 have HST := hide hst
 clear hst
 clear hb0
 refine hK.out _ _ (ex10_cells HW4.out) (fun hHeld => ?_)
 clear hK KZ
 try simp only [Act.put, List.setIfInBounds_toArray, List.set_cons_zero, List.set_cons_succ]
 refine wpAnyH_ready (rs := [14]) (by kernel_rfl) (by simp) ?_
 refine AllReadyH.cons rfl (fun KZ hK => ?_) AllReadyH.nil
 go_simp
 refine (vStmt_is (x := (ex10 w.heap.size)) (HV.out.up HW4.out) (show (1 : Nat) ≤ 1000 by decide) (HT.out.up HW4.out) HST.out (st10_b _)).mono ?_
 rintro e5 w5 ⟨rfl, hb0⟩
 have HW5 := hide (HW4.out.trans (hb0.mono HW4.out.size))
 clear HST
 clear hb0
 refine hK.out _ _ (ex10_cells HW5.out) (fun hHeld => ?_)
 clear hK KZ
 try simp only [Act.put, List.setIfInBounds_toArray, List.set_cons_zero, List.set_cons_succ]
 refine plan [(15, some 26, true), (16, some 27, true), (17, some 28, true), (18, some 29, true), (19, some 30, true)] ?_
 repeat' (first | (refine planN hHeld rfl rfl (by kernel_rfl) (by kernel_rfl) (by kernel_rfl) (fun _ _ _ h => h) (by rfl) ?_; try simp only [Act.put, List.setIfInBounds_toArray, List.set_cons_zero, List.set_cons_succ]) | (refine planY (v := ?_) hHeld rfl rfl (by kernel_rfl) (by kernel_rfl) (by kernel_rfl) (fun _ _ _ h => h) (by rfl) ?_ ?_; rotate_left; (· (intro w9 hS9; obtain ⟨c0, c1, c2, c3, c4, c5, c6⟩ := hS9; first | (go_simp; done) | (go_simp; with_reducible rfl))); try simp only [Act.put, List.setIfInBounds_toArray, List.set_cons_zero, List.set_cons_succ]))
 refine plan0 ?_
 refine wpAnyH_ready (rs := [20]) (by kernel_rfl) (by simp) ?_
 refine AllReadyH.cons rfl (fun KZ hK => ?_) AllReadyH.nil
 go_simp
 refine (use10 1 2 _ (by decide) (by decide)).mono ?_
 rintro e6 w6 ⟨A6, rfl, hst, hb0⟩
 have HW6 := hide (HW5.out.trans (hb0.mono HW5.out.size))
 have HST := hide hst
 clear hst
 clear hb0
 refine hK.out _ _ (ex10_cells HW6.out) (fun hHeld => ?_)
 clear hK KZ
 try simp only [Act.put, List.setIfInBounds_toArray, List.set_cons_zero, List.set_cons_succ]
 refine wpAnyH_ready (rs := [21]) (by kernel_rfl) (by simp) ?_
 refine AllReadyH.cons rfl (fun KZ hK => ?_) AllReadyH.nil
 go_simp
 refine (vStmt_is (x := (ex10 w.heap.size)) (HV.out.up HW6.out) (show (1 : Nat) ≤ 1000 by decide) (HT.out.up HW6.out) HST.out (st10_c _)).mono ?_
 rintro e7 w7 ⟨rfl, hb0⟩
 have HW7 := hide (HW6.out.trans (hb0.mono HW6.out.size))
 clear HST
 clear hb0
 refine hK.out _ _ (ex10_cells HW7.out) (fun hHeld => ?_)
 clear hK KZ
 try simp only [Act.put, List.setIfInBounds_toArray, List.set_cons_zero, List.set_cons_succ]
 refine plan [(22, some 33, true), (23, some 34, true), (24, some 35, true), (25, some 36, true)] ?_
 repeat' (first | (refine planN hHeld rfl rfl (by kernel_rfl) (by kernel_rfl) (by kernel_rfl) (fun _ _ _ h => h) (by rfl) ?_; try simp only [Act.put, List.setIfInBounds_toArray, List.set_cons_zero, List.set_cons_succ]) | (refine planY (v := ?_) hHeld rfl rfl (by kernel_rfl) (by kernel_rfl) (by kernel_rfl) (fun _ _ _ h => h) (by rfl) ?_ ?_; rotate_left; (· (intro w9 hS9; obtain ⟨c0, c1, c2, c3, c4, c5, c6⟩ := hS9; first | (go_simp; done) | (go_simp; with_reducible rfl))); try simp only [Act.put, List.setIfInBounds_toArray, List.set_cons_zero, List.set_cons_succ]))
 refine plan0 ?_
 refine wpAnyH_ready (rs := [26]) (by kernel_rfl) (by simp) ?_
 refine AllReadyH.cons rfl (fun KZ hK => ?_) AllReadyH.nil
 go_simp
 refine (vCheck_is (x := no10) (no10_one _ _) (show (0 : Nat) ≤ 1000 by decide) (HT.out.up HW7.out) no10_err).mono ?_
 rintro e8 w8 ⟨rfl, hb0⟩
 have HW8 := hide (HW7.out.trans (hb0.mono HW7.out.size))
 clear hb0
 refine hK.out _ _ (ex10_cells HW8.out) (fun hHeld => ?_)
 clear hK KZ
 try simp only [Act.put, List.setIfInBounds_toArray, List.set_cons_zero, List.set_cons_succ]
 refine plan [(27, some 38, true), (28, some 39, true), (29, some 40, true), (30, some 41, true)] ?_
 repeat' (first | (refine planN hHeld rfl rfl (by kernel_rfl) (by kernel_rfl) (by kernel_rfl) (fun _ _ _ h => h) (by rfl) ?_; try simp only [Act.put, List.setIfInBounds_toArray, List.set_cons_zero, List.set_cons_succ]) | (refine planY (v := ?_) hHeld rfl rfl (by kernel_rfl) (by kernel_rfl) (by kernel_rfl) (fun _ _ _ h => h) (by rfl) ?_ ?_; rotate_left; (· (intro w9 hS9; obtain ⟨c0, c1, c2, c3, c4, c5, c6⟩ := hS9; first | (go_simp; done) | (go_simp; with_reducible rfl))); try simp only [Act.put, List.setIfInBounds_toArray, List.set_cons_zero, List.set_cons_succ]))
 refine plan0 ?_
 refine wpAnyH_ready (rs := [31]) (by kernel_rfl) (by simp) ?_
 refine AllReadyH.cons rfl (fun KZ hK => ?_) AllReadyH.nil
 go_simp
 have HW9 := hide (HW8.out.alloc HW8.out.size (.cells #[.int .i64 0] 3))
 have HTM := hide (tm10_one w8)
 refine hK.out _ _ (ex10_cells HW9.out) (fun hHeld => ?_)
 clear hK KZ
 try simp only [Act.put, List.setIfInBounds_toArray, List.set_cons_zero, List.set_cons_succ]
 refine plan [(32, some 43, true)] ?_
 repeat' (first | (refine planN hHeld rfl rfl (by kernel_rfl) (by kernel_rfl) (by kernel_rfl) (fun _ _ _ h => h) (by rfl) ?_; try simp only [Act.put, List.setIfInBounds_toArray, List.set_cons_zero, List.set_cons_succ]) | (refine planY (v := ?_) hHeld rfl rfl (by kernel_rfl) (by kernel_rfl) (by kernel_rfl) (fun _ _ _ h => h) (by rfl) ?_ ?_; rotate_left; (· (intro w9 hS9; obtain ⟨c0, c1, c2, c3, c4, c5, c6⟩ := hS9; first | (go_simp; done) | (go_simp; with_reducible rfl))); try simp only [Act.put, List.setIfInBounds_toArray, List.set_cons_zero, List.set_cons_succ]))
 refine plan0 ?_
 refine wpAnyH_ready (rs := [33]) (by kernel_rfl) (by simp) ?_
 refine AllReadyH.cons rfl (fun KZ hK => ?_) AllReadyH.nil
 go_simp
 refine (vTerm_is (x := (ex10 w.heap.size)) (HV.out.up HW9.out) (show (1 : Nat) ≤ 1000 by decide) (HT.out.up HW9.out) HTM.out (tm10_err _)).mono ?_
 rintro e10 w10 ⟨rfl, hb0⟩
 have HW10 := hide (HW9.out.trans (hb0.mono HW9.out.size))
 clear hb0
 refine hK.out _ _ (ex10_cells HW10.out) (fun hHeld => ?_)
 clear hK KZ
 try simp only [Act.put, List.setIfInBounds_toArray, List.set_cons_zero, List.set_cons_succ]
 refine plan [(34, some 45, true), (35, some 46, true), (36, some 47, true), (37, some 48, true), (38, some 49, true)] ?_
 repeat' (first | (refine planN hHeld rfl rfl (by kernel_rfl) (by kernel_rfl) (by kernel_rfl) (fun _ _ _ h => h) (by rfl) ?_; try simp only [Act.put, List.setIfInBounds_toArray, List.set_cons_zero, List.set_cons_succ]) | (refine planY (v := ?_) hHeld rfl rfl (by kernel_rfl) (by kernel_rfl) (by kernel_rfl) (fun _ _ _ h => h) (by rfl) ?_ ?_; rotate_left; (· (intro w9 hS9; obtain ⟨c0, c1, c2, c3, c4, c5, c6⟩ := hS9; first | (go_simp; done) | (go_simp; with_reducible rfl))); try simp only [Act.put, List.setIfInBounds_toArray, List.set_cons_zero, List.set_cons_succ]))
 refine plan0 ?_
 refine wpAnyH_ready (rs := [39]) (by kernel_rfl) (by simp) ?_
 refine AllReadyH.cons rfl (fun KZ hK => ?_) AllReadyH.nil
 go_simp
 refine (vOperand_is (x := (ex10 w.heap.size)) (HV.out.up HW10.out) (show (1 : Nat) ≤ 1000 by decide) (HT.out.up HW10.out) (op10_one _ _) op10_err).mono ?_
 rintro e11 w11 ⟨rfl, hb0⟩
 have HW11 := hide (HW10.out.trans (hb0.mono HW10.out.size))
 clear hb0
 refine hK.out _ _ (ex10_cells HW11.out) (fun hHeld => ?_)
 clear hK KZ
 try simp only [Act.put, List.setIfInBounds_toArray, List.set_cons_zero, List.set_cons_succ]
 refine plan [(40, some 51, true), (41, some 52, true), (42, some 0, true)] ?_
 repeat' (first | (refine planN hHeld rfl rfl (by kernel_rfl) (by kernel_rfl) (by kernel_rfl) (fun _ _ _ h => h) (by rfl) ?_; try simp only [Act.put, List.setIfInBounds_toArray, List.set_cons_zero, List.set_cons_succ]) | (refine planY (v := ?_) hHeld rfl rfl (by kernel_rfl) (by kernel_rfl) (by kernel_rfl) (fun _ _ _ h => h) (by rfl) ?_ ?_; rotate_left; (· (intro w9 hS9; obtain ⟨c0, c1, c2, c3, c4, c5, c6⟩ := hS9; first | (go_simp; done) | (go_simp; with_reducible rfl))); try simp only [Act.put, List.setIfInBounds_toArray, List.set_cons_zero, List.set_cons_succ]))
 refine plan0 ?_
 refine wpAnyH_done (by kernel_rfl) ?_ _
 go_wp2
 go_ret
 exact ⟨rfl, HB.out.trans (HW11.out.mono HB.out.size)⟩
def unr (ps : List Pr) (Z : List Int) : Nat := ps.countP fun p => !Z.contains p.2
theorem unr_up {ps : List Pr} {Z : List Int} {p : Pr} (hp : p ∈ ps) (hn : p.2 ∉ Z) : unr ps (Z ++ [p.2]) + 1 ≤ unr ps Z := by
 unfold unr
 induction ps with
 | nil => cases hp
 | cons q ps ih =>
  have mono : ∀ qs : List Pr, (qs.countP fun r => !(Z ++ [p.2]).contains r.2) ≤ qs.countP fun r => !Z.contains r.2 := by
   intro qs
   refine List.countP_mono_left fun r _ h => ?_
   simp at h ⊢
   exact h.1
  rw [List.countP_cons, List.countP_cons]
  rcases List.mem_cons.1 hp with rfl | hp
  ·
   have h1 := mono ps
   have e1 : (!(Z ++ [p.2]).contains p.2) = false := by simp
   have e2 : (!Z.contains p.2) = true := by simpa using hn
   rw [if_neg (by rw [e1]; decide), if_pos e2]
   omega
  ·
   have h1 := ih hp
   have h2 := mono [q]
   rw [List.countP_cons, List.countP_cons, List.countP_nil, List.countP_nil] at h2
   omega
structure Rch (ps : List Pr) (a b : Int) (Z : List Int) (i : Nat) : Prop where
 bound : Z.length + unr ps Z ≤ ps.length + 1
 way : ∀ z ∈ Z, Way ps a z
 start : a ∈ Z
 no : ∀ t z, t < i → Z[t]? = some z → z ≠ b
 done : ∀ t z, t < i → Z[t]? = some z → ∀ c, (z, c) ∈ ps → c ∈ Z
theorem Rch.begin (ps : List Pr) (a b : Int) : Rch ps a b [a] 0 :=
 ⟨by have : unr ps [a] ≤ ps.length := List.countP_le_length; simp; omega, (fun z hz => by
  have e : z = a := by simpa using hz
  subst e
  exact Way.refl _), by simp, fun t z h => absurd h (Nat.not_lt_zero _), fun t z h => absurd h (Nat.not_lt_zero _)⟩
theorem Rch.up {ps : List Pr} {a b : Int} {Z : List Int} {i : Nat} (h : Rch ps a b Z i) {z : Int} (hz : Z[i]? = some z) {c : Int} (hp : (z, c) ∈ ps) (hn : c ∉ Z) : Rch ps a b (Z ++ [c]) i := by
 have hi := (List.getElem?_eq_some_iff.1 hz).1
 have old : ∀ t y, t < i → (Z ++ [c])[t]? = some y → Z[t]? = some y := fun t y ht hy => by rwa [List.getElem?_append_left (by omega)] at hy
 refine ⟨by have h1 : unr ps (Z ++ [c]) + 1 ≤ unr ps Z := unr_up hp hn; have h2 := h.bound; rw [List.length_append, List.length_singleton]; omega, fun y hy => ?_, by simp [h.start], fun t y ht hy => h.no t y ht (old t y ht hy), fun t y ht hy d hd => by simp [h.done t y ht (old t y ht hy) d hd]⟩
 rcases List.mem_append.1 hy with hy | hy
 ·
  exact h.way y hy
 ·
  obtain rfl : y = c := by simpa using hy
  exact (h.way z (List.mem_of_getElem? hz)).snoc hp
theorem Rch.end_ {ps : List Pr} {a b : Int} {Z : List Int} {i : Nat} (h : Rch ps a b Z i) (hi : Z.length ≤ i) : ¬ Way ps a b := by
 intro w
 have key : ∀ c, c ∈ Z → ∀ d, Way ps c d → d ∈ Z := by
  intro c hc d hw
  induction hw with
  | refl => exact hc
  | step m _ ih =>
   obtain ⟨t, ht⟩ := List.getElem?_of_mem hc
   exact ih (h.done t _ (by have := (List.getElem?_eq_some_iff.1 ht).1; omega) ht _ m)
 obtain ⟨t, ht⟩ := List.getElem?_of_mem (key a h.start b w)
 exact h.no t b (by have := (List.getElem?_eq_some_iff.1 ht).1; omega) ht rfl
end Go.Proofs.YtfgacmgjpikgaaaGreatDoor
namespace Go.Proofs.YtfgacmgjpikgaaaGreatDoor
open Go.RowKit Go.Shelf
attribute [local go_sem] Oper.semAt_some
def ColI (W : World) (base : Nat) (v : Value) (ys : List Int) : Prop := W.ownsRow base 3 1 v ys.length (i64s ys)
theorem ColI.own {W W' : World} {row : Option Nat} {base : Nat} {v : Value} {ys : List Int} (h : ColI W base v ys) (hg : W.grownBy W' row) (hr : ∀ r, row = some r → ∃ o : Obj, W.heap[r]? = some o ∧ o.isCells = false) : ColI W' base v ys := by
 unfold ColI at h ⊢
 refine h.kept hg ?_
 rcases h.2 with ⟨rfl, _⟩ | ⟨g, cap, cur, rfl, _, hgg, _⟩
 ·
  exact .inl rfl
 ·
  refine .inr fun e' => ?_
  obtain ⟨o, ho, hc⟩ := hr g (by rw [← e']; rfl)
  rw [hgg] at ho
  injection ho with ho
  subst ho
  cases hc
end Go.Proofs.YtfgacmgjpikgaaaGreatDoor
