/- BodiesDiffer: a body that differs in one field from another one is not equal to it. No condition. -/
import Derived.Test.YtbdimnncobpfdaaGreatBodU
import Derived.Test.YtbdimnncobpfdaaGreatAlive09
import Derived.Test.YtbdimnncobpfdaaGreatBodP
import Derived.Test.YtbdimnncobpfdaaGreatRows
import Derived.Test.YtbdimnncobpfdaaGreatOpenB
import Derived.SizedLaws
import Derived.Test.YtbdimnncobpfdaaGreatBodH
set_option linter.unusedVariables false
set_option linter.unusedSimpArgs false
namespace Go.Proofs.YtbdimnncobpfdaaGreat.bodiesDiffer
open Go.ChangeShapes Go.WideShapes Go.ChangeAt Go.ChangeMaps Go.RowKit Go.Shelf

theorem wrap_ne9 {a : Int} (h : IntR a) : a ≠ wrap64 (a + 1) := by
  have h1 := h.1
  have h2 := h.2
  unfold wrap64
  omega
theorem wrap_R9 (z : Int) : IntR (wrap64 z) := by
  have e : wrap64 z = IntKind.i64.wrap z := by
    unfold wrap64
    exact (IntKind.wrap_i64 z).symm
  rw [e]
  exact wrap_R z
/-- bodies that differ in a measure are not equal -/
theorem ne_by {α : Type} (f : BdV → α) {x y : BdW} (h : f x.v ≠ f y.v) : eqBd x y = false ∧ eqBd y x = false := ⟨decide_eq_false fun e => h (congrArg f e), decide_eq_false fun e => h (congrArg f e.symm)⟩
theorem len_ne {α : Type} {l m : List α} {z : α} (h : m = l) : l.length ≠ (m ++ [z]).length := by
  rw [h, List.length_append]
  simp
/-- a row of cells that was just laid -/
theorem lit_cells {α : Type} (w : World) (f : α → List Value) {k : Nat} (hk : ∀ x, (f x).length = k) (z : α) (t : TypeId) : Cells (w.alloc (.cells (f z).toArray t)) (w.heap.size + 1) k f (some ⟨w.heap.size, 0, none⟩) 1 [z] := by
  have h := cells_new9 w f hk [z] t
  rw [show ([z].flatMap f) = f z by simp] at h
  exact h
theorem inner_str : Inner9 9 := ⟨by decide, by decide, by decide, by decide⟩
theorem inner_pair : Inner9 49 := ⟨by decide, by decide, by decide, by decide⟩
theorem inner_typ : Inner9 51 := ⟨by decide, by decide, by decide, by decide⟩
theorem inner_blk : Inner9 44 := ⟨by decide, by decide, by decide, by decide⟩
theorem inner_bod : Inner9 28 := ⟨by decide, by decide, by decide, by decide⟩
/-! the lists of a copy, behind a store to blocks of another type -/
section
variable {w w' : World} {lo B : Nat} {x : BdW} {e : TypeId} (hc : OwBd w lo x) (ho : OneBd w B x) (hk : KT e w w') (hi : Inner9 e)
include hc ho hk
theorem reg_kt (he : 9 ≠ e) : Strs w' w'.heap.size x.regions := own_sl cStr_len (by decide) (own_kt hc.regions hk he) ho.regions.all
theorem out_kt (he : 49 ≠ e) : SlH w' w'.heap.size 2 pV IntP x.outl := own_sl pV_len (by decide) (own_kt hc.outl hk he) ho.outl.all
theorem loc_kt (he : 54 ≠ e) : SlH w' w'.heap.size 2 cLc (fun y => IntR y.ty ∧ y.name.size ≤ maxLen) x.locals := own_sl cLc_len (by decide) (own_kt hc.locals hk he) ho.locals.all
include hi
theorem typ_all : ∀ t ∈ x.types.L, OneT w' w'.heap.size t := fun t ht => OneT.of_own (ho.types.all t ht) rfl (OwTy.kt hk hi (hc.types.all t ht))
theorem blk_all : ∀ b ∈ x.blocks.L, OneBk w' w'.heap.size b := fun b hb => OneBk.of_own (ho.blocks.all b hb) rfl (OwBk.kt hk hi (hc.blocks.all b hb))
theorem typ_kt (he : 51 ≠ e) : SlH w' w'.heap.size 5 c5 (OneT w' w'.heap.size) x.types := own_sl c5_len (by decide) (own_kt hc.types.row hk he) (typ_all hc ho hk hi)
theorem blk_kt (he : 44 ≠ e) : SlH w' w'.heap.size 7 cBk (OneBk w' w'.heap.size) x.blocks := own_sl cBk_len (by decide) (own_kt hc.blocks.row hk he) (blk_all hc ho hk hi)
end
theorem KT.trans9 {e : TypeId} {w w' w'' : World} (h : KT e w w') (hb : Below w.heap.size w w') (h' : KT e w' w'') : KT e w w'' := fun k cs e' fz hk he => by
  have h1 := h k cs e' fz hk he
  exact (h' k cs e' fz (h1.trans hk) he).trans h1
theorem KT.of_below9 {e : TypeId} {w w' : World} (h : Below w.heap.size w w') : KT e w w' := fun k cs e' fz hk _ => h.block k (Array.getElem?_eq_some_iff.1 hk).1

theorem str_add9 {s : ByteArray} (h : s.size ≤ 3000) : (s ++ ⟨#[120]⟩).size ≤ maxLen := by
  rw [ByteArray.size_append]
  have e : (⟨#[120]⟩ : ByteArray).size = 1 := rfl
  unfold maxLen
  omega
theorem str_ne9 (s : ByteArray) : s.size ≠ (s ++ ⟨#[120]⟩).size := by
  rw [ByteArray.size_append]
  have e : (⟨#[120]⟩ : ByteArray).size = 1 := rfl
  omega
theorem map_ne9 {α β : Type} {l m : List α} {z : α} {f : α → β} (h : m.length = l.length) : (l.map f).length ≠ ((m ++ [z]).map f).length := by
  rw [List.length_map, List.length_map, List.length_append, h]
  simp
theorem add9 {α : Type} {Q : α → Prop} {L : List α} {z : α} (h : ∀ x ∈ L, Q x) (hz : Q z) : ∀ x ∈ L ++ [z], Q x := fun x hx => (List.mem_append.1 hx).elim (h x) fun h => by
  obtain rfl := List.mem_singleton.1 h
  exact hz
theorem pr9 : IntP ((0, 1) : Pr) := ⟨int9 (by decide), int9 (by decide)⟩
abbrev bk0 : BkW := ⟨⟨none, 0, 0, []⟩, ⟨0, ⟨none, 0, 0, []⟩, ⟨none, 0, 0, []⟩, ⟨0, none, 0, 0, []⟩, .empty⟩⟩
abbrev ty0 : TyW := ⟨⟨0, false, 0, 0, []⟩, none, 0, 0⟩
theorem bk0_one (w : World) (B : Nat) : OneBk w B bk0 := ⟨slH_nil9 _ _ _ _ _, int9 (by decide), slH_nil9 _ _ _ _ _, slH_nil9 _ _ _ _ _, onePl_nil9 _ _, by decide⟩
theorem bk0_own (w : World) (lo : Nat) : OwBk w lo bk0 := ⟨⟨World.ownsRow_nil _ _ _ _, fun s hs => by cases hs⟩, ⟨World.ownsRow_nil _ _ _ _, ⟨World.ownsRow_nil _ _ _ _, fun s hs => by cases hs⟩, World.ownsRow_nil _ _ _ _⟩⟩
theorem ty0_one (w : World) (B : Nat) : OneT w B ty0 := ⟨⟨Nat.le_refl _, Nat.zero_le _, rfl, int9 (by decide), int9 (by decide), int9 (by decide), fun y hy => by cases hy⟩, Ints.rd (s := ⟨none, 0, 0, []⟩) (slH_nil9 _ _ _ _ _)⟩
theorem ty0_own (w : World) (lo : Nat) : OwTy w lo ty0 := World.ownsRow_nil _ _ _ _
theorem OneBd.set9 {w : World} {lo B g : Nat} {x : BdW} {cs : List Value} (hc : OwBd w lo x) (ho : OneBd w B x) (hx : Bx w g cs 28) (j : Nat) (u : Value) : OneBd (w.setCell ⟨g, j, none⟩ u) (w.setCell ⟨g, j, none⟩ u).heap.size x := by
  have hk := KT.of_set hx j u
  exact ⟨ho.name, reg_kt hc ho hk (by decide), out_kt hc ho hk (by decide), typ_kt hc ho hk inner_bod (by decide), loc_kt hc ho hk (by decide), ho.args, blk_kt hc ho hk inner_bod (by decide)⟩
section
variable {w w' : World} {lo B : Nat} {nm : ByteArray} {r : SlW ByteArray} {o : SlW Pr} {t : SlW TyW} {l : SlW LcW} {a : Int} {b : SlW BkW} (hc : OwBd w lo ⟨nm, r, o, t, l, a, b⟩) (ho : OneBd w B ⟨nm, r, o, t, l, a, b⟩)
include hc ho
theorem app_reg (hk : KT 9 w w') {A : Option Addr} {n c : Nat} {z : ByteArray} (h : w'.ownsRow lo 9 1 (.slice A n c) n (r.L.flatMap cStr ++ [z].flatMap cStr)) (hz : z.size ≤ maxLen) : OwBd w' lo ⟨nm, ⟨A, n, c, r.L ++ [z]⟩, o, t, l, a, b⟩ ∧ OneBd w' w'.heap.size ⟨nm, ⟨A, n, c, r.L ++ [z]⟩, o, t, l, a, b⟩ := by
  rw [← List.flatMap_append] at h
  exact ⟨⟨h, own_kt hc.outl hk (by decide), ⟨own_kt hc.types.row hk (by decide), fun t ht => OwTy.kt hk inner_str (hc.types.all t ht)⟩, own_kt hc.locals hk (by decide), ⟨own_kt hc.blocks.row hk (by decide), fun b hb => OwBk.kt hk inner_str (hc.blocks.all b hb)⟩⟩,
    ho.name, own_sl (s := ⟨A, n, c, r.L ++ [z]⟩) cStr_len (by decide) h (add9 ho.regions.all hz), out_kt (x := ⟨nm, r, o, t, l, a, b⟩) hc ho hk (by decide), typ_kt (x := ⟨nm, r, o, t, l, a, b⟩) hc ho hk inner_str (by decide), loc_kt (x := ⟨nm, r, o, t, l, a, b⟩) hc ho hk (by decide), ho.args, blk_kt (x := ⟨nm, r, o, t, l, a, b⟩) hc ho hk inner_str (by decide)⟩
theorem app_out (hk : KT 49 w w') {A : Option Addr} {n c : Nat} {z : Pr} (h : w'.ownsRow lo 49 2 (.slice A n c) n (o.L.flatMap pV ++ [z].flatMap pV)) (hz : IntP z) : OwBd w' lo ⟨nm, r, ⟨A, n, c, o.L ++ [z]⟩, t, l, a, b⟩ ∧ OneBd w' w'.heap.size ⟨nm, r, ⟨A, n, c, o.L ++ [z]⟩, t, l, a, b⟩ := by
  rw [← List.flatMap_append] at h
  exact ⟨⟨own_kt hc.regions hk (by decide), h, ⟨own_kt hc.types.row hk (by decide), fun t ht => OwTy.kt hk inner_pair (hc.types.all t ht)⟩, own_kt hc.locals hk (by decide), ⟨own_kt hc.blocks.row hk (by decide), fun b hb => OwBk.kt hk inner_pair (hc.blocks.all b hb)⟩⟩,
    ho.name, reg_kt (x := ⟨nm, r, o, t, l, a, b⟩) hc ho hk (by decide), own_sl (s := ⟨A, n, c, o.L ++ [z]⟩) pV_len (by decide) h (add9 ho.outl.all hz), typ_kt (x := ⟨nm, r, o, t, l, a, b⟩) hc ho hk inner_pair (by decide), loc_kt (x := ⟨nm, r, o, t, l, a, b⟩) hc ho hk (by decide), ho.args, blk_kt (x := ⟨nm, r, o, t, l, a, b⟩) hc ho hk inner_pair (by decide)⟩
theorem app_blk (hk : KT 44 w w') {A : Option Addr} {n c : Nat} {z : BkW} (h : w'.ownsRow lo 44 7 (.slice A n c) n (b.L.flatMap cBk ++ [z].flatMap cBk)) (hz : OwBk w' lo z) (hz1 : OneBk w' w'.heap.size z) : OwBd w' lo ⟨nm, r, o, t, l, a, ⟨A, n, c, b.L ++ [z]⟩⟩ ∧ OneBd w' w'.heap.size ⟨nm, r, o, t, l, a, ⟨A, n, c, b.L ++ [z]⟩⟩ := by
  rw [← List.flatMap_append] at h
  exact ⟨⟨own_kt hc.regions hk (by decide), own_kt hc.outl hk (by decide), ⟨own_kt hc.types.row hk (by decide), fun t ht => OwTy.kt hk inner_blk (hc.types.all t ht)⟩, own_kt hc.locals hk (by decide), ⟨h, add9 (fun b hb => OwBk.kt hk inner_blk (hc.blocks.all b hb)) hz⟩⟩,
    ho.name, reg_kt (x := ⟨nm, r, o, t, l, a, b⟩) hc ho hk (by decide), out_kt (x := ⟨nm, r, o, t, l, a, b⟩) hc ho hk (by decide), typ_kt (x := ⟨nm, r, o, t, l, a, b⟩) hc ho hk inner_blk (by decide), loc_kt (x := ⟨nm, r, o, t, l, a, b⟩) hc ho hk (by decide), ho.args, own_sl (s := ⟨A, n, c, b.L ++ [z]⟩) cBk_len (by decide) h (add9 (blk_all (x := ⟨nm, r, o, t, l, a, b⟩) hc ho hk inner_blk) hz1)⟩
theorem app_typ (hk : KT 51 w w') {A : Option Addr} {n c : Nat} {z : TyW} (h : w'.ownsRow lo 51 5 (.slice A n c) n (t.L.flatMap c5 ++ [z].flatMap c5)) (hz : OwTy w' lo z) (hz1 : OneT w' w'.heap.size z) : OwBd w' lo ⟨nm, r, o, ⟨A, n, c, t.L ++ [z]⟩, l, a, b⟩ ∧ OneBd w' w'.heap.size ⟨nm, r, o, ⟨A, n, c, t.L ++ [z]⟩, l, a, b⟩ := by
  rw [← List.flatMap_append] at h
  exact ⟨⟨own_kt hc.regions hk (by decide), own_kt hc.outl hk (by decide), ⟨h, add9 (fun t ht => OwTy.kt hk inner_typ (hc.types.all t ht)) hz⟩, own_kt hc.locals hk (by decide), ⟨own_kt hc.blocks.row hk (by decide), fun b hb => OwBk.kt hk inner_typ (hc.blocks.all b hb)⟩⟩,
    ho.name, reg_kt (x := ⟨nm, r, o, t, l, a, b⟩) hc ho hk (by decide), out_kt (x := ⟨nm, r, o, t, l, a, b⟩) hc ho hk (by decide), own_sl (s := ⟨A, n, c, t.L ++ [z]⟩) c5_len (by decide) h (add9 (typ_all (x := ⟨nm, r, o, t, l, a, b⟩) hc ho hk inner_typ) hz1), loc_kt (x := ⟨nm, r, o, t, l, a, b⟩) hc ho hk (by decide), ho.args, blk_kt (x := ⟨nm, r, o, t, l, a, b⟩) hc ho hk inner_typ (by decide)⟩
end
set_option maxHeartbeats 4000000 in
set_option maxRecDepth 100000 in
theorem walk (x0 : BdW) (a1 : Int) (w : World) (h0 : OneBd w w.heap.size x0) (h1 : 0 ≤ a1 ∧ a1 ≤ 255) (s0 : FitBd x0) :
    Calls Tryz.prog 7 #[aggBd x0, .int .u8 a1] w fun e w' => e = .returned (.bool true) ∧ Below w.heap.size w w' := by
  have HB := hide (bd1_below w x0)
  have HX := hide (h0.up HB.out)
  have HFX := hide s0
  have HRM := hide (show x0.name ∈ allS x0.v from by
    unfold allS BdW.v
    simp)
  have har := h0.args
  have hs := hide fun (w' : World) (h : Below (bd1 w x0).heap.size (bd1 w x0) w') => bd1_cells h
  clear h0 s0
  obtain ⟨nm, ⟨rA, rn, rc, rL⟩, ⟨oA, on, oc, oL⟩, ⟨tA, tn, tc, tL⟩, ⟨lA, ln, lc, lL⟩, ar, ⟨bA, bn, bc, bL⟩⟩ := x0
  simp only [] at har
  have HAR := hide har
  clear har
  have hc := hide fun (w' : World) (h : Below (bd1 w ⟨nm, ⟨rA, rn, rc, rL⟩, ⟨oA, on, oc, oL⟩, ⟨tA, tn, tc, tL⟩, ⟨lA, ln, lc, lL⟩, ar, ⟨bA, bn, bc, bL⟩⟩).heap.size (bd1 w ⟨nm, ⟨rA, rn, rc, rL⟩, ⟨oA, on, oc, oL⟩, ⟨tA, tn, tc, tL⟩, ⟨lA, ln, lc, lL⟩, ar, ⟨bA, bn, bc, bL⟩⟩) w') => (show w'.cell? ⟨w.heap.size, 0, none⟩ = some (.string nm) ∧ w'.cell? ⟨w.heap.size, 1, none⟩ = some (.slice rA rn rc) ∧ w'.cell? ⟨w.heap.size, 2, none⟩ = some (.slice oA on oc) ∧ w'.cell? ⟨w.heap.size, 3, none⟩ = some (.slice tA tn tc) ∧ w'.cell? ⟨w.heap.size, 4, none⟩ = some (.slice lA ln lc) ∧ w'.cell? ⟨w.heap.size, 5, none⟩ = some (.int .i64 ar) ∧ w'.cell? ⟨w.heap.size, 6, none⟩ = some (.slice bA bn bc) from ⟨hs.out w' h 0 _ rfl, hs.out w' h 1 _ rfl, hs.out w' h 2 _ rfl, hs.out w' h 3 _ rfl, hs.out w' h 4 _ rfl, hs.out w' h 5 _ rfl, hs.out w' h 6 _ rfl⟩)
  go_enter Tryz.func7, Tryz.ntmps7
  go_wp2_with fail
  refine (Large9_any ⟨nm, ⟨rA, rn, rc, rL⟩, ⟨oA, on, oc, oL⟩, ⟨tA, tn, tc, tL⟩, ⟨lA, ln, lc, lL⟩, ar, ⟨bA, bn, bc, bL⟩⟩ _ HX.out HFX.out).mono ?_
  rintro e1 w1 ⟨hb1, h⟩
  have HW1 := hide (show Below (bd1 w ⟨nm, ⟨rA, rn, rc, rL⟩, ⟨oA, on, oc, oL⟩, ⟨tA, tn, tc, tL⟩, ⟨lA, ln, lc, lL⟩, ar, ⟨bA, bn, bc, bL⟩⟩).heap.size (bd1 w ⟨nm, ⟨rA, rn, rc, rL⟩, ⟨oA, on, oc, oL⟩, ⟨tA, tn, tc, tL⟩, ⟨lA, ln, lc, lL⟩, ar, ⟨bA, bn, bc, bL⟩⟩) w1 from hb1)
  rcases h with rfl | ⟨rfl, hok⟩
  · go_wp2_with fail
    refine (alive09_any _).mono ?_
    rintro e2 w2 ⟨rfl, hb2⟩
    have HW2 := hide (HW1.out.trans (hb2.mono HW1.out.size))
    clear hb1 hb2
    go_wp2
    go_ret
    exact ⟨rfl, HB.out.trans (HW2.out.mono HB.out.size)⟩
  have HOK := hide hok
  obtain ⟨bx0, bx1, bx2, bx3, bx4, bx5, bx6⟩ := hc.out _ HW1.out
  clear hok hb1
  go_wp2_with fail
  refine (CloneBd_any ⟨nm, ⟨rA, rn, rc, rL⟩, ⟨oA, on, oc, oL⟩, ⟨tA, tn, tc, tL⟩, ⟨lA, ln, lc, lL⟩, ar, ⟨bA, bn, bc, bL⟩⟩ _ (HX.out.up HW1.out) HOK.out.sm).mono ?_
  rintro e2 w2 ⟨⟨nm1, ⟨rA1, rn1, rc1, rL1⟩, ⟨oA1, on1, oc1, oL1⟩, ⟨tA1, tn1, tc1, tL1⟩, ⟨lA1, ln1, lc1, lL1⟩, ar1, ⟨bA1, bn1, bc1, bL1⟩⟩, h9, hcv, hco, hb2⟩
  obtain rfl : e2 = .returned (.agg #[.string nm1, .slice rA1 rn1 rc1, .slice oA1 on1 oc1, .slice tA1 tn1 tc1, .slice lA1 ln1 lc1, .int .i64 ar1, .slice bA1 bn1 bc1]) := h9
  have HCV := hide hcv
  have hnm : nm = nm1 := (congrArg BdV.name hcv).symm
  have harr : ar = ar1 := (congrArg BdV.args hcv).symm
  subst hnm harr
  have HRG := hide (show rL1 = rL from congrArg BdV.regions hcv)
  have HOG := hide (show oL1 = oL from congrArg BdV.outl hcv)
  have HBG := hide (show bL1.length = bL.length from by
    have := congrArg (fun v : BdV => v.blocks.length) hcv
    simpa [BdW.v] using this)
  have HTG := hide (show tL1.length = tL.length from by
    have := congrArg (fun v : BdV => v.types.length) hcv
    simpa [BdW.v, tys] using this)
  have HW2 := hide (HW1.out.trans (hb2.mono HW1.out.size))
  have HV2 := hide (HW2.out.alloc HW2.out.size (.cells #[.string nm, .slice rA1 rn1 rc1, .slice oA1 on1 oc1, .slice tA1 tn1 tc1, .slice lA1 ln1 lc1, .int .i64 ar, .slice bA1 bn1 bc1] 28))
  have hb2v := (Below.refl w2.heap.size w2).alloc (Nat.le_refl _) (.cells #[.string nm, .slice rA1 rn1 rc1, .slice oA1 on1 oc1, .slice tA1 tn1 tc1, .slice lA1 ln1 lc1, .int .i64 ar, .slice bA1 bn1 bc1] 28)
  have HOC := hide ((OneBd.of_own (HX.out.up HW1.out) hcv hco).up hb2v)
  have HCO := hide (hco.keep (Keep.of_below hb2v))
  have HLO := hide (Nat.le_trans hb2.size hb2v.size)
  have HXC := hide (Bx.new w2 [.string nm, .slice rA1 rn1 rc1, .slice oA1 on1 oc1, .slice tA1 tn1 tc1, .slice lA1 ln1 lc1, .int .i64 ar, .slice bA1 bn1 bc1] 28)
  obtain ⟨g5, hg5⟩ : ∃ g, w2.heap.size = g := ⟨_, rfl⟩
  have HG5 := hide hg5
  have hg1 : w1.heap.size ≤ g5 := hg5 ▸ hb2.size
  clear hcv hco hb2 hb2v hg5 bx0 bx1 bx2 bx3 bx4 bx5 bx6
  obtain ⟨bx0, bx1, bx2, bx3, bx4, bx5, bx6⟩ := hc.out _ HV2.out
  have cf0 := HXC.out.cell (j := 0) rfl
  have cf1 := HXC.out.cell (j := 1) rfl
  have cf2 := HXC.out.cell (j := 2) rfl
  have cf3 := HXC.out.cell (j := 3) rfl
  have cf4 := HXC.out.cell (j := 4) rfl
  have cf5 := HXC.out.cell (j := 5) rfl
  have cf6 := HXC.out.cell (j := 6) rfl
  go_wp2_with fail
  refine (REqBd_is (x := ⟨nm, ⟨rA, rn, rc, rL⟩, ⟨oA, on, oc, oL⟩, ⟨tA, tn, tc, tL⟩, ⟨lA, ln, lc, lL⟩, ar, ⟨bA, bn, bc, bL⟩⟩) (y := ⟨nm, ⟨rA1, rn1, rc1, rL1⟩, ⟨oA1, on1, oc1, oL1⟩, ⟨tA1, tn1, tc1, tL1⟩, ⟨lA1, ln1, lc1, lL1⟩, ar, ⟨bA1, bn1, bc1, bL1⟩⟩) (decide_eq_true HCV.out.symm) _ (HX.out.up HV2.out) HOC.out).mono ?_
  rintro e3 w3 ⟨rfl, hb3⟩
  have HW3 := hide (HV2.out.trans (hb3.mono HV2.out.size))
  have HXC3 := hide (show Bx w3 g5 [.string nm, .slice rA1 rn1 rc1, .slice oA1 on1 oc1, .slice tA1 tn1 tc1, .slice lA1 ln1 lc1, .int .i64 ar, .slice bA1 bn1 bc1] 28 from HG5.out ▸ HXC.out.below hb3)
  have HOC3 := hide (HOC.out.up hb3)
  have HCO3 := hide (HCO.out.keep (Keep.of_below hb3))
  have HLO3 := hide (Nat.le_trans HLO.out hb3.size)
  rw [HG5.out]
  clear hb3 bx0 bx1 bx2 bx3 bx4 bx5 bx6 cf0 cf1 cf2 cf3 cf4 cf5 cf6 HOC HCO HXC
  have hcase : a1.tmod 6 = 0 ∨ a1.tmod 6 = 1 ∨ a1.tmod 6 = 2 ∨ a1.tmod 6 = 3 ∨ a1.tmod 6 = 4 ∨ a1.tmod 6 = 5 := by
    rw [Int.tmod_eq_emod_of_nonneg h1.1]
    omega
  rcases hcase with htm | htm | htm | htm | htm | htm
  · have cf0 := HXC3.out.cell (j := 0) rfl
    have ff0 := HXC3.out.frozen 0
    have hs0 : nm.size ≤ 3000 := HOK.out.nm nm HRM.out
    go_wp2_with fail
    have HXC4 := hide (show Bx (w3.setCell ⟨g5, 0, none⟩ (.string (nm ++ (⟨#[120]⟩ : ByteArray)))) g5 [.string (nm ++ (⟨#[120]⟩ : ByteArray)), .slice rA1 rn1 rc1, .slice oA1 on1 oc1, .slice tA1 tn1 tc1, .slice lA1 ln1 lc1, .int .i64 ar, .slice bA1 bn1 bc1] 28 from HXC3.out.set 0 _)
    have HW4 := hide (HW3.out.setCell (p := ⟨g5, 0, none⟩) (Nat.le_trans HW1.out.size hg1) (.string (nm ++ (⟨#[120]⟩ : ByteArray))))
    have HOC4 := hide (OneBd.set9 (x := ⟨(nm ++ (⟨#[120]⟩ : ByteArray)), ⟨rA1, rn1, rc1, rL1⟩, ⟨oA1, on1, oc1, oL1⟩, ⟨tA1, tn1, tc1, tL1⟩, ⟨lA1, ln1, lc1, lL1⟩, ar, ⟨bA1, bn1, bc1, bL1⟩⟩) ⟨HCO3.out.regions, HCO3.out.outl, HCO3.out.types, HCO3.out.locals, HCO3.out.blocks⟩ ⟨str_add9 hs0, HOC3.out.regions, HOC3.out.outl, HOC3.out.types, HOC3.out.locals, HOC3.out.args, HOC3.out.blocks⟩ HXC3.out 0 (.string (nm ++ (⟨#[120]⟩ : ByteArray))))
    have HNE := hide (ne_by (x := ⟨nm, ⟨rA, rn, rc, rL⟩, ⟨oA, on, oc, oL⟩, ⟨tA, tn, tc, tL⟩, ⟨lA, ln, lc, lL⟩, ar, ⟨bA, bn, bc, bL⟩⟩) (y := ⟨(nm ++ (⟨#[120]⟩ : ByteArray)), ⟨rA1, rn1, rc1, rL1⟩, ⟨oA1, on1, oc1, oL1⟩, ⟨tA1, tn1, tc1, tL1⟩, ⟨lA1, ln1, lc1, lL1⟩, ar, ⟨bA1, bn1, bc1, bL1⟩⟩) (fun v => v.name.size) (str_ne9 nm))
    clear cf0 ff0
    refine (alive09_any _).mono ?_
    rintro e4 w5 ⟨rfl, hb5⟩
    have HW5 := hide (HW4.out.trans (hb5.mono HW4.out.size))
    have HXC5 := hide (HXC4.out.below hb5)
    have HOC5 := hide (HOC4.out.up hb5)
    clear hb5
    obtain ⟨bx0, bx1, bx2, bx3, bx4, bx5, bx6⟩ := hc.out _ HW5.out
    have cf0 := HXC5.out.cell (j := 0) rfl
    have cf1 := HXC5.out.cell (j := 1) rfl
    have cf2 := HXC5.out.cell (j := 2) rfl
    have cf3 := HXC5.out.cell (j := 3) rfl
    have cf4 := HXC5.out.cell (j := 4) rfl
    have cf5 := HXC5.out.cell (j := 5) rfl
    have cf6 := HXC5.out.cell (j := 6) rfl
    go_wp2_with fail
    refine (EqBd_is (x := ⟨nm, ⟨rA, rn, rc, rL⟩, ⟨oA, on, oc, oL⟩, ⟨tA, tn, tc, tL⟩, ⟨lA, ln, lc, lL⟩, ar, ⟨bA, bn, bc, bL⟩⟩) (y := ⟨(nm ++ (⟨#[120]⟩ : ByteArray)), ⟨rA1, rn1, rc1, rL1⟩, ⟨oA1, on1, oc1, oL1⟩, ⟨tA1, tn1, tc1, tL1⟩, ⟨lA1, ln1, lc1, lL1⟩, ar, ⟨bA1, bn1, bc1, bL1⟩⟩) HNE.out.1 _ (HX.out.up HW5.out) HOC5.out).mono ?_
    rintro e5 w6 ⟨rfl, hb6⟩
    have HW6 := hide (HW5.out.trans (hb6.mono HW5.out.size))
    have HXC6 := hide (HXC5.out.below hb6)
    have HOC6 := hide (HOC5.out.up hb6)
    clear hb6 bx0 bx1 bx2 bx3 bx4 bx5 bx6 cf0 cf1 cf2 cf3 cf4 cf5 cf6
    obtain ⟨bx0, bx1, bx2, bx3, bx4, bx5, bx6⟩ := hc.out _ HW6.out
    have cf0 := HXC6.out.cell (j := 0) rfl
    have cf1 := HXC6.out.cell (j := 1) rfl
    have cf2 := HXC6.out.cell (j := 2) rfl
    have cf3 := HXC6.out.cell (j := 3) rfl
    have cf4 := HXC6.out.cell (j := 4) rfl
    have cf5 := HXC6.out.cell (j := 5) rfl
    have cf6 := HXC6.out.cell (j := 6) rfl
    go_wp2_with fail
    refine (EqBd_is (x := ⟨(nm ++ (⟨#[120]⟩ : ByteArray)), ⟨rA1, rn1, rc1, rL1⟩, ⟨oA1, on1, oc1, oL1⟩, ⟨tA1, tn1, tc1, tL1⟩, ⟨lA1, ln1, lc1, lL1⟩, ar, ⟨bA1, bn1, bc1, bL1⟩⟩) (y := ⟨nm, ⟨rA, rn, rc, rL⟩, ⟨oA, on, oc, oL⟩, ⟨tA, tn, tc, tL⟩, ⟨lA, ln, lc, lL⟩, ar, ⟨bA, bn, bc, bL⟩⟩) HNE.out.2 _ HOC6.out (HX.out.up HW6.out)).mono ?_
    rintro e6 w7 ⟨rfl, hb7⟩
    have HW7 := hide (HW6.out.trans (hb7.mono HW6.out.size))
    clear hb7 bx0 bx1 bx2 bx3 bx4 bx5 bx6 cf0 cf1 cf2 cf3 cf4 cf5 cf6
    go_wp2
    go_ret
    exact ⟨rfl, HB.out.trans (HW7.out.mono HB.out.size)⟩
  · have cf5 := HXC3.out.cell (j := 5) rfl
    have ff5 := HXC3.out.frozen 5
    go_wp2_with fail
    have HXC4 := hide (show Bx (w3.setCell ⟨g5, 5, none⟩ (.int .i64 (wrap64 (ar + 1)))) g5 [.string nm, .slice rA1 rn1 rc1, .slice oA1 on1 oc1, .slice tA1 tn1 tc1, .slice lA1 ln1 lc1, .int .i64 (wrap64 (ar + 1)), .slice bA1 bn1 bc1] 28 from HXC3.out.set 5 _)
    have HW4 := hide (HW3.out.setCell (p := ⟨g5, 5, none⟩) (Nat.le_trans HW1.out.size hg1) (.int .i64 (wrap64 (ar + 1))))
    have HOC4 := hide (OneBd.set9 (x := ⟨nm, ⟨rA1, rn1, rc1, rL1⟩, ⟨oA1, on1, oc1, oL1⟩, ⟨tA1, tn1, tc1, tL1⟩, ⟨lA1, ln1, lc1, lL1⟩, (wrap64 (ar + 1)), ⟨bA1, bn1, bc1, bL1⟩⟩) ⟨HCO3.out.regions, HCO3.out.outl, HCO3.out.types, HCO3.out.locals, HCO3.out.blocks⟩ ⟨HOC3.out.name, HOC3.out.regions, HOC3.out.outl, HOC3.out.types, HOC3.out.locals, wrap_R9 _, HOC3.out.blocks⟩ HXC3.out 5 (.int .i64 (wrap64 (ar + 1))))
    have HNE := hide (ne_by (x := ⟨nm, ⟨rA, rn, rc, rL⟩, ⟨oA, on, oc, oL⟩, ⟨tA, tn, tc, tL⟩, ⟨lA, ln, lc, lL⟩, ar, ⟨bA, bn, bc, bL⟩⟩) (y := ⟨nm, ⟨rA1, rn1, rc1, rL1⟩, ⟨oA1, on1, oc1, oL1⟩, ⟨tA1, tn1, tc1, tL1⟩, ⟨lA1, ln1, lc1, lL1⟩, (wrap64 (ar + 1)), ⟨bA1, bn1, bc1, bL1⟩⟩) (fun v => v.args) (wrap_ne9 HAR.out))
    clear cf5 ff5
    refine (alive09_any _).mono ?_
    rintro e4 w5 ⟨rfl, hb5⟩
    have HW5 := hide (HW4.out.trans (hb5.mono HW4.out.size))
    have HXC5 := hide (HXC4.out.below hb5)
    have HOC5 := hide (HOC4.out.up hb5)
    clear hb5
    obtain ⟨bx0, bx1, bx2, bx3, bx4, bx5, bx6⟩ := hc.out _ HW5.out
    have cf0 := HXC5.out.cell (j := 0) rfl
    have cf1 := HXC5.out.cell (j := 1) rfl
    have cf2 := HXC5.out.cell (j := 2) rfl
    have cf3 := HXC5.out.cell (j := 3) rfl
    have cf4 := HXC5.out.cell (j := 4) rfl
    have cf5 := HXC5.out.cell (j := 5) rfl
    have cf6 := HXC5.out.cell (j := 6) rfl
    go_wp2_with fail
    refine (EqBd_is (x := ⟨nm, ⟨rA, rn, rc, rL⟩, ⟨oA, on, oc, oL⟩, ⟨tA, tn, tc, tL⟩, ⟨lA, ln, lc, lL⟩, ar, ⟨bA, bn, bc, bL⟩⟩) (y := ⟨nm, ⟨rA1, rn1, rc1, rL1⟩, ⟨oA1, on1, oc1, oL1⟩, ⟨tA1, tn1, tc1, tL1⟩, ⟨lA1, ln1, lc1, lL1⟩, (wrap64 (ar + 1)), ⟨bA1, bn1, bc1, bL1⟩⟩) HNE.out.1 _ (HX.out.up HW5.out) HOC5.out).mono ?_
    rintro e5 w6 ⟨rfl, hb6⟩
    have HW6 := hide (HW5.out.trans (hb6.mono HW5.out.size))
    have HXC6 := hide (HXC5.out.below hb6)
    have HOC6 := hide (HOC5.out.up hb6)
    clear hb6 bx0 bx1 bx2 bx3 bx4 bx5 bx6 cf0 cf1 cf2 cf3 cf4 cf5 cf6
    obtain ⟨bx0, bx1, bx2, bx3, bx4, bx5, bx6⟩ := hc.out _ HW6.out
    have cf0 := HXC6.out.cell (j := 0) rfl
    have cf1 := HXC6.out.cell (j := 1) rfl
    have cf2 := HXC6.out.cell (j := 2) rfl
    have cf3 := HXC6.out.cell (j := 3) rfl
    have cf4 := HXC6.out.cell (j := 4) rfl
    have cf5 := HXC6.out.cell (j := 5) rfl
    have cf6 := HXC6.out.cell (j := 6) rfl
    go_wp2_with fail
    refine (EqBd_is (x := ⟨nm, ⟨rA1, rn1, rc1, rL1⟩, ⟨oA1, on1, oc1, oL1⟩, ⟨tA1, tn1, tc1, tL1⟩, ⟨lA1, ln1, lc1, lL1⟩, (wrap64 (ar + 1)), ⟨bA1, bn1, bc1, bL1⟩⟩) (y := ⟨nm, ⟨rA, rn, rc, rL⟩, ⟨oA, on, oc, oL⟩, ⟨tA, tn, tc, tL⟩, ⟨lA, ln, lc, lL⟩, ar, ⟨bA, bn, bc, bL⟩⟩) HNE.out.2 _ HOC6.out (HX.out.up HW6.out)).mono ?_
    rintro e6 w7 ⟨rfl, hb7⟩
    have HW7 := hide (HW6.out.trans (hb7.mono HW6.out.size))
    clear hb7 bx0 bx1 bx2 bx3 bx4 bx5 bx6 cf0 cf1 cf2 cf3 cf4 cf5 cf6
    go_wp2
    go_ret
    exact ⟨rfl, HB.out.trans (HW7.out.mono HB.out.size)⟩
  · have cf1 := HXC3.out.cell (j := 1) rfl
    have ff1 := HXC3.out.frozen 1
    obtain ⟨i0, hi, hz0, hz1, hz2⟩ := info_parts info9Str
    have hbv := (Below.refl w3.heap.size w3).alloc (Nat.le_refl _) (.cells #[.string ⟨#[120]⟩] 9)
    have HVB := hide hbv
    have HOWN := hide (own_keep HCO3.out.regions (Keep.of_below hbv))
    have hsz9 : w1.heap.size ≤ (w3.alloc (.cells #[.string ⟨#[120]⟩] 9)).heap.size := Nat.le_trans HLO3.out hbv.size
    have HLT := hide (lit_cells w3 cStr cStr_len ⟨#[120]⟩ 9)
    have hn9 : rn1 ≤ 2 ^ 39 := by
      have h1 : rL1.length = rn1 := HOC3.out.regions.len
      have h2 : rL.length = rn := HX.out.regions.len
      have h3 : rn ≤ 2 ^ 39 := HOK.out.sm.regions
      have h4 : rL1.length = rL.length := congrArg List.length HRG.out
      omega
    clear hbv
    go_wp2_with (at_builtin; refine wpList_append_cells (w3.alloc (.cells #[.string ⟨#[120]⟩] 9)) rfl (.tmp 33) (.tmp 34) 22 rfl cStr_len (by decide) cStr_one w1.heap.size 9 i0 _ 16 Tryz.underlying22 hi hz0 hz1 hz2 rfl _ rn1 (rL1.flatMap cStr) rfl HOWN.out _ (some ⟨w3.heap.size, 0, none⟩) 1 1 [⟨#[120]⟩] rfl HLT.out (by unfold maxLen; omega) (by omega) hsz9 ?_; intro v5 w5 hown5 hg5 hat5; obtain ⟨A5, k5, rfl⟩ := own_slice9 hown5; have hkg := KT.of_grown hg5 HOWN.out; have HXC5 := hide (Bx.kt (HXC3.out.below HVB.out) hkg (by decide)); have HW5 := hide (below_app (HW3.out.trans (HVB.out.mono HW3.out.size)) (ownsRow_base HOWN.out HW1.out.size) (Nat.le_trans HW1.out.size hsz9) hg5); have HAP := hide (app_reg HCO3.out HOC3.out (KT.trans9 (KT.of_below9 HVB.out) HVB.out hkg) hown5 (show (1 : Nat) ≤ maxLen by decide)); have cf1 := HXC5.out.cell (j := 1) rfl; have ff1 := HXC5.out.frozen 1; clear hown5 hg5 hat5 hkg)
    have HXC4 := hide (show Bx (w5.setCell ⟨g5, 1, none⟩ (.slice A5 (rn1 + 1) k5)) g5 [.string nm, .slice A5 (rn1 + 1) k5, .slice oA1 on1 oc1, .slice tA1 tn1 tc1, .slice lA1 ln1 lc1, .int .i64 ar, .slice bA1 bn1 bc1] 28 from HXC5.out.set 1 _)
    have HW4 := hide (HW5.out.setCell (p := ⟨g5, 1, none⟩) (Nat.le_trans HW1.out.size hg1) (.slice A5 (rn1 + 1) k5))
    have HOC4 := hide (OneBd.set9 HAP.out.1 HAP.out.2 HXC5.out 1 (.slice A5 (rn1 + 1) k5))
    have HNE := hide (ne_by (x := ⟨nm, ⟨rA, rn, rc, rL⟩, ⟨oA, on, oc, oL⟩, ⟨tA, tn, tc, tL⟩, ⟨lA, ln, lc, lL⟩, ar, ⟨bA, bn, bc, bL⟩⟩) (y := ⟨nm, ⟨A5, rn1 + 1, k5, rL1 ++ [⟨#[120]⟩]⟩, ⟨oA1, on1, oc1, oL1⟩, ⟨tA1, tn1, tc1, tL1⟩, ⟨lA1, ln1, lc1, lL1⟩, ar, ⟨bA1, bn1, bc1, bL1⟩⟩) (fun v => v.regions.length) (len_ne HRG.out))
    clear cf1 ff1
    refine (alive09_any _).mono ?_
    rintro e4 w8 ⟨rfl, hb5⟩
    have HW8 := hide (HW4.out.trans (hb5.mono HW4.out.size))
    have HXC8 := hide (HXC4.out.below hb5)
    have HOC8 := hide (HOC4.out.up hb5)
    clear hb5
    obtain ⟨bx0, bx1, bx2, bx3, bx4, bx5, bx6⟩ := hc.out _ HW8.out
    have cf0 := HXC8.out.cell (j := 0) rfl
    have cf1 := HXC8.out.cell (j := 1) rfl
    have cf2 := HXC8.out.cell (j := 2) rfl
    have cf3 := HXC8.out.cell (j := 3) rfl
    have cf4 := HXC8.out.cell (j := 4) rfl
    have cf5 := HXC8.out.cell (j := 5) rfl
    have cf6 := HXC8.out.cell (j := 6) rfl
    go_wp2_with fail
    refine (EqBd_is (x := ⟨nm, ⟨rA, rn, rc, rL⟩, ⟨oA, on, oc, oL⟩, ⟨tA, tn, tc, tL⟩, ⟨lA, ln, lc, lL⟩, ar, ⟨bA, bn, bc, bL⟩⟩) (y := ⟨nm, ⟨A5, rn1 + 1, k5, rL1 ++ [⟨#[120]⟩]⟩, ⟨oA1, on1, oc1, oL1⟩, ⟨tA1, tn1, tc1, tL1⟩, ⟨lA1, ln1, lc1, lL1⟩, ar, ⟨bA1, bn1, bc1, bL1⟩⟩) HNE.out.1 _ (HX.out.up HW8.out) HOC8.out).mono ?_
    rintro e5 w6 ⟨rfl, hb6⟩
    have HW6 := hide (HW8.out.trans (hb6.mono HW8.out.size))
    have HXC6 := hide (HXC8.out.below hb6)
    have HOC6 := hide (HOC8.out.up hb6)
    clear hb6 bx0 bx1 bx2 bx3 bx4 bx5 bx6 cf0 cf1 cf2 cf3 cf4 cf5 cf6
    obtain ⟨bx0, bx1, bx2, bx3, bx4, bx5, bx6⟩ := hc.out _ HW6.out
    have cf0 := HXC6.out.cell (j := 0) rfl
    have cf1 := HXC6.out.cell (j := 1) rfl
    have cf2 := HXC6.out.cell (j := 2) rfl
    have cf3 := HXC6.out.cell (j := 3) rfl
    have cf4 := HXC6.out.cell (j := 4) rfl
    have cf5 := HXC6.out.cell (j := 5) rfl
    have cf6 := HXC6.out.cell (j := 6) rfl
    go_wp2_with fail
    refine (EqBd_is (x := ⟨nm, ⟨A5, rn1 + 1, k5, rL1 ++ [⟨#[120]⟩]⟩, ⟨oA1, on1, oc1, oL1⟩, ⟨tA1, tn1, tc1, tL1⟩, ⟨lA1, ln1, lc1, lL1⟩, ar, ⟨bA1, bn1, bc1, bL1⟩⟩) (y := ⟨nm, ⟨rA, rn, rc, rL⟩, ⟨oA, on, oc, oL⟩, ⟨tA, tn, tc, tL⟩, ⟨lA, ln, lc, lL⟩, ar, ⟨bA, bn, bc, bL⟩⟩) HNE.out.2 _ HOC6.out (HX.out.up HW6.out)).mono ?_
    rintro e6 w7 ⟨rfl, hb7⟩
    have HW7 := hide (HW6.out.trans (hb7.mono HW6.out.size))
    clear hb7 bx0 bx1 bx2 bx3 bx4 bx5 bx6 cf0 cf1 cf2 cf3 cf4 cf5 cf6
    go_wp2
    go_ret
    exact ⟨rfl, HB.out.trans (HW7.out.mono HB.out.size)⟩
  · have cf2 := HXC3.out.cell (j := 2) rfl
    have ff2 := HXC3.out.frozen 2
    obtain ⟨i0, hi, hz0, hz1, hz2⟩ := info_parts info9Pr
    have hbv := (Below.refl w3.heap.size w3).alloc (Nat.le_refl _) (.cells #[.int .i64 0, .int .i64 1] 49)
    have HVB := hide hbv
    have HOWN := hide (own_keep HCO3.out.outl (Keep.of_below hbv))
    have hsz9 : w1.heap.size ≤ (w3.alloc (.cells #[.int .i64 0, .int .i64 1] 49)).heap.size := Nat.le_trans HLO3.out hbv.size
    have HLT := hide (lit_cells w3 pV pV_len ((0, 1) : Pr) 49)
    have hn9 : on1 ≤ 2 ^ 39 := by
      have h1 : oL1.length = on1 := HOC3.out.outl.len
      have h2 : oL.length = on := HX.out.outl.len
      have h3 : on ≤ 2 ^ 39 := HOK.out.sm.outl
      have h4 : oL1.length = oL.length := congrArg List.length HOG.out
      omega
    clear hbv
    go_wp2_with (at_builtin; refine wpList_append_cells (w3.alloc (.cells #[.int .i64 0, .int .i64 1] 49)) rfl (.tmp 40) (.tmp 42) 23 rfl pV_len (by decide) pV_one9 w1.heap.size 49 i0 _ 16 Tryz.underlying23 hi hz0 hz1 hz2 rfl _ on1 (oL1.flatMap pV) rfl HOWN.out _ (some ⟨w3.heap.size, 0, none⟩) 1 1 [((0, 1) : Pr)] rfl HLT.out (by unfold maxLen; omega) (by omega) hsz9 ?_; intro v5 w5 hown5 hg5 hat5; obtain ⟨A5, k5, rfl⟩ := own_slice9 hown5; have hkg := KT.of_grown hg5 HOWN.out; have HXC5 := hide (Bx.kt (HXC3.out.below HVB.out) hkg (by decide)); have HW5 := hide (below_app (HW3.out.trans (HVB.out.mono HW3.out.size)) (ownsRow_base HOWN.out HW1.out.size) (Nat.le_trans HW1.out.size hsz9) hg5); have HAP := hide (app_out HCO3.out HOC3.out (KT.trans9 (KT.of_below9 HVB.out) HVB.out hkg) hown5 pr9); have cf2 := HXC5.out.cell (j := 2) rfl; have ff2 := HXC5.out.frozen 2; clear hown5 hg5 hat5 hkg)
    have HXC4 := hide (show Bx (w5.setCell ⟨g5, 2, none⟩ (.slice A5 (on1 + 1) k5)) g5 [.string nm, .slice rA1 rn1 rc1, .slice A5 (on1 + 1) k5, .slice tA1 tn1 tc1, .slice lA1 ln1 lc1, .int .i64 ar, .slice bA1 bn1 bc1] 28 from HXC5.out.set 2 _)
    have HW4 := hide (HW5.out.setCell (p := ⟨g5, 2, none⟩) (Nat.le_trans HW1.out.size hg1) (.slice A5 (on1 + 1) k5))
    have HOC4 := hide (OneBd.set9 HAP.out.1 HAP.out.2 HXC5.out 2 (.slice A5 (on1 + 1) k5))
    have HNE := hide (ne_by (x := ⟨nm, ⟨rA, rn, rc, rL⟩, ⟨oA, on, oc, oL⟩, ⟨tA, tn, tc, tL⟩, ⟨lA, ln, lc, lL⟩, ar, ⟨bA, bn, bc, bL⟩⟩) (y := ⟨nm, ⟨rA1, rn1, rc1, rL1⟩, ⟨A5, on1 + 1, k5, oL1 ++ [((0, 1) : Pr)]⟩, ⟨tA1, tn1, tc1, tL1⟩, ⟨lA1, ln1, lc1, lL1⟩, ar, ⟨bA1, bn1, bc1, bL1⟩⟩) (fun v => v.outl.length) (len_ne HOG.out))
    clear cf2 ff2
    refine (alive09_any _).mono ?_
    rintro e4 w8 ⟨rfl, hb5⟩
    have HW8 := hide (HW4.out.trans (hb5.mono HW4.out.size))
    have HXC8 := hide (HXC4.out.below hb5)
    have HOC8 := hide (HOC4.out.up hb5)
    clear hb5
    obtain ⟨bx0, bx1, bx2, bx3, bx4, bx5, bx6⟩ := hc.out _ HW8.out
    have cf0 := HXC8.out.cell (j := 0) rfl
    have cf1 := HXC8.out.cell (j := 1) rfl
    have cf2 := HXC8.out.cell (j := 2) rfl
    have cf3 := HXC8.out.cell (j := 3) rfl
    have cf4 := HXC8.out.cell (j := 4) rfl
    have cf5 := HXC8.out.cell (j := 5) rfl
    have cf6 := HXC8.out.cell (j := 6) rfl
    go_wp2_with fail
    refine (EqBd_is (x := ⟨nm, ⟨rA, rn, rc, rL⟩, ⟨oA, on, oc, oL⟩, ⟨tA, tn, tc, tL⟩, ⟨lA, ln, lc, lL⟩, ar, ⟨bA, bn, bc, bL⟩⟩) (y := ⟨nm, ⟨rA1, rn1, rc1, rL1⟩, ⟨A5, on1 + 1, k5, oL1 ++ [((0, 1) : Pr)]⟩, ⟨tA1, tn1, tc1, tL1⟩, ⟨lA1, ln1, lc1, lL1⟩, ar, ⟨bA1, bn1, bc1, bL1⟩⟩) HNE.out.1 _ (HX.out.up HW8.out) HOC8.out).mono ?_
    rintro e5 w6 ⟨rfl, hb6⟩
    have HW6 := hide (HW8.out.trans (hb6.mono HW8.out.size))
    have HXC6 := hide (HXC8.out.below hb6)
    have HOC6 := hide (HOC8.out.up hb6)
    clear hb6 bx0 bx1 bx2 bx3 bx4 bx5 bx6 cf0 cf1 cf2 cf3 cf4 cf5 cf6
    obtain ⟨bx0, bx1, bx2, bx3, bx4, bx5, bx6⟩ := hc.out _ HW6.out
    have cf0 := HXC6.out.cell (j := 0) rfl
    have cf1 := HXC6.out.cell (j := 1) rfl
    have cf2 := HXC6.out.cell (j := 2) rfl
    have cf3 := HXC6.out.cell (j := 3) rfl
    have cf4 := HXC6.out.cell (j := 4) rfl
    have cf5 := HXC6.out.cell (j := 5) rfl
    have cf6 := HXC6.out.cell (j := 6) rfl
    go_wp2_with fail
    refine (EqBd_is (x := ⟨nm, ⟨rA1, rn1, rc1, rL1⟩, ⟨A5, on1 + 1, k5, oL1 ++ [((0, 1) : Pr)]⟩, ⟨tA1, tn1, tc1, tL1⟩, ⟨lA1, ln1, lc1, lL1⟩, ar, ⟨bA1, bn1, bc1, bL1⟩⟩) (y := ⟨nm, ⟨rA, rn, rc, rL⟩, ⟨oA, on, oc, oL⟩, ⟨tA, tn, tc, tL⟩, ⟨lA, ln, lc, lL⟩, ar, ⟨bA, bn, bc, bL⟩⟩) HNE.out.2 _ HOC6.out (HX.out.up HW6.out)).mono ?_
    rintro e6 w7 ⟨rfl, hb7⟩
    have HW7 := hide (HW6.out.trans (hb7.mono HW6.out.size))
    clear hb7 bx0 bx1 bx2 bx3 bx4 bx5 bx6 cf0 cf1 cf2 cf3 cf4 cf5 cf6
    go_wp2
    go_ret
    exact ⟨rfl, HB.out.trans (HW7.out.mono HB.out.size)⟩
  · have cf6 := HXC3.out.cell (j := 6) rfl
    have ff6 := HXC3.out.frozen 6
    obtain ⟨i0, hi, hz0, hz1, hz2⟩ := info_parts info9Bk
    have hbv := (Below.refl w3.heap.size w3).alloc (Nat.le_refl _) (.cells #[.slice none 0 0, .int .i64 0, .slice none 0 0, .slice none 0 0, .int .i64 0, .slice none 0 0, .string .empty] 44)
    have HVB := hide hbv
    have HOWN := hide (own_keep HCO3.out.blocks.row (Keep.of_below hbv))
    have hsz9 : w1.heap.size ≤ (w3.alloc (.cells #[.slice none 0 0, .int .i64 0, .slice none 0 0, .slice none 0 0, .int .i64 0, .slice none 0 0, .string .empty] 44)).heap.size := Nat.le_trans HLO3.out hbv.size
    have HLT := hide (lit_cells w3 cBk cBk_len bk0 44)
    have hn9 : bn1 ≤ 2 ^ 39 := by
      have h1 : bL1.length = bn1 := HOC3.out.blocks.len
      have h2 : bL.length = bn := HX.out.blocks.len
      have h3 : bn ≤ 2 ^ 39 := HOK.out.sm.blocks
      have h4 : bL1.length = bL.length := HBG.out
      omega
    clear hbv
    go_wp2_with (at_builtin; refine wpList_append_cells (w3.alloc (.cells #[.slice none 0 0, .int .i64 0, .slice none 0 0, .slice none 0 0, .int .i64 0, .slice none 0 0, .string .empty] 44)) rfl (.tmp 48) (.tmp 50) 26 rfl cBk_len (by decide) cBk_one w1.heap.size 44 i0 _ 128 Tryz.underlying26 hi hz0 hz1 hz2 rfl _ bn1 (bL1.flatMap cBk) rfl HOWN.out _ (some ⟨w3.heap.size, 0, none⟩) 1 1 [bk0] rfl HLT.out (by unfold maxLen; omega) (by omega) hsz9 ?_; intro v5 w5 hown5 hg5 hat5; obtain ⟨A5, k5, rfl⟩ := own_slice9 hown5; have hkg := KT.of_grown hg5 HOWN.out; have HXC5 := hide (Bx.kt (HXC3.out.below HVB.out) hkg (by decide)); have HW5 := hide (below_app (HW3.out.trans (HVB.out.mono HW3.out.size)) (ownsRow_base HOWN.out HW1.out.size) (Nat.le_trans HW1.out.size hsz9) hg5); have HAP := hide (app_blk HCO3.out HOC3.out (KT.trans9 (KT.of_below9 HVB.out) HVB.out hkg) hown5 (bk0_own _ _) (bk0_one _ _)); have cf6 := HXC5.out.cell (j := 6) rfl; have ff6 := HXC5.out.frozen 6; clear hown5 hg5 hat5 hkg)
    have HXC4 := hide (show Bx (w5.setCell ⟨g5, 6, none⟩ (.slice A5 (bn1 + 1) k5)) g5 [.string nm, .slice rA1 rn1 rc1, .slice oA1 on1 oc1, .slice tA1 tn1 tc1, .slice lA1 ln1 lc1, .int .i64 ar, .slice A5 (bn1 + 1) k5] 28 from HXC5.out.set 6 _)
    have HW4 := hide (HW5.out.setCell (p := ⟨g5, 6, none⟩) (Nat.le_trans HW1.out.size hg1) (.slice A5 (bn1 + 1) k5))
    have HOC4 := hide (OneBd.set9 HAP.out.1 HAP.out.2 HXC5.out 6 (.slice A5 (bn1 + 1) k5))
    have HNE := hide (ne_by (x := ⟨nm, ⟨rA, rn, rc, rL⟩, ⟨oA, on, oc, oL⟩, ⟨tA, tn, tc, tL⟩, ⟨lA, ln, lc, lL⟩, ar, ⟨bA, bn, bc, bL⟩⟩) (y := ⟨nm, ⟨rA1, rn1, rc1, rL1⟩, ⟨oA1, on1, oc1, oL1⟩, ⟨tA1, tn1, tc1, tL1⟩, ⟨lA1, ln1, lc1, lL1⟩, ar, ⟨A5, bn1 + 1, k5, bL1 ++ [bk0]⟩⟩) (fun v => v.blocks.length) (map_ne9 HBG.out))
    clear cf6 ff6
    refine (alive09_any _).mono ?_
    rintro e4 w8 ⟨rfl, hb5⟩
    have HW8 := hide (HW4.out.trans (hb5.mono HW4.out.size))
    have HXC8 := hide (HXC4.out.below hb5)
    have HOC8 := hide (HOC4.out.up hb5)
    clear hb5
    obtain ⟨bx0, bx1, bx2, bx3, bx4, bx5, bx6⟩ := hc.out _ HW8.out
    have cf0 := HXC8.out.cell (j := 0) rfl
    have cf1 := HXC8.out.cell (j := 1) rfl
    have cf2 := HXC8.out.cell (j := 2) rfl
    have cf3 := HXC8.out.cell (j := 3) rfl
    have cf4 := HXC8.out.cell (j := 4) rfl
    have cf5 := HXC8.out.cell (j := 5) rfl
    have cf6 := HXC8.out.cell (j := 6) rfl
    go_wp2_with fail
    refine (EqBd_is (x := ⟨nm, ⟨rA, rn, rc, rL⟩, ⟨oA, on, oc, oL⟩, ⟨tA, tn, tc, tL⟩, ⟨lA, ln, lc, lL⟩, ar, ⟨bA, bn, bc, bL⟩⟩) (y := ⟨nm, ⟨rA1, rn1, rc1, rL1⟩, ⟨oA1, on1, oc1, oL1⟩, ⟨tA1, tn1, tc1, tL1⟩, ⟨lA1, ln1, lc1, lL1⟩, ar, ⟨A5, bn1 + 1, k5, bL1 ++ [bk0]⟩⟩) HNE.out.1 _ (HX.out.up HW8.out) HOC8.out).mono ?_
    rintro e5 w6 ⟨rfl, hb6⟩
    have HW6 := hide (HW8.out.trans (hb6.mono HW8.out.size))
    have HXC6 := hide (HXC8.out.below hb6)
    have HOC6 := hide (HOC8.out.up hb6)
    clear hb6 bx0 bx1 bx2 bx3 bx4 bx5 bx6 cf0 cf1 cf2 cf3 cf4 cf5 cf6
    obtain ⟨bx0, bx1, bx2, bx3, bx4, bx5, bx6⟩ := hc.out _ HW6.out
    have cf0 := HXC6.out.cell (j := 0) rfl
    have cf1 := HXC6.out.cell (j := 1) rfl
    have cf2 := HXC6.out.cell (j := 2) rfl
    have cf3 := HXC6.out.cell (j := 3) rfl
    have cf4 := HXC6.out.cell (j := 4) rfl
    have cf5 := HXC6.out.cell (j := 5) rfl
    have cf6 := HXC6.out.cell (j := 6) rfl
    go_wp2_with fail
    refine (EqBd_is (x := ⟨nm, ⟨rA1, rn1, rc1, rL1⟩, ⟨oA1, on1, oc1, oL1⟩, ⟨tA1, tn1, tc1, tL1⟩, ⟨lA1, ln1, lc1, lL1⟩, ar, ⟨A5, bn1 + 1, k5, bL1 ++ [bk0]⟩⟩) (y := ⟨nm, ⟨rA, rn, rc, rL⟩, ⟨oA, on, oc, oL⟩, ⟨tA, tn, tc, tL⟩, ⟨lA, ln, lc, lL⟩, ar, ⟨bA, bn, bc, bL⟩⟩) HNE.out.2 _ HOC6.out (HX.out.up HW6.out)).mono ?_
    rintro e6 w7 ⟨rfl, hb7⟩
    have HW7 := hide (HW6.out.trans (hb7.mono HW6.out.size))
    clear hb7 bx0 bx1 bx2 bx3 bx4 bx5 bx6 cf0 cf1 cf2 cf3 cf4 cf5 cf6
    go_wp2
    go_ret
    exact ⟨rfl, HB.out.trans (HW7.out.mono HB.out.size)⟩
  · have cf3 := HXC3.out.cell (j := 3) rfl
    have ff3 := HXC3.out.frozen 3
    obtain ⟨i0, hi, hz0, hz1, hz2⟩ := info_parts info9Ty
    have hbv := (Below.refl w3.heap.size w3).alloc (Nat.le_refl _) (.cells #[.int .i64 0, .bool false, .int .i64 0, .int .i64 0, .slice none 0 0] 51)
    have HVB := hide hbv
    have HOWN := hide (own_keep HCO3.out.types.row (Keep.of_below hbv))
    have hsz9 : w1.heap.size ≤ (w3.alloc (.cells #[.int .i64 0, .bool false, .int .i64 0, .int .i64 0, .slice none 0 0] 51)).heap.size := Nat.le_trans HLO3.out hbv.size
    have HLT := hide (lit_cells w3 c5 c5_len ty0 51)
    have hn9 : tn1 ≤ 2 ^ 39 := by
      have h1 : tL1.length = tn1 := HOC3.out.types.len
      have h2 : tL.length = tn := HX.out.types.len
      have h3 : tn ≤ 2 ^ 39 := HOK.out.sm.types
      have h4 : tL1.length = tL.length := HTG.out
      omega
    clear hbv
    go_wp2_with (at_builtin; refine wpList_append_cells (w3.alloc (.cells #[.int .i64 0, .bool false, .int .i64 0, .int .i64 0, .slice none 0 0] 51)) rfl (.tmp 56) (.tmp 58) 24 rfl c5_len (by decide) c5_one9 w1.heap.size 51 i0 _ 56 Tryz.underlying24 hi hz0 hz1 hz2 rfl _ tn1 (tL1.flatMap c5) rfl HOWN.out _ (some ⟨w3.heap.size, 0, none⟩) 1 1 [ty0] rfl HLT.out (by unfold maxLen; omega) (by omega) hsz9 ?_; intro v5 w5 hown5 hg5 hat5; obtain ⟨A5, k5, rfl⟩ := own_slice9 hown5; have hkg := KT.of_grown hg5 HOWN.out; have HXC5 := hide (Bx.kt (HXC3.out.below HVB.out) hkg (by decide)); have HW5 := hide (below_app (HW3.out.trans (HVB.out.mono HW3.out.size)) (ownsRow_base HOWN.out HW1.out.size) (Nat.le_trans HW1.out.size hsz9) hg5); have HAP := hide (app_typ HCO3.out HOC3.out (KT.trans9 (KT.of_below9 HVB.out) HVB.out hkg) hown5 (ty0_own _ _) (ty0_one _ _)); have cf3 := HXC5.out.cell (j := 3) rfl; have ff3 := HXC5.out.frozen 3; clear hown5 hg5 hat5 hkg)
    have HXC4 := hide (show Bx (w5.setCell ⟨g5, 3, none⟩ (.slice A5 (tn1 + 1) k5)) g5 [.string nm, .slice rA1 rn1 rc1, .slice oA1 on1 oc1, .slice A5 (tn1 + 1) k5, .slice lA1 ln1 lc1, .int .i64 ar, .slice bA1 bn1 bc1] 28 from HXC5.out.set 3 _)
    have HW4 := hide (HW5.out.setCell (p := ⟨g5, 3, none⟩) (Nat.le_trans HW1.out.size hg1) (.slice A5 (tn1 + 1) k5))
    have HOC4 := hide (OneBd.set9 HAP.out.1 HAP.out.2 HXC5.out 3 (.slice A5 (tn1 + 1) k5))
    have HNE := hide (ne_by (x := ⟨nm, ⟨rA, rn, rc, rL⟩, ⟨oA, on, oc, oL⟩, ⟨tA, tn, tc, tL⟩, ⟨lA, ln, lc, lL⟩, ar, ⟨bA, bn, bc, bL⟩⟩) (y := ⟨nm, ⟨rA1, rn1, rc1, rL1⟩, ⟨oA1, on1, oc1, oL1⟩, ⟨A5, tn1 + 1, k5, tL1 ++ [ty0]⟩, ⟨lA1, ln1, lc1, lL1⟩, ar, ⟨bA1, bn1, bc1, bL1⟩⟩) (fun v => v.types.length) (map_ne9 HTG.out))
    clear cf3 ff3
    refine (alive09_any _).mono ?_
    rintro e4 w8 ⟨rfl, hb5⟩
    have HW8 := hide (HW4.out.trans (hb5.mono HW4.out.size))
    have HXC8 := hide (HXC4.out.below hb5)
    have HOC8 := hide (HOC4.out.up hb5)
    clear hb5
    obtain ⟨bx0, bx1, bx2, bx3, bx4, bx5, bx6⟩ := hc.out _ HW8.out
    have cf0 := HXC8.out.cell (j := 0) rfl
    have cf1 := HXC8.out.cell (j := 1) rfl
    have cf2 := HXC8.out.cell (j := 2) rfl
    have cf3 := HXC8.out.cell (j := 3) rfl
    have cf4 := HXC8.out.cell (j := 4) rfl
    have cf5 := HXC8.out.cell (j := 5) rfl
    have cf6 := HXC8.out.cell (j := 6) rfl
    go_wp2_with fail
    refine (EqBd_is (x := ⟨nm, ⟨rA, rn, rc, rL⟩, ⟨oA, on, oc, oL⟩, ⟨tA, tn, tc, tL⟩, ⟨lA, ln, lc, lL⟩, ar, ⟨bA, bn, bc, bL⟩⟩) (y := ⟨nm, ⟨rA1, rn1, rc1, rL1⟩, ⟨oA1, on1, oc1, oL1⟩, ⟨A5, tn1 + 1, k5, tL1 ++ [ty0]⟩, ⟨lA1, ln1, lc1, lL1⟩, ar, ⟨bA1, bn1, bc1, bL1⟩⟩) HNE.out.1 _ (HX.out.up HW8.out) HOC8.out).mono ?_
    rintro e5 w6 ⟨rfl, hb6⟩
    have HW6 := hide (HW8.out.trans (hb6.mono HW8.out.size))
    have HXC6 := hide (HXC8.out.below hb6)
    have HOC6 := hide (HOC8.out.up hb6)
    clear hb6 bx0 bx1 bx2 bx3 bx4 bx5 bx6 cf0 cf1 cf2 cf3 cf4 cf5 cf6
    obtain ⟨bx0, bx1, bx2, bx3, bx4, bx5, bx6⟩ := hc.out _ HW6.out
    have cf0 := HXC6.out.cell (j := 0) rfl
    have cf1 := HXC6.out.cell (j := 1) rfl
    have cf2 := HXC6.out.cell (j := 2) rfl
    have cf3 := HXC6.out.cell (j := 3) rfl
    have cf4 := HXC6.out.cell (j := 4) rfl
    have cf5 := HXC6.out.cell (j := 5) rfl
    have cf6 := HXC6.out.cell (j := 6) rfl
    go_wp2_with fail
    refine (EqBd_is (x := ⟨nm, ⟨rA1, rn1, rc1, rL1⟩, ⟨oA1, on1, oc1, oL1⟩, ⟨A5, tn1 + 1, k5, tL1 ++ [ty0]⟩, ⟨lA1, ln1, lc1, lL1⟩, ar, ⟨bA1, bn1, bc1, bL1⟩⟩) (y := ⟨nm, ⟨rA, rn, rc, rL⟩, ⟨oA, on, oc, oL⟩, ⟨tA, tn, tc, tL⟩, ⟨lA, ln, lc, lL⟩, ar, ⟨bA, bn, bc, bL⟩⟩) HNE.out.2 _ HOC6.out (HX.out.up HW6.out)).mono ?_
    rintro e6 w7 ⟨rfl, hb7⟩
    have HW7 := hide (HW6.out.trans (hb7.mono HW6.out.size))
    clear hb7 bx0 bx1 bx2 bx3 bx4 bx5 bx6 cf0 cf1 cf2 cf3 cf4 cf5 cf6
    go_wp2
    go_ret
    exact ⟨rfl, HB.out.trans (HW7.out.mono HB.out.size)⟩
theorem own : ownKnob Tryz.prog.godebug = none := by kernel_rfl
theorem laidOut : laidOutB Tryz.prog = true := by kernel_rfl

set_option maxRecDepth 100000 in
/-- what the walk gives, for every argument that can be read -/
theorem contract (H : Type) (enc : TypeId × Value → H) (W : World) (base : Nat) (args : Array Value) (ds gs : List (DataW H)) (before : List MemPlace)
    (hval0 : ∀ (j : Nat) t v, Tryz.f7.params[j]? = some t → args[j]? = some v → Value.okWide Tryz.prog W .any base t v)
    (hW : DataW.Whole enc Tryz.prog Tryz.f7.params.toList Rows.bodiesDifferSpec.vars false W args.toList ds gs before) (hsz0 : (DataW.weightsEach Tryz.prog (Tryz.f7.params.toList ++ Rows.bodiesDifferSpec.plain.varTypes Tryz.prog) (ds ++ gs)).all (· ≤ reachBytes) = true) :
    Calls Tryz.prog 7 args W fun e W' => ∃ v, e = .returned v ∧ Rows.bodiesDifferSpec.post enc Tryz.prog Tryz.f7 false true false false W args v W' := by
  have hval : ∀ (j : Nat) t v, Tryz.f7.params[j]? = some t → args[j]? = some v → Value.okWide Tryz.prog W .any base t v := hval0
  have hW' := hW
  obtain ⟨p, q, hA0, hV, rfl, hfz, hnd⟩ := hW
  have hA : DataW.TrodAll enc Tryz.prog W 0 (fun _ => true) true Tryz.f7.params.toList args.toList ds p := hA0
  have hsz : (DataW.weightsEach Tryz.prog (Tryz.f7.params.toList ++ Rows.bodiesDifferSpec.plain.varTypes Tryz.prog) (ds ++ gs)).all (· ≤ reachBytes) = true := hsz0
  rw [Tryz.params7] at hA hval hsz
  obtain ⟨v0, vs0, d0, ds0, p0, q0, hargs, rfl, rfl, h0, r0⟩ := trodAll_cons hA
  obtain ⟨v1, vs1, d1, ds1, p1, q1, rfl, rfl, rfl, h1, r1⟩ := trodAll_cons r0
  obtain ⟨rfl, rfl, rfl⟩ := trodAll_nil r1
  obtain rfl : args = #[v0, v1] := by cases args; simp_all
  obtain ⟨rfl, rfl⟩ := trodVars_none hV
  have k0 := h0
  have lt0 : ∀ x ∈ p0, x.block < W.heap.size := by obtain ⟨m, hm⟩ := k0; exact DataW.trod_lt m _ _ _ hm
  obtain ⟨x0, rfl, g0, f0⟩ := openBody (hval 0 28 v0 rfl rfl) h0
  obtain ⟨a1, rfl, rfl, rfl, w1⟩ := open_int Tryz.underlying5 (hval 1 5 v1 rfl rfl) h1
  have g1 : 0 ≤ a1 ∧ a1 ≤ 255 := by simpa [Lit.wf, IntKind.min, IntKind.max, IntKind.signed, IntKind.bits] using w1
  have s0 : FitBd x0 := f0 (List.all_eq_true.2 fun n hn => List.all_eq_true.1 hsz n (DataW.weights_mem_each (j := 0) (t := 28) rfl rfl n hn))
  clear hA0 hval0 hsz hsz0
  simp only [List.append_nil] at hW'
  refine (walk x0 a1 W g0 g1 s0).mono fun e W' ⟨he, bel⟩ => ?_
  subst he
  exact ⟨_, rfl, _, _, _, [], _, [], hW', trodAll_mk1 (shut_bool Tryz.underlying4 _), (trodAll_cons_mk (Below.trod laidOut (by kernel_rfl) (of_decide_eq_true (by kernel_rfl)) k0 bel lt0) (trodAll_cons_mk (shut_int Tryz.underlying5 w1) trodAll_mk0)), rfl, bel.frame _, fun h => by cases h⟩

set_option maxRecDepth 100000 in
theorem lifted (os : Os) (started : os.Started) (H : Type) (enc : TypeId × Value → H) :
    ReturnsInHanded {} Tryz.checked os 7 .any (Rows.bodiesDifferSpec.pre6 enc Tryz.prog Tryz.f7 Rows.bodiesDifferRow.domain false) (Rows.bodiesDifferSpec.post enc Tryz.prog Tryz.f7 false true false false) := by
  refine returnsInHanded_of_change_sized (C := Tryz.checked) own started (by kernel_rfl) Tryz.func7
    (ChangeSpec.witness6 (enc := enc) (C := Tryz.checked) false ⟨#[], #[.agg #[.string .empty, .slice none 0 0, .slice none 0 0, .slice none 0 0, .slice none 0 0, .int .i64 0, .slice none 0 0], .int .u8 0], []⟩ 8 (by kernel_rfl) (by kernel_rfl) (by kernel_rfl) (by kernel_rfl)) ?_
  intro W base args ds gs before hval hW _ hsz _
  exact contract H enc W base args ds gs before hval hW hsz

/-- the statement -/
theorem proved : Rows.BodiesDifferSaid :=
  OpenClaim.holds_of_wide 7 Tryz.f7 rfl rfl rfl rfl rfl rfl rfl ⟨rfl, rfl, rfl, rfl, rfl⟩ rfl rfl rfl rfl rfl (by kernel_rfl) Tryz.func7 (by kernel_rfl)
    (of_decide_eq_true (by kernel_rfl)) (by unfold Func.isWrapper; first | (rw [if_pos (by decide +kernel)]; kernel_rfl) | (rw [if_neg (by decide +kernel)]; exact ⟨rfl, rfl⟩))
    (fun os started H enc _ => lifted os started H enc)
end Go.Proofs.YtbdimnncobpfdaaGreat.bodiesDiffer
