/- The reference's list of a body's identifiers; Names and Bytes. -/
import Derived.Test.YtbdimnncobpfdaaGreatBodN
import Derived.Test.YtbdimnncobpfdaaGreatIns
set_option linter.unusedVariables false
namespace Go.Proofs.YtbdimnncobpfdaaGreat
open Go.RowKit

theorem Strs.rd {w : World} {B : Nat} {s : SlW ByteArray} (h : Strs w B s) : Rd w B s.A s.n (sV s.L) := by
  refine ⟨by rw [List.length_map]; exact h.len, fun hn => ?_⟩
  obtain ⟨b, o, h1, h2, h3⟩ := h.cells.2 hn
  refine ⟨b, o, h1, h2, fun j u hu => ?_⟩
  rw [List.getElem?_map] at hu
  cases hx : s.L[j]? with
  | none => rw [hx] at hu; cases hu
  | some x =>
    rw [hx] at hu
    injection hu with hu
    have := h3 j x hx 0 (.string x) rfl
    rw [← hu]
    simpa using this
/-- the identifiers -/
def idnB (b : BkV) : List ByteArray := if b.term.kind = 3 then [b.term.name] else []
def idnL (l : LcV) : List ByteArray := [l.name]
def allS (x : BdV) : List ByteArray := (x.name :: x.regions) ++ x.locals.flatMap idnL ++ x.blocks.flatMap idnB
/-- a slice of strings of the call's own -/
def StrsOut (w : World) (L : List ByteArray) (e : Ending) (w' : World) : Prop := ∃ v, e = .returned v ∧ w'.ownsRow w.heap.size 9 1 v L.length (sV L) ∧ Below w.heap.size w w'

set_option maxHeartbeats 4000000 in
set_option maxRecDepth 100000 in
theorem RAll_any (x : BdW) (w : World) (hx : OneBd w w.heap.size x) (hN : (allS x.v).length ≤ 2 ^ 40) :
    Calls Tryz.prog 43 #[aggBd x] w (StrsOut w (allS x.v)) := by
  obtain ⟨i0, hi, hz0, hz1, hz2⟩ := info_parts infoS
  have HB := hide (bd1_below w x)
  have HX := hide (hx.up HB.out)
  have HLL := hide hx.locals.len
  have HBL := hide hx.blocks.len
  have hrl := hx.regions.len
  have hln := hx.locals.nm
  have hbn := hx.blocks.nm
  have hs := hide fun (w' : World) (h : Below (bd1 w x).heap.size (bd1 w x) w') => bd1_cells h
  obtain ⟨base, hbase⟩ : ∃ b, (bd1 w x).heap.size = b := ⟨_, rfl⟩
  have Hbase := hide hbase
  clear hx hbase
  obtain ⟨nm, ⟨rA, rn, rc, rL⟩, ⟨oA, on, oc, oL⟩, ⟨tA, tn, tc, tL⟩, ⟨lA, ln, lc, lL⟩, ar, ⟨bA, bn, bc, bL⟩⟩ := x
  simp only [] at hln hbn hrl
  unfold maxLen at hln hbn
  have hAll : allS (BdW.v ⟨nm, ⟨rA, rn, rc, rL⟩, ⟨oA, on, oc, oL⟩, ⟨tA, tn, tc, tL⟩, ⟨lA, ln, lc, lL⟩, ar, ⟨bA, bn, bc, bL⟩⟩) = (nm :: rL) ++ lL.flatMap (fun l => idnL l.v) ++ bL.flatMap (fun b => idnB b.v) := by
    unfold allS BdW.v
    simp only [List.flatMap_map]
  rw [hAll] at hN ⊢
  clear hAll
  have hNT : rn + 1 + (lL.flatMap (fun l : LcW => idnL l.v)).length + (bL.flatMap (fun b : BkW => idnB b.v)).length ≤ 2 ^ 40 := by
    simp only [List.length_append, List.length_cons, hrl] at hN
    exact hN
  have hR1 : rn + 1 ≤ 2 ^ 40 := by omega
  clear hN
  obtain ⟨LL, hLL⟩ : ∃ L, (nm :: rL) ++ lL.flatMap (fun l : LcW => idnL l.v) ++ bL.flatMap (fun b : BkW => idnB b.v) = L := ⟨_, rfl⟩
  rw [hLL]
  have HLL2 := hide hLL
  clear hLL
  have hr0 := hide (show Rd _ _ rA rn (sV rL) from Strs.rd HX.out.regions)
  have hO0 := hide (show (World.alloc (bd1 w ⟨nm, ⟨rA, rn, rc, rL⟩, ⟨oA, on, oc, oL⟩, ⟨tA, tn, tc, tL⟩, ⟨lA, ln, lc, lL⟩, ar, ⟨bA, bn, bc, bL⟩⟩) (.cells #[.string nm] 9)).ownsRow base 9 1 (.slice (some ⟨w.heap.size + 1, 0, none⟩) 1 1) 1 [.string nm] from by
    rw [← bd1_size w ⟨nm, ⟨rA, rn, rc, rL⟩, ⟨oA, on, oc, oL⟩, ⟨tA, tn, tc, tL⟩, ⟨lA, ln, lc, lL⟩, ar, ⟨bA, bn, bc, bL⟩⟩]
    exact World.ownsRow_lit _ #[.string nm] 1 (Nat.le_of_eq Hbase.out.symm) (by unfold maxLen; omega) rfl)
  have hB0 := hide (show Below base (bd1 w ⟨nm, ⟨rA, rn, rc, rL⟩, ⟨oA, on, oc, oL⟩, ⟨tA, tn, tc, tL⟩, ⟨lA, ln, lc, lL⟩, ar, ⟨bA, bn, bc, bL⟩⟩) (World.alloc (bd1 w ⟨nm, ⟨rA, rn, rc, rL⟩, ⟨oA, on, oc, oL⟩, ⟨tA, tn, tc, tL⟩, ⟨lA, ln, lc, lL⟩, ar, ⟨bA, bn, bc, bL⟩⟩) (.cells #[.string nm] 9)) from (Below.refl _ _).alloc (Nat.le_of_eq Hbase.out.symm) _)
  have hsz0 : base ≤ (World.alloc (bd1 w ⟨nm, ⟨rA, rn, rc, rL⟩, ⟨oA, on, oc, oL⟩, ⟨tA, tn, tc, tL⟩, ⟨lA, ln, lc, lL⟩, ar, ⟨bA, bn, bc, bL⟩⟩) (.cells #[.string nm] 9)).heap.size := by have := Hbase.out; simp; omega
  go_enter Tryz.func43, Tryz.ntmps43
  go_wp2_with (at_builtin; go_loud (refine wpList_append_rd _ rfl (.tmp 8) (.tmp 10) 22 rfl base 9 i0 (.string .empty) 16 Tryz.underlying22 hi hz0 hz1 hz2 rfl _ 1 [.string nm] rfl hO0.out base rA rn rc (sV rL) rfl ((hr0.out.more (Nat.le_of_eq Hbase.out)).below hB0.out) (sV_one rL) (by unfold maxLen; omega) (by omega) hsz0 ?_; intro v2 w2 hown2 hg2 hat2; have HO2 := hide hown2; have HB2 := hide (below_app hB0.out hO0.out hsz0 hg2); have k4 := hs.out w2 (Hbase.out ▸ HB2.out) 4 _ rfl; simp only [] at k4; clear hown2 hg2 hat2))
  clear k4
  go_loopw [3, 4] (fun v i wr => ∃ j m : Nat, ∃ X : List ByteArray, i = .int .i64 (j : Int) ∧ j ≤ ln ∧ Hid (m = X.length) ∧ Hid (X = (nm :: rL) ++ (lL.take j).flatMap (fun l => idnL l.v)) ∧ Hid (wr.ownsRow base 9 1 v m (sV X)) ∧ Hid (Below (bd1 w ⟨nm, ⟨rA, rn, rc, rL⟩, ⟨oA, on, oc, oL⟩, ⟨tA, tn, tc, tL⟩, ⟨lA, ln, lc, lL⟩, ar, ⟨bA, bn, bc, bL⟩⟩).heap.size (bd1 w ⟨nm, ⟨rA, rn, rc, rL⟩, ⟨oA, on, oc, oL⟩, ⟨tA, tn, tc, tL⟩, ⟨lA, ln, lc, lL⟩, ar, ⟨bA, bn, bc, bL⟩⟩) wr)) (fun _ i _ => ln - (intOf i).toNat)
  case atStart => exact ⟨0, 1 + rn, nm :: rL, rfl, Nat.zero_le _, hide (by rw [List.length_cons, hrl]; omega), hide (by simp), hide (by rw [show sV (nm :: rL) = [.string nm] ++ sV rL from rfl]; exact HO2.out), hide (Hbase.out ▸ HB2.out)⟩
  case round =>
    obtain ⟨j, m, X, rfl, hj, HM, HXX, HO, HR⟩ := hrel
    have v4 := hs.out _ HR.out 4 _ rfl
    have v6 := hs.out _ HR.out 6 _ rfl
    simp only [] at v4 v6
    have hsz : base ≤ wr.heap.size := by rw [← Hbase.out]; exact HR.out.size
    by_cases hlt : j < ln
    · obtain ⟨p, hp⟩ := HX.out.locals.get hlt
      obtain ⟨g, o, hA, hg, h1, c0⟩ := HX.out.locals.at_ hp
      simp only [] at hA
      subst hA
      obtain ⟨pn, pt⟩ := p
      have hlt' : (j : Int) < (ln : Int) := by omega
      have c9 := (HR.out.cell hg).trans (c0 0 _ rfl)
      simp only [Nat.add_zero] at c9
      have ht := take_flat (f := fun l : LcW => idnL l.v) hp
      have hle := take_flat_le (fun l : LcW => idnL l.v) lL (j + 1)
      have HX2 := hide (show X ++ [pn] = (nm :: rL) ++ (lL.take (j + 1)).flatMap (fun l => idnL l.v) by rw [ht, HXX.out, List.append_assoc]; rfl)
      have HM2 := hide (show m + 1 = (X ++ [pn]).length by rw [List.length_append, ← HM.out]; rfl)
      have hbd : m + 1 ≤ 2 ^ 40 := by rw [HM2.out, HX2.out, List.length_append, List.length_cons, hrl]; omega
      have ho1 := hide (HO.out.alloc (.cells #[.string pn] 9))
      have hb1 := hide ((Hbase.out ▸ HR.out : Below base _ wr).alloc hsz (.cells #[.string pn] 9))
      clear c0 h1 ht hle hp
      go_wp2_with (at_builtin; refine wpList_append_own_at _ rfl (.tmp 19) (.tmp 26) 22 rfl base 9 i0 (.string .empty) 1 16 Tryz.underlying22 hi hz0 hz1 hz2 rfl (by decide) _ m _ rfl ho1.out ⟨wr.heap.size, 0, none⟩ 1 1 [.string pn] rfl rfl (strLit wr [.string pn] 9) (sV_one [pn]) (by unfold maxLen; omega) (by omega) (by simp; omega) ?_; intro v5 w5 hown5 hg5 _ hat5; have HO5 := hide hown5; have HB5 := hide (below_app hb1.out ho1.out (by simp; omega) hg5); clear hown5 hg5 hat5)
      go_roundw
      case rel => exact ⟨j + 1, m + 1, X ++ [pn], by go_num, by omega, HM2, HX2, hide (sV_app9 X [pn] ▸ HO5.out), hide (Hbase.out ▸ HB5.out)⟩
      case measure => simp [intOf]; omega
    · have hjn : ln = j := by omega
      have hge : ¬ (j : Int) < (ln : Int) := by omega
      have HX1 := hide (show X = (nm :: rL) ++ lL.flatMap (fun l : LcW => idnL l.v) by rw [HXX.out, ← hjn, List.take_of_length_le (Nat.le_of_eq HLL.out)])
      clear hjn HXX
      go_wp2
      clear v4 v6 hge hsz
      go_loopw [3, 5] (fun v i wr => ∃ j m : Nat, ∃ X : List ByteArray, i = .int .i64 (j : Int) ∧ j ≤ bn ∧ Hid (m = X.length) ∧ Hid (X = (nm :: rL) ++ lL.flatMap (fun l : LcW => idnL l.v) ++ (bL.take j).flatMap (fun b => idnB b.v)) ∧ Hid (wr.ownsRow base 9 1 v m (sV X)) ∧ Hid (Below (bd1 w ⟨nm, ⟨rA, rn, rc, rL⟩, ⟨oA, on, oc, oL⟩, ⟨tA, tn, tc, tL⟩, ⟨lA, ln, lc, lL⟩, ar, ⟨bA, bn, bc, bL⟩⟩).heap.size (bd1 w ⟨nm, ⟨rA, rn, rc, rL⟩, ⟨oA, on, oc, oL⟩, ⟨tA, tn, tc, tL⟩, ⟨lA, ln, lc, lL⟩, ar, ⟨bA, bn, bc, bL⟩⟩) wr)) (fun _ i _ => bn - (intOf i).toNat)
      case atStart => exact ⟨0, m, X, rfl, Nat.zero_le _, HM, hide (by rw [HX1.out]; simp), HO, HR⟩
      case round =>
        clear HX1 HM HO HR hj hlt
        obtain ⟨j2, m2, X2, rfl, hj2, HM2, HXX2, HO2, HR2⟩ := hrel
        have v6 := hs.out _ HR2.out 6 _ rfl
        simp only [] at v6
        have hsz : base ≤ wr.heap.size := by rw [← Hbase.out]; exact HR2.out.size
        by_cases hlt : j2 < bn
        · obtain ⟨p, hp⟩ := HX.out.blocks.get hlt
          obtain ⟨g, o, hA, hg, h1, c0⟩ := HX.out.blocks.at_ hp
          simp only [] at hA
          subst hA
          obtain ⟨⟨sA, sn, sc, sL⟩, ⟨tk, tg, ta, tp, tnm⟩⟩ := p
          have hlt' : (j2 : Int) < (bn : Int) := by omega
          have c1 := (HR2.out.cell hg).trans (c0 1 _ rfl)
          have c6 := (HR2.out.cell hg).trans (c0 6 _ rfl)
          simp only [] at c1 c6
          have ht := take_flat (f := fun b : BkW => idnB b.v) hp
          have hle := take_flat_le (fun b : BkW => idnB b.v) bL (j2 + 1)
          by_cases h3 : tk = 3
          · subst h3
            have HX3 := hide (show X2 ++ [tnm] = (nm :: rL) ++ lL.flatMap (fun l : LcW => idnL l.v) ++ (bL.take (j2 + 1)).flatMap (fun b => idnB b.v) by rw [ht, HXX2.out, List.append_assoc _ ((bL.take j2).flatMap _)]; rfl)
            have HM3 := hide (show m2 + 1 = (X2 ++ [tnm]).length by rw [List.length_append, ← HM2.out]; rfl)
            have hbd : m2 + 1 ≤ 2 ^ 40 := by rw [HM3.out, HX3.out, List.length_append, List.length_append, List.length_cons, hrl]; omega
            have ho1 := hide (HO2.out.alloc (.cells #[.string tnm] 9))
            have hb1 := hide ((Hbase.out ▸ HR2.out : Below base _ wr).alloc hsz (.cells #[.string tnm] 9))
            clear c0 h1 ht hle hp
            go_wp2_with (at_builtin; refine wpList_append_own_at _ rfl (.tmp 43) (.tmp 51) 22 rfl base 9 i0 (.string .empty) 1 16 Tryz.underlying22 hi hz0 hz1 hz2 rfl (by decide) _ m2 _ rfl ho1.out ⟨wr.heap.size, 0, none⟩ 1 1 [.string tnm] rfl rfl (strLit wr [.string tnm] 9) (sV_one [tnm]) (by unfold maxLen; omega) (by omega) (by simp; omega) ?_; intro v5 w5 hown5 hg5 _ hat5; have HO5 := hide hown5; have HB5 := hide (below_app hb1.out ho1.out (by simp; omega) hg5); clear hown5 hg5 hat5)
            go_roundw
            case rel => exact ⟨j2 + 1, m2 + 1, X2 ++ [tnm], by go_num, by omega, HM3, HX3, hide (sV_app9 X2 [tnm] ▸ HO5.out), hide (Hbase.out ▸ HB5.out)⟩
            case measure => simp [intOf]; omega
          · have t1 : (tk == 3) = false := by rw [beq_eq_false_iff_ne]; exact h3
            have HX3 := hide (show X2 = (nm :: rL) ++ lL.flatMap (fun l : LcW => idnL l.v) ++ (bL.take (j2 + 1)).flatMap (fun b => idnB b.v) by rw [ht, HXX2.out]; simp [idnB, BkW.v, TmW.v, h3])
            clear c0 h1 ht hle hp h3
            go_wp2
            go_roundw
            case rel => exact ⟨j2 + 1, m2, X2, by go_num, by omega, HM2, HX3, HO2, HR2⟩
            case measure => simp [intOf]; omega
        · have hjn : bn = j2 := by omega
          have hge : ¬ (j2 : Int) < (bn : Int) := by omega
          have HXF := hide (show X2 = (nm :: rL) ++ lL.flatMap (fun l : LcW => idnL l.v) ++ bL.flatMap (fun b => idnB b.v) by rw [HXX2.out, ← hjn, List.take_of_length_le (Nat.le_of_eq HBL.out)])
          clear hjn HXX2
          go_wp2
          go_ret
          refine ⟨_, rfl, ?_, HB.out.trans (HR2.out.mono HB.out.size)⟩
          rw [show LL = X2 from HLL2.out.symm.trans HXF.out.symm, ← HM2.out]
          exact ownsRow_base HO2.out (by rw [← Hbase.out]; exact HB.out.size)
end Go.Proofs.YtbdimnncobpfdaaGreat

/- The reference's Names and Bytes. -/
set_option linter.unusedVariables false
namespace Go.Proofs.YtbdimnncobpfdaaGreat
open Go.RowKit

theorem own_slice {w : World} {base : Nat} {e : TypeId} {size n : Nat} {v : Value} {xs : List Value} (h : w.ownsRow base e size v n xs) : ∃ A c, v = .slice A n c := by
  rcases h.2 with ⟨h1, h2⟩ | ⟨g, cap, cur, h1, _⟩
  · exact ⟨none, 0, by rw [h1, h2]⟩
  · exact ⟨_, _, h1⟩
def bytesN (x : BdV) : Nat := sumN ByteArray.size (allS x)
/-- the distinct names, in order -/
def namesS (x : BdV) : List ByteArray := (allS x).foldl insS []
theorem foldl_ins_len (M : List ByteArray) : ∀ L : List ByteArray, (L.foldl insS M).length ≤ M.length + L.length := by
  intro L
  induction L generalizing M with
  | nil => simp
  | cons a L ih =>
    have := ih (insS M a)
    have h2 : (insS M a).length ≤ M.length + 1 := insS_len
    simp only [List.foldl_cons, List.length_cons]
    omega

set_option maxHeartbeats 4000000 in
set_option maxRecDepth 100000 in
theorem RBytes_any (x : BdW) (w : World) (hx : OneBd w w.heap.size x) (hN : (allS x.v).length ≤ 2 ^ 40) (hB : bytesN x.v ≤ 2 ^ 62) :
    Calls Tryz.prog 17 #[aggBd x] w fun e w' => e = .returned (.int .i64 (bytesN x.v : Int)) ∧ Below w.heap.size w w' := by
  have HB := hide (bd1_below w x)
  have HC := hide (RAll_any x (bd1 w x) (hx.up HB.out) hN)
  clear hx
  unfold bytesN at hB ⊢
  obtain ⟨L, hL⟩ : ∃ L, allS x.v = L := ⟨_, rfl⟩
  rw [hL] at hN hB HC ⊢
  clear hL
  obtain ⟨nm, ⟨rA, rn, rc, rL⟩, ⟨oA, on, oc, oL⟩, ⟨tA, tn, tc, tL⟩, ⟨lA, ln, lc, lL⟩, ar, ⟨bA, bn, bc, bL⟩⟩ := x
  obtain ⟨n, hn⟩ : ∃ n, L.length = n := ⟨_, rfl⟩
  have Hn := hide hn
  rw [hn] at hN
  clear hn
  go_enter Tryz.func17, Tryz.ntmps17
  go_wp2_with fail
  refine HC.out.mono ?_
  rintro e w1 ⟨v, rfl, hown, hb⟩
  rw [Hn.out] at hown
  obtain ⟨A, c, rfl⟩ := own_slice hown
  have HR := hide (Rd.of_own hown)
  have HB1 := hide (HB.out.trans (hb.mono HB.out.size))
  clear hown hb
  go_wp2
  go_loopw [3, 5] (fun v i wr => ∃ j m : Nat, i = .int .i64 (j : Int) ∧ v = .int .i64 (m : Int) ∧ j ≤ n ∧ Hid (m = sumN ByteArray.size (L.take j)) ∧ wr = w1) (fun _ i _ => n - (intOf i).toNat)
  case atStart => exact ⟨0, 0, rfl, rfl, Nat.zero_le _, hide (by simp [sumN]), rfl⟩
  case round =>
    obtain ⟨j, m, rfl, rfl, hj, HM, rfl⟩ := hrel
    by_cases hlt : j < n
    · obtain ⟨s, hs⟩ : ∃ s, L[j]? = some s := ⟨_, List.getElem?_eq_getElem (by rw [Hn.out]; exact hlt)⟩
      obtain ⟨b, o, hA, _, c0⟩ := HR.out.str hs
      subst hA
      have hlt' : (j : Int) < (n : Int) := by omega
      have hu := sumN_up (f := ByteArray.size) hs
      have hle := sumN_le ByteArray.size L (j + 1)
      have HM2 := hide (show m + s.size = sumN ByteArray.size (L.take (j + 1)) by rw [hu, HM.out])
      have hbd : m + s.size ≤ 2 ^ 62 := by rw [HM2.out]; omega
      have t1 : IntKind.i64.wrap ((m : Int) + (s.size : Int)) = (m : Int) + (s.size : Int) := wrapI9 _ (by omega) (by omega)
      clear hu hle hs
      go_wp2
      go_roundw
      case rel => exact ⟨j + 1, m + s.size, by go_num, congrArg (fun z : Int => Value.int .i64 z) (by omega), by omega, HM2, trivial⟩
      case measure => simp [intOf]; omega
    · have hjn : n = j := by omega
      have hge : ¬ (j : Int) < (n : Int) := by omega
      have HF := hide (show m = sumN ByteArray.size L by rw [HM.out, ← hjn, sumN_all _ Hn.out])
      clear hjn
      go_wp2
      go_ret
      exact ⟨congrArg (fun z : Nat => Ending.returned (.int .i64 (z : Int))) HF.out, HB1.out⟩

set_option maxHeartbeats 4000000 in
set_option maxRecDepth 100000 in
theorem RNames_any (x : BdW) (w : World) (hx : OneBd w w.heap.size x) (hN : (allS x.v).length ≤ 2 ^ 39) :
    Calls Tryz.prog 15 #[aggBd x] w (StrsOut w (namesS x.v)) := by
  have HB := hide (bd1_below w x)
  have HC := hide (RAll_any x (bd1 w x) (hx.up HB.out) (by omega))
  clear hx
  unfold namesS
  obtain ⟨L, hL⟩ : ∃ L, allS x.v = L := ⟨_, rfl⟩
  rw [hL] at hN HC ⊢
  clear hL
  obtain ⟨nm, ⟨rA, rn, rc, rL⟩, ⟨oA, on, oc, oL⟩, ⟨tA, tn, tc, tL⟩, ⟨lA, ln, lc, lL⟩, ar, ⟨bA, bn, bc, bL⟩⟩ := x
  obtain ⟨n, hn⟩ : ∃ n, L.length = n := ⟨_, rfl⟩
  have Hn := hide hn
  rw [hn] at hN
  clear hn
  go_enter Tryz.func15, Tryz.ntmps15
  go_wp2_with fail
  refine HC.out.mono ?_
  rintro e w1 ⟨v, rfl, hown, hb⟩
  rw [Hn.out] at hown
  obtain ⟨A, c, rfl⟩ := own_slice hown
  have HR := hide (Rd.of_own hown)
  have HB1 := hide (HB.out.trans (hb.mono HB.out.size))
  clear hown hb
  go_wp2
  go_loopw [3, 5] (fun v i wr => ∃ j m : Nat, ∃ X : List ByteArray, i = .int .i64 (j : Int) ∧ j ≤ n ∧ Hid (m = X.length) ∧ m ≤ j ∧ Hid (X = (L.take j).foldl insS []) ∧ Hid (wr.ownsRow w.heap.size 9 1 v m (sV X)) ∧ Hid (Below w1.heap.size w1 wr)) (fun _ i _ => n - (intOf i).toNat)
  case atStart => exact ⟨0, 0, [], rfl, Nat.zero_le _, hide rfl, Nat.zero_le _, hide (by simp), hide (World.ownsRow_nil _ _ _ _), hide (Below.refl _ _)⟩
  case round =>
    obtain ⟨j, m, X, rfl, hj, HM, hm, HX, HO, HW⟩ := hrel
    by_cases hlt : j < n
    · obtain ⟨s, hs⟩ : ∃ s, L[j]? = some s := ⟨_, List.getElem?_eq_getElem (by rw [Hn.out]; exact hlt)⟩
      obtain ⟨b, o, hA, hbb, c0⟩ := HR.out.str hs
      subst hA
      have c1 := (HW.out.cell hbb).trans c0
      have hlt' : (j : Int) < (n : Int) := by omega
      have HX2 := hide (show insS X s = (L.take (j + 1)).foldl insS [] by rw [List.take_add_one, hs, List.foldl_append, ← HX.out]; rfl)
      have hm2 : (insS X s).length ≤ X.length + 1 := insS_len
      have HM2 := HM
      rw [← HM.out] at hm2
      obtain ⟨A3, c3, rfl⟩ := own_slice HO.out
      have HC2 := hide (Insert_any9 A3 m c3 X s wr (Rd.of_own HO.out) (by omega))
      clear c0 hs
      go_wp2_with fail
      refine HC2.out.mono ?_
      rintro e w2 ⟨v2, rfl, hown2, hb2⟩
      have HO2 := hide (ownsRow_base hown2 (show w.heap.size ≤ wr.heap.size from Nat.le_trans HB1.out.size HW.out.size))
      have HW2 := hide (HW.out.trans (hb2.mono HW.out.size))
      clear hown2 hb2
      go_wp2
      go_roundw
      case rel => exact ⟨j + 1, (insS X s).length, insS X s, by go_num, by omega, hide rfl, by omega, HX2, HO2, HW2⟩
      case measure => simp [intOf]; omega
    · have hjn : n = j := by omega
      have hge : ¬ (j : Int) < (n : Int) := by omega
      have HF := hide (show X = L.foldl insS [] by rw [HX.out, ← hjn, List.take_of_length_le (Nat.le_of_eq Hn.out)])
      clear hjn
      go_wp2
      go_ret
      refine ⟨_, rfl, ?_, HB1.out.trans (HW.out.mono HB1.out.size)⟩
      rw [← HF.out, ← HM.out]
      exact HO.out
end Go.Proofs.YtbdimnncobpfdaaGreat

/- The code's list of a body's identifiers. -/
set_option linter.unusedVariables false
namespace Go.Proofs.YtbdimnncobpfdaaGreat
open Go.RowKit

theorem strLit2 (w : World) (o : Obj) (l : List Value) (t : TypeId) : ∀ j u, l[j]? = some u → ((w.alloc o).alloc (.cells l.toArray t)).cell? ((⟨w.heap.size + 1, 0, none⟩ : Addr).add j) = some u := by
  have := strLit (w.alloc o) l t
  rwa [show (w.alloc o).heap.size = w.heap.size + 1 by simp] at this

set_option maxHeartbeats 4000000 in
set_option maxRecDepth 100000 in
theorem Idents_any (x : BdW) (w : World) (hx : OneBd w w.heap.size x) (hN : (allS x.v).length ≤ 2 ^ 40) :
    Calls Tryz.prog 40 #[aggBd x] w (StrsOut w (allS x.v)) := by
  obtain ⟨i0, hi, hz0, hz1, hz2⟩ := info_parts infoS
  have HB := hide (bd1_below w x)
  have HX := hide (hx.up HB.out)
  have HLL := hide hx.locals.len
  have HBL := hide hx.blocks.len
  have hrl := hx.regions.len
  have hln := hx.locals.nm
  have hbn := hx.blocks.nm
  have hs := hide fun (w' : World) (h : Below (bd1 w x).heap.size (bd1 w x) w') => bd1_cells h
  obtain ⟨base, hbase⟩ : ∃ b, (bd1 w x).heap.size = b := ⟨_, rfl⟩
  have Hbase := hide hbase
  clear hx hbase
  obtain ⟨nm, ⟨rA, rn, rc, rL⟩, ⟨oA, on, oc, oL⟩, ⟨tA, tn, tc, tL⟩, ⟨lA, ln, lc, lL⟩, ar, ⟨bA, bn, bc, bL⟩⟩ := x
  simp only [] at hln hbn hrl
  unfold maxLen at hln hbn
  have hAll : allS (BdW.v ⟨nm, ⟨rA, rn, rc, rL⟩, ⟨oA, on, oc, oL⟩, ⟨tA, tn, tc, tL⟩, ⟨lA, ln, lc, lL⟩, ar, ⟨bA, bn, bc, bL⟩⟩) = (nm :: rL) ++ lL.flatMap (fun l => idnL l.v) ++ bL.flatMap (fun b => idnB b.v) := by
    unfold allS BdW.v
    simp only [List.flatMap_map]
  rw [hAll] at hN ⊢
  clear hAll
  have hNT : rn + 1 + (lL.flatMap (fun l : LcW => idnL l.v)).length + (bL.flatMap (fun b : BkW => idnB b.v)).length ≤ 2 ^ 40 := by
    simp only [List.length_append, List.length_cons, hrl] at hN
    exact hN
  have hR1 : rn + 1 ≤ 2 ^ 40 := by omega
  clear hN
  obtain ⟨LL, hLL⟩ : ∃ L, (nm :: rL) ++ lL.flatMap (fun l : LcW => idnL l.v) ++ bL.flatMap (fun b : BkW => idnB b.v) = L := ⟨_, rfl⟩
  rw [hLL]
  have HLL2 := hide hLL
  clear hLL
  have hr0 := hide (show Rd _ _ rA rn (sV rL) from Strs.rd HX.out.regions)
  have hO0 := hide (show (World.alloc (bd1 w ⟨nm, ⟨rA, rn, rc, rL⟩, ⟨oA, on, oc, oL⟩, ⟨tA, tn, tc, tL⟩, ⟨lA, ln, lc, lL⟩, ar, ⟨bA, bn, bc, bL⟩⟩) (.cells #[.string nm] 9)).ownsRow base 9 1 (.slice (some ⟨w.heap.size + 1, 0, none⟩) 1 1) 1 [.string nm] from by
    rw [← bd1_size w ⟨nm, ⟨rA, rn, rc, rL⟩, ⟨oA, on, oc, oL⟩, ⟨tA, tn, tc, tL⟩, ⟨lA, ln, lc, lL⟩, ar, ⟨bA, bn, bc, bL⟩⟩]
    exact World.ownsRow_lit _ #[.string nm] 1 (Nat.le_of_eq Hbase.out.symm) (by unfold maxLen; omega) rfl)
  have hB0 := hide (show Below base (bd1 w ⟨nm, ⟨rA, rn, rc, rL⟩, ⟨oA, on, oc, oL⟩, ⟨tA, tn, tc, tL⟩, ⟨lA, ln, lc, lL⟩, ar, ⟨bA, bn, bc, bL⟩⟩) (World.alloc (bd1 w ⟨nm, ⟨rA, rn, rc, rL⟩, ⟨oA, on, oc, oL⟩, ⟨tA, tn, tc, tL⟩, ⟨lA, ln, lc, lL⟩, ar, ⟨bA, bn, bc, bL⟩⟩) (.cells #[.string nm] 9)) from (Below.refl _ _).alloc (Nat.le_of_eq Hbase.out.symm) _)
  have hsz0 : base ≤ (World.alloc (bd1 w ⟨nm, ⟨rA, rn, rc, rL⟩, ⟨oA, on, oc, oL⟩, ⟨tA, tn, tc, tL⟩, ⟨lA, ln, lc, lL⟩, ar, ⟨bA, bn, bc, bL⟩⟩) (.cells #[.string nm] 9)).heap.size := by have := Hbase.out; simp; omega
  go_enter Tryz.func40, Tryz.ntmps40
  go_wp2_with (at_builtin; go_loud (refine wpList_append_rd _ rfl (.tmp 10) (.tmp 12) 22 rfl base 9 i0 (.string .empty) 16 Tryz.underlying22 hi hz0 hz1 hz2 rfl _ 1 [.string nm] rfl hO0.out base rA rn rc (sV rL) rfl ((hr0.out.more (Nat.le_of_eq Hbase.out)).below hB0.out) (sV_one rL) (by unfold maxLen; omega) (by omega) hsz0 ?_; intro v2 w2 hown2 hg2 hat2; have HO2 := hide hown2; have HB2 := hide (below_app hB0.out hO0.out hsz0 hg2); have k4 := hs.out w2 (Hbase.out ▸ HB2.out) 4 _ rfl; simp only [] at k4; clear hown2 hg2 hat2))
  clear k4
  go_loopw [3, 17] (fun v i wr => ∃ j m : Nat, ∃ X : List ByteArray, i = .int .i64 (j : Int) ∧ j ≤ ln ∧ Hid (m = X.length) ∧ Hid (X = (nm :: rL) ++ (lL.take j).flatMap (fun l => idnL l.v)) ∧ Hid (wr.ownsRow base 9 1 v m (sV X)) ∧ Hid (Below (bd1 w ⟨nm, ⟨rA, rn, rc, rL⟩, ⟨oA, on, oc, oL⟩, ⟨tA, tn, tc, tL⟩, ⟨lA, ln, lc, lL⟩, ar, ⟨bA, bn, bc, bL⟩⟩).heap.size (bd1 w ⟨nm, ⟨rA, rn, rc, rL⟩, ⟨oA, on, oc, oL⟩, ⟨tA, tn, tc, tL⟩, ⟨lA, ln, lc, lL⟩, ar, ⟨bA, bn, bc, bL⟩⟩) wr)) (fun _ i _ => ln - (intOf i).toNat)
  case atStart => exact ⟨0, 1 + rn, nm :: rL, rfl, Nat.zero_le _, hide (by rw [List.length_cons, hrl]; omega), hide (by simp), hide (by rw [show sV (nm :: rL) = [.string nm] ++ sV rL from rfl]; exact HO2.out), hide (Hbase.out ▸ HB2.out)⟩
  case round =>
    obtain ⟨j, m, X, rfl, hj, HM, HXX, HO, HR⟩ := hrel
    have v4 := hs.out _ HR.out 4 _ rfl
    have v6 := hs.out _ HR.out 6 _ rfl
    simp only [] at v4 v6
    have hsz : base ≤ wr.heap.size := by rw [← Hbase.out]; exact HR.out.size
    by_cases hlt : j < ln
    · obtain ⟨p, hp⟩ := HX.out.locals.get hlt
      obtain ⟨g, o, hA, hg, h1, c0⟩ := HX.out.locals.at_ hp
      simp only [] at hA
      subst hA
      obtain ⟨pn, pt⟩ := p
      have hlt' : (j : Int) < (ln : Int) := by omega
      have c9 := (HR.out.cell hg).trans (c0 0 _ rfl)
      have c10 := (HR.out.cell hg).trans (c0 1 _ rfl)
      simp only [Nat.add_zero] at c9
      have ht := take_flat (f := fun l : LcW => idnL l.v) hp
      have hle := take_flat_le (fun l : LcW => idnL l.v) lL (j + 1)
      have HX2 := hide (show X ++ [pn] = (nm :: rL) ++ (lL.take (j + 1)).flatMap (fun l => idnL l.v) by rw [ht, HXX.out, List.append_assoc]; rfl)
      have HM2 := hide (show m + 1 = (X ++ [pn]).length by rw [List.length_append, ← HM.out]; rfl)
      have hbd : m + 1 ≤ 2 ^ 40 := by rw [HM2.out, HX2.out, List.length_append, List.length_cons, hrl]; omega
      have ho1 := hide ((HO.out.alloc (.cells #[.string pn, .int .i64 pt] 54)).alloc (.cells #[.string pn] 9))
      have hb1 := hide (((Hbase.out ▸ HR.out : Below base _ wr).alloc hsz (.cells #[.string pn, .int .i64 pt] 54)).alloc (by simp; omega) (.cells #[.string pn] 9))
      have HLT := hide (strLit2 wr (.cells #[.string pn, .int .i64 pt] 54) [.string pn] 9)
      clear c0 h1 ht hle hp
      go_wp2_with (at_builtin; refine wpList_append_own_at _ rfl (.tmp 21) (.tmp 24) 22 rfl base 9 i0 (.string .empty) 1 16 Tryz.underlying22 hi hz0 hz1 hz2 rfl (by decide) _ m _ rfl ho1.out ⟨wr.heap.size + 1, 0, none⟩ 1 1 [.string pn] rfl rfl HLT.out (sV_one [pn]) (by unfold maxLen; omega) (by omega) (by simp; omega) ?_; intro v5 w5 hown5 hg5 _ hat5; have HO5 := hide hown5; have HB5 := hide (below_app hb1.out ho1.out (by simp; omega) hg5); clear hown5 hg5 hat5)
      go_roundw
      case rel => exact ⟨j + 1, m + 1, X ++ [pn], by go_num, by omega, HM2, HX2, hide (sV_app9 X [pn] ▸ HO5.out), hide (Hbase.out ▸ HB5.out)⟩
      case measure => simp [intOf]; omega
    · have hjn : ln = j := by omega
      have hge : ¬ (j : Int) < (ln : Int) := by omega
      have HX1 := hide (show X = (nm :: rL) ++ lL.flatMap (fun l : LcW => idnL l.v) by rw [HXX.out, ← hjn, List.take_of_length_le (Nat.le_of_eq HLL.out)])
      clear hjn HXX
      go_wp2
      clear v4 v6 hge hsz
      go_loopw [3, 30] (fun v i wr => ∃ j m : Nat, ∃ X : List ByteArray, i = .int .i64 (j : Int) ∧ j ≤ bn ∧ Hid (m = X.length) ∧ Hid (X = (nm :: rL) ++ lL.flatMap (fun l : LcW => idnL l.v) ++ (bL.take j).flatMap (fun b => idnB b.v)) ∧ Hid (wr.ownsRow base 9 1 v m (sV X)) ∧ Hid (Below (bd1 w ⟨nm, ⟨rA, rn, rc, rL⟩, ⟨oA, on, oc, oL⟩, ⟨tA, tn, tc, tL⟩, ⟨lA, ln, lc, lL⟩, ar, ⟨bA, bn, bc, bL⟩⟩).heap.size (bd1 w ⟨nm, ⟨rA, rn, rc, rL⟩, ⟨oA, on, oc, oL⟩, ⟨tA, tn, tc, tL⟩, ⟨lA, ln, lc, lL⟩, ar, ⟨bA, bn, bc, bL⟩⟩) wr)) (fun _ i _ => bn - (intOf i).toNat)
      case atStart => exact ⟨0, m, X, rfl, Nat.zero_le _, HM, hide (by rw [HX1.out]; simp), HO, HR⟩
      case round =>
        clear HX1 HM HO HR hj hlt
        obtain ⟨j2, m2, X2, rfl, hj2, HM2, HXX2, HO2, HR2⟩ := hrel
        have v6 := hs.out _ HR2.out 6 _ rfl
        simp only [] at v6
        have hsz : base ≤ wr.heap.size := by rw [← Hbase.out]; exact HR2.out.size
        by_cases hlt : j2 < bn
        · obtain ⟨p, hp⟩ := HX.out.blocks.get hlt
          obtain ⟨g, o, hA, hg, h1, c0⟩ := HX.out.blocks.at_ hp
          simp only [] at hA
          subst hA
          obtain ⟨⟨sA, sn, sc, sL⟩, ⟨tk, ⟨tgA, tgn, tgc, tgL⟩, ⟨taA, tan, tac, taL⟩, ⟨tpl, tpA, tpn, tpc, tps⟩, tnm⟩⟩ := p
          have hlt' : (j2 : Int) < (bn : Int) := by omega
          have c1 := (HR2.out.cell hg).trans (c0 1 _ rfl)
          have c2 := (HR2.out.cell hg).trans (c0 2 _ rfl)
          have c3 := (HR2.out.cell hg).trans (c0 3 _ rfl)
          have c4 := (HR2.out.cell hg).trans (c0 4 _ rfl)
          have c5 := (HR2.out.cell hg).trans (c0 5 _ rfl)
          have c6 := (HR2.out.cell hg).trans (c0 6 _ rfl)
          have c7 := (HR2.out.cell hg).trans (c0 0 _ rfl)
          simp only [Nat.add_zero] at c1 c2 c3 c4 c5 c6 c7
          have ht := take_flat (f := fun b : BkW => idnB b.v) hp
          have hle := take_flat_le (fun b : BkW => idnB b.v) bL (j2 + 1)
          by_cases h3 : tk = 3
          · subst h3
            have HX3 := hide (show X2 ++ [tnm] = (nm :: rL) ++ lL.flatMap (fun l : LcW => idnL l.v) ++ (bL.take (j2 + 1)).flatMap (fun b => idnB b.v) by rw [ht, HXX2.out, List.append_assoc _ ((bL.take j2).flatMap _)]; rfl)
            have HM3 := hide (show m2 + 1 = (X2 ++ [tnm]).length by rw [List.length_append, ← HM2.out]; rfl)
            have hbd : m2 + 1 ≤ 2 ^ 40 := by rw [HM3.out, HX3.out, List.length_append, List.length_append, List.length_cons, hrl]; omega
            have ho1 := hide ((HO2.out.alloc (.cells #[.slice sA sn sc, .int .i64 3, .slice tgA tgn tgc, .slice taA tan tac, .int .i64 tpl, .slice tpA tpn tpc, .string tnm] 44)).alloc (.cells #[.string tnm] 9))
            have hb1 := hide (((Hbase.out ▸ HR2.out : Below base _ wr).alloc hsz (.cells #[.slice sA sn sc, .int .i64 3, .slice tgA tgn tgc, .slice taA tan tac, .int .i64 tpl, .slice tpA tpn tpc, .string tnm] 44)).alloc (by simp; omega) (.cells #[.string tnm] 9))
            have HLT := hide (strLit2 wr (.cells #[.slice sA sn sc, .int .i64 3, .slice tgA tgn tgc, .slice taA tan tac, .int .i64 tpl, .slice tpA tpn tpc, .string tnm] 44) [.string tnm] 9)
            clear c0 h1 ht hle hp
            go_wp2_with (at_builtin; refine wpList_append_own_at _ rfl (.tmp 38) (.tmp 42) 22 rfl base 9 i0 (.string .empty) 1 16 Tryz.underlying22 hi hz0 hz1 hz2 rfl (by decide) _ m2 _ rfl ho1.out ⟨wr.heap.size + 1, 0, none⟩ 1 1 [.string tnm] rfl rfl HLT.out (sV_one [tnm]) (by unfold maxLen; omega) (by omega) (by simp; omega) ?_; intro v5 w5 hown5 hg5 _ hat5; have HO5 := hide hown5; have HB5 := hide (below_app hb1.out ho1.out (by simp; omega) hg5); clear hown5 hg5 hat5)
            go_roundw
            case rel => exact ⟨j2 + 1, m2 + 1, X2 ++ [tnm], by go_num, by omega, HM3, HX3, hide (sV_app9 X2 [tnm] ▸ HO5.out), hide (Hbase.out ▸ HB5.out)⟩
            case measure => simp [intOf]; omega
          · have t1 : (tk == 3) = false := by rw [beq_eq_false_iff_ne]; exact h3
            have HX3 := hide (show X2 = (nm :: rL) ++ lL.flatMap (fun l : LcW => idnL l.v) ++ (bL.take (j2 + 1)).flatMap (fun b => idnB b.v) by rw [ht, HXX2.out]; simp [idnB, BkW.v, TmW.v, h3])
            have ho1 := hide (HO2.out.alloc (.cells #[.slice sA sn sc, .int .i64 tk, .slice tgA tgn tgc, .slice taA tan tac, .int .i64 tpl, .slice tpA tpn tpc, .string tnm] 44))
            have hb1 := hide (HR2.out.alloc HR2.out.size (.cells #[.slice sA sn sc, .int .i64 tk, .slice tgA tgn tgc, .slice taA tan tac, .int .i64 tpl, .slice tpA tpn tpc, .string tnm] 44))
            clear c0 h1 ht hle hp h3
            go_wp2
            go_roundw
            case rel => exact ⟨j2 + 1, m2, X2, by go_num, by omega, HM2, HX3, ho1, hb1⟩
            case measure => simp [intOf]; omega
        · have hjn : bn = j2 := by omega
          have hge : ¬ (j2 : Int) < (bn : Int) := by omega
          have HXF := hide (show X2 = (nm :: rL) ++ lL.flatMap (fun l : LcW => idnL l.v) ++ bL.flatMap (fun b => idnB b.v) by rw [HXX2.out, ← hjn, List.take_of_length_le (Nat.le_of_eq HBL.out)])
          clear hjn HXX2
          go_wp2
          go_ret
          refine ⟨_, rfl, ?_, HB.out.trans (HR2.out.mono HB.out.size)⟩
          rw [show LL = X2 from HLL2.out.symm.trans HXF.out.symm, ← HM2.out]
          exact ownsRow_base HO2.out (by rw [← Hbase.out]; exact HB.out.size)
end Go.Proofs.YtbdimnncobpfdaaGreat
