/- compare and pairUp. -/
import Derived.Test.YtagnikaghhobjaaRegP
import Derived.Test.YtagnikaghhobjaaRegV
import Derived.StillTailTactics
set_option linter.unusedVariables false
namespace Go.Proofs.Ytagnikaghhobjaa
open Go.RowKit

theorem infoArr : (Try.prog.info? 31).map (fun i => (i.zero, i.size, i.bytes)) = some (some (.agg #[.int .i64 0, .int .i64 0]), 2, 16) := by kernel_rfl
/-- the pairs made so far, and zeros -/
def mk2 (ps : List Pr) (n : Nat) : List Value := ps.flatMap pV ++ List.replicate ((n - ps.length) * 2) (.int .i64 0)
theorem mk2_len {ps : List Pr} {n : Nat} (h : ps.length ≤ n) : (mk2 ps n).length = n * 2 := by
  unfold mk2; rw [List.length_append, flatMap_len pV_len, List.length_replicate]; omega
theorem mk2_zero {n : Nat} {z : Value} (hz : z.cells = #[.int .i64 0, .int .i64 0]) : madeCells z.cells (n * 2) = (mk2 [] n).toArray := by
  apply Array.ext
  · rw [size_madeCells]; simp [mk2]
  · intro i h1 h2
    have : i % 2 = 0 ∨ i % 2 = 1 := by omega
    rcases this with e | e <;> simp [madeCells, hz, mk2, e]
theorem mk2_up {ps : List Pr} {n : Nat} (p : Pr) (h : ps.length < n) : ((mk2 ps n).set (ps.length * 2) (.int .i64 p.1)).set (ps.length * 2 + 1) (.int .i64 p.2) = mk2 (ps ++ [p]) n := by
  have hl := flatMap_len pV_len ps
  unfold mk2
  rw [List.set_append_right _ _ (by rw [hl]; exact Nat.le_refl _), List.set_append_right _ _ (by rw [hl]; omega), hl, Nat.sub_self, show ps.length * 2 + 1 - ps.length * 2 = 1 by omega, List.flatMap_append, List.length_append, List.length_singleton, List.append_assoc]
  congr 1
  rw [show (n - ps.length) * 2 = (n - (ps.length + 1)) * 2 + 2 by omega]
  rfl
theorem mk2_done {ps : List Pr} : mk2 ps ps.length = ps.flatMap pV := by unfold mk2; rw [Nat.sub_self]; simp

/-- a slice of pairs that is returned -/
def RetP (w' : World) (A : Option Addr) (n c : Nat) (ps : List Pr) : Prop := n ≤ c ∧ c ≤ maxLen ∧ Cells w' w'.heap.size 2 pV A n ps
theorem wpList_make2 {P : Program} (w : World) {ops : Array Oper} {rest : List Oper} {o : Oper} {a : Act} {Q : Exit → Act → World → Prop}
    (hg : o.guard = none) (l c : Operand) (t : TypeId) (hop : o.op = Op.makeSlice t l c)
    (e : TypeId) (i : TypeInfo) (z : Value) (h1 : P.underlying t = some (.slice e)) (h2 : P.info? e = some i) (h3 : i.zero = some z) (h4 : i.size = 2) (hz : z.cells = #[.int .i64 0, .int .i64 0])
    (n : Nat) (hl : a.eval l = .int .i64 (n : Int)) (hc : a.eval c = .int .i64 (n : Int)) (b2 : i.bytes * n ≤ 281474976710656) (b3 : n ≤ 1000000)
    (hK : wpList P ops Q rest (a.put o.dst (.slice (some ⟨w.heap.size, 0, none⟩) n n)) (w.alloc (.cells (mk2 [] n).toArray e))) :
    wpList P ops Q (o :: rest) a w := by
  have hb' : (i.bytes : Int) * (n : Int) ≤ 281474976710656 := by
    have h : ((i.bytes * n : Nat) : Int) ≤ 281474976710656 := by omega
    rwa [Int.natCast_mul] at h
  have hr := run_make (P := P) w t e i z h1 h2 h3 .i64 .i64 n n (by omega) (Int.le_refl _) hb' (by omega)
  simp only [Int.toNat_natCast, h4, mk2_zero hz] at hr
  refine wpList_plain hg fun K hK' => ?_
  unfold Oper.wp
  simp [execOp, hop, hl, hc, hr, Result.andThen]
  exact hK' _ _ hK
theorem heap_setCell2 {w : World} {b i : Nat} {cs : Array Value} {t : TypeId} {fr : Nat × Nat} (h : w.heap[b]? = some (.cells cs t fr)) (v : Value) : (w.setCell ⟨b, i, none⟩ v).heap[b]? = some (.cells (cs.setIfInBounds i v) t fr) := by
  simp [World.setCell, Array.getElem?_modify, h]

set_option maxHeartbeats 4000000 in
set_option maxRecDepth 100000 in
theorem pairUp_yes (A B : Option Addr) (n c d : Nat) (xs ys : List Int) (w : World) (hx : Rd w w.heap.size A n (i64s xs)) (hy : Rd w w.heap.size B n (i64s ys)) (hn : n ≤ 65535) :
    Calls Try.prog 47 #[.slice A n c, .slice B n d] w fun e w' => ∃ A' c', e = .returned (.tuple #[.slice A' n c', .bool true]) ∧ RetP w' A' n c' (xs.zip ys) ∧ Below w.heap.size w w' := by
  obtain ⟨i0, hi, hz0, hz1, hz2⟩ := info_parts infoArr
  have HX := hide hx
  have HY := hide hy
  have HXL := hide hx.ilen
  have HYL := hide hy.ilen
  have hzl : (xs.zip ys).length = n := by rw [List.length_zip, HXL.out, HYL.out, Nat.min_self]
  have HZL := hide hzl
  clear hx hy hzl
  go_enter Try.func47, Try.ntmps47
  go_wp2_with (at_make; go_must (refine wpList_make2 _ rfl _ _ _ rfl 31 i0 _ Try.underlying22 hi hz0 hz1 rfl n rfl rfl (by rw [hz2]; omega) (by omega) ?_))
  have hw0 : (w.alloc (.cells (mk2 [] n).toArray 31)).heap[w.heap.size]? = some (.cells (mk2 [] n).toArray 31 (0, 0)) := heap_alloc_new _ _
  have hb0 : Below w.heap.size w (w.alloc (.cells (mk2 [] n).toArray 31)) := (Below.refl _ _).alloc (Nat.le_refl _) _
  have hsz0 : w.heap.size < (w.alloc (.cells (mk2 [] n).toArray 31)).heap.size := by rw [World.size_alloc]; omega
  generalize w.alloc (.cells (mk2 [] n).toArray 31) = w0 at *
  go_loopw [18] (fun i wr => ∃ k : Nat, i = .int .i64 (k : Int) ∧ k ≤ n ∧ Hid (wr.heap[w.heap.size]? = some (.cells (mk2 ((xs.zip ys).take k) n).toArray 31 (0, 0))) ∧ Below w.heap.size w wr) (fun i _ => n - (intOf i).toNat)
  case atStart => exact ⟨0, rfl, Nat.zero_le _, hw0, hb0⟩
  case round =>
    obtain ⟨k, rfl, hk, HH, hb⟩ := hrel
    by_cases hlt : k < n
    · have hex : ∃ x, xs[k]? = some x := ⟨_, List.getElem?_eq_getElem (by have := HXL.out; omega)⟩
      obtain ⟨x, hxk⟩ := hex
      have hex : ∃ y, ys[k]? = some y := ⟨_, List.getElem?_eq_getElem (by have := HYL.out; omega)⟩
      obtain ⟨y, hyk⟩ := hex
      obtain ⟨b1, o1, rfl, hb1, c1⟩ := (HX.out.below hb).int hxk
      obtain ⟨b2, o2, rfl, hb2, c2⟩ := (HY.out.below hb).int hyk
      have hlt' : (k : Int) < (n : Int) := by omega
      have hk0 : (0 : Int) ≤ (k : Int) := Int.natCast_nonneg _
      have hzk : (xs.zip ys)[k]? = some (x, y) := List.getElem?_zip_eq_some.2 ⟨hxk, hyk⟩
      have htl : ((xs.zip ys).take k).length = k := by rw [List.length_take, HZL.out]; omega
      have hup := mk2_up (ps := (xs.zip ys).take k) (n := n) (x, y) (by omega)
      rw [htl, show (xs.zip ys).take k ++ [(x, y)] = (xs.zip ys).take (k + 1) by rw [List.take_add_one, hzk]; rfl] at hup
      have HUP := hide hup
      have hlen2 := mk2_len (ps := (xs.zip ys).take k) (n := n) (by omega)
      have f0 : wr.cell? ⟨w.heap.size, k * 2, none⟩ = some ((mk2 ((xs.zip ys).take k) n).getD (k * 2) (.int .i64 0)) := by
        rw [cell_of_row wr w.heap.size (k * 2) _ _ (0, 0) HH.out]
        simp [List.getD_eq_getElem?_getD, List.getElem?_eq_getElem (show k * 2 < (mk2 ((xs.zip ys).take k) n).length by omega)]
      have f1 : wr.cell? ⟨w.heap.size, k * 2 + 1, none⟩ = some ((mk2 ((xs.zip ys).take k) n).getD (k * 2 + 1) (.int .i64 0)) := by
        rw [cell_of_row wr w.heap.size (k * 2 + 1) _ _ (0, 0) HH.out]
        simp [List.getD_eq_getElem?_getD, List.getElem?_eq_getElem (show k * 2 + 1 < (mk2 ((xs.zip ys).take k) n).length by omega)]
      have z0 : wr.frozen? ⟨w.heap.size, k * 2, none⟩ = false := by simp [World.frozen?, HH.out]
      have z1 : wr.frozen? ⟨w.heap.size, k * 2 + 1, none⟩ = false := by simp [World.frozen?, HH.out]
      generalize (mk2 ((xs.zip ys).take k) n).getD (k * 2) (.int .i64 0) = u0 at f0
      generalize (mk2 ((xs.zip ys).take k) n).getD (k * 2 + 1) (.int .i64 0) = u1 at f1
      clear hup hzk hxk hyk htl hlen2
      go_wp2
      go_still_tail 12, (by kernel_rfl)
      change wpList _ _ _ _ _ wr.drew
      go_wp2
      refine ⟨⟨k + 1, by go_num, by omega, ?_, ((hb.setCell (p := ⟨w.heap.size, k * 2, none⟩) (Nat.le_refl _) _).setCell (p := ⟨w.heap.size, k * 2 + 1, none⟩) (Nat.le_refl _) _).drew⟩, by simp [intOf]; omega⟩
      have h1 := heap_setCell2 (i := k * 2 + 1) (heap_setCell2 (i := k * 2) HH.out (.int .i64 x)) (.int .i64 y)
      refine Eq.trans h1 ?_
      congr 2
      apply Array.ext'
      simp only [Array.toList_setIfInBounds]
      exact HUP.out
    · have e : k = n := by omega
      have hF := HH.out
      rw [e, List.take_of_length_le (Nat.le_of_eq HZL.out)] at hF
      have hm : mk2 (xs.zip ys) n = (xs.zip ys).flatMap pV := by rw [← HZL.out]; exact mk2_done
      rw [hm] at hF
      have HF := hide hF
      have hlt' : ¬ (k : Int) < (n : Int) := by omega
      clear hF hm hlt
      go_wp2
      go_ret2
      refine ⟨_, _, rfl, ⟨Nat.le_refl _, by unfold maxLen; omega, HZL.out, fun h0 => ⟨w.heap.size, 0, rfl, Nat.lt_of_lt_of_le (Nat.lt_succ_self _) (Array.getElem?_eq_some_iff.1 HF.out).1, fun i p hp j u hu => ?_⟩⟩, hb⟩
      have hj : j < 2 := by have := (List.getElem?_eq_some_iff.1 hu).1; rw [pV_len] at this; exact this
      rw [cell_of_row wr w.heap.size _ _ _ (0, 0) HF.out, Nat.zero_add, List.getElem?_toArray, flatMap_at pV_len hp hj]
      exact hu
theorem pairUp_no (A B : Option Addr) (n m c d : Nat) (w : World) (h : n ≠ m) (hn : n ≤ 1000000) (hm : m ≤ 1000000) :
    Calls Try.prog 47 #[.slice A n c, .slice B m d] w fun e w' => e = .returned (.tuple #[.slice none 0 0, .bool false]) ∧ w' = w := by
  have t : ((n : Int) != (m : Int)) = true := by rw [bne_iff_ne]; omega
  have t2 : (n != m) = true := by rw [bne_iff_ne]; exact h
  clear h
  go_enter Try.func47, Try.ntmps47
  go_wp2
  go_ret2
  exact ⟨rfl, rfl⟩

/-- what compare returns -/
def CmpR (w : World) (ps : List Pr) (rg : Int) (a b : Ty) (e : Ending) (w' : World) : Prop :=
  ∃ A n c, e = .returned (.tuple #[.slice A n c, .bool (poss (out ps rg) a b)]) ∧ (poss (out ps rg) a b = true → RetP w' A n c (needs a b)) ∧ Below w.heap.size w w'
theorem RetP.nil (w : World) : RetP w none 0 0 [] := ⟨Nat.le_refl _, Nat.zero_le _, rfl, fun h => absurd h (Nat.lt_irrefl 0)⟩
theorem ret_pb {A : Option Addr} {n c : Nat} {v v' : Bool} (h : v = v') : Ending.returned (.tuple #[.slice A n c, .bool v']) = .returned (.tuple #[.slice A n c, .bool v]) := by rw [h]
theorem retP_lit1 (w : World) (x y : Int) (t : TypeId) {w' : World} (hb : Below (w.alloc (.cells #[.int .i64 x, .int .i64 y] t)).heap.size (w.alloc (.cells #[.int .i64 x, .int .i64 y] t)) w') : RetP w' (some ⟨w.heap.size, 0, none⟩) 1 1 [(x, y)] := by
  have hh : w'.heap[w.heap.size]? = some (.cells #[.int .i64 x, .int .i64 y] t (0, 0)) := (hb.block _ (by simp)).trans (heap_alloc_new _ _)
  refine ⟨Nat.le_refl _, by unfold maxLen; decide, rfl, fun _ => ⟨w.heap.size, 0, rfl, (Array.getElem?_eq_some_iff.1 hh).1, fun i p hp j u hu => ?_⟩⟩
  match i, hp with
  | 0, hp =>
    have e : (x, y) = p := by simpa using hp
    subst e
    rw [cell_of_row w' w.heap.size _ _ _ (0, 0) hh]
    simpa [pV] using hu
  | i + 1, hp => simp at hp
theorem needs_im {a b : Ty} (h3 : a.kind = 3) (hm : a.mut_ = false) : needs a b = [(a.elem, b.elem)] := by rw [needs_ref h3, hm]; rfl
theorem needs_mu {a b : Ty} (h3 : a.kind = 3) (hm : a.mut_ = true) : needs a b = [(a.elem, b.elem), (b.elem, a.elem)] := by rw [needs_ref h3, hm]; rfl
theorem poss_ref_eq {O : Int → Int → Bool} {a b : Ty} {v : Bool} (e : a.kind = b.kind) (h3 : a.kind = 3) (hm : a.mut_ = b.mut_) (hv : O a.region b.region = v) : poss O a b = v := by
  unfold poss; rw [if_neg (fun h => h e), if_neg (by omega), if_pos h3, hm, hv]; simp
theorem poss_ref_ne {O : Int → Int → Bool} {a b : Ty} (e : a.kind = b.kind) (h3 : a.kind = 3) (hm : a.mut_ ≠ b.mut_) : poss O a b = false := by
  unfold poss; rw [if_neg (fun h => h e), if_neg (by omega), if_pos h3]
  have : (a.mut_ == b.mut_) = false := by simpa using hm
  rw [this]; rfl
theorem poss_kind_ne {O : Int → Int → Bool} {a b : Ty} (e : a.kind ≠ b.kind) : poss O a b = false := by unfold poss; rw [if_pos e]
theorem poss_tup_ne {O : Int → Int → Bool} {a b : Ty} (e : a.kind = b.kind) (h4 : a.kind = 4) (hl : a.fields.length ≠ b.fields.length) : poss O a b = false := by
  unfold poss; rw [if_neg (fun h => h e), if_neg (by omega), if_neg (by omega), if_pos h4]; simpa using hl
theorem poss_none {O : Int → Int → Bool} {a b : Ty} (e : a.kind = b.kind) (h0 : a.kind ≠ 0) (h1 : a.kind ≠ 1) (h2 : a.kind ≠ 2) (h3 : a.kind ≠ 3) (h4 : a.kind ≠ 4) : poss O a b = false := by
  unfold poss; rw [if_neg (fun h => h e), if_neg (by omega), if_neg h3, if_neg h4]
end Go.Proofs.Ytagnikaghhobjaa
