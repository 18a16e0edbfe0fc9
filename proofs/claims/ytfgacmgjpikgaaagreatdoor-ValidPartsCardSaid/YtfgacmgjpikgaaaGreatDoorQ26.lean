/- Part 27 of the contracts and their mathematics. -/
import Derived.Test.YtfgacmgjpikgaaaGreatDoorQ7
import Derived.Test.YtfgacmgjpikgaaaGreatDoorQ25
set_option linter.unusedVariables false
set_option linter.unusedSimpArgs false
namespace Go.Proofs.YtfgacmgjpikgaaaGreatDoor
open Go.RowKit Go.Shelf
attribute [local go_sem] Oper.semAt_some
theorem outliving_any (r : Nat) (A : Option Addr) (n c : Nat) (w : World) :
  Calls Tryz.prog 134 #[.pointer (some ⟨r, 0, none⟩), .slice A n c] w fun e w' => e = .returned (.func (.func 140) #[] #[.pointer (some ⟨w.heap.size + 1, 0, none⟩), .pointer (some ⟨w.heap.size, 0, none⟩)]) ∧
   w' = (w.alloc (.cells #[.pointer (some ⟨r, 0, none⟩)] 96)).alloc (.cells #[.slice A n c] 48) := by
 go_enter Tryz.func134, Tryz.ntmps134
 go_wp2
 go_ret
 exact ⟨rfl, rfl⟩
theorem block_ownB {W W' : World} {row : Option Nat} {B : Nat} {t : TypeId} {v : Value} (h : Boxed W B t v) (hg : W.grownBy W' row) (hr : ∀ r, row = some r → ∃ o : Obj, W.heap[r]? = some o ∧ o.isCells = false) : Boxed W' B t v :=
 (hg.block B h.lt (fun e' => by
  obtain ⟨o, ho, hc⟩ := hr B e'.symm
  have h' : W.heap[B]? = some (.cells #[v] t (0, 0)) := h
  rw [h'] at ho
  injection ho with ho
  subst ho
  cases hc)).trans h
theorem block_low {B n X : Nat} {W W' : World} {t : TypeId} {v : Value} (h : Boxed W B t v) (hi : ItX n X W W') (hB : B < n) : Boxed W' B t v := (hi.low.block B hB).trans h
theorem outL_one {ps : List Pr} {rg a b : Int} : OutL ps rg [b] a ↔ Out ps rg a b :=
  ⟨fun ⟨c, h, k⟩ => by have e : c = b := by simpa using h
                       subst e; exact k, fun h => ⟨b, by simp, h⟩⟩
set_option maxHeartbeats 8000000 in
set_option maxRecDepth 100000 in
theorem Outlives_any (r : Nat) (ps : List Pr) (rg a b : Int) (w : World) (hR : Rel w w.heap.size r ps rg) :
  Calls Tryz.prog 123 #[.pointer (some ⟨r, 0, none⟩), .int .i64 a, .int .i64 b] w fun e w' => e = .returned (.bool (out ps rg a b)) ∧ Below w.heap.size w w' := by
 refine (callsIn_wide (n := 9)).1 ?_
 obtain ⟨A1, nD, cD, D, A2, c2, L, hR⟩ := hR
 refine callsIn_of_wp_marks Tryz.func123 rfl trivial ?_ rfl
 simp only [Tryz.ntmps123, List.size_toArray, List.length_cons, List.length_nil, Nat.reduceAdd, Nat.reduceSub, Array.replicate_succ, Array.replicate_zero, List.push_toArray, List.append_toArray, List.nil_append, List.cons_append]
 gi_wp2_with (refine ⟨trivial, ?_⟩; gi_at_call 134; refine (callsIn_wide.2 (outliving_any _ _ _ _ _)).mono ?_; rintro e w' ⟨rfl, rfl⟩)
 have hex : ∃ s, s = w.heap.size := ⟨_, rfl⟩
 obtain ⟨s, hs⟩ := hex
 have bA := (((((Boxed.new w 3 (.int .i64 a)).alloc (.cells #[.bool false] 4)).alloc (.cells #[.int .i64 b] 3)).alloc (.cells #[.pointer (some ⟨r, 0, none⟩)] 96)).alloc (.cells #[.slice (some ⟨w.heap.size + 1 + 1, 0, none⟩) 1 1] 48))
 have bR := ((((Boxed.new (w.alloc (.cells #[.int .i64 a] 3)) 4 (.bool false)).alloc (.cells #[.int .i64 b] 3)).alloc (.cells #[.pointer (some ⟨r, 0, none⟩)] 96)).alloc (.cells #[.slice (some ⟨w.heap.size + 1 + 1, 0, none⟩) 1 1] 48))
 have bB := (((Boxed.new ((w.alloc (.cells #[.int .i64 a] 3)).alloc (.cells #[.bool false] 4)) 3 (.int .i64 b)).alloc (.cells #[.pointer (some ⟨r, 0, none⟩)] 96)).alloc (.cells #[.slice (some ⟨w.heap.size + 1 + 1, 0, none⟩) 1 1] 48))
 have bP := ((Boxed.new (((w.alloc (.cells #[.int .i64 a] 3)).alloc (.cells #[.bool false] 4)).alloc (.cells #[.int .i64 b] 3)) 96 (.pointer (some ⟨r, 0, none⟩))).alloc (.cells #[.slice (some ⟨w.heap.size + 1 + 1, 0, none⟩) 1 1] 48))
 have bS := Boxed.new ((((w.alloc (.cells #[.int .i64 a] 3)).alloc (.cells #[.bool false] 4)).alloc (.cells #[.int .i64 b] 3)).alloc (.cells #[.pointer (some ⟨r, 0, none⟩)] 96)) 48 (.slice (some ⟨w.heap.size + 1 + 1, 0, none⟩) 1 1)
 have hB0 : Below w.heap.size w (((((w.alloc (.cells #[.int .i64 a] 3)).alloc (.cells #[.bool false] 4)).alloc (.cells #[.int .i64 b] 3)).alloc (.cells #[.pointer (some ⟨r, 0, none⟩)] 96)).alloc (.cells #[.slice (some ⟨w.heap.size + 1 + 1, 0, none⟩) 1 1] 48)) :=
  (((((Below.refl _ w).alloc (Nat.le_refl _) _).alloc (by simp) _).alloc (by simp; omega) _).alloc (by simp; omega) _).alloc (by simp; omega) _
 have hsz : (((((w.alloc (.cells #[.int .i64 a] 3)).alloc (.cells #[.bool false] 4)).alloc (.cells #[.int .i64 b] 3)).alloc (.cells #[.pointer (some ⟨r, 0, none⟩)] 96)).alloc (.cells #[.slice (some ⟨w.heap.size + 1 + 1, 0, none⟩) 1 1] 48)).heap.size = w.heap.size + 5 := by simp
 simp only [World.size_alloc] at bR bB bP bS
 generalize (((((w.alloc (.cells #[.int .i64 a] 3)).alloc (.cells #[.bool false] 4)).alloc (.cells #[.int .i64 b] 3)).alloc (.cells #[.pointer (some ⟨r, 0, none⟩)] 96)).alloc (.cells #[.slice (some ⟨w.heap.size + 1 + 1, 0, none⟩) 1 1] 48)) = W0 at *
 rw [← hs] at hR bA bR bB bP bS hB0 hsz ⊢
 have HS := hide hs
 clear hs
 have hOX : ownX (s + 1) W0 = none := ownX_of bR.cell
 have hLb : RdX W0.heap.size (s + 1) W0 (some ⟨s + 1 + 1, 0, none⟩) 1 [b] := ⟨rfl, fun _ => ⟨s + 1 + 1, 0, rfl, by omega, by omega, by rw [hOX]; simp, fun j x hx => by
  match j, hx with
  | 0, hx =>
   have e : b = x := by simpa using hx
   subst e
   exact bB.cell
  | j + 1, hx => simp at hx⟩⟩
 refine wpIn_rangeFunc_X (by omega) (gf := 140) (lb := #[.pointer (some ⟨s + 1 + 1 + 1 + 1, 0, none⟩), .pointer (some ⟨s + 1 + 1 + 1, 0, none⟩)]) rfl (enters_of Tryz.func140 (by kernel_rfl) rfl)
  (outliving_seq _ (by omega) (s + 1) (s + 1) (s + 1 + 1 + 1 + 1) (s + 1 + 1 + 1) r ps rg A1 nD cD D A2 c2 L _ 1 1 [b] W0 ((hR.below hB0).more (by omega)) (Nat.le_refl _) (by omega) hLb (by omega) bS.cell bP.cell (by omega))
  (Below.refl _ _) (by omega) (by omega) hOX
  (fun pre W => ((a ∉ pre) ∧ Boxed W s 3 (.int .i64 a) ∧ Boxed W (s + 1) 4 (.bool false)) ∧ Below s w W)
  (fun cd pre W => (cd = .ret ∧ a ∈ pre ∧ Boxed W (s + 1) 4 (.bool true)) ∧ Below s w W)
  (OwnFrom.and (Own.from (fun s A B row hs hg hr => ⟨hs.1, block_ownB hs.2.1 hg hr, block_ownB hs.2.2 hg hr⟩) _) (ownFrom_below (Nat.le_of_eq HS.out) (by omega)))
  (fun cd => OwnFrom.and (Own.from (fun s A B row hs hg hr => ⟨hs.1, hs.2.1, block_ownB hs.2.2 hg hr⟩) _) (ownFrom_below (Nat.le_of_eq HS.out) (by omega)))
  (fun pre A C h hi => ⟨⟨h.1.1, block_low h.1.2.1 hi (by omega), block_low h.1.2.2 hi (by omega)⟩, h.2.trans (hi.low.mono (by omega))⟩)
  (fun cd pre A C h hi => ⟨⟨h.1.1, h.1.2.1, block_low h.1.2.2 hi (by omega)⟩, h.2.trans (hi.low.mono (by omega))⟩)
  ⟨⟨by simp, bA, bR⟩, hB0⟩
  (fun x => { tmps := #[.pointer (some ⟨r, 0, none⟩), .int .i64 a, .int .i64 b, undef, .pointer (some ⟨s, 0, none⟩), undef, .pointer (some ⟨s + 1, 0, none⟩), .int .i64 x, .pointer (some ⟨r, 0, none⟩), .bool false, .pointer (some ⟨r, 0, none⟩), .int .i64 b, .slice (some ⟨s + 1 + 1, 0, none⟩) 1 1,
   .func (.func 140) #[] #[.pointer (some ⟨s + 1 + 1 + 1 + 1, 0, none⟩), .pointer (some ⟨s + 1 + 1 + 1, 0, none⟩)], .int .i64 x, undef, undef, undef], defers := [] }) ?assign ?body ?done ?stop
 case assign =>
  intro l x W K hK
  gi_wp2
  exact hK
 case body =>
  rintro l pre x W ⟨⟨hp, hA, hF⟩, hB⟩ _
  have cA := hA.cell
  have cF := hF.cell
  have fF := hF.frozen
  have HA := hide hA
  have HF := hide hF
  have HB := hide hB
  have HP := hide hp
  clear hA hF hB hp
  by_cases hx : x = a
  ·
   subst hx
   have tx : (x == x) = true := by simp
   gi_wp2
   exact ⟨(KeepsOthers.setCell _ _ _).from _, ⟨rfl, List.mem_append.2 (.inr (by simp)), HF.out.set _⟩, HB.out.setCell (p := ⟨s + 1, 0, none⟩) (by simp) _⟩
  ·
   have tx : (x == a) = false := by simpa using hx
   have HX := hide hx
   clear hx
   gi_wp2
   exact ⟨KeepsFrom.refl _ _, ⟨Below.refl _ _, fun _ _ _ _ h _ _ => h, .inl rfl, fun h => h⟩, ⟨fun h => (List.mem_append.1 h).elim HP.out (fun e => HX.out (by have h : a = x := (by simpa using e); exact h.symm)), HA.out, HF.out⟩, HB.out⟩
 case done =>
  rintro D ys W hD hys ⟨⟨hne, hA, hF⟩, hB⟩ hK
  have HV := hide (show out ps rg a b = false from out_not.2 fun h => hne ((hys a).2 (outL_one.2 h)))
  have cF := hF.cell
  have fF := hF.frozen
  have HF := hide hF
  have HB := hide hB
  clear hF hB hA hne hys
  gi_wp2
  have hK' := (KeepsOthers.setCell W ⟨s + 1, 0, none⟩ (.bool false)).same D _ hK rfl
  refine ⟨by simp, .inl ⟨_, _, rfl, run_takeDeferred hK', ?_⟩⟩
  have hc5 := cell_kept (World.cell?_setCell_same' W ⟨s + 1, 0, none⟩ (.bool false) (by rw [cF]; rfl)) (grownBy_putObj' _ D (.deferred none)) (fun r e => by cases e; exact ⟨_, hK', rfl⟩)
  refine ⟨.bool false, ?_, by rw [HV.out], by rw [← HS.out]; exact (HB.out.setCell (p := ⟨s + 1, 0, none⟩) (by simp) _).trans (belowK_b (w := W0) (by omega) _ D _ _ hD hK' rfl rfl)⟩
  simp [results, Tryz.f123, go_sem, hc5]
 case stop =>
  rintro D cd pre W hD hpre ⟨⟨rfl, hin, hF⟩, hB⟩ hK
  have HV := hide (show out ps rg a b = true from out_iff.2 (outL_one.1 (hpre a hin)))
  have cF := hF.cell
  gi_wp2
  refine ⟨by simp, .inl ⟨_, _, rfl, run_takeDeferred hK, ?_⟩⟩
  have hc5 := cell_kept cF (grownBy_putObj' _ D (.deferred none)) (fun r e => by cases e; exact ⟨_, hK, rfl⟩)
  refine ⟨.bool true, ?_, by rw [HV.out], by rw [← HS.out]; exact hB.trans (belowK_b (w := W0) (by omega) W D _ _ hD hK rfl rfl)⟩
  simp [results, Tryz.f123, go_sem, hc5]
theorem Outlives_is {r : Nat} {ps : List Pr} {rg a b : Int} {v : Bool} (h : out ps rg a b = v) (w : World) (hR : Rel w w.heap.size r ps rg) :
  Calls Tryz.prog 123 #[.pointer (some ⟨r, 0, none⟩), .int .i64 a, .int .i64 b] w fun e w' => e = .returned (.bool v) ∧ Below w.heap.size w w' := h ▸ Outlives_any r ps rg a b w hR
end Go.Proofs.YtfgacmgjpikgaaaGreatDoor
namespace Go.Proofs.YtfgacmgjpikgaaaGreatDoor
open Go.RowKit
theorem infoArr : (Tryz.prog.info? 99).map (fun i => (i.zero, i.size, i.bytes)) = some (some (.agg #[.int .i64 0, .int .i64 0]), 2, 16) := by kernel_rfl
def mk2 (ps : List Pr) (n : Nat) : List Value := ps.flatMap pV ++ List.replicate ((n - ps.length) * 2) (.int .i64 0)
theorem mk2_len {ps : List Pr} {n : Nat} (h : ps.length ≤ n) : (mk2 ps n).length = n * 2 := by
 unfold mk2; rw [List.length_append, flatMap_len pV_len, List.length_replicate]; omega
theorem mk2_zero {n : Nat} {z : Value} (hz : z.cells = #[.int .i64 0, .int .i64 0]) : madeCells z.cells (n * 2) = (mk2 [] n).toArray := by
 apply Array.ext
 ·
  rw [size_madeCells]; simp [mk2]
 ·
  intro i h1 h2
  have : i % 2 = 0 ∨ i % 2 = 1 := by omega
  rcases this with e | e <;> simp [madeCells, hz, mk2, e]
theorem mk2_up {ps : List Pr} {n : Nat} (p : Pr) (h : ps.length < n) : ((mk2 ps n).set (ps.length * 2) (.int .i64 p.1)).set (ps.length * 2 + 1) (.int .i64 p.2) = mk2 (ps ++ [p]) n := by
 have hl := flatMap_len pV_len ps
 unfold mk2
 rw [List.set_append_right _ _ (by rw [hl]; exact Nat.le_refl _), List.set_append_right _ _ (by rw [hl]; omega), hl, Nat.sub_self, show ps.length * 2 + 1 - ps.length * 2 = 1 by omega, List.flatMap_append, List.length_append, List.length_singleton, List.append_assoc]
 congr 1
 rw [show (n - ps.length) * 2 = (n - (ps.length + 1)) * 2 + 2 by omega]
 rfl
theorem mk2_done {ps : List Pr} : mk2 ps ps.length = ps.flatMap pV := by unfold mk2; rw [Nat.sub_self]; simp
def RetP (w' : World) (A : Option Addr) (n c : Nat) (ps : List Pr) : Prop := n ≤ c ∧ c ≤ maxLen ∧ Cells w' w'.heap.size 2 pV A n ps
theorem wpList_make2 {P : Program} (w : World) {ops : Array Oper} {rest : List Oper} {o : Oper} {a : Act} {Q : Exit → Act → World → Prop}
  (hg : o.guard = none) (l c : Operand) (t : TypeId) (hop : o.op = Op.makeSlice t l c)
  (e : TypeId) (i : TypeInfo) (z : Value) (h1 : P.underlying t = some (.slice e)) (h2 : P.info? e = some i) (h3 : i.zero = some z) (h4 : i.size = 2) (hz : z.cells = #[.int .i64 0, .int .i64 0])
  (n : Nat) (hl : a.eval l = .int .i64 (n : Int)) (hc : a.eval c = .int .i64 (n : Int)) (b2 : i.bytes * n ≤ 281474976710656) (b3 : n ≤ 1000000)
  (hK : wpList P ops Q rest (a.put o.dst (.slice (some ⟨w.heap.size, 0, none⟩) n n)) (w.alloc (.cells (mk2 [] n).toArray e))) :
  wpList P ops Q (o :: rest) a w := by
 have hb' : (i.bytes : Int) * (n : Int) ≤ 281474976710656 := by
  have h : ((i.bytes * n : Nat) : Int) ≤ 281474976710656 := by omega
  rwa [Int.natCast_mul] at h
 have hr := run_make (P := P) w t e i z h1 h2 h3 .i64 .i64 n n (by omega) (Int.le_refl _) hb' (by omega)
 simp only [Int.toNat_natCast, h4, mk2_zero hz] at hr
 refine wpList_plain hg fun K hK' => ?_
 unfold Oper.wp
 simp [execOp, hop, hl, hc, hr, Result.andThen]
 exact hK' _ _ hK
theorem heap_setCell2 {w : World} {b i : Nat} {cs : Array Value} {t : TypeId} {fr : Nat × Nat} (h : w.heap[b]? = some (.cells cs t fr)) (v : Value) : (w.setCell ⟨b, i, none⟩ v).heap[b]? = some (.cells (cs.setIfInBounds i v) t fr) := by
 simp [World.setCell, Array.getElem?_modify, h]
set_option maxHeartbeats 4000000 in
set_option maxRecDepth 100000 in
theorem pairUp_yes (A B : Option Addr) (n c d : Nat) (xs ys : List Int) (w : World) (hx : Rd w w.heap.size A n (i64s xs)) (hy : Rd w w.heap.size B n (i64s ys)) (hn : n ≤ 65535) :
  Calls Tryz.prog 142 #[.slice A n c, .slice B n d] w fun e w' => ∃ A' c', e = .returned (.tuple #[.slice A' n c', .bool true]) ∧ RetP w' A' n c' (xs.zip ys) ∧ Below w.heap.size w w' := by
 obtain ⟨i0, hi, hz0, hz1, hz2⟩ := info_parts infoArr
 have HX := hide hx
 have HY := hide hy
 have HXL := hide hx.ilen
 have HYL := hide hy.ilen
 have hzl : (xs.zip ys).length = n := by rw [List.length_zip, HXL.out, HYL.out, Nat.min_self]
 have HZL := hide hzl
 clear hx hy hzl
 go_enter Tryz.func142, Tryz.ntmps142
 go_wp2_with (at_make; go_must (refine wpList_make2 _ rfl _ _ _ rfl 99 i0 _ Tryz.underlying23 hi hz0 hz1 rfl n rfl rfl (by rw [hz2]; omega) (by omega) ?_))
 have hw0 : (w.alloc (.cells (mk2 [] n).toArray 99)).heap[w.heap.size]? = some (.cells (mk2 [] n).toArray 99 (0, 0)) := heap_alloc_new _ _
 have hb0 : Below w.heap.size w (w.alloc (.cells (mk2 [] n).toArray 99)) := (Below.refl _ _).alloc (Nat.le_refl _) _
 have hsz0 : w.heap.size < (w.alloc (.cells (mk2 [] n).toArray 99)).heap.size := by rw [World.size_alloc]; omega
 generalize w.alloc (.cells (mk2 [] n).toArray 99) = w0 at *
 go_loopw [18] (fun i wr => ∃ k : Nat, i = .int .i64 (k : Int) ∧ k ≤ n ∧ Hid (wr.heap[w.heap.size]? = some (.cells (mk2 ((xs.zip ys).take k) n).toArray 99 (0, 0))) ∧ Below w.heap.size w wr) (fun i _ => n - (intOf i).toNat)
 case atStart => exact ⟨0, rfl, Nat.zero_le _, hw0, hb0⟩
 case round =>
  obtain ⟨k, rfl, hk, HH, hb⟩ := hrel
  by_cases hlt : k < n
  ·
   have hex : ∃ x, xs[k]? = some x := ⟨_, List.getElem?_eq_getElem (by have := HXL.out; omega)⟩
   obtain ⟨x, hxk⟩ := hex
   have hex : ∃ y, ys[k]? = some y := ⟨_, List.getElem?_eq_getElem (by have := HYL.out; omega)⟩
   obtain ⟨y, hyk⟩ := hex
   obtain ⟨b1, o1, rfl, hb1, c1⟩ := (HX.out.below hb).int hxk
   obtain ⟨b2, o2, rfl, hb2, c2⟩ := (HY.out.below hb).int hyk
   have hlt' : (k : Int) < (n : Int) := by omega
   have hk0 : (0 : Int) ≤ (k : Int) := Int.natCast_nonneg _
   have hzk : (xs.zip ys)[k]? = some (x, y) := List.getElem?_zip_eq_some.2 ⟨hxk, hyk⟩
   have htl : ((xs.zip ys).take k).length = k := by rw [List.length_take, HZL.out]; omega
   have hup := mk2_up (ps := (xs.zip ys).take k) (n := n) (x, y) (by omega)
   rw [htl, show (xs.zip ys).take k ++ [(x, y)] = (xs.zip ys).take (k + 1) by rw [List.take_add_one, hzk]; rfl] at hup
   have HUP := hide hup
   have hlen2 := mk2_len (ps := (xs.zip ys).take k) (n := n) (by omega)
   have f0 : wr.cell? ⟨w.heap.size, k * 2, none⟩ = some ((mk2 ((xs.zip ys).take k) n).getD (k * 2) (.int .i64 0)) := by
    rw [cell_of_row wr w.heap.size (k * 2) _ _ (0, 0) HH.out]
    simp [List.getD_eq_getElem?_getD, List.getElem?_eq_getElem (show k * 2 < (mk2 ((xs.zip ys).take k) n).length by omega)]
   have f1 : wr.cell? ⟨w.heap.size, k * 2 + 1, none⟩ = some ((mk2 ((xs.zip ys).take k) n).getD (k * 2 + 1) (.int .i64 0)) := by
    rw [cell_of_row wr w.heap.size (k * 2 + 1) _ _ (0, 0) HH.out]
    simp [List.getD_eq_getElem?_getD, List.getElem?_eq_getElem (show k * 2 + 1 < (mk2 ((xs.zip ys).take k) n).length by omega)]
   have z0 : wr.frozen? ⟨w.heap.size, k * 2, none⟩ = false := by simp [World.frozen?, HH.out]
   have z1 : wr.frozen? ⟨w.heap.size, k * 2 + 1, none⟩ = false := by simp [World.frozen?, HH.out]
   generalize (mk2 ((xs.zip ys).take k) n).getD (k * 2) (.int .i64 0) = u0 at f0
   generalize (mk2 ((xs.zip ys).take k) n).getD (k * 2 + 1) (.int .i64 0) = u1 at f1
   clear hup hzk hxk hyk htl hlen2
   go_wp2
   go_still_tail 12, (by kernel_rfl)
   change wpList _ _ _ _ _ wr.drew
   go_wp2
   refine ⟨⟨k + 1, by go_num, by omega, ?_, ((hb.setCell (p := ⟨w.heap.size, k * 2, none⟩) (Nat.le_refl _) _).setCell (p := ⟨w.heap.size, k * 2 + 1, none⟩) (Nat.le_refl _) _).drew⟩, by simp [intOf]; omega⟩
   have h1 := heap_setCell2 (i := k * 2 + 1) (heap_setCell2 (i := k * 2) HH.out (.int .i64 x)) (.int .i64 y)
   refine Eq.trans h1 ?_
   congr 2
   apply Array.ext'
   simp only [Array.toList_setIfInBounds]
   exact HUP.out
  ·
   have e : k = n := by omega
   have hF := HH.out
   rw [e, List.take_of_length_le (Nat.le_of_eq HZL.out)] at hF
   have hm : mk2 (xs.zip ys) n = (xs.zip ys).flatMap pV := by rw [← HZL.out]; exact mk2_done
   rw [hm] at hF
   have HF := hide hF
   have hlt' : ¬ (k : Int) < (n : Int) := by omega
   clear hF hm hlt
   go_wp2
   go_ret2
   refine ⟨_, _, rfl, ⟨Nat.le_refl _, by unfold maxLen; omega, HZL.out, fun h0 => ⟨w.heap.size, 0, rfl, Nat.lt_of_lt_of_le (Nat.lt_succ_self _) (Array.getElem?_eq_some_iff.1 HF.out).1, fun i p hp j u hu => ?_⟩⟩, hb⟩
   have hj : j < 2 := by have := (List.getElem?_eq_some_iff.1 hu).1; rw [pV_len] at this; exact this
   rw [cell_of_row wr w.heap.size _ _ _ (0, 0) HF.out, Nat.zero_add, List.getElem?_toArray, flatMap_at pV_len hp hj]
   exact hu
theorem pairUp_no (A B : Option Addr) (n m c d : Nat) (w : World) (h : n ≠ m) (hn : n ≤ 1000000) (hm : m ≤ 1000000) :
  Calls Tryz.prog 142 #[.slice A n c, .slice B m d] w fun e w' => e = .returned (.tuple #[.slice none 0 0, .bool false]) ∧ w' = w := by
 have t : ((n : Int) != (m : Int)) = true := by rw [bne_iff_ne]; omega
 have t2 : (n != m) = true := by rw [bne_iff_ne]; exact h
 clear h
 go_enter Tryz.func142, Tryz.ntmps142
 go_wp2
 go_ret2
 exact ⟨rfl, rfl⟩
def CmpR (w : World) (ps : List Pr) (rg : Int) (a b : Ty) (e : Ending) (w' : World) : Prop :=
 ∃ A n c, e = .returned (.tuple #[.slice A n c, .bool (poss (out ps rg) a b)]) ∧ (poss (out ps rg) a b = true → RetP w' A n c (needs a b)) ∧ Below w.heap.size w w'
theorem RetP.nil (w : World) : RetP w none 0 0 [] := ⟨Nat.le_refl _, Nat.zero_le _, rfl, fun h => absurd h (Nat.lt_irrefl 0)⟩
theorem retP_lit1 (w : World) (x y : Int) (t : TypeId) {w' : World} (hb : Below (w.alloc (.cells #[.int .i64 x, .int .i64 y] t)).heap.size (w.alloc (.cells #[.int .i64 x, .int .i64 y] t)) w') : RetP w' (some ⟨w.heap.size, 0, none⟩) 1 1 [(x, y)] := by
 have hh : w'.heap[w.heap.size]? = some (.cells #[.int .i64 x, .int .i64 y] t (0, 0)) := (hb.block _ (by simp)).trans (heap_alloc_new _ _)
 refine ⟨Nat.le_refl _, by unfold maxLen; decide, rfl, fun _ => ⟨w.heap.size, 0, rfl, (Array.getElem?_eq_some_iff.1 hh).1, fun i p hp j u hu => ?_⟩⟩
 match i, hp with
 | 0, hp =>
  have e : (x, y) = p := by simpa using hp
  subst e
  rw [cell_of_row w' w.heap.size _ _ _ (0, 0) hh]
  simpa [pV] using hu
 | i + 1, hp => simp at hp
theorem needs_im {a b : Ty} (h3 : a.kind = 3) (hm : a.mut_ = false) : needs a b = [(a.elem, b.elem)] := by rw [needs_ref h3, hm]; rfl
theorem needs_mu {a b : Ty} (h3 : a.kind = 3) (hm : a.mut_ = true) : needs a b = [(a.elem, b.elem), (b.elem, a.elem)] := by rw [needs_ref h3, hm]; rfl
theorem poss_ref_eq {O : Int → Int → Bool} {a b : Ty} {v : Bool} (e : a.kind = b.kind) (h3 : a.kind = 3) (hm : a.mut_ = b.mut_) (hv : O a.region b.region = v) : poss O a b = v := by
 unfold poss; rw [if_neg (fun h => h e), if_neg (by omega), if_pos h3, hm, hv]; simp
theorem poss_ref_ne {O : Int → Int → Bool} {a b : Ty} (e : a.kind = b.kind) (h3 : a.kind = 3) (hm : a.mut_ ≠ b.mut_) : poss O a b = false := by
 unfold poss; rw [if_neg (fun h => h e), if_neg (by omega), if_pos h3]
 have : (a.mut_ == b.mut_) = false := by simpa using hm
 rw [this]; rfl
theorem poss_kind_ne {O : Int → Int → Bool} {a b : Ty} (e : a.kind ≠ b.kind) : poss O a b = false := by unfold poss; rw [if_pos e]
theorem poss_tup_ne {O : Int → Int → Bool} {a b : Ty} (e : a.kind = b.kind) (h4 : a.kind = 4) (hl : a.fields.length ≠ b.fields.length) : poss O a b = false := by
 unfold poss; rw [if_neg (fun h => h e), if_neg (by omega), if_neg (by omega), if_pos h4]; simpa using hl
theorem poss_none {O : Int → Int → Bool} {a b : Ty} (e : a.kind = b.kind) (h0 : a.kind ≠ 0) (h1 : a.kind ≠ 1) (h2 : a.kind ≠ 2) (h3 : a.kind ≠ 3) (h4 : a.kind ≠ 4) : poss O a b = false := by
 unfold poss; rw [if_neg (fun h => h e), if_neg (by omega), if_neg h3, if_neg h4]
abbrev cellsT (x : TyW) : Array Value := #[.int .i64 x.t.kind, .bool x.t.mut_, .int .i64 x.t.region, .int .i64 x.t.elem, .slice x.A x.n x.c]
abbrev boxE2 (w : World) (a b : TyW) : World := (w.alloc (.cells (cellsT a) 62)).alloc (.cells (cellsT b) 62)
theorem boxE2_below (w : World) (a b : TyW) : Below w.heap.size w (boxE2 w a b) := ((Below.refl _ _).alloc (Nat.le_refl _) _).alloc (by simp) _
theorem own_lit2 (w : World) (x y : Int) (t : TypeId) : (w.alloc (.cells #[.int .i64 x, .int .i64 y] t)).ownsRow w.heap.size t 2 (.slice (some ⟨w.heap.size, 0, none⟩) 1 1) 1 ([(x, y)].flatMap pV) :=
 ⟨rfl, .inr ⟨w.heap.size, 1, _, rfl, Nat.le_refl _, heap_alloc_new w _, Nat.le_refl _, by unfold maxLen; decide, rfl, rfl⟩⟩
theorem newsP (w : World) (x y : Int) (t : TypeId) {g : Nat} (hg : g = w.heap.size) : ∀ j u, ([(x, y)].flatMap pV)[j]? = some u → (w.alloc (.cells #[.int .i64 x, .int .i64 y] t)).cell? ((⟨g, 0, none⟩ : Addr).add j) = some u := by
 subst hg
 intro j u hu
 exact World.news_of_block (heap_alloc_new w (.cells #[.int .i64 x, .int .i64 y] t)) j u (by simpa [pV] using hu)
theorem RetP.of_own {w : World} {base n c : Nat} {A : Option Addr} {ps : List Pr} (h : w.ownsRow base 99 2 (.slice A n c) n (ps.flatMap pV)) : RetP w A n c ps := by
 obtain ⟨A', c', e, h1, h2⟩ := ownsRow_shape3 h
 cases e
 exact ⟨h1, h2, Cells.of_own pV_len (by decide) h⟩
theorem RetP.below {w w' : World} {A : Option Addr} {n c : Nat} {ps : List Pr} (h : RetP w A n c ps) (hb : Below w.heap.size w w') : RetP w' A n c ps := ⟨h.1, h.2.1, (h.2.2.below hb).more hb.size⟩
theorem cmpR_mk {w w' : World} {ps : List Pr} {rg : Int} {a b : Ty} {A : Option Addr} {n c : Nat} {v : Bool} (hp : poss (out ps rg) a b = v) (hr : v = true → RetP w' A n c (needs a b)) (hb : Below w.heap.size w w') : CmpR w ps rg a b (.returned (.tuple #[.slice A n c, .bool v])) w' := by
 subst hp
 exact ⟨A, n, c, rfl, hr, hb⟩
set_option maxHeartbeats 4000000 in
set_option maxRecDepth 100000 in
theorem cmp_ne (r : Nat) (a b : TyW) (ps : List Pr) (rg : Int) (w : World) (h : a.t.kind ≠ b.t.kind) :
  Calls Tryz.prog 136 #[.pointer (some ⟨r, 0, none⟩), aggT a, aggT b] w (CmpR w ps rg a.t b.t) := by
 have HB := hide (boxE2_below w a b)
 have HP := hide (poss_kind_ne (O := out ps rg) h)
 have t : (a.t.kind != b.t.kind) = true := by rw [bne_iff_ne]; exact h
 obtain ⟨⟨k, m, r1, e1, fs⟩, A, n, c⟩ := a
 obtain ⟨⟨k', m', r1', e1', fs'⟩, A', n', c'⟩ := b
 simp only [cellsT, boxE2] at HB HP t
 clear h
 go_enter Tryz.func136, Tryz.ntmps136
 go_wp2
 go_ret2
 exact cmpR_mk HP.out (fun h => by cases h) HB.out
set_option maxHeartbeats 4000000 in
set_option maxRecDepth 100000 in
theorem cmp_flat (r : Nat) (a b : TyW) (ps : List Pr) (rg : Int) (w : World) (h : a.t.kind = b.t.kind) (h0 : a.t.kind = 0 ∨ a.t.kind = 1 ∨ a.t.kind = 2) :
  Calls Tryz.prog 136 #[.pointer (some ⟨r, 0, none⟩), aggT a, aggT b] w (CmpR w ps rg a.t b.t) := by
 have HB := hide (boxE2_below w a b)
 have HP := hide (poss_flat (O := out ps rg) h h0)
 have HN := hide (needs_flat (a := a.t) (b := b.t) (by omega) (by omega))
 obtain ⟨⟨k, m, r1, e1, fs⟩, A, n, c⟩ := a
 obtain ⟨⟨k', m', r1', e1', fs'⟩, A', n', c'⟩ := b
 simp only [cellsT, boxE2] at HB HP HN h h0
 subst h
 have t : (k != k) = false := by simp
 have fin : ∀ w', Below w.heap.size w w' → CmpR w ps rg ⟨k, m, r1, e1, fs⟩ ⟨k, m', r1', e1', fs'⟩ (.returned (.tuple #[.slice none 0 0, .bool true])) w' := fun w' hb => cmpR_mk HP.out (fun _ => by rw [HN.out]; exact RetP.nil _) hb
 have HF := hide (fin _ HB.out)
 clear fin
 rcases h0 with h0 | h0 | h0
 ·
  have t0 : (k == 0) = true := beq_iff_eq.2 h0
  clear h0
  go_enter Tryz.func136, Tryz.ntmps136
  go_wp2
  go_ret2
  exact HF.out
 ·
  have t0 : (k == 0) = false := by rw [h0]; rfl
  have t1 : (k == 1) = true := beq_iff_eq.2 h0
  clear h0
  go_enter Tryz.func136, Tryz.ntmps136
  go_wp2
  go_ret2
  exact HF.out
 ·
  have t0 : (k == 0) = false := by rw [h0]; rfl
  have t1 : (k == 1) = false := by rw [h0]; rfl
  have t2 : (k == 2) = true := beq_iff_eq.2 h0
  clear h0
  go_enter Tryz.func136, Tryz.ntmps136
  go_wp2
  go_ret2
  exact HF.out
set_option maxHeartbeats 4000000 in
set_option maxRecDepth 100000 in
theorem cmp_other (r : Nat) (a b : TyW) (ps : List Pr) (rg : Int) (w : World) (h : a.t.kind = b.t.kind) (h0 : a.t.kind ≠ 0) (h1 : a.t.kind ≠ 1) (h2 : a.t.kind ≠ 2) (h3 : a.t.kind ≠ 3) (h4 : a.t.kind ≠ 4) :
  Calls Tryz.prog 136 #[.pointer (some ⟨r, 0, none⟩), aggT a, aggT b] w (CmpR w ps rg a.t b.t) := by
 have HB := hide (boxE2_below w a b)
 have HP := hide (poss_none (O := out ps rg) h h0 h1 h2 h3 h4)
 obtain ⟨⟨k, m, r1, e1, fs⟩, A, n, c⟩ := a
 obtain ⟨⟨k', m', r1', e1', fs'⟩, A', n', c'⟩ := b
 simp only [cellsT, boxE2] at HB HP h h0 h1 h2 h3 h4
 subst h
 have t : (k != k) = false := by simp
 have t0 : (k == 0) = false := beq_eq_false_iff_ne.2 h0
 have t1 : (k == 1) = false := beq_eq_false_iff_ne.2 h1
 have t2 : (k == 2) = false := beq_eq_false_iff_ne.2 h2
 have t3 : (k == 3) = false := beq_eq_false_iff_ne.2 h3
 have t4 : (k == 4) = false := beq_eq_false_iff_ne.2 h4
 clear h0 h1 h2 h3 h4
 go_enter Tryz.func136, Tryz.ntmps136
 go_wp2
 go_ret2
 exact cmpR_mk HP.out (fun h => by cases h) HB.out
set_option maxHeartbeats 4000000 in
set_option maxRecDepth 100000 in
theorem cmp_tup (r : Nat) (a b : TyW) (ps : List Pr) (rg : Int) (w : World) (ha : OneT w w.heap.size a) (hb : OneT w w.heap.size b) (h : a.t.kind = b.t.kind) (h4 : a.t.kind = 4) (hn : a.n ≤ 65535) (hn' : b.n ≤ 65535) :
  Calls Tryz.prog 136 #[.pointer (some ⟨r, 0, none⟩), aggT a, aggT b] w (CmpR w ps rg a.t b.t) := by
 have hB := boxE2_below w a b
 have HN := hide (needs_tup (a := a.t) (b := b.t) h4)
 have HB := hide hB
 have la := ha.ok.len
 have lb := hb.ok.len
 have HA := hide ((ha.rd.below hB).more hB.size)
 have HBB := hide ((hb.rd.below hB).more hB.size)
 have HPY := hide (show a.n = b.n → poss (out ps rg) a.t b.t = true from fun e => poss_mktup h h4 (by omega))
 have HPN := hide (show a.n ≠ b.n → poss (out ps rg) a.t b.t = false from fun e => poss_tup_ne h h4 (by omega))
 clear ha hb hB la lb
 obtain ⟨⟨k, m, r1, e1, fs⟩, A, n, c⟩ := a
 obtain ⟨⟨k', m', r1', e1', fs'⟩, A', n', c'⟩ := b
 simp only [cellsT, boxE2] at HB HA HBB HPY HPN HN h h4 hn hn'
 subst h
 have t : (k != k) = false := by simp
 have t0 : (k == 0) = false := by rw [h4]; rfl
 have t1 : (k == 1) = false := by rw [h4]; rfl
 have t2 : (k == 2) = false := by rw [h4]; rfl
 have t3 : (k == 3) = false := by rw [h4]; rfl
 have t4 : (k == 4) = true := beq_iff_eq.2 h4
 clear h4
 by_cases e : n = n'
 ·
  subst e
  have HP := hide (HPY.out rfl)
  go_enter Tryz.func136, Tryz.ntmps136
  go_wp2_with fail
  refine (pairUp_yes A A' n c c' fs fs' _ HA.out HBB.out hn).mono ?_
  rintro e w1 ⟨A1, c1, rfl, hr, hb1⟩
  have HR := hide hr
  have HB1 := hide hb1
  clear hr hb1
  go_wp2_with fail
  go_ret2
  exact cmpR_mk HP.out (fun _ => by rw [HN.out]; exact HR.out) (HB.out.trans (HB1.out.mono HB.out.size))
 ·
  have HP := hide (HPN.out e)
  go_enter Tryz.func136, Tryz.ntmps136
  go_wp2_with fail
  refine (pairUp_no A A' n n' c c' _ e (by omega) (by omega)).mono ?_
  rintro e w1 ⟨rfl, rfl⟩
  go_wp2_with fail
  go_ret2
  exact cmpR_mk HP.out (fun h => by cases h) HB.out
theorem cell_up {w w5 : World} {v : Value} {base b i H : Nat} {u : Value} (hg : w.grownBy w5 v.ownBlock) (hlt : ∀ k, v.ownBlock = some k → base ≤ k ∧ k < H) (hb : b < base) (hc : w.cell? ⟨b, i, none⟩ = some u) : w5.cell? ⟨b, i, none⟩ = some u :=
 hg.cell hc (fun e => by have h := (hlt b e.symm).1; omega)
set_option maxHeartbeats 8000000 in
set_option maxRecDepth 100000 in
theorem cmp_ref (r : Nat) (a b : TyW) (ps : List Pr) (rg : Int) (w : World) (hR : Rel w w.heap.size r ps rg) (h : a.t.kind = b.t.kind) (h3 : a.t.kind = 3) :
  Calls Tryz.prog 136 #[.pointer (some ⟨r, 0, none⟩), aggT a, aggT b] w (CmpR w ps rg a.t b.t) := by
 obtain ⟨i0, hi, hz0, hz1, hz2⟩ := info_parts infoArr
 have hB := boxE2_below w a b
 have hB3 := hB.alloc hB.size (.cells #[.int .i64 a.t.elem, .int .i64 b.t.elem] 99)
 have HB := hide hB
 have HB3 := hide hB3
 have HRel := hide fun (w' : World) (hb : Below w.heap.size w w') => (hR.below hb).more hb.size
 have HN1 := hide (needs_im (a := a.t) (b := b.t) h3)
 have HN2 := hide (needs_mu (a := a.t) (b := b.t) h3)
 have HP1 := hide fun (v : Bool) (hm : a.t.mut_ = b.t.mut_) (hv : out ps rg a.t.region b.t.region = v) => poss_ref_eq (O := out ps rg) h h3 hm hv
 have HP2 := hide fun (hm : a.t.mut_ ≠ b.t.mut_) => poss_ref_ne (O := out ps rg) h h3 hm
 clear hB hB3 hR
 obtain ⟨⟨k, m, r1, e1, fs⟩, A, n, c⟩ := a
 obtain ⟨⟨k', m', r1', e1', fs'⟩, A', n', c'⟩ := b
 simp only [cellsT, boxE2] at HB HB3 HN1 HN2 HP1 HP2 h h3
 subst h
 have t : (k != k) = false := by simp
 have t0 : (k == 0) = false := by rw [h3]; rfl
 have t1 : (k == 1) = false := by rw [h3]; rfl
 have t2 : (k == 2) = false := by rw [h3]; rfl
 have t3 : (k == 3) = true := beq_iff_eq.2 h3
 clear h3
 obtain ⟨v, hv⟩ : ∃ v, out ps rg r1 r1' = v := ⟨_, rfl⟩
 have HV := hide hv
 clear hv
 have hw2 : ((w.alloc (.cells #[.int .i64 k, .bool m, .int .i64 r1, .int .i64 e1, .slice A n c] 62)).alloc (.cells #[.int .i64 k, .bool m', .int .i64 r1', .int .i64 e1', .slice A' n' c'] 62)).heap.size = w.heap.size + 2 := by simp
 cases m
 ·
  cases m'
  ·
   have HP := hide (HP1.out v rfl HV.out)
   go_enter Tryz.func136, Tryz.ntmps136
   go_wp2_with fail
   refine (Outlives_is HV.out _ (HRel.out _ HB3.out)).mono ?_
   rintro e w1 ⟨rfl, hb1⟩
   have HR1 := hide (retP_lit1 _ e1 e1' 99 hb1)
   rw [hw2] at HR1
   have HB1 := hide (HB3.out.trans (hb1.mono HB3.out.size))
   clear hb1
   go_wp2_with fail
   go_ret2
   exact cmpR_mk HP.out (fun _ => by rw [HN1.out (by trivial)]; exact HR1.out) HB1.out
  ·
   have HP := hide (HP2.out (by decide))
   go_enter Tryz.func136, Tryz.ntmps136
   go_wp2_with fail
   go_ret2
   exact cmpR_mk HP.out (fun h => by cases h) HB3.out
 ·
  have HO := hide (own_lit2 ((w.alloc (.cells #[.int .i64 k, .bool true, .int .i64 r1, .int .i64 e1, .slice A n c] 62)).alloc (.cells #[.int .i64 k, .bool m', .int .i64 r1', .int .i64 e1', .slice A' n' c'] 62)) e1 e1' 99)
  rw [hw2] at HO
  have hB4 := HB3.out.alloc HB3.out.size (.cells #[.int .i64 e1', .int .i64 e1] 99)
  have HB4 := hide hB4
  clear hB4
  cases m'
  ·
   have HP := hide (HP2.out (by decide))
   go_enter Tryz.func136, Tryz.ntmps136
   go_wp2_with (at_builtin; go_must (refine wpList_append_own_at _ rfl _ _ 23 rfl (w.heap.size + 2) 99 i0 (.agg #[.int .i64 0, .int .i64 0]) 2 16 Tryz.underlying23 hi hz0 hz1 hz2 rfl (by decide) _ 1 _ rfl (HO.out.alloc _) ⟨w.heap.size + 1 + 1 + 1, 0, none⟩ 1 1 ([(e1', e1)].flatMap pV) rfl rfl (newsP _ e1' e1 99 (by simp)) (by intro u hu; obtain ⟨p, _, hp⟩ := List.mem_flatMap.1 hu; exact pV_one p u hp) (by unfold maxLen; decide) (by decide) (by simp) ?_; intro v5 w5 hown5 hg5 _ hat5; have HB5 := hide (HB4.out.grown hg5 (by simp; omega) (fun k hk => by have := ((HO.out.alloc (.cells #[.int .i64 e1', .int .i64 e1] 99)).lt k hk).1; omega)); obtain ⟨g5, cap5, rfl⟩ := ownsRow_succ hown5; have hlt5 := (HO.out.alloc (.cells #[.int .i64 e1', .int .i64 e1] 99)).lt; have d2 : w5.cell? ⟨w.heap.size, 2, none⟩ = some (.int .i64 r1) := cell_up hg5 hlt5 (by omega) (by simp [go_sem]); have d2' : w5.cell? ⟨w.heap.size + 1, 2, none⟩ = some (.int .i64 r1') := cell_up hg5 hlt5 (by omega) (by simp [go_sem]); have d1 : w5.cell? ⟨w.heap.size, 1, none⟩ = some (.bool true) := cell_up hg5 hlt5 (by omega) (by simp [go_sem]); have d1' : w5.cell? ⟨w.heap.size + 1, 1, none⟩ = some (.bool false) := cell_up hg5 hlt5 (by omega) (by simp [go_sem]); clear hlt5 hown5 hg5 hat5))
   go_ret2
   exact cmpR_mk HP.out (fun h => by cases h) HB5.out
  ·
   have HP := hide (HP1.out v rfl HV.out)
   go_enter Tryz.func136, Tryz.ntmps136
   go_wp2_with (first
    | (at_builtin; go_must (refine wpList_append_own_at _ rfl _ _ 23 rfl (w.heap.size + 2) 99 i0 (.agg #[.int .i64 0, .int .i64 0]) 2 16 Tryz.underlying23 hi hz0 hz1 hz2 rfl (by decide) _ 1 _ rfl (HO.out.alloc _) ⟨w.heap.size + 1 + 1 + 1, 0, none⟩ 1 1 ([(e1', e1)].flatMap pV) rfl rfl (newsP _ e1' e1 99 (by simp)) (by intro u hu; obtain ⟨p, _, hp⟩ := List.mem_flatMap.1 hu; exact pV_one p u hp) (by unfold maxLen; decide) (by decide) (by simp) ?_; intro v5 w5 hown5 hg5 _ hat5; have HB5 := hide (HB4.out.grown hg5 (by simp; omega) (fun k hk => by have := ((HO.out.alloc (.cells #[.int .i64 e1', .int .i64 e1] 99)).lt k hk).1; omega)); obtain ⟨g5, cap5, rfl⟩ := ownsRow_succ hown5; have HO5 := hide (show w5.ownsRow (w.heap.size + 2) 99 2 (.slice (some ⟨g5, 0, none⟩) 2 cap5) 2 ([(e1, e1'), (e1', e1)].flatMap pV) from hown5); have hlt5 := (HO.out.alloc (.cells #[.int .i64 e1', .int .i64 e1] 99)).lt; have d2 : w5.cell? ⟨w.heap.size, 2, none⟩ = some (.int .i64 r1) := cell_up hg5 hlt5 (by omega) (by simp [go_sem]); have d2' : w5.cell? ⟨w.heap.size + 1, 2, none⟩ = some (.int .i64 r1') := cell_up hg5 hlt5 (by omega) (by simp [go_sem]); have d1 : w5.cell? ⟨w.heap.size, 1, none⟩ = some (.bool true) := cell_up hg5 hlt5 (by omega) (by simp [go_sem]); have d1' : w5.cell? ⟨w.heap.size + 1, 1, none⟩ = some (.bool true) := cell_up hg5 hlt5 (by omega) (by simp [go_sem]); clear hlt5; clear hown5 hg5 hat5))
    | (go_at_call 123; go_must (refine (Outlives_is HV.out _ (HRel.out _ HB5.out)).mono ?_; rintro e w1 ⟨rfl, hb1⟩; have HR1 := hide ((RetP.of_own HO5.out).below hb1); have HB1 := hide (HB5.out.trans (hb1.mono HB5.out.size)); clear hb1)))
   go_ret2
   exact cmpR_mk HP.out (fun _ => by rw [HN2.out (by trivial)]; exact HR1.out) HB1.out
theorem compare_any (r : Nat) (a b : TyW) (ps : List Pr) (rg : Int) (w : World) (hR : Rel w w.heap.size r ps rg) (ha : OneT w w.heap.size a) (hb : OneT w w.heap.size b) (hn : a.n ≤ 65535) (hn' : b.n ≤ 65535) :
  Calls Tryz.prog 136 #[.pointer (some ⟨r, 0, none⟩), aggT a, aggT b] w (CmpR w ps rg a.t b.t) := by
 by_cases e : a.t.kind = b.t.kind
 ·
  by_cases h3 : a.t.kind = 3
  ·
   exact cmp_ref r a b ps rg w hR e h3
  ·
   by_cases h4 : a.t.kind = 4
   ·
    exact cmp_tup r a b ps rg w ha hb e h4 hn hn'
   ·
    by_cases h0 : a.t.kind = 0 ∨ a.t.kind = 1 ∨ a.t.kind = 2
    ·
     exact cmp_flat r a b ps rg w e h0
    ·
     exact cmp_other r a b ps rg w e (by omega) (by omega) (by omega) h3 h4
 ·
  exact cmp_ne r a b ps rg w e
end Go.Proofs.YtfgacmgjpikgaaaGreatDoor
