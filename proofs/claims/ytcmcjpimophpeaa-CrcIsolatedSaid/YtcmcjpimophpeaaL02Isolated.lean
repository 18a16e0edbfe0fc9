/- CrcIsolated: for every input the law returns true, and turns nothing that lay. No condition. -/
import Derived.Test.YtcmcjpimophpeaaRows
import Derived.Test.YtcmcjpimophpeaaAlive02
import Derived.Test.YtcmcjpimophpeaaOpen
import Derived.Deep.WholeRow
namespace Go.Proofs.Ytcmcjpimophpeaa.crcIsolated
open Go.ChangeShapes Go.WideShapes Go.ChangeAt Go.RowKit
set_option linter.unusedVariables false

/-- the cells of the copy, spare ones included -/
def cells8 (xs : List Int) : Array Value := (u8s (xs ++ List.replicate 8 0)).toArray
def zeros (n : Nat) : Array Value := (u8s (List.replicate (n + 8) 0)).toArray
theorem made (n : Nat) (z : Value) (hz : z = .int .u8 0) : madeCells z.cells ((n + 8) * 1) = zeros n := by
  subst hz
  apply Array.ext
  · simp [madeCells, zeros, u8s]
  · intro i h1 h2
    simp [madeCells, zeros, u8s, Value.cells, Nat.mod_one]
theorem mk8 (n : Nat) (w : World) (hn : n ≤ 5000) : (Instr.makeSlice 22 (.int .i64 0) (.int .i64 ((n : Int) + 8))).run Try.prog w = .ok (.slice (some ⟨w.heap.size, 0, none⟩) 0 (n + 8)) (w.alloc (.cells (zeros n) 5)) := by
  obtain ⟨i0, hi0, hz0, hz1, hz2⟩ := info_parts infoU8
  have h := run_make w 22 5 i0 (.int .u8 0) Try.underlying22 hi0 hz0 .i64 .i64 0 ((n : Int) + 8) (by omega) (by omega) (by rw [hz2]; omega) (by omega)
  rw [hz1, show ((n : Int) + 8).toNat = n + 8 by omega, made n _ rfl] at h
  exact h
theorem cells8_of (n : Nat) (xs : List Int) (hl : xs.length = n) : ((zeros n).toList.take (0 * 1) ++ u8s xs ++ (zeros n).toList.drop (0 * 1 + (u8s xs).length)).toArray = cells8 xs := by
  unfold cells8 zeros
  simp only [Nat.zero_mul, List.take_zero, List.nil_append, Nat.zero_add, u8s, List.map_append, List.map_replicate, List.length_map, hl, List.drop_replicate]
  rw [show n + 8 - n = 8 by omega]
theorem app8 (A : Option Addr) (n c : Nat) (xs : List Int) (w : World) (ty : TypeId) (hr : Rd w w.heap.size A n (u8s xs)) (hn : n ≤ 5000) :
    (Builtin.append_ #[22, 22] ty #[.slice (some ⟨w.heap.size, 0, none⟩) 0 (n + 8), .slice A n c]).run Try.prog (w.alloc (.cells (zeros n) 5)) = .ok (.slice (some ⟨w.heap.size, 0, none⟩) n (n + 8)) (w.alloc (.cells (cells8 xs) 5)) := by
  obtain ⟨i0, hi0, hz0, hz1, hz2⟩ := info_parts infoU8
  have hl : xs.length = n := by simpa using hr.1
  rcases A with _ | ad
  · have h0 : n = 0 := by
      rcases Nat.eq_zero_or_pos n with h0 | h0
      · exact h0
      · obtain ⟨b, o, h, _⟩ := hr.2 h0
        cases h
    subst h0
    have hx : xs = [] := List.eq_nil_of_length_eq_zero hl
    subst hx
    have ho : (w.alloc (.cells (zeros 0) 5)).ownsRow w.heap.size 5 1 (.slice (some ⟨w.heap.size, 0, none⟩) 0 (0 + 8)) 0 [] :=
      ⟨rfl, .inr ⟨w.heap.size, 0 + 8, zeros 0, rfl, Nat.le_refl _, heap_alloc_new w _, by omega, by decide, rfl, rfl⟩⟩
    exact run_append_nil _ w.heap.size 22 ty 5 i0 1 Try.underlying22 hi0 _ 0 [] ho c
  · have hcells : ∀ j u, (u8s xs)[j]? = some u → (w.alloc (.cells (zeros n) 5)).cell? (ad.add j) = some u := by
      intro j u hu
      have hj : j < (u8s xs).length := by
        rcases Nat.lt_or_ge j (u8s xs).length with h' | h'
        · exact h'
        · rw [List.getElem?_eq_none h'] at hu; cases hu
      obtain ⟨b, o, h, hb, hc⟩ := hr.2 (by have := hr.1; omega)
      injection h with h
      subst h
      have hadd : (⟨b, o, none⟩ : Addr).add j = ⟨b, o + j, none⟩ := by unfold Addr.add; split <;> simp_all
      rw [hadd, World.cell?_alloc_lt w _ _ (show b < _ from hb)]
      exact hc j u hu
    have h := run_append_room (P := Try.prog) (w.alloc (.cells (zeros n) 5)) 22 ty 5 i0 Try.underlying22 hi0 w.heap.size 0 (n + 8) (zeros n) (heap_alloc_new w _) ad n c (u8s xs) (by rw [hz1]; simpa using hl) hcells (ints_oneCell _ _) (by omega)
      (by rw [hz1]; simp [zeros, u8s, hl])
    rw [hz1, cells8_of n xs hl, World.setRow_alloc_new, Nat.zero_add] at h
    exact h

theorem cells8_rd (w : World) (n : Nat) (xs : List Int) (hl : xs.length = n) : Rd (w.alloc (.cells (cells8 xs) 5)) (w.heap.size + 1) (some ⟨w.heap.size, 0, none⟩) n (u8s xs) :=
  ⟨by simpa using hl, fun _ => ⟨w.heap.size, 0, rfl, by omega, fun j u hu => by
    rw [cell_of_row (w.alloc (.cells (cells8 xs) 5)) w.heap.size (0 + j) (cells8 xs) 5 (0, 0) (heap_alloc_new w _), Nat.zero_add]
    unfold cells8 u8s
    rw [List.map_append, List.getElem?_toArray, List.getElem?_append_left]
    · exact hu
    · rcases Nat.lt_or_ge j (u8s xs).length with h' | h'
      · exact h'
      · rw [List.getElem?_eq_none h'] at hu; cases hu⟩⟩
theorem cells8_spare (w : World) (n k : Nat) (xs : List Int) (hl : xs.length = n) (hk : k < 8) : (w.alloc (.cells (cells8 xs) 5)).cell? ⟨w.heap.size, n + k, none⟩ = some (.int .u8 0) := by
  rw [cell_of_row (w.alloc (.cells (cells8 xs) 5)) w.heap.size (n + k) (cells8 xs) 5 (0, 0) (heap_alloc_new w _)]
  unfold cells8 u8s
  rw [List.map_append, List.getElem?_toArray, List.getElem?_append_right (by simp [hl])]
  rw [show n + k - (List.map (Value.int .u8) xs).length = k by simp [hl], List.map_replicate, List.getElem?_replicate, if_pos hk]
theorem AppI (w : World) (n : Nat) (xs : List Int) (hl : xs.length = n) (hx : Byt xs) (hn : n ≤ 5000) :
    Calls Try.prog 13 #[.slice (some ⟨w.heap.size, 0, none⟩) n (n + 8)] (w.alloc (.cells (cells8 xs) 5)) fun e w' => ∃ g3 n3 c3 zs, e = .returned (.slice (some ⟨g3, 0, none⟩) n3 c3) ∧ n3 ≤ 5004 ∧ w.heap.size + 1 ≤ g3 ∧
      Hid (zs.length = n3) ∧ Byt zs ∧ w'.ownsRow (w.heap.size + 1) 5 1 (.slice (some ⟨g3, 0, none⟩) n3 c3) n3 (u8s zs) ∧ Below (w.heap.size + 1) (w.alloc (.cells (cells8 xs) 5)) w' := by
  have hlen : (xs ++ sto (sum xs)).length = n + 4 := by rw [List.length_append, sto_len, hl]
  have hsz : (w.alloc (.cells (cells8 xs) 5)).heap.size = w.heap.size + 1 := by simp
  refine (Append_any _ n (n + 8) xs _ (w.heap.size + 1) (cells8_rd w n xs hl) (by omega) hx (by omega)).mono ?_
  rintro e w1 ⟨v1, rfl, ⟨A2, c2, rfl, h1, h2, h3, h4⟩, q1⟩
  rw [hsz] at h4 q1
  rw [hlen] at h1 h4 ⊢
  obtain ⟨g3, c3, hv, hg3, _⟩ := h4.form (by omega)
  injection hv with hv1 hv2 hv3
  subst hv1 hv3
  exact ⟨g3, n + 4, c2, _, rfl, by omega, hg3, hlen, hx.append (sto_byt _), h4, q1⟩

set_option maxHeartbeats 4000000 in
theorem walk (A1 : Option Addr) (n1 c1 : Nat) (xs1 : List Int) (w : World) (h1 : Arg w A1 n1 c1 xs1) :
    Calls Try.prog 8 #[.slice A1 n1 c1] w fun e w' => e = .returned (.bool true) ∧ Below w.heap.size w w' := by
  have hnc := h1.nc
  have hcm := h1.cm
  have hb1 := h1.byt
  have hr1 := h1.rd
  unfold maxLen at hcm
  clear h1
  obtain ⟨i0, hi0, hz0, hz1, hz2⟩ := info_parts infoU8
  by_cases hn : 5000 < n1
  · have hi : (5000 : Int) < (n1 : Int) := by omega
    go_enter Try.func8, Try.ntmps8
    go_wp2_with fail
    refine (alive02_any _).mono ?_
    rintro e w1 ⟨rfl, hb⟩
    go_wp2_with fail
    go_ret
    exact ⟨rfl, hb⟩
  · have hi : ¬ ((5000 : Int) < (n1 : Int)) := by omega
    go_enter Try.func8, Try.ntmps8
    have hmk := mk8 n1 w (by omega)
    have hap := fun ty => app8 A1 n1 c1 xs1 w ty hr1 (by omega)
    go_wp2_with (at_builtin; refine Lib.wpList_append_run _ rfl _ _ _ _ rfl _ _ rfl rfl _ _ (hap _) ?_)
    have hl1 : xs1.length = n1 := by simpa using hr1.1
    have HL := hide hl1
    have hsp := hide fun k => cells8_spare w n1 k xs1 hl1
    have hrc := cells8_rd w n1 xs1 hl1
    refine (AppI w n1 xs1 hl1 hb1 (by omega)).mono ?_
    clear hmk hap hl1
    rintro e w2 ⟨g3, n3, c3, zs, rfl, hn3, hg3, hzl, hzb, hown, q2⟩
    have hgz : w.heap.size < w2.heap.size := by have := q2.size; simp at this; omega
    go_wp2_with fail
    go_loopw [23] (fun i wr => ∃ (k : Nat) (ys : List Int), i = .int .i64 (k : Int) ∧ k ≤ n3 ∧ Hid (ys.length = n3) ∧ Byt ys ∧ wr.ownsRow (w.heap.size + 1) 5 1 (.slice (some ⟨g3, 0, none⟩) n3 c3) n3 (u8s ys) ∧ Below (w.heap.size + 1) (w.alloc (.cells (cells8 xs1) 5)) wr) (fun i _ => n3 - (intOf i).toNat)
    case atStart => exact ⟨0, zs, rfl, by omega, hzl, hzb, hown, q2⟩
    case round =>
      obtain ⟨k, ys, rfl, hk, hyl, hyb, hown2, hb⟩ := hrel
      by_cases hlt : k < n3
      · have hc := hown2.cellAt k (by omega)
        have hfr := hown2.frozenAt k
        obtain ⟨y, hy⟩ : ∃ y, ys[k]? = some y := ⟨_, List.getElem?_eq_getElem (by rw [hyl.out]; exact hlt)⟩
        rw [List.getElem?_map, hy] at hc
        simp only [Option.map_some] at hc
        obtain ⟨y0, y1⟩ := hyb.at hy
        have hst := hown2.stored k (.int .u8 ((y + 1) % 256))
        rw [show (u8s ys).set k (.int .u8 ((y + 1) % 256)) = u8s (ys.set k ((y + 1) % 256)) by unfold u8s; rw [List.map_set]] at hst
        have hst2 := hide hst.1
        have hbl := hide (hb.setCell (p := ⟨g3, k, none⟩) hg3 (.int .u8 ((y + 1) % 256)))
        have hyl2 := hide (show (ys.set k ((y + 1) % 256)).length = n3 by rw [List.length_set, hyl.out])
        have hyb2 : Byt (ys.set k ((y + 1) % 256)) := fun x hx => by
          rcases List.mem_or_eq_of_mem_set hx with h | rfl
          · exact hyb x h
          · omega
        clear hy hst
        go_wp2_with fail
        go_roundw
        case rel => exact ⟨k + 1, _, by go_num, by omega, hyl2, hyb2, hst2.out, hbl.out⟩
        case measure => simp [intOf]; omega
      · obtain rfl : k = n3 := by omega
        clear hown2 hown hyb hyl
        have k1 : (n1 : Int) + 8 ≤ (n1 : Int) + 8 := by omega
        have hq := hide (show Below w.heap.size w wr from ((Below.refl w.heap.size w).alloc (Nat.le_refl _) _).trans (hb.mono (by omega)))
        have hra := hide ((hr1.below hq.out).more hq.out.size)
        have hrb := hide (hrc.below hb)
        have hlt3 : w.heap.size < wr.heap.size := by have := hb.size; simp at this; omega
        go_wp2_with fail
        go_loop [42] (fun i => ∃ t : Nat, i = .int .i64 (t : Int) ∧ t ≤ 8) (fun i => 8 - (intOf i).toNat)
        case atStart => exact ⟨0, rfl, by omega⟩
        case round =>
          obtain ⟨t, rfl, ht⟩ := hrel
          by_cases hlt2 : t < 8
          · have hcell := (hb.cell (p := ⟨w.heap.size, n1 + t, none⟩) (by show w.heap.size < _; omega)).trans (hsp.out t hlt2)
            go_wp2_with fail
            go_round
            case rel => exact ⟨t + 1, by go_num, by omega⟩
            case measure => simp [intOf]; omega
          · obtain rfl : t = 8 := by omega
            have HS := hide (eqB_self xs1)
            go_wp2_with fail
            refine (alive02_any _).mono ?_
            rintro e w4 ⟨rfl, p4⟩
            have hr14 := hra.out.below p4
            have hr24 := hrb.out.below (p4.mono (by omega))
            have hq4 := hide (hq.out.trans (p4.mono hq.out.size))
            clear p4
            go_wp2_with fail
            refine (Equal_any _ _ _ _ _ _ _ _ _ _ _ hr14 hr24 hb1 hb1).mono ?_
            rintro e w5 ⟨rfl, rfl⟩
            rw [HS.out]
            go_wp2_with fail
            go_ret
            exact ⟨rfl, hq4.out⟩

theorem own : ownKnob Try.prog.godebug = none := by kernel_rfl
theorem laidOut : laidOutB Try.prog = true := by kernel_rfl

/-- what the walk gives, for every argument that can be read -/
theorem contract (H : Type) (enc : TypeId × Value → H) (W : World) (base : Nat) (args : Array Value) (ds gs : List (DataW H)) (before : List MemPlace)
    (hval0 : ∀ (j : Nat) t v, Try.f8.params[j]? = some t → args[j]? = some v → Value.okWide Try.prog W .any base t v)
    (hW : DataW.Whole enc Try.prog Try.f8.params.toList Rows.crcIsolatedSpec.vars false W args.toList ds gs before) :
    Calls Try.prog 8 args W fun e W' => ∃ v, e = .returned v ∧ Rows.crcIsolatedSpec.post enc Try.prog Try.f8 false true false false W args v W' := by
  have hval : ∀ (j : Nat) t v, Try.f8.params[j]? = some t → args[j]? = some v → Value.okWide Try.prog W .any base t v := hval0
  have hW' := hW
  obtain ⟨p, q, hA0, hV, rfl, hfz, hnd⟩ := hW
  have hA : DataW.TrodAll enc Try.prog W 0 (fun _ => true) true Try.f8.params.toList args.toList ds p := hA0
  rw [Try.params8] at hA hval
  obtain ⟨v0, vs0, d0, ds0, p0, q0, hargs, rfl, rfl, h0, r0⟩ := trodAll_cons hA
  obtain ⟨rfl, rfl, rfl⟩ := trodAll_nil r0
  obtain rfl : args = #[v0] := by cases args; simp_all
  obtain ⟨rfl, rfl⟩ := trodVars_none hV
  have k0 := h0
  have lt0 : ∀ x ∈ p0, x.block < W.heap.size := by obtain ⟨m, hm⟩ := k0; exact DataW.trod_lt m _ _ _ hm
  obtain ⟨A0, n0, c0, xs0, rfl, g0, _⟩ := openBytes Try.underlying22 Try.underlying5 (by kernel_rfl) (hval 0 22 v0 rfl rfl) h0
  clear hA0 hval0
  simp only [List.append_nil] at hW'
  refine (walk A0 n0 c0 xs0 W g0).mono fun e W' ⟨he, bel⟩ => ?_
  subst he
  exact ⟨_, rfl, _, _, _, [], _, [], hW', trodAll_mk1 (shut_bool Try.underlying4 _), (trodAll_cons_mk (Below.trod laidOut (by kernel_rfl) (of_decide_eq_true (by kernel_rfl)) k0 bel lt0) trodAll_mk0), rfl, bel.frame _, fun h => by cases h⟩

set_option maxRecDepth 100000 in
theorem lifted (os : Os) (started : os.Started) (H : Type) (enc : TypeId × Value → H) :
    ReturnsInHanded {} Try.checked os 8 .any (Rows.crcIsolatedSpec.pre6 enc Try.prog Try.f8 Rows.crcIsolatedRow.domain false) (Rows.crcIsolatedSpec.post enc Try.prog Try.f8 false true false false) := by
  refine returnsInHanded_of_change (C := Try.checked) own started (by kernel_rfl) Try.func8
    (ChangeSpec.witness6 (enc := enc) (C := Try.checked) false ⟨#[], #[.slice none 0 0], []⟩ 8 (by kernel_rfl) (by kernel_rfl) (by kernel_rfl) (by kernel_rfl)) ?_
  intro W base args ds gs before hval hW _ _
  exact contract H enc W base args ds gs before hval hW

/-- the statement -/
theorem proved : Rows.CrcIsolatedSaid :=
  OpenClaim.holds_of_wide 8 Try.f8 rfl rfl rfl rfl rfl rfl rfl ⟨rfl, rfl, rfl, rfl, rfl⟩ rfl rfl rfl rfl rfl (by kernel_rfl) Try.func8 (by kernel_rfl)
    (of_decide_eq_true (by kernel_rfl)) (by unfold Func.isWrapper; first | (rw [if_pos (by decide +kernel)]; kernel_rfl) | (rw [if_neg (by decide +kernel)]; exact ⟨rfl, rfl⟩))
    (fun os started H enc _ => lifted os started H enc)
end Go.Proofs.Ytcmcjpimophpeaa.crcIsolated
