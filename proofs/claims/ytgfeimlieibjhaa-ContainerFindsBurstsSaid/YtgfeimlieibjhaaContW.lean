/- container.Write, and the same of the reference. -/
import Derived.Test.YtgfeimlieibjhaaSecs
import Derived.Test.YtgfeimlieibjhaaPut
import Derived.Test.YtgfeimlieibjhaaRef01
import Derived.Test.YtgfeimlieibjhaaCrcApp
import Derived.Outline
import Derived.ArgAppend
import Derived.Lib.SlBytesConst
set_option linter.unusedVariables false
namespace Go.Proofs.Ytgfeimlieibjhaa
open Go.RowKit

theorem follows_any (id b : Int) (w : World) : Calls Try.prog 32 #[.int .i64 id, .int .i64 b] w fun e w' => e = .returned (.bool (folB id b)) ∧ w = w' := by
  by_cases h1 : b < id
  · by_cases h2 : id ≤ 127
    · have e := hide (show folB id b = true from folB_iff.2 ⟨h1, h2⟩)
      go_enter Try.func32, Try.ntmps32
      go_wp2
      go_ret
      exact ⟨congrArg (fun v => Ending.returned (.bool v)) e.out.symm, rfl⟩
    · have e := hide (show folB id b = false by simp [folB]; omega)
      go_enter Try.func32, Try.ntmps32
      go_wp2
      go_ret
      exact ⟨congrArg (fun v => Ending.returned (.bool v)) e.out.symm, rfl⟩
  · have e := hide (show folB id b = false by simp [folB]; omega)
    have h1' : decide (b < id) = false := by simpa using h1
    go_enter Try.func32, Try.ntmps32
    go_wp2
    go_ret
    exact ⟨congrArg (fun v => Ending.returned (.bool v)) e.out.symm, rfl⟩

theorem ordL_cons (b : Int) (x : SecW) (L : List SecW) : ordL b (vals (x :: L)) = (folB x.id b && ordL x.id (vals L)) := rfl

set_option maxHeartbeats 1000000 in
set_option maxRecDepth 100000 in
theorem ordered_any (A : Option Addr) (n c : Nat) (L : List SecW) (w : World) (hA : Secs w w.heap.size 2 c2 A n L) (hn : n ≤ maxLen) :
    Calls Try.prog 20 #[.slice A n c] w fun x w' => x = .returned (.bool (ordL 0 (vals L))) ∧ Below w.heap.size w w' := by
  have HA := hide hA
  have hl := hA.len
  unfold maxLen at hn
  clear hA
  go_enter Try.func20, Try.ntmps20
  go_wp2
  go_loopw [3, 8] (fun s i wr => ∃ (k : Nat) (b : Int), i = .int .i64 (k : Int) ∧ k ≤ n ∧ s = .int .i64 b ∧ Hid (ordL 0 (vals L) = ordL b (vals (L.drop k))) ∧ Below w.heap.size w wr) (fun _ i _ => n - (intOf i).toNat)
  case atStart => exact ⟨0, 0, rfl, Nat.zero_le _, rfl, rfl, Below.refl _ _⟩
  case round =>
    obtain ⟨k, b, rfl, hk, rfl, HT, hb⟩ := hrel
    by_cases hlt : k < n
    · have hex : ∃ a, L[k]? = some a := ⟨_, List.getElem?_eq_getElem (by omega)⟩
      obtain ⟨a, ha⟩ := hex
      obtain ⟨g, o, rfl, hbB, hok, _, c0, c1⟩ := (HA.out.below hb).at2 ha
      have HS := HT
      rw [drop_cons ha, ordL_cons] at HS
      have hb' := hide (hb.alloc hb.size (.cells #[.int .i64 a.id, .slice a.A a.n a.c] 56))
      clear hl ha HT hok
      rcases hf : folB a.id b with _ | _
      · rw [hf, Bool.false_and] at HS
        have hf' := hide hf
        clear hf hb
        go_wp2_with (go_at_call 32; refine (follows_any _ _ _).mono ?_; rintro e w' ⟨rfl, rfl⟩; rw [hf'.out])
        go_ret
        exact ⟨congrArg (fun v => Ending.returned (.bool v)) HS.out.symm, hb'.out⟩
      · rw [hf, Bool.true_and] at HS
        have hf' := hide hf
        clear hf hb
        go_wp2_with (go_at_call 32; refine (follows_any _ _ _).mono ?_; rintro e w' ⟨rfl, rfl⟩; rw [hf'.out])
        go_roundw
        case rel => exact ⟨k + 1, a.id, by go_num, by omega, rfl, HS, hb'.out⟩
        case measure => simp [intOf]; omega
    · obtain rfl : k = n := by omega
      rw [List.drop_of_length_le (by omega)] at HT
      clear hl
      go_wp2
      go_ret
      exact ⟨congrArg (fun v => Ending.returned (.bool v)) HT.out.symm, hb⟩

theorem far_of {w : World} {base : Nat} {e : TypeId} {k n : Nat} {v : Value} {xs : List Value} (h : w.ownsRow base e k v n xs) : some w.heap.size ≠ v.ownBlock := fun he => absurd (h.lt _ he.symm).2 (Nat.lt_irrefl _)
theorem far_next {G H : Nat} {v v' : Value} (h : some G ≠ v.ownBlock) (hat : v'.ownBlock = v.ownBlock ∨ v'.ownBlock = some H) (hGH : G < H) : some G ≠ v'.ownBlock := by
  rcases hat with e | e
  · rw [e]; exact h
  · rw [e]; intro h'; injection h' with h'; omega

/-- the cells of a constant string of bytes, and of what is written out behind it -/
theorem konst_cells (w : World) (xs : List Int) (t : TypeId) (fr : Nat × Nat) (o : Obj) : ∀ j u, (u8s xs)[j]? = some u → ((w.alloc (.cells (u8s xs).toArray t fr)).alloc o).cell? ((⟨w.heap.size, 0, none⟩ : Addr).add j) = some u :=
  World.news_of_block ((heap_alloc_old _ _ (by simp)).trans (heap_alloc_new w _))
theorem konst_last (w : World) (o : Obj) (x : Int) (t : TypeId) (fr : Nat × Nat) : ∀ j u, (u8s [x])[j]? = some u → ((w.alloc o).alloc (.cells (u8s [x]).toArray t fr)).cell? ((⟨w.heap.size + 1, 0, none⟩ : Addr).add j) = some u := by
  have h := heap_alloc_new (w.alloc o) (.cells (u8s [x]).toArray t fr)
  rw [World.size_alloc] at h
  exact World.news_of_block h

def wrB (L : List Sec) : List Int := if ordL 0 L = true then encC L else []
def wrE (L : List Sec) : Int := if ordL 0 L = true then 0 else 2
theorem enc_take (L : List Sec) (k : Nat) : (magicL ++ (L.take k).flatMap encS).length ≤ (encC L).length := by
  unfold encC
  have : L.flatMap encS = (L.take k).flatMap encS ++ (L.drop k).flatMap encS := by rw [← List.flatMap_append, List.take_append_drop]
  rw [this]
  simp
theorem enc_take_succ {L : List Sec} {k : Nat} {s : Sec} (h : L[k]? = some s) : magicL ++ (L.take (k + 1)).flatMap encS = magicL ++ (L.take k).flatMap encS ++ [s.1] ++ vput s.2.length ++ (s.2 ++ sto (sum s.2)) := by
  rw [List.take_add_one, h]
  simp [encS]

set_option maxHeartbeats 4000000 in
set_option maxRecDepth 100000 in
theorem Write_any (A : Option Addr) (n c : Nat) (L : List SecW) (w : World) (hA : Secs w w.heap.size 2 c2 A n L) (hn : n ≤ maxLen) (hsz : (encC (vals L)).length ≤ 1000000) :
    Calls Try.prog 12 #[.slice A n c] w fun e w' => ∃ v, e = .returned (.tuple #[v, .int .i64 (wrE (vals L))]) ∧ OwnB w w' v (wrB (vals L)) ∧ Below w.heap.size w w' := by
  obtain ⟨i0, hi, hz0, hz1, hz2⟩ := info_parts infoU8
  have HA := hide hA
  have HL := hide hA.len
  have HO := hide (ordered_any A n c L w hA hn)
  unfold maxLen at hn
  clear hA
  rcases ho : ordL 0 (vals L) with _ | _
  · rw [ho] at HO
    have e1 : Hid (wrE (vals L) = 2) := by show _ = _; unfold wrE; rw [ho]; rfl
    have e2 : Hid (wrB (vals L) = []) := by show _ = _; unfold wrB; rw [ho]; rfl
    clear ho hsz
    go_enter Try.func12, Try.ntmps12
    go_wp2_with fail
    refine HO.out.mono ?_
    rintro e w1 ⟨rfl, hb1⟩
    go_wp2_with fail
    go_ret2
    refine ⟨_, congrArg (fun z => Ending.returned (.tuple #[.slice none 0 0, .int .i64 z])) e1.out.symm, ?_, hb1⟩
    rw [e2.out]
    exact ownB_of (World.ownsRow_nil _ _ _ _)
  · rw [ho] at HO
    have e1 : Hid (wrE (vals L) = 0) := by show _ = _; unfold wrE; rw [ho]; rfl
    have e2 : Hid (wrB (vals L) = encC (vals L)) := by show _ = _; unfold wrB; rw [ho]; rfl
    have HI := hide (ordL_ids ho)
    have HT := hide fun k => Nat.le_trans (enc_take (vals L) k) hsz
    clear ho hsz
    have kc := fun (w : World) (C : Array Value) (n c : Nat) => Lib.run_convert_bytes_const (P := Try.prog) w 29 5 C n c Try.underlying29 Try.underlying5
    go_enter Try.func12, Try.ntmps12
    go_wp2_with fail
    refine HO.out.mono ?_
    rintro e w1 ⟨rfl, hb1⟩
    have hs1 := hb1.size
    go_wp2_with (at_builtin; refine wpList_append_grows _ rfl (.tmp 11) (.tmp 12) 29 rfl 5 i0 (.int .u8 0) 1 1 Try.underlying29 hi hz0 hz1 hz2 rfl (by decide) (some ⟨w1.heap.size, 0, none⟩) 4 4 (u8s [77, 73, 82, 84]) rfl (fun h => by cases h) rfl (fun b hb => by injection hb with hb; subst hb; exact konst_cells w1 _ _ _ _) ⟨w1.heap.size + 1, 0, none⟩ 1 1 (u8s [1]) rfl rfl (konst_last w1 _ _ _ _) (ints_oneCell _ _) (by omega) (by unfold maxLen; omega) (by omega) ?_; intro v2 w2 hown2 hg2)
    have hb2 : Below w.heap.size w w2 := ((hb1.alloc hs1 _).alloc (by simp; omega) _).grown hg2 (by simp; omega) (fun _ h => by cases h)
    have hown2 := ownsRow_base hown2 (base' := w.heap.size) (by simp; omega)
    have hown2' : w2.ownsRow w.heap.size 5 1 v2 5 (u8s magicL) := hown2
    clear hg2 hown2 HO hb1 hs1
    go_loopw [4, 16] (fun s i wr => ∃ (k m : Nat) (ys : List Int), i = .int .i64 (k : Int) ∧ k ≤ n ∧ wr.ownsRow w.heap.size 5 1 s m (u8s ys) ∧ Hid (ys = magicL ++ ((vals L).take k).flatMap encS) ∧ Below w.heap.size w wr) (fun _ i _ => n - (intOf i).toNat)
    case atStart => exact ⟨0, 5, magicL, rfl, Nat.zero_le _, hown2', by show _ = _; simp, hb2⟩
    case round =>
      obtain ⟨k, m, ys, rfl, hk, hown, HY, hb⟩ := hrel
      have hml : ys.length = m := by have := hown.1; simp only [List.length_map] at this; omega
      have hT1 := HT.out k
      rw [← HY.out, hml] at hT1
      by_cases hlt : k < n
      · have hex : ∃ a, L[k]? = some a := ⟨_, List.getElem?_eq_getElem (by have := HL.out; omega)⟩
        obtain ⟨x, hx⟩ := hex
        have hrd := (HA.out.2 _ (List.mem_of_getElem? hx)).2
        obtain ⟨g, o, rfl, hgB, hok, _, c0, c1⟩ := (HA.out.below hb).at2 hx
        have HS := hide (enc_take_succ (vals_at hx))
        have hT2 := HT.out (k + 1)
        rw [HS.out, ← HY.out] at hT2
        simp only [List.length_append, hml] at hT2
        have hid := HI.out _ (List.mem_of_getElem? (vals_at hx))
        simp only [] at hid
        obtain ⟨xid, xA, xn, xc, xxs, xfr, xto⟩ := x
        obtain ⟨hnc, hcm, hbyt, hlen, _, _⟩ := hok
        simp only [] at *
        have ne0 := hide (far_of hown)
        have HB := hide hb
        have HR := hide hrd
        have HP := hide fun w' => Put_any (xn : Int) (by omega) (by omega) w'
        rw [Int.toNat_natCast] at HP
        have HC := hide fun w' (h : Rd w' w.heap.size xA xn (u8s xxs)) (hB : w.heap.size ≤ w'.heap.size) => Append_any xA xn xc xxs w' w.heap.size h hB hbyt (by omega)
        rw [hlen] at HS hT2
        simp only [List.length_cons, List.length_nil, sto_len] at hT2
        generalize hvl : (vput xn).length = vl at *
        have HV := hide hvl
        have hsz := hb.size
        clear hx hvl hb hrd hbyt hml HL
        go_wp2_with (at_builtin; refine wpList_append_rd _ rfl (.tmp 20) (.tmp 24) 29 rfl w.heap.size 5 i0 (.int .u8 0) 1 Try.underlying29 hi hz0 hz1 hz2 rfl _ m (u8s ys) rfl ((hown.alloc _).alloc _) (wr.heap.size + 1 + 1) _ 1 1 (u8s [xid]) rfl (by have h := Rd_lit (wr.alloc (.cells #[.int .i64 xid, .slice xA xn xc] 56)) [xid] 5; rw [World.size_alloc] at h; exact h) (ints_oneCell _ _) (by unfold maxLen; omega) (by omega) (by simp; omega) ?_; intro v3 w3 hown3 hg3 hat3; have hb3 : Below w.heap.size w w3 := below_app ((HB.out.alloc hsz _).alloc (by simp; omega) _) ((hown.alloc _).alloc _) (by simp; omega) hg3; have f0 : w3.cell? ⟨wr.heap.size, 0, none⟩ = some (.int .i64 xid) := hg3.cell (by simp [go_sem]) ne0.out; have f1 : w3.cell? ⟨wr.heap.size, 1, none⟩ = some (.slice xA xn xc) := hg3.cell (by simp [go_sem]) ne0.out; have ne3 := hide (far_next ne0.out hat3 (by simp; omega)); have HB3 := hide hb3; have HO3 := hide hown3; have hG3 : wr.heap.size < w3.heap.size := Nat.lt_of_lt_of_le (by simp; omega) hg3.size; clear hg3 hat3 hb3 hown3)
        refine (HP.out _).mono ?_
        rintro e w4 ⟨v4, rfl, hob4, hb4⟩
        obtain ⟨A4, n4, c4, rfl, _, _, hrd4, _, HN4⟩ := hob4.var
        have hn4 : n4 = vl := HN4.out.trans HV.out
        have HB4 := hide (HB3.out.trans (hb4.mono HB3.out.size))
        have HO4 := hide (ownsRow_below HO3.out hb4)
        have g0 := (hb4.cell (p := ⟨wr.heap.size, 0, none⟩) hG3).trans f0
        have g1 := (hb4.cell (p := ⟨wr.heap.size, 1, none⟩) hG3).trans f1
        have hG4 : wr.heap.size < w4.heap.size := Nat.lt_of_lt_of_le hG3 hb4.size
        have hsz4 := HB4.out.size
        subst hn4
        clear f0 f1 hob4 hb4 hG3 HP HN4
        go_wp2_with (at_builtin; refine wpList_append_rd _ rfl (.tmp 26) (.tmp 31) 29 rfl w.heap.size 5 i0 (.int .u8 0) 1 Try.underlying29 hi hz0 hz1 hz2 rfl _ (m + 1) (u8s ys ++ u8s [xid]) rfl HO4.out w4.heap.size A4 n4 c4 (u8s (vput xn)) rfl hrd4 (ints_oneCell _ _) (by unfold maxLen; omega) (by omega) hsz4 ?_; intro v5 w5 hown5 hg5 hat5; have HB5 := hide (below_app HB4.out HO4.out hsz4 hg5); have HO5 := hide hown5; have f0 : w5.cell? ⟨wr.heap.size, 0, none⟩ = some (.int .i64 xid) := hg5.cell g0 ne3.out; have f1 : w5.cell? ⟨wr.heap.size, 1, none⟩ = some (.slice xA xn xc) := hg5.cell g1 ne3.out; have hsz5 := HB5.out.size; clear hg5 hat5 hown5 g0 g1)
        refine (HC.out _ (HR.out.below HB5.out) hsz5).mono ?_
        rintro e w6 ⟨v6, rfl, hob6, hb6⟩
        obtain ⟨A6, n6, c6, rfl, _, _, hrd6, _, HN6⟩ := hob6.var
        have hn6 : n6 = xn + 4 := by rw [HN6.out, List.length_append, hlen, sto_len]
        have HB6 := hide (HB5.out.trans (hb6.mono hsz5))
        have HO6 := hide (ownsRow_below HO5.out hb6)
        have hsz6 := HB6.out.size
        subst hn6
        clear f0 f1 hob6 hb6 HC HN6
        go_wp2_with (at_builtin; refine wpList_append_rd _ rfl (.tmp 33) (.tmp 36) 29 rfl w.heap.size 5 i0 (.int .u8 0) 1 Try.underlying29 hi hz0 hz1 hz2 rfl _ (m + 1 + n4) (u8s ys ++ u8s [xid] ++ u8s (vput xn)) rfl HO6.out w6.heap.size A6 (xn + 4) c6 (u8s (xxs ++ sto (sum xxs))) rfl hrd6 (ints_oneCell _ _) (by unfold maxLen; omega) (by omega) hsz6 ?_; intro v7 w7 hown7 hg7 hat7; have HB7 := hide (below_app HB6.out HO6.out hsz6 hg7); have HO7 := hide hown7; clear hg7 hat7 hown7)
        go_roundw
        case rel =>
          refine ⟨k + 1, m + 1 + n4 + (xn + 4), ys ++ [xid] ++ vput xn ++ (xxs ++ sto (sum xxs)), by go_num, by omega, ?_, ?_, HB7.out⟩
          · simpa [u8s] using HO7.out
          · show _ = _
            rw [HS.out, HY.out]
        case measure => simp [intOf]; omega
      · obtain rfl : k = n := by omega
        rw [List.take_of_length_le (by rw [List.length_map, HL.out]; omega)] at HY
        have hob := hide hown
        have hbb := hide hb
        clear hown hb hb2 hown2' hT1 hml
        go_wp2_with fail
        go_ret2
        refine ⟨_, congrArg (fun z => Ending.returned (.tuple #[_, .int .i64 z])) e1.out.symm, ?_, hbb.out⟩
        rw [e2.out]
        have hy : ys = encC (vals L) := HY.out
        subst hy
        have hm : (encC (vals L)).length = m := by have := hob.out.1; simp only [List.length_map] at this; omega
        refine ownB_of ?_
        rw [hm]
        exact hob.out
end Go.Proofs.Ytgfeimlieibjhaa
