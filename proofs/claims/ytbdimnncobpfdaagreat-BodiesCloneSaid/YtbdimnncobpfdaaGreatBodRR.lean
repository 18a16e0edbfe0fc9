/- scramble -/
import Derived.Test.YtbdimnncobpfdaaGreatBodR
import Derived.BigRegion
set_option linter.unusedVariables false
set_option linter.unusedSimpArgs false
namespace Go.Proofs.YtbdimnncobpfdaaGreat
open Go.RowKit Go.Shelf

theorem Rd_cell9 {w : World} {lo n c g i : Nat} {A : Option Addr} {L : List ByteArray} {s : ByteArray} (h : w.ownsRow lo 9 1 (.slice A n c) n (L.flatMap cStr)) (hA : A = some ⟨g, 0, none⟩) (hs : L[i]? = some s) : w.cell? ⟨g, i, none⟩ = some (.string s) := by
  subst hA
  have hc : Cells w w.heap.size 1 cStr (some ⟨g, 0, none⟩) n L := Cells.of_own cStr_len (by decide) h
  obtain ⟨b, o, hb, _, h1⟩ := hc.at_ hs
  injection hb with hb
  injection hb with hb1 hb2
  subst hb1 hb2
  have := h1 0 (.string s) rfl
  simpa using this

/-- what is known while a copy is scrambled -/
theorem scr_box {lo : Nat} {w W0 wr : World} {hi : Nat} {cs : List Value} (hs : Sim lo hi W0 wr) (hx : Bx W0 w.heap.size cs 28) (hh : hi ≤ w.heap.size) : Bx wr w.heap.size cs 28 := hs.box hx hh
set_option maxHeartbeats 4000000 in
set_option maxRecDepth 100000 in
theorem Scramble_any (x : BdW) (wc w : World) (lo : Nat) (hc : OwBd wc lo x) (ho : OneBd wc wc.heap.size x) (hb : Below wc.heap.size wc w) (hst : ∀ s ∈ x.regions.L, s.size ≤ 3000) :
    Calls Tryz.prog 24 #[aggBd x] w fun e w' => e = .returned (.tuple #[]) ∧ Sim lo wc.heap.size w w' := by
  have HC := hide hc
  have HO := hide ho
  have hle : wc.heap.size ≤ w.heap.size := hb.size
  have HST := hide hst
  have HRL := hide ho.regions.len
  have HOL := hide ho.outl.len
  have HTL := hide ho.types.len
  have HLL := hide ho.locals.len
  have HBL := hide ho.blocks.len
  have hrn := ho.regions.nm
  have hon := ho.outl.nm
  have htn := ho.types.nm
  have hln := ho.locals.nm
  have hbn := ho.blocks.nm
  obtain ⟨nm, ⟨rA, rn, rc, rL⟩, ⟨oA, on, oc, oL⟩, ⟨tA, tn, tc, tL⟩, ⟨lA, ln, lc, lL⟩, ar, ⟨bA, bn, bc, bL⟩⟩ := x
  simp only [] at hrn hon htn hln hbn
  unfold maxLen at hrn hon htn hln hbn
  have HW := hide (hb.trans ((Below.refl wc.heap.size w).alloc hle (.cells #[.string nm, .slice rA rn rc, .slice oA on oc, .slice tA tn tc, .slice lA ln lc, .int .i64 ar, .slice bA bn bc] 28)))
  have HX := hide (Bx.new w [.string nm, .slice rA rn rc, .slice oA on oc, .slice tA tn tc, .slice lA ln lc, .int .i64 ar, .slice bA bn bc] 28)
  obtain ⟨W0, hW0⟩ : ∃ W, w.alloc (.cells #[.string nm, .slice rA rn rc, .slice oA on oc, .slice tA tn tc, .slice lA ln lc, .int .i64 ar, .slice bA bn bc] 28) = W := ⟨_, rfl⟩
  have HW0 := hide hW0
  have HX0 := hide (show Bx W0 w.heap.size [.string nm, .slice rA rn rc, .slice oA on oc, .slice tA tn tc, .slice lA ln lc, .int .i64 ar, .slice bA bn bc] 28 from hW0 ▸ HX.out)
  have HWC := hide (show Below wc.heap.size wc W0 from hW0 ▸ HW.out)
  have HCB := hide fun (wr : World) (hs : Sim lo wc.heap.size W0 wr) => (show wr.cell? ⟨w.heap.size, 0, none⟩ = some (.string nm) ∧ wr.cell? ⟨w.heap.size, 1, none⟩ = some (.slice rA rn rc) ∧ wr.cell? ⟨w.heap.size, 2, none⟩ = some (.slice oA on oc) ∧ wr.cell? ⟨w.heap.size, 3, none⟩ = some (.slice tA tn tc) ∧ wr.cell? ⟨w.heap.size, 4, none⟩ = some (.slice lA ln lc) ∧ wr.cell? ⟨w.heap.size, 5, none⟩ = some (.int .i64 ar) ∧ wr.cell? ⟨w.heap.size, 6, none⟩ = some (.slice bA bn bc) from ⟨(hs.box HX0.out hle).cell (j := 0) rfl, (hs.box HX0.out hle).cell (j := 1) rfl, (hs.box HX0.out hle).cell (j := 2) rfl, (hs.box HX0.out hle).cell (j := 3) rfl, (hs.box HX0.out hle).cell (j := 4) rfl, (hs.box HX0.out hle).cell (j := 5) rfl, (hs.box HX0.out hle).cell (j := 6) rfl⟩)
  have HFIN := hide fun (wr : World) (hs : Sim lo wc.heap.size W0 wr) => (show Sim lo wc.heap.size w wr from Sim.of_alloc (o := .cells #[.string nm, .slice rA rn rc, .slice oA on oc, .slice tA tn tc, .slice lA ln lc, .int .i64 ar, .slice bA bn bc] 28) (hW0.symm ▸ hs) hle)
  clear hc ho hb hst hW0 HX HW
  go_enter Tryz.func24, Tryz.ntmps24
  go_wp2_with fail
  rw [HW0.out]
  have HS := hide (Sim.refl lo wc.heap.size W0)
  obtain ⟨bx0, bx1, bx2, bx3, bx4, bx5, bx6⟩ := HCB.out _ HS.out
  have HR0 := hide (show ∀ p s g, rA = some ⟨g, 0, none⟩ → rL[p]? = some s → W0.cell? ⟨g, p, none⟩ = some (.string s) from fun p s g hA hs => by
    obtain ⟨g', hA', _, hgh, hcell⟩ := sim_cell (f := cStr) cStr_len HC.out.regions (Below.refl _ _) (Sim.refl lo wc.heap.size wc) hs (by decide)
    simp only [] at hA'
    rw [hA] at hA'
    injection hA' with hA'
    injection hA' with hA'
    subst hA'
    have h1 := Rd_cell9 HC.out.regions hA hs
    exact (HWC.out.cell (p := ⟨g, p, none⟩) hgh).trans h1)
  go_wp2
  clear bx0 bx1 bx2 bx3 bx4 bx5 bx6
  go_loopw [15] (fun i wr => ∃ j : Nat, i = .int .i64 (j : Int) ∧ j ≤ rn ∧ Hid (Sim lo wc.heap.size W0 wr) ∧ Hid (∀ p s g, rA = some ⟨g, 0, none⟩ → j ≤ p → rL[p]? = some s → wr.cell? ⟨g, p, none⟩ = some (.string s))) (fun i _ => rn - (intOf i).toNat)
  case atStart => exact ⟨0, rfl, Nat.zero_le _, HS, hide (fun p s g hA _ hs => HR0.out p s g hA hs)⟩
  case round =>
    clear HS
    obtain ⟨j, rfl, hj, HS, HRR⟩ := hrel
    obtain ⟨bx0, bx1, bx2, bx3, bx4, bx5, bx6⟩ := HCB.out _ HS.out
    by_cases hlt : j < rn
    · obtain ⟨g, hA, _, _⟩ := own_form HC.out.regions (show 0 < rn by omega)
      simp only [] at hA
      subst hA
      have hlt' : (j : Int) < (rn : Int) := by omega
      have hrl : rL.length = rn := HRL.out
      obtain ⟨s, hs⟩ : ∃ s, rL[j]? = some s := ⟨_, List.getElem?_eq_getElem (by omega)⟩
      have hsz : s.size ≤ 3000 := HST.out s (List.mem_of_getElem? hs)
      obtain ⟨_, hgh, hcell⟩ := sim_at (f := cStr) cStr_len HC.out.regions HWC.out HS.out hs (by decide)
      obtain ⟨_, hf, hset⟩ := hcell 0 (.string s) rfl
      simp only [Nat.mul_one, Nat.add_zero] at hf hset
      have hv := HRR.out j s g rfl (Nat.le_refl _) hs
      have HSET := hide fun t => hset (.string t) (.inr (.inr ⟨_, _, rfl, rfl⟩))
      have HRR2 := hide fun (t : Value) (p : Nat) (s' : ByteArray) (g' : Nat) (hA : (some ⟨g, 0, none⟩ : Option Addr) = some ⟨g', 0, none⟩) (hp : j + 1 ≤ p) (hs' : rL[p]? = some s') => (show (wr.setCell ⟨g, j, none⟩ t).cell? ⟨g', p, none⟩ = some (.string s') from by
        have h1 := HRR.out p s' g' hA (by omega) hs'
        injection hA with hA
        injection hA with hA
        subst hA
        rw [World.cell?_setCell_other _ _ _ _ (by simp <;> omega)]
        exact h1)
      clear hcell hset hs
      go_wp2
      go_roundw
      case rel => exact ⟨j + 1, by go_num, by omega, hide (HSET.out _), hide (HRR2.out _)⟩
      case measure => simp [intOf]; omega
    have hjn : rn = j := by omega
    have hge : ¬ (j : Int) < (rn : Int) := by omega
    clear HRR HR0 hlt hj hjn
    go_wp2
    clear bx0 bx1 bx2 bx3 bx4 bx5 bx6 hge
    generalize wr = wo2 at *
    go_loopw [29] (fun i wr => ∃ j : Nat, i = .int .i64 (j : Int) ∧ j ≤ on ∧ Hid (Sim lo wc.heap.size W0 wr)) (fun i _ => on - (intOf i).toNat)
    case atStart => exact ⟨0, rfl, Nat.zero_le _, HS⟩
    case round =>
      clear HS
      obtain ⟨j, rfl, hj, HS⟩ := hrel
      obtain ⟨bx0, bx1, bx2, bx3, bx4, bx5, bx6⟩ := HCB.out _ HS.out
      by_cases hlt : j < on
      · skip
        obtain ⟨g, hA, _, _⟩ := own_form HC.out.outl (show 0 < on by omega)
        simp only [] at hA
        subst hA
        have hlt' : (j : Int) < (on : Int) := by omega
        have hL9 : oL.length = on := HOL.out
        obtain ⟨p, hp⟩ : ∃ p, oL[j]? = some p := ⟨_, List.getElem?_eq_getElem (by omega)⟩
        have hmem := List.mem_of_getElem? hp
        obtain ⟨_, hgh, hcell⟩ := sim_at (f := pV) pV_len HC.out.outl HWC.out HS.out hp (by decide)
        obtain ⟨⟨v, hv, hlv⟩, hf, hset⟩ := hcell 0 (.int .i64 p.1) rfl
        obtain ⟨b2, rfl, _⟩ := hlv.int (HO.out.outl.all p hmem).1
        have HSET := hide fun z => hset _ (like_int64 p.1 z)
        have HSET2 := hide fun z => hset _ (like_int p.1 z)
        simp only [Nat.add_zero] at hv hf
        have HV := hide hv
        have HF := hide hf
        clear hcell hset hlv hmem hp
        go_wp2
        go_region
        all_goals
          go_wp2
          go_roundw
          case rel => exact ⟨j + 1, by go_num, by omega, by first | exact hide (HSET.out _).drew | exact hide (HSET.out _) | exact hide (HSET2.out _)⟩
          case measure => simp [intOf]; omega
      have hjn : on = j := by omega
      have hge : ¬ (j : Int) < (on : Int) := by omega
      clear hlt hj hjn
      go_wp2
      clear bx0 bx1 bx2 bx3 bx4 bx5 bx6 hge
      generalize wr = wo3 at *
      go_loopw [45] (fun i wr => ∃ j : Nat, i = .int .i64 (j : Int) ∧ j ≤ tn ∧ Hid (Sim lo wc.heap.size W0 wr)) (fun i _ => tn - (intOf i).toNat)
      case atStart => exact ⟨0, rfl, Nat.zero_le _, HS⟩
      case round =>
        clear HS
        obtain ⟨j, rfl, hj, HS⟩ := hrel
        obtain ⟨bx0, bx1, bx2, bx3, bx4, bx5, bx6⟩ := HCB.out _ HS.out
        by_cases hlt : j < tn
        · skip
          obtain ⟨g, hA, _, _⟩ := own_form HC.out.types.row (show 0 < tn by omega)
          simp only [] at hA
          subst hA
          have hlt' : (j : Int) < (tn : Int) := by omega
          have hL9 : tL.length = tn := HTL.out
          obtain ⟨p, hp⟩ : ∃ p, tL[j]? = some p := ⟨_, List.getElem?_eq_getElem (by omega)⟩
          have hmem := List.mem_of_getElem? hp
          obtain ⟨_, hgh, hcell⟩ := sim_at (f := c5) c5_len HC.out.types.row HWC.out HS.out hp (by decide)
          have HOT := hide (HO.out.types.all p hmem)
          have HCT := hide (HC.out.types.all p hmem)
          have HP := hide hp
          have hpn := HOT.out.ok.nc
          have hpm := HOT.out.ok.cm
          obtain ⟨⟨v, hv, hlv⟩, hf, hset⟩ := hcell 0 (.int .i64 p.t.kind) rfl
          obtain ⟨b2, rfl, _⟩ := hlv.int HOT.out.ok.k
          obtain ⟨⟨v4, hv4, hlv4⟩, _, _⟩ := hcell 4 (.slice p.A p.n p.c) rfl
          obtain rfl := hlv4.slice
          have HSET := hide fun z => hset _ (like_int64 p.t.kind z)
          simp only [Nat.add_zero] at hv hf
          obtain ⟨⟨pk, pm, pr, pe, pf⟩, pA, pn, pc⟩ := p
          simp only [] at hpn hpm hv hv4
          unfold maxLen at hpm
          clear hcell hset hlv hlv4 hmem hp
          go_wp2
          clear hv hv4 hf bx0 bx1 bx2 bx3 bx4 bx5 bx6
          go_loopw [64] (fun i wr => ∃ k : Nat, i = .int .i64 (k : Int) ∧ k ≤ pn ∧ Hid (Sim lo wc.heap.size W0 wr)) (fun i _ => pn - (intOf i).toNat)
          case atStart => exact ⟨0, rfl, Nat.zero_le _, hide (HSET.out _)⟩
          case round =>
            clear HS HSET
            obtain ⟨k, rfl, hk, HS⟩ := hrel
            obtain ⟨bx0, bx1, bx2, bx3, bx4, bx5, bx6⟩ := HCB.out _ HS.out
            by_cases hltk : k < pn
            · obtain ⟨g2, hA2, _, _⟩ := own_form HCT.out (show 0 < pn by omega)
              simp only [] at hA2
              subst hA2
              have hltk' : (k : Int) < (pn : Int) := by omega
              have hL8 : pf.length = pn := HOT.out.ok.len
              obtain ⟨_, _, hcell⟩ := sim_at (f := c5) c5_len HC.out.types.row HWC.out HS.out HP.out (by decide)
              obtain ⟨⟨v4, hv4, hlv4⟩, _, _⟩ := hcell 4 (.slice (some ⟨g2, 0, none⟩) pn pc) rfl
              obtain rfl := hlv4.slice
              obtain ⟨z, hz⟩ : ∃ z, pf[k]? = some z := ⟨_, List.getElem?_eq_getElem (by omega)⟩
              obtain ⟨_, _, hcell2⟩ := sim_at (f := cInt) cInt_len HCT.out HWC.out HS.out hz (by decide)
              obtain ⟨⟨v, hv, hlv⟩, hf, hset⟩ := hcell2 0 (.int .i64 z) rfl
              obtain ⟨b3, rfl, _⟩ := hlv.int (HOT.out.ok.f z (List.mem_of_getElem? hz))
              have HSET := hide fun y => hset _ (like_int64 z y)
              simp only [Nat.mul_one, Nat.add_zero] at hv hf HSET
              clear hcell hcell2 hset hlv hlv4 hz
              go_wp2
              go_roundw
              case rel => exact ⟨k + 1, by go_num, by omega, hide (HSET.out _)⟩
              case measure => simp [intOf]; omega
            have hkn : pn = k := by omega
            have hge : ¬ (k : Int) < (pn : Int) := by omega
            clear hltk hk hkn
            go_wp2
            go_roundw
            case rel => exact ⟨j + 1, by go_num, by omega, HS⟩
            case measure => simp [intOf]; omega
        have hjn : tn = j := by omega
        have hge : ¬ (j : Int) < (tn : Int) := by omega
        clear hlt hj hjn
        go_wp2
        clear bx0 bx1 bx2 bx3 bx4 bx5 bx6 hge
        generalize wr = wo4 at *
        go_loopw [83] (fun i wr => ∃ j : Nat, i = .int .i64 (j : Int) ∧ j ≤ ln ∧ Hid (Sim lo wc.heap.size W0 wr)) (fun i _ => ln - (intOf i).toNat)
        case atStart => exact ⟨0, rfl, Nat.zero_le _, HS⟩
        case round =>
          clear HS
          obtain ⟨j, rfl, hj, HS⟩ := hrel
          obtain ⟨bx0, bx1, bx2, bx3, bx4, bx5, bx6⟩ := HCB.out _ HS.out
          by_cases hlt : j < ln
          · skip
            obtain ⟨g, hA, _, _⟩ := own_form HC.out.locals (show 0 < ln by omega)
            simp only [] at hA
            subst hA
            have hlt' : (j : Int) < (ln : Int) := by omega
            have hL9 : lL.length = ln := HLL.out
            obtain ⟨p, hp⟩ : ∃ p, lL[j]? = some p := ⟨_, List.getElem?_eq_getElem (by omega)⟩
            have hmem := List.mem_of_getElem? hp
            obtain ⟨_, hgh, hcell⟩ := sim_at (f := cLc) cLc_len HC.out.locals HWC.out HS.out hp (by decide)
            obtain ⟨⟨v, hv, hlv⟩, hf, hset⟩ := hcell 1 (.int .i64 p.ty) rfl
            obtain ⟨b2, rfl, _⟩ := hlv.int (HO.out.locals.all p hmem).1
            have HSET := hide fun z => hset _ (like_int64 p.ty z)
            clear hcell hset hlv hmem hp
            go_wp2
            go_roundw
            case rel => exact ⟨j + 1, by go_num, by omega, hide (HSET.out _)⟩
            case measure => simp [intOf]; omega
          have hjn : ln = j := by omega
          have hge : ¬ (j : Int) < (ln : Int) := by omega
          clear hlt hj hjn
          go_wp2
          clear bx0 bx1 bx2 bx3 bx4 bx5 bx6 hge
          generalize wr = wo5 at *
          go_loopw [99] (fun i wr => ∃ j : Nat, i = .int .i64 (j : Int) ∧ j ≤ bn ∧ Hid (Sim lo wc.heap.size W0 wr)) (fun i _ => bn - (intOf i).toNat)
          case atStart => exact ⟨0, rfl, Nat.zero_le _, HS⟩
          case round =>
            clear HS
            obtain ⟨j, rfl, hj, HS⟩ := hrel
            obtain ⟨bx0, bx1, bx2, bx3, bx4, bx5, bx6⟩ := HCB.out _ HS.out
            by_cases hlt : j < bn
            · skip
              obtain ⟨g, hA, _, _⟩ := own_form HC.out.blocks.row (show 0 < bn by omega)
              simp only [] at hA
              subst hA
              have hlt' : (j : Int) < (bn : Int) := by omega
              have hL9 : bL.length = bn := HBL.out
              obtain ⟨p, hp⟩ : ∃ p, bL[j]? = some p := ⟨_, List.getElem?_eq_getElem (by omega)⟩
              have hmem := List.mem_of_getElem? hp
              obtain ⟨_, hgh, hcell⟩ := sim_at (f := cBk) cBk_len HC.out.blocks.row HWC.out HS.out hp (by decide)
              have HOB := hide (HO.out.blocks.all p hmem)
              have HCK := hide (HC.out.blocks.all p hmem)
              have HP := hide hp
              have hpn := HOB.out.term.targets.nm
              have hpy := HOB.out.stmts.nm
              obtain ⟨⟨v, hv, hlv⟩, hf, hset⟩ := hcell 1 (.int .i64 p.term.kind) rfl
              obtain ⟨b2, rfl, _⟩ := hlv.int HOB.out.term.kind
              obtain ⟨⟨v2, hv2, hlv2⟩, _, _⟩ := hcell 2 (.slice p.term.targets.A p.term.targets.n p.term.targets.c) rfl
              obtain rfl := hlv2.slice
              have HSET := hide fun z => hset _ (like_int64 p.term.kind z)
              obtain ⟨⟨yA, yn, yc, yL⟩, ⟨tk, ⟨uA, un, uc, uL⟩, ⟨zA, zn, zc, zL⟩, ⟨ql, qA, qn, qc, qps⟩, nm2⟩⟩ := p
              simp only [] at hpn hpy hv hv2
              unfold maxLen at hpn hpy
              have HUR := hide (show wc.ownsRow lo 3 1 (.slice uA un uc) un (uL.flatMap cInt) from HCK.out.term.targets)
              have HYR := hide (show wc.ownsRow lo 58 11 (.slice yA yn yc) yn (yL.flatMap cSt) from HCK.out.stmts.row)
              have HUL := hide (show uL.length = un from HOB.out.term.targets.len)
              have HYL := hide (show yL.length = yn from HOB.out.stmts.len)
              have HTI := hide (show ∀ x ∈ uL, IntR x from HOB.out.term.targets.all)
              clear hcell hset hlv hlv2 hmem hp
              go_wp2
              clear hv hv2 hf bx0 bx1 bx2 bx3 bx4 bx5 bx6
              go_loopw [119] (fun i wr => ∃ k : Nat, i = .int .i64 (k : Int) ∧ k ≤ un ∧ Hid (Sim lo wc.heap.size W0 wr)) (fun i _ => un - (intOf i).toNat)
              case atStart => exact ⟨0, rfl, Nat.zero_le _, hide (HSET.out _)⟩
              case round =>
                clear HS HSET
                obtain ⟨k, rfl, hk, HS⟩ := hrel
                obtain ⟨_, _, hcell⟩ := sim_at (f := cBk) cBk_len HC.out.blocks.row HWC.out HS.out HP.out (by decide)
                by_cases hltk : k < un
                · obtain ⟨g2, hA2, _, _⟩ := own_form HUR.out (show 0 < un by omega)
                  subst hA2
                  have hltk' : (k : Int) < (un : Int) := by omega
                  have hL8 : uL.length = un := HUL.out
                  obtain ⟨⟨v4, hv4, hlv4⟩, _, _⟩ := hcell 2 (.slice (some ⟨g2, 0, none⟩) un uc) rfl
                  obtain rfl := hlv4.slice
                  obtain ⟨z, hz⟩ : ∃ z, uL[k]? = some z := ⟨_, List.getElem?_eq_getElem (by omega)⟩
                  obtain ⟨_, _, hcell2⟩ := sim_at (f := cInt) cInt_len HUR.out HWC.out HS.out hz (by decide)
                  obtain ⟨⟨v, hv, hlv⟩, hf, hset⟩ := hcell2 0 (.int .i64 z) rfl
                  obtain ⟨b3, rfl, _⟩ := hlv.int (HTI.out z (List.mem_of_getElem? hz))
                  have HSET := hide fun y => hset _ (like_int64 z y)
                  simp only [Nat.mul_one, Nat.add_zero] at hv hf HSET
                  clear hcell hcell2 hset hlv hlv4 hz
                  go_wp2
                  go_roundw
                  case rel => exact ⟨k + 1, by go_num, by omega, hide (HSET.out _)⟩
                  case measure => simp [intOf]; omega
                have hkn : un = k := by omega
                have hge : ¬ (k : Int) < (un : Int) := by omega
                obtain ⟨⟨v3, hv3, hlv3⟩, _, _⟩ := hcell 3 (.slice zA zn zc) rfl
                obtain rfl := hlv3.slice
                clear hltk hk hkn hcell hlv3
                go_wp2_with fail
                refine (OpsChg_any ⟨zA, zn, zc, zL⟩ wc W0 _ lo HCK.out.term.args HOB.out.term.args HWC.out HS.out).mono ?_
                rintro e6 w6 ⟨rfl, hs6⟩
                have HS6 := hide hs6
                obtain ⟨_, _, hcell⟩ := sim_at (f := cBk) cBk_len HC.out.blocks.row HWC.out HS6.out HP.out (by decide)
                obtain ⟨⟨v4, hv4, hlv4⟩, _, _⟩ := hcell 4 (.int .i64 ql) rfl
                obtain ⟨b4, rfl, _⟩ := hlv4.int HOB.out.term.pl.l
                obtain ⟨⟨v5, hv5, hlv5⟩, _, _⟩ := hcell 5 (.slice qA qn qc) rfl
                obtain rfl := hlv5.slice
                clear hv3 hcell hlv4 hlv5 hs6 hge
                go_wp2_with fail
                refine (PlChg_any b4 ⟨ql, qA, qn, qc, qps⟩ wc W0 _ lo HCK.out.term.pl HOB.out.term.pl.prs.int (Nat.le_trans HOB.out.term.pl.nc HOB.out.term.pl.cm) HWC.out HS6.out).mono ?_
                rintro e7 w7 ⟨rfl, hs7⟩
                have HS7 := hide hs7
                obtain ⟨_, _, hcell⟩ := sim_at (f := cBk) cBk_len HC.out.blocks.row HWC.out HS7.out HP.out (by decide)
                obtain ⟨⟨v8, hv8, hlv8⟩, _, _⟩ := hcell 0 (.slice yA yn yc) rfl
                obtain rfl := hlv8.slice
                simp only [Nat.add_zero] at hv8
                obtain ⟨bx0, bx1, bx2, bx3, bx4, bx5, bx6⟩ := HCB.out _ HS7.out
                clear hv4 hv5 hcell hlv8 hs7
                go_wp2
                clear hv8 bx0 bx1 bx2 bx3 bx4 bx5 bx6
                generalize wr = o6 at *
                go_loopw [149] (fun i wr => ∃ k : Nat, i = .int .i64 (k : Int) ∧ k ≤ yn ∧ Hid (Sim lo wc.heap.size W0 wr)) (fun i _ => yn - (intOf i).toNat)
                case atStart => exact ⟨0, rfl, Nat.zero_le _, HS7⟩
                case round =>
                  clear HS HS6 HS7
                  obtain ⟨m, rfl, hm, HS⟩ := hrel
                  obtain ⟨bx0, bx1, bx2, bx3, bx4, bx5, bx6⟩ := HCB.out _ HS.out
                  by_cases hltm : m < yn
                  · obtain ⟨g3, hA3, _, _⟩ := own_form HYR.out (show 0 < yn by omega)
                    subst hA3
                    have hltm' : (m : Int) < (yn : Int) := by omega
                    have hL7 : yL.length = yn := HYL.out
                    obtain ⟨_, _, hcell⟩ := sim_at (f := cBk) cBk_len HC.out.blocks.row HWC.out HS.out HP.out (by decide)
                    obtain ⟨⟨v8, hv8, hlv8⟩, _, _⟩ := hcell 0 (.slice (some ⟨g3, 0, none⟩) yn yc) rfl
                    obtain rfl := hlv8.slice
                    simp only [Nat.add_zero] at hv8
                    obtain ⟨s, hs⟩ : ∃ s, yL[m]? = some s := ⟨_, List.getElem?_eq_getElem (by omega)⟩
                    have hmem := List.mem_of_getElem? hs
                    have HOS := hide (HOB.out.stmts.all s hmem)
                    have HCS := hide (HCK.out.stmts.all s hmem)
                    have HSS := hide hs
                    obtain ⟨_, _, hcell2⟩ := sim_at (f := cSt) cSt_len HYR.out HWC.out HS.out hs (by decide)
                    obtain ⟨⟨v, hv, hlv⟩, hf, hset⟩ := hcell2 0 (.int .i64 s.kind) rfl
                    obtain ⟨b3, rfl, _⟩ := hlv.int HOS.out.kind
                    obtain ⟨⟨v1, hv1, hlv1⟩, _, _⟩ := hcell2 1 (.int .i64 s.pl.l) rfl
                    obtain ⟨b5, rfl, _⟩ := hlv1.int HOS.out.pl.l
                    obtain ⟨⟨v2, hv2, hlv2⟩, _, _⟩ := hcell2 2 (.slice s.pl.A s.pl.n s.pl.c) rfl
                    obtain rfl := hlv2.slice
                    have HSET := hide fun y => hset _ (like_int64 s.kind y)
                    simp only [Nat.add_zero] at hv hf HSET
                    clear hcell hcell2 hset hlv hlv1 hlv2 hlv8 hs hmem
                    go_wp2_with fail
                    refine (PlChg_any b5 s.pl wc W0 _ lo HCS.out.pl HOS.out.pl.prs.int (Nat.le_trans HOS.out.pl.nc HOS.out.pl.cm) HWC.out (HSET.out _)).mono ?_
                    rintro e8 w8 ⟨rfl, hs8⟩
                    have HS8 := hide hs8
                    obtain ⟨_, _, hcell2⟩ := sim_at (f := cSt) cSt_len HYR.out HWC.out HS8.out HSS.out (by decide)
                    obtain ⟨⟨v7, hv7, hlv7⟩, _, _⟩ := hcell2 7 (.int .i64 s.rv.pl.l) rfl
                    obtain ⟨b7, rfl, _⟩ := hlv7.int HOS.out.rv.pl.l
                    obtain ⟨⟨v9, hv9, hlv9⟩, _, _⟩ := hcell2 8 (.slice s.rv.pl.A s.rv.pl.n s.rv.pl.c) rfl
                    obtain rfl := hlv9.slice
                    clear hcell2 hlv7 hlv9 hs8 hv hv1 hv2 hf hv8 bx0 bx1 bx2 bx3 bx4 bx5 bx6
                    go_wp2_with fail
                    refine (PlChg_any b7 s.rv.pl wc W0 _ lo HCS.out.rv.pl HOS.out.rv.pl.prs.int (Nat.le_trans HOS.out.rv.pl.nc HOS.out.rv.pl.cm) HWC.out HS8.out).mono ?_
                    rintro e9 w9 ⟨rfl, hs9⟩
                    have HS9 := hide hs9
                    obtain ⟨_, _, hcell2⟩ := sim_at (f := cSt) cSt_len HYR.out HWC.out HS9.out HSS.out (by decide)
                    obtain ⟨⟨v6, hv6, hlv6⟩, _, _⟩ := hcell2 9 (.slice s.rv.args.A s.rv.args.n s.rv.args.c) rfl
                    obtain rfl := hlv6.slice
                    clear hcell2 hlv6 hs9 hv7 hv9
                    go_wp2_with fail
                    refine (OpsChg_any s.rv.args wc W0 _ lo HCS.out.rv.args HOS.out.rv.args HWC.out HS9.out).mono ?_
                    rintro e5 w5 ⟨rfl, hs5⟩
                    have HS5 := hide hs5
                    clear hs5 hv6
                    go_wp2
                    go_roundw
                    case rel => exact ⟨m + 1, by go_num, by omega, HS5⟩
                    case measure => simp [intOf]; omega
                  have hmn : yn = m := by omega
                  have hge : ¬ (m : Int) < (yn : Int) := by omega
                  clear hltm hm hmn
                  go_wp2
                  go_roundw
                  case rel => exact ⟨j + 1, by go_num, by omega, HS⟩
                  case measure => simp [intOf]; omega
            have hjn : bn = j := by omega
            have hge : ¬ (j : Int) < (bn : Int) := by omega
            clear hlt hj hjn
            go_wp2
            go_end0
            exact ⟨rfl, HFIN.out _ HS.out⟩
end Go.Proofs.YtbdimnncobpfdaaGreat
