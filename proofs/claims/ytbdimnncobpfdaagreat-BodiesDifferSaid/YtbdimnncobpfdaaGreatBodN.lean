/- The reference's counts of nodes: of a place, of operands. -/
import Derived.Test.YtbdimnncobpfdaaGreatBodE
import Derived.Test.YtbdimnncobpfdaaGreatAppend
set_option linter.unusedVariables false
namespace Go.Proofs.YtbdimnncobpfdaaGreat
open Go.RowKit

/-! ### sums -/
section
variable {α : Type}
def sumN (f : α → Nat) (l : List α) : Nat := (l.map f).sum
theorem sumN_nil (f : α → Nat) : sumN f [] = 0 := rfl
theorem sumN_cons (f : α → Nat) (x : α) (l : List α) : sumN f (x :: l) = f x + sumN f l := by simp [sumN]
theorem sumN_append (f : α → Nat) (l m : List α) : sumN f (l ++ m) = sumN f l + sumN f m := by simp [sumN]
theorem sumN_up {f : α → Nat} {l : List α} {j : Nat} {p : α} (h : l[j]? = some p) : sumN f (l.take (j + 1)) = sumN f (l.take j) + f p := by
  rw [List.take_add_one, h, sumN_append]
  simp [sumN]
theorem sumN_le (f : α → Nat) (l : List α) (j : Nat) : sumN f (l.take j) ≤ sumN f l := by
  have := sumN_append f (l.take j) (l.drop j)
  rw [List.take_append_drop] at this
  omega
theorem sumN_all (f : α → Nat) {l : List α} {n : Nat} (h : l.length = n) : sumN f (l.take n) = sumN f l := by rw [List.take_of_length_le (by omega)]
theorem sumN_map {β : Type} (g : β → α) (f : α → Nat) (l : List β) : sumN f (l.map g) = sumN (fun x => f (g x)) l := by simp [sumN, Function.comp_def]
theorem sumN_one {f : α → Nat} {l : List α} {p : α} (h : p ∈ l) : f p ≤ sumN f l := by
  induction l with
  | nil => cases h
  | cons x l ih =>
    rw [sumN_cons]
    rcases List.mem_cons.1 h with rfl | h
    · omega
    · have := ih h
      omega
theorem sumN_len {f : α → Nat} {l : List α} (h : ∀ x, 1 ≤ f x) : l.length ≤ sumN f l := by
  induction l with
  | nil => exact Nat.le_refl _
  | cons x l ih =>
    rw [sumN_cons, List.length_cons]
    have := h x
    omega
end

theorem wrapI9 (n : Int) (h0 : -9223372036854775808 ≤ n) (h1 : n ≤ 9223372036854775807) : IntKind.i64.wrap n = n := by
  simp [IntKind.wrap, IntKind.bits, IntKind.signed]
  omega

/-! ### nodes -/
def plN (x : PlV) : Nat := 1 + x.ps.length
def opN (x : OpV) : Nat := 1 + plN x.pl
def opsN (l : List OpV) : Nat := sumN opN l
theorem plN_w {w : World} {B : Nat} {x : PlW} (h : OnePl w B x) : plN x.v = 1 + x.n := by
  have := h.prs.len
  unfold plN PlW.v
  simp only [] at this ⊢
  omega

set_option maxHeartbeats 1000000 in
theorem RPlace_any (x : PlW) (w : World) (k : Nat) (hx : OnePl w k x) (h : plN x.v ≤ 2 ^ 62) :
    Calls Tryz.prog 51 #[aggPl x] w fun e w' => e = .returned (.int .i64 (plN x.v : Int)) ∧ Below w.heap.size w w' := by
  have HF := hide (plN_w hx)
  rw [plN_w hx] at h
  have HB := hide ((Below.refl w.heap.size w).alloc (Nat.le_refl _) (.cells #[.int .i64 x.l, .slice x.A x.n x.c] 40))
  clear hx
  obtain ⟨l, A, n, c, ps⟩ := x
  simp only [] at h
  have t1 : IntKind.i64.wrap (1 + (n : Int)) = 1 + (n : Int) := wrapI9 _ (by omega) (by omega)
  go_enter Tryz.func51, Tryz.ntmps51
  go_wp2
  go_ret
  refine ⟨?_, HB.out⟩
  rw [HF.out]
  exact congrArg (fun z : Int => Ending.returned (.int .i64 z)) (by omega)

set_option maxHeartbeats 2000000 in
set_option maxRecDepth 100000 in
theorem ROperands_any (s : SlW OpW) (w : World) (k : Nat) (hs : Ops w k s) (hk : k ≤ w.heap.size) (h : opsN (s.L.map OpW.v) ≤ 2 ^ 62) :
    Calls Tryz.prog 52 #[s.val] w fun e w' => e = .returned (.int .i64 (opsN (s.L.map OpW.v) : Int)) ∧ Below w.heap.size w w' := by
  have HX := hide (SlH.more hs hk (fun _ h => h.more hk) : Ops w w.heap.size s)
  have HL := hide hs.len
  have hn := hs.nm
  have HN := hide h
  clear hs h hk
  obtain ⟨A, n, c, xs⟩ := s
  simp only [] at hn
  unfold maxLen at hn
  show Calls Tryz.prog 52 #[.slice A n c] w _
  go_enter Tryz.func52, Tryz.ntmps52
  go_wp2
  go_loopw [3, 4] (fun v i wr => ∃ j : Nat, i = .int .i64 (j : Int) ∧ v = .int .i64 (sumN (fun x => opN x.v) (xs.take j) : Nat) ∧ j ≤ n ∧ Below w.heap.size w wr) (fun _ i _ => n - (intOf i).toNat)
  case atStart => exact ⟨0, rfl, rfl, Nat.zero_le _, Below.refl _ _⟩
  case round =>
    obtain ⟨j, rfl, rfl, hj, hb⟩ := hrel
    have HB := hide hb
    clear hb
    by_cases hlt : j < n
    · obtain ⟨p, hp⟩ := HX.out.get hlt
      obtain ⟨g, o, hA, hg, h1, c0⟩ := HX.out.at_ hp
      simp only [] at hA
      subst hA
      have hlt' : (j : Int) < (n : Int) := by omega
      have hpp := hide h1.pl
      have c1 := (HB.out.cell hg).trans (c0 1 _ rfl)
      have c2 := (HB.out.cell hg).trans (c0 2 _ rfl)
      clear c0 h1
      have hb1 : sumN (fun x => opN x.v) (xs.take (j + 1)) ≤ 2 ^ 62 := Nat.le_trans (sumN_le _ _ _) (by have := HN.out; unfold opsN at this; rwa [sumN_map] at this)
      have hb2 := sumN_up (f := fun x => opN x.v) hp
      have hb3 : opN p.v = 1 + plN p.pl.v := rfl
      have HS := hide hb2
      have HP := hide hp
      clear hp
      obtain ⟨m, hm⟩ : ∃ m, sumN (fun x => opN x.v) (xs.take j) = m := ⟨_, rfl⟩
      obtain ⟨q, hq⟩ : ∃ q, plN p.pl.v = q := ⟨_, rfl⟩
      have HQ := hide hq
      have hS : sumN (fun x => opN x.v) (xs.take (j + 1)) = m + (1 + q) := by rw [hb2, hb3, hm, hq]
      have HS2 := hide hS
      have hq2 : m + (1 + q) ≤ 2 ^ 62 := hS ▸ hb1
      rw [hm]
      clear hb1 hb2 hb3 hm hq hS
      have t1 : IntKind.i64.wrap (1 + (q : Int)) = 1 + (q : Int) := wrapI9 _ (by omega) (by omega)
      have t2 : IntKind.i64.wrap ((m : Int) + (1 + (q : Int))) = (m : Int) + (1 + (q : Int)) := wrapI9 _ (by omega) (by omega)
      have HC := hide (show ∀ w', Below w.heap.size w w' → Calls Tryz.prog 51 #[aggPl p.pl] w' fun e w2 => e = .returned (.int .i64 (q : Int)) ∧ Below w'.heap.size w' w2 from fun w' hb' => HQ.out ▸ RPlace_any p.pl w' _ (hpp.out.below hb') (by rw [HQ.out]; omega))
      go_wp2_with fail
      refine (HC.out _ HB.out).mono ?_
      rintro e w1 ⟨rfl, hb⟩
      have HB2 := hide (HB.out.trans (hb.mono HB.out.size))
      clear hb
      go_wp2
      go_roundw
      case rel => exact ⟨j + 1, by go_num, by rw [HS2.out]; exact congrArg (fun z : Int => Value.int .i64 z) (by omega), by omega, HB2.out⟩
      case measure => simp [intOf]; omega
    · obtain rfl : j = n := by omega
      have HF := hide (show sumN (fun x => opN x.v) (xs.take j) = opsN (xs.map OpW.v) by rw [sumN_all _ HL.out, opsN, sumN_map])
      go_wp2
      go_ret
      exact ⟨congrArg (fun z : Nat => Ending.returned (.int .i64 (z : Int))) HF.out, HB.out⟩
end Go.Proofs.YtbdimnncobpfdaaGreat

/- The reference's count of a body's nodes. -/
set_option linter.unusedVariables false
namespace Go.Proofs.YtbdimnncobpfdaaGreat
open Go.RowKit

def stN (x : StV) : Nat := 1 + plN x.pl + 1 + plN x.rv.pl + opsN x.rv.args
def tmN (x : TmV) : Nat := 1 + x.targets.length + opsN x.args + plN x.pl
def bkN (x : BkV) : Nat := sumN stN x.stmts + tmN x.term
def bdN0 (x : BdV) : Nat := 1 + x.regions.length + x.outl.length + x.locals.length + x.blocks.length + x.types.length
def bdN (x : BdV) : Nat := bdN0 x + sumN (fun t => t.fields.length) x.types + sumN bkN x.blocks

def bd1 (w : World) (x : BdW) : World := w.alloc (.cells #[.string x.name, .slice x.regions.A x.regions.n x.regions.c, .slice x.outl.A x.outl.n x.outl.c, .slice x.types.A x.types.n x.types.c, .slice x.locals.A x.locals.n x.locals.c, .int .i64 x.args, .slice x.blocks.A x.blocks.n x.blocks.c] 28)
theorem bd1_size (w : World) (x : BdW) : (bd1 w x).heap.size = w.heap.size + 1 := by simp [bd1]
theorem bd1_below (w : World) (x : BdW) : Below w.heap.size w (bd1 w x) := (Below.refl _ w).alloc (Nat.le_refl _) _
theorem bd1_cells {w w' : World} {x : BdW} (h : Below (bd1 w x).heap.size (bd1 w x) w') : ∀ j u, (cBd x)[j]? = some u → w'.cell? ⟨w.heap.size, j, none⟩ = some u := by
  have hs := bd1_size w x
  intro j u hu
  refine (h.cell (show w.heap.size < (bd1 w x).heap.size by omega)).trans ?_
  unfold bd1
  simp only [cBd] at hu
  rw [← hu]
  rcases j with _ | _ | _ | _ | _ | _ | _ | j <;> simp [go_sem]
def tm1 (w : World) (x : TmW) : World := w.alloc (.cells #[.int .i64 x.kind, .slice x.targets.A x.targets.n x.targets.c, .slice x.args.A x.args.n x.args.c, .int .i64 x.pl.l, .slice x.pl.A x.pl.n x.pl.c, .string x.name] 42)
theorem tm1_size (w : World) (x : TmW) : (tm1 w x).heap.size = w.heap.size + 1 := by simp [tm1]
theorem tm1_below (w : World) (x : TmW) : Below w.heap.size w (tm1 w x) := (Below.refl _ w).alloc (Nat.le_refl _) _
theorem tm1_cells {w w' : World} {x : TmW} (h : Below (tm1 w x).heap.size (tm1 w x) w') : ∀ j u, (cTm x)[j]? = some u → w'.cell? ⟨w.heap.size, j, none⟩ = some u := by
  have hs := tm1_size w x
  intro j u hu
  refine (h.cell (show w.heap.size < (tm1 w x).heap.size by omega)).trans ?_
  unfold tm1
  simp only [cTm] at hu
  rw [← hu]
  rcases j with _ | _ | _ | _ | _ | _ | j <;> simp [go_sem]
theorem RPlace_is {x : PlW} {q : Nat} (hq : plN x.v = q) (w : World) {k : Nat} (hx : OnePl w k x) (h : q ≤ 2 ^ 62) :
    Calls Tryz.prog 51 #[aggPl x] w fun e w' => e = .returned (.int .i64 (q : Int)) ∧ Below w.heap.size w w' := by subst hq; exact RPlace_any x w k hx h
theorem ROperands_is {s : SlW OpW} {q : Nat} (hq : opsN (s.L.map OpW.v) = q) (w : World) (hs : Ops w w.heap.size s) (h : q ≤ 2 ^ 62) :
    Calls Tryz.prog 52 #[s.val] w fun e w' => e = .returned (.int .i64 (q : Int)) ∧ Below w.heap.size w w' := by subst hq; exact ROperands_any s w _ hs (Nat.le_refl _) h

set_option maxHeartbeats 8000000 in
set_option maxRecDepth 100000 in
theorem RNodes_any (x : BdW) (w : World) (hx : OneBd w w.heap.size x) (hN : bdN x.v ≤ 2 ^ 62) :
    Calls Tryz.prog 19 #[aggBd x] w fun e w' => e = .returned (.int .i64 (bdN x.v : Int)) ∧ Below w.heap.size w w' := by
  have HB := hide (bd1_below w x)
  have HX := hide (hx.up HB.out)
  have HTL := hide hx.types.len
  have HBL := hide hx.blocks.len
  have htn := hx.types.nm
  have hbn := hx.blocks.nm
  have hs := hide fun (w' : World) (h : Below (bd1 w x).heap.size (bd1 w x) w') => bd1_cells h
  have HN := hide (show bdN x.v = 1 + x.regions.n + x.outl.n + x.locals.n + x.blocks.n + x.types.n + sumN (fun t : TyW => t.t.fields.length) x.types.L + sumN (fun b => bkN b.v) x.blocks.L by
    have h1 := hx.regions.len
    have h2 := hx.outl.len
    have h3 := hx.locals.len
    have h4 := hx.blocks.len
    have h5 := hx.types.len
    unfold bdN bdN0 BdW.v tys
    simp only [sumN_map, List.length_map, h1, h2, h3, h4, h5])
  clear hx
  obtain ⟨N, hNN⟩ : ∃ N, bdN x.v = N := ⟨_, rfl⟩
  rw [hNN] at hN HN ⊢
  clear hNN
  obtain ⟨nm, ⟨rA, rn, rc, rL⟩, ⟨oA, on, oc, oL⟩, ⟨tA, tn, tc, tL⟩, ⟨lA, ln, lc, lL⟩, ar, ⟨bA, bn, bc, bL⟩⟩ := x
  simp only [] at htn hbn HN
  unfold maxLen at htn hbn
  obtain ⟨n0, hn0⟩ : ∃ n0, 1 + rn + on + ln + bn + tn = n0 := ⟨_, rfl⟩
  obtain ⟨S1, hS1⟩ : ∃ S, sumN (fun t : TyW => t.t.fields.length) tL = S := ⟨_, rfl⟩
  obtain ⟨S2, hS2⟩ : ∃ S, sumN (fun b => bkN b.v) bL = S := ⟨_, rfl⟩
  have HN2 := hide (show N = n0 + S1 + S2 by rw [HN.out, hn0, hS1, hS2])
  have hN3 : n0 + S1 + S2 ≤ 2 ^ 62 := HN2.out ▸ hN
  have HS1 := hide hS1
  have HS2 := hide hS2
  clear HN hS1 hS2 hN
  have w1 : IntKind.i64.wrap (1 + (rn : Int)) = 1 + (rn : Int) := wrapI9 _ (by omega) (by omega)
  have w2 : IntKind.i64.wrap (1 + (rn : Int) + (on : Int)) = 1 + (rn : Int) + (on : Int) := wrapI9 _ (by omega) (by omega)
  have w3 : IntKind.i64.wrap (1 + (rn : Int) + (on : Int) + (ln : Int)) = 1 + (rn : Int) + (on : Int) + (ln : Int) := wrapI9 _ (by omega) (by omega)
  have w4 : IntKind.i64.wrap (1 + (rn : Int) + (on : Int) + (ln : Int) + (bn : Int)) = 1 + (rn : Int) + (on : Int) + (ln : Int) + (bn : Int) := wrapI9 _ (by omega) (by omega)
  have w5 : IntKind.i64.wrap (1 + (rn : Int) + (on : Int) + (ln : Int) + (bn : Int) + (tn : Int)) = (n0 : Int) := by rw [wrapI9 _ (by omega) (by omega)]; omega
  have Hn0 := hide hn0
  clear hn0
  go_enter Tryz.func19, Tryz.ntmps19
  go_wp2
  clear w1 w2 w3 w4 w5
  go_loopw [3, 4] (fun v i wr => ∃ j m : Nat, i = .int .i64 (j : Int) ∧ v = .int .i64 (m : Int) ∧ j ≤ tn ∧ Hid (m = n0 + sumN (fun t : TyW => t.t.fields.length) (tL.take j)) ∧ (Below (bd1 w ⟨nm, ⟨rA, rn, rc, rL⟩, ⟨oA, on, oc, oL⟩, ⟨tA, tn, tc, tL⟩, ⟨lA, ln, lc, lL⟩, ar, ⟨bA, bn, bc, bL⟩⟩).heap.size (bd1 w ⟨nm, ⟨rA, rn, rc, rL⟩, ⟨oA, on, oc, oL⟩, ⟨tA, tn, tc, tL⟩, ⟨lA, ln, lc, lL⟩, ar, ⟨bA, bn, bc, bL⟩⟩) wr)) (fun _ i _ => tn - (intOf i).toNat)
  case atStart => exact ⟨0, n0, rfl, rfl, Nat.zero_le _, hide (by simp [sumN]), Below.refl _ _⟩
  case round =>
    obtain ⟨j, m, rfl, rfl, hj, HM, hb⟩ := hrel
    have HR := hide hb
    clear hb
    have v3 := hs.out _ HR.out 3 _ rfl
    have v6 := hs.out _ HR.out 6 _ rfl
    simp only [] at v3 v6
    by_cases hlt : j < tn
    · obtain ⟨p, hp⟩ := HX.out.types.get hlt
      obtain ⟨g, o, hA, hg, h1, c0⟩ := HX.out.types.at_ hp
      simp only [] at hA
      subst hA
      have hlt' : (j : Int) < (tn : Int) := by omega
      have c4 := (HR.out.cell hg).trans (c0 4 _ rfl)
      have hu := sumN_up (f := fun t : TyW => t.t.fields.length) hp
      have hle := sumN_le (fun t : TyW => t.t.fields.length) tL (j + 1)
      have hl : p.t.fields.length = p.n := h1.ok.len
      have HM2 := hide (show m + p.n = n0 + sumN (fun t : TyW => t.t.fields.length) (tL.take (j + 1)) by rw [hu, HM.out, hl, Nat.add_assoc])
      have hbd : m + p.n ≤ 2 ^ 62 := by rw [HM2.out]; rw [HS1.out] at hle; omega
      have t1 : IntKind.i64.wrap ((m : Int) + (p.n : Int)) = (m : Int) + (p.n : Int) := wrapI9 _ (by omega) (by omega)
      clear c0 h1 hu hle hl hp
      go_wp2
      go_roundw
      case rel => exact ⟨j + 1, m + p.n, by go_num, congrArg (fun z : Int => Value.int .i64 z) (by omega), by omega, HM2, HR.out⟩
      case measure => simp [intOf]; omega
    · have hjn : tn = j := by omega
      have hge : ¬ (j : Int) < (tn : Int) := by omega
      have HM1 := hide (show m = n0 + S1 by rw [HM.out, ← hjn, sumN_all _ HTL.out, HS1.out])
      clear HM hjn
      go_wp2
      clear v3 v6 hge
      go_loopw [3, 5] (fun v i wr => ∃ j m : Nat, i = .int .i64 (j : Int) ∧ v = .int .i64 (m : Int) ∧ j ≤ bn ∧ Hid (m = n0 + S1 + sumN (fun b => bkN b.v) (bL.take j)) ∧ (Below (bd1 w ⟨nm, ⟨rA, rn, rc, rL⟩, ⟨oA, on, oc, oL⟩, ⟨tA, tn, tc, tL⟩, ⟨lA, ln, lc, lL⟩, ar, ⟨bA, bn, bc, bL⟩⟩).heap.size (bd1 w ⟨nm, ⟨rA, rn, rc, rL⟩, ⟨oA, on, oc, oL⟩, ⟨tA, tn, tc, tL⟩, ⟨lA, ln, lc, lL⟩, ar, ⟨bA, bn, bc, bL⟩⟩) wr)) (fun _ i _ => bn - (intOf i).toNat)
      case atStart => exact ⟨0, m, rfl, rfl, Nat.zero_le _, hide (by rw [HM1.out]; simp [sumN]), HR.out⟩
      case round =>
        clear HM1 HR hj hlt
        obtain ⟨j2, m2, rfl, rfl, hj2, HM2, hb⟩ := hrel
        have HR2 := hide hb
        clear hb
        have v6 := hs.out _ HR2.out 6 _ rfl
        simp only [] at v6
        by_cases hlt : j2 < bn
        · obtain ⟨p, hp⟩ := HX.out.blocks.get hlt
          obtain ⟨g, o, hA, hg, h1, c0⟩ := HX.out.blocks.at_ hp
          obtain ⟨⟨sA, sn, sc, sL⟩, tt⟩ := p
          simp only [] at hA
          subst hA
          have hlt' : (j2 : Int) < (bn : Int) := by omega
          have HP := hide h1
          have hu := sumN_up (f := fun b : BkW => bkN b.v) hp
          have hle := sumN_le (fun b : BkW => bkN b.v) bL (j2 + 1)
          obtain ⟨ts, hts⟩ : ∃ ts, sumN (fun s : StW => stN s.v) sL = ts := ⟨_, rfl⟩
          obtain ⟨q1, hq1⟩ : ∃ q, opsN (tt.args.L.map OpW.v) = q := ⟨_, rfl⟩
          obtain ⟨q2, hq2⟩ : ∃ q, plN tt.pl.v = q := ⟨_, rfl⟩
          have hbk : bkN (BkW.v ⟨⟨sA, sn, sc, sL⟩, tt⟩) = ts + (1 + tt.targets.n + q1 + q2) := by
            have := h1.term.targets.len
            unfold bkN tmN BkW.v TmW.v
            simp only [sumN_map, this, hts, hq1, hq2]
          have HM3 := hide (show m2 + (ts + (1 + tt.targets.n + q1 + q2)) = n0 + S1 + sumN (fun b => bkN b.v) (bL.take (j2 + 1)) by rw [hu, HM2.out]; simp only [hbk]; omega)
          have hbd : m2 + (ts + (1 + tt.targets.n + q1 + q2)) ≤ 2 ^ 62 := by rw [HM3.out]; rw [HS2.out] at hle; omega
          have hcs := hide fun (w' : World) (h : (Below (bd1 w ⟨nm, ⟨rA, rn, rc, rL⟩, ⟨oA, on, oc, oL⟩, ⟨tA, tn, tc, tL⟩, ⟨lA, ln, lc, lL⟩, ar, ⟨some ⟨g, o, none⟩, bn, bc, bL⟩⟩).heap.size (bd1 w ⟨nm, ⟨rA, rn, rc, rL⟩, ⟨oA, on, oc, oL⟩, ⟨tA, tn, tc, tL⟩, ⟨lA, ln, lc, lL⟩, ar, ⟨some ⟨g, o, none⟩, bn, bc, bL⟩⟩) w')) => (show w'.cell? ⟨g, o + j2 * 7, none⟩ = some (.slice sA sn sc) ∧ w'.cell? ⟨g, o + j2 * 7 + 1, none⟩ = some (.int .i64 tt.kind) ∧ w'.cell? ⟨g, o + j2 * 7 + 2, none⟩ = some (.slice tt.targets.A tt.targets.n tt.targets.c) ∧ w'.cell? ⟨g, o + j2 * 7 + 3, none⟩ = some (.slice tt.args.A tt.args.n tt.args.c) ∧ w'.cell? ⟨g, o + j2 * 7 + 4, none⟩ = some (.int .i64 tt.pl.l) ∧ w'.cell? ⟨g, o + j2 * 7 + 5, none⟩ = some (.slice tt.pl.A tt.pl.n tt.pl.c) ∧ w'.cell? ⟨g, o + j2 * 7 + 6, none⟩ = some (.string tt.name) from ⟨(h.cell hg).trans (c0 0 _ rfl), (h.cell hg).trans (c0 1 _ rfl), (h.cell hg).trans (c0 2 _ rfl), (h.cell hg).trans (c0 3 _ rfl), (h.cell hg).trans (c0 4 _ rfl), (h.cell hg).trans (c0 5 _ rfl), (h.cell hg).trans (c0 6 _ rfl)⟩)
          have Hts := hide hts
          have Hq1 := hide hq1
          have Hq2 := hide hq2
          have hsn := h1.stmts.nm
          unfold maxLen at hsn
          simp only [] at hsn
          have HSL := hide h1.stmts.len
          clear c0 h1 hu hle hbk hts hq1 hq2 hp
          obtain ⟨d0, d1, d2, d3, d4, d5, d6⟩ := (hcs.out _ HR2.out)
          go_wp2
          clear v6 d0 d1 d2 d3 d4 d5 d6
          go_loopw [3, 7] (fun v i wr => ∃ j m : Nat, i = .int .i64 (j : Int) ∧ v = .int .i64 (m : Int) ∧ j ≤ sn ∧ Hid (m = m2 + sumN (fun s => stN s.v) (sL.take j)) ∧ (Below (bd1 w ⟨nm, ⟨rA, rn, rc, rL⟩, ⟨oA, on, oc, oL⟩, ⟨tA, tn, tc, tL⟩, ⟨lA, ln, lc, lL⟩, ar, ⟨some ⟨g, o, none⟩, bn, bc, bL⟩⟩).heap.size (bd1 w ⟨nm, ⟨rA, rn, rc, rL⟩, ⟨oA, on, oc, oL⟩, ⟨tA, tn, tc, tL⟩, ⟨lA, ln, lc, lL⟩, ar, ⟨some ⟨g, o, none⟩, bn, bc, bL⟩⟩) wr)) (fun _ i _ => sn - (intOf i).toNat)
          case atStart => exact ⟨0, m2, rfl, rfl, Nat.zero_le _, hide (by simp [sumN]), HR2.out⟩
          case round =>
            obtain ⟨j3, m3, rfl, rfl, hj3, HM4, hb⟩ := hrel
            have HR3 := hide hb
            clear hb HR2
            by_cases hlt3 : j3 < sn
            · obtain ⟨s, hs3⟩ := HP.out.stmts.get hlt3
              obtain ⟨g3, o3, hA, hg3, h1, c0⟩ := HP.out.stmts.at_ hs3
              simp only [] at hA
              subst hA
              have hlt3' : (j3 : Int) < (sn : Int) := by omega
              have HSt := hide h1
              have hu := sumN_up (f := fun s : StW => stN s.v) hs3
              have hle := sumN_le (fun s : StW => stN s.v) sL (j3 + 1)
              obtain ⟨a1, ha1⟩ : ∃ q, plN s.pl.v = q := ⟨_, rfl⟩
              obtain ⟨a2, ha2⟩ : ∃ q, plN s.rv.pl.v = q := ⟨_, rfl⟩
              obtain ⟨a3, ha3⟩ : ∃ q, opsN (s.rv.args.L.map OpW.v) = q := ⟨_, rfl⟩
              have hst : stN s.v = 1 + a1 + 1 + a2 + a3 := by
                unfold stN StW.v RvW.v
                simp only [ha1, ha2, ha3]
              have HM5 := hide (show m3 + (1 + a1 + 1 + a2 + a3) = m2 + sumN (fun s => stN s.v) (sL.take (j3 + 1)) by rw [hu, HM4.out]; simp only [hst]; omega)
              have hbd3 : m3 + (1 + a1 + 1 + a2 + a3) ≤ 2 ^ 62 := by rw [HM5.out]; rw [Hts.out] at hle; omega
              have hcs3 := hide fun (w' : World) (h : (Below (bd1 w ⟨nm, ⟨rA, rn, rc, rL⟩, ⟨oA, on, oc, oL⟩, ⟨tA, tn, tc, tL⟩, ⟨lA, ln, lc, lL⟩, ar, ⟨some ⟨g, o, none⟩, bn, bc, bL⟩⟩).heap.size (bd1 w ⟨nm, ⟨rA, rn, rc, rL⟩, ⟨oA, on, oc, oL⟩, ⟨tA, tn, tc, tL⟩, ⟨lA, ln, lc, lL⟩, ar, ⟨some ⟨g, o, none⟩, bn, bc, bL⟩⟩) w')) => (show w'.cell? ⟨g3, o3 + j3 * 11 + 1, none⟩ = some (.int .i64 s.pl.l) ∧ w'.cell? ⟨g3, o3 + j3 * 11 + 2, none⟩ = some (.slice s.pl.A s.pl.n s.pl.c) ∧ w'.cell? ⟨g3, o3 + j3 * 11 + 7, none⟩ = some (.int .i64 s.rv.pl.l) ∧ w'.cell? ⟨g3, o3 + j3 * 11 + 8, none⟩ = some (.slice s.rv.pl.A s.rv.pl.n s.rv.pl.c) ∧ w'.cell? ⟨g3, o3 + j3 * 11 + 9, none⟩ = some (.slice s.rv.args.A s.rv.args.n s.rv.args.c) from ⟨(h.cell hg3).trans (c0 1 _ rfl), (h.cell hg3).trans (c0 2 _ rfl), (h.cell hg3).trans (c0 7 _ rfl), (h.cell hg3).trans (c0 8 _ rfl), (h.cell hg3).trans (c0 9 _ rfl)⟩)
              have HC1 := hide fun (w' : World) (h : (Below (bd1 w ⟨nm, ⟨rA, rn, rc, rL⟩, ⟨oA, on, oc, oL⟩, ⟨tA, tn, tc, tL⟩, ⟨lA, ln, lc, lL⟩, ar, ⟨some ⟨g, o, none⟩, bn, bc, bL⟩⟩).heap.size (bd1 w ⟨nm, ⟨rA, rn, rc, rL⟩, ⟨oA, on, oc, oL⟩, ⟨tA, tn, tc, tL⟩, ⟨lA, ln, lc, lL⟩, ar, ⟨some ⟨g, o, none⟩, bn, bc, bL⟩⟩) w')) => RPlace_is ha1 w' (HSt.out.pl.below h) (by omega)
              have HC2 := hide fun (w' : World) (h : (Below (bd1 w ⟨nm, ⟨rA, rn, rc, rL⟩, ⟨oA, on, oc, oL⟩, ⟨tA, tn, tc, tL⟩, ⟨lA, ln, lc, lL⟩, ar, ⟨some ⟨g, o, none⟩, bn, bc, bL⟩⟩).heap.size (bd1 w ⟨nm, ⟨rA, rn, rc, rL⟩, ⟨oA, on, oc, oL⟩, ⟨tA, tn, tc, tL⟩, ⟨lA, ln, lc, lL⟩, ar, ⟨some ⟨g, o, none⟩, bn, bc, bL⟩⟩) w')) => RPlace_is ha2 w' (HSt.out.rv.pl.below h) (by omega)
              have HC3 := hide fun (w' : World) (h : (Below (bd1 w ⟨nm, ⟨rA, rn, rc, rL⟩, ⟨oA, on, oc, oL⟩, ⟨tA, tn, tc, tL⟩, ⟨lA, ln, lc, lL⟩, ar, ⟨some ⟨g, o, none⟩, bn, bc, bL⟩⟩).heap.size (bd1 w ⟨nm, ⟨rA, rn, rc, rL⟩, ⟨oA, on, oc, oL⟩, ⟨tA, tn, tc, tL⟩, ⟨lA, ln, lc, lL⟩, ar, ⟨some ⟨g, o, none⟩, bn, bc, bL⟩⟩) w')) => ROperands_is ha3 w' (HSt.out.rv.args.up h) (by omega)
              have s1 : IntKind.i64.wrap (1 + (a1 : Int)) = 1 + (a1 : Int) := wrapI9 _ (by omega) (by omega)
              have s2 : IntKind.i64.wrap (1 + (a1 : Int) + 1) = 1 + (a1 : Int) + 1 := wrapI9 _ (by omega) (by omega)
              have s3 : IntKind.i64.wrap (1 + (a1 : Int) + 1 + (a2 : Int)) = 1 + (a1 : Int) + 1 + (a2 : Int) := wrapI9 _ (by omega) (by omega)
              have s4 : IntKind.i64.wrap (1 + (a1 : Int) + 1 + (a2 : Int) + (a3 : Int)) = 1 + (a1 : Int) + 1 + (a2 : Int) + (a3 : Int) := wrapI9 _ (by omega) (by omega)
              have s5 : IntKind.i64.wrap ((m3 : Int) + (1 + (a1 : Int) + 1 + (a2 : Int) + (a3 : Int))) = (m3 : Int) + (1 + (a1 : Int) + 1 + (a2 : Int) + (a3 : Int)) := wrapI9 _ (by omega) (by omega)
              clear c0 h1 hu hle hst ha1 ha2 ha3 hs3
              go_wp2
              go_region_held3 (fun w' => (Below (bd1 w ⟨nm, ⟨rA, rn, rc, rL⟩, ⟨oA, on, oc, oL⟩, ⟨tA, tn, tc, tL⟩, ⟨lA, ln, lc, lL⟩, ar, ⟨some ⟨g, o, none⟩, bn, bc, bL⟩⟩).heap.size (bd1 w ⟨nm, ⟨rA, rn, rc, rL⟩, ⟨oA, on, oc, oL⟩, ⟨tA, tn, tc, tL⟩, ⟨lA, ln, lc, lL⟩, ar, ⟨some ⟨g, o, none⟩, bn, bc, bL⟩⟩) w') ∧ w'.cell? ⟨g3, o3 + j3 * 11 + 1, none⟩ = some (.int .i64 s.pl.l) ∧ w'.cell? ⟨g3, o3 + j3 * 11 + 2, none⟩ = some (.slice s.pl.A s.pl.n s.pl.c) ∧ w'.cell? ⟨g3, o3 + j3 * 11 + 7, none⟩ = some (.int .i64 s.rv.pl.l) ∧ w'.cell? ⟨g3, o3 + j3 * 11 + 8, none⟩ = some (.slice s.rv.pl.A s.rv.pl.n s.rv.pl.c) ∧ w'.cell? ⟨g3, o3 + j3 * 11 + 9, none⟩ = some (.slice s.rv.args.A s.rv.args.n s.rv.args.c))
                (first | exact ⟨by assumption, hcs3.out _ (by assumption)⟩ | exact ⟨HR3.out, hcs3.out _ HR3.out⟩ | exact ⟨HR3.out.drew, hcs3.out _ HR3.out.drew⟩)
                (first
                  | (go_at_call 51; go_split_ands; with_reducible change Calls _ _ #[aggPl s.pl] _ _; refine (HC1.out _ (by assumption)).mono ?_; rintro x9 w1 ⟨rfl, hb0⟩; have hb1 := Below.trans (by assumption : (Below (bd1 w ⟨nm, ⟨rA, rn, rc, rL⟩, ⟨oA, on, oc, oL⟩, ⟨tA, tn, tc, tL⟩, ⟨lA, ln, lc, lL⟩, ar, ⟨some ⟨g, o, none⟩, bn, bc, bL⟩⟩).heap.size (bd1 w ⟨nm, ⟨rA, rn, rc, rL⟩, ⟨oA, on, oc, oL⟩, ⟨tA, tn, tc, tL⟩, ⟨lA, ln, lc, lL⟩, ar, ⟨some ⟨g, o, none⟩, bn, bc, bL⟩⟩) _)) (hb0.mono (Below.size (by assumption : (Below (bd1 w ⟨nm, ⟨rA, rn, rc, rL⟩, ⟨oA, on, oc, oL⟩, ⟨tA, tn, tc, tL⟩, ⟨lA, ln, lc, lL⟩, ar, ⟨some ⟨g, o, none⟩, bn, bc, bL⟩⟩).heap.size (bd1 w ⟨nm, ⟨rA, rn, rc, rL⟩, ⟨oA, on, oc, oL⟩, ⟨tA, tn, tc, tL⟩, ⟨lA, ln, lc, lL⟩, ar, ⟨some ⟨g, o, none⟩, bn, bc, bL⟩⟩) _)))))
                  | (go_at_call 51; go_split_ands; with_reducible change Calls _ _ #[aggPl s.rv.pl] _ _; refine (HC2.out _ (by assumption)).mono ?_; rintro x9 w1 ⟨rfl, hb0⟩; have hb1 := Below.trans (by assumption : (Below (bd1 w ⟨nm, ⟨rA, rn, rc, rL⟩, ⟨oA, on, oc, oL⟩, ⟨tA, tn, tc, tL⟩, ⟨lA, ln, lc, lL⟩, ar, ⟨some ⟨g, o, none⟩, bn, bc, bL⟩⟩).heap.size (bd1 w ⟨nm, ⟨rA, rn, rc, rL⟩, ⟨oA, on, oc, oL⟩, ⟨tA, tn, tc, tL⟩, ⟨lA, ln, lc, lL⟩, ar, ⟨some ⟨g, o, none⟩, bn, bc, bL⟩⟩) _)) (hb0.mono (Below.size (by assumption : (Below (bd1 w ⟨nm, ⟨rA, rn, rc, rL⟩, ⟨oA, on, oc, oL⟩, ⟨tA, tn, tc, tL⟩, ⟨lA, ln, lc, lL⟩, ar, ⟨some ⟨g, o, none⟩, bn, bc, bL⟩⟩).heap.size (bd1 w ⟨nm, ⟨rA, rn, rc, rL⟩, ⟨oA, on, oc, oL⟩, ⟨tA, tn, tc, tL⟩, ⟨lA, ln, lc, lL⟩, ar, ⟨some ⟨g, o, none⟩, bn, bc, bL⟩⟩) _)))))
                  | (go_at_call 52; go_split_ands; refine (HC3.out _ (by assumption)).mono ?_; rintro x9 w1 ⟨rfl, hb0⟩; have hb1 := Below.trans (by assumption : (Below (bd1 w ⟨nm, ⟨rA, rn, rc, rL⟩, ⟨oA, on, oc, oL⟩, ⟨tA, tn, tc, tL⟩, ⟨lA, ln, lc, lL⟩, ar, ⟨some ⟨g, o, none⟩, bn, bc, bL⟩⟩).heap.size (bd1 w ⟨nm, ⟨rA, rn, rc, rL⟩, ⟨oA, on, oc, oL⟩, ⟨tA, tn, tc, tL⟩, ⟨lA, ln, lc, lL⟩, ar, ⟨some ⟨g, o, none⟩, bn, bc, bL⟩⟩) _)) (hb0.mono (Below.size (by assumption : (Below (bd1 w ⟨nm, ⟨rA, rn, rc, rL⟩, ⟨oA, on, oc, oL⟩, ⟨tA, tn, tc, tL⟩, ⟨lA, ln, lc, lL⟩, ar, ⟨some ⟨g, o, none⟩, bn, bc, bL⟩⟩).heap.size (bd1 w ⟨nm, ⟨rA, rn, rc, rL⟩, ⟨oA, on, oc, oL⟩, ⟨tA, tn, tc, tL⟩, ⟨lA, ln, lc, lL⟩, ar, ⟨some ⟨g, o, none⟩, bn, bc, bL⟩⟩) _))))))
              all_goals
                go_split_ands
                go_wp2
                go_roundw
                case rel => exact ⟨j3 + 1, m3 + (1 + a1 + 1 + a2 + a3), by go_num, congrArg (fun z : Int => Value.int .i64 z) (by omega), by omega, HM5, by assumption⟩
                case measure => simp [intOf]; omega
            · have hjn : sn = j3 := by omega
              have hge : ¬ (j3 : Int) < (sn : Int) := by omega
              have HM6 := hide (show m3 = m2 + ts by rw [HM4.out, ← hjn, sumN_all _ HSL.out, Hts.out])
              have HM7 := hide (show m3 + (1 + tt.targets.n + q1 + q2) = n0 + S1 + sumN (fun b => bkN b.v) (bL.take (j2 + 1)) by rw [← HM3.out, HM6.out]; omega)
              have hbd3 : m3 + (1 + tt.targets.n + q1 + q2) ≤ 2 ^ 62 := by rw [HM6.out]; omega
              clear hjn HM4
              have HT2 := hide (tm1_below wr tt)
              have HTT := hide ((HP.out.term.up HR3.out).up HT2.out)
              have hts := hide fun (w' : World) (h : Below (tm1 wr tt).heap.size (tm1 wr tt) w') => (show w'.cell? ⟨wr.heap.size, 1, none⟩ = some (.slice tt.targets.A tt.targets.n tt.targets.c) ∧ w'.cell? ⟨wr.heap.size, 2, none⟩ = some (.slice tt.args.A tt.args.n tt.args.c) ∧ w'.cell? ⟨wr.heap.size, 3, none⟩ = some (.int .i64 tt.pl.l) ∧ w'.cell? ⟨wr.heap.size, 4, none⟩ = some (.slice tt.pl.A tt.pl.n tt.pl.c) from ⟨tm1_cells h 1 _ rfl, tm1_cells h 2 _ rfl, tm1_cells h 3 _ rfl, tm1_cells h 4 _ rfl⟩)
              have HC1 := hide fun (w' : World) (h : Below (tm1 wr tt).heap.size (tm1 wr tt) w') => ROperands_is Hq1.out w' (HTT.out.args.up h) (by omega)
              have HC2 := hide fun (w' : World) (h : Below (tm1 wr tt).heap.size (tm1 wr tt) w') => RPlace_is Hq2.out w' (HTT.out.pl.below h) (by omega)
              obtain ⟨tn', htn'⟩ : ∃ n, tt.targets.n = n := ⟨_, rfl⟩
              have s1 : IntKind.i64.wrap (1 + (tt.targets.n : Int)) = 1 + (tt.targets.n : Int) := wrapI9 _ (by omega) (by omega)
              have s2 : IntKind.i64.wrap (1 + (tt.targets.n : Int) + (q1 : Int)) = 1 + (tt.targets.n : Int) + (q1 : Int) := wrapI9 _ (by omega) (by omega)
              have s3 : IntKind.i64.wrap (1 + (tt.targets.n : Int) + (q1 : Int) + (q2 : Int)) = 1 + (tt.targets.n : Int) + (q1 : Int) + (q2 : Int) := wrapI9 _ (by omega) (by omega)
              have s4 : IntKind.i64.wrap ((m3 : Int) + (1 + (tt.targets.n : Int) + (q1 : Int) + (q2 : Int))) = (m3 : Int) + (1 + (tt.targets.n : Int) + (q1 : Int) + (q2 : Int)) := wrapI9 _ (by omega) (by omega)
              clear htn' tn'
              have v6 := hs.out _ HR3.out 6 _ rfl
              simp only [] at v6
              obtain ⟨d0, d1, d2, d3, d4, d5, d6⟩ := (hcs.out _ HR3.out)
              go_wp2
              clear v6 d0 d1 d2 d3 d4 d5 d6
              change Code.wp _ _ _ _ (tm1 wr tt)
              go_region_held3 (fun w' => Below (tm1 wr tt).heap.size (tm1 wr tt) w' ∧ w'.cell? ⟨wr.heap.size, 1, none⟩ = some (.slice tt.targets.A tt.targets.n tt.targets.c) ∧ w'.cell? ⟨wr.heap.size, 2, none⟩ = some (.slice tt.args.A tt.args.n tt.args.c) ∧ w'.cell? ⟨wr.heap.size, 3, none⟩ = some (.int .i64 tt.pl.l) ∧ w'.cell? ⟨wr.heap.size, 4, none⟩ = some (.slice tt.pl.A tt.pl.n tt.pl.c))
                (first | exact ⟨by assumption, hts.out _ (by assumption)⟩ | exact ⟨Below.refl _ _, hts.out _ (Below.refl _ _)⟩ | exact ⟨(Below.refl _ _).drew, hts.out _ (Below.refl _ _).drew⟩)
                (first
                  | (go_at_call 52; go_split_ands; refine (HC1.out _ (by assumption)).mono ?_; rintro x9 w1 ⟨rfl, hb0⟩; have hb1 := Below.trans (by assumption : Below (tm1 wr tt).heap.size (tm1 wr tt) _) (hb0.mono (Below.size (by assumption : Below (tm1 wr tt).heap.size (tm1 wr tt) _))))
                  | (go_at_call 51; go_split_ands; refine (HC2.out _ (by assumption)).mono ?_; rintro x9 w1 ⟨rfl, hb0⟩; have hb1 := Below.trans (by assumption : Below (tm1 wr tt).heap.size (tm1 wr tt) _) (hb0.mono (Below.size (by assumption : Below (tm1 wr tt).heap.size (tm1 wr tt) _)))))
              all_goals
                go_split_ands
                go_wp2
                go_roundw
                case rel => exact ⟨j2 + 1, m3 + (1 + tt.targets.n + q1 + q2), by go_num, congrArg (fun z : Int => Value.int .i64 z) (by omega), by omega, HM7, HR3.out.trans (Below.mono (HT2.out.trans (Below.mono (by assumption) HT2.out.size)) HR3.out.size)⟩
                case measure => simp [intOf]; omega
        · have hjn : bn = j2 := by omega
          have hge : ¬ (j2 : Int) < (bn : Int) := by omega
          have HF := hide (show m2 = N by rw [HM2.out, ← hjn, sumN_all _ HBL.out, HS2.out, HN2.out])
          clear hjn
          go_wp2
          go_ret
          exact ⟨congrArg (fun z : Nat => Ending.returned (.int .i64 (z : Int))) HF.out, HB.out.trans (HR2.out.mono HB.out.size)⟩
end Go.Proofs.YtbdimnncobpfdaaGreat

/- Appends of rows of several cells; the reference's operands of a block. -/
set_option linter.unusedVariables false
namespace Go.Proofs.YtbdimnncobpfdaaGreat
open Go.RowKit

section
variable {P : Program} (w : World) {α : Type} {f : α → List Value} {k : Nat}
theorem run_append_cells (hk : ∀ x, (f x).length = k) (h0 : 0 < k) (hone : ∀ x, ∀ u ∈ f x, u.oneCell' = true) (base : Nat) (t ty e : TypeId) (i : TypeInfo) (z : Value) (bytes : Nat) (ht : P.underlying t = some (.slice e)) (hi : P.info? e = some i) (hz : i.zero = some z)
    (hsize : i.size = k) (hby : i.bytes = bytes) (hzs : z.cells.size = k)
    (v : Value) (n : Nat) (xs : List Value) (hown : w.ownsRow base e k v n xs)
    (B : Nat) (A : Option Addr) (m c : Nat) (L : List α) (hr : Cells w B k f A m L)
    (h63 : n + m ≤ maxLen) (hbytes : (n + m) * bytes ≤ 140737488355328) (hbase : base ≤ w.heap.size) :
    ∃ v' w', (Builtin.append_ #[t, t] ty #[v, .slice A m c]).run P w = .ok v' w' ∧ w'.ownsRow base e k v' (n + m) (xs ++ L.flatMap f) ∧ w.grownBy w' v.ownBlock ∧
      (v'.ownBlock = v.ownBlock ∨ v'.ownBlock = some w.heap.size) := by
  rcases A with _ | ad
  · have hm : m = 0 := by
      rcases Nat.eq_zero_or_pos m with h | h
      · exact h
      · obtain ⟨b, o, h, _⟩ := hr.2 h
        cases h
    subst hm
    have hn : L = [] := List.eq_nil_of_length_eq_zero hr.1
    subst hn
    exact ⟨v, w, run_append_nil w base t ty e i k ht hi v n xs hown c, by simpa using hown, World.grownBy.refl w _, .inl rfl⟩
  · have hcells : ∀ j u, (L.flatMap f)[j]? = some u → w.cell? (ad.add j) = some u := by
      intro j u hu
      have hj : j < (L.flatMap f).length := by
        rcases Nat.lt_or_ge j (L.flatMap f).length with h' | h'
        · exact h'
        · rw [List.getElem?_eq_none h'] at hu; cases hu
      rw [flatMap_len hk] at hj
      have hi' : j / k < L.length := Nat.div_lt_of_lt_mul (by rw [Nat.mul_comm]; exact hj)
      have hr' : j % k < k := Nat.mod_lt _ h0
      have hx : L[j / k]? = some L[j / k] := List.getElem?_eq_getElem hi'
      have hjj : j / k * k + j % k = j := by rw [Nat.mul_comm]; exact Nat.div_add_mod j k
      obtain ⟨b, o, h, _, hc⟩ := hr.at_ hx
      injection h with h
      subst h
      have hadd : (⟨b, o, none⟩ : Addr).add j = ⟨b, o + j, none⟩ := by unfold Addr.add; split <;> simp_all
      rw [hadd]
      have := hc (j % k) u (by rw [← flatMap_at hk hx hr', hjj]; exact hu)
      rwa [Nat.add_assoc, hjj] at this
    obtain ⟨v', w', hrun, h2, h3, _, h5⟩ := run_append_own_at (P := P) w base t ty e i z k bytes ht hi hz hsize hby hzs h0 v n xs hown ad m c (L.flatMap f) (by rw [flatMap_len hk, hr.1]) hcells (fun u hu => by
      obtain ⟨x, _, hx⟩ := List.mem_flatMap.1 hu
      exact hone x u hx) h63 hbytes hbase
    exact ⟨v', w', hrun, h2, h3, h5⟩

theorem wpList_append_cells {ops : Array Oper} {rest : List Oper} {o : Oper} {a : Act} {Q : Exit → Act → World → Prop} (hgd : o.guard = none) (s x : Operand) (t : TypeId)
    (ho : o.op = .call { callee := .builtin .append, args := #[s, x], argTypes := #[t, t] })
    (hk : ∀ x, (f x).length = k) (h0 : 0 < k) (hone : ∀ x, ∀ u ∈ f x, u.oneCell' = true)
    (base : Nat) (e : TypeId) (i : TypeInfo) (z : Value) (bytes : Nat) (ht : P.underlying t = some (.slice e)) (hi : P.info? e = some i) (hz : i.zero = some z)
    (hsize : i.size = k) (hby : i.bytes = bytes) (hzs : z.cells.size = k)
    (v : Value) (n : Nat) (xs : List Value) (hs : a.eval s = v) (hown : w.ownsRow base e k v n xs)
    (B : Nat) (A : Option Addr) (m c : Nat) (L : List α) (hx : a.eval x = .slice A m c) (hr : Cells w B k f A m L)
    (h63 : n + m ≤ maxLen) (hbytes : (n + m) * bytes ≤ 140737488355328) (hbase : base ≤ w.heap.size)
    (h : ∀ v' w', w'.ownsRow base e k v' (n + m) (xs ++ L.flatMap f) → w.grownBy w' v.ownBlock → (v'.ownBlock = v.ownBlock ∨ v'.ownBlock = some w.heap.size) → wpList P ops Q rest (a.put o.dst v') w') : wpList P ops Q (o :: rest) a w :=
  wpList_plain hgd fun K hK => by
    obtain ⟨v', w', hrun, h2, h3, h4⟩ := run_append_cells (P := P) w hk h0 hone base t o.type e i z bytes ht hi hz hsize hby hzs v n xs hown B A m c L hr h63 hbytes hbase
    unfold Oper.wp execOp
    simp only [ho, resolve, invoke, builtin, Sem.run_bind, Sem.run_pure, Result.andThen_ok, List.map_toArray, List.map_cons, List.map_nil, hs, hx, hrun]
    exact hK _ _ (h v' w' h2 h3 h4)
end

/-! ### operands -/
theorem infoOp : (Tryz.prog.info? 96).map (fun i => (i.zero, i.size, i.bytes)) = some (some (.agg #[.int .i64 0, .int .i64 0, .slice none 0 0, .int .i64 0]), 4, 48) := by kernel_rfl
theorem cOp_one (x : OpW) : ∀ u ∈ cOp x, u.oneCell' = true := by intro u hu; simp only [cOp, List.mem_cons, List.not_mem_nil, or_false] at hu; rcases hu with rfl | rfl | rfl | rfl <;> rfl
/-- the operands of a block -/
def opsOf (x : BkW) : List OpW := x.stmts.L.flatMap (fun s => s.rv.args.L) ++ x.term.args.L
theorem take_flat {α β : Type} {f : α → List β} {l : List α} {j : Nat} {p : α} (h : l[j]? = some p) : (l.take (j + 1)).flatMap f = (l.take j).flatMap f ++ f p := by
  rw [List.take_add_one, h, List.flatMap_append]
  simp
theorem take_flat_le {α β : Type} (f : α → List β) (l : List α) (j : Nat) : ((l.take j).flatMap f).length ≤ (l.flatMap f).length := by
  have := congrArg (fun l => (l.flatMap f).length) (List.take_append_drop j l)
  simp only [List.flatMap_append, List.length_append] at this
  omega
/-- a slice of operands of the call's own -/
def OwnOps (w w' : World) (L : List OpW) (v : Value) : Prop := w'.ownsRow w.heap.size 96 4 v L.length (L.flatMap cOp)
def OpsOut (w : World) (L : List OpW) (e : Ending) (w' : World) : Prop := ∃ v, e = .returned v ∧ OwnOps w w' L v ∧ Below w.heap.size w w'
def bk1 (w : World) (x : BkW) : World := w.alloc (.cells #[.slice x.stmts.A x.stmts.n x.stmts.c, .int .i64 x.term.kind, .slice x.term.targets.A x.term.targets.n x.term.targets.c, .slice x.term.args.A x.term.args.n x.term.args.c, .int .i64 x.term.pl.l, .slice x.term.pl.A x.term.pl.n x.term.pl.c, .string x.term.name] 44)
theorem bk1_size (w : World) (x : BkW) : (bk1 w x).heap.size = w.heap.size + 1 := by simp [bk1]
theorem bk1_below (w : World) (x : BkW) : Below w.heap.size w (bk1 w x) := (Below.refl _ w).alloc (Nat.le_refl _) _
theorem bk1_cells {w w' : World} {x : BkW} (h : Below (bk1 w x).heap.size (bk1 w x) w') : ∀ j u, (cBk x)[j]? = some u → w'.cell? ⟨w.heap.size, j, none⟩ = some u := by
  have hs := bk1_size w x
  intro j u hu
  refine (h.cell (show w.heap.size < (bk1 w x).heap.size by omega)).trans ?_
  unfold bk1
  simp only [cBk] at hu
  rw [← hu]
  rcases j with _ | _ | _ | _ | _ | _ | _ | j <;> simp [go_sem]

set_option maxHeartbeats 4000000 in
set_option maxRecDepth 100000 in
theorem ROperandsOf_any (x : BkW) (w : World) (hx : OneBk w w.heap.size x) (hN : (opsOf x).length ≤ 2 ^ 40) :
    Calls Tryz.prog 22 #[aggBk x] w (OpsOut w (opsOf x)) := by
  obtain ⟨i0, hi, hz0, hz1, hz2⟩ := info_parts infoOp
  have HB := hide (bk1_below w x)
  have HX := hide (hx.up HB.out)
  have HSL := hide hx.stmts.len
  have hsn := hx.stmts.nm
  have hs := hide fun (w' : World) (h : Below (bk1 w x).heap.size (bk1 w x) w') => bk1_cells h
  obtain ⟨base, hbase⟩ : ∃ b, (bk1 w x).heap.size = b := ⟨_, rfl⟩
  have Hbase := hide hbase
  clear hx hbase
  obtain ⟨⟨sA, sn, sc, sL⟩, tt⟩ := x
  simp only [] at hsn
  unfold maxLen at hsn
  have hNT : (sL.flatMap (fun s : StW => s.rv.args.L)).length + tt.args.L.length ≤ 2 ^ 40 := by
    unfold opsOf at hN
    simp only [List.length_append] at hN
    exact hN
  clear hN
  have htl : tt.args.L.length = tt.args.n := HX.out.term.args.len
  go_enter Tryz.func22, Tryz.ntmps22
  go_wp2
  go_loopw [3, 4] (fun v i wr => ∃ j m : Nat, ∃ X : List OpW, i = .int .i64 (j : Int) ∧ j ≤ sn ∧ Hid (m = X.length) ∧ Hid (X = (sL.take j).flatMap (fun s => s.rv.args.L)) ∧ Hid (wr.ownsRow base 96 4 v m (X.flatMap cOp)) ∧ Hid (Below (bk1 w ⟨⟨sA, sn, sc, sL⟩, tt⟩).heap.size (bk1 w ⟨⟨sA, sn, sc, sL⟩, tt⟩) wr)) (fun _ i _ => sn - (intOf i).toNat)
  case atStart => exact ⟨0, 0, [], rfl, Nat.zero_le _, hide rfl, hide rfl, hide (World.ownsRow_nil _ _ _ _), hide (Below.refl _ _)⟩
  case round =>
    obtain ⟨j, m, X, rfl, hj, HM, HXX, HO, HR⟩ := hrel
    have v0 := hs.out _ HR.out 0 _ rfl
    simp only [] at v0
    have hsz : base ≤ wr.heap.size := by rw [← Hbase.out]; exact HR.out.size
    by_cases hlt : j < sn
    · obtain ⟨p, hp⟩ := HX.out.stmts.get hlt
      obtain ⟨g, o, hA, hg, h1, c0⟩ := HX.out.stmts.at_ hp
      simp only [] at hA
      subst hA
      have hlt' : (j : Int) < (sn : Int) := by omega
      have c9 := (HR.out.cell hg).trans (c0 9 _ rfl)
      have HC := hide (show Cells wr _ 4 cOp p.rv.args.A p.rv.args.n p.rv.args.L from (h1.rv.args.up HR.out).cells)
      have hpl := h1.rv.args.len
      have ht := take_flat (f := fun s : StW => s.rv.args.L) hp
      have hle := take_flat_le (fun s : StW => s.rv.args.L) sL (j + 1)
      have HX2 := hide (show X ++ p.rv.args.L = (sL.take (j + 1)).flatMap (fun s => s.rv.args.L) by rw [ht, HXX.out])
      have HM2 := hide (show m + p.rv.args.n = (X ++ p.rv.args.L).length by rw [List.length_append, ← HM.out, hpl])
      have hbd : m + p.rv.args.n ≤ 2 ^ 40 := by rw [HM2.out, HX2.out]; omega
      clear c0 h1 hpl ht hle hp
      go_wp2_with (at_builtin; refine wpList_append_cells wr rfl (.tmp 12) (.tmp 19) 37 rfl cOp_len (by decide) cOp_one base 96 i0 _ 48 Tryz.underlying37 hi hz0 hz1 hz2 rfl _ m (X.flatMap cOp) rfl HO.out _ p.rv.args.A p.rv.args.n p.rv.args.c p.rv.args.L rfl HC.out (by unfold maxLen; omega) (by omega) hsz ?_; intro v5 w5 hown5 hg5 hat5; have HO5 := hide hown5; have HB5 := hide (below_app (Hbase.out ▸ HR.out) HO.out hsz hg5); clear hown5 hg5 hat5)
      go_roundw
      case rel => exact ⟨j + 1, m + p.rv.args.n, X ++ p.rv.args.L, by go_num, by omega, HM2, HX2, hide (by rw [List.flatMap_append]; exact HO5.out), hide (Hbase.out ▸ HB5.out)⟩
      case measure => simp [intOf]; omega
    · have hjn : sn = j := by omega
      have hge : ¬ (j : Int) < (sn : Int) := by omega
      have v2 := hs.out _ HR.out 3 _ rfl
      simp only [] at v2
      have HXF := hide (show X = sL.flatMap (fun s : StW => s.rv.args.L) by rw [HXX.out, ← hjn, List.take_of_length_le (Nat.le_of_eq HSL.out)])
      have HC := hide (show Cells wr _ 4 cOp tt.args.A tt.args.n tt.args.L from (HX.out.term.args.up HR.out).cells)
      have hbd : m + tt.args.n ≤ 2 ^ 40 := by rw [HM.out, HXF.out]; omega
      clear hjn
      go_wp2_with (at_builtin; refine wpList_append_cells wr rfl (.tmp 21) (.tmp 24) 37 rfl cOp_len (by decide) cOp_one base 96 i0 _ 48 Tryz.underlying37 hi hz0 hz1 hz2 rfl _ m (X.flatMap cOp) rfl HO.out _ tt.args.A tt.args.n tt.args.c tt.args.L rfl HC.out (by unfold maxLen; omega) (by omega) hsz ?_; intro v5 w5 hown5 hg5 hat5; have HO5 := hide hown5; have HB5 := hide (below_app (Hbase.out ▸ HR.out) HO.out hsz hg5); clear hown5 hg5 hat5)
      go_ret
      refine ⟨_, rfl, ?_, HB.out.trans ((Hbase.out ▸ HB5.out : (Below (bk1 w ⟨⟨sA, sn, sc, sL⟩, tt⟩).heap.size (bk1 w ⟨⟨sA, sn, sc, sL⟩, tt⟩) _)).mono HB.out.size)⟩
      have hlen : (opsOf ⟨⟨sA, sn, sc, sL⟩, tt⟩).length = m + tt.args.n := by unfold opsOf; simp only [List.length_append]; rw [← HXF.out, ← HM.out, htl]
      have hfl : (opsOf ⟨⟨sA, sn, sc, sL⟩, tt⟩).flatMap cOp = X.flatMap cOp ++ tt.args.L.flatMap cOp := by unfold opsOf; simp only [List.flatMap_append]; rw [HXF.out]
      unfold OwnOps
      rw [hlen, hfl]
      exact ownsRow_base HO5.out (by rw [← Hbase.out]; exact HB.out.size)
end Go.Proofs.YtbdimnncobpfdaaGreat
