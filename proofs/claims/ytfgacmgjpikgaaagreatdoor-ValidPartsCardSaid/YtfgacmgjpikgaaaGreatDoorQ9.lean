/- Part 10 of the contracts and their mathematics. -/
import Derived.Test.YtfgacmgjpikgaaaGreatDoorQ8
set_option linter.unusedVariables false
set_option linter.unusedSimpArgs false
namespace Go.Proofs.YtfgacmgjpikgaaaGreatDoor
open Go.RowKit Go.Shelf
attribute [local go_sem] Oper.semAt_some
theorem block_own8 {W W' : World} {row : Option Nat} {B : Nat} {cs : Array Value} {t : TypeId} {fr : Nat × Nat} (h : W.heap[B]? = some (.cells cs t fr)) (hg : W.grownBy W' row) (hr : ∀ r, row = some r → ∃ o : Obj, W.heap[r]? = some o ∧ o.isCells = false) : W'.heap[B]? = some (.cells cs t fr) :=
 (hg.block B (Array.getElem?_eq_some_iff.1 h).1 (fun e' => by
  obtain ⟨o, ho, hc⟩ := hr B e'.symm
  rw [h] at ho
  injection ho with ho
  subst ho
  cases hc)).trans h
theorem size_set8 (w : World) (a : Addr) (v : Value) : (w.setCell a v).heap.size = w.heap.size := by simp
theorem boxed_below8 {W W' : World} {B : Nat} {t : TypeId} {u : Value} (h : Boxed W B t u) (hb : Below W.heap.size W W') : Boxed W' B t u := (hb.block B h.lt).trans h
def lastSt {T : List Ty} {t : Int} {ps : List Pr} (pre : List (StX T t ps)) : Nat × Int := match pre.getLast? with
 | none => (0, 0)
 | some y => (y.1, tyA T t ps y.1)
theorem lastSt_snoc {T : List Ty} {t : Int} {ps : List Pr} {pre : List (StX T t ps)} {y : StX T t ps} : lastSt (pre ++ [y]) = (y.1, tyA T t ps y.1) := by
 unfold lastSt; rw [List.getLast?_concat]
theorem lastSt_all {T : List Ty} {t : Int} {ps : List Pr} {ys : List (StX T t ps)} {m : Nat} (h : ys.map (·.1) = List.range (m + 1)) : lastSt ys = (m, tyA T t ps m) := by
 rcases List.eq_nil_or_concat ys with rfl | ⟨l, y, rfl⟩
 ·
  rw [List.range_succ] at h; simp at h
 ·
  rw [List.concat_eq_append] at h ⊢
  rw [lastSt_snoc]
  rw [List.map_append, List.range_succ] at h
  have h2 := List.append_inj_right' h rfl
  have : y.1 = m := by simpa using h2
  rw [this]
structure Pl8 (w : World) (At Al : Option Addr) (nt nl : Nat) (L : List TyW) (LL : List LcW) (x : PlW) (r : Int) : Prop where
 typs : Typs w w.heap.size At nt L
 locs : Locs w w.heap.size Al nl LL
 one : OnePl w w.heap.size x
 nt : nt ≤ maxLen
 nl : nl ≤ maxLen
 ok : TyOk (tys L) r
 lc : LcOk (tys L) (lcs LL)
theorem Pl8.up {w w' : World} {At Al : Option Addr} {nt nl : Nat} {L : List TyW} {LL : List LcW} {x : PlW} {r : Int} (h : Pl8 w At Al nt nl L LL x r) (hb : Below w.heap.size w w') : Pl8 w' At Al nt nl L LL x r := ⟨h.typs.up hb, h.locs.up hb, h.one.up hb, h.nt, h.nl, h.ok, h.lc⟩
theorem Pl8.take {w : World} {At Al : Option Addr} {nt nl : Nat} {L : List TyW} {LL : List LcW} {x : PlW} {r : Int} (h : Pl8 w At Al nt nl L LL x r) {k : Nat} (hk : k ≤ x.n) : Pl8 w At Al nt nl L LL (x.take k) r := ⟨h.typs, h.locs, h.one.take hk, h.nt, h.nl, h.ok, h.lc⟩
theorem Pl8.way {w : World} {At Al : Option Addr} {nt nl : Nat} {L : List TyW} {LL : List LcW} {x : PlW} {r : Int} (h : Pl8 w At Al nt nl L LL x r) {k : Nat} {lc : LcW} (hk : x.l = (k : Int)) (hl : LL[k]? = some lc) : Way8 At Al nt nl L LL x k lc r := by
 have := h.lc lc.ty (List.mem_map_of_mem (List.mem_of_getElem? hl))
 exact ⟨h.ok, h.nt, h.nl, h.one.nc, h.one.cm, hk, hl, this.1, by rw [← tys_len]; exact this.2⟩
set_option maxRecDepth 100000 in
set_option maxHeartbeats 4000000 in
theorem TypeOf_yes {At Al : Option Addr} {nt ct nl cl : Nat} {L : List TyW} {LL : List LcW} {x : PlW} {r : Int} {w : World} (h : Pl8 w At Al nt nl L LL x r) {k : Nat} {lc : LcW} (hk : x.l = (k : Int)) (hlc : LL[k]? = some lc) (hp0 : plErr x.l x.ps = 0) :
    CallsIn Fence.wide 9 Tryz.prog 100 #[.slice At nt ct, .slice Al nl cl, aggPl x] w fun e w' => e = .returned (.tuple #[.int .i64 (goL (tys L) lc.ty x.ps).1, .int .i64 (goL (tys L) lc.ty x.ps).2]) ∧ Below w.heap.size w w' := by
  have hB0 := (Below.refl w.heap.size w).alloc (Nat.le_refl _) (.cells #[.int .i64 x.l, .slice x.A x.n x.c] 36)
  have HB0 := hide hB0
  have HW := hide (h.way hk hlc)
  have HC := hide (CheckP_is hp0 _ (h.one.up hB0))
  have hll := (List.getElem?_eq_some_iff.1 hlc).1
  have hnll := h.locs.len
  have HIN := hide (show tyIn (k : Int) (nl : Int) = true from tyIn_iff.2 ⟨by omega, by omega⟩)
  have H := hide fun w' (hb : Below w.heap.size w w') => h.up hb
  have hxl : x.ps.length = x.n := h.one.prs.len
  have hnc := h.one.nc
  have hcm := h.one.cm
  have hp32 := (plErr_zero.1 hp0).2.1
  have HBX := hide (heap_alloc_new w (.cells #[.int .i64 x.l, .slice x.A x.n x.c] 36))
  obtain ⟨l, A, n, c, ps⟩ := x
  simp only [] at hk hxl hnc hcm hp32
  subst hk
  unfold maxLen at hcm
  clear h hB0 hlc hp0
  refine callsIn_of_wp_marks Tryz.func100 rfl trivial ?_ rfl
  simp only [Tryz.ntmps100, List.size_toArray, List.length_cons, List.length_nil, Nat.reduceAdd, Nat.reduceSub, Array.replicate_succ, Array.replicate_zero, List.push_toArray, List.append_toArray, List.nil_append, List.cons_append]
  gi_wp2_with (first
    | (refine ⟨trivial, ?_⟩; gi_at_call 110; refine (callsIn_wide.2 HC.out).mono ?_; rintro e w1 ⟨rfl, hb1⟩; have HB1 := hide hb1; have hbX := (hb1.block w.heap.size (by simp)).trans HBX.out; have z0 := cell_of_heap hbX 0; have z1 := cell_of_heap hbX 1; have y0 := cell_of_heap ((((Below.refl w1.heap.size w1).alloc (Nat.le_refl _) (.cells #[.int .i64 0] 3)).alloc (by simp) (.cells #[.int .i64 0] 3)).block w.heap.size (by have := hb1.size; simp at this; omega) |>.trans hbX) 0; have y1 := cell_of_heap ((((Below.refl w1.heap.size w1).alloc (Nat.le_refl _) (.cells #[.int .i64 0] 3)).alloc (by simp) (.cells #[.int .i64 0] 3)).block w.heap.size (by have := hb1.size; simp at this; omega) |>.trans hbX) 1)
    | (refine ⟨trivial, ?_⟩; gi_at_call 111; refine (callsIn_wide.2 (Within_is HIN.out _)).mono ?_; rintro e w2 ⟨rfl, rfl⟩)
    | (refine ⟨trivial, ?_⟩; gi_at_call 112; refine (along_in _ At Al nt ct nl cl ⟨(k : Int), A, n, c, ps⟩ _).mono ?_; rintro e w2 ⟨rfl, rfl⟩))
  have bR := ((((Boxed.new w1 3 (.int .i64 0)).alloc (.cells #[.int .i64 0] 3)).alloc (.cells #[.slice At nt ct] 24)).alloc (.cells #[.slice Al nl cl] 25)).alloc (.cells #[.int .i64 (k : Int), .slice A n c] 36)
  have bT := (((Boxed.new (w1.alloc (.cells #[.int .i64 0] 3)) 3 (.int .i64 0)).alloc (.cells #[.slice At nt ct] 24)).alloc (.cells #[.slice Al nl cl] 25)).alloc (.cells #[.int .i64 (k : Int), .slice A n c] 36)
  have bA := ((Boxed.new ((w1.alloc (.cells #[.int .i64 0] 3)).alloc (.cells #[.int .i64 0] 3)) 24 (.slice At nt ct)).alloc (.cells #[.slice Al nl cl] 25)).alloc (.cells #[.int .i64 (k : Int), .slice A n c] 36)
  have bL := (Boxed.new (((w1.alloc (.cells #[.int .i64 0] 3)).alloc (.cells #[.int .i64 0] 3)).alloc (.cells #[.slice At nt ct] 24)) 25 (.slice Al nl cl)).alloc (.cells #[.int .i64 (k : Int), .slice A n c] 36)
  have bP := heap_alloc_new ((((w1.alloc (.cells #[.int .i64 0] 3)).alloc (.cells #[.int .i64 0] 3)).alloc (.cells #[.slice At nt ct] 24)).alloc (.cells #[.slice Al nl cl] 25)) (.cells #[.int .i64 (k : Int), .slice A n c] 36)
  simp only [World.size_alloc] at bT bA bL bP
  have hBW : Below w1.heap.size w1 (((((w1.alloc (.cells #[.int .i64 0] 3)).alloc (.cells #[.int .i64 0] 3)).alloc (.cells #[.slice At nt ct] 24)).alloc (.cells #[.slice Al nl cl] 25)).alloc (.cells #[.int .i64 (k : Int), .slice A n c] 36)) := (((((Below.refl _ w1).alloc (Nat.le_refl _) _).alloc (by simp) _).alloc (by simp; omega) _).alloc (by simp; omega) _).alloc (by simp; omega) _
  have hsz : (((((w1.alloc (.cells #[.int .i64 0] 3)).alloc (.cells #[.int .i64 0] 3)).alloc (.cells #[.slice At nt ct] 24)).alloc (.cells #[.slice Al nl cl] 25)).alloc (.cells #[.int .i64 (k : Int), .slice A n c] 36)).heap.size = w1.heap.size + 5 := by simp
  obtain ⟨W0, hW0⟩ : ∃ W0, (((((w1.alloc (.cells #[.int .i64 0] 3)).alloc (.cells #[.int .i64 0] 3)).alloc (.cells #[.slice At nt ct] 24)).alloc (.cells #[.slice Al nl cl] 25)).alloc (.cells #[.int .i64 (k : Int), .slice A n c] 36)) = W0 := ⟨_, rfl⟩
  rw [hW0] at bR bT bA bL bP hBW hsz ⊢
  clear hW0 y0 y1 z0 z1
  have HB01 := hide (HB0.out.trans (HB1.out.mono HB0.out.size))
  have h1 := H.out _ HB01.out
  have hw1 : w.heap.size < w1.heap.size := by have := HB1.out.size; simp at this; omega
  have HTY := hide (h1.typs.below hBW)
  have HLO := hide (h1.locs.below hBW)
  have HPS := hide (h1.one.prs.below hBW)
  have hbx : w1.heap[w.heap.size]? = some (.cells #[.int .i64 (k : Int), .slice A n c] 36 (0, 0)) := hbX
  have HBXX := hide hbx
  clear hbX hbx h1
  refine wpIn_rangeFunc_ownH rfl (by omega) (gf := 125) (lb := #[.pointer (some ⟨w1.heap.size + 1 + 1 + 2, 0, none⟩), .pointer (some ⟨w1.heap.size + 1 + 1 + 1, 0, none⟩), .pointer (some ⟨w1.heap.size + 1 + 1, 0, none⟩)]) rfl trivial (enters_of Tryz.func125 (by kernel_rfl) rfl)
    (along_stops _ (by omega) (w1.heap.size + 1 + 1) (w1.heap.size + 1 + 1 + 1) (w1.heap.size + 1 + 1 + 2) w1.heap.size w1.heap.size At Al nt ct nl cl L LL ⟨(k : Int), A, n, c, ps⟩ k lc r HW.out W0 bA bL bP (by omega) (by omega) (by omega) (by omega) HTY.out HLO.out HPS.out (by omega)) keepTX_t (keepTX_b (by omega)) (Below.refl _ _) (fun _ => rfl)
    (fun pre W => (w1.heap.size + 5 ≤ W.heap.size ∧ Boxed W w1.heap.size 3 (.int .i64 ((lastSt pre).1 : Int)) ∧ Boxed W (w1.heap.size + 1) 3 (.int .i64 (lastSt pre).2)) ∧ Below w1.heap.size w1 W)
    (fun _ _ _ => False)
    (OwnFrom.and (Own.from (fun s X Y row hs hg hr => ⟨Nat.le_trans hs.1 hg.size, block_own8 hs.2.1 hg hr, block_own8 hs.2.2 hg hr⟩) _) (ownFrom_below (Nat.le_refl _) (by omega)))
    (fun _ _ _ _ _ hs _ _ => hs)
    ⟨⟨by omega, bR, bT⟩, hBW⟩
    (fun y a' W => ∃ Bq, w1.heap.size + 5 ≤ Bq ∧ W.heap[Bq]? = some (.cells #[.int .i64 (k : Int), .slice A y.1 c] 36 (0, 0)) ∧ a' = { tmps := #[.slice At nt ct, .slice Al nl cl, aggPl ⟨(k : Int), A, n, c, ps⟩, undef, undef, .pointer (some ⟨w.heap.size, 0, none⟩), .int .i64 0, .int .i64 0, .int .i64 0, .pointer (some ⟨w1.heap.size, 0, none⟩), .pointer (some ⟨w1.heap.size + 1, 0, none⟩), .pointer (some ⟨Bq, 0, none⟩), .int .i64 (tyA (tys L) lc.ty ps y.1), .agg #[.int .i64 (k : Int), .slice A n c], .int .i64 0, .int .i64 0, .bool false, undef, .pointer (some ⟨w.heap.size, 0, none⟩), .int .i64 (k : Int), .slice Al nl cl, .int .i64 (nl : Int), .bool true, .bool false, .slice At nt ct, .slice Al nl cl, .agg #[.int .i64 (k : Int), .slice A n c], .func (.func 125) #[] #[.pointer (some ⟨w1.heap.size + 1 + 1 + 2, 0, none⟩), .pointer (some ⟨w1.heap.size + 1 + 1 + 1, 0, none⟩), .pointer (some ⟨w1.heap.size + 1 + 1, 0, none⟩)], .agg #[.int .i64 (k : Int), .slice A y.1 c], .int .i64 (tyA (tys L) lc.ty ps y.1), undef, undef, undef, undef, undef, undef, undef, undef, undef, undef, undef, undef, undef, undef, undef, undef, undef, undef, undef, undef], defers := [] })
    (fun y a' _ X Y row hs hg hr => by obtain ⟨Bq, h1, h2, h3⟩ := hs; exact ⟨Bq, h1, block_own8 h2 hg (fun r e => (hr r e).2), h3⟩)
    ?assign ?body ?done ?stop
  case assign =>
    rintro l pre y W K ⟨⟨hs, b1, b2⟩, hB⟩ hK
    have hb := (Below.refl W.heap.size W).alloc (Nat.le_refl _) (.cells #[.int .i64 (k : Int), .slice A y.1 c] 36)
    have hKp : KeepTX w1.heap.size plTs w1.heap.size W _ := KeepTX.of_below hb (by omega)
    have HK := hide hK
    clear hK
    dsimp only [penc]
    gi_wp2
    exact HK.out _ _ ((KeepsOthers.alloc _ _).from _) hKp ⟨⟨by simp; omega, b1.alloc _, b2.alloc _⟩, hB.trans (hb.mono hB.size)⟩ ⟨W.heap.size, hs, heap_alloc_new W _, rfl⟩
  case body =>
    rintro l pre y a' W hl hrr ⟨⟨hs, b1, b2⟩, hB⟩ ⟨Bq, hBq, bX, rfl⟩ hlt
    have d0 := cell_of_heap bX 0
    have d1 := cell_of_heap bX 1
    have k1 := b1.cell
    have k2 := b2.cell
    have f1 := b1.frozen
    have f2 := b2.frozen
    have c1 := b1.set (.int .i64 (y.1 : Int))
    have c2 := b2.other (B' := w1.heap.size) (by omega) (.int .i64 (y.1 : Int))
    have HKT := hide ((KeepT.box (Ts := plTs) b1 (Nat.le_refl _) (by decide) (.int .i64 (y.1 : Int))).trans (KeepT.box c2 (by omega) (by decide) (.int .i64 (tyA (tys L) lc.ty ps y.1))))
    have HI := hide (show (w1.heap.size + 5 ≤ ((W.setCell ⟨w1.heap.size, 0, none⟩ (.int .i64 (y.1 : Int))).setCell ⟨w1.heap.size + 1, 0, none⟩ (.int .i64 (tyA (tys L) lc.ty ps y.1))).heap.size ∧ Boxed ((W.setCell ⟨w1.heap.size, 0, none⟩ (.int .i64 (y.1 : Int))).setCell ⟨w1.heap.size + 1, 0, none⟩ (.int .i64 (tyA (tys L) lc.ty ps y.1))) w1.heap.size 3 (.int .i64 ((lastSt (pre ++ [y])).1 : Int)) ∧ Boxed ((W.setCell ⟨w1.heap.size, 0, none⟩ (.int .i64 (y.1 : Int))).setCell ⟨w1.heap.size + 1, 0, none⟩ (.int .i64 (tyA (tys L) lc.ty ps y.1))) (w1.heap.size + 1) 3 (.int .i64 (lastSt (pre ++ [y])).2)) from by
      rw [lastSt_snoc]
      exact ⟨by rw [size_set8, size_set8]; exact hs, c1.other (B' := w1.heap.size + 1) (by omega) _, c2.set _⟩)
    have HB := hide hB
    clear c1 c2 hB
    gi_wp2
    exact ⟨((KeepsOthers.setCell W ⟨w1.heap.size, 0, none⟩ (.int .i64 (y.1 : Int))).trans (KeepsOthers.setCell _ ⟨w1.heap.size + 1, 0, none⟩ (.int .i64 (tyA (tys L) lc.ty ps y.1)))).from _, KeepTX.of_t HKT.out, HI.out, HB.out.trans HKT.out.1⟩
  case done =>
    rintro D ys W hD ⟨m, hS, hm, hend⟩ ⟨⟨hs, b1, b2⟩, hB⟩ hK
    rw [lastSt_all hm] at b1 b2
    have k1 := b1.cell
    have k2 := b2.cell
    have hbx := (hB.block w.heap.size hw1).trans HBXX.out
    have z0 := cell_of_heap hbx 0
    have z1 := cell_of_heap hbx 1
    have HBB := hide (HB01.out.trans (hB.mono HB01.out.size))
    have HD := hide fun W' (h : Below W.heap.size W W') => (h.block D (Array.getElem?_eq_some_iff.1 hK).1).trans hK
    have HBW := hide hB
    have hDW : w.heap.size ≤ D := by omega
    simp only [] at k1 k2
    rcases hend with rfl | ⟨p, hp, he⟩
    · have HG := hide (show goL (tys L) lc.ty ps = (tyA (tys L) lc.ty ps ps.length, 0) from by
        have h2 := hS.ok
        unfold erA at h2
        unfold tyA
        rw [goL_take_all] at h2 ⊢
        rw [← h2])
      rw [hxl] at k1 HG
      gi_wp2
      refine ⟨by simp, .inl ⟨_, _, rfl, run_takeDeferred hK, ?_⟩⟩
      refine ⟨_, results_tmp2 rfl _ _ _, ?_, HBB.out.trans (belowK_b (w := w) (Nat.le_refl _) W D _ _ hDW hK rfl rfl)⟩
      exact congrArg (fun z : Int × Int => Ending.returned (.tuple #[.int .i64 z.1, .int .i64 z.2])) HG.out.symm
    · have hmn : m < n := by have : m < ps.length := (List.getElem?_eq_some_iff.1 hp).1; omega
      have hmn' : (m : Int) < (n : Int) := by omega
      have HG := hide (goA_none hS hp he)
      obtain ⟨i, u, hti, hu⟩ := hS.lt HW.out.ok HW.out.t0 (by rw [tys_len]; exact HW.out.t1)
      obtain ⟨y, hy, hyt⟩ := tys_back hu
      have hgy : tyGet (tys L) (tyA (tys L) lc.ty ps m) = y.t := by rw [hti, hyt]; exact tyGet_at hu
      rw [hgy] at HG he
      have HCP := hide fun W' (h : Below W.heap.size W W') => (show Calls Tryz.prog 113 #[.slice At nt ct, .int .i64 (tyA (tys L) lc.ty ps m), aggP p] W' fun e w' => e = .returned (.tuple #[.int .i64 0, .int .i64 (stepT y.t p).2]) ∧ Below W'.heap.size W' w' from by
        rw [hti]
        have h2 := Project_any (c := ct) hy p W' (H.out W' (HBB.out.trans (h.mono HBB.out.size))).typs HW.out.nt
        rw [stepT_err he] at h2
        exact h2)
      have HPX := hide fun W' (h : Below W.heap.size W W') => (H.out W' (HBB.out.trans (h.mono HBB.out.size))).one.prs
      obtain ⟨b, o, hA, _, hi, d0, d1⟩ := (HPX.out W (Below.refl _ _)).at_ hp
      simp only [] at hA
      subst hA
      obtain ⟨pk, pf⟩ := p
      simp only [] at d0 d1
      have HS := hide fun W' (h : Below W.heap.size W W') => show Below W.heap.size W W' ∧ W'.cell? ⟨w1.heap.size + 1, 0, none⟩ = some (.int .i64 (tyA (tys L) lc.ty ps m)) ∧ W'.cell? ⟨w.heap.size, 1, none⟩ = some (.slice (some ⟨b, o, none⟩) n c) ∧ W'.cell? ⟨w1.heap.size, 0, none⟩ = some (.int .i64 (m : Int)) ∧ W'.cell? ⟨b, o + m * 2, none⟩ = some (.int .i64 pk) ∧ W'.cell? ⟨b, o + m * 2 + 1, none⟩ = some (.int .i64 pf) from
        ⟨h, (boxed_below8 b2 h).cell, cell_of_heap ((h.block w.heap.size (by omega)).trans hbx) 1, (boxed_below8 b1 h).cell, (h.cell (p := ⟨b, o + m * 2, none⟩) (World.block_lt_of_cell? W _ d0)).trans d0, (h.cell (p := ⟨b, o + m * 2 + 1, none⟩) (World.block_lt_of_cell? W _ d1)).trans d1⟩
      clear hti hu hy hyt hgy hi hbx
      gi_wp2
      refine wpIn_wide.2 ?_
      go_region_held3 (fun W' => Below W.heap.size W W' ∧ W'.cell? ⟨w1.heap.size + 1, 0, none⟩ = some (.int .i64 (tyA (tys L) lc.ty ps m)) ∧ W'.cell? ⟨w.heap.size, 1, none⟩ = some (.slice (some ⟨b, o, none⟩) n c) ∧ W'.cell? ⟨w1.heap.size, 0, none⟩ = some (.int .i64 (m : Int)) ∧ W'.cell? ⟨b, o + m * 2, none⟩ = some (.int .i64 pk) ∧ W'.cell? ⟨b, o + m * 2 + 1, none⟩ = some (.int .i64 pf))
        (first | exact HS.out _ (by assumption) | exact HS.out _ (Below.refl _ _) | exact HS.out _ (Below.refl _ _).drew)
        (first
          | (go_at_call 113; go_split_ands; refine (HCP.out _ (by assumption)).mono ?_; rintro e w4 ⟨rfl, hb0⟩; have hb4 := Below.trans (by assumption : Below W.heap.size W _) (hb0.mono (Below.size (by assumption : Below W.heap.size W _)))))
      all_goals
        go_split_ands
        have hb4' := (by assumption : Below W.heap.size W w4)
        have hK4 := HD.out _ hb4'
        gi_wp2
        refine ⟨by simp, .inl ⟨_, _, rfl, run_takeDeferred hK4, ?_⟩⟩
        refine ⟨_, results_tmp2 rfl _ _ _, ?_, (HBB.out.trans (hb4'.mono HBB.out.size)).trans (belowK_b (w := w) (Nat.le_refl _) w4 D _ _ hDW hK4 rfl rfl)⟩
        exact congrArg (fun z : Int × Int => Ending.returned (.tuple #[.int .i64 z.1, .int .i64 z.2])) HG.out.symm
  case stop =>
    rintro D cd pre W hD hpre h hK
    exact h.elim
set_option maxHeartbeats 1000000 in
theorem TypeOf_any {At Al : Option Addr} {nt ct nl cl : Nat} {L : List TyW} {LL : List LcW} {x : PlW} {r : Int} {w : World} (h : Pl8 w At Al nt nl L LL x r) :
  Calls Tryz.prog 100 #[.slice At nt ct, .slice Al nl cl, aggPl x] w fun e w' => e = .returned (.tuple #[.int .i64 (tyOfP (tys L) (lcs LL) x.l x.ps).1, .int .i64 (tyOfP (tys L) (lcs LL) x.l x.ps).2]) ∧ Below w.heap.size w w' := by
 obtain ⟨v, hv⟩ : ∃ v, plErr x.l x.ps = v := ⟨_, rfl⟩
 have hB0 := (Below.refl w.heap.size w).alloc (Nat.le_refl _) (.cells #[.int .i64 x.l, .slice x.A x.n x.c] 36)
 have HB0 := hide hB0
 have HC := hide (CheckP_is hv _ (h.one.up hB0))
 by_cases hv0 : v = 0
 ·
  subst hv0
  by_cases hl : x.l < (nl : Int)
  ·
   have h0 := (plErr_zero.1 hv).1
   have hnl := h.locs.len
   obtain ⟨lc, hlc⟩ : ∃ lc, LL[x.l.toNat]? = some lc := ⟨_, List.getElem?_eq_getElem (by omega)⟩
   have hk : x.l = ((x.l.toNat : Nat) : Int) := by omega
   rw [tyOfP_in hv hk (lcs_at hlc)]
   exact callsIn_wide.1 (TypeOf_yes h hk hlc hv)
  ·
   have HF := hide (tyOfP_out (T := tys L) (lc := lcs LL) hv (by rw [lcs_len, h.locs.len]; exact hl))
   have HIN := hide (show tyIn x.l (nl : Int) = false from tyIn_not.2 fun h => hl h.2)
   have HBX := hide (heap_alloc_new w (.cells #[.int .i64 x.l, .slice x.A x.n x.c] 36))
   obtain ⟨l, A, n, c, ps⟩ := x
   clear h hB0 hl hv
   go_enter Tryz.func100, Tryz.ntmps100
   go_wp2_with fail
   refine HC.out.mono ?_
   rintro e w1 ⟨rfl, hb1⟩
   have HB1 := hide (HB0.out.trans (hb1.mono HB0.out.size))
   have hbX := (hb1.block w.heap.size (by simp)).trans HBX.out
   have z0 := cell_of_heap hbX 0
   clear hb1 hbX
   go_wp2_with fail
   refine (Within_is HIN.out _).mono ?_
   rintro e w2 ⟨rfl, rfl⟩
   go_wp2
   go_ret2
   exact ⟨congrArg (fun z : Int × Int => Ending.returned (.tuple #[.int .i64 z.1, .int .i64 z.2])) HF.out.symm, HB1.out⟩
 ·
  have tv : (v != 0) = true := by rw [bne_iff_ne]; exact hv0
  have HF := hide (tyOfP_err (T := tys L) (lc := lcs LL) hv hv0)
  obtain ⟨l, A, n, c, ps⟩ := x
  clear h hB0 hv hv0
  go_enter Tryz.func100, Tryz.ntmps100
  go_wp2_with fail
  refine HC.out.mono ?_
  rintro e w1 ⟨rfl, hb1⟩
  have HB1 := hide (HB0.out.trans (hb1.mono HB0.out.size))
  clear hb1
  go_wp2
  go_ret2
  exact ⟨congrArg (fun z : Int × Int => Ending.returned (.tuple #[.int .i64 z.1, .int .i64 z.2])) HF.out.symm, HB1.out⟩
theorem TypeOf_is {At Al : Option Addr} {nt ct nl cl : Nat} {L : List TyW} {LL : List LcW} {x : PlW} {r u v : Int} {w : World} (h : Pl8 w At Al nt nl L LL x r) (hv : tyOfP (tys L) (lcs LL) x.l x.ps = (u, v)) :
  Calls Tryz.prog 100 #[.slice At nt ct, .slice Al nl cl, aggPl x] w fun e w' => e = .returned (.tuple #[.int .i64 u, .int .i64 v]) ∧ Below w.heap.size w w' := by
 have := TypeOf_any (ct := ct) (cl := cl) h
 rw [hv] at this
 exact this
end Go.Proofs.YtfgacmgjpikgaaaGreatDoor
