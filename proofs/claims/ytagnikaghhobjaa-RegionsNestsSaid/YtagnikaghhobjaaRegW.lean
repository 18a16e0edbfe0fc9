/- Closure. -/
import Derived.Test.YtagnikaghhobjaaRegV
set_option linter.unusedVariables false
namespace Go.Proofs.Ytagnikaghhobjaa
open Go.RowKit Go.Shelf
attribute [local go_sem] Oper.semAt_some

/-- the numbers that AppendSeq has collected -/
def ColI (W : World) (base : Nat) (v : Value) (ys : List Int) : Prop := W.ownsRow base 3 1 v ys.length (i64s ys)
theorem ColI.own {W W' : World} {row : Option Nat} {base : Nat} {v : Value} {ys : List Int} (h : ColI W base v ys) (hg : W.grownBy W' row) (hr : ∀ r, row = some r → ∃ o : Obj, W.heap[r]? = some o ∧ o.isCells = false) : ColI W' base v ys := by
  unfold ColI at h ⊢
  refine h.kept hg ?_
  rcases h.2 with ⟨rfl, _⟩ | ⟨g, cap, cur, rfl, _, hgg, _⟩
  · exact .inl rfl
  · refine .inr fun e' => ?_
    obtain ⟨o, ho, hc⟩ := hr g (by rw [← e']; rfl)
    rw [hgg] at ho
    injection ho with ho
    subst ho
    cases hc
theorem ColI.stays {W W' : World} {n X base : Nat} {v : Value} {ys : List Int} (h : ColI W base v ys) (hi : ItX n X W W') (hX : W.cell? ⟨X, 0, none⟩ = some v) : ColI W' base v ys := by
  refine ⟨h.1, ?_⟩
  rcases h.2 with hv | ⟨g, cap, cur, e, hb, hgg, rest⟩
  · exact .inl hv
  · have hgl := (Array.getElem?_eq_some_iff.1 hgg).1
    exact .inr ⟨g, cap, cur, e, hb, (hi.own g (by rw [ownX_of hX, e]; rfl) hgl).trans hgg, rest⟩
theorem keepX_app {base X : Nat} {W w1 w2 : World} {v v' : Value} {n : Nat} {xs : List Value} {t : TypeId} (h1 : Below W.heap.size W w1) (hown : w1.ownsRow (X + 1) t 1 v n xs) (hX : Boxed W X 35 v) (hg : w1.grownBy w2 v.ownBlock) (hat : v'.ownBlock = v.ownBlock ∨ v'.ownBlock = some w1.heap.size) (hb : base ≤ X) (hf : ∀ k, v'.ownBlock = some k → k < w2.heap.size) :
    KeepX base X W (w2.setCell ⟨X, 0, none⟩ v') := by
  have hXl := hX.lt
  have hs1 := h1.size
  have hob : ∀ k, v.ownBlock = some k → X + 1 ≤ k := fun k hk => (hown.lt k hk).1
  have hX2 : w2.cell? ⟨X, 0, none⟩ = some v := by
    have hbk : w2.heap[X]? = some (.cells #[v] 35 (0, 0)) := (hg.block X (by omega) (fun e => by have := hob X e.symm; omega)).trans ((h1.block X hXl).trans hX)
    exact cell_of_row w2 X 0 _ _ (0, 0) hbk
  have hX3 : (w2.setCell ⟨X, 0, none⟩ v').cell? ⟨X, 0, none⟩ = some v' := World.cell?_setCell_same' _ _ _ (by rw [hX2]; rfl)
  have eW : ownX X W = v.ownBlock := ownX_of hX.cell
  have e3 : ownX X (w2.setCell ⟨X, 0, none⟩ v') = v'.ownBlock := ownX_of hX3
  have hss : (w2.setCell ⟨X, 0, none⟩ v').heap.size = w2.heap.size := by simp [World.setCell]
  refine ⟨(((h1.mono (by omega : base ≤ W.heap.size))).grown hg (by omega) (fun k hk => by have := hob k hk; omega)).setCell (p := ⟨X, 0, none⟩) hb _, fun k cs ty fr hk hkX hkO => ?_, ?_, fun _ g hg2 => ?_⟩
  · have hkl := (Array.getElem?_eq_some_iff.1 hk).1
    rw [eW] at hkO
    exact (Below.heap_setCell w2 ⟨X, 0, none⟩ v' k hkX).trans ((hg.block k (by omega) hkO).trans ((h1.block k hkl).trans hk))
  · rw [e3, eW]
    rcases hat with e | e
    · exact .inl e
    · exact .inr ⟨_, e, hs1⟩
  · rw [e3] at hg2
    rw [hss]
    exact hf g hg2

theorem keepsFrom_belowI {B : Nat} {W W' : World} (hb : Below W.heap.size W W') : KeepsFrom B W W' := ⟨hb.size, fun k o _ hk _ => (hb.block k (Array.getElem?_eq_some_iff.1 hk).1).trans hk⟩
theorem keepsFrom_rowI {B : Nat} {W W' : World} {base k n : Nat} {e : TypeId} {v : Value} {xs : List Value} (hg : W.grownBy W' v.ownBlock) (hown : W.ownsRow base e k v n xs) : KeepsFrom B W W' := ⟨hg.size, fun q o _ hq ho => (hg.block q (Array.getElem?_eq_some_iff.1 hq).1 (fun he => by
  rcases hown.2 with ⟨rfl, _⟩ | ⟨g, cap, cur, rfl, _, hgg, _⟩
  · cases he
  · have : q = g := by simpa [Value.ownBlock] using he
    subst this
    rw [hq] at hgg
    injection hgg with hgg
    subst hgg
    cases ho)).trans hq⟩

set_option maxHeartbeats 8000000 in
set_option maxRecDepth 100000 in
theorem AppendSeq_any (gf : Nat) (lb : Array Value) (S Sp : List Int → Prop) (N : Nat) (w : World)
    (hseq : ∀ w', Below w.heap.size w w' → w.heap.size < w'.heap.size → ownX w.heap.size w' = none → SeqX 8 Try.prog gf lb w.heap.size w.heap.size S Sp N w') (eg : ∀ args w', (callFunc gf args).run Try.prog w' = .ok (.enter gf args) w') (hN : N ≤ 1000000000) :
    Calls Try.prog 60 #[.slice none 0 0, .func (.func gf) #[] lb] w fun e w' => ∃ v ys, e = .returned v ∧ S ys ∧ ys.length ≤ N ∧ w'.ownsRow w.heap.size 3 1 v ys.length (i64s ys) ∧ Below w.heap.size w w' := by
  obtain ⟨i0, hi, hz0, hz1, hz2⟩ := info_parts infoInt
  refine (callsIn_wide (n := 9)).1 ?_
  have HSeq := hide hseq
  clear hseq
  refine callsIn_of_wp_marks Try.func60 rfl trivial ?_ rfl
  simp only [Try.ntmps60, List.size_toArray, List.length_cons, List.length_nil, Nat.reduceAdd, Nat.reduceSub, Array.replicate_succ, Array.replicate_zero, List.push_toArray, List.append_toArray, List.nil_append, List.cons_append]
  gi_wp2
  have hB0 : Below w.heap.size w (w.alloc (.cells #[.slice none 0 0] 35)) := (Below.refl _ w).alloc (Nat.le_refl _) _
  have hsz : (w.alloc (.cells #[.slice none 0 0] 35)).heap.size = w.heap.size + 1 := World.size_alloc _ _
  have bX := Boxed.new w 35 (.slice none 0 0)
  have hsq := HSeq.out _ hB0 (by omega) (ownX_of bX.cell)
  generalize w.alloc (.cells #[.slice none 0 0] 35) = W0 at *
  have hex : ∃ s, s = w.heap.size := ⟨_, rfl⟩
  obtain ⟨s, hs⟩ := hex
  rw [← hs] at hB0 hsz bX hsq ⊢
  have HS := hide hs
  clear hs HSeq
  refine wpIn_rangeFunc_X (by omega) (gf := gf) (lb := lb) rfl eg hsq (Below.refl _ _) (by omega) (by omega) (ownX_of bX.cell)
    (fun pre W => (pre.length ≤ N ∧ ∃ v, Boxed W s 35 v ∧ ColI W (s + 1) v pre) ∧ Below s w W)
    (fun _ _ _ => False)
    (OwnFrom.and (Own.from (fun s A B row hs hg hr => ⟨hs.1, by
      obtain ⟨v, h1, h2⟩ := hs.2
      exact ⟨v, block_ownB h1 hg hr, h2.own hg hr⟩⟩) _) (ownFrom_below (Nat.le_of_eq HS.out) (by omega)))
    (fun _ _ _ _ _ h _ _ => h)
    (fun pre A C h hi => ⟨⟨h.1.1, by
      obtain ⟨v, h1, h2⟩ := h.1.2
      exact ⟨v, block_low h1 hi (by omega), h2.stays hi h1.cell⟩⟩, h.2.trans (hi.low.mono (by omega))⟩)
    (fun _ _ _ _ h _ => h)
    ⟨⟨Nat.zero_le _, _, bX, World.ownsRow_nil _ _ _ _⟩, hB0⟩
    (fun x => { tmps := #[.slice none 0 0, .func (.func gf) #[] lb, .pointer (some ⟨s, 0, none⟩), undef, .slice none 0 0, .int .i64 x, .func (.func gf) #[] lb, .int .i64 x, undef, undef, undef, undef, undef], defers := [] }) ?assign ?body ?done ?stop
  case assign =>
    intro l x W K hK
    gi_wp2
    exact hK
  case body =>
    rintro l pre x W ⟨⟨hl, v, hbx, hcol⟩, hB⟩ hlen
    have c0 := hbx.cell
    have hW := hB.size
    have hXl := hbx.lt
    have HBX := hide hbx
    have HCol := hide (show W.ownsRow (s + 1) 3 1 v pre.length (i64s pre) from hcol)
    have HB := hide hB
    have hal := (Below.refl W.heap.size W).alloc (Nat.le_refl _) (.cells #[.int .i64 x] 3)
    have hO1 := ownsRow_below hcol hal
    clear hbx hcol hB
    gi_wp2_with (gi_at_builtin; go_must (refine wpListIn_append_own_at _ rfl _ _ 35 rfl (s + 1) 3 i0 (.int .i64 0) 1 8 Try.underlying35 hi hz0 hz1 hz2 rfl (by decide) _ pre.length _ rfl hO1 ⟨W.heap.size, 0, none⟩ 1 1 (i64s [x]) rfl rfl (cell_int2 W x 3) (ints_oneCell _ _) (by unfold maxLen; omega) (by omega) (by rw [World.size_alloc]; omega) ?_; intro v5 w5 hown5 hg5 _ hat5; obtain ⟨g5, cap5, rfl⟩ := ownsRow_succ hown5; have hbk : w5.heap[s]? = some (.cells #[v] 35 (0, 0)) := (hg5.block s (by rw [World.size_alloc]; omega) (fun e => by have := (hO1.lt s e.symm).1; omega)).trans ((hal.block s hXl).trans HBX.out); have hc5 := cell_of_row w5 s 0 _ _ (0, 0) hbk; have hf5 : w5.frozen? ⟨s, 0, none⟩ = false := (by simp [World.frozen?, hbk]); have HK5 := hide (keepX_app (base := s) (X := s) hal hO1 HBX.out hg5 hat5 (Nat.le_refl _) (fun k hk => (hown5.lt k hk).2)); have HO5 := hide (i64app2 hown5); have HF5 := hide ((keepsFrom_belowI (B := W0.heap.size) hal).trans (keepsFrom_rowI hg5 hO1)); have HB5 := hide (show Boxed w5 s 35 v from hbk); clear hown5 hg5 hat5 hbk))
    refine ⟨HF5.out.trans ((KeepsOthers.setCell _ _ _).from _), HK5.out, ⟨by simp; omega, _, HB5.out.set _, ?_⟩, HB.out.trans HK5.out.low⟩
    have h := ownsRow_setCell_below HO5.out (a := ⟨s, 0, none⟩) (show s < s + 1 by omega) (.slice (some ⟨g5, 0, none⟩) (pre.length + 1) cap5)
    unfold ColI
    rw [List.length_append, List.length_singleton]
    exact h
  case done =>
    rintro D ys W hD hys ⟨⟨hl, v, hbx, hcol⟩, hB⟩ hK
    have c0 := hbx.cell
    have HCol := hide hcol
    have HB := hide hB
    clear hcol hB
    gi_wp2
    refine ⟨by simp, .inl ⟨_, _, rfl, run_takeDeferred hK, ?_⟩⟩
    have hlow := belowK_b (w := W0) (by omega : s ≤ W0.heap.size) W D _ (.deferred none) hD hK rfl rfl
    have hgr := grownBy_putObj' W D (.deferred none)
    refine ⟨_, results_tmp rfl _ _ _, v, ys, rfl, hys, hl, ?_, by rw [← HS.out]; exact HB.out.trans hlow⟩
    have h := HCol.out.own hgr (fun r e => by cases e; exact ⟨_, hK, rfl⟩)
    rw [← HS.out]
    exact ownsRow_base h (by omega)
  case stop =>
    rintro D cd pre W hD hpre h hK
    exact h.elim
end Go.Proofs.Ytagnikaghhobjaa
