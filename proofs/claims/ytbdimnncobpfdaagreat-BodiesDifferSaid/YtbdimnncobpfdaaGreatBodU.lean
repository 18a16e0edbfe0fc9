/- What the law's Large says: every list is short, so no sum wraps. -/
import Derived.Test.YtbdimnncobpfdaaGreatBodV
import Derived.Test.YtbdimnncobpfdaaGreatBodC
import Derived.Test.YtbdimnncobpfdaaGreatBodL
set_option linter.unusedVariables false
namespace Go.Proofs.YtbdimnncobpfdaaGreat
open Go.RowKit

theorem sumN_bound {α : Type} {f : α → Nat} {l : List α} {C : Nat} (h : ∀ x ∈ l, f x ≤ C) : sumN f l ≤ l.length * C := by
  induction l with
  | nil => simp [sumN]
  | cons a l ih =>
    rw [sumN_cons, List.length_cons, Nat.add_mul, Nat.one_mul]
    have h1 := h a (List.mem_cons_self ..)
    have h2 := ih fun x hx => h x (List.mem_cons_of_mem _ hx)
    omega
theorem min_le9 {n : Nat} (h : min n 9000 ≤ 3000) : n ≤ 3000 := by omega
theorem sz_ops {s : SlW OpW} (hl : s.L.length = s.n) (h : szOps s ≤ 3000) : s.n ≤ 3000 ∧ (∀ o ∈ s.L, o.pl.n ≤ 3000) ∧ sumN (fun o : OpW => o.pl.n) s.L ≤ 3000 := by
  unfold szOps at h
  exact ⟨by omega, fun o ho => by have := sumN_one (f := fun o : OpW => o.pl.n) ho; omega, by omega⟩
theorem le39 {n : Nat} (h : n ≤ 3000) : n ≤ 2 ^ 39 := Nat.le_trans h (by decide)
theorem sm_ops {s : SlW OpW} (hl : s.L.length = s.n) (h : szOps s ≤ 3000) : SmOps s := ⟨le39 (sz_ops hl h).1, fun o ho => le39 ((sz_ops hl h).2.1 o ho)⟩
theorem opsN_bound {w : World} {B : Nat} {s : SlW OpW} (hs : Ops w B s) (h : szOps s ≤ 3000) : opsN (s.L.map OpW.v) ≤ 10000000 := by
  have h1 := sz_ops hs.len h
  rw [opsN, sumN_map]
  have h2 : sumN (fun x => opN (OpW.v x)) s.L ≤ s.L.length * 3002 := sumN_bound fun o ho => by
    have e := (hs.all o ho).pl.prs.len
    have := h1.2.1 o ho
    show 1 + (1 + o.pl.ps.length) ≤ 3002
    rw [e]
    omega
  have h3 := hs.len
  have h4 : s.L.length * 3002 ≤ 3000 * 3002 := Nat.mul_le_mul_right _ (by omega)
  omega
theorem sz_st {w : World} {B : Nat} {x : StW} (hx : OneSt w B x) (h : szSt x ≤ 3000) : SmSt x ∧ stN x.v ≤ 20000000 ∧ x.rv.args.n ≤ 3000 := by
  unfold szSt at h
  have h1 : szOps x.rv.args ≤ 3000 := by omega
  have h2 := opsN_bound hx.rv.args h1
  have e1 := hx.pl.prs.len
  have e2 := hx.rv.pl.prs.len
  refine ⟨⟨le39 (by omega), le39 (by omega), sm_ops hx.rv.args.len h1⟩, ?_, (sz_ops hx.rv.args.len h1).1⟩
  show 1 + (1 + x.pl.ps.length) + 1 + (1 + x.rv.pl.ps.length) + opsN (x.rv.args.L.map OpW.v) ≤ 20000000
  rw [e1, e2]
  omega
theorem sz_bk {w : World} {B : Nat} {x : BkW} (hx : OneBk w B x) (h : szBk x ≤ 3000) : SmBk x ∧ bkN x.v ≤ 100000000000 ∧ (opsOf x).length ≤ 2 ^ 39 ∧ x.term.name.size ≤ 3000 := by
  unfold szBk at h
  have hst : ∀ s ∈ x.stmts.L, szSt s ≤ 3000 := fun s hs => by have := sumN_one (f := szSt) hs; omega
  have h1 : szOps x.term.args ≤ 3000 := by omega
  have hl := hx.stmts.len
  have el := hx.term.targets.len
  have ep := hx.term.pl.prs.len
  have h2 := opsN_bound hx.term.args h1
  have ha := sz_ops hx.term.args.len h1
  refine ⟨⟨le39 (by omega), fun s hs => (sz_st (hx.stmts.all s hs) (hst s hs)).1, ⟨le39 (by omega), sm_ops hx.term.args.len h1, le39 (by omega)⟩⟩, ?_, ?_, by omega⟩
  · show sumN stN (x.stmts.L.map StW.v) + (1 + x.term.targets.L.length + opsN (x.term.args.L.map OpW.v) + (1 + x.term.pl.ps.length)) ≤ 100000000000
    rw [sumN_map]
    have h3 : sumN (fun s => stN (StW.v s)) x.stmts.L ≤ x.stmts.L.length * 20000000 := sumN_bound fun s hs => (sz_st (hx.stmts.all s hs) (hst s hs)).2.1
    have h4 : x.stmts.L.length * 20000000 ≤ 3000 * 20000000 := Nat.mul_le_mul_right _ (by omega)
    rw [ep, el]
    omega
  · unfold opsOf
    rw [List.length_append, hx.term.args.len]
    have h3 : (x.stmts.L.flatMap (fun s : StW => s.rv.args.L)).length ≤ x.stmts.L.length * 3000 := by
      have : (x.stmts.L.flatMap (fun s : StW => s.rv.args.L)).length = sumN (fun s : StW => s.rv.args.L.length) x.stmts.L := by rw [List.length_flatMap]; rfl
      rw [this]
      exact sumN_bound fun s hs => by rw [(hx.stmts.all s hs).rv.args.len]; exact (sz_st (hx.stmts.all s hs) (hst s hs)).2.2
    have h4 : x.stmts.L.length * 3000 ≤ 3000 * 3000 := Nat.mul_le_mul_right _ (by omega)
    have h5 := ha.1
    omega
/-- what is known of a body that is not too large -/
structure Okay (x : BdW) : Prop where
  sm : SmBd x
  nodes : bdN x.v ≤ 2 ^ 62
  all : (allS x.v).length ≤ 2 ^ 39
  bytes : bytesN x.v ≤ 2 ^ 62
  ops : ∀ b ∈ x.blocks.L, (opsOf b).length ≤ 2 ^ 39
  nm : ∀ s ∈ allS x.v, s.size ≤ 3000
theorem idnB_len (b : BkV) : (idnB b).length ≤ 1 := by unfold idnB; split <;> simp
theorem okay_of {w : World} {B : Nat} {x : BdW} (hx : OneBd w B x) (h : szB x ≤ 3000) : Okay x := by
  unfold szB at h
  have hr : ∀ s ∈ x.regions.L, s.size ≤ 3000 := fun s hs => by
    have h1 := sumN_one (f := szR) hs
    have h2 : szR s = 1 + min s.size 9000 := rfl
    exact min_le9 (by omega)
  have ht : ∀ t ∈ x.types.L, t.n ≤ 3000 := fun t hs => by
    have h1 := sumN_one (f := szT) hs
    have h2 : szT t = 1 + min t.n 9000 := rfl
    exact min_le9 (by omega)
  have hl : ∀ l ∈ x.locals.L, l.name.size ≤ 3000 := fun l hs => by
    have h1 := sumN_one (f := szL) hs
    have h2 : szL l = 1 + min l.name.size 9000 := rfl
    exact min_le9 (by omega)
  have hb : ∀ b ∈ x.blocks.L, szBk b ≤ 3000 := fun b hs => by have := sumN_one (f := szBk) hs; omega
  have lr := sumN_len (f := szR) (l := x.regions.L) fun s => by unfold szR; omega
  have lt := sumN_len (f := szT) (l := x.types.L) fun s => by unfold szT; omega
  have ll := sumN_len (f := szL) (l := x.locals.L) fun s => by unfold szL; omega
  have lb := sumN_len (f := szBk) (l := x.blocks.L) fun s => by unfold szBk; omega
  have er := hx.regions.len
  have et := hx.types.len
  have el := hx.locals.len
  have eb := hx.blocks.len
  have eo := hx.outl.len
  have hnm : ∀ s ∈ allS x.v, s.size ≤ 3000 := by
    intro s hs
    unfold allS BdW.v at hs
    simp only [List.mem_append, List.mem_cons, List.mem_flatMap, List.mem_map] at hs
    rcases hs with ((rfl | h') | ⟨l, ⟨y, hy, rfl⟩, h'⟩) | ⟨b, ⟨y, hy, rfl⟩, h'⟩
    · exact min_le9 (by omega)
    · exact hr s h'
    · unfold idnL LcW.v at h'
      simp only [List.mem_cons, List.not_mem_nil, or_false] at h'
      rw [h']
      exact hl y hy
    · unfold idnB BkW.v TmW.v at h'
      simp only [] at h'
      split at h'
      · simp only [List.mem_cons, List.not_mem_nil, or_false] at h'
        rw [h']
        exact (sz_bk (hx.blocks.all y hy) (hb y hy)).2.2.2
      · cases h'
  have hall : (allS x.v).length ≤ 9001 := by
    have e : (allS x.v).length = (1 + x.regions.L.length) + sumN (fun l : LcV => (idnL l).length) (x.locals.L.map LcW.v) + sumN (fun b : BkV => (idnB b).length) (x.blocks.L.map BkW.v) := by
      unfold allS BdW.v
      simp only [List.length_append, List.length_cons, List.length_flatMap]
      unfold sumN
      omega
    have h1 : sumN (fun l : LcV => (idnL l).length) (x.locals.L.map LcW.v) ≤ (x.locals.L.map LcW.v).length * 1 := sumN_bound fun l _ => by unfold idnL; simp
    have h2 : sumN (fun b : BkV => (idnB b).length) (x.blocks.L.map BkW.v) ≤ (x.blocks.L.map BkW.v).length * 1 := sumN_bound fun b _ => idnB_len b
    rw [List.length_map] at h1 h2
    omega
  refine ⟨⟨le39 (by omega), le39 (by omega), le39 (by omega), fun t ht' => le39 (ht t ht'), le39 (by omega), le39 (by omega), fun b hb' => (sz_bk (hx.blocks.all b hb') (hb b hb')).1⟩, ?_, Nat.le_trans hall (by decide), ?_, fun b hb' => (sz_bk (hx.blocks.all b hb') (hb b hb')).2.2.1, hnm⟩
  · have h1 : sumN (fun t : Ty => t.fields.length) (tys x.types.L) ≤ (tys x.types.L).length * 3000 := by
      unfold tys
      rw [sumN_map, List.length_map]
      exact sumN_bound fun t ht' => by rw [(hx.types.all t ht').ok.len]; exact ht t ht'
    have h2 : sumN bkN (x.blocks.L.map BkW.v) ≤ x.blocks.L.length * 100000000000 := by
      rw [sumN_map]
      exact sumN_bound fun b hb' => (sz_bk (hx.blocks.all b hb') (hb b hb')).2.1
    have h3 : x.blocks.L.length * 100000000000 ≤ 3000 * 100000000000 := Nat.mul_le_mul_right _ (by omega)
    have h4 : (tys x.types.L).length = x.types.L.length := by unfold tys; rw [List.length_map]
    have h5 : (tys x.types.L).length * 3000 ≤ 3000 * 3000 := Nat.mul_le_mul_right _ (by omega)
    have h6 : bdN x.v = 1 + x.regions.L.length + x.outl.L.length + (x.locals.L.map LcW.v).length + (x.blocks.L.map BkW.v).length + (tys x.types.L).length + sumN (fun t : Ty => t.fields.length) (tys x.types.L) + sumN bkN (x.blocks.L.map BkW.v) := rfl
    rw [h6, List.length_map, List.length_map]
    omega
  · unfold bytesN
    have h1 : sumN ByteArray.size (allS x.v) ≤ (allS x.v).length * 3000 := sumN_bound hnm
    have h2 : (allS x.v).length * 3000 ≤ 9001 * 3000 := Nat.mul_le_mul_right _ hall
    omega
theorem Large9_any (x : BdW) (w : World) (hx : OneBd w w.heap.size x) (hF : FitBd x) :
    Calls Tryz.prog 9 #[aggBd x] w fun e w' => Below w.heap.size w w' ∧ (e = .returned (.int .i64 1) ∨ e = .returned (.int .i64 0) ∧ Okay x) :=
  (Large_any x w hx hF).mono fun e w' h => ⟨h.2, h.1.imp id fun h => ⟨h.1, okay_of hx h.2⟩⟩
end Go.Proofs.YtbdimnncobpfdaaGreat
