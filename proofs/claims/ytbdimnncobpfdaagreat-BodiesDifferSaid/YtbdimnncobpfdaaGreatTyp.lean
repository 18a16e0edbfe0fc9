/- Types in memory: a slice of them, five cells each, and one by value. -/
import Derived.Test.YtbdimnncobpfdaaGreatTypM
import Derived.Test.YtbdimnncobpfdaaGreatCells
import Derived.Test.YtbdimnncobpfdaaGreatProg
import Derived.WalkKit
import Derived.OwnWalk
import Derived.Laws.Rows
import Derived.Outline
import Derived.Deep.QuietTactic
import Derived.BigQuiet
set_option linter.unusedVariables false
namespace Go.Proofs.YtbdimnncobpfdaaGreat
open Go.RowKit

/-- numbers as cells -/
abbrev i64s (xs : List Int) : List Value := xs.map (Value.int .i64)
/-- is it an int? -/
def IntR (x : Int) : Prop := -9223372036854775808 ≤ x ∧ x ≤ 9223372036854775807
theorem wf_i64 {x : Int} (h : IntR x) : (Lit.int .i64 x).wf = true := by
  simp [Lit.wf, IntKind.min, IntKind.max, IntKind.signed, IntKind.bits]; exact h
theorem infoInt : (Tryz.prog.info? 3).map (fun i => (i.zero, i.size, i.bytes)) = some (some (.int .i64 0), 1, 8) := by kernel_rfl

/-- a type as it lies in memory -/
structure TyW where
  t : Ty
  A : Option Addr
  n : Nat
  c : Nat
structure TyW.ok (x : TyW) : Prop where
  nc : x.n ≤ x.c
  cm : x.c ≤ maxLen
  len : x.t.fields.length = x.n
  k : IntR x.t.kind
  r : IntR x.t.region
  e : IntR x.t.elem
  f : ∀ y ∈ x.t.fields, IntR y
/-- its cells -/
def c5 (x : TyW) : List Value := [.int .i64 x.t.kind, .bool x.t.mut_, .int .i64 x.t.region, .int .i64 x.t.elem, .slice x.A x.n x.c]
/-- as a value -/
abbrev aggT (x : TyW) : Value := .agg #[.int .i64 x.t.kind, .bool x.t.mut_, .int .i64 x.t.region, .int .i64 x.t.elem, .slice x.A x.n x.c]
theorem c5_len (x : TyW) : (c5 x).length = 5 := rfl
theorem c5_one (x : TyW) : ∀ u ∈ c5 x, u.oneCell' = true := by intro u hu; simp only [c5, List.mem_cons, List.not_mem_nil, or_false] at hu; rcases hu with rfl | rfl | rfl | rfl | rfl <;> rfl

/-- one type: what it says of its fields, and where these lie -/
structure OneT (w : World) (B : Nat) (x : TyW) : Prop where
  ok : x.ok
  rd : Rd w B x.A x.n (i64s x.t.fields)
theorem OneT.below {w w' : World} {B : Nat} {x : TyW} (h : OneT w B x) (hb : Below B w w') : OneT w' B x := ⟨h.ok, h.rd.below hb⟩
theorem OneT.more {w : World} {B B' : Nat} {x : TyW} (h : OneT w B x) (hb : B ≤ B') : OneT w B' x := ⟨h.ok, h.rd.more hb⟩

/-- the slice holds the types L -/
structure Typs (w : World) (B : Nat) (A : Option Addr) (n : Nat) (L : List TyW) : Prop where
  cells : Cells w B 5 c5 A n L
  one : ∀ x ∈ L, OneT w B x
theorem Typs.below {w w' : World} {B : Nat} {A : Option Addr} {n : Nat} {L : List TyW} (h : Typs w B A n L) (hb : Below B w w') : Typs w' B A n L := ⟨h.cells.below hb, fun x hx => (h.one x hx).below hb⟩
theorem Typs.more {w : World} {B B' : Nat} {A : Option Addr} {n : Nat} {L : List TyW} (h : Typs w B A n L) (hb : B ≤ B') : Typs w B' A n L := ⟨h.cells.more hb, fun x hx => (h.one x hx).more hb⟩
theorem Typs.len {w : World} {B : Nat} {A : Option Addr} {n : Nat} {L : List TyW} (h : Typs w B A n L) : L.length = n := h.cells.1
theorem Typs.nil (w : World) (B : Nat) (A : Option Addr) : Typs w B A 0 [] := ⟨⟨rfl, fun h => absurd h (by omega)⟩, fun x hx => by cases hx⟩
theorem Typs.at_ {w : World} {B : Nat} {A : Option Addr} {n : Nat} {L : List TyW} (h : Typs w B A n L) {i : Nat} {x : TyW} (hx : L[i]? = some x) :
    ∃ b o, A = some ⟨b, o, none⟩ ∧ b < B ∧ OneT w B x ∧ w.cell? ⟨b, o + i * 5, none⟩ = some (.int .i64 x.t.kind) ∧ w.cell? ⟨b, o + i * 5 + 1, none⟩ = some (.bool x.t.mut_) ∧
      w.cell? ⟨b, o + i * 5 + 2, none⟩ = some (.int .i64 x.t.region) ∧ w.cell? ⟨b, o + i * 5 + 3, none⟩ = some (.int .i64 x.t.elem) ∧ w.cell? ⟨b, o + i * 5 + 4, none⟩ = some (.slice x.A x.n x.c) := by
  obtain ⟨b, o, h1, h2, h3⟩ := h.cells.at_ hx
  exact ⟨b, o, h1, h2, h.one x (List.mem_of_getElem? hx), h3 0 _ rfl, h3 1 _ rfl, h3 2 _ rfl, h3 3 _ rfl, h3 4 _ rfl⟩
theorem Typs.take {w : World} {B : Nat} {A : Option Addr} {n : Nat} {L : List TyW} (h : Typs w B A n L) {k : Nat} (hk : k ≤ n) : Typs w B A k (L.take k) := by
  have hl := h.len
  refine ⟨⟨by rw [List.length_take]; omega, fun h0 => ?_⟩, fun x hx => h.one x (List.mem_of_mem_take hx)⟩
  obtain ⟨b, o, h1, h2, h3⟩ := h.cells.2 (by omega)
  refine ⟨b, o, h1, h2, fun i x hx => h3 i x ?_⟩
  rw [List.getElem?_take] at hx
  split at hx
  · exact hx
  · cases hx
/-- the types as the mathematics takes them -/
abbrev tys (L : List TyW) : List Ty := L.map TyW.t
theorem tys_at {L : List TyW} {k : Nat} {x : TyW} (h : L[k]? = some x) : (tys L)[k]? = some x.t := by rw [List.getElem?_map, h]; rfl
theorem tys_len (L : List TyW) : (tys L).length = L.length := List.length_map _
theorem tys_back {L : List TyW} {k : Nat} {t : Ty} (h : (tys L)[k]? = some t) : ∃ x, L[k]? = some x ∧ x.t = t := by
  rw [List.getElem?_map] at h
  cases hx : L[k]? with
  | none => rw [hx] at h; cases h
  | some x => rw [hx] at h; exact ⟨x, rfl, by injection h⟩
theorem Rd.int {w : World} {B n : Nat} {A : Option Addr} {xs : List Int} (h : Rd w B A n (i64s xs)) {k : Nat} {x : Int} (hx : xs[k]? = some x) : ∃ b o, A = some ⟨b, o, none⟩ ∧ b < B ∧ w.cell? ⟨b, o + k, none⟩ = some (.int .i64 x) :=
  h.cell (by rw [List.getElem?_map, hx]; rfl)
theorem Rd.ilen {w : World} {B n : Nat} {A : Option Addr} {xs : List Int} (h : Rd w B A n (i64s xs)) : xs.length = n := by have := h.len; simpa using this

theorem tyN {B : Nat} {w w' : World} (h : Below B w w') (n : Nat) : Below B w (w'.drewN n) := ⟨h.os, h.tape, h.output, h.size, h.block⟩

/-- what was read is read again -/
theorem bcell0 {W w1 : World} (hb : Below W.heap.size W w1) : (∀ b o, b < W.heap.size → w1.cell? ⟨b, o, none⟩ = W.cell? ⟨b, o, none⟩) ∧ W.heap.size ≤ w1.heap.size :=
  ⟨fun b o h => hb.cell (p := ⟨b, o, none⟩) h, hb.size⟩

/-! ### numbers in slices -/
/-- do two lists of numbers agree? -/
def eqIs (xs ys : List Int) : Bool := decide (xs = ys)
theorem eqIs_iff {xs ys : List Int} : eqIs xs ys = true ↔ xs = ys := by simp [eqIs]

def eqUpto (xs ys : List Int) (k : Nat) : Prop := ∀ j, j < k → xs[j]? = ys[j]?

set_option maxHeartbeats 1000000 in
/-- slices.Equal of numbers -/
theorem EqI_any (A B : Option Addr) (n m c d : Nat) (xs ys : List Int) (w : World) (k l : Nat) (hx : Rd w k A n (i64s xs)) (hy : Rd w l B m (i64s ys)) (hn : n ≤ maxLen) (hm : m ≤ maxLen) :
    Calls Tryz.prog 69 #[.slice A n c, .slice B m d] w fun e w' => e = .returned (.bool (eqIs xs ys)) ∧ Below w.heap.size w w' := by
  have hxl := hx.ilen
  have hyl := hy.ilen
  have HX := hide hx
  have HY := hide hy
  have HXL := hide hxl
  have HYL := hide hyl
  unfold maxLen at hn hm
  clear hx hy
  by_cases hnm : n = m
  · subst hnm
    clear hxl hyl
    go_enter Tryz.func69, Tryz.ntmps69
    go_wp2
    go_loopw [13] (fun i wr => ∃ j : Nat, i = .int .i64 (j : Int) ∧ j ≤ n ∧ Hid (eqUpto xs ys j) ∧ Below w.heap.size w wr ∧ (∀ p, wr.cell? p = w.cell? p)) (fun i _ => n - (intOf i).toNat)
    case atStart => exact ⟨0, rfl, Nat.zero_le _, fun j h => absurd h (by omega), Below.refl _ _, fun _ => rfl⟩
    case round =>
      obtain ⟨j, rfl, hj, HE, hb, hc⟩ := hrel
      have HB := hide hb
      have HC := hide hc
      clear hb hc
      by_cases hlt : j < n
      · have hex : ∃ a, xs[j]? = some a := ⟨_, List.getElem?_eq_getElem (by have := HXL.out; omega)⟩
        obtain ⟨a, ha⟩ := hex
        have hex : ∃ a, ys[j]? = some a := ⟨_, List.getElem?_eq_getElem (by have := HYL.out; omega)⟩
        obtain ⟨b, hb⟩ := hex
        obtain ⟨g, o, rfl, _, c0⟩ := HX.out.int ha
        obtain ⟨g', o', rfl, _, c1⟩ := HY.out.int hb
        rw [← HC.out] at c0 c1
        have hlt' : (j : Int) < (n : Int) := by omega
        have HA' := hide ha
        have HB' := hide hb
        clear ha hb
        by_cases hab : a = b
        · subst hab
          have e1 : ((a : Int) != (a : Int)) = false := by simp
          have HE2 := hide (show eqUpto xs ys (j + 1) from fun i hi => by
            rcases Nat.lt_or_ge i j with h | h
            · exact HE.out i h
            · obtain rfl : i = j := by omega
              rw [HA'.out, HB'.out])
          go_wp2
          go_quiet (fail)
          go_wp2
          go_roundw
          case rel => exact ⟨j + 1, by go_num, by omega, HE2.out, tyN HB.out _, HC.out⟩
          case measure => simp [intOf]; omega
        · have e1 : ((a : Int) != (b : Int)) = true := by simp [hab]
          have HF := hide (show eqIs xs ys = false by
            cases h : eqIs xs ys
            · rfl
            · rw [eqIs_iff] at h
              subst h
              have h1 := HA'.out
              rw [HB'.out] at h1
              injection h1 with h1
              exact absurd h1.symm hab)
          clear hab
          go_wp2
          go_quiet (fail)
          go_wp2
          go_ret
          exact ⟨congrArg (fun v => Ending.returned (.bool v)) HF.out.symm, tyN HB.out _⟩
      · obtain rfl : j = n := by omega
        have HF := hide (show eqIs xs ys = true by
          rw [eqIs_iff]
          refine List.ext_getElem? fun i => ?_
          rcases Nat.lt_or_ge i j with h | h
          · exact HE.out i h
          · rw [List.getElem?_eq_none (by have := HXL.out; omega), List.getElem?_eq_none (by have := HYL.out; omega)])
        go_wp2
        go_ret
        exact ⟨congrArg (fun v => Ending.returned (.bool v)) HF.out.symm, HB.out⟩
  · have e1 : ((n : Int) != (m : Int)) = true := by simp; omega
    have HF := hide (show eqIs xs ys = false by
      cases h : eqIs xs ys
      · rfl
      · rw [eqIs_iff] at h
        subst h
        omega)
    clear hxl hyl
    go_enter Tryz.func69, Tryz.ntmps69
    go_wp2
    go_ret
    exact ⟨congrArg (fun v => Ending.returned (.bool v)) HF.out.symm, Below.refl _ _⟩
end Go.Proofs.YtbdimnncobpfdaaGreat
