/- Part 38 of the contracts and their mathematics. -/
import Derived.Test.YtfgacmgjpikgaaaGreatDoorQ3
import Derived.Test.YtfgacmgjpikgaaaGreatDoorQ7
import Derived.Lib.Slices
import Derived.Lib.Small
import Derived.Lib.Walk
import Derived.RangeFuncLeaves
import Derived.Shelf.Abstract
import Derived.OwnWalkIn
import Derived.TacticsInMore
import Derived.LoopNIn
import Derived.LoopIn
set_option linter.unusedVariables false
set_option linter.unusedSimpArgs false
namespace Go.Proofs.YtfgacmgjpikgaaaGreatDoor
open Go.RowKit
theorem below_drewN {B : Nat} {a w : World} (h : Below B a w) (n : Nat) : Below B a (w.drewN n) := ⟨h.os, h.tape, h.output, h.size, h.block⟩
structure CRat (w : World) (g : Nat) (A : Option Addr) (n c p : Nat) (xs : List Int) (e : Int) : Prop where
 c0 : w.cell? ⟨g, 0, none⟩ = some (.slice A n c)
 c1 : w.cell? ⟨g, 1, none⟩ = some (.int .i64 (p : Int))
 c2 : w.cell? ⟨g, 2, none⟩ = some (.int .i64 e)
 fr : ∀ j, w.frozen? ⟨g, j, none⟩ = false
 lt : g < w.heap.size
 nc : n ≤ c
 cm : c ≤ maxLen
 pn : p ≤ n
 byt : Byt xs
 rd : Rd w g A n (u8s xs)
 sm : n ≤ 1099511627776
def CR (w : World) (g : Nat) (ys : List Int) (e : Int) : Prop :=
 ∃ (A : Option Addr) (n c p : Nat) (xs : List Int), CRat w g A n c p xs e ∧ (e = 0 → ys = xs.drop p) ∧ (e ≠ 0 → ys = [])
section
variable {w w' : World} {g n c p : Nat} {A : Option Addr} {xs ys : List Int} {e : Int}
theorem CRat.len (h : CRat w g A n c p xs e) : xs.length = n := by simpa using h.rd.1
theorem CRat.keep (h : CRat w g A n c p xs e) (hs : w.heap.size ≤ w'.heap.size) (hk : ∀ q : Addr, q.block ≤ g → w'.cell? q = w.cell? q) (hf : ∀ q : Addr, q.block ≤ g → w'.frozen? q = w.frozen? q) : CRat w' g A n c p xs e :=
 ⟨(hk _ (Nat.le_refl _)).trans h.c0, (hk _ (Nat.le_refl _)).trans h.c1, (hk _ (Nat.le_refl _)).trans h.c2, fun j => (hf _ (Nat.le_refl _)).trans (h.fr j), Nat.lt_of_lt_of_le h.lt hs, h.nc, h.cm, h.pn, h.byt,
  h.rd.keep (fun q hq => hk q (Nat.le_of_lt hq)), h.sm⟩
theorem CR.keep (h : CR w g ys e) (hs : w.heap.size ≤ w'.heap.size) (hk : ∀ q : Addr, q.block ≤ g → w'.cell? q = w.cell? q) (hf : ∀ q : Addr, q.block ≤ g → w'.frozen? q = w.frozen? q) : CR w' g ys e := by
 obtain ⟨A, n, c, p, xs, h, r⟩ := h
 exact ⟨A, n, c, p, xs, h.keep hs hk hf, r⟩
theorem CR.lt (h : CR w g ys e) : g < w.heap.size := by
 obtain ⟨A, n, c, p, xs, h, r⟩ := h
 exact h.lt
theorem CR.below {B : Nat} (h : CR w g ys e) (hb : Below B w w') (hB : g < B) : CR w' g ys e :=
 h.keep hb.size (fun q hq => hb.cell (by omega)) (fun q hq => hb.frozen (by omega))
theorem CR.far {h : Nat} (hr : CR w g ys e) (hg : w.grownBy w' (some h)) (hh : g < h) : CR w' g ys e :=
 hr.keep hg.size (fun q hq => hg.cell_far q (by have := hr.lt; omega) (fun x => by injection x with x; omega)) (fun q hq => hg.frozen_far q (by have := hr.lt; omega) (fun x => by injection x with x; omega))
theorem CR.byt (h : CR w g ys e) : Byt ys := by
 obtain ⟨A, n, c, p, xs, h, r1, r2⟩ := h
 by_cases he : e = 0
 ·
  rw [r1 he]; exact h.byt.drop p
 ·
  rw [r2 he]; exact Byt.nil
theorem CRat.drewN (h : CRat w g A n c p xs e) (k : Nat) : CRat (w.drewN k) g A n c p xs e := ⟨h.c0, h.c1, h.c2, h.fr, h.lt, h.nc, h.cm, h.pn, h.byt, h.rd, h.sm⟩
end
def ErrOf (w : World) (q : Option Addr) (e : Int) : Prop := (q = none ∧ e = 1) ∨ ∃ g, q = some ⟨g, 0, none⟩ ∧ g < w.heap.size ∧ w.cell? ⟨g, 2, none⟩ = some (.int .i64 e)
theorem ErrOf.alloc {w : World} {q : Option Addr} {e : Int} (h : ErrOf w q e) (o : Obj) : ErrOf (w.alloc o) q e := by
 rcases h with h | ⟨g, h1, h2, h3⟩
 ·
  exact .inl h
 ·
  exact .inr ⟨g, h1, by simp; omega, (World.cell?_alloc_lt w o _ h2).trans h3⟩
theorem CRat.left {w : World} {g n c p : Nat} {A : Option Addr} {xs ys : List Int} {e : Int} (h : CRat w g A n c p xs e) (hy : ys = xs.drop p) : ((ys.length : Nat) : Int) = (n : Int) - (p : Int) := by
 rw [hy, List.length_drop, h.len]
 have := h.pn
 omega
theorem CR.drewN {w : World} {g : Nat} {ys : List Int} {e : Int} (h : CR w g ys e) (k : Nat) : CR (w.drewN k) g ys e := by
 obtain ⟨A, n, c, p, xs, h, r⟩ := h
 exact ⟨A, n, c, p, xs, h.drewN k, r⟩
theorem eqS_def (a b : ByteArray) : (a.toList == b.toList) = decide (a = b) := by
 rw [Bool.eq_iff_iff, beq_iff_eq, decide_eq_true_iff, ByteArray.toList_eq, ByteArray.toList_eq]
 exact ⟨fun h => key_inj h, fun h => by rw [h]⟩
abbrev sV (L : List ByteArray) : List Value := L.map Value.string
theorem sV_one (L : List ByteArray) : ∀ u ∈ sV L, u.oneCell' = true := by
 intro u hu
 obtain ⟨s, _, rfl⟩ := List.mem_map.1 hu
 rfl
theorem infoS : (Tryz.prog.info? 9).map (fun i => (i.zero, i.size, i.bytes)) = some (some (.string .empty), 1, 16) := by kernel_rfl
theorem sV_at {L : List ByteArray} {k : Nat} {s : ByteArray} (h : L[k]? = some s) : (sV L)[k]? = some (.string s) := by rw [List.getElem?_map, h]; rfl
theorem sV_len {w : World} {B n : Nat} {A : Option Addr} {L : List ByteArray} (h : Rd w B A n (sV L)) : L.length = n := by simpa using h.1
theorem Rd.str {w : World} {B n : Nat} {A : Option Addr} {L : List ByteArray} (h : Rd w B A n (sV L)) {k : Nat} {s : ByteArray} (hs : L[k]? = some s) : ∃ b o, A = some ⟨b, o, none⟩ ∧ b < B ∧ w.cell? ⟨b, o + k, none⟩ = some (.string s) := h.cell (sV_at hs)
structure TabAt (w : World) (g : Nat) (A : Option Addr) (n c : Nat) (L : List ByteArray) : Prop where
 c0 : w.cell? ⟨g, 0, none⟩ = some (.slice A n c)
 lt : g < w.heap.size
 nc : n ≤ c
 cm : c ≤ maxLen
 rd : Rd w g A n (sV L)
def Tab (w : World) (g : Nat) (L : List ByteArray) : Prop := ∃ A n c, TabAt w g A n c L
theorem TabAt.len {w : World} {g n c : Nat} {A : Option Addr} {L : List ByteArray} (h : TabAt w g A n c L) : L.length = n := sV_len h.rd
theorem Tab.below {w w' : World} {g B : Nat} {L : List ByteArray} (h : Tab w g L) (hb : Below B w w') (hB : g < B) : Tab w' g L := by
 obtain ⟨A, n, c, h⟩ := h
 exact ⟨A, n, c, (hb.cell hB).trans h.c0, Nat.lt_of_lt_of_le h.lt hb.size, h.nc, h.cm, h.rd.below (hb.mono (by omega))⟩
theorem Tab.lt {w : World} {g : Nat} {L : List ByteArray} (h : Tab w g L) : g < w.heap.size := by obtain ⟨A, n, c, h⟩ := h; exact h.lt
theorem strLit (w : World) (cs : List Value) (t : TypeId) : ∀ j u, cs[j]? = some u → (w.alloc (.cells cs.toArray t)).cell? ((⟨w.heap.size, 0, none⟩ : Addr).add j) = some u := by
 intro j u hu
 have e : (⟨w.heap.size, 0, none⟩ : Addr).add j = ⟨w.heap.size, 0 + j, none⟩ := by unfold Addr.add; split <;> simp_all
 rw [e, cell_of_row (w.alloc (.cells cs.toArray t)) w.heap.size (0 + j) cs.toArray t (0, 0) (heap_alloc_new w _)]
 simpa using hu
end Go.Proofs.YtfgacmgjpikgaaaGreatDoor
