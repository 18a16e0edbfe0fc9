/- A table in memory: Len, At, 'list' and 'long' of the laws. -/
import Derived.Test.YtbdimnncobpfdaaGreatIntI
import Derived.Test.YtbdimnncobpfdaaGreatAppend
import Derived.Test.YtbdimnncobpfdaaGreatRdr
import Derived.Outline
set_option linter.unusedVariables false
namespace Go.Proofs.YtbdimnncobpfdaaGreat
open Go.RowKit

theorem ltS_def (a b : ByteArray) : Op.bytesLess a.toList b.toList = ltS a b := by rw [ltS, key, key, ByteArray.toList_eq, ByteArray.toList_eq]
theorem eqS_def (a b : ByteArray) : (a.toList == b.toList) = decide (a = b) := by
  rw [Bool.eq_iff_iff, beq_iff_eq, decide_eq_true_iff, ByteArray.toList_eq, ByteArray.toList_eq]
  exact ⟨fun h => key_inj h, fun h => by rw [h]⟩
/-- strings as cells -/
abbrev sV (L : List ByteArray) : List Value := L.map Value.string
theorem sV_one (L : List ByteArray) : ∀ u ∈ sV L, u.oneCell' = true := by
  intro u hu
  obtain ⟨s, _, rfl⟩ := List.mem_map.1 hu
  rfl
theorem infoS : (Tryz.prog.info? 9).map (fun i => (i.zero, i.size, i.bytes)) = some (some (.string .empty), 1, 16) := by kernel_rfl
theorem sV_at {L : List ByteArray} {k : Nat} {s : ByteArray} (h : L[k]? = some s) : (sV L)[k]? = some (.string s) := by rw [List.getElem?_map, h]; rfl
theorem sV_len {w : World} {B n : Nat} {A : Option Addr} {L : List ByteArray} (h : Rd w B A n (sV L)) : L.length = n := by simpa using h.1
theorem Rd.str {w : World} {B n : Nat} {A : Option Addr} {L : List ByteArray} (h : Rd w B A n (sV L)) {k : Nat} {s : ByteArray} (hs : L[k]? = some s) : ∃ b o, A = some ⟨b, o, none⟩ ∧ b < B ∧ w.cell? ⟨b, o + k, none⟩ = some (.string s) := h.cell (sV_at hs)

/-- the table of block g holds L -/
structure TabAt (w : World) (g : Nat) (A : Option Addr) (n c : Nat) (L : List ByteArray) : Prop where
  c0 : w.cell? ⟨g, 0, none⟩ = some (.slice A n c)
  lt : g < w.heap.size
  nc : n ≤ c
  cm : c ≤ maxLen
  rd : Rd w g A n (sV L)
def Tab (w : World) (g : Nat) (L : List ByteArray) : Prop := ∃ A n c, TabAt w g A n c L
theorem TabAt.len {w : World} {g n c : Nat} {A : Option Addr} {L : List ByteArray} (h : TabAt w g A n c L) : L.length = n := sV_len h.rd
theorem Tab.below {w w' : World} {g B : Nat} {L : List ByteArray} (h : Tab w g L) (hb : Below B w w') (hB : g < B) : Tab w' g L := by
  obtain ⟨A, n, c, h⟩ := h
  exact ⟨A, n, c, (hb.cell hB).trans h.c0, Nat.lt_of_lt_of_le h.lt hb.size, h.nc, h.cm, h.rd.below (hb.mono (by omega))⟩
theorem Tab.lt {w : World} {g : Nat} {L : List ByteArray} (h : Tab w g L) : g < w.heap.size := by obtain ⟨A, n, c, h⟩ := h; exact h.lt
theorem Tab.now {w w' : World} {g : Nat} {L : List ByteArray} (h : Tab w g L) (hb : Below w.heap.size w w') : Tab w' g L := h.below hb h.lt

/-- the cells of a slice written out -/
theorem strLit (w : World) (cs : List Value) (t : TypeId) : ∀ j u, cs[j]? = some u → (w.alloc (.cells cs.toArray t)).cell? ((⟨w.heap.size, 0, none⟩ : Addr).add j) = some u := by
  intro j u hu
  have e : (⟨w.heap.size, 0, none⟩ : Addr).add j = ⟨w.heap.size, 0 + j, none⟩ := by unfold Addr.add; split <;> simp_all
  rw [e, cell_of_row (w.alloc (.cells cs.toArray t)) w.heap.size (0 + j) cs.toArray t (0, 0) (heap_alloc_new w _)]
  simpa using hu
theorem sV_up {L : List ByteArray} {k : Nat} {s : ByteArray} (h : L[k]? = some s) : sV (L.take (k + 1)) = sV (L.take k) ++ [.string s] := by
  rw [sV, List.take_add_one, h]; simp

end Go.Proofs.YtbdimnncobpfdaaGreat
