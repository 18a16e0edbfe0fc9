/- What a store leaves of a copy: blocks of other types; worlds that are alike but for numbers and strings. -/
import Derived.Test.YtbdimnncobpfdaaGreatBodC
set_option linter.unusedVariables false
namespace Go.Proofs.YtbdimnncobpfdaaGreat
open Go.RowKit

/-! ### blocks of other types are as they were -/
def KT (e : TypeId) (w w' : World) : Prop := ∀ (k : Nat) (cs : Array Value) (e' : TypeId) (fz : Nat × Nat), w.heap[k]? = some (.cells cs e' fz) → e' ≠ e → w'.heap[k]? = w.heap[k]?
section
variable {e e' : TypeId} {w w' : World} {lo k n : Nat} {v : Value} {xs : List Value}
theorem KT.of_grown (hg : w.grownBy w' v.ownBlock) (ho : w.ownsRow lo e k v n xs) : KT e w w' := fun j cs e1 fz hj he => by
  refine hg.block j (Array.getElem?_eq_some_iff.1 hj).1 fun h => ?_
  rcases ho.2 with ⟨rfl, _⟩ | ⟨g, cap, cur, rfl, _, h2, _⟩
  · cases h
  · injection h with h
    subst h
    rw [h2] at hj
    injection hj with hj
    injection hj with _ hj _
    exact he hj.symm
theorem KT.of_set {g : Nat} {cs : List Value} {T : TypeId} (h : Bx w g cs T) (j : Nat) (u : Value) : KT T w (w.setCell ⟨g, j, none⟩ u) := fun i cs' e1 fz hi he => by
  refine Below.heap_setCell w _ u i fun h' => ?_
  subst h'
  unfold Bx at h
  rw [h] at hi
  injection hi with hi
  injection hi with _ hi _
  exact he hi.symm
theorem own_kt (h : w.ownsRow lo e' k v n xs) (hk : KT e w w') (he : e' ≠ e) : w'.ownsRow lo e' k v n xs := by
  obtain ⟨h1, h2⟩ := h
  refine ⟨h1, ?_⟩
  rcases h2 with h2 | ⟨g, cap, cur, hv, hb, hg, r⟩
  · exact .inl h2
  · exact .inr ⟨g, cap, cur, hv, hb, (hk _ _ _ _ hg he).trans hg, r⟩
theorem Bx.kt {g : Nat} {cs : List Value} {T : TypeId} (h : Bx w g cs T) (hk : KT e w w') (he : T ≠ e) : Bx w' g cs T := (hk _ _ _ _ h he).trans h
/-- the types of the rows within blocks -/
structure Inner9 (e : TypeId) : Prop where
  p : 135 ≠ e
  o : 96 ≠ e
  s : 58 ≠ e
  i : 3 ≠ e
variable (hk : KT e w w') (hi : Inner9 e)
include hk hi
theorem OwPl.kt {x : PlW} (h : OwPl w lo x) : OwPl w' lo x := own_kt h hk hi.p
theorem OwOps.kt {s : SlW OpW} (h : OwOps w lo s) : OwOps w' lo s := ⟨own_kt h.row hk hi.o, fun x hx => own_kt (h.all x hx) hk hi.p⟩
theorem OwRv.kt {x : RvW} (h : OwRv w lo x) : OwRv w' lo x := ⟨own_kt h.pl hk hi.p, OwOps.kt hk hi h.args⟩
theorem OwSt.kt {x : StW} (h : OwSt w lo x) : OwSt w' lo x := ⟨own_kt h.pl hk hi.p, OwRv.kt hk hi h.rv⟩
theorem OwTm.kt {x : TmW} (h : OwTm w lo x) : OwTm w' lo x := ⟨own_kt h.targets hk hi.i, OwOps.kt hk hi h.args, own_kt h.pl hk hi.p⟩
theorem OwBk.kt {x : BkW} (h : OwBk w lo x) : OwBk w' lo x := ⟨⟨own_kt h.stmts.row hk hi.s, fun x hx => OwSt.kt hk hi (h.stmts.all x hx)⟩, OwTm.kt hk hi h.term⟩
theorem OwTy.kt {x : TyW} (h : OwTy w lo x) : OwTy w' lo x := own_kt h hk hi.i
end

/-! ### worlds that are alike but for numbers and strings -/
def Like (u v : Value) : Prop := u = v ∨ (∃ a b, u = .int .i64 a ∧ v = .int .i64 b ∧ IntR b) ∨ (∃ s t, u = .string s ∧ v = .string t)
theorem Like.int {a : Int} {v : Value} (h : Like (.int .i64 a) v) (ha : IntR a) : ∃ b, v = .int .i64 b ∧ IntR b := by
  rcases h with rfl | ⟨_, b, _, rfl, hb⟩ | ⟨s, t, h, _⟩
  · exact ⟨a, rfl, ha⟩
  · exact ⟨b, rfl, hb⟩
  · cases h
theorem Like.bool {a : Bool} {v : Value} (h : Like (.bool a) v) : v = .bool a := by
  rcases h with rfl | ⟨_, b, h, _⟩ | ⟨s, t, h, _⟩
  · rfl
  · cases h
  · cases h
theorem Like.slice {A : Option Addr} {n c : Nat} {v : Value} (h : Like (.slice A n c) v) : v = .slice A n c := by
  rcases h with rfl | ⟨_, b, h, _⟩ | ⟨s, t, h, _⟩
  · rfl
  · cases h
  · cases h
theorem Like.str {s : ByteArray} {v : Value} (h : Like (.string s) v) : ∃ t, v = .string t := by
  rcases h with rfl | ⟨_, b, h, _⟩ | ⟨_, t, _, rfl⟩
  · exact ⟨s, rfl⟩
  · cases h
  · exact ⟨t, rfl⟩
structure Sim (lo hi : Nat) (w w' : World) : Prop where
  os : w'.os = w.os
  tape : w'.tape = w.tape
  output : w'.output = w.output
  size : w.heap.size ≤ w'.heap.size
  out : ∀ k, k < w.heap.size → (k < lo ∨ hi ≤ k) → w'.heap[k]? = w.heap[k]?
  mid : ∀ (k : Nat) (cur : Array Value) (e : TypeId) (fz : Nat × Nat), lo ≤ k → k < hi → w.heap[k]? = some (.cells cur e fz) → ∃ cur', w'.heap[k]? = some (.cells cur' e fz) ∧ cur'.size = cur.size ∧ ∀ (p : Nat) (u : Value), cur[p]? = some u → ∃ v, cur'[p]? = some v ∧ Like u v
section
variable {lo hi : Nat} {w w' w'' : World}
theorem Sim.refl (lo hi : Nat) (w : World) : Sim lo hi w w := ⟨rfl, rfl, rfl, Nat.le_refl _, fun _ _ _ => rfl, fun k cur e fz _ _ h => ⟨cur, h, rfl, fun p u hu => ⟨u, hu, .inl rfl⟩⟩⟩
theorem Sim.below (h : Sim lo hi w w') (hl : lo ≤ w.heap.size) : Below lo w w' := ⟨h.os, h.tape, h.output, h.size, fun k hk => h.out k (Nat.lt_of_lt_of_le hk hl) (.inl hk)⟩
theorem Sim.keep (h : Sim lo hi w w') : Keep hi w w' := ⟨h.size, fun k hk hl => h.out k hl (.inr hk)⟩
/-- what comes behind leaves all that lay as it was -/
theorem Sim.more (h : Sim lo hi w w') (hb : Below w'.heap.size w' w'') (hh : hi ≤ w.heap.size) : Sim lo hi w w'' :=
  ⟨hb.os.trans h.os, hb.tape.trans h.tape, hb.output.trans h.output, Nat.le_trans h.size hb.size, fun k hk ho => (hb.block k (Nat.lt_of_lt_of_le hk h.size)).trans (h.out k hk ho), fun k cur e fz h1 h2 h3 => by
    obtain ⟨cur', k1, k2, k3⟩ := h.mid k cur e fz h1 h2 h3
    exact ⟨cur', (hb.block k (by have := h.size; omega)).trans k1, k2, k3⟩⟩
theorem Sim.drew (h : Sim lo hi w w') : Sim lo hi w w'.drew := ⟨h.os, h.tape, h.output, h.size, h.out, h.mid⟩
theorem Sim.of_alloc {o : Obj} (h : Sim lo hi (w.alloc o) w') (hh : hi ≤ w.heap.size) : Sim lo hi w w' :=
  ⟨h.os, h.tape, h.output, Nat.le_trans (by simp) h.size, fun k hk ho => (h.out k (by simp; omega) ho).trans (Below.heap_alloc w o k hk), fun k cur e fz h1 h2 h3 => h.mid k cur e fz h1 h2 ((Below.heap_alloc w o k (by omega)).trans h3)⟩
theorem Sim.box (h : Sim lo hi w w') {g : Nat} {cs : List Value} {T : TypeId} (hx : Bx w g cs T) (hg : hi ≤ g) : Bx w' g cs T := (h.out g hx.lt (.inr hg)).trans hx
/-- a cell of a row of a copy: it holds what is like it, and may be written -/
theorem sim_cell {wc wr : World} {α : Type} {f : α → List Value} {e : TypeId} {k n c i : Nat} {A : Option Addr} {L : List α} {x : α} (hk : ∀ x, (f x).length = k) (h : wc.ownsRow lo e k (.slice A n c) n (L.flatMap f)) (hb : Below wc.heap.size wc w)
    (hs : Sim lo wc.heap.size w wr) (hx : L[i]? = some x) (h0 : 0 < k) :
    ∃ g, A = some ⟨g, 0, none⟩ ∧ lo ≤ g ∧ g < wc.heap.size ∧ ∀ j u, (f x)[j]? = some u →
      (∃ v, wr.cell? ⟨g, i * k + j, none⟩ = some v ∧ Like u v) ∧ wr.frozen? ⟨g, i * k + j, none⟩ = false ∧ ∀ v, Like u v → Sim lo wc.heap.size w (wr.setCell ⟨g, i * k + j, none⟩ v) := by
  have hi : i < L.length := (List.getElem?_eq_some_iff.1 hx).1
  have hn : L.length = n := own_len hk h0 h
  rcases h.2 with ⟨h2, h3⟩ | ⟨g, cap, cur, hv, hlo, hg, h1, h2, h3, h4⟩
  · omega
  · injection hv with hv hv1 hv2
    subst hv hv2
    have hgl : g < wc.heap.size := (Array.getElem?_eq_some_iff.1 hg).1
    have hgw : w.heap[g]? = some (.cells cur e (0, 0)) := (hb.block g hgl).trans hg
    refine ⟨g, rfl, hlo, hgl, fun j u hu => ?_⟩
    have hj : j < k := by have := (List.getElem?_eq_some_iff.1 hu).1; rwa [hk] at this
    have hp : cur[i * k + j]? = some u := by
      have e1 := congrArg (fun l => l[i * k + j]?) h4
      rw [List.getElem?_take, flatMap_at hk hx hj, hu] at e1
      split at e1
      · simpa using e1
      · cases e1
    obtain ⟨cur', k1, k2, k3⟩ := hs.mid g cur e (0, 0) hlo hgl hgw
    obtain ⟨v, hv, hl⟩ := k3 _ _ hp
    refine ⟨⟨v, ?_, hl⟩, by simp [World.frozen?, k1], fun v' hl' => ?_⟩
    · rw [cell_of_row wr g (i * k + j) cur' e (0, 0) k1, hv]
    · refine ⟨hs.os, hs.tape, hs.output, by simpa using hs.size, fun q hq ho => (Below.heap_setCell wr _ v' q (by rintro rfl; omega)).trans (hs.out q hq ho), fun q cq eq fq hq1 hq2 hq3 => ?_⟩
      obtain ⟨c2, m1, m2, m3⟩ := hs.mid q cq eq fq hq1 hq2 hq3
      by_cases hqg : q = g
      · subst hqg
        rw [hgw] at hq3
        injection hq3 with hq3
        injection hq3 with hq4 hq5 hq6
        subst hq4 hq5 hq6
        rw [k1] at m1
        injection m1 with m1
        injection m1 with m1
        subst m1
        refine ⟨cur'.setIfInBounds (i * k + j) v', by rw [setCell_eq_setRow wr q _ cur' e (0, 0) v' k1, setRow_heap _ _ _ _ _ _ k1], by simpa using m2, fun p u' hu' => ?_⟩
        by_cases hpp : p = i * k + j
        · subst hpp
          rw [hp] at hu'
          injection hu' with hu'
          subst hu'
          refine ⟨v', ?_, hl'⟩
          rw [Array.getElem?_setIfInBounds, if_pos rfl, if_pos]
          have := (Array.getElem?_eq_some_iff.1 hv).1
          exact this
        · obtain ⟨v2, n1, n2⟩ := m3 p u' hu'
          exact ⟨v2, by rw [Array.getElem?_setIfInBounds, if_neg (Ne.symm hpp)]; exact n1, n2⟩
      · exact ⟨c2, (Below.heap_setCell wr _ v' q hqg).trans m1, m2, m3⟩
end
/-- the same, where the row's block is known -/
theorem sim_at {lo : Nat} {w wc wr : World} {α : Type} {f : α → List Value} {e : TypeId} {k n c i g : Nat} {L : List α} {x : α} (hk : ∀ x, (f x).length = k) (h : wc.ownsRow lo e k (.slice (some ⟨g, 0, none⟩) n c) n (L.flatMap f)) (hb : Below wc.heap.size wc w)
    (hs : Sim lo wc.heap.size w wr) (hx : L[i]? = some x) (h0 : 0 < k) : lo ≤ g ∧ g < wc.heap.size ∧ ∀ j u, (f x)[j]? = some u →
      (∃ v, wr.cell? ⟨g, i * k + j, none⟩ = some v ∧ Like u v) ∧ wr.frozen? ⟨g, i * k + j, none⟩ = false ∧ ∀ v, Like u v → Sim lo wc.heap.size w (wr.setCell ⟨g, i * k + j, none⟩ v) := by
  obtain ⟨g', hA, h1, h2, h3⟩ := sim_cell hk h hb hs hx h0
  injection hA with hA
  injection hA with hA
  subst hA
  exact ⟨h1, h2, h3⟩
theorem wrap_R (z : Int) : IntR (IntKind.i64.wrap z) := by
  simp [IntR, IntKind.wrap, IntKind.bits, IntKind.signed]
  omega
theorem like_int (a z : Int) : Like (.int .i64 a) (.int .i64 (IntKind.i64.wrap z)) := .inr (.inl ⟨_, _, rfl, rfl, wrap_R z⟩)
theorem like_int64 (a z : Int) : Like (.int .i64 a) (.int .i64 (wrap64 z)) := by
  have e : wrap64 z = IntKind.i64.wrap z := by
    unfold wrap64
    exact (IntKind.wrap_i64 z).symm
  rw [e]
  exact like_int a z
end Go.Proofs.YtbdimnncobpfdaaGreat
