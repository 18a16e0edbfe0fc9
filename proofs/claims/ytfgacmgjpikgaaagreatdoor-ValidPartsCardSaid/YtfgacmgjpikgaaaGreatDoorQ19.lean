/- Part 20 of the contracts and their mathematics. -/
import Derived.Test.YtfgacmgjpikgaaaGreatDoorQ14
import Derived.Test.YtfgacmgjpikgaaaGreatDoorQ18
set_option linter.unusedVariables false
set_option linter.unusedSimpArgs false
namespace Go.Proofs.YtfgacmgjpikgaaaGreatDoor
open Go.RowKit
def opRows : List (List Int) := [[2, 0, 2, 2], [2, 1, 1, 1], [3, 0, 2, 2], [3, 1, 2, 2], [3, 2, 2, 2], [3, 3, 2, 1], [3, 4, 2, 1], [3, 5, 1, 1]]
def opCells : List Value := opRows.flatten.map fun k => .int .i64 k
def OpsT (w : World) : Prop := ∀ (j : Nat) (u : Value), opCells[j]? = some u → w.cell? ⟨0, j, none⟩ = some u
theorem OpsT.lt {w : World} (h : OpsT w) : 0 < w.heap.size := by
 have h1 := h 0 (.int .i64 2) rfl
 apply Nat.pos_of_ne_zero
 intro e
 have h2 : w.heap[0]? = none := Array.getElem?_eq_none (by omega)
 simp [World.cell?, h2] at h1
theorem OpsT.keep {w w' : World} (h : OpsT w) (hb : w'.heap[0]? = w.heap[0]?) : OpsT w' := fun j u hu => (World.cell?_of_block (w := w) (a := ⟨0, j, none⟩) hb).trans (h j u hu)
theorem OpsT.up {w w' : World} (h : OpsT w) (hb : Below w.heap.size w w') : OpsT w' := h.keep (hb.block 0 h.lt)
def MapI (b N : Nat) (f : Int → Bool) (w : World) : Prop := ∃ m Dm, w.ownsMap (H := Unit) Tryz.prog 3 (plainElem Tryz.prog 4) b m Dm ∧
 ∀ q, IntR q → Maps.has Dm (.int .i64 q) = true → 0 ≤ q ∧ q < (N : Int) ∧ ∀ z, Dm.atKey (.int .i64 q) z = .lit (.bool (f q))
def MapP (b N : Nat) (f : Int → Int → Bool) (w : World) : Prop := ∃ (M : List Pr) (m : Nat) (Dm : DataW Unit), w.ownsMap (H := Unit) Tryz.prog 99 (plainElem Tryz.prog 4) b m Dm ∧ m ≤ M.length ∧ M.Nodup ∧
 (∀ p ∈ M, (0 ≤ p.1 ∧ p.1 < (N : Int)) ∧ 0 ≤ p.2 ∧ p.2 < (N : Int)) ∧ (∀ p, IntP p → (Maps.has Dm (keyP p) = true ↔ p ∈ M)) ∧ ∀ p ∈ M, ∀ z, Dm.atKey (keyP p) z = .lit (.bool (f p.1 p.2))
section
variable {b N : Nat} {w w' : World}
theorem MapI.block {f : Int → Bool} (h : MapI b N f w) (hb : w'.heap[b]? = w.heap[b]?) : MapI b N f w' := by
 obtain ⟨m, Dm, h1, h2⟩ := h
 exact ⟨m, Dm, owns_block h1 hb, h2⟩
theorem MapP.block {f : Int → Int → Bool} (h : MapP b N f w) (hb : w'.heap[b]? = w.heap[b]?) : MapP b N f w' := by
 obtain ⟨M, m, Dm, h1, h2⟩ := h
 exact ⟨M, m, Dm, owns_block h1 hb, h2⟩
theorem MapI.lt {f : Int → Bool} (h : MapI b N f w) : b < w.heap.size := by
 obtain ⟨m, Dm, h1, _⟩ := h
 exact owns_lt h1
theorem MapP.lt {f : Int → Int → Bool} (h : MapP b N f w) : b < w.heap.size := by
 obtain ⟨M, m, Dm, h1, _⟩ := h
 exact owns_lt h1
theorem owns_nocell {H : Type} {P : Program} {k : TypeId} {R : Value → Option (DataW H × List MemPlace)} {m : Nat} {D : DataW H} (h : w.ownsMap P k R b m D) (o : Nat) : w.cell? ⟨b, o, none⟩ = none := by
 obtain ⟨es, clock, h1, _⟩ := h
 simp [World.cell?, h1]
theorem MapI.nocell {f : Int → Bool} (h : MapI b N f w) (o : Nat) : w.cell? ⟨b, o, none⟩ = none := by
 obtain ⟨m, Dm, h1, _⟩ := h
 exact owns_nocell h1 o
theorem MapP.nocell {f : Int → Int → Bool} (h : MapP b N f w) (o : Nat) : w.cell? ⟨b, o, none⟩ = none := by
 obtain ⟨M, m, Dm, h1, _⟩ := h
 exact owns_nocell h1 o
end
theorem MapI.made (w : World) (N : Nat) (f : Int → Bool) : MapI w.heap.size N f (w.alloc (.map #[] 0)) :=
 ⟨0, .map [], World.ownsMap_made (H := Unit) w Tryz.prog 3 (plainElem Tryz.prog 4), fun q _ h => by simp [Maps.has] at h⟩
theorem MapP.made (w : World) (N : Nat) (f : Int → Int → Bool) : MapP w.heap.size N f (w.alloc (.map #[] 0)) :=
 ⟨[], 0, .map [], World.ownsMap_made (H := Unit) w Tryz.prog 99 (plainElem Tryz.prog 4), Nat.le_refl _, List.nodup_nil, (fun p hp => by cases hp), (fun p _ => by simp [Maps.has]), (fun p h => by cases h)⟩
def NoPtr (w w' : World) : Prop := w.heap.size ≤ w'.heap.size ∧ ∀ (b o : Nat) (v : Value), w.cell? ⟨b, o, none⟩ = some v → (∀ p, v ≠ .pointer p) → w'.cell? ⟨b, o, none⟩ = some v
theorem Rd.noptr {w w' : World} {B n : Nat} {A : Option Addr} {xs : List Value} (h : Rd w B A n xs) (hk : NoPtr w w') (hx : ∀ u ∈ xs, ∀ p, u ≠ .pointer p) : Rd w' B A n xs :=
 ⟨h.1, fun hn => by
  obtain ⟨b, o, e, hb, hc⟩ := h.2 hn
  exact ⟨b, o, e, hb, fun j u hu => hk.2 _ _ _ (hc j u hu) (hx u (List.mem_of_getElem? hu))⟩⟩
theorem Rel.noptr {w w' : World} {B r : Nat} {ps : List Pr} {rg : Int} (h : Rel w B r ps rg) (hk : NoPtr w w') : Rel w' B r ps rg := by
 obtain ⟨A1, nD, cD, D, A2, c2, L, h⟩ := h
 have hi : ∀ (xs : List Int), ∀ u ∈ i64s xs, ∀ p, u ≠ .pointer p := by
  intro xs u hu p e
  obtain ⟨x, _, rfl⟩ := List.mem_map.1 hu
  cases e
 exact ⟨A1, nD, cD, D, A2, c2, L, h.lt, hk.2 _ _ _ h.d0 (fun p e => by cases e), hk.2 _ _ _ h.d1 (fun p e => by cases e), hk.2 _ _ _ h.d2 (fun p e => by cases e), h.nc, h.nc2, h.dec.noptr hk (hi _),
  h.above.noptr hk (by
   intro u hu p e
   obtain ⟨x, _, rfl⟩ := List.mem_map.1 hu
   cases e), fun x hx => ⟨(h.rows x hx).1.noptr hk (hi _), (h.rows x hx).2⟩, h.rel, h.few, h.ok⟩
theorem NoPtr.of_block {w w' : World} {b : Nat} (hs : w.heap.size ≤ w'.heap.size) (hn : ∀ o, w.cell? ⟨b, o, none⟩ = none) (hk : ∀ k, k < w.heap.size → k ≠ b → w'.heap[k]? = w.heap[k]?) : NoPtr w w' :=
 ⟨hs, fun c o v hv _ => by
  have hc : c < w.heap.size := by
   apply Decidable.byContradiction
   intro hge
   have h2 : w.heap[c]? = none := Array.getElem?_eq_none (by omega)
   simp [World.cell?, h2] at hv
  have hne : c ≠ b := fun e => by subst e; rw [hn o] at hv; cases hv
  exact (World.cell?_of_block (w := w) (a := ⟨c, o, none⟩) (hk c hc hne)).trans hv⟩
theorem NoPtr.of_set {w : World} {b o : Nat} {p : Option Addr} (h : w.cell? ⟨b, o, none⟩ = some (.pointer p)) (q : Option Addr) : NoPtr w (w.setCell ⟨b, o, none⟩ (.pointer q)) :=
 ⟨by simp [World.setCell], fun c j v hv hp => by
  have hne : (⟨b, o, none⟩ : Addr) ≠ ⟨c, j, none⟩ := fun e => by rw [← e, h] at hv; injection hv with hv; exact hp _ hv.symm
  exact (World.cell?_setCell_other _ _ _ _ hne).trans hv⟩
structure CkW where
 B : Nat
 g : Nat
 m1 : Nat
 m2 : Nat
 m3 : Nat
 x : BdW
def CkW.S (K : CkW) : Nat → Prop := fun k => k = K.g ∨ k = K.m1 ∨ k = K.m2 ∨ k = K.m3
abbrev CkW.E (K : CkW) : Env := wE K.x
abbrev CkW.ptr (K : CkW) : Value := .pointer (some ⟨K.g, 0, none⟩)
def RelC (K : CkW) (w : World) : Prop := w.cell? ⟨K.g, 7, none⟩ = some (.pointer none) ∨ ∃ r, w.cell? ⟨K.g, 7, none⟩ = some (.pointer (some ⟨r, 0, none⟩)) ∧ Rel w w.heap.size r K.x.outl.L ((K.x.regions.L.length : Nat) : Int)
structure Ck (K : CkW) (w : World) : Prop where
 b0 : 0 < K.B
 hB : K.B ≤ K.g ∧ K.B ≤ K.m1 ∧ K.B ≤ K.m2 ∧ K.B ≤ K.m3
 lt : K.g < w.heap.size
 one : OneBd w K.B K.x
 ok : DeOk K.x.v
 few : K.x.types.n ≤ 1000
 cells : ∀ (j : Nat) (u : Value), (cBd K.x)[j]? = some u → w.cell? ⟨K.g, j, none⟩ = some u
 c8 : w.cell? ⟨K.g, 8, none⟩ = some (.map (some K.m1))
 c9 : w.cell? ⟨K.g, 9, none⟩ = some (.map (some K.m2))
 c10 : w.cell? ⟨K.g, 10, none⟩ = some (.map (some K.m3))
 fr : ∀ j, w.frozen? ⟨K.g, j, none⟩ = false
 rel : RelC K w
 cop : MapI K.m1 K.x.types.n (fun t => tyCop (tys K.x.types.L) t) w
 subt : MapP K.m2 K.x.types.n (fun s t => sub (out K.x.outl.L ((K.x.regions.L.length : Nat) : Int)) (tys K.x.types.L) s t) w
 outl : MapP K.m3 K.x.regions.n (fun a b => out K.x.outl.L ((K.x.regions.L.length : Nat) : Int) a b) w
 m12 : K.m1 ≠ K.m2
 m13 : K.m1 ≠ K.m3
 m23 : K.m2 ≠ K.m3
 tab : OpsT w
theorem Ck.vb {K : CkW} {w : World} (h : Ck K w) : VB w K.x := ⟨h.one.more (Nat.le_trans h.hB.1 (Nat.le_of_lt h.lt)), h.ok⟩
theorem Ck.bs {K : CkW} {w : World} (h : Ck K w) : K.B ≤ w.heap.size := Nat.le_trans h.hB.1 (Nat.le_of_lt h.lt)
theorem Ck.g1 {K : CkW} {w : World} (h : Ck K w) : K.g ≠ K.m1 := fun e => by have := h.cop.nocell 8; rw [← e, h.c8] at this; cases this
theorem Ck.g2 {K : CkW} {w : World} (h : Ck K w) : K.g ≠ K.m2 := fun e => by have := h.subt.nocell 8; rw [← e, h.c8] at this; cases this
theorem Ck.g3 {K : CkW} {w : World} (h : Ck K w) : K.g ≠ K.m3 := fun e => by have := h.outl.nocell 8; rw [← e, h.c8] at this; cases this
theorem Ck.sLt {K : CkW} {w : World} (h : Ck K w) : ∀ k, K.S k → k < w.heap.size := by
 rintro k (rfl | rfl | rfl | rfl)
 ·
  exact h.lt
 ·
  exact h.cop.lt
 ·
  exact h.subt.lt
 ·
  exact h.outl.lt
theorem Ck.sB {K : CkW} {w : World} (h : Ck K w) : ∀ k, K.S k → K.B ≤ k := by
 rintro k (rfl | rfl | rfl | rfl)
 ·
  exact h.hB.1
 ·
  exact h.hB.2.1
 ·
  exact h.hB.2.2.1
 ·
  exact h.hB.2.2.2
theorem Ck.up {K : CkW} {w w' : World} (h : Ck K w) (hb : Below w.heap.size w w') : Ck K w' :=
 ⟨h.b0, h.hB, Nat.lt_of_lt_of_le h.lt hb.size, h.one.below (hb.mono h.bs), h.ok, h.few, fun j u hu => (hb.cell (p := ⟨K.g, j, none⟩) h.lt).trans (h.cells j u hu),
  (hb.cell (p := ⟨K.g, 8, none⟩) h.lt).trans h.c8, (hb.cell (p := ⟨K.g, 9, none⟩) h.lt).trans h.c9, (hb.cell (p := ⟨K.g, 10, none⟩) h.lt).trans h.c10,
  fun j => (hb.frozen (p := ⟨K.g, j, none⟩) h.lt).trans (h.fr j), (by
   rcases h.rel with e | ⟨r, e, hr⟩
   ·
    exact .inl ((hb.cell (p := ⟨K.g, 7, none⟩) h.lt).trans e)
   ·
    exact .inr ⟨r, (hb.cell (p := ⟨K.g, 7, none⟩) h.lt).trans e, (hr.below hb).more hb.size⟩),
  h.cop.block (hb.block _ h.cop.lt), h.subt.block (hb.block _ h.subt.lt), h.outl.block (hb.block _ h.outl.lt), h.m12, h.m13, h.m23, h.tab.up hb⟩
theorem Ck.map {K : CkW} {w w' : World} (h : Ck K w) {m : Nat} (hm : m = K.m1 ∨ m = K.m2 ∨ m = K.m3) (hg : w.grownBy w' (some m))
  (h1 : m = K.m1 → MapI K.m1 K.x.types.n (fun t => tyCop (tys K.x.types.L) t) w')
  (h2 : m = K.m2 → MapP K.m2 K.x.types.n (fun s t => sub (out K.x.outl.L ((K.x.regions.L.length : Nat) : Int)) (tys K.x.types.L) s t) w')
  (h3 : m = K.m3 → MapP K.m3 K.x.regions.n (fun a b => out K.x.outl.L ((K.x.regions.L.length : Nat) : Int) a b) w') : Ck K w' := by
 have hgm : K.g ≠ m := by rcases hm with rfl | rfl | rfl; exact h.g1; exact h.g2; exact h.g3
 have hBm : K.B ≤ m := by rcases hm with rfl | rfl | rfl; exact h.hB.2.1; exact h.hB.2.2.1; exact h.hB.2.2.2
 have hno : ∀ o, w.cell? ⟨m, o, none⟩ = none := by rcases hm with rfl | rfl | rfl; exact h.cop.nocell; exact h.subt.nocell; exact h.outl.nocell
 have hk : ∀ k, k < w.heap.size → k ≠ m → w'.heap[k]? = w.heap[k]? := fun k hk hn => hg.block k hk (fun e => hn (by injection e))
 have hc : ∀ j, w'.cell? ⟨K.g, j, none⟩ = w.cell? ⟨K.g, j, none⟩ := fun j => World.cell?_of_block (w := w) (a := ⟨K.g, j, none⟩) (hk _ h.lt hgm)
 have hf : ∀ j, w'.frozen? ⟨K.g, j, none⟩ = w.frozen? ⟨K.g, j, none⟩ := fun j => World.frozen?_of_block (w := w) (a := ⟨K.g, j, none⟩) (hk _ h.lt hgm)
 have hbl : Below K.B w w' := (Below.refl K.B w).grown hg h.bs (fun k e => by injection e with e; omega)
 have hnp : NoPtr w w' := NoPtr.of_block hg.size hno hk
 refine ⟨h.b0, h.hB, Nat.lt_of_lt_of_le h.lt hg.size, h.one.below hbl, h.ok, h.few, fun j u hu => (hc j).trans (h.cells j u hu), (hc 8).trans h.c8, (hc 9).trans h.c9, (hc 10).trans h.c10, fun j => (hf j).trans (h.fr j), ?_, ?_, ?_, ?_, h.m12, h.m13, h.m23, h.tab.keep (hk 0 h.tab.lt (by have := h.b0; omega))⟩
 ·
  rcases h.rel with e | ⟨r, e, hr⟩
  ·
   exact .inl ((hc 7).trans e)
  ·
   exact .inr ⟨r, (hc 7).trans e, (hr.noptr hnp).more hg.size⟩
 ·
  by_cases e : m = K.m1
  ·
   exact h1 e
  ·
   exact h.cop.block (hk _ h.cop.lt (fun e' => e e'.symm))
 ·
  by_cases e : m = K.m2
  ·
   exact h2 e
  ·
   exact h.subt.block (hk _ h.subt.lt (fun e' => e e'.symm))
 ·
  by_cases e : m = K.m3
  ·
   exact h3 e
  ·
   exact h.outl.block (hk _ h.outl.lt (fun e' => e e'.symm))
theorem Ck.stored {K : CkW} {w : World} (h : Ck K w) {r : Nat} (hr : Rel w w.heap.size r K.x.outl.L ((K.x.regions.L.length : Nat) : Int)) : Ck K (w.setCell ⟨K.g, 7, none⟩ (.pointer (some ⟨r, 0, none⟩))) := by
 obtain ⟨p, hp⟩ : ∃ p, w.cell? ⟨K.g, 7, none⟩ = some (.pointer p) := by
  rcases h.rel with e | ⟨r, e, _⟩
  ·
   exact ⟨_, e⟩
  ·
   exact ⟨_, e⟩
 have hs : (w.setCell ⟨K.g, 7, none⟩ (.pointer (some ⟨r, 0, none⟩))).heap.size = w.heap.size := by simp [World.setCell]
 have hk : ∀ k, k ≠ K.g → (w.setCell ⟨K.g, 7, none⟩ (.pointer (some ⟨r, 0, none⟩))).heap[k]? = w.heap[k]? := fun k hk => Below.heap_setCell w _ _ k hk
 have ho : ∀ (b j : Nat) (u : Value), (⟨K.g, 7, none⟩ : Addr) ≠ ⟨b, j, none⟩ → w.cell? ⟨b, j, none⟩ = some u → (w.setCell ⟨K.g, 7, none⟩ (.pointer (some ⟨r, 0, none⟩))).cell? ⟨b, j, none⟩ = some u := fun b j u hn hu => (World.cell?_setCell_other _ _ _ _ hn).trans hu
 refine ⟨h.b0, h.hB, hs.symm ▸ h.lt, h.one.below ((Below.refl K.B w).setCell (p := ⟨K.g, 7, none⟩) h.hB.1 _), h.ok, h.few, fun j u hu => ho _ _ _ (fun e => ?_) (h.cells j u hu), ho _ _ _ (fun e => by injection e with _ e; cases e) h.c8, ho _ _ _ (fun e => by injection e with _ e; cases e) h.c9, ho _ _ _ (fun e => by injection e with _ e; cases e) h.c10, fun j => (World.frozen?_setCell _ _ _ _).trans (h.fr j), .inr ⟨r, World.cell?_setCell_same _ _ _ hp, ?_⟩, h.cop.block (hk _ (Ne.symm h.g1)), h.subt.block (hk _ (Ne.symm h.g2)), h.outl.block (hk _ (Ne.symm h.g3)), h.m12, h.m13, h.m23, h.tab.keep (hk 0 (by have := h.b0; have := h.hB.1; omega))⟩
 ·
  injection e with _ e
  have hj : j < (cBd K.x).length := (List.getElem?_eq_some_iff.1 hu).1
  rw [cBd_len] at hj
  omega
 ·
  rw [hs]
  exact hr.noptr (NoPtr.of_set hp _)
structure Wy (K : CkW) (w w' : World) : Prop where
 turn : Turn K.S w w'
 ck : Ck K w'
theorem Wy.refl {K : CkW} {w : World} (h : Ck K w) : Wy K w w := ⟨Turn.refl _ _, h⟩
theorem Wy.trans {K : CkW} {w w' w'' : World} (h : Wy K w w') (k : Wy K w' w'') : Wy K w w'' := ⟨h.turn.trans k.turn, k.ck⟩
theorem Wy.up {K : CkW} {w w' w'' : World} (h : Wy K w w') (hb : Below w'.heap.size w' w'') : Wy K w w'' := ⟨h.turn.trans (Turn.of_below hb), h.ck.up hb⟩
theorem Wy.new {K : CkW} {w w' : World} (h : Ck K w) (hb : Below w.heap.size w w') : Wy K w w' := ⟨Turn.of_below hb, h.up hb⟩
theorem Wy.low {K : CkW} {w w' : World} (h0 : Ck K w) (h : Wy K w w') : Below K.B w w' := h.turn.below h0.bs h0.sB
theorem Wy.box {K : CkW} {w w' : World} {cs : List Value} {T : TypeId} (h0 : Ck K w) (h : Wy K (w.alloc (.cells cs.toArray T)) w') : ∀ (j : Nat) (u : Value), cs[j]? = some u → w'.cell? ⟨w.heap.size, j, none⟩ = some u := fun j u hu =>
 (h.turn.cell (p := ⟨w.heap.size, j, none⟩) (by simp) (fun hs => Nat.lt_irrefl _ (h0.sLt _ hs))).trans ((cell_of_heap (heap_alloc_new w _) j).trans (by rw [List.getElem?_toArray]; exact hu))
theorem Wy.drew {K : CkW} {w w' : World} (h : Wy K w w') : Wy K w w'.drew := ⟨h.turn.drew, h.ck.up (Below.refl _ _).drew⟩
end Go.Proofs.YtfgacmgjpikgaaaGreatDoor
