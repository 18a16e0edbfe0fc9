/- What container.collect makes of sections. -/
import Derived.Test.YtgfeimlieibjhaaContC
set_option linter.unusedVariables false
namespace Go.Proofs.Ytgfeimlieibjhaa
open Go.RowKit Go.Shelf
attribute [local go_sem] Oper.semAt_some

/-! ### what is no cells turns -/
theorem Dat.own {W W' : World} {lo : Nat} {row no : Option Nat} {x : SecW} (h : Dat W lo no x) (hg : W.grownBy W' row) (hr : ∀ r, row = some r → ∃ o : Obj, W.heap[r]? = some o ∧ o.isCells = false) : Dat W' lo no x := ⟨h.1, fun hn => by
  obtain ⟨b, o, h1, h0, h2, h3, h4⟩ := h.2 hn
  exact ⟨b, o, h1, h0, Nat.lt_of_lt_of_le h2 hg.size, h3, fun j u hu => cell_kept (h4 j u hu) hg hr⟩⟩
theorem row_own {W W' : World} {row : Option Nat} {base k n : Nat} {e : TypeId} {v : Value} {xs : List Value} (h : W.ownsRow base e k v n xs) (hg : W.grownBy W' row) (hr : ∀ r, row = some r → ∃ o : Obj, W.heap[r]? = some o ∧ o.isCells = false) : W'.ownsRow base e k v n xs := by
  refine h.kept hg ?_
  rcases h.2 with ⟨rfl, _⟩ | ⟨g, cap, cur, rfl, _, hgg, _⟩
  · exact .inl rfl
  · refine .inr fun e' => ?_
    obtain ⟨o, ho, hc⟩ := hr g (by rw [← e']; rfl)
    rw [hgg] at ho
    injection ho with ho
    subst ho
    cases hc
theorem block_own {W W' : World} {row : Option Nat} {B : Nat} {cs : Array Value} {t : TypeId} {fr : Nat × Nat} (h : W.heap[B]? = some (.cells cs t fr)) (hg : W.grownBy W' row) (hr : ∀ r, row = some r → ∃ o : Obj, W.heap[r]? = some o ∧ o.isCells = false) : W'.heap[B]? = some (.cells cs t fr) :=
  (hg.block B (Array.getElem?_eq_some_iff.1 h).1 (fun e' => by
    obtain ⟨o, ho, hc⟩ := hr B e'.symm
    rw [h] at ho
    injection ho with ho
    subst ho
    cases hc)).trans h

/-- the sections collected so far -/
def Coll (W : World) (base : Nat) (v : Value) (S : List Sec) : Prop := ∃ L : List SecW, W.ownsRow base 56 2 v L.length (L.flatMap c2) ∧ (∀ y ∈ L, Dat W base v.ownBlock y) ∧ vals L = S
theorem Coll.own {W W' : World} {row : Option Nat} {base : Nat} {v : Value} {S : List Sec} (h : Coll W base v S) (hg : W.grownBy W' row) (hr : ∀ r, row = some r → ∃ o : Obj, W.heap[r]? = some o ∧ o.isCells = false) : Coll W' base v S := by
  obtain ⟨L, h2, h3, h4⟩ := h
  exact ⟨L, row_own h2 hg hr, fun y hy => (h3 y hy).own hg hr, h4⟩
theorem Coll.below {W W' : World} {base : Nat} {v : Value} {S : List Sec} (h : Coll W base v S) (hb : Below W.heap.size W W') : Coll W' base v S := by
  obtain ⟨L, h2, h3, h4⟩ := h
  exact ⟨L, ownsRow_below h2 hb, fun y hy => (h3 y hy).below hb, h4⟩
theorem keepsFrom_below {B : Nat} {W W' : World} (hb : Below W.heap.size W W') : KeepsFrom B W W' := ⟨hb.size, fun k o _ hk _ => (hb.block k (Array.getElem?_eq_some_iff.1 hk).1).trans hk⟩
theorem keepsFrom_row {B : Nat} {W W' : World} {base k n : Nat} {e : TypeId} {v : Value} {xs : List Value} (hg : W.grownBy W' v.ownBlock) (hown : W.ownsRow base e k v n xs) : KeepsFrom B W W' := ⟨hg.size, fun q o _ hq ho => (hg.block q (Array.getElem?_eq_some_iff.1 hq).1 (fun he => by
  rcases hown.2 with ⟨rfl, _⟩ | ⟨g, cap, cur, rfl, _, hgg, _⟩
  · cases he
  · have : q = g := by simpa [Value.ownBlock] using he
    subst this
    rw [hq] at hgg
    injection hgg with hgg
    subst hgg
    cases ho)).trans hq⟩
theorem ne_row {W : World} {B base k n : Nat} {t e : TypeId} {cs : Array Value} {fr : Nat × Nat} {v : Value} {xs : List Value} (h : W.heap[B]? = some (.cells cs t fr)) (hown : W.ownsRow base e k v n xs) (ht : t ≠ e) : some B ≠ v.ownBlock := by
  rcases hown.2 with ⟨rfl, _⟩ | ⟨g, cap, cur, rfl, _, hgg, _⟩
  · simp [Value.ownBlock]
  · intro he
    have : B = g := by simpa [Value.ownBlock] using he
    subst this
    rw [h] at hgg
    injection hgg with hgg
    injection hgg with _ hgg _
    exact ht hgg
theorem boxed_row {W W' : World} {B base k n : Nat} {t e : TypeId} {u v : Value} {xs : List Value} (h : Boxed W B t u) (hg : W.grownBy W' v.ownBlock) (hown : W.ownsRow base e k v n xs) (ht : t ≠ e) : Boxed W' B t u :=
  h.kept hg (h.not_row ht hown)
theorem boxed_below {W W' : World} {B : Nat} {t : TypeId} {u : Value} (h : Boxed W B t u) (hb : Below W.heap.size W W') : Boxed W' B t u := (hb.block B h.lt).trans h
theorem coll_up {W w5 : World} {base B : Nat} {v v5 : Value} {L : List SecW} {S : List Sec} {y : SecW} (hown : W.ownsRow base 56 2 v L.length (L.flatMap c2)) (hd : ∀ x ∈ L, Dat W base v.ownBlock x) (hv : vals L = S) (hy : Dat W base v.ownBlock y)
    (hown5 : w5.ownsRow base 56 2 v5 (L.length + 1) (L.flatMap c2 ++ c2 y)) (hg : W.grownBy w5 v.ownBlock) (hat : v5.ownBlock = v.ownBlock ∨ v5.ownBlock = some W.heap.size) (hB : B < base) : Coll (w5.setCell ⟨B, 0, none⟩ v5) base v5 (S ++ [y.v]) := by
  refine ⟨L ++ [y], ?_, fun x hx => ?_, by rw [← hv]; simp⟩
  · have := ownsRow_setCell_below hown5 (a := ⟨B, 0, none⟩) hB v5
    simpa using this
  · refine Dat.setCell ?_ hB _
    rcases List.mem_append.1 hx with hx | hx
    · exact (hd x hx).grown hg hat
    · obtain rfl : x = y := by simpa using hx
      exact hy.grown hg hat
theorem Coll.setCell {W : World} {base : Nat} {v : Value} {S : List Sec} (h : Coll W base v S) {a : Addr} (ha : a.block < base) (u : Value) : Coll (W.setCell a u) base v S := by
  obtain ⟨L, h2, h3, h4⟩ := h
  exact ⟨L, ownsRow_setCell_below h2 ha u, fun y hy => (h3 y hy).setCell ha u, h4⟩
theorem Coll.lower {W : World} {base base' : Nat} {v : Value} {S : List Sec} (h : Coll W base v S) (hb : base' ≤ base) : Coll W base' v S := by
  obtain ⟨L, h2, h3, h4⟩ := h
  refine ⟨L, ownsRow_base h2 hb, fun y hy => ⟨(h3 y hy).1, fun hn => ?_⟩, h4⟩
  obtain ⟨b, o, k1, k2, k3⟩ := (h3 y hy).2 hn
  exact ⟨b, o, k1, by omega, k3⟩
theorem Coll.form {W : World} {base : Nat} {v : Value} {S : List Sec} (h : Coll W base v S) : ∃ A n c, v = .slice A n c ∧ Hid (n = S.length) ∧ n ≤ c ∧ c ≤ maxLen := by
  obtain ⟨L, h2, h3, h4⟩ := h
  have hl : L.length = S.length := by rw [← h4, List.length_map]
  rcases h2.2 with ⟨rfl, h0⟩ | ⟨g, cap, cur, rfl, _, _, h5, h6, _⟩
  · exact ⟨_, _, _, rfl, (show _ = _ by omega), Nat.le_refl _, Nat.zero_le _⟩
  · exact ⟨_, _, _, rfl, hl, h5, h6⟩
theorem infoSec : (Try.prog.info? 56).map (fun i => (i.zero, i.size, i.bytes)) = some (some (.agg #[.int .i64 0, .slice none 0 0]), 2, 32) := by kernel_rfl

/-- the loop has been left at an error -/
def LeftBy {n : Nat} (R : World → Fr → Prop) (pre : List (FrX n)) (W : World) : Prop := ∃ (q : List (FrX n)) (x : FrX n), pre = q ++ [x] ∧ (∀ y ∈ q, y.1.e = 0) ∧ x.1.e ≠ 0 ∧ R W x.1

set_option maxRecDepth 100000 in
set_option maxHeartbeats 4000000 in
theorem collect1_in (Bx : Nat) (A : Option Addr) (nn c : Nat) (xs : List Int) (w : World) (hBx : w.cell? ⟨Bx, 0, none⟩ = some (.slice A nn c)) (hr : Rd w w.heap.size A nn (u8s xs)) (hx : Byt xs) (hnc : nn ≤ c) (hcm : c ≤ maxLen) (hle : nn ≤ 1000000) :
    CallsIn Fence.wide 9 Try.prog 25 #[.slice A nn c, .func (.func 26) #[] #[.pointer (some ⟨Bx, 0, none⟩)]] w fun e W' =>
      ∃ v, e = .returned (.tuple #[v, .int .i64 (rdE xs)]) ∧ Coll W' w.heap.size v (rdL xs) ∧ Below w.heap.size w W' := by
  refine callsIn_of_wp_marks Try.func25 rfl trivial ?_ rfl
  simp only [Try.ntmps25, List.size_toArray, List.length_cons, List.length_nil, Nat.reduceAdd, Nat.reduceSub, Array.replicate_succ, Array.replicate_zero, List.push_toArray, List.append_toArray, List.nil_append, List.cons_append]
  gi_wp2_with (refine ⟨trivial, ?_⟩; gi_at_call 39; refine (frames_in _ _ _ _ _).mono ?_; rintro e w' ⟨rfl, rfl⟩)
  obtain ⟨i0, hi, hz0, hz1, hz2⟩ := info_parts infoSec
  have bP := ((((Boxed.new w 64 (.func (.func 26) #[] #[.pointer (some ⟨Bx, 0, none⟩)])).alloc (.cells #[.slice none 0 0] 25)).alloc (.cells #[.int .i64 0] 30)).alloc (.cells #[.slice none 0 0] 25)).alloc (.cells #[.slice A nn c] 29)
  have bR := (((Boxed.new (w.alloc (.cells #[.func (.func 26) #[] #[.pointer (some ⟨Bx, 0, none⟩)]] 64)) 25 (.slice none 0 0)).alloc (.cells #[.int .i64 0] 30)).alloc (.cells #[.slice none 0 0] 25)).alloc (.cells #[.slice A nn c] 29)
  have bE := ((Boxed.new ((w.alloc (.cells #[.func (.func 26) #[] #[.pointer (some ⟨Bx, 0, none⟩)]] 64)).alloc (.cells #[.slice none 0 0] 25)) 30 (.int .i64 0)).alloc (.cells #[.slice none 0 0] 25)).alloc (.cells #[.slice A nn c] 29)
  have bA := (Boxed.new (((w.alloc (.cells #[.func (.func 26) #[] #[.pointer (some ⟨Bx, 0, none⟩)]] 64)).alloc (.cells #[.slice none 0 0] 25)).alloc (.cells #[.int .i64 0] 30)) 25 (.slice none 0 0)).alloc (.cells #[.slice A nn c] 29)
  have bF := Boxed.new ((((w.alloc (.cells #[.func (.func 26) #[] #[.pointer (some ⟨Bx, 0, none⟩)]] 64)).alloc (.cells #[.slice none 0 0] 25)).alloc (.cells #[.int .i64 0] 30)).alloc (.cells #[.slice none 0 0] 25)) 29 (.slice A nn c)
  simp only [World.size_alloc] at bR bE bA bF
  have hB0 : Below w.heap.size w (((((w.alloc (.cells #[.func (.func 26) #[] #[.pointer (some ⟨Bx, 0, none⟩)]] 64)).alloc (.cells #[.slice none 0 0] 25)).alloc (.cells #[.int .i64 0] 30)).alloc (.cells #[.slice none 0 0] 25)).alloc (.cells #[.slice A nn c] 29)) :=
    (((((Below.refl _ w).alloc (Nat.le_refl _) _).alloc (by simp) _).alloc (by simp; omega) _).alloc (by simp; omega) _).alloc (by simp; omega) _
  have hsz : (((((w.alloc (.cells #[.func (.func 26) #[] #[.pointer (some ⟨Bx, 0, none⟩)]] 64)).alloc (.cells #[.slice none 0 0] 25)).alloc (.cells #[.int .i64 0] 30)).alloc (.cells #[.slice none 0 0] 25)).alloc (.cells #[.slice A nn c] 29)).heap.size = w.heap.size + 5 := by simp
  obtain ⟨W0, hW0⟩ : ∃ W0, ((((w.alloc (.cells #[.func (.func 26) #[] #[.pointer (some ⟨Bx, 0, none⟩)]] 64)).alloc (.cells #[.slice none 0 0] 25)).alloc (.cells #[.int .i64 0] 30)).alloc (.cells #[.slice none 0 0] 25)).alloc (.cells #[.slice A nn c] 29) = W0 := ⟨_, rfl⟩
  rw [hW0] at bP bR bE bA bF hB0 hsz ⊢
  clear hW0
  have hlen := hide (yall_len xs)
  have hxl : xs.length = nn := by simpa using hr.1
  have hBxl := World.block_lt_of_cell? w _ hBx
  refine wpIn_rangeFunc_ownH rfl (by omega) (gf := 45) (lb := #[.pointer (some ⟨w.heap.size + 1 + 1 + 1 + 1, 0, none⟩)]) rfl trivial (enters_of Try.func45 (by kernel_rfl) rfl)
    (frames_stops _ (by omega) (w.heap.size + 1 + 1 + 1 + 1) w.heap.size A nn c xs W0 hx hnc hcm hle bF (hr.below hB0) (by omega)) keepT_t (keepT_b (by omega)) (Below.refl _ _) (fun _ => rfl)
    (fun pre W => ((∀ x ∈ pre, x.1.e = 0) ∧ w.heap.size + 5 ≤ W.heap.size ∧ Boxed W w.heap.size 64 (.func (.func 26) #[] #[.pointer (some ⟨Bx, 0, none⟩)]) ∧ Boxed W (w.heap.size + 1) 25 (.slice none 0 0) ∧ Boxed W (w.heap.size + 1 + 1) 30 (.int .i64 0) ∧
      ∃ v, Boxed W (w.heap.size + 1 + 1 + 1) 25 v ∧ Coll W (w.heap.size + 5) v (pre.map fun x => (x.1.id, dat xs x.1))) ∧ Below w.heap.size w W)
    (fun cd pre W => (cd = .ret ∧ LeftBy (fun W f => Boxed W (w.heap.size + 1) 25 (.slice none 0 0) ∧ Boxed W (w.heap.size + 1 + 1) 30 (.int .i64 f.e)) pre W) ∧ Below w.heap.size w W)
    (OwnFrom.and (Own.from (fun s X Y row hs hg hr => ⟨hs.1, Nat.le_trans hs.2.1 hg.size, block_own hs.2.2.1 hg hr, block_own hs.2.2.2.1 hg hr, block_own hs.2.2.2.2.1 hg hr, by
      obtain ⟨v, h1, h2⟩ := hs.2.2.2.2.2
      exact ⟨v, block_own h1 hg hr, h2.own hg hr⟩⟩) _) (ownFrom_below (Nat.le_refl _) (by omega)))
    (fun cd => OwnFrom.and (Own.from (fun s X Y row hs hg hr => ⟨hs.1, by
      obtain ⟨q, x, h1, h2, h3, h4, h5⟩ := hs.2
      exact ⟨q, x, h1, h2, h3, block_own h4 hg hr, block_own h5 hg hr⟩⟩) _) (ownFrom_below (Nat.le_refl _) (by omega)))
    ⟨⟨(fun x hx => by cases hx), by omega, bP, bR, bE, _, bA, [], World.ownsRow_nil _ _ _ _, (fun y hy => by cases hy), rfl⟩, hB0⟩
    (fun x a' W => ∃ Bf, w.heap.size + 5 ≤ Bf ∧ W.heap[Bf]? = some (.cells #[.int .i64 x.1.id, .int .i64 (x.1.fr : Int), .int .i64 (x.1.to : Int)] 63 (0, 0)) ∧ a' = { tmps := #[.slice A nn c, .func (.func 26) #[] #[.pointer (some ⟨Bx, 0, none⟩)], undef, .pointer (some ⟨w.heap.size, 0, none⟩), .pointer (some ⟨w.heap.size + 1, 0, none⟩), .pointer (some ⟨w.heap.size + 1 + 1, 0, none⟩), .pointer (some ⟨w.heap.size + 1 + 1 + 1, 0, none⟩), .pointer (some ⟨Bf, 0, none⟩), .int .i64 x.1.e, .slice A nn c, .func (.func 45) #[] #[.pointer (some ⟨w.heap.size + 1 + 1 + 1 + 1, 0, none⟩)], frV x.1, .int .i64 x.1.e, undef, undef, undef, undef, undef, undef, undef, undef, undef, undef], defers := [] })
    (fun x a' _ X Y row hs hg hr => by obtain ⟨Bf, h1, h2, h3⟩ := hs; exact ⟨Bf, h1, block_own h2 hg (fun r e => (hr r e).2), h3⟩)
    ?assign ?body ?done ?stop
  case assign =>
    rintro l pre x W K ⟨⟨h1, hlo, h2, h3, h4, v, h5, h6⟩, hB⟩ hK
    obtain ⟨⟨id, fF, tT, ee⟩, hok⟩ := x
    have hb := (Below.refl W.heap.size W).alloc (Nat.le_refl _) (.cells #[.int .i64 id, .int .i64 (fF : Int), .int .i64 (tT : Int)] 63)
    have hKp : KeepT w.heap.size frTs W _ := KeepT.of_below hb hB.size
    have HK := hide hK
    clear hK
    dsimp only [fenc, frV]
    gi_wp2
    exact HK.out _ _ ((KeepsOthers.alloc _ _).from _) hKp ⟨⟨h1, by simp; omega, h2.alloc _, h3.alloc _, h4.alloc _, v, h5.alloc _, h6.below hb⟩, hB.trans (hb.mono hB.size)⟩ ⟨W.heap.size, hlo, heap_alloc_new W _, rfl⟩
  case body =>
    rintro l pre x a' W hl ⟨r, hrr⟩ ⟨⟨h1, hlo, h2, h3, h4, v, h5, h6⟩, hB⟩ ⟨Bf, hBf, bX, rfl⟩ hlt
    obtain ⟨⟨id, fF, tT, ee⟩, hok⟩ := x
    dsimp only at bX
    by_cases he : ee = 0
    · subst he
      have cA := h5.cell
      have cP := h2.cell
      have d0 := cell_of_heap bX 0
      have d1 := cell_of_heap bX 1
      have d2 := cell_of_heap bX 2
      obtain ⟨L, hown, hdat, hvl⟩ := h6
      have HD := hide hdat
      have HV := hide hvl
      have hLl : L.length = pre.length := by have := congrArg List.length hvl; simpa using this
      have hLb : L.length ≤ 1000001 := by have := hlen.out; omega
      have HBX := hide fun w' (hb : Below W.heap.size W w') => ((hB.trans (hb.mono hB.size)).cell (p := ⟨Bx, 0, none⟩) hBxl).trans hBx
      have HRD := hide fun w' (hb : Below W.heap.size W w') => hr.below (hB.trans (hb.mono hB.size))
      have hBfl : Bf < W.heap.size := (Array.getElem?_eq_some_iff.1 bX).1
      have HX := hide fun w' (hb : Below W.heap.size W w') => (hb.block Bf hBfl).trans bX
      have HS := hide fun w' (hb : Below W.heap.size W w') => (⟨(boxed_below h2 hb).cell, (hb.cell (p := ⟨Bf, 0, none⟩) hBfl).trans d0, (hb.cell (p := ⟨Bf, 1, none⟩) hBfl).trans d1, (hb.cell (p := ⟨Bf, 2, none⟩) hBfl).trans d2⟩ : w'.cell? ⟨w.heap.size, 0, none⟩ = some (.func (.func 26) #[] #[.pointer (some ⟨Bx, 0, none⟩)]) ∧ w'.cell? ⟨Bf, 0, none⟩ = some (.int .i64 id) ∧ w'.cell? ⟨Bf, 1, none⟩ = some (.int .i64 (fF : Int)) ∧ w'.cell? ⟨Bf, 2, none⟩ = some (.int .i64 (tT : Int)))
      clear hdat hvl hrr hLl
      gi_wp2
      refine region_in (S := fun w' => w'.cell? ⟨w.heap.size, 0, none⟩ = some (.func (.func 26) #[] #[.pointer (some ⟨Bx, 0, none⟩)]) ∧ w'.cell? ⟨Bf, 0, none⟩ = some (.int .i64 id) ∧ w'.cell? ⟨Bf, 1, none⟩ = some (.int .i64 (fF : Int)) ∧ w'.cell? ⟨Bf, 2, none⟩ = some (.int .i64 (tT : Int))) (by kernel_rfl) (by kernel_rfl) (by rintro ⟨_, _, h⟩; exact h) ⟨cP, d0, d1, d2⟩ (fun hHeld => ?_)
      refine wpAnyH_take (i := 1) (v := .func (.func 26) #[] #[.pointer (some ⟨Bx, 0, none⟩)]) rfl (by kernel_rfl) (by kernel_rfl) (by kernel_rfl) (fun _ _ _ h => h) (Or.inl ⟨by rfl, fun w' hS => by obtain ⟨s0, s1, s2, s3⟩ := hS; go_simp⟩) hHeld ?_
      simp only [Act.put, List.setIfInBounds_toArray]
      refine wpAnyH_take (i := 2) (v := .agg #[.int .i64 id, .int .i64 (fF : Int), .int .i64 (tT : Int)]) rfl (by kernel_rfl) (by kernel_rfl) (by kernel_rfl) (fun _ _ _ h => h) (Or.inl ⟨by rfl, fun w' hS => by obtain ⟨s0, s1, s2, s3⟩ := hS; go_simp⟩) hHeld ?_
      simp only [Act.put]
      refine wpAnyH_ready (rs := [0, 3]) (by kernel_rfl) (by simp) ?_
      refine AllReadyH.cons rfl (fun K hK => ?_) (AllReadyH.cons rfl (fun K hK => ?_) AllReadyH.nil)
      · go_simp
        refine hK.out _ _ hHeld (fun hHeld => ?_)
        clear hK K
        refine wpAnyH_ready (rs := [3]) (by kernel_rfl) (by simp) ?_
        refine AllReadyH.cons rfl (fun K hK => ?_) AllReadyH.nil
        go_simp
        refine (part1_any Bx A nn c xs id fF tT _ w.heap.size (HBX.out _ (Below.refl _ W).drew) (HRD.out _ (Below.refl _ W).drew) hB.size hok.le (hok.e4 rfl) hnc hcm hle).mono ?_
        rintro e w3 ⟨A3, n3, c3, rfl, hn3, hm3, HN3, hr3, ho3, hb3⟩
        have hb3' : Below W.heap.size W w3 := (Below.refl _ W).drew.trans hb3
        have S3 := HS.out _ hb3'
        have cA3 := (boxed_below h5 hb3').cell
        have HY := hide (show Dat w3 (w.heap.size + 5) v.ownBlock ⟨id, A3, n3, c3, dat xs ⟨id, fF, tT, 0⟩, fF, tT⟩ from Dat.of ⟨hn3, hm3, (hx.drop _).take _, by have h := hr3.len; simpa [dat] using h, by have := hok.id0; simp only [] at this ⊢; omega, by have := hok.id1; simp only [] at this ⊢; omega⟩ hr3 (fun b hb => ⟨Nat.le_trans hlo (ho3 b hb), fun e => absurd (hown.lt b e.symm).2 (Nat.not_lt.2 (ho3 b hb))⟩))
        clear hr3 ho3 HN3 hb3
        refine hK.out _ _ S3 (fun hHeld => ?_)
        clear hK K
        refine wpAnyH_ready (rs := [4]) (by kernel_rfl) (by simp) ?_
        refine AllReadyH.cons rfl (fun K hK => ?_) AllReadyH.nil
        go_simp
        have hb4 := hide (hb3'.alloc hb3'.size (.cells #[.int .i64 id, .slice A3 n3 c3] 56))
        have S4 := HS.out _ hb4.out
        refine hK.out _ _ S4 (fun hHeld => ?_)
        clear hK K
        refine wpAnyH_ready (rs := [5]) (by kernel_rfl) (by simp) ?_
        refine AllReadyH.cons rfl (fun K hK => ?_) AllReadyH.nil
        refine step_append_lies _ (by rfl) (.tmp 16) (.tmp 20) 25 (by rfl) (w.heap.size + 5) 56 i0 (.agg #[.int .i64 0, .slice none 0 0]) 2 32 Try.underlying25 hi hz0 hz1 hz2 rfl (by decide) v L.length (L.flatMap c2) (by rfl) (ownsRow_below hown hb4.out) ⟨w3.heap.size, 0, none⟩ 1 1 (c2 ⟨id, A3, n3, c3, dat xs ⟨id, fF, tT, 0⟩, fF, tT⟩) (by rfl) rfl (news_new w3 [.int .i64 id, .slice A3 n3 c3] 56) (c2_one _) (by decide) (by unfold maxLen; omega) (by omega) (by have := hb4.out.size; omega) _ rfl ?_
        intro g5 cap5 w5 hown5 hg5 hat5 hlt5
        have hb3s := hb3'.size
        have cB5 := boxed_row (boxed_below h5 hb4.out) hg5 (ownsRow_below hown hb4.out) (by decide)
        have cA5 := cB5.cell
        have fA5 := cB5.frozen
        have S5 : _ ∧ _ ∧ _ ∧ _ := ⟨(boxed_row (boxed_below h2 hb4.out) hg5 (ownsRow_below hown hb4.out) (by decide)).cell, hg5.cell S4.2.1 (ne_row (HX.out _ hb4.out) (ownsRow_below hown hb4.out) (by decide)), hg5.cell S4.2.2.1 (ne_row (HX.out _ hb4.out) (ownsRow_below hown hb4.out) (by decide)), hg5.cell S4.2.2.2 (ne_row (HX.out _ hb4.out) (ownsRow_below hown hb4.out) (by decide))⟩
        refine hK.out _ _ S5 (fun hHeld => ?_)
        clear hK K
        refine wpAnyH_ready (rs := [6]) (by kernel_rfl) (by simp) ?_
        refine AllReadyH.cons rfl (fun K hK => ?_) AllReadyH.nil
        go_simp
        refine hK.out _ _ ⟨(World.cell?_setCell_other _ _ _ _ (by simp <;> omega)).trans S5.1, (World.cell?_setCell_other _ _ _ _ (by simp <;> omega)).trans S5.2.1, (World.cell?_setCell_other _ _ _ _ (by simp <;> omega)).trans S5.2.2.1, (World.cell?_setCell_other _ _ _ _ (by simp <;> omega)).trans S5.2.2.2⟩ (fun hHeld => ?_)
        clear hK K
        refine wpAnyH_done (by kernel_rfl) ?_ _
        have hY4 := (HY.out.below ((Below.refl w3.heap.size w3).alloc (Nat.le_refl _) (.cells #[.int .i64 id, .slice A3 n3 c3] 56)))
        have hcu := coll_up (B := w.heap.size + 1 + 1 + 1) (ownsRow_below hown hb4.out) (fun y hy => (HD.out y hy).below hb4.out) HV.out hY4 hown5 hg5 (hat5.elim (fun e => .inl e.symm) (fun e => .inr (congrArg some e))) (by omega)
        have hk1 : KeepT w.heap.size frTs W _ := (KeepT.of_below hb4.out hB.size).trans ((KeepT.row hg5 (ownsRow_below hown hb4.out) (by omega) (by have := hb4.out.size; have := hB.size; omega) (by decide)).trans (KeepT.box cB5 (by omega) (by decide) (.slice (some ⟨g5, 0, none⟩) (L.length + 1) cap5)))
        have hk2 : KeepsFrom W0.heap.size W _ := (keepsFrom_below hb4.out).trans ((keepsFrom_row hg5 (ownsRow_below hown hb4.out)).trans ((KeepsOthers.setCell w5 ⟨w.heap.size + 1 + 1 + 1, 0, none⟩ (.slice (some ⟨g5, 0, none⟩) (L.length + 1) cap5)).from _))
        refine ⟨hk2, hk1, ⟨?_, ?_, ?_, ?_, ?_, _, cB5.set _, ?_⟩, hB.trans hk1.1⟩
        · intro x hx
          rcases List.mem_append.1 hx with hx | hx
          · exact h1 x hx
          · obtain rfl : x = _ := by simpa using hx
            rfl
        · rw [size_set]; have := hb4.out.size; have := hg5.size; omega
        · exact (boxed_row (boxed_below h2 hb4.out) hg5 (ownsRow_below hown hb4.out) (by decide)).other (by omega) _
        · exact (boxed_row (boxed_below h3 hb4.out) hg5 (ownsRow_below hown hb4.out) (by decide)).other (by omega) _
        · exact (boxed_row (boxed_below h4 hb4.out) hg5 (ownsRow_below hown hb4.out) (by decide)).other (by omega) _
        · rw [List.map_append]
          exact hcu
      · go_simp
        refine (part1_any Bx A nn c xs id fF tT _ w.heap.size (HBX.out _ (Below.refl _ W).drew) (HRD.out _ (Below.refl _ W).drew) hB.size hok.le (hok.e4 rfl) hnc hcm hle).mono ?_
        rintro e w3 ⟨A3, n3, c3, rfl, hn3, hm3, HN3, hr3, ho3, hb3⟩
        have hb3' : Below W.heap.size W w3 := (Below.refl _ W).drew.trans hb3
        have S3 := HS.out _ hb3'
        have cA3 := (boxed_below h5 hb3').cell
        have HY := hide (show Dat w3 (w.heap.size + 5) v.ownBlock ⟨id, A3, n3, c3, dat xs ⟨id, fF, tT, 0⟩, fF, tT⟩ from Dat.of ⟨hn3, hm3, (hx.drop _).take _, by have h := hr3.len; simpa [dat] using h, by have := hok.id0; simp only [] at this ⊢; omega, by have := hok.id1; simp only [] at this ⊢; omega⟩ hr3 (fun b hb => ⟨Nat.le_trans hlo (ho3 b hb), fun e => absurd (hown.lt b e.symm).2 (Nat.not_lt.2 (ho3 b hb))⟩))
        clear hr3 ho3 HN3 hb3
        refine hK.out _ _ S3 (fun hHeld => ?_)
        clear hK K
        refine wpAnyH_ready (rs := [0, 4]) (by kernel_rfl) (by simp) ?_
        refine AllReadyH.cons rfl (fun K hK => ?_) (AllReadyH.cons rfl (fun K hK => ?_) AllReadyH.nil)
        · go_simp
          refine hK.out _ _ S3 (fun hHeld => ?_)
          clear hK K
          refine wpAnyH_ready (rs := [4]) (by kernel_rfl) (by simp) ?_
          refine AllReadyH.cons rfl (fun K hK => ?_) AllReadyH.nil
          go_simp
          have hb4 := hide (hb3'.alloc hb3'.size (.cells #[.int .i64 id, .slice A3 n3 c3] 56))
          have S4 := HS.out _ hb4.out
          refine hK.out _ _ S4 (fun hHeld => ?_)
          clear hK K
          refine wpAnyH_ready (rs := [5]) (by kernel_rfl) (by simp) ?_
          refine AllReadyH.cons rfl (fun K hK => ?_) AllReadyH.nil
          refine step_append_lies _ (by rfl) (.tmp 16) (.tmp 20) 25 (by rfl) (w.heap.size + 5) 56 i0 (.agg #[.int .i64 0, .slice none 0 0]) 2 32 Try.underlying25 hi hz0 hz1 hz2 rfl (by decide) v L.length (L.flatMap c2) (by rfl) (ownsRow_below hown hb4.out) ⟨w3.heap.size, 0, none⟩ 1 1 (c2 ⟨id, A3, n3, c3, dat xs ⟨id, fF, tT, 0⟩, fF, tT⟩) (by rfl) rfl (news_new w3 [.int .i64 id, .slice A3 n3 c3] 56) (c2_one _) (by decide) (by unfold maxLen; omega) (by omega) (by have := hb4.out.size; omega) _ rfl ?_
          intro g5 cap5 w5 hown5 hg5 hat5 hlt5
          have hb3s := hb3'.size
          have cB5 := boxed_row (boxed_below h5 hb4.out) hg5 (ownsRow_below hown hb4.out) (by decide)
          have cA5 := cB5.cell
          have fA5 := cB5.frozen
          have S5 : _ ∧ _ ∧ _ ∧ _ := ⟨(boxed_row (boxed_below h2 hb4.out) hg5 (ownsRow_below hown hb4.out) (by decide)).cell, hg5.cell S4.2.1 (ne_row (HX.out _ hb4.out) (ownsRow_below hown hb4.out) (by decide)), hg5.cell S4.2.2.1 (ne_row (HX.out _ hb4.out) (ownsRow_below hown hb4.out) (by decide)), hg5.cell S4.2.2.2 (ne_row (HX.out _ hb4.out) (ownsRow_below hown hb4.out) (by decide))⟩
          refine hK.out _ _ S5 (fun hHeld => ?_)
          clear hK K
          refine wpAnyH_ready (rs := [6]) (by kernel_rfl) (by simp) ?_
          refine AllReadyH.cons rfl (fun K hK => ?_) AllReadyH.nil
          go_simp
          refine hK.out _ _ ⟨(World.cell?_setCell_other _ _ _ _ (by simp <;> omega)).trans S5.1, (World.cell?_setCell_other _ _ _ _ (by simp <;> omega)).trans S5.2.1, (World.cell?_setCell_other _ _ _ _ (by simp <;> omega)).trans S5.2.2.1, (World.cell?_setCell_other _ _ _ _ (by simp <;> omega)).trans S5.2.2.2⟩ (fun hHeld => ?_)
          clear hK K
          refine wpAnyH_done (by kernel_rfl) ?_ _
          have hY4 := (HY.out.below ((Below.refl w3.heap.size w3).alloc (Nat.le_refl _) (.cells #[.int .i64 id, .slice A3 n3 c3] 56)))
          have hcu := coll_up (B := w.heap.size + 1 + 1 + 1) (ownsRow_below hown hb4.out) (fun y hy => (HD.out y hy).below hb4.out) HV.out hY4 hown5 hg5 (hat5.elim (fun e => .inl e.symm) (fun e => .inr (congrArg some e))) (by omega)
          have hk1 : KeepT w.heap.size frTs W _ := (KeepT.of_below hb4.out hB.size).trans ((KeepT.row hg5 (ownsRow_below hown hb4.out) (by omega) (by have := hb4.out.size; have := hB.size; omega) (by decide)).trans (KeepT.box cB5 (by omega) (by decide) (.slice (some ⟨g5, 0, none⟩) (L.length + 1) cap5)))
          have hk2 : KeepsFrom W0.heap.size W _ := (keepsFrom_below hb4.out).trans ((keepsFrom_row hg5 (ownsRow_below hown hb4.out)).trans ((KeepsOthers.setCell w5 ⟨w.heap.size + 1 + 1 + 1, 0, none⟩ (.slice (some ⟨g5, 0, none⟩) (L.length + 1) cap5)).from _))
          refine ⟨hk2, hk1, ⟨?_, ?_, ?_, ?_, ?_, _, cB5.set _, ?_⟩, hB.trans hk1.1⟩
          · intro x hx
            rcases List.mem_append.1 hx with hx | hx
            · exact h1 x hx
            · obtain rfl : x = _ := by simpa using hx
              rfl
          · rw [size_set]; have := hb4.out.size; have := hg5.size; omega
          · exact (boxed_row (boxed_below h2 hb4.out) hg5 (ownsRow_below hown hb4.out) (by decide)).other (by omega) _
          · exact (boxed_row (boxed_below h3 hb4.out) hg5 (ownsRow_below hown hb4.out) (by decide)).other (by omega) _
          · exact (boxed_row (boxed_below h4 hb4.out) hg5 (ownsRow_below hown hb4.out) (by decide)).other (by omega) _
          · rw [List.map_append]
            exact hcu
        · go_simp
          have hb4 := hide (hb3'.alloc hb3'.size (.cells #[.int .i64 id, .slice A3 n3 c3] 56))
          have S4 := HS.out _ hb4.out
          refine hK.out _ _ S4 (fun hHeld => ?_)
          clear hK K
          refine wpAnyH_ready (rs := [0]) (by kernel_rfl) (by simp) ?_
          refine AllReadyH.cons rfl (fun K hK => ?_) AllReadyH.nil
          have cA4 := (boxed_below h5 hb4.out).cell
          go_simp
          refine hK.out _ _ S4 (fun hHeld => ?_)
          clear hK K
          refine wpAnyH_ready (rs := [5]) (by kernel_rfl) (by simp) ?_
          refine AllReadyH.cons rfl (fun K hK => ?_) AllReadyH.nil
          refine step_append_lies _ (by rfl) (.tmp 16) (.tmp 20) 25 (by rfl) (w.heap.size + 5) 56 i0 (.agg #[.int .i64 0, .slice none 0 0]) 2 32 Try.underlying25 hi hz0 hz1 hz2 rfl (by decide) v L.length (L.flatMap c2) (by rfl) (ownsRow_below hown hb4.out) ⟨w3.heap.size, 0, none⟩ 1 1 (c2 ⟨id, A3, n3, c3, dat xs ⟨id, fF, tT, 0⟩, fF, tT⟩) (by rfl) rfl (news_new w3 [.int .i64 id, .slice A3 n3 c3] 56) (c2_one _) (by decide) (by unfold maxLen; omega) (by omega) (by have := hb4.out.size; omega) _ rfl ?_
          intro g5 cap5 w5 hown5 hg5 hat5 hlt5
          have hb3s := hb3'.size
          have cB5 := boxed_row (boxed_below h5 hb4.out) hg5 (ownsRow_below hown hb4.out) (by decide)
          have cA5 := cB5.cell
          have fA5 := cB5.frozen
          have S5 : _ ∧ _ ∧ _ ∧ _ := ⟨(boxed_row (boxed_below h2 hb4.out) hg5 (ownsRow_below hown hb4.out) (by decide)).cell, hg5.cell S4.2.1 (ne_row (HX.out _ hb4.out) (ownsRow_below hown hb4.out) (by decide)), hg5.cell S4.2.2.1 (ne_row (HX.out _ hb4.out) (ownsRow_below hown hb4.out) (by decide)), hg5.cell S4.2.2.2 (ne_row (HX.out _ hb4.out) (ownsRow_below hown hb4.out) (by decide))⟩
          refine hK.out _ _ S5 (fun hHeld => ?_)
          clear hK K
          refine wpAnyH_ready (rs := [6]) (by kernel_rfl) (by simp) ?_
          refine AllReadyH.cons rfl (fun K hK => ?_) AllReadyH.nil
          go_simp
          refine hK.out _ _ ⟨(World.cell?_setCell_other _ _ _ _ (by simp <;> omega)).trans S5.1, (World.cell?_setCell_other _ _ _ _ (by simp <;> omega)).trans S5.2.1, (World.cell?_setCell_other _ _ _ _ (by simp <;> omega)).trans S5.2.2.1, (World.cell?_setCell_other _ _ _ _ (by simp <;> omega)).trans S5.2.2.2⟩ (fun hHeld => ?_)
          clear hK K
          refine wpAnyH_done (by kernel_rfl) ?_ _
          have hY4 := (HY.out.below ((Below.refl w3.heap.size w3).alloc (Nat.le_refl _) (.cells #[.int .i64 id, .slice A3 n3 c3] 56)))
          have hcu := coll_up (B := w.heap.size + 1 + 1 + 1) (ownsRow_below hown hb4.out) (fun y hy => (HD.out y hy).below hb4.out) HV.out hY4 hown5 hg5 (hat5.elim (fun e => .inl e.symm) (fun e => .inr (congrArg some e))) (by omega)
          have hk1 : KeepT w.heap.size frTs W _ := (KeepT.of_below hb4.out hB.size).trans ((KeepT.row hg5 (ownsRow_below hown hb4.out) (by omega) (by have := hb4.out.size; have := hB.size; omega) (by decide)).trans (KeepT.box cB5 (by omega) (by decide) (.slice (some ⟨g5, 0, none⟩) (L.length + 1) cap5)))
          have hk2 : KeepsFrom W0.heap.size W _ := (keepsFrom_below hb4.out).trans ((keepsFrom_row hg5 (ownsRow_below hown hb4.out)).trans ((KeepsOthers.setCell w5 ⟨w.heap.size + 1 + 1 + 1, 0, none⟩ (.slice (some ⟨g5, 0, none⟩) (L.length + 1) cap5)).from _))
          refine ⟨hk2, hk1, ⟨?_, ?_, ?_, ?_, ?_, _, cB5.set _, ?_⟩, hB.trans hk1.1⟩
          · intro x hx
            rcases List.mem_append.1 hx with hx | hx
            · exact h1 x hx
            · obtain rfl : x = _ := by simpa using hx
              rfl
          · rw [size_set]; have := hb4.out.size; have := hg5.size; omega
          · exact (boxed_row (boxed_below h2 hb4.out) hg5 (ownsRow_below hown hb4.out) (by decide)).other (by omega) _
          · exact (boxed_row (boxed_below h3 hb4.out) hg5 (ownsRow_below hown hb4.out) (by decide)).other (by omega) _
          · exact (boxed_row (boxed_below h4 hb4.out) hg5 (ownsRow_below hown hb4.out) (by decide)).other (by omega) _
          · rw [List.map_append]
            exact hcu
    · have t1 : (ee != 0) = true := by simpa using he
      have cR := h3.cell
      have fR := h3.frozen
      have cE := h4.cell
      have fE := h4.frozen
      have HR := hide ((h3.set (.slice none 0 0)).other (B' := w.heap.size + 1 + 1) (by omega) (.int .i64 ee))
      have HE := hide ((h4.other (B' := w.heap.size + 1) (by omega) (.slice none 0 0)).set (.int .i64 ee))
      clear h6
      gi_wp2
      exact ⟨((KeepsOthers.setCell _ _ _).trans (KeepsOthers.setCell _ _ _)).from _, ⟨rfl, pre, ⟨⟨id, fF, tT, ee⟩, hok⟩, rfl, h1, he, HR.out, HE.out⟩, (hB.setCell (p := ⟨w.heap.size + 1, 0, none⟩) (by show w.heap.size ≤ w.heap.size + 1; omega) _).setCell (p := ⟨w.heap.size + 1 + 1, 0, none⟩) (by show w.heap.size ≤ w.heap.size + 1 + 1; omega) _⟩
  case done =>
    rintro D ys W hD hS ⟨⟨h1, hlo, h2, h3, h4, v, h5, h6⟩, hB⟩ hK
    have cA := h5.cell
    have cR := h3.cell
    have fR := h3.frozen
    have cE := h4.cell
    have fE := h4.frozen
    have hz : rdE xs = 0 := by
      unfold rdE
      rw [← hS]
      refine firstE_all fun f hf => ?_
      obtain ⟨x, hx, rfl⟩ := List.mem_map.1 hf
      exact h1 x hx
    have hL : rdL xs = ys.map fun x => (x.1.id, dat xs x.1) := by
      unfold rdL rdF
      rw [if_pos hz, ← hS, List.map_map]
      rfl
    have HZ := hide hz
    have HL := hide hL
    obtain ⟨A2, n2, c2', rfl, _⟩ := h6.form
    have HK := hide (((KeepsOthers.setCell W ⟨w.heap.size + 1, 0, none⟩ (.slice A2 n2 c2')).trans (KeepsOthers.setCell _ ⟨w.heap.size + 1 + 1, 0, none⟩ (.int .i64 0))).same D _ hK rfl)
    have HC := hide (((h6.setCell (a := ⟨w.heap.size + 1, 0, none⟩) (by show w.heap.size + 1 < _; omega) (.slice A2 n2 c2')).setCell (a := ⟨w.heap.size + 1 + 1, 0, none⟩) (by show w.heap.size + 1 + 1 < _; omega) (.int .i64 0)))
    have HB := hide ((hB.setCell (p := ⟨w.heap.size + 1, 0, none⟩) (by show w.heap.size ≤ w.heap.size + 1; omega) (.slice A2 n2 c2')).setCell (p := ⟨w.heap.size + 1 + 1, 0, none⟩) (by show w.heap.size ≤ w.heap.size + 1 + 1; omega) (.int .i64 0))
    have HR := hide ((h3.set (.slice A2 n2 c2')).other (B' := w.heap.size + 1 + 1) (by omega) (.int .i64 0))
    have HE := hide ((h4.other (B' := w.heap.size + 1) (by omega) (.slice A2 n2 c2')).set (.int .i64 0))
    clear hz hL hS h6 hK
    gi_wp2
    refine ⟨by simp, .inl ⟨_, _, rfl, run_takeDeferred HK.out, ?_⟩⟩
    have x0 := cell_kept HR.out.cell (grownBy_putObj' _ D (.deferred none)) (fun r e => by cases e; exact ⟨_, HK.out, rfl⟩)
    have x1 := cell_kept HE.out.cell (grownBy_putObj' _ D (.deferred none)) (fun r e => by cases e; exact ⟨_, HK.out, rfl⟩)
    refine ⟨.tuple #[.slice A2 n2 c2', .int .i64 0], ?_, _, congrArg (fun z => Ending.returned (.tuple #[.slice A2 n2 c2', .int .i64 z])) HZ.out.symm, ?_, ?_⟩
    · simp [results, Try.f25, go_sem, x0, x1]
    · rw [HL.out]
      exact (HC.out.own (grownBy_putObj' _ D (.deferred none)) (fun r e => by cases e; exact ⟨_, HK.out, rfl⟩)).lower (by omega)
    · exact HB.out.trans (belowK_b (w := w) (Nat.le_refl _) _ D _ _ (by omega) HK.out rfl rfl)
  case stop =>
    rintro D cd pre W hD hpre ⟨⟨rfl, q, x, rfl, h2, h3, h4, h5⟩, hB⟩ hK
    have HX : Hid (rdE xs = x.1.e) := firstE_prefix (by rw [map_snoc] at hpre; exact hpre) (fun g hg => by
      obtain ⟨y, hy, rfl⟩ := List.mem_map.1 hg
      exact h2 y hy) h3
    have HL : Hid (rdL xs = []) := by
      show _ = _
      unfold rdL rdF
      rw [if_neg (by rw [HX.out]; exact h3)]
      rfl
    gi_wp2
    refine ⟨by simp, .inl ⟨_, _, rfl, run_takeDeferred hK, ?_⟩⟩
    have x0 := cell_kept h4.cell (grownBy_putObj' _ D (.deferred none)) (fun r e => by cases e; exact ⟨_, hK, rfl⟩)
    have x1 := cell_kept h5.cell (grownBy_putObj' _ D (.deferred none)) (fun r e => by cases e; exact ⟨_, hK, rfl⟩)
    refine ⟨.tuple #[.slice none 0 0, .int .i64 x.1.e], ?_, _, congrArg (fun z => Ending.returned (.tuple #[.slice none 0 0, .int .i64 z])) HX.out.symm, ?_, ?_⟩
    · simp [results, Try.f25, go_sem, x0, x1]
    · rw [HL.out]
      exact ⟨[], World.ownsRow_nil _ _ _ _, (fun y hy => by cases hy), rfl⟩
    · exact hB.trans (belowK_b (w := w) (Nat.le_refl _) W D _ _ (by omega) hK rfl rfl)
end Go.Proofs.Ytgfeimlieibjhaa
