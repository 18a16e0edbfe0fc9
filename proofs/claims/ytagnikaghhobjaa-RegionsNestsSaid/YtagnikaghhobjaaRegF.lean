/- Subtype: what its loop keeps. -/
import Derived.Test.YtagnikaghhobjaaRegE
import Derived.Test.YtagnikaghhobjaaRegK
set_option linter.unusedVariables false
namespace Go.Proofs.Ytagnikaghhobjaa
open Go.RowKit

/-! ### how many pairs are left -/
def unvis (G M : List Pr) : Nat := G.countP fun p => !M.contains p
theorem unvis_up {G M : List Pr} {p : Pr} (hp : p ∈ G) (hn : p ∉ M) : unvis G (M ++ [p]) + 1 ≤ unvis G M := by
  unfold unvis
  induction G with
  | nil => cases hp
  | cons q G ih =>
    have mono : ∀ qs : List Pr, (qs.countP fun r => !(M ++ [p]).contains r) ≤ qs.countP fun r => !M.contains r := by
      intro qs
      refine List.countP_mono_left fun r _ h => ?_
      simp at h ⊢
      exact h.1
    rw [List.countP_cons, List.countP_cons]
    rcases List.mem_cons.1 hp with rfl | hp
    · have h1 := mono G
      have e1 : (!(M ++ [p]).contains p) = false := by simp
      have e2 : (!M.contains p) = true := by simpa using hn
      rw [if_neg (by rw [e1]; decide), if_pos e2]
      omega
    · have h1 := ih hp
      have h2 := mono [q]
      rw [List.countP_cons, List.countP_cons, List.countP_nil, List.countP_nil] at h2
      omega
def grid (N : Nat) : List Pr := (List.range N).flatMap fun (i : Nat) => (List.range N).map fun (j : Nat) => (((i : Int), (j : Int)) : Pr)
theorem grid_mem {N : Nat} {p : Pr} (h1 : 0 ≤ p.1 ∧ p.1 < (N : Int)) (h2 : 0 ≤ p.2 ∧ p.2 < (N : Int)) : p ∈ grid N := by
  obtain ⟨x, y⟩ := p
  simp only [] at h1 h2
  obtain ⟨i, rfl⟩ := Int.eq_ofNat_of_zero_le h1.1
  obtain ⟨j, rfl⟩ := Int.eq_ofNat_of_zero_le h2.1
  exact List.mem_flatMap.2 ⟨i, List.mem_range.2 (by omega), List.mem_map.2 ⟨j, List.mem_range.2 (by omega), rfl⟩⟩
theorem flat_len {α β : Type} {f : α → List β} {k : Nat} (hk : ∀ x, (f x).length = k) : ∀ l : List α, (l.flatMap f).length = l.length * k
  | [] => by simp
  | y :: l => by rw [List.flatMap_cons, List.length_append, flat_len hk l, hk, List.length_cons, Nat.add_mul]; omega
theorem grid_len (N : Nat) : (grid N).length = N * N := by
  unfold grid
  rw [flat_len (k := N) (fun i => by simp)]
  simp
theorem unvis_le (G M : List Pr) : unvis G M ≤ G.length := List.countP_le_length

/-! ### what the loop keeps -/
structure SubI (O : Int → Int → Bool) (L : List Ty) (s t : Int) (M Wt : List Pr) : Prop where
  first : (s, t) ∈ M ∨ (s, t) ∈ Wt
  all : ∀ p ∈ M, ∃ a b, tyAt L p.1 = some a ∧ tyAt L p.2 = some b ∧ poss O a b = true ∧ ∀ q ∈ needs a b, q ∈ M ∨ q ∈ Wt
  wait : Sub O L s t → ∀ q ∈ Wt, Sub O L q.1 q.2
  intM : ∀ q ∈ M, IntP q
  intW : ∀ q ∈ Wt, IntP q
section
variable {O : Int → Int → Bool} {L : List Ty} {r s t : Int} {M Wt : List Pr} {p : Pr} {a b : Ty}
theorem SubI.begin (hs : IntP (s, t)) : SubI O L s t [] [(s, t)] := ⟨.inr (by simp), (fun p h => by cases h), (fun h q hq => by have e : q = (s, t) := (by simpa using hq); subst e; exact h), (fun q h => by cases h), fun q hq => by have e : q = (s, t) := (by simpa using hq); subst e; exact hs⟩
theorem SubI.seen (h : SubI O L s t M (Wt ++ [p])) (hp : p ∈ M) : SubI O L s t M Wt := by
  have key : ∀ q, q ∈ M ∨ q ∈ Wt ++ [p] → q ∈ M ∨ q ∈ Wt := fun q hq => by
    rcases hq with hq | hq
    · exact .inl hq
    · rcases List.mem_append.1 hq with hq | hq
      · exact .inr hq
      · have e : q = p := by simpa using hq
        subst e; exact .inl hp
  refine ⟨key _ h.first, fun q hq => ?_, fun hs q hq => h.wait hs q (by simp [hq]), h.intM, fun q hq => h.intW q (by simp [hq])⟩
  obtain ⟨a, b, h1, h2, h3, h4⟩ := h.all q hq
  exact ⟨a, b, h1, h2, h3, fun u hu => key u (h4 u hu)⟩
theorem SubI.step (h : SubI O L s t M (Wt ++ [p])) (ha : tyAt L p.1 = some a) (hb : tyAt L p.2 = some b) (hp : poss O a b = true) (hi : ∀ q ∈ needs a b, IntP q) : SubI O L s t (M ++ [p]) (Wt ++ needs a b) := by
  have key : ∀ q, q ∈ M ∨ q ∈ Wt ++ [p] → q ∈ M ++ [p] ∨ q ∈ Wt ++ needs a b := fun q hq => by
    rcases hq with hq | hq
    · exact .inl (by simp [hq])
    · rcases List.mem_append.1 hq with hq | hq
      · exact .inr (by simp [hq])
      · exact .inl (by simp at hq; simp [hq])
  refine ⟨key _ h.first, fun q hq => ?_, fun hs q hq => ?_, fun q hq => ?_, fun q hq => ?_⟩
  · rcases List.mem_append.1 hq with hq | hq
    · obtain ⟨a', b', h1, h2, h3, h4⟩ := h.all q hq
      exact ⟨a', b', h1, h2, h3, fun u hu => key u (h4 u hu)⟩
    · have e : q = p := by simpa using hq
      subst e
      exact ⟨a, b, ha, hb, hp, fun u hu => .inr (by simp [hu])⟩
  · rcases List.mem_append.1 hq with hq | hq
    · exact h.wait hs q (by simp [hq])
    · exact ((h.wait hs p (by simp)).at_ ha hb).2 q hq
  · rcases List.mem_append.1 hq with hq | hq
    · exact h.intM q hq
    · have e : q = p := by simpa using hq
      subst e; exact h.intW q (by simp)
  · rcases List.mem_append.1 hq with hq | hq
    · exact h.intW q (by simp [hq])
    · exact hi q hq
theorem SubI.fail (h : SubI O L s t M (Wt ++ [p])) (hn : ¬ Sub O L p.1 p.2) : sub O L s t = false := sub_not.2 fun hs => hn (h.wait hs p (by simp))
theorem SubI.end_ (h : SubI O L s t M []) (hL : TyOk L r) : sub O L s t = true := by
  refine sub_iff.2 (closed_sub hL (M := M) (fun q hq => ?_) (s, t) (h.first.elim id (fun e => by cases e)))
  obtain ⟨a, b, h1, h2, h3, h4⟩ := h.all q hq
  exact ⟨a, b, h1, h2, h3, fun u hu => (h4 u hu).elim id (fun e => by cases e)⟩
end
theorem not_sub_rng {O : Int → Int → Bool} {L : List Ty} {s t : Int} (h : ¬ ((0 ≤ s ∧ s < (L.length : Int)) ∧ 0 ≤ t ∧ t < (L.length : Int))) : ¬ Sub O L s t := fun k => by
  obtain ⟨a, b, h1, h2, _⟩ := k.inv
  exact h ⟨tyAt_rng h1, tyAt_rng h2⟩
theorem not_sub_poss {O : Int → Int → Bool} {L : List Ty} {s t : Int} {a b : Ty} (ha : tyAt L s = some a) (hb : tyAt L t = some b) (h : poss O a b = false) : ¬ Sub O L s t := fun k => by
  rw [(k.at_ ha hb).1] at h; cases h

/-! ### memory -/
structure SubW (b : Nat) (w wr : World) (v : Value) (n : Nat) (Wt M : List Pr) : Prop where
  low : Below b w wr
  map : PrM b M wr
  own : wr.ownsRow (b + 1) 31 2 v n (Wt.flatMap pV)
  lt : b + 1 ≤ wr.heap.size
theorem SubW.below {b n : Nat} {w wr wr' : World} {v : Value} {Wt M : List Pr} (h : SubW b w wr v n Wt M) (hb : Below wr.heap.size wr wr') : SubW b w wr' v n Wt M := by
  have := h.lt
  exact ⟨h.low.trans (hb.mono (by omega)), h.map.block (hb.block b (by omega)), ownsRow_below h.own hb, Nat.le_trans h.lt hb.size⟩
theorem ownsRow_pop2 {w : World} {base g n cap : Nat} {e : TypeId} {xs : List Value} {x y : Value} (h : w.ownsRow base e 2 (.slice (some ⟨g, 0, none⟩) (n + 1) cap) (n + 1) (xs ++ [x, y])) : w.ownsRow base e 2 (.slice (some ⟨g, 0, none⟩) n cap) n xs := by
  have hl : xs.length = n * 2 := by have := h.1; simp at this; omega
  rcases h.2 with ⟨h0, _⟩ | ⟨g', cap', cur, e0, hb, hg, h1, h2, h3, h4⟩
  · cases h0
  · injection e0 with e1 e2 e3
    injection e1 with e1
    injection e1 with e1
    subst e1 e3
    refine ⟨hl, .inr ⟨g, cap, cur, rfl, hb, hg, by omega, h2, h3, ?_⟩⟩
    have h5 := congrArg (List.take (n * 2)) h4
    rw [List.take_take, List.take_append_of_le_length (by omega), ← hl, List.take_length] at h5
    rw [← h5, hl]
    congr 1
    omega
theorem run_append_prs {P : Program} (w : World) (base : Nat) (t ty e : TypeId) (i : TypeInfo) (z : Value) (bytes : Nat) (ht : P.underlying t = some (.slice e)) (hi : P.info? e = some i) (hz : i.zero = some z)
    (hsize : i.size = 2) (hby : i.bytes = bytes) (hzs : z.cells.size = 2)
    (v : Value) (n : Nat) (xs : List Value) (hown : w.ownsRow base e 2 v n xs)
    (B : Nat) (A : Option Addr) (m c : Nat) (ps : List Pr) (hr : Cells w B 2 pV A m ps)
    (h63 : n + m ≤ maxLen) (hbytes : (n + m) * bytes ≤ 140737488355328) (hbase : base ≤ w.heap.size) :
    ∃ v' w', (Builtin.append_ #[t, t] ty #[v, .slice A m c]).run P w = .ok v' w' ∧ w'.ownsRow base e 2 v' (n + m) (xs ++ ps.flatMap pV) ∧ w.grownBy w' v.ownBlock ∧
      (v'.ownBlock = v.ownBlock ∨ v'.ownBlock = some w.heap.size) := by
  rcases A with _ | ad
  · have hm : m = 0 := by
      rcases Nat.eq_zero_or_pos m with h0 | h0
      · exact h0
      · obtain ⟨b, o, h, _⟩ := hr.2 h0
        cases h
    subst hm
    have hn : ps = [] := List.eq_nil_of_length_eq_zero hr.1
    subst hn
    exact ⟨v, w, run_append_nil w base t ty e i 2 ht hi v n xs hown c, by simpa using hown, World.grownBy.refl w _, .inl rfl⟩
  · have hcells : ∀ j u, (ps.flatMap pV)[j]? = some u → w.cell? (ad.add j) = some u := by
      intro j u hu
      have hj : j < (ps.flatMap pV).length := (List.getElem?_eq_some_iff.1 hu).1
      rw [flatMap_len pV_len] at hj
      obtain ⟨b, o, h, _, hc⟩ := hr.2 (by have := hr.1; omega)
      injection h with h
      subst h
      have hadd : (⟨b, o, none⟩ : Addr).add j = ⟨b, o + j, none⟩ := by unfold Addr.add; split <;> simp_all
      rw [hadd]
      have hp : ps[j / 2]? = some (ps[j / 2]'(by omega)) := List.getElem?_eq_getElem (by omega)
      have e : j / 2 * 2 + j % 2 = j := by omega
      rw [← e, flatMap_at pV_len hp (by omega)] at hu
      have h2 := hc (j / 2) _ hp (j % 2) u hu
      rw [show o + j / 2 * 2 + j % 2 = o + j by omega] at h2
      exact h2
    obtain ⟨v', w', hrun, h2, h3, _, h5⟩ := run_append_own_at (P := P) w base t ty e i z 2 bytes ht hi hz hsize hby hzs (by decide) v n xs hown ad m c (ps.flatMap pV) (by rw [flatMap_len pV_len, hr.1]) hcells (by intro u hu; obtain ⟨p, _, hp⟩ := List.mem_flatMap.1 hu; exact pV_one p u hp) h63 hbytes hbase
    exact ⟨v', w', hrun, h2, h3, h5⟩
theorem wpList_append_prs {P : Program} (w : World) {ops : Array Oper} {rest : List Oper} {o : Oper} {a : Act} {Q : Exit → Act → World → Prop} (hgd : o.guard = none) (s x : Operand) (t : TypeId)
    (ho : o.op = .call { callee := .builtin .append, args := #[s, x], argTypes := #[t, t] })
    (base : Nat) (e : TypeId) (i : TypeInfo) (z : Value) (bytes : Nat) (ht : P.underlying t = some (.slice e)) (hi : P.info? e = some i) (hz : i.zero = some z)
    (hsize : i.size = 2) (hby : i.bytes = bytes) (hzs : z.cells.size = 2)
    (v : Value) (n : Nat) (xs : List Value) (hs : a.eval s = v) (hown : w.ownsRow base e 2 v n xs)
    (B : Nat) (A : Option Addr) (m c : Nat) (ps : List Pr) (hx : a.eval x = .slice A m c) (hr : Cells w B 2 pV A m ps)
    (h63 : n + m ≤ maxLen) (hbytes : (n + m) * bytes ≤ 140737488355328) (hbase : base ≤ w.heap.size)
    (h : ∀ v' w', w'.ownsRow base e 2 v' (n + m) (xs ++ ps.flatMap pV) → w.grownBy w' v.ownBlock → (v'.ownBlock = v.ownBlock ∨ v'.ownBlock = some w.heap.size) → wpList P ops Q rest (a.put o.dst v') w') : wpList P ops Q (o :: rest) a w := by
  obtain ⟨v', w', hrun, h2, h3, h4⟩ := run_append_prs (P := P) w base t o.type e i z bytes ht hi hz hsize hby hzs v n xs hown B A m c ps hr h63 hbytes hbase
  refine wpList_plain hgd fun K hK => ?_
  unfold Oper.wp execOp
  simp only [ho, resolve, invoke, builtin, Sem.run_bind, Sem.run_pure, Result.andThen_ok, List.map_toArray, List.map_cons, List.map_nil, hs, hx, hrun]
  exact hK _ _ (h v' w' h2 h3 h4)
theorem need_int {a b : TyW} {w : World} {B : Nat} (ha : OneT w B a) (hb : OneT w B b) : ∀ q ∈ needs a.t b.t, IntP q := by
  intro q hq
  unfold needs at hq
  split at hq
  · rcases List.mem_cons.1 hq with rfl | hq
    · exact ⟨ha.ok.e, hb.ok.e⟩
    · split at hq
      · have e : q = (b.t.elem, a.t.elem) := by simpa using hq
        subst e; exact ⟨hb.ok.e, ha.ok.e⟩
      · cases hq
  · split at hq
    · obtain ⟨i, h1, h2⟩ := zip_at hq
      exact ⟨ha.ok.f _ (List.mem_of_getElem? h1), hb.ok.f _ (List.mem_of_getElem? h2)⟩
    · cases hq
theorem need_few {a b : Ty} (h : a.fields.length ≤ 65535) : (needs a b).length ≤ 65535 := by
  unfold needs
  split
  · split <;> simp
  · split
    · rw [List.length_zip]; omega
    · simp
end Go.Proofs.Ytagnikaghhobjaa
