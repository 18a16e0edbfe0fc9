/- Part 28 of the contracts and their mathematics. -/
import Derived.Test.YtfgacmgjpikgaaaGreatDoorQ26
set_option linter.unusedVariables false
set_option linter.unusedSimpArgs false
namespace Go.Proofs.YtfgacmgjpikgaaaGreatDoor
open Go.RowKit
def unvis (G M : List Pr) : Nat := G.countP fun p => !M.contains p
theorem unvis_up {G M : List Pr} {p : Pr} (hp : p ∈ G) (hn : p ∉ M) : unvis G (M ++ [p]) + 1 ≤ unvis G M := by
 unfold unvis
 induction G with
 | nil => cases hp
 | cons q G ih =>
  have mono : ∀ qs : List Pr, (qs.countP fun r => !(M ++ [p]).contains r) ≤ qs.countP fun r => !M.contains r := by
   intro qs
   refine List.countP_mono_left fun r _ h => ?_
   simp at h ⊢
   exact h.1
  rw [List.countP_cons, List.countP_cons]
  rcases List.mem_cons.1 hp with rfl | hp
  ·
   have h1 := mono G
   have e1 : (!(M ++ [p]).contains p) = false := by simp
   have e2 : (!M.contains p) = true := by simpa using hn
   rw [if_neg (by rw [e1]; decide), if_pos e2]
   omega
  ·
   have h1 := ih hp
   have h2 := mono [q]
   rw [List.countP_cons, List.countP_cons, List.countP_nil, List.countP_nil] at h2
   omega
def grid (N : Nat) : List Pr := (List.range N).flatMap fun (i : Nat) => (List.range N).map fun (j : Nat) => (((i : Int), (j : Int)) : Pr)
theorem grid_mem {N : Nat} {p : Pr} (h1 : 0 ≤ p.1 ∧ p.1 < (N : Int)) (h2 : 0 ≤ p.2 ∧ p.2 < (N : Int)) : p ∈ grid N := by
 obtain ⟨x, y⟩ := p
 simp only [] at h1 h2
 obtain ⟨i, rfl⟩ := Int.eq_ofNat_of_zero_le h1.1
 obtain ⟨j, rfl⟩ := Int.eq_ofNat_of_zero_le h2.1
 exact List.mem_flatMap.2 ⟨i, List.mem_range.2 (by omega), List.mem_map.2 ⟨j, List.mem_range.2 (by omega), rfl⟩⟩
theorem flat_len {α β : Type} {f : α → List β} {k : Nat} (hk : ∀ x, (f x).length = k) : ∀ l : List α, (l.flatMap f).length = l.length * k
 | [] => by simp
 | y :: l => by rw [List.flatMap_cons, List.length_append, flat_len hk l, hk, List.length_cons, Nat.add_mul]; omega
theorem grid_len (N : Nat) : (grid N).length = N * N := by
 unfold grid
 rw [flat_len (k := N) (fun i => by simp)]
 simp
theorem unvis_le (G M : List Pr) : unvis G M ≤ G.length := List.countP_le_length
structure SubI (O : Int → Int → Bool) (L : List Ty) (s t : Int) (M Wt : List Pr) : Prop where
 first : (s, t) ∈ M ∨ (s, t) ∈ Wt
 all : ∀ p ∈ M, ∃ a b, tyAt L p.1 = some a ∧ tyAt L p.2 = some b ∧ poss O a b = true ∧ ∀ q ∈ needs a b, q ∈ M ∨ q ∈ Wt
 wait : Sub O L s t → ∀ q ∈ Wt, Sub O L q.1 q.2
 intM : ∀ q ∈ M, IntP q
 intW : ∀ q ∈ Wt, IntP q
section
variable {O : Int → Int → Bool} {L : List Ty} {r s t : Int} {M Wt : List Pr} {p : Pr} {a b : Ty}
theorem SubI.begin (hs : IntP (s, t)) : SubI O L s t [] [(s, t)] := ⟨.inr (by simp), (fun p h => by cases h), (fun h q hq => by have e : q = (s, t) := (by simpa using hq); subst e; exact h), (fun q h => by cases h), fun q hq => by have e : q = (s, t) := (by simpa using hq); subst e; exact hs⟩
theorem SubI.seen (h : SubI O L s t M (Wt ++ [p])) (hp : p ∈ M) : SubI O L s t M Wt := by
 have key : ∀ q, q ∈ M ∨ q ∈ Wt ++ [p] → q ∈ M ∨ q ∈ Wt := fun q hq => by
  rcases hq with hq | hq
  ·
   exact .inl hq
  ·
   rcases List.mem_append.1 hq with hq | hq
   ·
    exact .inr hq
   ·
    have e : q = p := by simpa using hq
    subst e; exact .inl hp
 refine ⟨key _ h.first, fun q hq => ?_, fun hs q hq => h.wait hs q (by simp [hq]), h.intM, fun q hq => h.intW q (by simp [hq])⟩
 obtain ⟨a, b, h1, h2, h3, h4⟩ := h.all q hq
 exact ⟨a, b, h1, h2, h3, fun u hu => key u (h4 u hu)⟩
theorem SubI.step (h : SubI O L s t M (Wt ++ [p])) (ha : tyAt L p.1 = some a) (hb : tyAt L p.2 = some b) (hp : poss O a b = true) (hi : ∀ q ∈ needs a b, IntP q) : SubI O L s t (M ++ [p]) (Wt ++ needs a b) := by
 have key : ∀ q, q ∈ M ∨ q ∈ Wt ++ [p] → q ∈ M ++ [p] ∨ q ∈ Wt ++ needs a b := fun q hq => by
  rcases hq with hq | hq
  ·
   exact .inl (by simp [hq])
  ·
   rcases List.mem_append.1 hq with hq | hq
   ·
    exact .inr (by simp [hq])
   ·
    exact .inl (by simp at hq; simp [hq])
 refine ⟨key _ h.first, fun q hq => ?_, fun hs q hq => ?_, fun q hq => ?_, fun q hq => ?_⟩
 ·
  rcases List.mem_append.1 hq with hq | hq
  ·
   obtain ⟨a', b', h1, h2, h3, h4⟩ := h.all q hq
   exact ⟨a', b', h1, h2, h3, fun u hu => key u (h4 u hu)⟩
  ·
   have e : q = p := by simpa using hq
   subst e
   exact ⟨a, b, ha, hb, hp, fun u hu => .inr (by simp [hu])⟩
 ·
  rcases List.mem_append.1 hq with hq | hq
  ·
   exact h.wait hs q (by simp [hq])
  ·
   exact ((h.wait hs p (by simp)).at_ ha hb).2 q hq
 ·
  rcases List.mem_append.1 hq with hq | hq
  ·
   exact h.intM q hq
  ·
   have e : q = p := by simpa using hq
   subst e; exact h.intW q (by simp)
 ·
  rcases List.mem_append.1 hq with hq | hq
  ·
   exact h.intW q (by simp [hq])
  ·
   exact hi q hq
theorem SubI.fail (h : SubI O L s t M (Wt ++ [p])) (hn : ¬ Sub O L p.1 p.2) : sub O L s t = false := sub_not.2 fun hs => hn (h.wait hs p (by simp))
theorem SubI.end_ (h : SubI O L s t M []) (hL : TyOk L r) : sub O L s t = true := by
 refine sub_iff.2 (closed_sub hL (M := M) (fun q hq => ?_) (s, t) (h.first.elim id (fun e => by cases e)))
 obtain ⟨a, b, h1, h2, h3, h4⟩ := h.all q hq
 exact ⟨a, b, h1, h2, h3, fun u hu => (h4 u hu).elim id (fun e => by cases e)⟩
end
theorem not_sub_rng {O : Int → Int → Bool} {L : List Ty} {s t : Int} (h : ¬ ((0 ≤ s ∧ s < (L.length : Int)) ∧ 0 ≤ t ∧ t < (L.length : Int))) : ¬ Sub O L s t := fun k => by
 obtain ⟨a, b, h1, h2, _⟩ := k.inv
 exact h ⟨tyAt_rng h1, tyAt_rng h2⟩
theorem not_sub_poss {O : Int → Int → Bool} {L : List Ty} {s t : Int} {a b : Ty} (ha : tyAt L s = some a) (hb : tyAt L t = some b) (h : poss O a b = false) : ¬ Sub O L s t := fun k => by
 rw [(k.at_ ha hb).1] at h; cases h
structure SubW (b : Nat) (w wr : World) (v : Value) (n : Nat) (Wt M : List Pr) : Prop where
 low : Below b w wr
 map : PrM b M wr
 own : wr.ownsRow (b + 1) 99 2 v n (Wt.flatMap pV)
 lt : b + 1 ≤ wr.heap.size
theorem SubW.below {b n : Nat} {w wr wr' : World} {v : Value} {Wt M : List Pr} (h : SubW b w wr v n Wt M) (hb : Below wr.heap.size wr wr') : SubW b w wr' v n Wt M := by
 have := h.lt
 exact ⟨h.low.trans (hb.mono (by omega)), h.map.block (hb.block b (by omega)), ownsRow_below h.own hb, Nat.le_trans h.lt hb.size⟩
theorem ownsRow_pop2 {w : World} {base g n cap : Nat} {e : TypeId} {xs : List Value} {x y : Value} (h : w.ownsRow base e 2 (.slice (some ⟨g, 0, none⟩) (n + 1) cap) (n + 1) (xs ++ [x, y])) : w.ownsRow base e 2 (.slice (some ⟨g, 0, none⟩) n cap) n xs := by
 have hl : xs.length = n * 2 := by have := h.1; simp at this; omega
 rcases h.2 with ⟨h0, _⟩ | ⟨g', cap', cur, e0, hb, hg, h1, h2, h3, h4⟩
 ·
  cases h0
 ·
  injection e0 with e1 e2 e3
  injection e1 with e1
  injection e1 with e1
  subst e1 e3
  refine ⟨hl, .inr ⟨g, cap, cur, rfl, hb, hg, by omega, h2, h3, ?_⟩⟩
  have h5 := congrArg (List.take (n * 2)) h4
  rw [List.take_take, List.take_append_of_le_length (by omega), ← hl, List.take_length] at h5
  rw [← h5, hl]
  congr 1
  omega
theorem run_append_prs {P : Program} (w : World) (base : Nat) (t ty e : TypeId) (i : TypeInfo) (z : Value) (bytes : Nat) (ht : P.underlying t = some (.slice e)) (hi : P.info? e = some i) (hz : i.zero = some z)
    (hsize : i.size = 2) (hby : i.bytes = bytes) (hzs : z.cells.size = 2)
    (v : Value) (n : Nat) (xs : List Value) (hown : w.ownsRow base e 2 v n xs)
    (B : Nat) (A : Option Addr) (m c : Nat) (ps : List Pr) (hr : Cells w B 2 pV A m ps)
    (h63 : n + m ≤ maxLen) (hbytes : (n + m) * bytes ≤ 140737488355328) (hbase : base ≤ w.heap.size) :
    ∃ v' w', (Builtin.append_ #[t, t] ty #[v, .slice A m c]).run P w = .ok v' w' ∧ w'.ownsRow base e 2 v' (n + m) (xs ++ ps.flatMap pV) ∧ w.grownBy w' v.ownBlock ∧
      (v'.ownBlock = v.ownBlock ∨ v'.ownBlock = some w.heap.size) := by
  rcases A with _ | ad
  · have hm : m = 0 := by
      rcases Nat.eq_zero_or_pos m with h0 | h0
      · exact h0
      · obtain ⟨b, o, h, _⟩ := hr.2 h0
        cases h
    subst hm
    have hn : ps = [] := List.eq_nil_of_length_eq_zero hr.1
    subst hn
    exact ⟨v, w, run_append_nil w base t ty e i 2 ht hi v n xs hown c, by simpa using hown, World.grownBy.refl w _, .inl rfl⟩
  · have hcells : ∀ j u, (ps.flatMap pV)[j]? = some u → w.cell? (ad.add j) = some u := by
      intro j u hu
      have hj : j < (ps.flatMap pV).length := (List.getElem?_eq_some_iff.1 hu).1
      rw [flatMap_len pV_len] at hj
      obtain ⟨b, o, h, _, hc⟩ := hr.2 (by have := hr.1; omega)
      injection h with h
      subst h
      have hadd : (⟨b, o, none⟩ : Addr).add j = ⟨b, o + j, none⟩ := by unfold Addr.add; split <;> simp_all
      rw [hadd]
      have hp : ps[j / 2]? = some (ps[j / 2]'(by omega)) := List.getElem?_eq_getElem (by omega)
      have e : j / 2 * 2 + j % 2 = j := by omega
      rw [← e, flatMap_at pV_len hp (by omega)] at hu
      have h2 := hc (j / 2) _ hp (j % 2) u hu
      rw [show o + j / 2 * 2 + j % 2 = o + j by omega] at h2
      exact h2
    obtain ⟨v', w', hrun, h2, h3, _, h5⟩ := run_append_own_at (P := P) w base t ty e i z 2 bytes ht hi hz hsize hby hzs (by decide) v n xs hown ad m c (ps.flatMap pV) (by rw [flatMap_len pV_len, hr.1]) hcells (by intro u hu; obtain ⟨p, _, hp⟩ := List.mem_flatMap.1 hu; exact pV_one p u hp) h63 hbytes hbase
    exact ⟨v', w', hrun, h2, h3, h5⟩
theorem wpList_append_prs {P : Program} (w : World) {ops : Array Oper} {rest : List Oper} {o : Oper} {a : Act} {Q : Exit → Act → World → Prop} (hgd : o.guard = none) (s x : Operand) (t : TypeId)
  (ho : o.op = .call { callee := .builtin .append, args := #[s, x], argTypes := #[t, t] })
  (base : Nat) (e : TypeId) (i : TypeInfo) (z : Value) (bytes : Nat) (ht : P.underlying t = some (.slice e)) (hi : P.info? e = some i) (hz : i.zero = some z)
  (hsize : i.size = 2) (hby : i.bytes = bytes) (hzs : z.cells.size = 2)
  (v : Value) (n : Nat) (xs : List Value) (hs : a.eval s = v) (hown : w.ownsRow base e 2 v n xs)
  (B : Nat) (A : Option Addr) (m c : Nat) (ps : List Pr) (hx : a.eval x = .slice A m c) (hr : Cells w B 2 pV A m ps)
  (h63 : n + m ≤ maxLen) (hbytes : (n + m) * bytes ≤ 140737488355328) (hbase : base ≤ w.heap.size)
  (h : ∀ v' w', w'.ownsRow base e 2 v' (n + m) (xs ++ ps.flatMap pV) → w.grownBy w' v.ownBlock → (v'.ownBlock = v.ownBlock ∨ v'.ownBlock = some w.heap.size) → wpList P ops Q rest (a.put o.dst v') w') : wpList P ops Q (o :: rest) a w := by
 obtain ⟨v', w', hrun, h2, h3, h4⟩ := run_append_prs (P := P) w base t o.type e i z bytes ht hi hz hsize hby hzs v n xs hown B A m c ps hr h63 hbytes hbase
 refine wpList_plain hgd fun K hK => ?_
 unfold Oper.wp execOp
 simp only [ho, resolve, invoke, builtin, Sem.run_bind, Sem.run_pure, Result.andThen_ok, List.map_toArray, List.map_cons, List.map_nil, hs, hx, hrun]
 exact hK _ _ (h v' w' h2 h3 h4)
theorem need_int {a b : TyW} {w : World} {B : Nat} (ha : OneT w B a) (hb : OneT w B b) : ∀ q ∈ needs a.t b.t, IntP q := by
 intro q hq
 unfold needs at hq
 split at hq
 ·
  rcases List.mem_cons.1 hq with rfl | hq
  ·
   exact ⟨ha.ok.e, hb.ok.e⟩
  ·
   split at hq
   ·
    have e : q = (b.t.elem, a.t.elem) := by simpa using hq
    subst e; exact ⟨hb.ok.e, ha.ok.e⟩
   ·
    cases hq
 ·
  split at hq
  ·
   obtain ⟨i, h1, h2⟩ := zip_at hq
   exact ⟨ha.ok.f _ (List.mem_of_getElem? h1), hb.ok.f _ (List.mem_of_getElem? h2)⟩
  ·
   cases hq
theorem need_few {a b : Ty} (h : a.fields.length ≤ 65535) : (needs a b).length ≤ 65535 := by
 unfold needs
 split
 ·
  split <;> simp
 ·
  split
  ·
   rw [List.length_zip]; omega
  ·
   simp
theorem own_lit2b (w : World) (x y : Int) (t : TypeId) {base : Nat} (hb : base ≤ w.heap.size) : (w.alloc (.cells #[.int .i64 x, .int .i64 y] t)).ownsRow base t 2 (.slice (some ⟨w.heap.size, 0, none⟩) 1 1) 1 ([(x, y)].flatMap pV) :=
 ⟨rfl, .inr ⟨w.heap.size, 1, _, rfl, hb, heap_alloc_new w _, Nat.le_refl _, by unfold maxLen; decide, rfl, rfl⟩⟩
theorem ub1 {U1 U2 m1 n8 g : Nat} (h1 : U2 + 1 ≤ U1) (h2 : U1 * 65537 + (m1 + 1) ≤ g) (h3 : n8 ≤ 65535) : U2 * 65537 + (m1 + n8) < g := by omega
theorem ub2 {U1 U2 l K : Nat} (h1 : U2 + 1 ≤ U1) (h2 : l + U1 ≤ K) : l + 1 + U2 ≤ K := by omega
theorem ret_bb {a b : Bool} (h : b = a) : Ending.returned (.bool a) = .returned (.bool b) := by rw [h]
set_option maxHeartbeats 16000000 in
set_option maxRecDepth 100000 in
theorem Subtype_any (r : Nat) (ps : List Pr) (rg rg0 : Int) (A : Option Addr) (n c : Nat) (L : List TyW) (s t : Int) (w : World) (hR : Rel w w.heap.size r ps rg) (hA : Typs w w.heap.size A n L) (hn : n ≤ 1000) (hok : TyOk (tys L) rg0) (hs : IntR s) (ht : IntR t) :
    Calls Tryz.prog 132 #[.pointer (some ⟨r, 0, none⟩), .slice A n c, .int .i64 s, .int .i64 t] w fun e w' => e = .returned (.bool (sub (out ps rg) (tys L) s t)) ∧ Below w.heap.size w w' := by
  obtain ⟨i0, hi, hz0, hz1, hz2⟩ := info_parts infoArr
  have hmm := @run_makeMap Tryz.prog
  have HR := hide hR
  have HA := hide hA
  have HL := hide hA.len
  have HOk := hide hok
  have HI := hide (SubI.begin (O := out ps rg) (L := tys L) (s := s) (t := t) ⟨hs, ht⟩)
  have hb0 : Below w.heap.size w ((w.alloc (.map #[] 0)).alloc (.cells #[.int .i64 s, .int .i64 t] 99)) := ((Below.refl _ _).alloc (Nat.le_refl _) _).alloc (by simp) _
  have HW0 := hide (show SubW w.heap.size w ((w.alloc (.map #[] 0)).alloc (.cells #[.int .i64 s, .int .i64 t] 99)) (.slice (some ⟨w.heap.size + 1, 0, none⟩) 1 1) 1 [(s, t)] [] from
    ⟨hb0, (PrM.made w).block (Below.heap_alloc _ _ _ (by simp)), by have h := own_lit2b (w.alloc (.map #[] 0)) s t 99 (base := w.heap.size + 1) (by simp); rw [World.size_alloc] at h; exact h, by simp⟩)
  have HG0 := hide (show unvis (grid n) [] * 65537 + 1 ≤ 65537000001 by have h1 := unvis_le (grid n) []; rw [grid_len] at h1; have h2 : n * n ≤ 1000 * 1000 := Nat.mul_le_mul hn hn; omega)
  have HN0 := hide (show ([] : List Pr).length + unvis (grid n) [] ≤ 1000000 by have h1 := unvis_le (grid n) []; rw [grid_len] at h1; have h2 : n * n ≤ 1000 * 1000 := Nat.mul_le_mul hn hn; simp; omega)
  clear hR hA hok hs ht hb0
  go_enter Tryz.func132, Tryz.ntmps132
  go_wp2
  go_loopg [10] (unvis (grid n) [] * 65537 + 1) (fun g v wr => ∃ (m : Nat) (Wt M : List Pr), Hid (SubW w.heap.size w wr v m Wt M) ∧ Hid (SubI (out ps rg) (tys L) s t M Wt) ∧ Hid (unvis (grid n) M * 65537 + m ≤ g) ∧ Hid (g ≤ 65537000001) ∧ Hid (M.length + unvis (grid n) M ≤ 1000000))
  case atStart => exact ⟨1, [(s, t)], [], HW0.out, HI.out, Nat.le_refl _, HG0.out, HN0.out⟩
  case round =>
    obtain ⟨m, Wt, M, HW, HS, HM, HG, HN⟩ := hrel
    have hlow := HW.out.low
    have hwlt := HW.out.lt
    obtain ⟨A7, c7, rfl, hmc, hcm⟩ := ownsRow_shape3 HW.out.own
    have hWl : Wt.length = m := (Cells.of_own pV_len (by decide) HW.out.own).1
    have hmG : m ≤ 65537000001 := by have := HM.out; have := HG.out; omega
    unfold maxLen at hcm
    rcases Nat.eq_zero_or_pos m with h0 | h0
    · subst h0
      have e0 : Wt = [] := List.eq_nil_of_length_eq_zero hWl
      subst e0
      have HF := hide (HS.out.end_ HOk.out)
      clear hWl
      go_wp2
      go_ret
      exact ⟨ret_bb HF.out, hlow⟩
    · obtain ⟨m1, rfl⟩ : ∃ m1, m = m1 + 1 := ⟨m - 1, by omega⟩
      obtain ⟨W1, p, rfl, hW1⟩ := snoc_of hWl
      obtain ⟨g7, cap7, hv7, hg7, hg7l⟩ := HW.out.own.form (by omega)
      obtain ⟨rfl, rfl⟩ : A7 = some ⟨g7, 0, none⟩ ∧ c7 = cap7 := by injection hv7 with h1 h2 h3; exact ⟨h1, h3⟩
      obtain ⟨b, o, e, _, hc⟩ := (Cells.of_own pV_len (by decide) HW.out.own).at_ (i := m1) (x := p) (by rw [List.getElem?_append_right (by omega), hW1, Nat.sub_self]; rfl)
      have hip := HS.out.intW p (by simp)
      have hO1 := HW.out.own
      rw [List.flatMap_append] at hO1
      obtain ⟨x, y⟩ := p
      have hO2 : wr.ownsRow (w.heap.size + 1) 99 2 (.slice (some ⟨g7, 0, none⟩) m1 c7) m1 (W1.flatMap pV) := ownsRow_pop2 (x := .int .i64 x) (y := .int .i64 y) hO1
      have d0 : wr.cell? ⟨g7, m1 * 2, none⟩ = some (.int .i64 x) := by
        have h := hc 0 _ rfl
        injection e with e; injection e with e1 e2
        rw [← e1, ← e2] at h
        simpa using h
      have d1 : wr.cell? ⟨g7, m1 * 2 + 1, none⟩ = some (.int .i64 y) := by
        have h := hc 1 _ rfl
        injection e with e; injection e with e1 e2
        rw [← e1, ← e2] at h
        simpa using h
      have hal := (Below.refl wr.heap.size wr).alloc (Nat.le_refl _) (.cells #[.int .i64 x, .int .i64 y] 99)
      have HW1 := hide (SubW.below (wr' := wr.alloc (.cells #[.int .i64 x, .int .i64 y] 99)) ⟨HW.out.low, HW.out.map, hO2, HW.out.lt⟩ hal)
      have hm0 : (0 : Int) ≤ (m1 : Int) := Int.natCast_nonneg _
      clear hWl hv7 hc e hO1 hO2 hW1
      by_cases hpM : (x, y) ∈ M
      · have HRUN := hide (HW1.out.map.look hip (decide_eq_true hpM))
        have HS2 := hide (HS.out.seen hpM)
        clear hpM hip
        go_wp2_with (at_lookup; refine wpList_look _ rfl _ _ _ false rfl _ _ _ rfl rfl HRUN.out ?_)
        go_roundg (unvis (grid n) M * 65537 + m1)
        case rel => exact ⟨m1, W1, M, HW1.out, HS2.out, Nat.le_refl _, (show _ ≤ _ by have := HM.out; have := HG.out; omega), HN.out⟩
        case measure => have := HM.out; omega
      · have HRUN := hide (HW1.out.map.look hip (decide_eq_false hpM))
        obtain ⟨m3, Dm, o1, o2, o3, o4⟩ := HW1.out.map
        have hm3 : m3 < maxLen := by have := HN.out; unfold maxLen; omega
        have HO1 := hide o1
        have HO3 := hide o3
        have HO4 := hide o4
        have HIP := hide hip
        have HPM := hide hpM
        clear o1 o3 o4 hip hpM
        by_cases hrx : tyIn x (n : Int) = true ∧ tyIn y (n : Int) = true
        · obtain ⟨hx, hy⟩ := hrx
          obtain ⟨hx0, hx1⟩ := tyIn_iff.1 hx
          obtain ⟨hy0, hy1⟩ := tyIn_iff.1 hy
          obtain ⟨i, rfl⟩ := Int.eq_ofNat_of_zero_le hx0
          obtain ⟨j, rfl⟩ := Int.eq_ofNat_of_zero_le hy0
          have hex : ∃ a, L[i]? = some a := ⟨_, List.getElem?_eq_getElem (by have := HL.out; omega)⟩
          obtain ⟨xa, hxa⟩ := hex
          have hex : ∃ a, L[j]? = some a := ⟨_, List.getElem?_eq_getElem (by have := HL.out; omega)⟩
          obtain ⟨xb, hxb⟩ := hex
          have hta : tyAt (tys L) (i : Int) = some xa.t := by rw [tyAt_nat]; exact tys_at hxa
          have htb : tyAt (tys L) (j : Int) = some xb.t := by rw [tyAt_nat]; exact tys_at hxb
          have HX := hide hx
          have HY := hide hy
          have HTA := hide hta
          have HTB := hide htb
          have HXA := hide hxa
          have HXB := hide hxb
          have hoa := HA.out.one xa (List.mem_of_getElem? hxa)
          have hob := HA.out.one xb (List.mem_of_getElem? hxb)
          have hfa : xa.t.fields.length ≤ 65535 := by
            have := HOk.out.own (tys_at hxa)
            by_cases h4 : xa.t.kind = 4
            · exact (this.2.2.2.2.2 h4).2
            · rw [this.2.2.1 h4]; simp
          have hfb : xb.t.fields.length ≤ 65535 := by
            have := HOk.out.own (tys_at hxb)
            by_cases h4 : xb.t.kind = 4
            · exact (this.2.2.2.2.2 h4).2
            · rw [this.2.2.1 h4]; simp
          have HNI := hide (need_int hoa hob)
          have HNF := hide (need_few (b := xb.t) hfa)
          have HGrid := hide (unvis_up (grid_mem (p := ((i : Int), (j : Int))) ⟨hx0, hx1⟩ ⟨hy0, hy1⟩) HPM.out)
          have HCmp := hide fun (w' : World) (hb : Below w.heap.size w w') => compare_any r xa xb ps rg w' ((HR.out.below hb).more hb.size) ((hoa.below hb).more hb.size) ((hob.below hb).more hb.size) (by rw [← hoa.ok.len]; exact hfa) (by rw [← hob.ok.len]; exact hfb)
          have hij : (i : Int) < (n : Int) := hx1
          have hjn : (j : Int) < (n : Int) := hy1
          have hi0 : (0 : Int) ≤ (i : Int) := hx0
          have hj0 : (0 : Int) ≤ (j : Int) := hy0
          obtain ⟨bl, ol, hAe, hbl, _⟩ := HA.out.at_ hxa
          subst hAe
          have hmU : ∀ w7 : World, (wr.alloc (.cells #[.int .i64 (i : Int), .int .i64 (j : Int)] 99)).grownBy w7 (some w.heap.size) → Below w.heap.size w w7 ∧ wr.heap.size < w7.heap.size ∧ ∀ w', Below w7.heap.size w7 w' →
              (Below w7.heap.size w7 w' ∧ w'.cell? ⟨wr.heap.size, 0, none⟩ = some (.int .i64 (i : Int)) ∧ w'.cell? ⟨wr.heap.size, 1, none⟩ = some (.int .i64 (j : Int)) ∧
              w'.cell? ⟨bl, ol + i * 5, none⟩ = some (.int .i64 xa.t.kind) ∧ w'.cell? ⟨bl, ol + i * 5 + 1, none⟩ = some (.bool xa.t.mut_) ∧ w'.cell? ⟨bl, ol + i * 5 + 2, none⟩ = some (.int .i64 xa.t.region) ∧ w'.cell? ⟨bl, ol + i * 5 + 3, none⟩ = some (.int .i64 xa.t.elem) ∧ w'.cell? ⟨bl, ol + i * 5 + 4, none⟩ = some (.slice xa.A xa.n xa.c) ∧
              w'.cell? ⟨bl, ol + j * 5, none⟩ = some (.int .i64 xb.t.kind) ∧ w'.cell? ⟨bl, ol + j * 5 + 1, none⟩ = some (.bool xb.t.mut_) ∧ w'.cell? ⟨bl, ol + j * 5 + 2, none⟩ = some (.int .i64 xb.t.region) ∧ w'.cell? ⟨bl, ol + j * 5 + 3, none⟩ = some (.int .i64 xb.t.elem) ∧ w'.cell? ⟨bl, ol + j * 5 + 4, none⟩ = some (.slice xb.A xb.n xb.c)) := by
            intro w7 hg
            have hlow7 : Below w.heap.size w w7 := HW1.out.low.grown hg HW1.out.low.size (fun k hk => by cases hk; exact Nat.le_refl _)
            have hsz7 : wr.heap.size < w7.heap.size := by have := hg.size; rw [World.size_alloc] at this; omega
            refine ⟨hlow7, hsz7, fun w' hb => ?_⟩
            have hA' := HA.out.below (hlow7.trans (hb.mono hlow7.size))
            obtain ⟨b1, o1, e1, _, _, a0, a1, a2, a3, a4⟩ := hA'.at_ HXA.out
            obtain ⟨rfl, rfl⟩ : bl = b1 ∧ ol = o1 := by injection e1 with e1; injection e1 with e1 e2; exact ⟨e1, e2⟩
            obtain ⟨b2, o2, e2, _, _, c0, c1, c2, c3, c4⟩ := hA'.at_ HXB.out
            obtain ⟨rfl, rfl⟩ : bl = b2 ∧ ol = o2 := by injection e2 with e2; injection e2 with e1 e2; exact ⟨e1, e2⟩
            exact ⟨hb, (hb.cell (p := ⟨wr.heap.size, 0, none⟩) hsz7).trans (hg.cell (by simp [go_sem]) (fun e => by injection e with e; have e2 : wr.heap.size = w.heap.size := e; omega)), (hb.cell (p := ⟨wr.heap.size, 1, none⟩) hsz7).trans (hg.cell (by simp [go_sem]) (fun e => by injection e with e; have e2 : wr.heap.size = w.heap.size := e; omega)), a0, a1, a2, a3, a4, c0, c1, c2, c3, c4⟩
          have HU := hide hmU
          clear hx hy hx0 hx1 hy0 hy1 hta htb hxa hxb hoa hob hfa hfb hmU hbl
          go_wp2_with (first
            | (at_lookup; refine wpList_look _ rfl _ _ _ false rfl _ _ _ rfl rfl HRUN.out ?_)
            | (at_mapUpdate; go_must (refine wpList_mapUpdate_own _ rfl _ _ _ 95 rfl 99 4 pair_law mapPair _ w.heap.size m3 Dm rfl HO1.out hm3 _ _ (keyP ((i : Int), (j : Int))) rfl rfl (keyOf_pair HIP.out) (.lit (.bool true)) [] (plainElem_bool Tryz.underlying4 true) ?_; intro w7 hown7 hg7; obtain ⟨hb7, hs7, hU7⟩ := HU.out w7 hg7; have HO7 := hide hown7; have HG7 := hide hg7; have HB7 := hide hb7; have HU7 := hide hU7; obtain ⟨_, u0, u1, _⟩ := hU7 w7 (Below.refl _ _); clear hown7 hg7 hb7 hU7))
            | (go_at_call 73; refine (rwithin_is HX.out _).mono ?_; clear HX; rintro e w8 ⟨rfl, rfl⟩)
            | (go_at_call 73; go_must (refine (rwithin_is HY.out _).mono ?_; rintro e w8 ⟨rfl, rfl⟩)))
          go_region_held3 (fun w' => Below w7.heap.size w7 w' ∧ w'.cell? ⟨wr.heap.size, 0, none⟩ = some (.int .i64 (i : Int)) ∧ w'.cell? ⟨wr.heap.size, 1, none⟩ = some (.int .i64 (j : Int)) ∧
              w'.cell? ⟨bl, ol + i * 5, none⟩ = some (.int .i64 xa.t.kind) ∧ w'.cell? ⟨bl, ol + i * 5 + 1, none⟩ = some (.bool xa.t.mut_) ∧ w'.cell? ⟨bl, ol + i * 5 + 2, none⟩ = some (.int .i64 xa.t.region) ∧ w'.cell? ⟨bl, ol + i * 5 + 3, none⟩ = some (.int .i64 xa.t.elem) ∧ w'.cell? ⟨bl, ol + i * 5 + 4, none⟩ = some (.slice xa.A xa.n xa.c) ∧
              w'.cell? ⟨bl, ol + j * 5, none⟩ = some (.int .i64 xb.t.kind) ∧ w'.cell? ⟨bl, ol + j * 5 + 1, none⟩ = some (.bool xb.t.mut_) ∧ w'.cell? ⟨bl, ol + j * 5 + 2, none⟩ = some (.int .i64 xb.t.region) ∧ w'.cell? ⟨bl, ol + j * 5 + 3, none⟩ = some (.int .i64 xb.t.elem) ∧ w'.cell? ⟨bl, ol + j * 5 + 4, none⟩ = some (.slice xb.A xb.n xb.c))
            (first | exact HU7.out _ (by assumption) | exact HU7.out _ (Below.refl _ _) | exact HU7.out _ (Below.refl _ _).drew)
            ((go_at_call 136; go_split_ands; refine (HCmp.out _ (HB7.out.trans (Below.mono (by assumption : Below w7.heap.size w7 _) HB7.out.size))).mono ?_; rintro e w8 ⟨A8, n8, c8, rfl, hr8, hb0⟩; have hb8 := Below.trans (by assumption : Below w7.heap.size w7 _) (hb0.mono (Below.size (by assumption : Below w7.heap.size w7 _)))))
          all_goals
            go_split_ands
            have hg7b : w.heap.size + 1 ≤ g7 := hg7
            have hlow8 : Below w.heap.size w w8 := HB7.out.trans (hb8.mono HB7.out.size)
            have hown7 : w7.ownsRow (w.heap.size + 1) 99 2 (.slice (some ⟨g7, 0, none⟩) m1 c7) m1 (W1.flatMap pV) := HW1.out.own.kept HG7.out (.inr (fun e => by injection e with e; have e2 : g7 = w.heap.size := e; omega))
            have hown8 := hide (ownsRow_below hown7 hb8)
            have hpm := hide (PrM.put (fun q hq => HS.out.intM q hq) HO1.out o2 HO3.out HO4.out HIP.out HO7.out)
            have HB8 := hide hb8
            have HL8 := hide hlow8
            have hs78 := hb8.size
            obtain ⟨v, hv⟩ : ∃ v, poss (out ps rg) xa.t xb.t = v := ⟨_, rfl⟩
            rw [hv] at hr8
            rw [hv]
            have HV := hide hv
            have HR8 := hide hr8
            clear hv hr8 hown7 hlow8
            cases v
            · have HF := hide (HS.out.fail (not_sub_poss HTA.out HTB.out HV.out))
              go_wp2
              go_ret
              exact ⟨ret_bb HF.out, HL8.out⟩
            · have hr := HR8.out rfl
              have hn8 : (needs xa.t xb.t).length = n8 := hr.2.2.1
              have hn8f : n8 ≤ 65535 := by rw [← hn8]; exact HNF.out
              have HRT := hide hr.2.2
              have HS2 := hide (HS.out.step HTA.out HTB.out HV.out HNI.out)
              clear hr
              have hA1 : m1 + n8 ≤ maxLen := by unfold maxLen; omega
              have hA2 : (m1 + n8) * 16 ≤ 140737488355328 := by omega
              have hA3 : w.heap.size + 1 ≤ w8.heap.size := by omega
              go_wp2_with (at_builtin; go_must (refine wpList_append_prs _ rfl _ _ 23 rfl (w.heap.size + 1) 99 i0 (.agg #[.int .i64 0, .int .i64 0]) 16 Tryz.underlying23 hi hz0 hz1 hz2 rfl _ m1 _ rfl hown8.out _ _ n8 c8 (needs xa.t xb.t) rfl HRT.out hA1 hA2 hA3 ?_; intro v9 w9 hown9 hg9 hat9; have HO9 := hide hown9; have HG9 := hide hg9; clear hown9 hg9 hat9))
              go_roundg (unvis (grid n) (M ++ [((i : Int), (j : Int))]) * 65537 + (m1 + n8))
              case rel =>
                have hlow9 := HL8.out.grown HG9.out (by omega) (fun k hk => by have e : some g7 = some k := hk; injection e with e; omega)
                have hGr := HGrid.out
                have hle : unvis (grid n) (M ++ [((i : Int), (j : Int))]) * 65537 + (m1 + n8) ≤ 65537000001 := Nat.le_trans (Nat.le_of_lt (ub1 hGr HM.out hn8f)) HG.out
                have hct : (M ++ [((i : Int), (j : Int))]).length + unvis (grid n) (M ++ [((i : Int), (j : Int))]) ≤ 1000000 := by rw [List.length_append, List.length_singleton]; exact ub2 hGr HN.out
                refine ⟨m1 + n8, W1 ++ needs xa.t xb.t, M ++ [((i : Int), (j : Int))], ⟨hlow9, hpm.out.block ((HG9.out.block w.heap.size (by omega) (fun e => by injection e with e; have e2 : w.heap.size = g7 := e; omega)).trans (HB8.out.block w.heap.size (by omega))), ?_, by have := HG9.out.size; omega⟩, HS2.out, hide (Nat.le_refl _), hide hle, hide hct⟩
                rw [List.flatMap_append]
                exact HO9.out
              case measure => exact ub1 HGrid.out HM.out hn8f
        · have HF := hide (HS.out.fail (not_sub_rng fun h => hrx ⟨tyIn_iff.2 (by have := h.1; rw [tys_len, HL.out] at this; exact this), tyIn_iff.2 (by have := h.2; rw [tys_len, HL.out] at this; exact this)⟩))
          have hmU : ∀ w7 : World, (wr.alloc (.cells #[.int .i64 x, .int .i64 y] 99)).grownBy w7 (some w.heap.size) → w7.cell? ⟨wr.heap.size, 0, none⟩ = some (.int .i64 x) ∧ w7.cell? ⟨wr.heap.size, 1, none⟩ = some (.int .i64 y) ∧ Below w.heap.size w w7 := fun w7 hg =>
            ⟨hg.cell (by simp [go_sem]) (fun e => by injection e with e; have e2 : wr.heap.size = w.heap.size := e; omega), hg.cell (by simp [go_sem]) (fun e => by injection e with e; have e2 : wr.heap.size = w.heap.size := e; omega), HW1.out.low.grown hg HW1.out.low.size (fun k hk => by cases hk; exact Nat.le_refl _)⟩
          have HU := hide hmU
          clear hmU
          cases hx : tyIn x (n : Int)
          · have HX := hide hx
            clear hx hrx
            go_wp2_with (first
              | (at_lookup; refine wpList_look _ rfl _ _ _ false rfl _ _ _ rfl rfl HRUN.out ?_)
              | (at_mapUpdate; go_must (refine wpList_mapUpdate_own _ rfl _ _ _ 95 rfl 99 4 pair_law mapPair _ w.heap.size m3 Dm rfl HO1.out hm3 _ _ (keyP (x, y)) rfl rfl (keyOf_pair HIP.out) (.lit (.bool true)) [] (plainElem_bool Tryz.underlying4 true) ?_; intro w7 hown7 hg7; obtain ⟨u0, u1, hb7⟩ := HU.out w7 hg7; clear hown7 hg7))
              | (go_at_call 73; go_must (refine (rwithin_is HX.out _).mono ?_; rintro e w8 ⟨rfl, rfl⟩)))
            go_ret
            exact ⟨ret_bb HF.out, hb7⟩
          · have hy : tyIn y (n : Int) = false := by
              cases e : tyIn y (n : Int)
              · rfl
              · exact absurd ⟨hx, e⟩ hrx
            have HX := hide hx
            have HY := hide hy
            clear hx hy hrx
            go_wp2_with (first
              | (at_lookup; refine wpList_look _ rfl _ _ _ false rfl _ _ _ rfl rfl HRUN.out ?_)
              | (at_mapUpdate; go_must (refine wpList_mapUpdate_own _ rfl _ _ _ 95 rfl 99 4 pair_law mapPair _ w.heap.size m3 Dm rfl HO1.out hm3 _ _ (keyP (x, y)) rfl rfl (keyOf_pair HIP.out) (.lit (.bool true)) [] (plainElem_bool Tryz.underlying4 true) ?_; intro w7 hown7 hg7; obtain ⟨u0, u1, hb7⟩ := HU.out w7 hg7; clear hown7 hg7))
              | (go_at_call 73; refine (rwithin_is HX.out _).mono ?_; clear HX; rintro e w8 ⟨rfl, rfl⟩)
              | (go_at_call 73; go_must (refine (rwithin_is HY.out _).mono ?_; rintro e w8 ⟨rfl, rfl⟩)))
            go_ret
            exact ⟨ret_bb HF.out, hb7⟩
theorem Subtype_is {r : Nat} {ps : List Pr} {rg rg0 : Int} {A : Option Addr} {n c : Nat} {L : List TyW} {s t : Int} {v : Bool} (h : sub (out ps rg) (tys L) s t = v) (w : World) (hR : Rel w w.heap.size r ps rg) (hA : Typs w w.heap.size A n L) (hn : n ≤ 1000) (hok : TyOk (tys L) rg0) (hs : IntR s) (ht : IntR t) :
  Calls Tryz.prog 132 #[.pointer (some ⟨r, 0, none⟩), .slice A n c, .int .i64 s, .int .i64 t] w fun e w' => e = .returned (.bool v) ∧ Below w.heap.size w w' := h ▸ Subtype_any r ps rg rg0 A n c L s t w hR hA hn hok hs ht
end Go.Proofs.YtfgacmgjpikgaaaGreatDoor
