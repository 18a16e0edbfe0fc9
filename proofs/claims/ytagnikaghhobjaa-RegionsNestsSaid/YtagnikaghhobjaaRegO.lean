/- The reference's Outlives. -/
import Derived.Test.YtagnikaghhobjaaRegC
import Derived.Test.YtagnikaghhobjaaTypS
import Derived.Test.YtagnikaghhobjaaAppend
set_option linter.unusedVariables false
namespace Go.Proofs.Ytagnikaghhobjaa
open Go.RowKit

theorem RHas_any (A : Option Addr) (n c : Nat) (xs : List Int) (x : Int) (w : World) (B : Nat) (hx : Rd w B A n (i64s xs)) (hn : n ≤ maxLen) :
    Calls Try.prog 33 #[.slice A n c, .int .i64 x] w fun e w' => e = .returned (.bool (decide (x ∈ xs))) ∧ w = w' := by
  have HX := hide hx
  have HL := hide hx.ilen
  unfold maxLen at hn
  clear hx
  go_enter Try.func33, Try.ntmps33
  go_wp2
  go_loop [5] (fun i => ∃ j : Nat, i = .int .i64 (j : Int) ∧ j ≤ n ∧ Hid (∀ t y, t < j → xs[t]? = some y → y ≠ x)) (fun i => n - (intOf i).toNat)
  case atStart => exact ⟨0, rfl, Nat.zero_le _, fun t y h => absurd h (Nat.not_lt_zero _)⟩
  case round =>
    obtain ⟨j, rfl, hj, HT⟩ := hrel
    by_cases hlt : j < n
    · have hex : ∃ a, xs[j]? = some a := ⟨_, List.getElem?_eq_getElem (by have := HL.out; omega)⟩
      obtain ⟨a, ha⟩ := hex
      have hlt' : (j : Int) < (n : Int) := by omega
      obtain ⟨b, o, rfl, hbB, c0⟩ := HX.out.int ha
      by_cases hax : a = x
      · subst hax
        have HF := hide (show decide (a ∈ xs) = true from decide_eq_true (List.mem_of_getElem? ha))
        clear ha
        go_wp2
        go_ret
        exact ⟨congrArg (fun v => Ending.returned (.bool v)) HF.out.symm, rfl⟩
      · have t1 : (a == x) = false := by simpa using hax
        have HN := hide (show ∀ t y, t < j + 1 → xs[t]? = some y → y ≠ x from fun t y ht hy => by
          rcases Nat.lt_or_ge t j with h | h
          · exact HT.out t y h hy
          · obtain rfl : j = t := by omega
            rw [ha] at hy
            injection hy with hy
            exact hy ▸ hax)
        clear ha hax
        go_wp2
        go_round
        case rel => exact ⟨j + 1, by go_num, by omega, HN.out⟩
        case measure => simp [intOf]; omega
    · obtain rfl : j = n := by omega
      have HF := hide (show decide (x ∈ xs) = false from decide_eq_false fun h => by
        obtain ⟨t, ht⟩ := List.getElem?_of_mem h
        exact HT.out t x (by have := (List.getElem?_eq_some_iff.1 ht).1; have := HL.out; omega) ht rfl)
      go_wp2
      go_ret
      exact ⟨congrArg (fun v => Ending.returned (.bool v)) HF.out.symm, rfl⟩
theorem RHas_is {A : Option Addr} {n c : Nat} {xs : List Int} {x : Int} {v : Bool} (h : decide (x ∈ xs) = v) (w : World) (B : Nat) (hx : Rd w B A n (i64s xs)) (hn : n ≤ maxLen) :
    Calls Try.prog 33 #[.slice A n c, .int .i64 x] w fun e w' => e = .returned (.bool v) ∧ w = w' := h ▸ RHas_any A n c xs x w B hx hn
theorem RHas_q {A : Option Addr} {n c : Nat} {xs : List Int} {x : Int} {v : Bool} (h : decide (x ∈ xs) = v) (w : World) (B : Nat) (hx : Rd w B A n (i64s xs)) (hn : n ≤ maxLen) :
    Calls Try.prog 33 #[.slice A n c, .int .i64 x] w fun e w' => e = .returned (.bool v) ∧ w' = w := by
  refine (RHas_is (c := c) h w B hx hn).mono ?_
  rintro e w' ⟨rfl, rfl⟩
  exact ⟨rfl, rfl⟩

/-! ### the set of what is reached -/
/-- how many pairs lead out of the set -/
def unr (ps : List Pr) (Z : List Int) : Nat := ps.countP fun p => !Z.contains p.2
theorem unr_up {ps : List Pr} {Z : List Int} {p : Pr} (hp : p ∈ ps) (hn : p.2 ∉ Z) : unr ps (Z ++ [p.2]) + 1 ≤ unr ps Z := by
  unfold unr
  induction ps with
  | nil => cases hp
  | cons q ps ih =>
    have mono : ∀ qs : List Pr, (qs.countP fun r => !(Z ++ [p.2]).contains r.2) ≤ qs.countP fun r => !Z.contains r.2 := by
      intro qs
      refine List.countP_mono_left fun r _ h => ?_
      simp at h ⊢
      exact h.1
    rw [List.countP_cons, List.countP_cons]
    rcases List.mem_cons.1 hp with rfl | hp
    · have h1 := mono ps
      have e1 : (!(Z ++ [p.2]).contains p.2) = false := by simp
      have e2 : (!Z.contains p.2) = true := by simpa using hn
      rw [if_neg (by rw [e1]; decide), if_pos e2]
      omega
    · have h1 := ih hp
      have h2 := mono [q]
      rw [List.countP_cons, List.countP_cons, List.countP_nil, List.countP_nil] at h2
      omega
structure Rch (ps : List Pr) (a b : Int) (Z : List Int) (i : Nat) : Prop where
  bound : Z.length + unr ps Z ≤ ps.length + 1
  way : ∀ z ∈ Z, Way ps a z
  start : a ∈ Z
  no : ∀ t z, t < i → Z[t]? = some z → z ≠ b
  done : ∀ t z, t < i → Z[t]? = some z → ∀ c, (z, c) ∈ ps → c ∈ Z
theorem Rch.begin (ps : List Pr) (a b : Int) : Rch ps a b [a] 0 :=
  ⟨by have : unr ps [a] ≤ ps.length := List.countP_le_length; simp; omega, (fun z hz => by
    have e : z = a := by simpa using hz
    subst e
    exact Way.refl _), by simp, fun t z h => absurd h (Nat.not_lt_zero _), fun t z h => absurd h (Nat.not_lt_zero _)⟩
theorem Rch.up {ps : List Pr} {a b : Int} {Z : List Int} {i : Nat} (h : Rch ps a b Z i) {z : Int} (hz : Z[i]? = some z) {c : Int} (hp : (z, c) ∈ ps) (hn : c ∉ Z) : Rch ps a b (Z ++ [c]) i := by
  have hi := (List.getElem?_eq_some_iff.1 hz).1
  have old : ∀ t y, t < i → (Z ++ [c])[t]? = some y → Z[t]? = some y := fun t y ht hy => by rwa [List.getElem?_append_left (by omega)] at hy
  refine ⟨by have h1 : unr ps (Z ++ [c]) + 1 ≤ unr ps Z := unr_up hp hn; have h2 := h.bound; rw [List.length_append, List.length_singleton]; omega, fun y hy => ?_, by simp [h.start], fun t y ht hy => h.no t y ht (old t y ht hy), fun t y ht hy d hd => by simp [h.done t y ht (old t y ht hy) d hd]⟩
  rcases List.mem_append.1 hy with hy | hy
  · exact h.way y hy
  · obtain rfl : y = c := by simpa using hy
    exact (h.way z (List.mem_of_getElem? hz)).snoc hp
theorem Rch.next {ps : List Pr} {a b : Int} {Z : List Int} {i : Nat} (h : Rch ps a b Z i) {z : Int} (hz : Z[i]? = some z) (hb : z ≠ b) (hd : ∀ c, (z, c) ∈ ps → c ∈ Z) : Rch ps a b Z (i + 1) := by
  refine ⟨h.bound, h.way, h.start, fun t y ht hy => ?_, fun t y ht hy => ?_⟩
  · rcases Nat.lt_or_ge t i with h1 | h1
    · exact h.no t y h1 hy
    · obtain rfl : t = i := by omega
      rw [hz] at hy; injection hy with hy; exact hy ▸ hb
  · rcases Nat.lt_or_ge t i with h1 | h1
    · exact h.done t y h1 hy
    · obtain rfl : t = i := by omega
      rw [hz] at hy; injection hy with hy; exact hy ▸ hd
theorem Rch.end_ {ps : List Pr} {a b : Int} {Z : List Int} {i : Nat} (h : Rch ps a b Z i) (hi : Z.length ≤ i) : ¬ Way ps a b := by
  intro w
  have key : ∀ c, c ∈ Z → ∀ d, Way ps c d → d ∈ Z := by
    intro c hc d hw
    induction hw with
    | refl => exact hc
    | step m _ ih =>
      obtain ⟨t, ht⟩ := List.getElem?_of_mem hc
      exact ih (h.done t _ (by have := (List.getElem?_eq_some_iff.1 ht).1; omega) ht _ m)
  obtain ⟨t, ht⟩ := List.getElem?_of_mem (key a h.start b w)
  exact h.no t b (by have := (List.getElem?_eq_some_iff.1 ht).1; omega) ht rfl
theorem Rch.found {ps : List Pr} {a b : Int} {Z : List Int} {i : Nat} (h : Rch ps a b Z i) (hz : Z[i]? = some b) : Way ps a b := h.way b (List.mem_of_getElem? hz)

theorem out_far {ps : List Pr} {n a b : Int} (h : ¬ ((0 ≤ a ∧ a < n) ∧ 0 ≤ b ∧ b < n)) : out ps n a b = false := out_not.2 fun k => h ⟨k.1, k.2.1⟩
theorem own_lit1 (w : World) (x : Int) (t : TypeId) : (w.alloc (.cells #[.int .i64 x] t)).ownsRow w.heap.size t 1 (.slice (some ⟨w.heap.size, 0, none⟩) 1 1) 1 (i64s [x]) :=
  ⟨rfl, .inr ⟨w.heap.size, 1, _, rfl, Nat.le_refl _, heap_alloc_new w _, Nat.le_refl _, by unfold maxLen; decide, rfl, rfl⟩⟩
/-- what is asked of a step of the search -/
theorem rref_lt {ps : List Pr} {a b : Int} {Z : List Int} {i : Nat} (h : Rch ps a b Z i) : Z.length ≤ ps.length + 1 := by have := h.bound; omega

set_option maxHeartbeats 4000000 in
set_option maxRecDepth 100000 in
theorem ROutlives_in (A : Option Addr) (n c : Nat) (ps : List Pr) (rg a b : Int) (w : World) (hA : Prs w w.heap.size A n ps) (hn : n ≤ 65535) (ha : 0 ≤ a ∧ a < rg) (hb : 0 ≤ b ∧ b < rg) :
    Calls Try.prog 17 #[.slice A n c, .int .i64 rg, .int .i64 a, .int .i64 b] w fun e w' => e = .returned (.bool (out ps rg a b)) ∧ Below w.heap.size w w' := by
  obtain ⟨i0, hi, hz0, hz1, hz2⟩ := info_parts infoInt
  have HA := hide hA
  have HL := hide hA.len
  have HOut := hide (show ∀ v : Bool, (v = true ↔ Way ps a b) → v = out ps rg a b from fun v hv => out_eq (hv.trans ⟨fun h => ⟨ha, hb, h⟩, fun h => h.2.2⟩))
  have t1 : decide (a < 0) = false := decide_eq_false (by omega)
  have t2 : decide (rg ≤ a) = false := decide_eq_false (by omega)
  have t3 : decide (b < 0) = false := decide_eq_false (by omega)
  have t4 : decide (rg ≤ b) = false := decide_eq_false (by omega)
  clear hA ha hb
  go_enter Try.func17, Try.ntmps17
  go_wp2
  go_loopw [9, 10] (fun v i wr => ∃ (Z : List Int) (k m : Nat), i = .int .i64 (k : Int) ∧ k ≤ m ∧ m ≤ n + 1 ∧ wr.ownsRow w.heap.size 3 1 v m (i64s Z) ∧ Below w.heap.size w wr ∧ Hid (Rch ps a b Z k)) (fun _ i _ => (n + 1) - (intOf i).toNat)
  case atStart => exact ⟨[a], 0, 1, rfl, by omega, by omega, own_lit1 w a 3, (Below.refl _ _).alloc (Nat.le_refl _) _, Rch.begin _ _ _⟩
  case round =>
    obtain ⟨Z, k, m, rfl, hk, hm, hown, hb, HR⟩ := hrel
    obtain ⟨A1, c1, rfl, hk1, hc1⟩ := ownsRow_shape3 hown
    have HO := hide hown
    have HB := hide hb
    have hsz := hb.size
    have HZ := hide (Rd.of_own hown)
    unfold maxLen at hc1
    clear hown hb
    by_cases hlt : k < m
    · have hex : ∃ z, Z[k]? = some z := ⟨_, List.getElem?_eq_getElem (by have := HZ.out.ilen; omega)⟩
      obtain ⟨z, hz⟩ := hex
      have hlt' : (k : Int) < (m : Int) := by omega
      obtain ⟨gz, oz, rfl, hgz, cz⟩ := HZ.out.int hz
      by_cases hzb : z = b
      · subst hzb
        have HF := hide (HOut.out true ⟨fun _ => HR.out.found hz, fun _ => rfl⟩)
        clear hz
        go_wp2
        go_ret
        exact ⟨congrArg (fun v => Ending.returned (.bool v)) HF.out, HB.out⟩
      · have tz : (z == b) = false := by simpa using hzb
        have HZK := hide hz
        have HZB := hide hzb
        clear hz hzb
        go_wp2
        have hex : ∃ wv, wv = wr := ⟨_, rfl⟩
        obtain ⟨wv, hwv⟩ := hex
        rw [← hwv] at HO HB HZ hsz ⊢
        clear hwv cz
        go_loopw [9, 11] (fun v i wr2 => ∃ (Z2 : List Int) (j m2 : Nat), i = .int .i64 (j : Int) ∧ j ≤ n ∧ k < m2 ∧ m2 ≤ n + 1 ∧ wr2.ownsRow w.heap.size 3 1 v m2 (i64s Z2) ∧ Below w.heap.size w wr2 ∧ Hid (Rch ps a b Z2 k) ∧ Hid (Z2[k]? = some z) ∧ Hid (∀ t q, t < j → ps[t]? = some q → q.1 = z → q.2 ∈ Z2)) (fun _ i _ => n - (intOf i).toNat)
        case atStart => exact ⟨Z, 0, m, rfl, by omega, hlt, hm, HO.out, HB.out, HR.out, HZK.out, fun t q h => absurd h (Nat.not_lt_zero _)⟩
        case round =>
          obtain ⟨Z2, j, m2, rfl, hj, hkm2, hm2, hown2, hb2, HR2, HZ2, HJ⟩ := hrel
          obtain ⟨A2, c2, rfl, hk2, hc2⟩ := ownsRow_shape3 hown2
          have HO2 := hide hown2
          have HB2 := hide hb2
          have hsz2 := hb2.size
          have HRD := hide (Rd.of_own hown2)
          have HL2 := hide (Rd.of_own hown2).ilen
          unfold maxLen at hc2
          clear hown2 hb2
          have hkm2' : (k : Int) < (m2 : Int) := by omega
          by_cases hjn : j < n
          · obtain ⟨q, hq⟩ := HA.out.get hjn
            obtain ⟨b1, o1, rfl, hb1, _, c0, c1'⟩ := (HA.out.below HB2.out).at_ hq
            obtain ⟨gz, oz, rfl, hgz, cz⟩ := HRD.out.int HZ2.out
            obtain ⟨u, v⟩ := q
            simp only [] at c0 c1'
            have hjn' : (j : Int) < (n : Int) := by omega
            have hj0 : (0 : Int) ≤ (j : Int) := Int.natCast_nonneg _
            have hk0 : (0 : Int) ≤ (k : Int) := Int.natCast_nonneg _
            have HQQ := hide hq
            clear hq
            by_cases huz : u = z
            · subst huz
              have tu : (u == u) = true := by simp
              by_cases hv : v ∈ Z2
              · have HQ := hide fun (x : Nat) => RHas_q (c := c2) (decide_eq_true hv) (wr.drewN x) _ (HRD.out.below (tyN (Below.refl _ _) x)) (by unfold maxLen; omega)
                have HN := hide (show ∀ t q, t < j + 1 → ps[t]? = some q → q.1 = u → q.2 ∈ Z2 from fun t q ht hq he => by
                  rcases Nat.lt_or_ge t j with h | h
                  · exact HJ.out t q h hq he
                  · obtain rfl : t = j := by omega
                    rw [HQQ.out] at hq
                    injection hq with hq
                    subst hq
                    exact hv)
                clear hv
                go_wp2
                go_quiet ((exact Calls.quiet_of_same (HQ.out _)))
                go_wp2
                go_roundw
                case rel => exact ⟨Z2, j + 1, m2, by go_num, by omega, hkm2, hm2, ownsRow_below HO2.out (tyN (Below.refl _ _) _), tyN HB2.out _, HR2.out, HZ2.out, HN.out⟩
                case measure => simp [intOf]; omega
              · have HQ := hide fun (x : Nat) => RHas_q (c := c2) (decide_eq_false hv) (wr.drewN x) _ (HRD.out.below (tyN (Below.refl _ _) x)) (by unfold maxLen; omega)
                have HUP := hide (HR2.out.up HZ2.out (List.mem_of_getElem? HQQ.out) hv)
                have hm3 : m2 + 1 ≤ n + 1 := by
                  have h1 := HUP.out.bound
                  have h2 := HL2.out
                  have h3 := HL.out
                  rw [List.length_append, List.length_singleton] at h1
                  omega
                have HN := hide (show ∀ t q, t < j + 1 → ps[t]? = some q → q.1 = u → q.2 ∈ Z2 ++ [v] from fun t q ht hq he => by
                  rcases Nat.lt_or_ge t j with h | h
                  · exact List.mem_append_left _ (HJ.out t q h hq he)
                  · obtain rfl : t = j := by omega
                    rw [HQQ.out] at hq
                    injection hq with hq
                    subst hq
                    simp)
                have HZ3 := hide (show (Z2 ++ [v])[k]? = some u by rw [List.getElem?_append_left (by have := HL2.out; omega)]; exact HZ2.out)
                clear hv
                go_wp2
                go_quiet ((exact Calls.quiet_of_same (HQ.out _)))
                generalize hwq : wr.drewN _ = wq
                have HOq := hide (show wq.ownsRow w.heap.size 3 1 _ _ _ from hwq ▸ ownsRow_below HO2.out (tyN (Below.refl _ _) _))
                have HBq := hide (show Below w.heap.size w wq from hwq ▸ tyN HB2.out _)
                have e1 : wq.cell? ⟨b1, o1 + j * 2 + 1, none⟩ = some (.int .i64 v) := by rw [← hwq]; exact c1'
                clear hwq c0 c1' cz
                go_wp2_with (at_builtin; refine wpList_append_own_at _ rfl _ _ 35 rfl w.heap.size 3 i0 (.int .i64 0) 1 8 Try.underlying35 hi hz0 hz1 hz2 rfl (by decide) _ m2 _ rfl (HOq.out.alloc _) ⟨wq.heap.size, 0, none⟩ 1 1 (i64s [v]) rfl rfl (cell_int2 wq v 3) (ints_oneCell _ _) (by unfold maxLen; omega) (by omega) (by have := HBq.out.size; simp; omega) ?_; intro v5 w5 hown5 hg5 _ hat5; have HO5 := hide hown5; have HB5 := hide (below_app (HBq.out.alloc HBq.out.size _) (HOq.out.alloc _) (by have := HBq.out.size; simp; omega) hg5); clear hown5 hg5 hat5)
                go_roundw
                case rel => exact ⟨Z2 ++ [v], j + 1, m2 + 1, by go_num, by omega, by omega, hm3, (by have h := HO5.out; rw [← List.map_append] at h; exact h), HB5.out, HUP.out, HZ3.out, HN.out⟩
                case measure => simp [intOf]; omega
            · have tu : (u == z) = false := by simpa using huz
              have HN := hide (show ∀ t q, t < j + 1 → ps[t]? = some q → q.1 = z → q.2 ∈ Z2 from fun t q ht hq he => by
                rcases Nat.lt_or_ge t j with h | h
                · exact HJ.out t q h hq he
                · obtain rfl : t = j := by omega
                  rw [HQQ.out] at hq
                  injection hq with hq
                  subst hq
                  exact absurd he huz)
              clear huz
              go_wp2
              go_quiet (fail)
              go_wp2
              go_roundw
              case rel => exact ⟨Z2, j + 1, m2, by go_num, by omega, hkm2, hm2, ownsRow_below HO2.out (tyN (Below.refl _ _) _), tyN HB2.out _, HR2.out, HZ2.out, HN.out⟩
              case measure => simp [intOf]; omega
          · have e : j = n := by omega
            have HNX := hide (HR2.out.next HZ2.out HZB.out fun c hc => by
              obtain ⟨t, ht⟩ := List.getElem?_of_mem hc
              exact HJ.out t _ (by have := (List.getElem?_eq_some_iff.1 ht).1; have := HL.out; omega) ht rfl)
            have hjn' : ¬ (j : Int) < (n : Int) := by omega
            clear hjn
            go_wp2
            go_roundw
            case rel => exact ⟨Z2, k + 1, m2, by go_num, by omega, hm2, HO2.out, HB2.out, HNX.out⟩
            case measure => simp [intOf]; omega
    · have HF := hide (HOut.out false ⟨fun h => (by cases h), fun h => absurd h (HR.out.end_ (by have := HZ.out.ilen; omega))⟩)
      have hlt' : ¬ (k : Int) < (m : Int) := by omega
      clear hlt
      go_wp2
      go_ret
      exact ⟨congrArg (fun v => Ending.returned (.bool v)) HF.out, HB.out⟩
theorem ROutlives_out (A : Option Addr) (n c : Nat) (rg a b : Int) (w : World) (h : ¬ ((0 ≤ a ∧ a < rg) ∧ 0 ≤ b ∧ b < rg)) :
    Calls Try.prog 17 #[.slice A n c, .int .i64 rg, .int .i64 a, .int .i64 b] w fun e w' => e = .returned (.bool false) ∧ Below w.heap.size w w' := by
  by_cases b1 : a < 0
  · go_enter Try.func17, Try.ntmps17
    go_wp2
    go_ret
    exact ⟨rfl, Below.refl _ _⟩
  have t1 : decide (a < 0) = false := decide_eq_false b1
  by_cases b2 : rg ≤ a
  · clear b1 h
    go_enter Try.func17, Try.ntmps17
    go_wp2
    go_ret
    exact ⟨rfl, Below.refl _ _⟩
  have t2 : decide (rg ≤ a) = false := decide_eq_false b2
  by_cases b3 : b < 0
  · clear b1 b2 h
    go_enter Try.func17, Try.ntmps17
    go_wp2
    go_ret
    exact ⟨rfl, Below.refl _ _⟩
  have t3 : decide (b < 0) = false := decide_eq_false b3
  have b4 : rg ≤ b := by omega
  clear b1 b2 b3 h
  go_enter Try.func17, Try.ntmps17
  go_wp2
  go_ret
  exact ⟨rfl, Below.refl _ _⟩
theorem ROutlives_any (A : Option Addr) (n c : Nat) (ps : List Pr) (rg a b : Int) (w : World) (hA : Prs w w.heap.size A n ps) (hn : n ≤ 65535) :
    Calls Try.prog 17 #[.slice A n c, .int .i64 rg, .int .i64 a, .int .i64 b] w fun e w' => e = .returned (.bool (out ps rg a b)) ∧ Below w.heap.size w w' := by
  by_cases h : (0 ≤ a ∧ a < rg) ∧ 0 ≤ b ∧ b < rg
  · exact ROutlives_in A n c ps rg a b w hA hn h.1 h.2
  · rw [out_far h]
    exact ROutlives_out A n c rg a b w h
theorem ROutlives_is {A : Option Addr} {n c : Nat} {ps : List Pr} {rg a b : Int} {v : Bool} (h : out ps rg a b = v) (w : World) (hA : Prs w w.heap.size A n ps) (hn : n ≤ 65535) :
    Calls Try.prog 17 #[.slice A n c, .int .i64 rg, .int .i64 a, .int .i64 b] w fun e w' => e = .returned (.bool v) ∧ Below w.heap.size w w' := h ▸ ROutlives_any A n c ps rg a b w hA hn
end Go.Proofs.Ytagnikaghhobjaa
