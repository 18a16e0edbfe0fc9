/- Part 4 of the contracts and their mathematics. -/
import Derived.Test.YtfgacmgjpikgaaaGreatDoorQ1
import Derived.Maps.AppendAt
import Derived.StillTailTactics
import Derived.Maps.OwnSet
set_option linter.unusedVariables false
set_option linter.unusedSimpArgs false
namespace Go.Proofs.YtfgacmgjpikgaaaGreatDoor
open Go.RowKit
theorem two_alloc (w : World) (o p : Obj) : Below w.heap.size w ((w.alloc o).alloc p) := ((Below.refl _ _).alloc (Nat.le_refl _) _).alloc (by simp) _
theorem eqTy_no {a b : Ty} (h : a ≠ b) : eqTy a b = false := by simp [eqTy, h]
set_option maxHeartbeats 2000000 in
set_option maxRecDepth 100000 in
theorem EqT_any (x y : TyW) (w : World) (hx : OneT w w.heap.size x) (hy : OneT w w.heap.size y) :
  Calls Tryz.prog 106 #[aggT x, aggT y] w fun e w' => e = .returned (.bool (eqTy x.t y.t)) ∧ Below w.heap.size w w' := by
 obtain ⟨⟨k, m, r, el, fs⟩, A, n, c⟩ := x
 obtain ⟨⟨k', m', r', el', fs'⟩, A', n', c'⟩ := y
 have HB := hide (two_alloc w (.cells #[.int .i64 k, .bool m, .int .i64 r, .int .i64 el, .slice A n c] 62) (.cells #[.int .i64 k', .bool m', .int .i64 r', .int .i64 el', .slice A' n' c'] 62))
 have HX := hide (hx.rd.below HB.out)
 have HY := hide (hy.rd.below HB.out)
 have h1n : n ≤ maxLen := Nat.le_trans hx.ok.nc hx.ok.cm
 have h2n : n' ≤ maxLen := Nat.le_trans hy.ok.nc hy.ok.cm
 clear hx hy
 by_cases h1 : k = k'
 ·
  have e1 : (k == k') = true := beq_iff_eq.2 h1
  by_cases h2 : m = m'
  ·
   have e2 : (m == m') = true := beq_iff_eq.2 h2
   by_cases h3 : r = r'
   ·
    have e3 : (r == r') = true := beq_iff_eq.2 h3
    by_cases h4 : el = el'
    ·
     have e4 : (el == el') = true := beq_iff_eq.2 h4
     have HF : Hid (eqTy ⟨k, m, r, el, fs⟩ ⟨k', m', r', el', fs'⟩ = eqIs fs fs') := by
      show _ = _
      rw [Bool.eq_iff_iff, eqTy_iff, eqIs_iff, h1, h2, h3, h4]
      simp
     have HC := hide (EqI_any A A' n n' c c' fs fs' _ _ _ HX.out HY.out h1n h2n)
     clear h1 h2 h3 h4 h1n h2n
     go_enter Tryz.func106, Tryz.ntmps106
     go_wp2_with fail
     refine HC.out.mono ?_
     rintro e w1 ⟨rfl, hb⟩
     have HB2 := hide (HB.out.trans (hb.mono HB.out.size))
     clear hb
     go_wp2_with fail
     go_ret
     exact ⟨congrArg (fun v => Ending.returned (.bool v)) HF.out.symm, HB2.out⟩
    ·
     have e4 : (el == el') = false := beq_eq_false_iff_ne.2 h4
     have HF := hide (eqTy_no (a := ⟨k, m, r, el, fs⟩) (b := ⟨k', m', r', el', fs'⟩) fun e => h4 (congrArg Ty.elem e))
     clear h1 h2 h3 h4 h1n h2n
     go_enter Tryz.func106, Tryz.ntmps106
     go_wp2
     go_ret
     exact ⟨congrArg (fun v => Ending.returned (.bool v)) HF.out.symm, HB.out⟩
   ·
    have e3 : (r == r') = false := beq_eq_false_iff_ne.2 h3
    have HF := hide (eqTy_no (a := ⟨k, m, r, el, fs⟩) (b := ⟨k', m', r', el', fs'⟩) fun e => h3 (congrArg Ty.region e))
    clear h1 h2 h3 h1n h2n
    go_enter Tryz.func106, Tryz.ntmps106
    go_wp2
    go_ret
    exact ⟨congrArg (fun v => Ending.returned (.bool v)) HF.out.symm, HB.out⟩
  ·
   have e2 : (m == m') = false := beq_eq_false_iff_ne.2 h2
   have HF := hide (eqTy_no (a := ⟨k, m, r, el, fs⟩) (b := ⟨k', m', r', el', fs'⟩) fun e => h2 (congrArg Ty.mut_ e))
   clear h1 h2 h1n h2n
   go_enter Tryz.func106, Tryz.ntmps106
   go_wp2
   go_ret
   exact ⟨congrArg (fun v => Ending.returned (.bool v)) HF.out.symm, HB.out⟩
 ·
  have e1 : (k == k') = false := beq_eq_false_iff_ne.2 h1
  have HF := hide (eqTy_no (a := ⟨k, m, r, el, fs⟩) (b := ⟨k', m', r', el', fs'⟩) fun e => h1 (congrArg Ty.kind e))
  clear h1 h1n h2n
  go_enter Tryz.func106, Tryz.ntmps106
  go_wp2
  go_ret
  exact ⟨congrArg (fun v => Ending.returned (.bool v)) HF.out.symm, HB.out⟩
def FirstT (l : List Ty) (t : Ty) (k : Nat) : Prop := l[k]? = some t ∧ ∀ i, i < k → l[i]? ≠ some t
theorem firstT_ex : ∀ {l : List Ty} {t : Ty}, t ∈ l → ∃ k, FirstT l t k
  | [], _, h => by cases h
  | x :: l, t, h => by
    by_cases hx : x = t
    · exact ⟨0, by simp [hx], fun i hi => absurd hi (by omega)⟩
    · have hm : t ∈ l := by
        rcases List.mem_cons.1 h with e | h
        · exact absurd e.symm hx
        · exact h
      obtain ⟨k, h1, h2⟩ := firstT_ex hm
      refine ⟨k + 1, by simpa using h1, fun i hi => ?_⟩
      cases i with
      | zero => simp [hx]
      | succ i => simpa using h2 i (by omega)
theorem EqT_is {x y : TyW} {b : Bool} (h : eqTy x.t y.t = b) (w : World) (hx : OneT w w.heap.size x) (hy : OneT w w.heap.size y) :
  Calls Tryz.prog 106 #[aggT x, aggT y] w fun e w' => e = .returned (.bool b) ∧ Below w.heap.size w w' := h ▸ EqT_any x y w hx hy
theorem box_at {w wr : World} {cs : Array Value} {t : TypeId} (h : Below (w.heap.size + 1) (w.alloc (.cells cs t)) wr) {j : Nat} {u : Value} (hj : cs[j]? = some u) : wr.cell? ⟨w.heap.size, j, none⟩ = some u := by
 rw [h.cell (p := ⟨w.heap.size, j, none⟩) (Nat.lt_succ_self _), cell_of_row (w.alloc (.cells cs t)) w.heap.size j cs t (0, 0) (heap_alloc_new w _), hj]
theorem box_below {w wr : World} {o : Obj} (h : Below (w.heap.size + 1) (w.alloc o) wr) : Below w.heap.size w wr := ((Below.refl _ _).alloc (Nat.le_refl _) o).trans (h.mono (Nat.le_succ _))
section
variable {P : Program} (w : World)
theorem run_append_nil (base : Nat) (t ty e : TypeId) (i : TypeInfo) (size : Nat) (ht : P.underlying t = some (.slice e)) (hi : P.info? e = some i)
  (v : Value) (n : Nat) (xs : List Value) (hown : w.ownsRow base e size v n xs) (c : Nat) : (Builtin.append_ #[t, t] ty #[v, .slice none 0 c]).run P w = .ok v w := by
 rcases hown.2 with ⟨rfl, rfl⟩ | ⟨g, cap, cur, rfl, _, _, hnc, _⟩
 ·
  simp [Builtin.append_, run_underlying ht, sizeOf, typeInfo, hi, Builtin.lenOf, Builtin.firstCells]
 ·
  simp [Builtin.append_, run_underlying ht, sizeOf, typeInfo, hi, Builtin.lenOf, Builtin.firstCells, hnc, storeCells]
theorem run_append_rd (base : Nat) (t ty e : TypeId) (i : TypeInfo) (z : Value) (bytes : Nat) (ht : P.underlying t = some (.slice e)) (hi : P.info? e = some i) (hz : i.zero = some z)
    (hsize : i.size = 1) (hby : i.bytes = bytes) (hzs : z.cells.size = 1)
    (v : Value) (n : Nat) (xs : List Value) (hown : w.ownsRow base e 1 v n xs)
    (B : Nat) (A : Option Addr) (m c : Nat) (news : List Value) (hr : Rd w B A m news) (h1 : ∀ u ∈ news, u.oneCell' = true)
    (h63 : n + m ≤ maxLen) (hbytes : (n + m) * bytes ≤ 140737488355328) (hbase : base ≤ w.heap.size) :
    ∃ v' w', (Builtin.append_ #[t, t] ty #[v, .slice A m c]).run P w = .ok v' w' ∧ w'.ownsRow base e 1 v' (n + m) (xs ++ news) ∧ w.grownBy w' v.ownBlock ∧
      (v'.ownBlock = v.ownBlock ∨ v'.ownBlock = some w.heap.size) := by
  rcases A with _ | ad
  · have hm : m = 0 := by
      rcases Nat.eq_zero_or_pos m with h0 | h0
      · exact h0
      · obtain ⟨b, o, h, _⟩ := hr.2 h0
        cases h
    subst hm
    have hn : news = [] := List.eq_nil_of_length_eq_zero hr.1
    subst hn
    exact ⟨v, w, run_append_nil w base t ty e i 1 ht hi v n xs hown c, by simpa using hown, World.grownBy.refl w _, .inl rfl⟩
  · have hcells : ∀ j u, news[j]? = some u → w.cell? (ad.add j) = some u := by
      intro j u hu
      have hj : j < news.length := by
        rcases Nat.lt_or_ge j news.length with h' | h'
        · exact h'
        · rw [List.getElem?_eq_none h'] at hu; cases hu
      obtain ⟨b, o, h, _, hc⟩ := hr.2 (by have := hr.1; omega)
      injection h with h
      subst h
      have hadd : (⟨b, o, none⟩ : Addr).add j = ⟨b, o + j, none⟩ := by unfold Addr.add; split <;> simp_all
      rw [hadd]
      exact hc j u hu
    obtain ⟨v', w', hrun, h2, h3, _, h5⟩ := run_append_own_at (P := P) w base t ty e i z 1 bytes ht hi hz hsize hby hzs (by decide) v n xs hown ad m c news (by have := hr.1; omega) hcells h1 h63 hbytes hbase
    exact ⟨v', w', hrun, h2, h3, h5⟩
theorem wp_append_rd {o : Oper} {a : Act} {K : Act → World → Prop} {Q : Exit → Act → World → Prop} (s x : Operand) (t : TypeId)
  (ho : o.op = .call { callee := .builtin .append, args := #[s, x], argTypes := #[t, t] })
  (base : Nat) (e : TypeId) (i : TypeInfo) (z : Value) (bytes : Nat) (ht : P.underlying t = some (.slice e)) (hi : P.info? e = some i) (hz : i.zero = some z)
  (hsize : i.size = 1) (hby : i.bytes = bytes) (hzs : z.cells.size = 1)
  (v : Value) (n : Nat) (xs : List Value) (hs : a.eval s = v) (hown : w.ownsRow base e 1 v n xs)
  (B : Nat) (A : Option Addr) (m c : Nat) (news : List Value) (hx : a.eval x = .slice A m c) (hr : Rd w B A m news) (h1 : ∀ u ∈ news, u.oneCell' = true)
  (h63 : n + m ≤ maxLen) (hbytes : (n + m) * bytes ≤ 140737488355328) (hbase : base ≤ w.heap.size)
  (h : ∀ v' w', w'.ownsRow base e 1 v' (n + m) (xs ++ news) → w.grownBy w' v.ownBlock → (v'.ownBlock = v.ownBlock ∨ v'.ownBlock = some w.heap.size) → K (a.put o.dst v') w') : o.wp P a w K Q := by
 obtain ⟨v', w', hrun, h2, h3, h4⟩ := run_append_rd (P := P) w base t o.type e i z bytes ht hi hz hsize hby hzs v n xs hown B A m c news hr h1 h63 hbytes hbase
 unfold Oper.wp execOp
 simp only [ho, resolve, invoke, builtin, Sem.run_bind, Sem.run_pure, Result.andThen_ok, List.map_toArray, List.map_cons, List.map_nil, hs, hx, hrun]
 exact h v' w' h2 h3 h4
theorem wpList_append_rd {ops : Array Oper} {rest : List Oper} {o : Oper} {a : Act} {Q : Exit → Act → World → Prop} (hgd : o.guard = none) (s x : Operand) (t : TypeId)
  (ho : o.op = .call { callee := .builtin .append, args := #[s, x], argTypes := #[t, t] })
  (base : Nat) (e : TypeId) (i : TypeInfo) (z : Value) (bytes : Nat) (ht : P.underlying t = some (.slice e)) (hi : P.info? e = some i) (hz : i.zero = some z)
  (hsize : i.size = 1) (hby : i.bytes = bytes) (hzs : z.cells.size = 1)
  (v : Value) (n : Nat) (xs : List Value) (hs : a.eval s = v) (hown : w.ownsRow base e 1 v n xs)
  (B : Nat) (A : Option Addr) (m c : Nat) (news : List Value) (hx : a.eval x = .slice A m c) (hr : Rd w B A m news) (h1 : ∀ u ∈ news, u.oneCell' = true)
  (h63 : n + m ≤ maxLen) (hbytes : (n + m) * bytes ≤ 140737488355328) (hbase : base ≤ w.heap.size)
  (h : ∀ v' w', w'.ownsRow base e 1 v' (n + m) (xs ++ news) → w.grownBy w' v.ownBlock → (v'.ownBlock = v.ownBlock ∨ v'.ownBlock = some w.heap.size) → wpList P ops Q rest (a.put o.dst v') w') : wpList P ops Q (o :: rest) a w :=
 wpList_plain hgd fun _ hK => wp_append_rd w s x t ho base e i z bytes ht hi hz hsize hby hzs v n xs hs hown B A m c news hx hr h1 h63 hbytes hbase fun v' w' h2 h3 h4 => hK _ _ (h v' w' h2 h3 h4)
end
theorem below_app {w w0 w1 : World} {base : Nat} {e : TypeId} {size n : Nat} {v : Value} {xs : List Value} (hb : Below base w0 w) (hown : w.ownsRow base e size v n xs) (hle : base ≤ w.heap.size) (hg : w.grownBy w1 v.ownBlock) : Below base w0 w1 :=
 hb.grown hg hle (fun k hk => (hown.lt k hk).1)
def Part (w : World) (B : Nat) (v : Value) (xs : List Int) : Prop := ∃ A c, v = .slice A xs.length c ∧ Rd w B A xs.length (u8s xs)
theorem Part.below {w w' : World} {B : Nat} {v : Value} {xs : List Int} (h : Part w B v xs) (hb : Below B w w') : Part w' B v xs := by
 obtain ⟨A, c, e, hr⟩ := h
 exact ⟨A, c, e, hr.below hb⟩
def Parts (w : World) (B : Nat) : List Value → List (List Int) → Prop
 | [], [] => True
 | v :: vs, xs :: xss => Part w B v xs ∧ Parts w B vs xss
 | _, _ => False
theorem Parts.below {w w' : World} {B : Nat} (hb : Below B w w') : ∀ {vs : List Value} {xss : List (List Int)}, Parts w B vs xss → Parts w' B vs xss
 | [], [], h => h
 | _ :: _, _ :: _, h => ⟨h.1.below hb, Parts.below hb h.2⟩
theorem Parts.len {w : World} {B : Nat} : ∀ {vs : List Value} {xss : List (List Int)}, Parts w B vs xss → vs.length = xss.length
 | [], [], _ => rfl
 | _ :: _, _ :: _, h => by simp [h.2.len]
theorem Parts.at_ {w : World} {B : Nat} : ∀ {vs : List Value} {xss : List (List Int)}, Parts w B vs xss → ∀ k, k < vs.length → ∃ v xs, vs[k]? = some v ∧ xss[k]? = some xs ∧ Part w B v xs
 | _ :: _, _ :: _, h, 0, _ => ⟨_, _, rfl, rfl, h.1⟩
 | _ :: _, _ :: _, h, k + 1, hk => by simpa using h.2.at_ k (by simpa using hk)
theorem eqTy_fields {k r el : Int} {m : Bool} {fs fs' : List Int} (h : fs = fs') : eqTy ⟨k, m, r, el, fs⟩ ⟨k, m, r, el, fs'⟩ = true := by rw [h, eqTy_self]
theorem bnot_eq {a b : Int} (h : a ≠ b) : (a != b) = true := by rw [bne_iff_ne]; exact h
set_option maxHeartbeats 4000000 in
set_option maxRecDepth 100000 in
theorem REqT_any (x y : TyW) (w : World) (hx : OneT w w.heap.size x) (hy : OneT w w.heap.size y) :
  Calls Tryz.prog 96 #[aggT x, aggT y] w fun e w' => e = .returned (.bool (eqTy x.t y.t)) ∧ Below w.heap.size w w' := by
 obtain ⟨⟨k, m, r, el, fs⟩, A, n, c⟩ := x
 obtain ⟨⟨k', m', r', el', fs'⟩, A', n', c'⟩ := y
 have HB := hide (two_alloc w (.cells #[.int .i64 k, .bool m, .int .i64 r, .int .i64 el, .slice A n c] 62) (.cells #[.int .i64 k', .bool m', .int .i64 r', .int .i64 el', .slice A' n' c'] 62))
 have HX := hide (hx.rd.below HB.out)
 have HY := hide (hy.rd.below HB.out)
 have h1n : n ≤ maxLen := Nat.le_trans hx.ok.nc hx.ok.cm
 have h2n : n' ≤ maxLen := Nat.le_trans hy.ok.nc hy.ok.cm
 have hl1 := hx.ok.len
 have hl2 := hy.ok.len
 simp only [] at hl1 hl2
 unfold maxLen at h1n h2n
 clear hx hy
 by_cases h1 : k = k'
 ·
  subst h1
  have e1 : (k != k) = false := by simp
  by_cases h2 : m = m'
  ·
   subst h2
   have e2 : (m != m) = false := by simp
   by_cases h3 : r = r'
   ·
    subst h3
    have e3 : (r != r) = false := by simp
    by_cases h4 : el = el'
    ·
     subst h4
     have e4 : (el != el) = false := by simp
     by_cases h5 : n = n'
     ·
      subst h5
      have e5 : ((n : Int) != (n : Int)) = false := by simp
      have HL1 := hide hl1
      have HL2 := hide hl2
      clear hl1 hl2
      go_enter Tryz.func96, Tryz.ntmps96
      go_wp2
      go_loopw [5] (fun i wr => ∃ j : Nat, i = .int .i64 (j : Int) ∧ j ≤ n ∧ Hid (eqUpto fs fs' j) ∧ Below w.heap.size w wr ∧ wr.heap.size = w.heap.size + 2 ∧ (∀ p, wr.cell? p = ((w.alloc (.cells #[.int .i64 k, .bool m, .int .i64 r, .int .i64 el, .slice A n c] 62)).alloc (.cells #[.int .i64 k, .bool m, .int .i64 r, .int .i64 el, .slice A' n c'] 62)).cell? p)) (fun i _ => n - (intOf i).toNat)
      case atStart => exact ⟨0, rfl, Nat.zero_le _, fun j h => absurd h (by omega), HB.out, by simp, fun _ => rfl⟩
      case round =>
       obtain ⟨j, rfl, hj, HE, hb, hsz, hc⟩ := hrel
       have HB1 := hide hb
       have HC := hide hc
       have d4 : wr.cell? ⟨w.heap.size, 4, none⟩ = some (.slice A n c) := by rw [hc]; simp [go_sem]
       have d4' : wr.cell? ⟨w.heap.size + 1, 4, none⟩ = some (.slice A' n c') := by rw [hc]; simp [go_sem]
       have hlt0 : w.heap.size < wr.heap.size := by omega
       clear hb hc
       by_cases hlt : j < n
       ·
        have hex : ∃ a, fs[j]? = some a := ⟨_, List.getElem?_eq_getElem (by have := HL1.out; omega)⟩
        obtain ⟨a, ha⟩ := hex
        have hex : ∃ a, fs'[j]? = some a := ⟨_, List.getElem?_eq_getElem (by have := HL2.out; omega)⟩
        obtain ⟨b, hb⟩ := hex
        obtain ⟨g, o, rfl, _, c0⟩ := HX.out.int ha
        obtain ⟨g', o', rfl, _, c1⟩ := HY.out.int hb
        rw [← HC.out] at c0 c1
        have hlt' : (j : Int) < (n : Int) := by omega
        have HA' := hide ha
        have HB' := hide hb
        clear ha hb
        by_cases hab : a = b
        ·
         subst hab
         have e6 : ((a : Int) != (a : Int)) = false := by simp
         have HE2 := hide (show eqUpto fs fs' (j + 1) from fun i hi => by
          rcases Nat.lt_or_ge i j with h | h
          ·
           exact HE.out i h
          ·
           obtain rfl : i = j := by omega
           rw [HA'.out, HB'.out])
         go_wp2
         go_quiet (fail)
         go_wp2
         go_roundw
         case rel => exact ⟨j + 1, by go_num, by omega, HE2.out, tyN HB1.out _, hsz, HC.out⟩
         case measure => simp [intOf]; omega
        ·
         have e6 : ((a : Int) != (b : Int)) = true := bnot_eq hab
         have HF := hide (eqTy_no (a := ⟨k, m, r, el, fs⟩) (b := ⟨k, m, r, el, fs'⟩) fun h => by
          have h0 : fs = fs' := congrArg Ty.fields h
          subst h0
          have h1 := HA'.out
          rw [HB'.out] at h1
          injection h1 with h1
          exact absurd h1.symm hab)
         clear hab
         go_wp2
         go_quiet (fail)
         go_wp2
         go_ret
         exact ⟨congrArg (fun v => Ending.returned (.bool v)) HF.out.symm, tyN HB1.out _⟩
       ·
        obtain rfl : j = n := by omega
        have HF := hide (eqTy_fields (k := k) (m := m) (r := r) (el := el) (show fs = fs' from by
         refine List.ext_getElem? fun i => ?_
         rcases Nat.lt_or_ge i j with h | h
         ·
          exact HE.out i h
         ·
          rw [List.getElem?_eq_none (by have := HL1.out; omega), List.getElem?_eq_none (by have := HL2.out; omega)]))
        go_wp2
        go_ret
        exact ⟨congrArg (fun v => Ending.returned (.bool v)) HF.out.symm, HB1.out⟩
     ·
      have e5 : ((n : Int) != (n' : Int)) = true := bnot_eq (by omega)
      have HF := hide (eqTy_no (a := ⟨k, m, r, el, fs⟩) (b := ⟨k, m, r, el, fs'⟩) fun e => by
       have h0 : fs = fs' := congrArg Ty.fields e
       subst h0
       omega)
      clear h5 hl1 hl2
      go_enter Tryz.func96, Tryz.ntmps96
      go_wp2
      go_ret
      exact ⟨congrArg (fun v => Ending.returned (.bool v)) HF.out.symm, HB.out⟩
    ·
     have e4 : (el != el') = true := bnot_eq h4
     have HF := hide (eqTy_no (a := ⟨k, m, r, el, fs⟩) (b := ⟨k, m, r, el', fs'⟩) fun e => h4 (congrArg Ty.elem e))
     clear h4 hl1 hl2
     go_enter Tryz.func96, Tryz.ntmps96
     go_wp2
     go_ret
     exact ⟨congrArg (fun v => Ending.returned (.bool v)) HF.out.symm, HB.out⟩
   ·
    have e3 : (r != r') = true := bnot_eq h3
    have HF := hide (eqTy_no (a := ⟨k, m, r, el, fs⟩) (b := ⟨k, m, r', el', fs'⟩) fun e => h3 (congrArg Ty.region e))
    clear h3 hl1 hl2
    go_enter Tryz.func96, Tryz.ntmps96
    go_wp2
    go_ret
    exact ⟨congrArg (fun v => Ending.returned (.bool v)) HF.out.symm, HB.out⟩
  ·
   have HF := hide (eqTy_no (a := ⟨k, m, r, el, fs⟩) (b := ⟨k, m', r', el', fs'⟩) fun e => h2 (congrArg Ty.mut_ e))
   clear hl1 hl2
   cases m <;> cases m'
   ·
    exact absurd rfl h2
   ·
    clear h2
    go_enter Tryz.func96, Tryz.ntmps96
    go_wp2
    go_ret
    exact ⟨congrArg (fun v => Ending.returned (.bool v)) HF.out.symm, HB.out⟩
   ·
    clear h2
    go_enter Tryz.func96, Tryz.ntmps96
    go_wp2
    go_ret
    exact ⟨congrArg (fun v => Ending.returned (.bool v)) HF.out.symm, HB.out⟩
   ·
    exact absurd rfl h2
 ·
  have e1 : (k != k') = true := bnot_eq h1
  have HF := hide (eqTy_no (a := ⟨k, m, r, el, fs⟩) (b := ⟨k', m', r', el', fs'⟩) fun e => h1 (congrArg Ty.kind e))
  clear h1 hl1 hl2
  go_enter Tryz.func96, Tryz.ntmps96
  go_wp2
  go_ret
  exact ⟨congrArg (fun v => Ending.returned (.bool v)) HF.out.symm, HB.out⟩
theorem REqT_is {x y : TyW} {b : Bool} (h : eqTy x.t y.t = b) (w : World) (hx : OneT w w.heap.size x) (hy : OneT w w.heap.size y) :
  Calls Tryz.prog 96 #[aggT x, aggT y] w fun e w' => e = .returned (.bool b) ∧ Below w.heap.size w w' := h ▸ REqT_any x y w hx hy
set_option maxHeartbeats 2000000 in
set_option maxRecDepth 100000 in
theorem RFindT_any (A : Option Addr) (n c : Nat) (L : List TyW) (y : TyW) (w : World) (hA : Typs w w.heap.size A n L) (hy : OneT w w.heap.size y) (hn : n ≤ maxLen) (s : Nat) (hs : s ≤ n) (hno : ∀ i, i < s → (tys L)[i]? ≠ some y.t) (hst : s < n → (tys L)[s]? = some y.t) :
  Calls Tryz.prog 69 #[.slice A n c, aggT y] w fun e w' => e = .returned (.int .i64 (if s < n then (s : Int) else -1)) ∧ Below w.heap.size w w' := by
 have HL := hide hA.len
 have HA := hide hA
 have HY := hide hy
 have HN := hide hno
 have HS := hide hst
 unfold maxLen at hn
 clear hA hy hno hst
 go_enter Tryz.func69, Tryz.ntmps69
 go_wp2
 go_loopw [5] (fun i wr => ∃ j : Nat, i = .int .i64 (j : Int) ∧ j ≤ s ∧ Below (w.heap.size + 1) (w.alloc (.cells (c5 y).toArray 62)) wr) (fun i _ => n - (intOf i).toNat)
 case atStart => exact ⟨0, rfl, Nat.zero_le _, Below.refl _ _⟩
 case round =>
  obtain ⟨j, rfl, hj, hb⟩ := hrel
  have HB := hide hb
  have hbw := box_below hb
  have HBW := hide hbw
  have d0 : wr.cell? ⟨w.heap.size, 0, none⟩ = some (.int .i64 y.t.kind) := box_at hb rfl
  have d1 : wr.cell? ⟨w.heap.size, 1, none⟩ = some (.bool y.t.mut_) := box_at hb rfl
  have d2 : wr.cell? ⟨w.heap.size, 2, none⟩ = some (.int .i64 y.t.region) := box_at hb rfl
  have d3 : wr.cell? ⟨w.heap.size, 3, none⟩ = some (.int .i64 y.t.elem) := box_at hb rfl
  have d4 : wr.cell? ⟨w.heap.size, 4, none⟩ = some (.slice y.A y.n y.c) := box_at hb rfl
  have hsz := hb.size
  simp only [World.size_alloc] at hsz
  have hlt0 : w.heap.size < wr.heap.size := hsz
  clear hb hbw
  by_cases hlt : j < n
  ·
   have hex : ∃ a, L[j]? = some a := ⟨_, List.getElem?_eq_getElem (by have := HL.out; omega)⟩
   obtain ⟨x, hx⟩ := hex
   obtain ⟨g, o, rfl, hgB, h1, c0, c1, c2, c3, c4⟩ := (HA.out.below HBW.out).at_ hx
   have HX := hide (h1.more (Nat.le_trans (Nat.le_of_lt (Nat.lt_succ_self _)) hsz))
   have HY2 := hide ((HY.out.below HBW.out).more (Nat.le_trans (Nat.le_of_lt (Nat.lt_succ_self _)) hsz))
   have HXd := hide (show OneT wr.drew wr.drew.heap.size x from HX.out.below ((Below.refl wr.heap.size wr).drew))
   have HYd := hide (show OneT wr.drew wr.drew.heap.size y from HY2.out.below ((Below.refl wr.heap.size wr).drew))
   have hlt' : (j : Int) < (n : Int) := by omega
   by_cases hjs : j < s
   ·
    have he := hide (show eqTy x.t y.t = false from eqTy_no fun e => HN.out j hjs (e ▸ tys_at hx))
    clear hx h1
    go_wp2_with fail
    go_still_tail 5, (by kernel_rfl)
    go_wp2_with fail
    refine (REqT_is he.out _ HXd.out HYd.out).mono ?_
    rintro e w1 ⟨rfl, hb⟩
    have HB3 := hide (HB.out.drew.trans (hb.mono hsz))
    clear hb
    go_wp2_with fail
    go_roundw
    case rel => exact ⟨j + 1, by go_num, by omega, HB3.out⟩
    case measure => simp [intOf]; omega
   ·
    obtain rfl : j = s := by omega
    have he := hide (show eqTy x.t y.t = true by
     have h1 := tys_at hx
     rw [HS.out hlt] at h1
     injection h1 with h1
     rw [eqTy_iff, h1])
    clear hx h1
    go_wp2_with fail
    go_still_tail 5, (by kernel_rfl)
    go_wp2_with fail
    refine (REqT_is he.out _ HXd.out HYd.out).mono ?_
    rintro e w1 ⟨rfl, hb⟩
    have HB3 := hide (HB.out.drew.trans (hb.mono hsz))
    clear hb
    go_wp2_with fail
    go_ret
    exact ⟨by simp, box_below HB3.out⟩
  ·
   obtain rfl : j = n := by omega
   obtain rfl : s = j := by omega
   go_wp2
   go_ret
   exact ⟨by simp, HBW.out⟩
theorem within_any (i n : Int) (w : World) : Calls Tryz.prog 97 #[.int .i64 i, .int .i64 n] w fun e w' => e = .returned (.bool (tyIn i n)) ∧ w = w' := by
 by_cases h1 : 0 ≤ i
 ·
  by_cases h2 : i < n
  ·
   have e := hide (show tyIn i n = true from tyIn_iff.2 ⟨h1, h2⟩)
   go_enter Tryz.func97, Tryz.ntmps97
   go_wp2
   go_ret
   exact ⟨congrArg (fun v => Ending.returned (.bool v)) e.out.symm, rfl⟩
  ·
   have e := hide (show tyIn i n = false from tyIn_not.2 (by omega))
   have h3 : decide (i < n) = false := by simpa using h2
   go_enter Tryz.func97, Tryz.ntmps97
   go_wp2
   go_ret
   exact ⟨congrArg (fun v => Ending.returned (.bool v)) e.out.symm, rfl⟩
 ·
  have e := hide (show tyIn i n = false from tyIn_not.2 (by omega))
  have h3 : decide (0 ≤ i) = false := by simpa using h1
  go_enter Tryz.func97, Tryz.ntmps97
  go_wp2
  go_ret
  exact ⟨congrArg (fun v => Ending.returned (.bool v)) e.out.symm, rfl⟩
theorem within_is {i n : Int} {b : Bool} (h : tyIn i n = b) (w : World) : Calls Tryz.prog 97 #[.int .i64 i, .int .i64 n] w fun e w' => e = .returned (.bool b) ∧ w = w' := h ▸ within_any i n w
theorem Rd_int1 (w : World) (x : Int) (t : TypeId) : Rd (w.alloc (.cells #[.int .i64 x] t)) (w.heap.size + 1) (some ⟨w.heap.size, 0, none⟩) 1 (i64s [x]) :=
 ⟨rfl, fun _ => ⟨w.heap.size, 0, rfl, by omega, fun j u hu => by
  rw [cell_of_row (w.alloc (.cells #[.int .i64 x] t)) w.heap.size (0 + j) _ t (0, 0) (heap_alloc_new w _)]
  simpa using hu⟩⟩
def PartsR (w : World) (x : TyW) (e : Ending) (w' : World) : Prop := ∃ A n c, e = .returned (.slice A n c) ∧ n ≤ c ∧ c ≤ maxLen ∧ (tyParts x.t).length = n ∧ Rd w' w'.heap.size A n (i64s (tyParts x.t)) ∧ Below w.heap.size w w'
set_option maxRecDepth 100000 in
theorem parts_any (x : TyW) (w : World) (hx : OneT w w.heap.size x) : Calls Tryz.prog 99 #[aggT x] w (PartsR w x) := by
 have HB := hide ((Below.refl w.heap.size w).alloc (Nat.le_refl _) (.cells (c5 x).toArray 62))
 have HX := hide ((hx.below HB.out).more (B' := (w.alloc (.cells (c5 x).toArray 62)).heap.size) (by simp))
 have HF := hide hx.ok
 by_cases h3 : x.t.kind = 3
 ·
  have e3 : (x.t.kind == 3) = true := beq_iff_eq.2 h3
  have HB2 := hide (HB.out.alloc (by simp) (.cells #[.int .i64 x.t.elem] 3))
  have hp : PartsR w x (.returned (.slice (some ⟨w.heap.size + 1, 0, none⟩) 1 1)) ((w.alloc (.cells (c5 x).toArray 62)).alloc (.cells #[.int .i64 x.t.elem] 3)) := by
   refine ⟨_, 1, 1, rfl, Nat.le_refl _, by decide, by rw [tyParts_ref h3]; rfl, ?_, HB2.out⟩
   have h := Rd_int1 (w.alloc (.cells (c5 x).toArray 62)) x.t.elem 3
   rw [tyParts_ref h3]
   rw [World.size_alloc] at h
   exact h.more (by simp)
  have HP := hide hp
  clear hx h3 hp
  go_enter Tryz.func99, Tryz.ntmps99
  go_wp2
  go_ret
  exact HP.out
 ·
  have e3 : (x.t.kind == 3) = false := beq_eq_false_iff_ne.2 h3
  by_cases h4 : x.t.kind = 4
  ·
   have e4 : (x.t.kind == 4) = true := beq_iff_eq.2 h4
   have HP : Hid (PartsR w x (.returned (.slice x.A x.n x.c)) (w.alloc (.cells (c5 x).toArray 62))) := ⟨_, _, _, rfl, HF.out.nc, HF.out.cm, by rw [tyParts_tup h4]; exact HF.out.len, by rw [tyParts_tup h4]; exact HX.out.rd, HB.out⟩
   clear hx h3 h4
   go_enter Tryz.func99, Tryz.ntmps99
   go_wp2
   go_ret
   exact HP.out
  ·
   have e4 : (x.t.kind == 4) = false := beq_eq_false_iff_ne.2 h4
   have HP : Hid (PartsR w x (.returned (.slice none 0 0)) (w.alloc (.cells (c5 x).toArray 62))) := ⟨_, _, _, rfl, Nat.le_refl _, Nat.zero_le _, by rw [tyParts_none h3 h4]; rfl, by rw [tyParts_none h3 h4]; exact Rd.nil _ _ _, HB.out⟩
   clear hx h3 h4
   go_enter Tryz.func99, Tryz.ntmps99
   go_wp2
   go_ret
   exact HP.out
set_option maxHeartbeats 1000000 in
theorem areWithin_any (A : Option Addr) (n c : Nat) (xs : List Int) (m : Int) (w : World) (B : Nat) (hx : Rd w B A n (i64s xs)) (hn : n ≤ maxLen) :
  Calls Tryz.prog 98 #[.slice A n c, .int .i64 m] w fun e w' => e = .returned (.bool (tyAllIn xs m)) ∧ w = w' := by
 have HX := hide hx
 have HL := hide hx.ilen
 unfold maxLen at hn
 clear hx
 go_enter Tryz.func98, Tryz.ntmps98
 go_wp2
 go_loop [9] (fun i => ∃ j : Nat, i = .int .i64 (j : Int) ∧ j ≤ n ∧ Hid (tyAllIn (xs.take j) m = true)) (fun i => n - (intOf i).toNat)
 case atStart => exact ⟨0, rfl, Nat.zero_le _, rfl⟩
 case round =>
  obtain ⟨j, rfl, hj, HT⟩ := hrel
  by_cases hlt : j < n
  ·
   have hex : ∃ a, xs[j]? = some a := ⟨_, List.getElem?_eq_getElem (by have := HL.out; omega)⟩
   obtain ⟨a, ha⟩ := hex
   obtain ⟨g, o, rfl, _, c0⟩ := HX.out.int ha
   have hlt' : (j : Int) < (n : Int) := by omega
   have HA := hide ha
   clear ha
   cases hin : tyIn a m
   ·
    have HE := hide hin
    have HF := hide (show tyAllIn xs m = false by
     cases h : tyAllIn xs m
     ·
      rfl
     ·
      have := tyAllIn_iff.1 h a (List.mem_of_getElem? HA.out)
      rw [tyIn_iff.2 this] at hin
      cases hin)
    clear hin
    go_wp2_with (go_at_call 97; refine (within_is HE.out _).mono ?_; rintro e w1 ⟨rfl, rfl⟩)
    go_ret
    exact ⟨congrArg (fun v => Ending.returned (.bool v)) HF.out.symm, rfl⟩
   ·
    have HE := hide hin
    have HF := hide (show tyAllIn (xs.take (j + 1)) m = true by
     rw [tyAllIn_iff]
     intro i hi
     rw [List.take_add_one, HA.out] at hi
     rcases List.mem_append.1 hi with hi | hi
     ·
      exact tyAllIn_iff.1 HT.out i hi
     ·
      obtain rfl : i = a := by simpa using hi
      exact tyIn_iff.1 hin)
    clear hin
    go_wp2_with (go_at_call 97; refine (within_is HE.out _).mono ?_; rintro e w1 ⟨rfl, rfl⟩)
    go_round
    case rel => exact ⟨j + 1, by go_num, by omega, HF.out⟩
    case measure => simp [intOf]; omega
  ·
   obtain rfl : j = n := by omega
   have hT := HT.out
   rw [List.take_of_length_le (by have := HL.out; omega)] at hT
   have HF := hide hT
   clear hT
   go_wp2
   go_ret
   exact ⟨congrArg (fun v => Ending.returned (.bool v)) HF.out.symm, rfl⟩
theorem areWithin_is {A : Option Addr} {n c : Nat} {xs : List Int} {m : Int} {w : World} {B : Nat} {b : Bool} (h : tyAllIn xs m = b) (hx : Rd w B A n (i64s xs)) (hn : n ≤ maxLen) :
  Calls Tryz.prog 98 #[.slice A n c, .int .i64 m] w fun e w' => e = .returned (.bool b) ∧ w = w' := h ▸ areWithin_any A n c xs m w B hx hn
end Go.Proofs.YtfgacmgjpikgaaaGreatDoor
namespace Go.Proofs.YtfgacmgjpikgaaaGreatDoor
open Go.RowKit
structure Turn (S : Nat → Prop) (w w' : World) : Prop where
 os : w'.os = w.os
 tape : w'.tape = w.tape
 output : w'.output = w.output
 size : w.heap.size ≤ w'.heap.size
 block : ∀ k, k < w.heap.size → ¬ S k → w'.heap[k]? = w.heap[k]?
namespace Turn
variable {S S' : Nat → Prop} {w w' w'' : World}
theorem refl (S : Nat → Prop) (w : World) : Turn S w w := ⟨rfl, rfl, rfl, Nat.le_refl _, fun _ _ _ => rfl⟩
theorem trans (h : Turn S w w') (k : Turn S w' w'') : Turn S w w'' :=
 ⟨k.os.trans h.os, k.tape.trans h.tape, k.output.trans h.output, Nat.le_trans h.size k.size, fun i hi hs => (k.block i (Nat.lt_of_lt_of_le hi h.size) hs).trans (h.block i hi hs)⟩
theorem of_below (h : Below w.heap.size w w') : Turn S w w' := ⟨h.os, h.tape, h.output, h.size, fun k hk _ => h.block k hk⟩
theorem weak (h : Turn S w w') (hs : ∀ k, S k → S' k) : Turn S' w w' := ⟨h.os, h.tape, h.output, h.size, fun k hk hn => h.block k hk fun hk' => hn (hs k hk')⟩
theorem alloc (h : Turn S w w') (o : Obj) : Turn S w (w'.alloc o) := h.trans (of_below ((Below.refl _ _).alloc (Nat.le_refl _) o))
theorem drew (h : Turn S w w') : Turn S w w'.drew := ⟨h.os, h.tape, h.output, h.size, h.block⟩
theorem drewN (h : Turn S w w') (n : Nat) : Turn S w (w'.drewN n) := ⟨h.os, h.tape, h.output, h.size, h.block⟩
theorem grown (h : Turn S w w') {row : Option Nat} (hg : w'.grownBy w'' row) (hr : ∀ k, row = some k → S k ∨ w.heap.size ≤ k) : Turn S w w'' :=
 ⟨hg.os.trans h.os, hg.tape.trans h.tape, hg.output.trans h.output, Nat.le_trans h.size hg.size, fun k hk hs =>
  (hg.block k (Nat.lt_of_lt_of_le hk h.size) (fun e => by rcases hr k e.symm with h' | h' <;> first | exact hs h' | omega)).trans (h.block k hk hs)⟩
theorem setCell (h : Turn S w w') {a : Addr} (ha : S a.block ∨ w.heap.size ≤ a.block) (v : Value) : Turn S w (w'.setCell a v) :=
 ⟨h.os, h.tape, h.output, Nat.le_trans h.size (by simp [World.setCell]), fun k hk hs => (Below.heap_setCell w' a v k (fun e => by subst e; rcases ha with h' | h' <;> first | exact hs h' | omega)).trans (h.block k hk hs)⟩
theorem cell (h : Turn S w w') {p : Addr} (hp : p.block < w.heap.size) (hs : ¬ S p.block) : w'.cell? p = w.cell? p := World.cell?_of_block (w := w) (h.block p.block hp hs)
theorem frozen (h : Turn S w w') {p : Addr} (hp : p.block < w.heap.size) (hs : ¬ S p.block) : w'.frozen? p = w.frozen? p := World.frozen?_of_block (w := w) (h.block p.block hp hs)
theorem below (h : Turn S w w') {B : Nat} (hB : B ≤ w.heap.size) (hs : ∀ k, S k → B ≤ k) : Below B w w' :=
 ⟨h.os, h.tape, h.output, h.size, fun k hk => h.block k (by omega) fun h' => by have := hs k h'; omega⟩
end Turn
theorem Rd.turn {S : Nat → Prop} {w w' : World} {B : Nat} {A : Option Addr} {n : Nat} {xs : List Value} (h : Rd w B A n xs) (ht : Turn S w w') (hB : B ≤ w.heap.size) (hS : 0 < n → ∀ b o, A = some ⟨b, o, none⟩ → ¬ S b) : Rd w' B A n xs :=
 ⟨h.1, fun hn => by
  obtain ⟨b, o, e, hb, hc⟩ := h.2 hn
  exact ⟨b, o, e, hb, fun j u hu => (ht.cell (p := ⟨b, o + j, none⟩) (by simp; omega) (hS hn b o e)).trans (hc j u hu)⟩⟩
end Go.Proofs.YtfgacmgjpikgaaaGreatDoor
