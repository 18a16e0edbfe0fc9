/- A property of a type, given a function that tells it of its parts: depth, copyable, and the visit that notes regions. -/
import Derived.Test.YtkcgonggokhneaaTypP
import Derived.Test.YtkcgonggokhneaaTurn
set_option linter.unusedVariables false
namespace Go.Proofs.Ytkcgonggokhneaa
open Go.RowKit

/-- A function value that is called with the parts ps: what it returns, what it does to the state J, which blocks it turns. -/
structure Visits (K : FuncId) (caps : Array Value) (ret : Int → Value) (ps : List Int) (w0 : World) (S : Nat → Prop) (J : World → (Int → Prop) → Prop) (men : Int → Int → Prop) : Prop where
  enter : ∀ (args : Array Value) (w : World), (callFunc K args).run Try.prog w = .ok (.enter K args) w
  call : ∀ p ∈ ps, ∀ w D, Turn S w0 w → J w D → Calls Try.prog K (#[.int .i64 p] ++ caps) w fun e w' => e = .returned (ret p) ∧ J w' (fun r => D r ∨ men p r) ∧ Turn S w w'
theorem Visits.later {K : FuncId} {caps : Array Value} {ret : Int → Value} {ps : List Int} {w0 w1 : World} {S : Nat → Prop} {J : World → (Int → Prop) → Prop} {men : Int → Int → Prop} (h : Visits K caps ret ps w0 S J men) (ht : Turn S w0 w1) : Visits K caps ret ps w1 S J men :=
  ⟨h.enter, fun p hp w D hw => h.call p hp w D (ht.trans hw)⟩

/-- 'parts' says where the slice lies, too -/
def PartsF (w : World) (x : TyW) (e : Ending) (w' : World) : Prop := ∃ A n c, e = .returned (.slice A n c) ∧ n ≤ c ∧ c ≤ maxLen ∧ (tyParts x.t).length = n ∧ Rd w' w'.heap.size A n (i64s (tyParts x.t)) ∧ Below w.heap.size w w' ∧ ∀ b o, A = some ⟨b, o, none⟩ → (x.A = some ⟨b, o, none⟩ ∧ x.n = n) ∨ w.heap.size ≤ b
set_option maxRecDepth 100000 in
theorem partsF_any (x : TyW) (w : World) (hx : OneT w w.heap.size x) : Calls Try.prog 35 #[aggT x] w (PartsF w x) := by
  have HB := hide ((Below.refl w.heap.size w).alloc (Nat.le_refl _) (.cells (c5 x).toArray 31))
  have HX := hide ((hx.below HB.out).more (B' := (w.alloc (.cells (c5 x).toArray 31)).heap.size) (by simp))
  have HF := hide hx.ok
  by_cases h3 : x.t.kind = 3
  · have e3 : (x.t.kind == 3) = true := beq_iff_eq.2 h3
    have HB2 := hide (HB.out.alloc (by simp) (.cells #[.int .i64 x.t.elem] 3))
    have hp : PartsF w x (.returned (.slice (some ⟨w.heap.size + 1, 0, none⟩) 1 1)) ((w.alloc (.cells (c5 x).toArray 31)).alloc (.cells #[.int .i64 x.t.elem] 3)) := by
      refine ⟨_, 1, 1, rfl, Nat.le_refl _, by decide, by rw [tyParts_ref h3]; rfl, ?_, HB2.out, fun b o e => by injection e with e; injection e with e; omega⟩
      have h := Rd_int1 (w.alloc (.cells (c5 x).toArray 31)) x.t.elem 3
      rw [tyParts_ref h3]
      rw [World.size_alloc] at h
      exact h.more (by simp)
    have HP := hide hp
    clear hx h3 hp
    go_enter Try.func35, Try.ntmps35
    go_wp2
    go_ret
    exact HP.out
  · have e3 : (x.t.kind == 3) = false := beq_eq_false_iff_ne.2 h3
    by_cases h4 : x.t.kind = 4
    · have e4 : (x.t.kind == 4) = true := beq_iff_eq.2 h4
      have HP : Hid (PartsF w x (.returned (.slice x.A x.n x.c)) (w.alloc (.cells (c5 x).toArray 31))) := ⟨_, _, _, rfl, HF.out.nc, HF.out.cm, by rw [tyParts_tup h4]; exact HF.out.len, by rw [tyParts_tup h4]; exact HX.out.rd, HB.out, fun _ _ e => .inl ⟨e, rfl⟩⟩
      clear hx h3 h4
      go_enter Try.func35, Try.ntmps35
      go_wp2
      go_ret
      exact HP.out
    · have e4 : (x.t.kind == 4) = false := beq_eq_false_iff_ne.2 h4
      have HP : Hid (PartsF w x (.returned (.slice none 0 0)) (w.alloc (.cells (c5 x).toArray 31))) := ⟨_, _, _, rfl, Nat.le_refl _, Nat.zero_le _, by rw [tyParts_none h3 h4]; rfl, by rw [tyParts_none h3 h4]; exact Rd.nil _ _ _, HB.out, fun _ _ e => by cases e⟩
      clear hx h3 h4
      go_enter Try.func35, Try.ntmps35
      go_wp2
      go_ret
      exact HP.out

/-- what has been added behind the first j parts -/
def upTo (D : Int → Prop) (ps : List Int) (men : Int → Int → Prop) (j : Nat) : Int → Prop := fun r => D r ∨ ∃ p ∈ ps.take j, men p r
theorem upTo_zero (D : Int → Prop) (ps : List Int) (men : Int → Int → Prop) : upTo D ps men 0 = D := by
  funext r; simp [upTo]
theorem upTo_succ (D : Int → Prop) {ps : List Int} (men : Int → Int → Prop) {j : Nat} {p : Int} (h : ps[j]? = some p) : (fun r => upTo D ps men j r ∨ men p r) = upTo D ps men (j + 1) := by
  funext r
  unfold upTo
  rw [List.take_add_one, h]
  simp only [Option.toList_some, List.mem_append, List.mem_singleton, eq_iff_iff]
  constructor
  · rintro ((h | ⟨q, hq, h⟩) | h)
    · exact .inl h
    · exact .inr ⟨q, .inl hq, h⟩
    · exact .inr ⟨p, .inr rfl, h⟩
  · rintro (g | ⟨q, hq | rfl, g⟩)
    · exact .inl (.inl g)
    · exact .inl (.inr ⟨q, hq, g⟩)
    · exact .inr g
theorem upTo_all (D : Int → Prop) (ps : List Int) (men : Int → Int → Prop) {j : Nat} (h : ps.length ≤ j) : upTo D ps men j = fun r => D r ∨ ∃ p ∈ ps, men p r := by
  unfold upTo; rw [List.take_of_length_le h]

/-- the greatest of the first j -/
def maxTo (ps : List Int) (d : Int → Int) (j : Nat) : Int := ((ps.take j).map d).foldl max 0
theorem maxTo_succ {ps : List Int} (d : Int → Int) {j : Nat} {p : Int} (h : ps[j]? = some p) : maxTo ps d (j + 1) = max (maxTo ps d j) (d p) := by
  unfold maxTo; rw [List.take_add_one, h]; simp
theorem maxTo_bd {ps : List Int} {d : Int → Int} (hd : ∀ p ∈ ps, 0 ≤ d p ∧ d p ≤ 65535) (j : Nat) : 0 ≤ maxTo ps d j ∧ maxTo ps d j ≤ 65535 := by
  obtain ⟨h1, _, h3⟩ := foldMax_le ((ps.take j).map d) 0
  refine ⟨h1, ?_⟩
  unfold maxTo
  rcases h3 with h3 | h3
  · rw [h3]; omega
  · obtain ⟨p, hp, e⟩ := List.mem_map.1 h3
    rw [← e]
    exact (hd p (List.mem_of_mem_take hp)).2

/-- what 'copyable' answers, given what it is told of the parts -/
def copV (t : Ty) (cp : Int → Bool) : Bool := if t.kind = 3 then !t.mut_ else (tyParts t).all cp

section
variable (x : TyW) (K : FuncId) (caps : Array Value) (w : World) (hx : OneT w w.heap.size x) (S : Nat → Prop) (J : World → (Int → Prop) → Prop) (men : Int → Int → Prop) (D : Int → Prop)
  (hst : ∀ w w' D, J w D → Below w.heap.size w w' → J w' D) (hJ : J w D) (hfar : 0 < x.n → ∀ b o, x.A = some ⟨b, o, none⟩ → ¬ S b) (hS : ∀ k, S k → k < w.heap.size)
include hx hst hJ hfar hS

set_option maxHeartbeats 1000000 in
set_option maxRecDepth 100000 in
theorem depthV (d : Int → Int) (hd : ∀ p ∈ tyParts x.t, 0 ≤ d p ∧ d p ≤ 65535) (V : Visits K caps (fun p => .int .i64 (d p)) (tyParts x.t) w S J men) :
    Calls Try.prog 26 #[aggT x, .func (.func K) #[] caps] w fun e w' => e = .returned (.int .i64 (((tyParts x.t).map d).foldl max 0 + 1)) ∧ J w' (fun r => D r ∨ ∃ p ∈ tyParts x.t, men p r) ∧ Turn S w w' := by
  have HB := hide ((Below.refl w.heap.size w).alloc (Nat.le_refl _) (.cells (c5 x).toArray 31))
  have HX := hide ((hx.below HB.out).more (B' := (w.alloc (.cells (c5 x).toArray 31)).heap.size) (by simp))
  have HF := hide hfar
  have HS := hide hS
  have HJ := hide hJ
  have HST := hide hst
  have HD := hide hd
  have HV := hide V
  have hent := V.enter
  clear hx hst hJ hfar hS hd V
  go_enter Try.func26, Try.ntmps26
  go_wp2_with fail
  refine (partsF_any _ _ HX.out).mono ?_
  rintro e w1 ⟨A1, n1, c1, rfl, h1, h2, h3, h4, h5, h6⟩
  have HL := hide h3
  have HR := hide h4
  have HB1 := hide (HB.out.trans (h5.mono HB.out.size))
  have HN := hide (show 0 < n1 → ∀ b o, A1 = some ⟨b, o, none⟩ → ¬ S b from fun h0 b o e hs => by
    rcases h6 b o e with ⟨h, hn⟩ | h
    · exact HF.out (by omega) b o h hs
    · have := HS.out b hs
      simp at h
      omega)
  have hsz := h5.size
  simp only [World.size_alloc] at hsz
  unfold maxLen at h2
  clear h3 h4 h5 h6
  go_wp2_with fail
  go_loopw [5, 11] (fun v i wr => ∃ j : Nat, i = .int .i64 (j : Int) ∧ j ≤ n1 ∧ v = .int .i64 (maxTo (tyParts x.t) d j) ∧ Hid (J wr (upTo D (tyParts x.t) men j)) ∧ Turn S w1 wr) (fun _ i _ => n1 - (intOf i).toNat)
  case atStart => exact ⟨0, rfl, Nat.zero_le _, rfl, by show J w1 _; rw [upTo_zero]; exact HST.out _ _ _ HJ.out HB1.out, Turn.refl _ _⟩
  case round =>
    obtain ⟨j, rfl, hj, rfl, HJ1, ht⟩ := hrel
    have HT := hide ht
    clear ht
    have hmb := maxTo_bd HD.out j
    obtain ⟨hm0, hm1⟩ := hmb
    by_cases hlt : j < n1
    · have hlt' : (j : Int) < (n1 : Int) := by omega
      have hex : ∃ a, (tyParts x.t)[j]? = some a := ⟨_, List.getElem?_eq_getElem (by have := HL.out; omega)⟩
      obtain ⟨p, hp⟩ := hex
      obtain ⟨b, o, rfl, hb, c0⟩ := (HR.out.turn HT.out (Nat.le_refl _) HN.out).int hp
      have HP := hide hp
      have hdp := HD.out p (List.mem_of_getElem? hp)
      have hms := maxTo_succ d hp
      have HM := hide hms
      have HV1 := hide (HV.out.call p (List.mem_of_getElem? hp) wr _ (((Turn.of_below HB1.out).trans HT.out)) HJ1.out)
      obtain ⟨hd0, hd1⟩ := hdp
      generalize d p = q at *
      generalize maxTo (tyParts x.t) d j = mm at *
      clear hp hms
      go_wp2_with fail
      refine HV1.out.mono ?_
      rintro e w2 ⟨rfl, hj2, ht2⟩
      have HJ2 : Hid (J w2 (upTo D (tyParts x.t) men (j + 1))) := by show J w2 _; rw [← upTo_succ D men HP.out]; exact hj2
      have HT2 := hide (HT.out.trans ht2)
      clear hj2 ht2
      go_wp2_with fail
      go_roundw
      case rel => exact ⟨j + 1, by go_num, by omega, by rw [HM.out]; first | rfl | go_num, HJ2.out, HT2.out⟩
      case measure => simp [intOf]; omega
    · obtain rfl : j = n1 := by omega
      have HJ2 := HJ1.out
      rw [upTo_all _ _ _ (by rw [HL.out]; exact Nat.le_refl _)] at HJ2
      have hmm : maxTo (tyParts x.t) d j = ((tyParts x.t).map d).foldl max 0 := by unfold maxTo; rw [List.take_of_length_le (by rw [HL.out]; exact Nat.le_refl _)]
      have HM := hide hmm
      have HJ3 := hide HJ2
      generalize maxTo (tyParts x.t) d j = mm at *
      clear hmm HJ2
      go_wp2
      go_ret
      exact ⟨congrArg (fun z => Ending.returned (.int .i64 (z + 1))) HM.out, HJ3.out, (Turn.of_below HB1.out).trans HT.out⟩


set_option maxHeartbeats 1000000 in
set_option maxRecDepth 100000 in
theorem copyableV (cp : Int → Bool) (hmono : ∀ w D D', J w D → (∀ r, D r → D' r) → J w D') (hk : x.t.kind ≠ 3 → tyParts x.t = x.t.fields) (V : x.t.kind ≠ 3 → Visits K caps (fun p => .bool (cp p)) (tyParts x.t) w S J men) (hent : ∀ (args : Array Value) (w : World), (callFunc K args).run Try.prog w = .ok (.enter K args) w) :
    Calls Try.prog 38 #[aggT x, .func (.func K) #[] caps] w fun e w' => e = .returned (.bool (copV x.t cp)) ∧ J w' (fun r => D r ∨ ∃ p ∈ tyParts x.t, men p r) ∧ Turn S w w' := by
  have HB := hide ((Below.refl w.heap.size w).alloc (Nat.le_refl _) (.cells (c5 x).toArray 31))
  have HX := hide ((hx.below HB.out).more (B' := (w.alloc (.cells (c5 x).toArray 31)).heap.size) (by simp))
  have HF := hide hfar
  have HS := hide hS
  have HJ := hide hJ
  have HST := hide hst
  have HMO := hide hmono
  have HJB := hide (hst _ _ _ hJ HB.out)
  by_cases h3 : x.t.kind = 3
  · have e3 : (x.t.kind == 3) = true := beq_iff_eq.2 h3
    have HR := hide (show copV x.t cp = !x.t.mut_ from if_pos h3)
    clear hx hst hJ hfar hS hmono hk V h3 hent
    go_enter Try.func38, Try.ntmps38
    go_wp2
    go_ret
    exact ⟨congrArg (fun b => Ending.returned (.bool b)) HR.out.symm, HMO.out _ _ _ HJB.out (fun r h => .inl h), Turn.of_below HB.out⟩
  · have e3 : (x.t.kind == 3) = false := beq_eq_false_iff_ne.2 h3
    have HV := hide (V h3)
    have hk' := hk h3
    have HK := hide hk'
    have HL := hide (show (tyParts x.t).length = x.n by rw [hk']; exact hx.ok.len)
    have HRD := hide (show Rd (w.alloc (.cells (c5 x).toArray 31)) (w.alloc (.cells (c5 x).toArray 31)).heap.size x.A x.n (i64s (tyParts x.t)) by rw [hk']; exact HX.out.rd)
    have HR := hide (show copV x.t cp = (tyParts x.t).all cp from if_neg h3)
    have hn : x.n ≤ maxLen := Nat.le_trans hx.ok.nc hx.ok.cm
    unfold maxLen at hn
    clear hx hst hJ hfar hS hmono hk hk' V h3
    obtain ⟨t, A1, n1, c1⟩ := x
    simp only [] at hn HL HRD
    go_enter Try.func38, Try.ntmps38
    go_wp2
    go_loopw [16] (fun i wr => ∃ j : Nat, i = .int .i64 (j : Int) ∧ j ≤ n1 ∧ Hid (((tyParts t).take j).all cp = true) ∧ Hid (J wr (upTo D (tyParts t) men j)) ∧ Turn S (w.alloc (.cells (c5 ⟨t, A1, n1, c1⟩).toArray 31)) wr) (fun i _ => n1 - (intOf i).toNat)
    case atStart => exact ⟨0, rfl, Nat.zero_le _, rfl, by show J _ _; rw [upTo_zero]; exact HJB.out, Turn.refl _ _⟩
    case round =>
      obtain ⟨j, rfl, hj, HT, HJ1, ht⟩ := hrel
      have HTU := hide ht
      clear ht
      by_cases hlt : j < n1
      · have hlt' : (j : Int) < (n1 : Int) := by omega
        have hex : ∃ a, (tyParts t)[j]? = some a := ⟨_, List.getElem?_eq_getElem (by have := HL.out; omega)⟩
        obtain ⟨p, hp⟩ := hex
        obtain ⟨b, o, rfl, hb, c0⟩ := (HRD.out.turn HTU.out (Nat.le_refl _) HF.out).int hp
        have HP := hide hp
        have HV1 := hide (HV.out.call p (List.mem_of_getElem? hp) wr _ (((Turn.of_below HB.out).trans HTU.out)) HJ1.out)
        cases hc : cp p
        · have HC := hide hc
          have HR2 := hide (show (tyParts t).all cp = false by
            cases h : (tyParts t).all cp
            · rfl
            · rw [List.all_eq_true.1 h p (List.mem_of_getElem? hp)] at hc; cases hc)
          clear hp hc
          go_wp2_with fail
          refine HV1.out.mono ?_
          rintro e w2 ⟨rfl, hj2, ht2⟩
          have HJ2 : Hid (J w2 (upTo D (tyParts t) men (j + 1))) := by show J w2 _; rw [← upTo_succ D men HP.out]; exact hj2
          have HT2 := hide (HTU.out.trans ht2)
          clear hj2 ht2
          rw [HC.out]
          go_wp2_with fail
          go_ret
          refine ⟨congrArg (fun b => Ending.returned (.bool b)) (HR.out.trans HR2.out).symm, HMO.out _ _ _ HJ2.out (fun r h => ?_), (Turn.of_below HB.out).trans HT2.out⟩
          rcases h with h | ⟨q, hq, h⟩
          · exact .inl h
          · exact .inr ⟨q, List.mem_of_mem_take hq, h⟩
        · have HC := hide hc
          have HA := hide (show ((tyParts t).take (j + 1)).all cp = true by
            rw [List.take_add_one, hp, List.all_append, HT.out]; simp [hc])
          clear hp hc
          go_wp2_with fail
          refine HV1.out.mono ?_
          rintro e w2 ⟨rfl, hj2, ht2⟩
          have HJ2 : Hid (J w2 (upTo D (tyParts t) men (j + 1))) := by show J w2 _; rw [← upTo_succ D men HP.out]; exact hj2
          have HT2 := hide (HTU.out.trans ht2)
          clear hj2 ht2
          rw [HC.out]
          go_wp2_with fail
          go_roundw
          case rel => exact ⟨j + 1, by go_num, by omega, HA.out, HJ2.out, HT2.out⟩
          case measure => simp [intOf]; omega
      · obtain rfl : j = n1 := by omega
        have HJ2 := HJ1.out
        rw [upTo_all _ _ _ (by rw [HL.out]; exact Nat.le_refl _)] at HJ2
        have HR2 := HT.out
        rw [List.take_of_length_le (by rw [HL.out]; exact Nat.le_refl _)] at HR2
        have HR3 := hide HR2
        have HJ3 := hide HJ2
        clear HJ2 HR2
        go_wp2
        go_ret
        exact ⟨congrArg (fun b => Ending.returned (.bool b)) (HR.out.trans HR3.out).symm, HJ3.out, (Turn.of_below HB.out).trans HTU.out⟩
end
end Go.Proofs.Ytkcgonggokhneaa
