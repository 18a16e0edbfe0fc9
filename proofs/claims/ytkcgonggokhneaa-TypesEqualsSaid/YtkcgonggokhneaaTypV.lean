/- The visit that notes the regions that types mention. -/
import Derived.Test.YtkcgonggokhneaaTypD
import Derived.Maps.RangeWalk
set_option linter.unusedVariables false
namespace Go.Proofs.Ytkcgonggokhneaa
open Go.RowKit

theorem int_lawV : Go.Maps.Keyed Try.prog 3 := Go.Maps.int_keyed Try.underlying3

/-- the regions that a type mentions, given those of its parts -/
def menOf (t : Ty) (men : Int → Int → Prop) (r : Int) : Prop := (t.kind = 3 ∧ r = t.region) ∨ ∃ p ∈ tyParts t, men p r

/-- what the state J says of the map of regions -/
structure Notes (S : Nat → Prop) (J : World → (Int → Prop) → Prop) (gq : Nat) (RR : Int → Prop) : Prop where
  open_ : ∀ w D, J w D → ∃ bq m Dm, w.cell? ⟨gq, 0, none⟩ = some (.map (some bq)) ∧ w.ownsMap (H := Unit) Try.prog 3 (plainElem Try.prog 4) bq m Dm ∧ m < maxLen ∧ S bq ∧
    ∀ r w', IntR r → RR r → w'.ownsMap (H := Unit) Try.prog 3 (plainElem Try.prog 4) bq (m + 1) (Dm.put (.int .i64 r) (.lit (.bool true))) → w.grownBy w' (some bq) → J w' (fun q => D q ∨ q = r)

theorem keyOf_r {r : Int} (h : IntR r) : keyOf Try.prog 3 (.int .i64 r) = some (.int .i64 r) := Go.Maps.keyOf_int_mk Try.underlying3 (wf_i64 h)
/-- a type is read as before where one block that it does not lie in has turned -/
theorem OneT.grown1 {w w1 : World} {x : TyW} {bq : Nat} {S : Nat → Prop} (h : OneT w w.heap.size x) (hg : w.grownBy w1 (some bq)) (hf : 0 < x.n → ∀ b o, x.A = some ⟨b, o, none⟩ → ¬ S b) (hs : S bq) : OneT w1 w1.heap.size x :=
  ⟨h.ok, h.rd.1, fun hn => by
    obtain ⟨b, o, e, hb, hc⟩ := h.rd.2 hn
    exact ⟨b, o, e, Nat.lt_of_lt_of_le hb hg.size, fun j u hu => (hg.cell_far ⟨b, o + j, none⟩ hb (fun e' => by injection e' with e'; have e2 : b = bq := e'; exact hf hn b o e (by rw [e2]; exact hs))).trans (hc j u hu)⟩⟩

section
variable (x : TyW) (K : FuncId) (caps : Array Value) (w : World) (hx : OneT w w.heap.size x) (S : Nat → Prop) (J : World → (Int → Prop) → Prop) (men : Int → Int → Prop) (D : Int → Prop)
  (hst : ∀ w w' D, J w D → Below w.heap.size w w' → J w' D) (hJ : J w D) (hfar : 0 < x.n → ∀ b o, x.A = some ⟨b, o, none⟩ → ¬ S b) (hS : ∀ k, S k → k < w.heap.size)
include hx hst hJ hfar hS

set_option maxHeartbeats 1000000 in
set_option maxRecDepth 100000 in
theorem regionsV (gq : Nat) (hgq : gq < w.heap.size) (RR : Int → Prop) (hRR : RR x.t.region) (hN : Notes S J gq RR) (V : ∀ w', Turn S w w' → Visits K caps (fun _ => .bool true) (tyParts x.t) w' S J men) :
    Calls Try.prog 34 #[aggT x, .func (.func K) #[] caps, .pointer (some ⟨gq, 0, none⟩)] w fun e w' => e = .returned (.bool true) ∧ J w' (fun r => D r ∨ menOf x.t men r) ∧ Turn S w w' := by
  have HB := hide ((Below.refl w.heap.size w).alloc (Nat.le_refl _) (.cells (c5 x).toArray 31))
  have HX := hide ((hx.below HB.out).more (B' := (w.alloc (.cells (c5 x).toArray 31)).heap.size) (by simp))
  have HF := hide hfar
  have HS := hide hS
  have HJ := hide hJ
  have HST := hide hst
  have HJB := hide (hst _ _ _ hJ HB.out)
  have HV := hide (V w (Turn.refl _ _))
  have hent := (V w (Turn.refl _ _)).enter
  by_cases h3 : x.t.kind = 3
  · have e3 : (x.t.kind == 3) = true := beq_iff_eq.2 h3
    have H3 := hide h3
    have HRG := hide hx.ok.r
    obtain ⟨bq, m, Dm, hc, hown, hm, hs, hup⟩ := hN.open_ _ _ HJB.out
    have HO := hide hown
    have HUP := hide hup
    have HBQ := hide hs
    have HD1 : Hid ((fun r => (fun q => D q ∨ q = x.t.region) r ∨ ∃ p ∈ tyParts x.t, men p r) = fun r => D r ∨ menOf x.t men r) := by
      show _ = _
      funext r
      simp only [menOf, h3, true_and, or_assoc]
    have hex : ∃ D1 : Int → Prop, D1 = fun q => D q ∨ q = x.t.region := ⟨_, rfl⟩
    obtain ⟨D1, hD1⟩ := hex
    rw [← hD1] at HD1
    have HDD := hide hD1
    have hc' : w.cell? ⟨gq, 0, none⟩ = some (.map (some bq)) := by rwa [World.cell?_alloc_lt w _ ⟨gq, 0, none⟩ hgq] at hc
    have hbs : bq < w.heap.size := hS bq hs
    have HNB := hide hbs
    have hr1 := keyOf_r HRG.out
    have HKR := hide hr1
    clear hx hst hJ hfar hS hN V h3 hown hup hs hD1 hc hr1 hbs
    go_enter Try.func34, Try.ntmps34
    go_wp2_with (at_mapUpdate; refine wpList_mapUpdate_own _ rfl _ _ _ 54 rfl 3 4 int_lawV Try.underlying54 _ bq m Dm rfl HO.out hm _ _ (.int .i64 x.t.region) rfl rfl HKR.out (.lit (.bool true)) [] (plainElem_bool Try.underlying4 true) ?_; intro w1 hown1 hg1; have HJW : Hid (J w1 D1) := (by show J w1 D1; rw [HDD.out]; exact HUP.out _ _ HRG.out hRR hown1 hg1); have HTW : Hid (Turn S w w1) := ((Turn.of_below HB.out).grown hg1 (fun k hk => (by cases hk; exact .inl HBQ.out))); have HSZ : Hid (w.heap.size + 1 ≤ w1.heap.size) := (by have := hg1.size; simpa [Hid] using this); have hlt1 : w.heap.size < w1.heap.size := HSZ.out; have hne : some w.heap.size ≠ some bq := (fun e => by injection e with e; have := HNB.out; omega); have d0 : w1.cell? ⟨w.heap.size, 0, none⟩ = some (.int .i64 x.t.kind) := hg1.cell (by simp [go_sem]) hne; have d1 : w1.cell? ⟨w.heap.size, 1, none⟩ = some (.bool x.t.mut_) := hg1.cell (by simp [go_sem]) hne; have d2 : w1.cell? ⟨w.heap.size, 2, none⟩ = some (.int .i64 x.t.region) := hg1.cell (by simp [go_sem]) hne; have d3 : w1.cell? ⟨w.heap.size, 3, none⟩ = some (.int .i64 x.t.elem) := hg1.cell (by simp [go_sem]) hne; have d4 : w1.cell? ⟨w.heap.size, 4, none⟩ = some (.slice x.A x.n x.c) := hg1.cell (by simp [go_sem]) hne; have HX1 : Hid (OneT w1 w1.heap.size x) := (HX.out.grown1 hg1 HF.out HBQ.out); clear hown1 hg1 hne)
    refine (partsF_any _ _ HX1.out).mono ?_
    rintro e w2 ⟨A1, n1, c1, rfl, h1, h2, h3, h4, h5, h6⟩
    have HL := hide h3
    have HR := hide h4
    have HT1 := hide (HTW.out.trans (Turn.of_below h5))
    have HJ1 := hide (HST.out _ _ _ HJW.out h5)
    have HN := hide (show 0 < n1 → ∀ b o, A1 = some ⟨b, o, none⟩ → ¬ S b from fun h0 b o e hs => by
      rcases h6 b o e with ⟨h, hn⟩ | h
      · exact HF.out (by omega) b o h hs
      · have := HS.out b hs
        have := HSZ.out
        omega)
    unfold maxLen at h2
    clear h3 h4 h5 h6
    go_wp2_with fail
    go_loopw [17] (fun i wr => ∃ j : Nat, i = .int .i64 (j : Int) ∧ j ≤ n1 ∧ Hid (J wr (upTo D1 (tyParts x.t) men j)) ∧ Turn S w2 wr) (fun i _ => n1 - (intOf i).toNat)
    case atStart => exact ⟨0, rfl, Nat.zero_le _, by show J w2 _; rw [upTo_zero]; exact HJ1.out, Turn.refl _ _⟩
    case round =>
      obtain ⟨j, rfl, hj, HJR, ht⟩ := hrel
      have HT := hide ht
      clear ht
      by_cases hlt : j < n1
      · have hlt' : (j : Int) < (n1 : Int) := by omega
        have hex : ∃ a, (tyParts x.t)[j]? = some a := ⟨_, List.getElem?_eq_getElem (by have := HL.out; omega)⟩
        obtain ⟨p, hp⟩ := hex
        obtain ⟨b, o, rfl, hb, c0⟩ := (HR.out.turn HT.out (Nat.le_refl _) HN.out).int hp
        have HP := hide hp
        have HV1 := hide (HV.out.call p (List.mem_of_getElem? hp) wr _ (HT1.out.trans HT.out) HJR.out)
        clear hp
        go_wp2_with fail
        refine HV1.out.mono ?_
        rintro e w3 ⟨rfl, hj2, ht2⟩
        have HJ2 : Hid (J w3 (upTo D1 (tyParts x.t) men (j + 1))) := by show J w3 _; rw [← upTo_succ D1 men HP.out]; exact hj2
        have HT2 := hide (HT.out.trans ht2)
        clear hj2 ht2
        go_wp2_with fail
        go_roundw
        case rel => exact ⟨j + 1, by go_num, by omega, HJ2.out, HT2.out⟩
        case measure => simp [intOf]; omega
      · obtain rfl : j = n1 := by omega
        have HJ2 := HJR.out
        rw [upTo_all _ _ _ (by rw [HL.out]; exact Nat.le_refl _), HD1.out] at HJ2
        have HJ3 := hide HJ2
        clear HJ2
        go_wp2
        go_ret
        exact ⟨rfl, HJ3.out, HT1.out.trans HT.out⟩
  · have e3 : (x.t.kind == 3) = false := beq_eq_false_iff_ne.2 h3
    have hex : ∃ D1 : Int → Prop, D1 = D := ⟨_, rfl⟩
    obtain ⟨D1, hD1⟩ := hex
    have HD1 : Hid ((fun r => D1 r ∨ ∃ p ∈ tyParts x.t, men p r) = fun r => D r ∨ menOf x.t men r) := by
      show _ = _
      rw [hD1]
      funext r
      simp only [menOf, h3, false_and, false_or]
    rw [← hD1] at HJB
    have HJW := HJB
    have HX1 := HX
    have HTW : Hid (Turn S w (w.alloc (.cells (c5 x).toArray 31))) := Turn.of_below HB.out
    have HSZ : Hid (w.heap.size + 1 ≤ (w.alloc (.cells (c5 x).toArray 31)).heap.size) := by show _ ≤ _; simp
    clear hx hst hJ hfar hS hN V h3 hD1
    go_enter Try.func34, Try.ntmps34
    go_wp2_with fail
    refine (partsF_any _ _ HX1.out).mono ?_
    rintro e w2 ⟨A1, n1, c1, rfl, h1, h2, h3, h4, h5, h6⟩
    have HL := hide h3
    have HR := hide h4
    have HT1 := hide (HTW.out.trans (Turn.of_below h5))
    have HJ1 := hide (HST.out _ _ _ HJW.out h5)
    have HN := hide (show 0 < n1 → ∀ b o, A1 = some ⟨b, o, none⟩ → ¬ S b from fun h0 b o e hs => by
      rcases h6 b o e with ⟨h, hn⟩ | h
      · exact HF.out (by omega) b o h hs
      · have := HS.out b hs
        have := HSZ.out
        omega)
    unfold maxLen at h2
    clear h3 h4 h5 h6
    go_wp2_with fail
    go_loopw [17] (fun i wr => ∃ j : Nat, i = .int .i64 (j : Int) ∧ j ≤ n1 ∧ Hid (J wr (upTo D1 (tyParts x.t) men j)) ∧ Turn S w2 wr) (fun i _ => n1 - (intOf i).toNat)
    case atStart => exact ⟨0, rfl, Nat.zero_le _, by show J w2 _; rw [upTo_zero]; exact HJ1.out, Turn.refl _ _⟩
    case round =>
      obtain ⟨j, rfl, hj, HJR, ht⟩ := hrel
      have HT := hide ht
      clear ht
      by_cases hlt : j < n1
      · have hlt' : (j : Int) < (n1 : Int) := by omega
        have hex : ∃ a, (tyParts x.t)[j]? = some a := ⟨_, List.getElem?_eq_getElem (by have := HL.out; omega)⟩
        obtain ⟨p, hp⟩ := hex
        obtain ⟨b, o, rfl, hb, c0⟩ := (HR.out.turn HT.out (Nat.le_refl _) HN.out).int hp
        have HP := hide hp
        have HV1 := hide (HV.out.call p (List.mem_of_getElem? hp) wr _ (HT1.out.trans HT.out) HJR.out)
        clear hp
        go_wp2_with fail
        refine HV1.out.mono ?_
        rintro e w3 ⟨rfl, hj2, ht2⟩
        have HJ2 : Hid (J w3 (upTo D1 (tyParts x.t) men (j + 1))) := by show J w3 _; rw [← upTo_succ D1 men HP.out]; exact hj2
        have HT2 := hide (HT.out.trans ht2)
        clear hj2 ht2
        go_wp2_with fail
        go_roundw
        case rel => exact ⟨j + 1, by go_num, by omega, HJ2.out, HT2.out⟩
        case measure => simp [intOf]; omega
      · obtain rfl : j = n1 := by omega
        have HJ2 := HJR.out
        rw [upTo_all _ _ _ (by rw [HL.out]; exact Nat.le_refl _), HD1.out] at HJ2
        have HJ3 := hide HJ2
        clear HJ2
        go_wp2
        go_ret
        exact ⟨rfl, HJ3.out, HT1.out.trans HT.out⟩
end
end Go.Proofs.Ytkcgonggokhneaa
