/- Part 41 of the contracts and their mathematics. -/
import Derived.Test.YtfgacmgjpikgaaaGreatDoorQ31
set_option linter.unusedVariables false
set_option linter.unusedSimpArgs false
namespace Go.Proofs.YtfgacmgjpikgaaaGreatDoor
open Go.RowKit
theorem strK : Go.Maps.Keyed Tryz.prog 9 := Go.Maps.string_keyed Tryz.underlying9
theorem mapStr : Tryz.prog.underlying 110 = some (.map 9 4) := Tryz.underlying110
def keyS (s : ByteArray) : Lit := .string s.data.toList
theorem keyOf_s {s : ByteArray} (h : s.size ≤ maxLen) : keyOf Tryz.prog 9 (.string s) = some (keyS s) := Go.WideMaps.keyOf_string_mk Tryz.underlying9 h
theorem keyS_inj {s t : ByteArray} (h : keyS s = keyS t) : s = t := by
 unfold keyS at h
 injection h with h
 apply ByteArray.ext
 exact Array.ext' h
theorem keyS_key {s : ByteArray} : Go.WideAt.IsKeyLit (keyS s) := trivial
structure SeenB (b : Nat) (pre : List ByteArray) (w : World) (m : Nat) (Dm : DataW Unit) : Prop where
 own : w.ownsMap (H := Unit) Tryz.prog 9 (plainElem Tryz.prog 4) b m Dm
 le : m ≤ pre.length
 has : ∀ s, Maps.has Dm (keyS s) = true ↔ s ∈ pre
 val : ∀ s, s ∈ pre → ∀ z, Dm.atKey (keyS s) z = .lit (.bool true)
def SeenM (b : Nat) (pre : List ByteArray) (w : World) : Prop := ∃ m Dm, SeenB b pre w m Dm
section
variable {b : Nat} {pre : List ByteArray} {w w' : World}
theorem SeenM.block (h : SeenM b pre w) (hb : w'.heap[b]? = w.heap[b]?) : SeenM b pre w' := by
 obtain ⟨m, Dm, h1, h2, h3, h4⟩ := h
 exact ⟨m, Dm, owns_block h1 hb, h2, h3, h4⟩
theorem SeenM.lt (h : SeenM b pre w) : b < w.heap.size := by
 obtain ⟨m, Dm, h1, _⟩ := h
 exact owns_lt h1
theorem SeenM.made (w : World) : SeenM w.heap.size [] (w.alloc (.map #[] 0)) :=
 ⟨0, .map [], World.ownsMap_made (H := Unit) w Tryz.prog 9 (plainElem Tryz.prog 4), Nat.le_refl _, (fun s => by simp [Maps.has]), (fun s h => by cases h)⟩
set_option maxRecDepth 100000 in
theorem SeenB.look {m : Nat} {Dm : DataW Unit} (h : SeenB b pre w m Dm) {s : ByteArray} (hs : s.size ≤ maxLen) {v : Bool} (hv0 : hasB pre s = v) :
  (Instr.lookup 110 (.map (some b)) (.string s) false).run Tryz.prog w = .ok (.bool v) w := by
 obtain ⟨u, ps, hrun, hv⟩ := h.own.lookup strK mapStr (zeroB w) (zd := .lit (.bool false)) (zp := []) (plainElem_bool Tryz.underlying4 false) (keyOf_s hs)
 rw [hrun, ← hv0]
 cases hh : Maps.has Dm (keyS s)
 ·
  rw [Maps.atKey_of_not_has hh] at hv
  obtain ⟨c, rfl, hc⟩ := plainElem_bool_inv Tryz.underlying4 hv
  injection hc with hc _
  injection hc with hc
  injection hc with hc
  have hn : s ∉ pre := fun q => by rw [(h.has s).2 q] at hh; cases hh
  rw [hasB_not.2 hn, hc]
 ·
  have hin := (h.has s).1 hh
  rw [h.val s hin] at hv
  obtain ⟨c, rfl, hc⟩ := plainElem_bool_inv Tryz.underlying4 hv
  injection hc with hc _
  injection hc with hc
  injection hc with hc
  rw [hasB_iff.2 hin, hc]
theorem SeenB.put {m : Nat} {Dm : DataW Unit} (h : SeenB b pre w m Dm) {s : ByteArray} (hw : w'.ownsMap (H := Unit) Tryz.prog 9 (plainElem Tryz.prog 4) b (m + 1) (Dm.put (keyS s) (.lit (.bool true)))) : SeenM b (pre ++ [s]) w' := by
 have hmap : Maps.IsMap Dm := ⟨_, (h.own.entries strK).choose_spec.1⟩
 refine ⟨m + 1, _, hw, by have := h.le; simp; omega, fun u => ?_, fun u hu z => ?_⟩
 ·
  by_cases hut : u = s
  ·
   subst hut
   rw [Maps.has_put_same hmap keyS_key]
   simp
  ·
   have hne : keyS u ≠ keyS s := fun e => hut (keyS_inj e)
   rw [Maps.has_put_other hne, h.has u]
   simp [hut]
 ·
  by_cases hut : u = s
  ·
   subst hut
   exact Maps.atKey_put_same hmap keyS_key _ z
  ·
   have hne : keyS u ≠ keyS s := fun e => hut (keyS_inj e)
   rcases List.mem_append.1 hu with hu | hu
   ·
    exact (Maps.atKey_put_other hne _ z).trans (h.val u hu z)
   ·
    exact absurd (by simpa using hu) hut
end
noncomputable def nmErr (pre : List ByteArray) (s : ByteArray) : Int := if identB s = false then 12 else if hasB pre s = true then 21 else 0
def NmOut (b : Nat) (pre : List ByteArray) (s : ByteArray) (v : Int) (w : World) (e : Ending) (w' : World) : Prop := e = .returned (.int .i64 v) ∧ (v ≠ 0 → w = w') ∧ (v = 0 → SeenM b (pre ++ [s]) w' ∧ w.grownBy w' (some b))
set_option maxHeartbeats 4000000 in
set_option maxRecDepth 100000 in
theorem cName_is {b : Nat} {pre : List ByteArray} {s : ByteArray} {v : Int} {w : World} (h : SeenM b pre w) (hp : pre.length < maxLen) (hs : s.size ≤ maxLen) (hv : nmErr pre s = v) :
  Calls Tryz.prog 72 #[.map (some b), .string s] w (NmOut b pre s v w) := by
 obtain ⟨m, Dm, h⟩ := h
 have HS := hide hs
 unfold nmErr at hv
 obtain ⟨bi, hid⟩ : ∃ z, identB s = z := ⟨_, rfl⟩
 have HID := hide hid
 rw [hid] at hv
 cases bi
 ·
  obtain rfl : v = 12 := hv.symm
  clear h hp hs hv hid
  go_enter Tryz.func72, Tryz.ntmps72
  go_wp2_with fail
  refine (IsIdent_is HID.out _ HS.out).mono ?_
  rintro e1 w1 ⟨rfl, rfl⟩
  go_wp2
  go_ret
  exact ⟨rfl, fun _ => rfl, fun e => absurd e (by decide)⟩
 obtain ⟨bs, hbs⟩ : ∃ z, hasB pre s = z := ⟨_, rfl⟩
 have HL := hide (h.look hs hbs)
 rw [hbs, if_neg (by simp)] at hv
 have HB := hide h
 have hfew : m < maxLen := Nat.lt_of_le_of_lt h.le hp
 cases bs
 ·
  obtain rfl : v = 0 := hv.symm
  clear h hp hs hv hid hbs
  go_enter Tryz.func72, Tryz.ntmps72
  go_wp2_with fail
  refine (IsIdent_is HID.out _ HS.out).mono ?_
  rintro e1 w1 ⟨rfl, rfl⟩
  go_wp2_with (first | (at_lookup; refine wpList_look _ rfl _ _ _ false rfl _ _ _ rfl rfl HL.out ?_) | (at_mapUpdate; refine wpList_mapUpdate_own _ rfl _ _ _ 110 rfl 9 4 strK mapStr _ b m Dm rfl HB.out.own hfew _ _ (keyS s) rfl rfl (keyOf_s HS.out) (.lit (.bool true)) [] (plainElem_bool Tryz.underlying4 true) ?_; intro w3 hown3 hg3; have HO3 := hide hown3; have HG3 := hide hg3; clear hown3 hg3))
  go_ret
  exact ⟨rfl, fun e => absurd rfl e, fun _ => ⟨HB.out.put HO3.out, HG3.out⟩⟩
 ·
  obtain rfl : v = 21 := hv.symm
  clear h hp hs hv hid hbs hfew
  go_enter Tryz.func72, Tryz.ntmps72
  go_wp2_with fail
  refine (IsIdent_is HID.out _ HS.out).mono ?_
  rintro e1 w1 ⟨rfl, rfl⟩
  go_wp2_with (first | (at_lookup; refine wpList_look _ rfl _ _ _ false rfl _ _ _ rfl rfl HL.out ?_))
  go_ret
  exact ⟨rfl, fun _ => rfl, fun e => absurd e (by decide)⟩
theorem rgErr_nm {L : List ByteArray} {j : Nat} {s : ByteArray} (h : L[j]? = some s) : rgErr (L.take j) (L.drop j) = if nmErr (L.take j) s ≠ 0 then nmErr (L.take j) s else rgErr (L.take (j + 1)) (L.drop (j + 1)) := by
 rw [rgErr_at h]
 unfold nmErr
 cases identB s <;> cases hasB (L.take j) s <;> simp
set_option maxHeartbeats 4000000 in
set_option maxRecDepth 100000 in
theorem cRegs_is {x : SlW ByteArray} {v : Int} {w : World} (hx : Strs w w.heap.size x) (hv : (if 65535 < x.L.length then (15 : Int) else rgErr [] x.L) = v) :
  Calls Tryz.prog 51 #[x.val] w fun e w' => e = .returned (.int .i64 v) ∧ Below w.heap.size w w' := by
 have HX := hide hx
 have hl := hx.len
 have hm := hx.nm
 unfold maxLen at hm
 obtain ⟨A, n, c, L⟩ := x
 have hl : L.length = n := hl
 have hm : n ≤ 2 ^ 63 - 1 := hm
 have hv9 : (if 65535 < n then (15 : Int) else rgErr [] L) = v := by rw [← hv, ← hl]
 clear hv hx
 show Calls Tryz.prog 51 #[.slice A n c] w _
 by_cases hb : 65535 < n
 ·
  have tb : (65535 : Int) < (n : Int) := by omega
  rw [if_pos hb] at hv9
  obtain rfl : v = 15 := hv9.symm
  clear hb hv9 hl
  go_enter Tryz.func51, Tryz.ntmps51
  go_wp2
  go_ret
  exact ⟨rfl, Below.refl _ _⟩
 have tb : (n : Int) ≤ 65535 := by omega
 rw [if_neg hb] at hv9
 have HV := hide hv9
 have HLen := hide hl
 have HM0 := hide (SeenM.made w)
 have HB0 := hide ((Below.refl w.heap.size w).alloc (Nat.le_refl _) (.map #[] 0))
 have hmm := @run_makeMap Tryz.prog
 clear hb hv9 hl
 go_enter Tryz.func51, Tryz.ntmps51
 go_wp2
 go_loopw [13] (fun i wr => ∃ j : Nat, i = .int .i64 (j : Int) ∧ j ≤ n ∧ Hid (rgErr (L.take j) (L.drop j) = v) ∧ Hid (SeenM w.heap.size (L.take j) wr) ∧ Hid (Below w.heap.size w wr)) (fun i _ => n - (intOf i).toNat)
 case atStart => exact ⟨0, rfl, Nat.zero_le _, hide HV.out, hide HM0.out, hide HB0.out⟩
 case round =>
  obtain ⟨j, rfl, hj, HE, HS, HB⟩ := hrel
  by_cases hlt : j < n
  ·
   have hlt' : (j : Int) < (n : Int) := by omega
   obtain ⟨s, hs⟩ : ∃ p, L[j]? = some p := ⟨_, List.getElem?_eq_getElem (by have : L.length = n := HLen.out; omega)⟩
   have hax : Strs wr w.heap.size ⟨A, n, c, L⟩ := SlH.below HX.out HB.out fun _ h => h
   obtain ⟨b, o, hA, _, hsz, hc⟩ := hax.at_ hs
   have hA : A = some ⟨b, o, none⟩ := hA
   subst hA
   have cs : wr.cell? ⟨b, o + j, none⟩ = some (.string s) := by have h1 := hc 0 _ rfl; rwa [Nat.mul_one] at h1
   have HN := hide (rgErr_nm hs)
   obtain ⟨q, hq⟩ : ∃ q, nmErr (L.take j) s = q := ⟨_, rfl⟩
   have HQ := hide hq
   have HC := hide (cName_is HS.out (by rw [List.length_take]; unfold maxLen; omega) hsz hq)
   have HT := hide (take_up10 hs)
   clear hs hax hsz hc hq
   by_cases h0 : q = 0
   ·
    subst h0
    have HE2 := hide (show rgErr (L.take (j + 1)) (L.drop (j + 1)) = v from by rw [← HE.out, HN.out, if_neg (by rw [HQ.out]; simp)])
    go_wp2_with fail
    refine HC.out.mono ?_
    rintro e1 w1 ⟨rfl, _, hz⟩
    obtain ⟨hs2, hg2⟩ := hz rfl
    have HS2 := hide (show SeenM w.heap.size (L.take (j + 1)) w1 from by rw [HT.out]; exact hs2)
    have HB2 := hide (HB.out.grown hg2 HB.out.size (fun k e => by injection e with e; omega))
    clear hz hs2 hg2
    go_wp2
    go_roundw
    case rel => exact ⟨j + 1, by go_num, by omega, hide HE2.out, hide HS2.out, hide HB2.out⟩
    case measure => simp [intOf]; omega
   ·
    have t0 : (q != 0) = true := by simp [h0]
    have HVc := hide (show v = q from by rw [← HE.out, HN.out, HQ.out, if_pos h0])
    have HNE := hide h0
    clear h0
    go_wp2_with fail
    refine HC.out.mono ?_
    rintro e1 w1 ⟨rfl, hz, _⟩
    obtain rfl := hz HNE.out
    clear hz
    go_wp2
    go_ret
    exact ⟨congrArg (fun v => Ending.returned (.int .i64 v)) HVc.out.symm, HB.out⟩
  ·
   obtain rfl : n = j := by omega
   have HVc := hide (show v = 0 from by rw [← HE.out]; exact rgErr_end (by have : L.length = n := HLen.out; omega))
   go_wp2
   go_ret
   exact ⟨congrArg (fun v => Ending.returned (.int .i64 v)) HVc.out.symm, HB.out⟩
theorem lcErr_nm {nt : Nat} {L : List LcV} {j : Nat} {x : LcV} (h : L[j]? = some x) : lcErr nt ((L.take j).map LcV.name) (L.drop j) = if nmErr ((L.take j).map LcV.name) x.name ≠ 0 then nmErr ((L.take j).map LcV.name) x.name else if tyIn x.ty (nt : Int) = false then 3 else lcErr nt ((L.take (j + 1)).map LcV.name) (L.drop (j + 1)) := by
 rw [lcErr_at h]
 unfold nmErr
 have hb : (x.ty < 0 ∨ (nt : Int) ≤ x.ty) ↔ tyIn x.ty (nt : Int) = false := by rw [tyIn_not]; omega
 cases identB x.name
 ·
  simp
 ·
  cases hasB ((L.take j).map LcV.name) x.name
  ·
   simp only [hb, Bool.true_eq_false, Bool.false_eq_true, if_false, ne_eq, not_true_eq_false]
  ·
   simp
set_option maxHeartbeats 4000000 in
set_option maxRecDepth 100000 in
theorem cLocs_is {x : SlW LcW} {nt : Nat} {v : Int} {w : World} (hx : SlH w w.heap.size 2 cLc (fun y => IntR y.ty ∧ y.name.size ≤ maxLen) x) (hnt : nt ≤ maxLen) (hv : (if 65535 < x.L.length then (15 : Int) else lcErr nt [] (x.L.map LcW.v)) = v) :
  Calls Tryz.prog 54 #[x.val, .int .i64 (nt : Int)] w fun e w' => e = .returned (.int .i64 v) ∧ Below w.heap.size w w' := by
 have HX := hide hx
 have hl := hx.len
 have hm := hx.nm
 unfold maxLen at hm hnt
 obtain ⟨A, n, c, L⟩ := x
 have hl : L.length = n := hl
 have hm : n ≤ 2 ^ 63 - 1 := hm
 have hv9 : (if 65535 < n then (15 : Int) else lcErr nt [] (L.map LcW.v)) = v := by rw [← hv, ← hl]
 clear hv hx
 show Calls Tryz.prog 54 #[.slice A n c, .int .i64 (nt : Int)] w _
 by_cases hb : 65535 < n
 ·
  have tb : (65535 : Int) < (n : Int) := by omega
  rw [if_pos hb] at hv9
  obtain rfl : v = 15 := hv9.symm
  clear hb hv9 hl
  go_enter Tryz.func54, Tryz.ntmps54
  go_wp2
  go_ret
  exact ⟨rfl, Below.refl _ _⟩
 have tb : (n : Int) ≤ 65535 := by omega
 rw [if_neg hb] at hv9
 have HV := hide hv9
 have HLen := hide hl
 have HM0 := hide (SeenM.made w)
 have HB0 := hide ((Below.refl w.heap.size w).alloc (Nat.le_refl _) (.map #[] 0))
 have hmm := @run_makeMap Tryz.prog
 clear hb hv9 hl
 go_enter Tryz.func54, Tryz.ntmps54
 go_wp2
 go_loopw [15] (fun i wr => ∃ j : Nat, i = .int .i64 (j : Int) ∧ j ≤ n ∧ Hid (lcErr nt (((L.map LcW.v).take j).map LcV.name) ((L.map LcW.v).drop j) = v) ∧ Hid (SeenM w.heap.size (((L.map LcW.v).take j).map LcV.name) wr) ∧ Hid (Below w.heap.size w wr)) (fun i _ => n - (intOf i).toNat)
 case atStart => exact ⟨0, rfl, Nat.zero_le _, hide HV.out, hide HM0.out, hide HB0.out⟩
 case round =>
  obtain ⟨j, rfl, hj, HE, HS, HB⟩ := hrel
  by_cases hlt : j < n
  ·
   have hlt' : (j : Int) < (n : Int) := by omega
   obtain ⟨⟨s, ty⟩, hs⟩ : ∃ p, L[j]? = some p := ⟨_, List.getElem?_eq_getElem (by have : L.length = n := HLen.out; omega)⟩
   have hsv : (L.map LcW.v)[j]? = some ⟨s, ty⟩ := by rw [List.getElem?_map, hs]; rfl
   have hax : SlH wr w.heap.size 2 cLc (fun y => IntR y.ty ∧ y.name.size ≤ maxLen) ⟨A, n, c, L⟩ := SlH.below HX.out HB.out fun _ h => h
   obtain ⟨b, o, hA, _, hsz, hc⟩ := hax.at_ hs
   have hA : A = some ⟨b, o, none⟩ := hA
   subst hA
   have cs0 : wr.cell? ⟨b, o + j * 2, none⟩ = some (.string s) := hc 0 _ rfl
   have cs1 : wr.cell? ⟨b, o + j * 2 + 1, none⟩ = some (.int .i64 ty) := hc 1 _ rfl
   have HN := hide (lcErr_nm (nt := nt) hsv)
   obtain ⟨q, hq⟩ : ∃ q, nmErr (((L.map LcW.v).take j).map LcV.name) s = q := ⟨_, rfl⟩
   have HQ := hide hq
   have hbx := (Below.refl wr.heap.size wr).alloc (Nat.le_refl _) (.cells #[.string s, .int .i64 ty] 64)
   have HBX := hide hbx
   have HS1 := hide (HS.out.block (hbx.block _ HS.out.lt))
   have HLT := hide HS.out.lt
   have HC := hide (cName_is HS1.out (by rw [List.length_map, List.length_take, List.length_map]; unfold maxLen; omega) hsz.2 hq)
   have HT := hide (show ((L.map LcW.v).take (j + 1)).map LcV.name = ((L.map LcW.v).take j).map LcV.name ++ [s] from by rw [take_up10 hsv, List.map_append]; rfl)
   clear hs hsv hax hsz hc hq hbx
   by_cases h0 : q = 0
   ·
    subst h0
    obtain ⟨ti, hti⟩ : ∃ z, tyIn ty (nt : Int) = z := ⟨_, rfl⟩
    have HTI := hide hti
    cases ti
    ·
     have HVc := hide (show v = 3 from by rw [← HE.out, HN.out, if_neg (by rw [HQ.out]; simp), if_pos HTI.out])
     clear hti
     go_wp2_with fail
     refine HC.out.mono ?_
     rintro e1 w1 ⟨rfl, _, hz⟩
     obtain ⟨hs2, hg2⟩ := hz rfl
     have hB2 := ((HB.out.trans (HBX.out.mono HB.out.size)).grown hg2 (Nat.le_trans HB.out.size HBX.out.size) (fun k e => by injection e with e; omega))
     have HB2 := hide hB2
     have x1 : w1.cell? ⟨wr.heap.size, 1, none⟩ = some (.int .i64 ty) := hg2.cell (show (wr.alloc (.cells #[.string s, .int .i64 ty] 64)).cell? ⟨wr.heap.size, 1, none⟩ = some (.int .i64 ty) from cell_of_heap (heap_alloc_new wr _) 1) (fun e => by injection e with e; have h9 := HLT.out; have e2 : wr.heap.size = w.heap.size := e; omega)
     clear hz hs2 hg2 hB2
     go_wp2_with fail
     refine (vwithin_is HTI.out _).mono ?_
     rintro e2 w2 ⟨rfl, rfl⟩
     go_wp2
     go_ret
     exact ⟨congrArg (fun v => Ending.returned (.int .i64 v)) HVc.out.symm, HB2.out⟩
    ·
     have HE2 := hide (show lcErr nt (((L.map LcW.v).take (j + 1)).map LcV.name) ((L.map LcW.v).drop (j + 1)) = v from by rw [← HE.out, HN.out, if_neg (by rw [HQ.out]; simp), if_neg (by rw [HTI.out]; simp)])
     clear hti
     go_wp2_with fail
     refine HC.out.mono ?_
     rintro e1 w1 ⟨rfl, _, hz⟩
     obtain ⟨hs2, hg2⟩ := hz rfl
     have HS2 := hide (show SeenM w.heap.size (((L.map LcW.v).take (j + 1)).map LcV.name) w1 from by rw [HT.out]; exact hs2)
     have HB2 := hide ((HB.out.trans (HBX.out.mono HB.out.size)).grown hg2 (Nat.le_trans HB.out.size HBX.out.size) (fun k e => by injection e with e; omega))
     have x1 : w1.cell? ⟨wr.heap.size, 1, none⟩ = some (.int .i64 ty) := hg2.cell (show (wr.alloc (.cells #[.string s, .int .i64 ty] 64)).cell? ⟨wr.heap.size, 1, none⟩ = some (.int .i64 ty) from cell_of_heap (heap_alloc_new wr _) 1) (fun e => by injection e with e; have h9 := HLT.out; have e2 : wr.heap.size = w.heap.size := e; omega)
     clear hz hs2 hg2
     go_wp2_with fail
     refine (vwithin_is HTI.out _).mono ?_
     rintro e2 w2 ⟨rfl, rfl⟩
     go_wp2
     go_roundw
     case rel => exact ⟨j + 1, by go_num, by omega, hide HE2.out, hide HS2.out, hide HB2.out⟩
     case measure => simp [intOf]; omega
   ·
    have t0 : (q != 0) = true := by simp [h0]
    have HVc := hide (show v = q from by rw [← HE.out, HN.out, HQ.out, if_pos h0])
    have HNE := hide h0
    clear h0
    go_wp2_with fail
    refine HC.out.mono ?_
    rintro e1 w1 ⟨rfl, hz, _⟩
    obtain rfl := hz HNE.out
    clear hz
    go_wp2
    go_ret
    exact ⟨congrArg (fun v => Ending.returned (.int .i64 v)) HVc.out.symm, HB.out.trans (HBX.out.mono HB.out.size)⟩
  ·
   obtain rfl : n = j := by omega
   have HVc := hide (show v = 0 from by rw [← HE.out]; exact lcErr_end (by rw [List.length_map]; have : L.length = n := HLen.out; omega))
   go_wp2
   go_ret
   exact ⟨congrArg (fun v => Ending.returned (.int .i64 v)) HVc.out.symm, HB.out⟩
end Go.Proofs.YtfgacmgjpikgaaaGreatDoor
