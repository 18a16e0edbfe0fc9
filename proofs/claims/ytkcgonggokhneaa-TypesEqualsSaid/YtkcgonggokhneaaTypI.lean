/- compute at int: the closure that calls itself, and compute. -/
import Derived.Test.YtkcgonggokhneaaTypF
import Derived.StillTailTactics
set_option linter.unusedVariables false
namespace Go.Proofs.Ytkcgonggokhneaa
open Go.RowKit

theorem mapKI : Try.prog.underlying 64 = some (.map 3 3) := Try.underlying64
theorem zeroI (w : World) : (zeroValue 3).run Try.prog w = .ok (.int .i64 0) w := by kernel_rfl
/-- what the map of what is known says -/
def KnI (C : Ctx) (men : Int → Int → Prop) (val : Int → Int) (w : World) (D : Int → Prop) : Prop := ∃ m Dm, w.ownsMap (H := Unit) Try.prog 3 (plainElem Try.prog 3) C.bm m Dm ∧
  ∀ q, IntR q → Maps.has Dm (.int .i64 q) = true → 0 ≤ q ∧ q < (C.n : Int) ∧ (∀ z, Dm.atKey (.int .i64 q) z = .lit (.int .i64 (val q))) ∧ ∀ r, men q r → D r
structure JI (C : Ctx) (men : Int → Int → Prop) (val : Int → Int) (M : World → (Int → Prop) → Prop) (w : World) (D : Int → Prop) : Prop where
  fr : TyFr C 41 w
  kn : KnI C men val w D
  m : M w D
section
variable {C : Ctx} {men : Int → Int → Prop} {val : Int → Int} {M : World → (Int → Prop) → Prop}
theorem KnI.block {w w' : World} {D : Int → Prop} (h : KnI C men val w D) (hb : w'.heap[C.bm]? = w.heap[C.bm]?) : KnI C men val w' D := by
  obtain ⟨m, Dm, h1, h2⟩ := h
  exact ⟨m, Dm, owns_block h1 hb, h2⟩
theorem KnI.grow {w : World} {D D' : Int → Prop} (h : KnI C men val w D) (hd : ∀ r, D r → D' r) : KnI C men val w D' := by
  obtain ⟨m, Dm, h1, h2⟩ := h
  exact ⟨m, Dm, h1, fun q hq hh => by obtain ⟨a, b, c, d⟩ := h2 q hq hh; exact ⟨a, b, c, fun r hr => hd r (d r hr)⟩⟩
/-- blocks that are made turn nothing -/
theorem JI.below {w w' : World} {D : Int → Prop} (h : JI C men val M w D) (hf : C.fix) (hM : ∀ w w' D, M w D → Turn (fun k => k = C.bm) w w' → M w' D) (hb : Below w.heap.size w w') : JI C men val M w' D := by
  have hl : C.bm < w.heap.size := h.fr.ls _ hf.sm
  exact ⟨h.fr.turn hf (Turn.of_below (S := C.S) hb) fun _ hk => hk, h.kn.block (hb.block _ hl), hM _ _ _ h.m (Turn.of_below hb)⟩
/-- what is looked up and known -/
theorem hitI {w : World} {m : Nat} {Dm : DataW Unit} {i : Int} (hi : IntR i) (hw : w.ownsMap (H := Unit) Try.prog 3 (plainElem Try.prog 3) C.bm m Dm) (hh : Maps.has Dm (.int .i64 i) = true) (hat : ∀ z, Dm.atKey (.int .i64 i) z = .lit (.int .i64 (val i))) :
    (Instr.lookup 64 (.map (some C.bm)) (.int .i64 i) true).run Try.prog w = .ok (.tuple #[.int .i64 (val i), .bool true]) w := by
  obtain ⟨v, ps, hrun, hv⟩ := hw.look_ok intK mapKI (zeroI w) (zd := .lit (.int .i64 0)) (zp := []) (plainElem_int Try.underlying3 (by decide)) (keyOf_i hi)
  rw [hat] at hv
  rw [hrun, hh]
  obtain ⟨c, rfl, hc, _⟩ := plainElem_int_inv Try.underlying3 hv
  injection hc with hc _
  injection hc with hc
  injection hc with _ hc
  rw [hc]
/-- .. and not known -/
theorem missI {w : World} {m : Nat} {Dm : DataW Unit} {i : Int} (hi : IntR i) (hw : w.ownsMap (H := Unit) Try.prog 3 (plainElem Try.prog 3) C.bm m Dm) (hh : Maps.has Dm (.int .i64 i) = false) :
    (Instr.lookup 64 (.map (some C.bm)) (.int .i64 i) true).run Try.prog w = .ok (.tuple #[(.int .i64 0), .bool false]) w := by
  obtain ⟨v, ps, hrun, hv⟩ := hw.look_ok intK mapKI (zeroI w) (zd := .lit (.int .i64 0)) (zp := []) (plainElem_int Try.underlying3 (by decide)) (keyOf_i hi)
  rw [Maps.atKey_of_not_has hh] at hv
  rw [hrun, hh]
  obtain ⟨c, rfl, hc, _⟩ := plainElem_int_inv Try.underlying3 hv
  injection hc with hc _
  injection hc with hc
  injection hc with _ hc
  rw [hc]

/-- the closure that is handed on -/
theorem innerI (w : World) (D : Int → Prop) (hJ : JI C men val M w D) (bl : Nat) (lv : Nat) (hlv : lv ≤ 31) (hbl : w.cell? ⟨bl, 0, none⟩ = some (.int .i64 ((lv + 1 : Nat) : Int))) (p : Int) (R : Ending → World → Prop)
    (hc : Calls Try.prog 41 #[.int .i64 p, .int .i64 (lv : Int), .pointer (some ⟨C.b7, 0, none⟩), .pointer (some ⟨C.b3, 0, none⟩), .pointer (some ⟨C.b5, 0, none⟩), .pointer (some ⟨C.b8, 0, none⟩)] w fun e w' => e = .returned (.int .i64 (val p)) ∧ R e w') :
    Calls Try.prog 42 #[.int .i64 p, .pointer (some ⟨C.b8, 0, none⟩), .pointer (some ⟨bl, 0, none⟩)] w fun e w' => e = .returned (.int .i64 (val p)) ∧ R e w' := by
  have c8 := hJ.fr.c8
  have HC := hide hc
  have e1 : ((lv + 1 : Nat) : Int) - 1 = (lv : Int) := by omega
  have hex : ∃ v : Value, v = .int .i64 (val p) := ⟨_, rfl⟩
  obtain ⟨v, hv⟩ := hex
  rw [← hv] at HC ⊢
  clear hc hJ hv
  go_enter Try.func42, Try.ntmps42
  go_wp2_with fail
  refine HC.out.mono ?_
  rintro e w1 ⟨rfl, hr⟩
  have HR := hide hr
  clear hr
  go_wp2_with fail
  go_ret
  exact ⟨rfl, HR.out⟩

theorem enter1I (args : Array Value) (w : World) : (callFunc 42 args).run Try.prog w = .ok (.enter 42 args) w := run_enter Try.func42 (by kernel_rfl) rfl args w
theorem JI.turn {w w' : World} {D : Int → Prop} (h : JI C men val M w D) (hf : C.fix) (hM : ∀ w w' D, M w D → Turn (fun k => k = C.bm) w w' → M w' D) (hb : Turn (fun k => k = C.bm) w w') (hk : KnI C men val w' D) : JI C men val M w' D :=
  ⟨h.fr.turn hf hb (fun k e => by rw [e]; exact hf.sm), hk, hM _ _ _ h.m hb⟩

set_option maxHeartbeats 2000000 in
set_option maxRecDepth 100000 in
/-- find, at an element whose depth is in reach -/
theorem findI (hf : C.fix) {r : Int} (hok : TyOk (tys C.L) r) (hM : ∀ w w' D, M w D → Turn (fun k => k = C.bm) w w' → M w' D) (hP : PropC C (fun p => .int .i64 (val p)) men (JI C men val M)) (hval : ∀ p, IntR (val p)) (hlen : C.L.length = C.n) :
    ∀ lv : Nat, lv ≤ 32 → ∀ (i : Nat) (x : TyW) (w : World) (D : Int → Prop), C.L[i]? = some x → tyDep (tys C.L) (i : Int) ≤ (lv : Int) → JI C men val M w D →
      Calls Try.prog 41 #[.int .i64 (i : Int), .int .i64 (lv : Int), .pointer (some ⟨C.b7, 0, none⟩), .pointer (some ⟨C.b3, 0, none⟩), .pointer (some ⟨C.b5, 0, none⟩), .pointer (some ⟨C.b8, 0, none⟩)] w fun e w' => e = .returned (.int .i64 (val (i : Int))) ∧ JI C men val M w' (fun r => D r ∨ men (i : Int) r) ∧ Turn C.S w w' := by
  intro lv
  induction lv with
  | zero =>
    intro _ i x w D hx hd _
    have := (hok.dep_pos (tys_at hx)).1
    omega
  | succ lv ih =>
    intro hlv i x w D hx hdep hJ
    have hin : i < C.n := by have := (List.getElem?_eq_some_iff.1 hx).1; omega
    have hir : IntR (i : Int) := by have := hf.few; unfold IntR; omega
    have hex : ∃ z : Int, z = ((lv + 1 : Nat) : Int) := ⟨_, rfl⟩
    obtain ⟨z, hz⟩ := hex
    rw [← hz]
    have HB := hide ((Below.refl w.heap.size w).alloc (Nat.le_refl _) (.cells #[.int .i64 z] 3))
    have hJ1 := hJ.below hf hM HB.out
    obtain ⟨m, Dm, hown, hkeys⟩ := hJ1.kn
    cases hhas : Maps.has Dm (.int .i64 (i : Int))
    case true =>
      obtain ⟨_, _, hat, hreg⟩ := hkeys _ hir hhas
      have hrun := hitI hir hown hhas hat
      have HRUN := hide hrun
      have HJ : Hid (JI C men val M (w.alloc (.cells #[.int .i64 z] 3)) (fun r => D r ∨ men (i : Int) r)) := by
        have e : (fun r => D r ∨ men (i : Int) r) = D := by
          funext r
          exact propext ⟨fun h => h.elim id (hreg r), .inl⟩
        rw [e]
        exact hJ1
      have c7 := hJ.fr.c7
      have l7 := hJ.fr.l7
      have hex : ∃ v : Value, v = .int .i64 (val (i : Int)) := ⟨_, rfl⟩
      obtain ⟨v, hv⟩ := hex
      rw [← hv] at HRUN ⊢
      clear ih hx hdep hJ hJ1 hown hkeys hhas hat hreg hrun hf hok hM hP hval hlen hv hz
      go_enter Try.func41, Try.ntmps41
      go_wp2_with (at_lookup; refine wpList_look _ rfl _ _ _ true rfl _ _ _ rfl rfl HRUN.out ?_)
      go_ret
      exact ⟨rfl, HJ.out, Turn.of_below HB.out⟩
    case false =>
      have hrun := missI hir hown hhas
      have HRUN := hide hrun
      have c7 := hJ.fr.c7
      have l7 := hJ.fr.l7
      have c5 := hJ.fr.c5
      have l5 := hJ.fr.l5
      have c3 := hJ.fr.c3
      have l3 := hJ.fr.l3
      have hent := hP.enter
      have hlv0 : (z == 0) = false := beq_eq_false_iff_ne.2 (by omega)
      have hwi := hide (show tyIn (i : Int) (C.n : Int) = true from tyIn_iff.2 (by omega))
      obtain ⟨gA, oA, hA, hgA, hone, k0, k1, k2, k3, k4⟩ := hJ1.fr.ty.at_ hx
      have c3' := hJ1.fr.c3
      rw [hA] at c3 c3'
      have K0 := hide k0
      have K1 := hide k1
      have K2 := hide k2
      have K3 := hide k3
      have K4 := hide k4
      have C3 := hide c3'
      have C5 := hide hJ1.fr.c5
      have C8 := hide hJ1.fr.c8
      have hin' : (i : Int) < (C.n : Int) := by omega
      have HBL : Hid ((w.alloc (.cells #[.int .i64 z] 3)).cell? ⟨w.heap.size, 0, none⟩ = some (.int .i64 z)) := by
        show (w.alloc (.cells #[.int .i64 z] 3)).cell? _ = _
        simp [go_sem]
      have HS1 : Hid (w.heap.size < (w.alloc (.cells #[.int .i64 z] 3)).heap.size) := by show w.heap.size < (w.alloc (.cells #[.int .i64 z] 3)).heap.size; simp
      have HSB := hide (show ¬ C.S w.heap.size from fun h => Nat.lt_irrefl _ (hJ.fr.ls _ h))
      have HJ1 := hide (hJ.below hf hM HB.out.drew)
      have HLS := hide (show ∀ k, C.S k → k < (w.alloc (.cells #[.int .i64 z] 3)).drew.heap.size from fun k hk => Nat.lt_of_lt_of_le (hJ.fr.ls k hk) HB.out.size)
      have HON := hide (show OneT (w.alloc (.cells #[.int .i64 z] 3)).drew (w.alloc (.cells #[.int .i64 z] 3)).drew.heap.size x from hone.below ((Below.refl _ _).drew))
      have HC := hide (hP.call i x hx (w.alloc (.cells #[.int .i64 z] 3)).drew D 42 #[.pointer (some ⟨C.b8, 0, none⟩), .pointer (some ⟨w.heap.size, 0, none⟩)] HON.out HLS.out HJ1.out
        ⟨enter1I, fun p hp w1 D1 ht1 hj1 => by
          obtain ⟨q, u, rfl, hq, hu⟩ := hok.elem (tys_at hx) hp
          obtain ⟨y, hy, rfl⟩ := tys_back hu
          have hdp := (hok.dep_pos (tys_at hx)).2.2 _ hp
          have hcell := (ht1.cell (p := ⟨w.heap.size, 0, none⟩) HS1.out HSB.out).trans HBL.out
          rw [hz] at hcell
          exact innerI (val := val) w1 D1 hj1 w.heap.size lv (by omega) hcell (q : Int) (fun e w' => JI C men val M w' (fun r => D1 r ∨ men (q : Int) r) ∧ Turn C.S w1 w') (ih (by omega) q y w1 D1 hy (by push_cast at hdep; omega) hj1)⟩)
      have HFX := hide hf
      have HM := hide hM
      have HV := hide hval
      have HIR := hide hir
      have HBD := hide HB.out.drew
      have hex : ∃ v : Value, v = .int .i64 (val (i : Int)) := ⟨_, rfl⟩
      obtain ⟨v, hv⟩ := hex
      have HVV := hide hv
      rw [← hv] at HC ⊢
      clear ih hx hdep hJ hJ1 hown hkeys hhas hrun hf hok hM hP hval hlen hv hone hA hir k0 k1 k2 k3 k4 c3' hz
      go_enter Try.func41, Try.ntmps41
      go_wp2_with (first | (at_lookup; refine wpList_look _ rfl _ _ _ true rfl _ _ _ rfl rfl HRUN.out ?_) | (go_at_call 39; refine (within_is hwi.out _).mono ?_; rintro e w1 ⟨rfl, rfl⟩))
      generalize (w.alloc (.cells #[.int .i64 z] 3)) = W at *
      have k0 := K0.out
      have k1 := K1.out
      have k2 := K2.out
      have k3 := K3.out
      have k4 := K4.out
      have c3' := C3.out
      have c5' := C5.out
      clear c3 c5 c7 K0 K1 K2 K3 K4 C3 C5
      go_still_tail 6, (by kernel_rfl)
      go_wp2_with fail
      refine HC.out.mono ?_
      rintro e w2 ⟨rfl, hj2, ht2⟩
      have HJ2 := hide hj2
      have HT2 := hide ((Turn.of_below (S := C.S) HBD.out).trans ht2)
      have d7 := hj2.fr.c7
      obtain ⟨m2, Dm2, hown2, hk2⟩ := hj2.kn
      have HK2 := hide hk2
      have HO2 := hide (owns_few intK Try.underlying3 hown2 ((List.range C.n).map fun (j : Nat) => (j : Int)) fun q hw hh => by
        obtain ⟨h0, h1, _⟩ := hk2 q (by simpa [Lit.wf, IntKind.min, IntKind.max, IntKind.signed, IntKind.bits, IntR] using hw) hh
        exact List.mem_map.2 ⟨q.toNat, List.mem_range.2 (by omega), by omega⟩)
      clear hj2 ht2 hown2 hk2
      rw [List.length_map, List.length_range] at HO2
      have HPE : Hid (plainElem (H := Unit) Try.prog 3 v = some (.lit (.int .i64 (val (i : Int))), [])) := by show _ = _; rw [HVV.out]; exact plainElem_int Try.underlying3 (wf_i64 (HV.out _))
      have hfew : C.n < maxLen := by have := HFX.out.few; unfold maxLen; omega
      go_wp2_with (at_mapUpdate; refine wpList_mapUpdate_own _ rfl _ _ _ 64 rfl 3 3 intK mapKI _ C.bm C.n Dm2 rfl HO2.out hfew _ v (.int .i64 (i : Int)) rfl rfl (keyOf_i HIR.out) (.lit (.int .i64 (val (i : Int)))) [] HPE.out ?_; intro w3 hown3 hg3; have HO3 := hide hown3; have HG3 := hide hg3; clear hown3 hg3)
      have ht3 : Turn (fun k => k = C.bm) w2 w3 := (Turn.refl _ w2).grown HG3.out (fun k hk => by injection hk with hk; exact .inl hk.symm)
      have hkn : KnI C men val w3 (fun r => D r ∨ men (i : Int) r) := by
        refine ⟨C.n + 1, _, HO3.out, fun q hq hh => ?_⟩
        by_cases hqi : q = (i : Int)
        · subst hqi
          exact ⟨by omega, by omega, fun z => Maps.atKey_put_same ⟨_, HO2.out.entries intK |>.choose_spec.1⟩ (show Go.WideAt.IsKeyLit (.int .i64 (i : Int)) from trivial) _ z, fun r hr => .inr hr⟩
        · have hne : Lit.int .i64 q ≠ Lit.int .i64 (i : Int) := fun e => by injection e with _ e; exact hqi e
          rw [Maps.has_put_other hne] at hh
          obtain ⟨a, b, c, d⟩ := HK2.out q hq hh
          exact ⟨a, b, fun z => (Maps.atKey_put_other hne _ z).trans (c z), d⟩
      have HJ3 := hide (HJ2.out.turn HFX.out HM.out ht3 hkn)
      have HT3 := hide (HT2.out.trans (ht3.weak fun k e => by rw [e]; exact HFX.out.sm))
      clear ht3 hkn
      go_ret
      exact ⟨rfl, HJ3.out, HT3.out⟩

set_option maxRecDepth 100000 in
/-- find, at a number that is no index -/
theorem findOutI (hf : C.fix) (hlen : C.L.length = C.n) (i : Int) (hi : IntR i) (hout : ¬ (0 ≤ i ∧ i < (C.n : Int))) (hM : ∀ w w' D, M w D → Turn (fun k => k = C.bm) w w' → M w' D) (w : World) (D : Int → Prop) (hJ : JI C men val M w D) :
    Calls Try.prog 41 #[.int .i64 i, .int .i64 32, .pointer (some ⟨C.b7, 0, none⟩), .pointer (some ⟨C.b3, 0, none⟩), .pointer (some ⟨C.b5, 0, none⟩), .pointer (some ⟨C.b8, 0, none⟩)] w fun e w' => e = .returned (.int .i64 0) ∧ Below w.heap.size w w' := by
  have HB := hide ((Below.refl w.heap.size w).alloc (Nat.le_refl _) (.cells #[.int .i64 32] 3))
  have hJ1 := hJ.below hf hM HB.out
  obtain ⟨m, Dm, hown, hkeys⟩ := hJ1.kn
  have hhas : Maps.has Dm (.int .i64 i) = false := by
    cases h : Maps.has Dm (.int .i64 i)
    · rfl
    · obtain ⟨a, b, _⟩ := hkeys _ hi h
      exact absurd ⟨a, b⟩ hout
  have HRUN := hide (missI hi hown hhas)
  have c7 := hJ.fr.c7
  have l7 := hJ.fr.l7
  have c3 := hJ.fr.c3
  have l3 := hJ.fr.l3
  have hwi := hide (show tyIn i (C.n : Int) = false from tyIn_not.2 hout)
  clear hJ hJ1 hown hkeys hhas hf hM hout
  go_enter Try.func41, Try.ntmps41
  go_wp2_with (first | (at_lookup; refine wpList_look _ rfl _ _ _ true rfl _ _ _ rfl rfl HRUN.out ?_) | (go_at_call 39; refine (within_is hwi.out _).mono ?_; rintro e w1 ⟨rfl, rfl⟩))
  go_ret
  exact ⟨rfl, HB.out⟩
end

theorem enter0I (args : Array Value) (w : World) : (callFunc 41 args).run Try.prog w = .ok (.enter 41 args) w := run_enter Try.func41 (by kernel_rfl) rfl args w

/-- the frame that compute lays -/
def ctxI (w : World) (A : Option Addr) (n c : Nat) (L : List TyW) (Sx : Nat → Prop) (KP : FuncId) (cp : Array Value) : Ctx :=
  { b3 := w.heap.size, b5 := w.heap.size + 1, b7 := w.heap.size + 3, b8 := w.heap.size + 4, bm := w.heap.size + 2, A := A, n := n, c := c, L := L, S := fun k => k = w.heap.size + 2 ∨ Sx k, KP := KP, cp := cp }
def laidI (w : World) (A : Option Addr) (n c : Nat) (KP : FuncId) (cp : Array Value) : World :=
  ((((w.alloc (.cells #[.slice A n c] 22)).alloc (.cells #[.func (.func KP) #[] cp] 46)).alloc (.map #[] 0)).alloc (.cells #[.map (some (w.heap.size + 2))] 64)).alloc
    (.cells #[.func (.func 41) #[] #[.pointer (some ⟨w.heap.size + 3, 0, none⟩), .pointer (some ⟨w.heap.size, 0, none⟩), .pointer (some ⟨w.heap.size + 1, 0, none⟩), .pointer (some ⟨w.heap.size + 4, 0, none⟩)]] 65)

section
variable {A : Option Addr} {n c : Nat} {L : List TyW} {w : World} {Sx : Nat → Prop} {KP : FuncId} {cp : Array Value} {men : Int → Int → Prop} {val : Int → Int} {M : World → (Int → Prop) → Prop} {D0 : Int → Prop}
theorem laidI_below : Below w.heap.size w (laidI w A n c KP cp) := by
  unfold laidI
  exact (((((Below.refl _ _).alloc (Nat.le_refl _) _).alloc (by simp) _).alloc (by simp; omega) _).alloc (by simp; omega) _).alloc (by simp; omega) _
theorem laidI_J (hA : Typs w w.heap.size A n L) (hSx : ∀ k, Sx k → k < w.heap.size) (hM : ∀ bm, w.heap.size ≤ bm → ∀ w1 w2 D, M w1 D → Turn (fun k => k = bm) w1 w2 → M w2 D) (hm : M w D0) :
    JI (ctxI w A n c L Sx KP cp) men val M (laidI w A n c KP cp) D0 := by
  have hb := laidI_below (w := w) (A := A) (n := n) (c := c) (KP := KP) (cp := cp)
  have hs : (laidI w A n c KP cp).heap.size = w.heap.size + 5 := by simp [laidI]
  refine ⟨⟨by simp [laidI, ctxI, go_sem], by simp [laidI, ctxI, go_sem], by simp [laidI, ctxI, go_sem], by simp [laidI, ctxI, go_sem, Ctx.self], ?_, ?_, ?_, ?_, ?_, (hA.below hb).more (by omega)⟩, ?_, ?_⟩
  · show w.heap.size < _; omega
  · show w.heap.size + 1 < _; omega
  · show w.heap.size + 3 < _; omega
  · show w.heap.size + 4 < _; omega
  · rintro k (rfl | hk)
    · omega
    · have := hSx k hk; omega
  · refine ⟨0, .map [], ?_, fun q _ hh => by simp [Maps.has] at hh⟩
    have h0 := World.ownsMap_made (H := Unit) ((w.alloc (.cells #[.slice A n c] 22)).alloc (.cells #[.func (.func KP) #[] cp] 46)) Try.prog 3 (plainElem Try.prog 3)
    simp only [World.size_alloc] at h0
    exact (h0.alloc _).alloc _
  · exact hM (w.heap.size + 2) (by omega) _ _ _ hm (Turn.of_below hb)
end
end Go.Proofs.Ytkcgonggokhneaa
