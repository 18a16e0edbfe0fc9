/- Part 3 of the contracts and their mathematics. -/
import Derived.Test.YtfgacmgjpikgaaaGreatDoorQ1
import Derived.OpenShut
import Derived.ProofKit
import Derived.ShutString
import Derived.ChangeOld
import Derived.SizedLaws
set_option linter.unusedVariables false
set_option linter.unusedSimpArgs false
namespace Go.Proofs.YtfgacmgjpikgaaaGreatDoor
open Go.RowKit
structure LcW where
 name : ByteArray
 ty : Int
def cLc (x : LcW) : List Value := [.string x.name, .int .i64 x.ty]
theorem cLc_len (x : LcW) : (cLc x).length = 2 := rfl
structure Locs (w : World) (B : Nat) (A : Option Addr) (n : Nat) (L : List LcW) : Prop where
 cells : Cells w B 2 cLc A n L
 int : ∀ x ∈ L, IntR x.ty
theorem Locs.below {w w' : World} {B : Nat} {A : Option Addr} {n : Nat} {L : List LcW} (h : Locs w B A n L) (hb : Below B w w') : Locs w' B A n L := ⟨h.cells.below hb, h.int⟩
theorem Locs.more {w : World} {B B' : Nat} {A : Option Addr} {n : Nat} {L : List LcW} (h : Locs w B A n L) (hb : B ≤ B') : Locs w B' A n L := ⟨h.cells.more hb, h.int⟩
theorem Locs.len {w : World} {B : Nat} {A : Option Addr} {n : Nat} {L : List LcW} (h : Locs w B A n L) : L.length = n := h.cells.1
theorem Locs.at_ {w : World} {B : Nat} {A : Option Addr} {n : Nat} {L : List LcW} (h : Locs w B A n L) {i : Nat} {x : LcW} (hp : L[i]? = some x) :
  ∃ b o, A = some ⟨b, o, none⟩ ∧ b < B ∧ w.cell? ⟨b, o + i * 2, none⟩ = some (.string x.name) ∧ w.cell? ⟨b, o + i * 2 + 1, none⟩ = some (.int .i64 x.ty) := by
 obtain ⟨b, o, h1, h2, h3⟩ := h.cells.at_ hp
 exact ⟨b, o, h1, h2, h3 0 _ rfl, h3 1 _ rfl⟩
abbrev lcs (L : List LcW) : List Int := L.map LcW.ty
theorem lcs_at {L : List LcW} {k : Nat} {x : LcW} (h : L[k]? = some x) : (lcs L)[k]? = some x.ty := by rw [List.getElem?_map, h]; rfl
theorem lcs_len (L : List LcW) : (lcs L).length = L.length := List.length_map _
structure PlW where
 l : Int
 A : Option Addr
 n : Nat
 c : Nat
 ps : List Pr
abbrev aggPl (x : PlW) : Value := .agg #[.int .i64 x.l, .slice x.A x.n x.c]
structure OnePl (w : World) (B : Nat) (x : PlW) : Prop where
 nc : x.n ≤ x.c
 cm : x.c ≤ maxLen
 l : IntR x.l
 prs : Prs w B x.A x.n x.ps
theorem OnePl.below {w w' : World} {B : Nat} {x : PlW} (h : OnePl w B x) (hb : Below B w w') : OnePl w' B x := ⟨h.nc, h.cm, h.l, h.prs.below hb⟩
theorem OnePl.more {w : World} {B B' : Nat} {x : PlW} (h : OnePl w B x) (hb : B ≤ B') : OnePl w B' x := ⟨h.nc, h.cm, h.l, h.prs.more hb⟩
theorem OnePl.up {w w' : World} {x : PlW} (h : OnePl w w.heap.size x) (hb : Below w.heap.size w w') : OnePl w' w'.heap.size x := (h.below hb).more hb.size
theorem Typs.up {w w' : World} {A : Option Addr} {n : Nat} {L : List TyW} (h : Typs w w.heap.size A n L) (hb : Below w.heap.size w w') : Typs w' w'.heap.size A n L := (h.below hb).more hb.size
theorem Locs.up {w w' : World} {A : Option Addr} {n : Nat} {L : List LcW} (h : Locs w w.heap.size A n L) (hb : Below w.heap.size w w') : Locs w' w'.heap.size A n L := (h.below hb).more hb.size
def PlW.take (x : PlW) (k : Nat) : PlW := ⟨x.l, x.A, k, x.c, x.ps.take k⟩
theorem Prs.take {w : World} {B : Nat} {A : Option Addr} {n : Nat} {L : List Pr} (h : Prs w B A n L) {k : Nat} (hk : k ≤ n) : Prs w B A k (L.take k) := by
 have hl := h.len
 refine ⟨⟨by rw [List.length_take]; omega, fun h0 => ?_⟩, fun p hp => h.int p (List.mem_of_mem_take hp)⟩
 obtain ⟨b, o, h1, h2, h3⟩ := h.cells.2 (by omega)
 refine ⟨b, o, h1, h2, fun i x hx => h3 i x ?_⟩
 rw [List.getElem?_take] at hx
 split at hx
 ·
  exact hx
 ·
  cases hx
theorem OnePl.take {w : World} {B : Nat} {x : PlW} (h : OnePl w B x) {k : Nat} (hk : k ≤ x.n) : OnePl w B (x.take k) := ⟨Nat.le_trans hk h.nc, h.cm, h.l, h.prs.take hk⟩
theorem Within_any (i n : Int) (w : World) :
  Calls Tryz.prog 111 #[.int .i64 i, .int .i64 n] w fun e w' => e = .returned (.bool (tyIn i n)) ∧ w = w' := by
 by_cases h0 : 0 ≤ i
 ·
  by_cases h1 : i < n
  ·
   have HF := hide (show tyIn i n = true from tyIn_iff.2 ⟨h0, h1⟩)
   go_enter Tryz.func111, Tryz.ntmps111
   go_wp2
   go_ret
   exact ⟨congrArg (fun v => Ending.returned (.bool v)) HF.out.symm, rfl⟩
  ·
   have HF := hide (show tyIn i n = false from tyIn_not.2 fun h => h1 h.2)
   go_enter Tryz.func111, Tryz.ntmps111
   go_wp2
   go_ret
   exact ⟨congrArg (fun v => Ending.returned (.bool v)) HF.out.symm, rfl⟩
 ·
  have HF := hide (show tyIn i n = false from tyIn_not.2 fun h => h0 h.1)
  go_enter Tryz.func111, Tryz.ntmps111
  go_wp2
  go_ret
  exact ⟨congrArg (fun v => Ending.returned (.bool v)) HF.out.symm, rfl⟩
theorem Within_is {i n : Int} {v : Bool} (h : tyIn i n = v) (w : World) :
  Calls Tryz.prog 111 #[.int .i64 i, .int .i64 n] w fun e w' => e = .returned (.bool v) ∧ w = w' := h ▸ Within_any i n w
set_option maxHeartbeats 1000000 in
theorem CheckProj_any (p : Pr) (w : World) :
  Calls Tryz.prog 124 #[aggP p] w fun e w' => e = .returned (.int .i64 (pjErr p)) ∧ Below w.heap.size w w' := by
 obtain ⟨k, f⟩ := p
 have HA := hide ((Below.refl w.heap.size w).alloc (Nat.le_refl _) (.cells #[.int .i64 k, .int .i64 f] 102))
 by_cases h0 : k = 0
 ·
  subst h0
  by_cases hf : f = 0
  ·
   subst hf
   have HF := hide (show pjErr ((0 : Int), (0 : Int)) = 0 from by decide)
   go_enter Tryz.func124, Tryz.ntmps124
   go_wp2
   go_ret
   exact ⟨congrArg (fun v => Ending.returned (.int .i64 v)) HF.out.symm, HA.out⟩
  ·
   have t1 : (f != 0) = true := by rw [bne_iff_ne]; exact hf
   have HF := hide (show pjErr ((0 : Int), f) = 2 from by unfold pjErr; rw [if_neg (by omega), if_pos ⟨rfl, hf⟩])
   clear hf
   go_enter Tryz.func124, Tryz.ntmps124
   go_wp2
   go_ret
   exact ⟨congrArg (fun v => Ending.returned (.int .i64 v)) HF.out.symm, HA.out⟩
 ·
  have t0 : (k != 0) = true := by rw [bne_iff_ne]; exact h0
  have t00 : (k == 0) = false := by simpa using h0
  by_cases h1 : k = 1
  ·
   subst h1
   clear h0 t0 t00
   by_cases hf : f < 0
   ·
    have HF := hide (show pjErr ((1 : Int), f) = 3 from by unfold pjErr; rw [if_neg (by omega), if_neg (by omega), if_pos hf])
    go_enter Tryz.func124, Tryz.ntmps124
    go_wp2
    go_ret
    exact ⟨congrArg (fun v => Ending.returned (.int .i64 v)) HF.out.symm, HA.out⟩
   ·
    have HF := hide (show pjErr ((1 : Int), f) = 0 from by unfold pjErr; rw [if_neg (by omega), if_neg (by omega), if_neg hf])
    go_enter Tryz.func124, Tryz.ntmps124
    go_wp2
    go_ret
    exact ⟨congrArg (fun v => Ending.returned (.int .i64 v)) HF.out.symm, HA.out⟩
  ·
   have t1 : (k != 1) = true := by rw [bne_iff_ne]; exact h1
   have HF := hide (show pjErr (k, f) = 14 from by unfold pjErr; rw [if_pos ⟨h0, h1⟩])
   clear h0 h1
   go_enter Tryz.func124, Tryz.ntmps124
   go_wp2
   go_ret
   exact ⟨congrArg (fun v => Ending.returned (.int .i64 v)) HF.out.symm, HA.out⟩
theorem CheckProj_is {p : Pr} {v : Int} (h : pjErr p = v) (w : World) :
  Calls Tryz.prog 124 #[aggP p] w fun e w' => e = .returned (.int .i64 v) ∧ Below w.heap.size w w' := h ▸ CheckProj_any p w
set_option maxHeartbeats 2000000 in
theorem CheckP_any (x : PlW) (w : World) (hx : OnePl w w.heap.size x) :
  Calls Tryz.prog 110 #[aggPl x] w fun e w' => e = .returned (.int .i64 (plErr x.l x.ps)) ∧ Below w.heap.size w w' := by
 obtain ⟨l, A, n, c, ps⟩ := x
 have hcm := hx.cm
 have hnc := hx.nc
 simp only [] at hcm hnc
 have HX := hide hx.prs
 have HL := hide hx.prs.len
 have HA := hide ((Below.refl w.heap.size w).alloc (Nat.le_refl _) (.cells #[.int .i64 l, .slice A n c] 36))
 clear hx
 unfold maxLen at hcm
 by_cases hl : l < 0
 ·
  have HF := hide (show plErr l ps = 3 from if_pos hl)
  go_enter Tryz.func110, Tryz.ntmps110
  go_wp2
  go_ret
  exact ⟨congrArg (fun v => Ending.returned (.int .i64 v)) HF.out.symm, HA.out⟩
 by_cases hn : 32 < n
 ·
  have HF := hide (show plErr l ps = 19 from by unfold plErr; rw [if_neg hl, if_pos (by have : ps.length = n := HL.out; omega)])
  have hn' : (32 : Int) < (n : Int) := by omega
  go_enter Tryz.func110, Tryz.ntmps110
  go_wp2
  go_ret
  exact ⟨congrArg (fun v => Ending.returned (.int .i64 v)) HF.out.symm, HA.out⟩
 have HF := hide (show plErr l ps = pjsErr (ps.drop 0) from by unfold plErr; rw [if_neg hl, if_neg (by have : ps.length = n := HL.out; omega)]; rfl)
 have hn' : (n : Int) ≤ 32 := by omega
 have hl' : 0 ≤ l := by omega
 clear hl hn
 go_enter Tryz.func110, Tryz.ntmps110
 go_wp2
 go_loopw [18] (fun i wr => ∃ j : Nat, i = .int .i64 (j : Int) ∧ j ≤ n ∧ Hid (pjsErr (ps.drop j) = pjsErr (ps.drop 0)) ∧ Below w.heap.size w wr) (fun i _ => n - (intOf i).toNat)
 case atStart => exact ⟨0, rfl, Nat.zero_le _, rfl, HA.out⟩
 case round =>
  obtain ⟨j, rfl, hj, HE, hb⟩ := hrel
  have HB := hide hb
  clear hb
  by_cases hlt : j < n
  ·
   have hlt' : (j : Int) < (n : Int) := by omega
   obtain ⟨p, hp⟩ : ∃ p, ps[j]? = some p := ⟨_, List.getElem?_eq_getElem (by have : ps.length = n := HL.out; omega)⟩
   obtain ⟨b, o, rfl, _, hi, c0, c1⟩ := (HX.out.below HB.out).at_ hp
   have HS := hide (pjsErr_at hp)
   obtain ⟨k, f⟩ := p
   simp only [] at c0 c1
   have HB2 := hide (HB.out.alloc HB.out.size (.cells #[.int .i64 k, .int .i64 f] 102))
   obtain ⟨v, hv⟩ : ∃ v, pjErr (k, f) = v := ⟨_, rfl⟩
   have HV := hide hv
   clear hp hi hv
   by_cases hv0 : v = 0
   ·
    subst hv0
    have HN := hide (show pjsErr (ps.drop (j + 1)) = pjsErr (ps.drop 0) from by rw [← HE.out, HS.out, if_pos HV.out])
    go_wp2_with fail
    refine (CheckProj_is HV.out _).mono ?_
    rintro e w1 ⟨rfl, hb⟩
    have HB3 := hide (HB2.out.trans (hb.mono HB2.out.size))
    clear hb
    go_wp2
    go_roundw
    case rel => exact ⟨j + 1, by go_num, by omega, HN.out, HB3.out⟩
    case measure => simp [intOf]; omega
   ·
    have t1 : (v != 0) = true := by rw [bne_iff_ne]; exact hv0
    have HN := hide (show plErr l ps = v from by rw [HF.out, ← HE.out, HS.out, HV.out, if_neg hv0])
    clear hv0
    go_wp2_with fail
    refine (CheckProj_is HV.out _).mono ?_
    rintro e w1 ⟨rfl, hb⟩
    have HB3 := hide (HB2.out.trans (hb.mono HB2.out.size))
    clear hb
    go_wp2
    go_ret
    exact ⟨congrArg (fun v => Ending.returned (.int .i64 v)) HN.out.symm, HB3.out⟩
  ·
   obtain rfl : j = n := by omega
   have HN := hide (show plErr l ps = 0 from by rw [HF.out, ← HE.out, List.drop_of_length_le (by have : ps.length = j := HL.out; omega)]; rfl)
   go_wp2
   go_ret
   exact ⟨congrArg (fun v => Ending.returned (.int .i64 v)) HN.out.symm, HB.out⟩
theorem CheckP_is {x : PlW} {v : Int} (h : plErr x.l x.ps = v) (w : World) (hx : OnePl w w.heap.size x) :
  Calls Tryz.prog 110 #[aggPl x] w fun e w' => e = .returned (.int .i64 v) ∧ Below w.heap.size w w' := h ▸ CheckP_any x w hx
structure SlW (α : Type) where
 A : Option Addr
 n : Nat
 c : Nat
 L : List α
abbrev SlW.val {α : Type} (s : SlW α) : Value := .slice s.A s.n s.c
structure SlH {α : Type} (w : World) (B : Nat) (k : Nat) (f : α → List Value) (Q : α → Prop) (s : SlW α) : Prop where
 nc : s.n ≤ s.c
 cm : s.c ≤ maxLen
 cells : Cells w B k f s.A s.n s.L
 all : ∀ x ∈ s.L, Q x
section
variable {α : Type} {w w' : World} {B B' k : Nat} {f : α → List Value} {Q Q' : α → Prop} {s : SlW α}
theorem SlH.below (h : SlH w B k f Q s) (hb : Below B w w') (hQ : ∀ x, Q x → Q' x) : SlH w' B k f Q' s := ⟨h.nc, h.cm, h.cells.below hb, fun x hx => hQ x (h.all x hx)⟩
theorem SlH.more (h : SlH w B k f Q s) (hb : B ≤ B') (hQ : ∀ x, Q x → Q' x) : SlH w B' k f Q' s := ⟨h.nc, h.cm, h.cells.more hb, fun x hx => hQ x (h.all x hx)⟩
theorem SlH.len (h : SlH w B k f Q s) : s.L.length = s.n := h.cells.1
theorem SlH.nm (h : SlH w B k f Q s) : s.n ≤ maxLen := Nat.le_trans h.nc h.cm
theorem SlH.get (h : SlH w B k f Q s) {i : Nat} (hi : i < s.n) : ∃ x, s.L[i]? = some x := ⟨_, List.getElem?_eq_getElem (by have := h.len; omega)⟩
theorem SlH.at_ (h : SlH w B k f Q s) {i : Nat} {x : α} (hx : s.L[i]? = some x) : ∃ b o, s.A = some ⟨b, o, none⟩ ∧ b < B ∧ Q x ∧ ∀ j u, (f x)[j]? = some u → w.cell? ⟨b, o + i * k + j, none⟩ = some u := by
 obtain ⟨b, o, h1, h2, h3⟩ := h.cells.at_ hx
 exact ⟨b, o, h1, h2, h.all x (List.mem_of_getElem? hx), h3⟩
end
def cInt (x : Int) : List Value := [.int .i64 x]
def cStr (s : ByteArray) : List Value := [.string s]
abbrev Ints (w : World) (B : Nat) (s : SlW Int) : Prop := SlH w B 1 cInt IntR s
abbrev Strs (w : World) (B : Nat) (s : SlW ByteArray) : Prop := SlH w B 1 cStr (fun x => x.size ≤ maxLen) s
theorem Ints.rd {w : World} {B : Nat} {s : SlW Int} (h : Ints w B s) : Rd w B s.A s.n (i64s s.L) := by
 refine ⟨by rw [List.length_map]; exact h.len, fun hn => ?_⟩
 obtain ⟨b, o, h1, h2, h3⟩ := h.cells.2 hn
 refine ⟨b, o, h1, h2, fun j u hu => ?_⟩
 rw [List.getElem?_map] at hu
 cases hx : s.L[j]? with
 | none => rw [hx] at hu; cases hu
 | some x =>
  rw [hx] at hu
  injection hu with hu
  have := h3 j x hx 0 (.int .i64 x) rfl
  rw [← hu]
  simpa using this
structure PlV where
 l : Int
 ps : List Pr
structure OpV where
 kind : Int
 pl : PlV
 n : Int
structure RvV where
 kind : Int
 op : Int
 region : Int
 mut_ : Bool
 pl : PlV
 args : List OpV
structure StV where
 kind : Int
 pl : PlV
 rv : RvV
 loc : Int
structure TmV where
 kind : Int
 targets : List Int
 args : List OpV
 pl : PlV
 name : ByteArray
structure BkV where
 stmts : List StV
 term : TmV
structure LcV where
 name : ByteArray
 ty : Int
structure BdV where
 name : ByteArray
 regions : List ByteArray
 outl : List Pr
 types : List Ty
 locals : List LcV
 args : Int
 blocks : List BkV
structure OpW where
 kind : Int
 pl : PlW
 n : Int
structure RvW where
 kind : Int
 op : Int
 region : Int
 mut_ : Bool
 pl : PlW
 args : SlW OpW
structure StW where
 kind : Int
 pl : PlW
 rv : RvW
 loc : Int
structure TmW where
 kind : Int
 targets : SlW Int
 args : SlW OpW
 pl : PlW
 name : ByteArray
structure BkW where
 stmts : SlW StW
 term : TmW
structure BdW where
 name : ByteArray
 regions : SlW ByteArray
 outl : SlW Pr
 types : SlW TyW
 locals : SlW LcW
 args : Int
 blocks : SlW BkW
def PlW.v (x : PlW) : PlV := ⟨x.l, x.ps⟩
def OpW.v (x : OpW) : OpV := ⟨x.kind, x.pl.v, x.n⟩
def RvW.v (x : RvW) : RvV := ⟨x.kind, x.op, x.region, x.mut_, x.pl.v, x.args.L.map OpW.v⟩
def StW.v (x : StW) : StV := ⟨x.kind, x.pl.v, x.rv.v, x.loc⟩
def TmW.v (x : TmW) : TmV := ⟨x.kind, x.targets.L, x.args.L.map OpW.v, x.pl.v, x.name⟩
def BkW.v (x : BkW) : BkV := ⟨x.stmts.L.map StW.v, x.term.v⟩
def LcW.v (x : LcW) : LcV := ⟨x.name, x.ty⟩
def BdW.v (x : BdW) : BdV := ⟨x.name, x.regions.L, x.outl.L, tys x.types.L, x.locals.L.map LcW.v, x.args, x.blocks.L.map BkW.v⟩
def cOp (x : OpW) : List Value := [.int .i64 x.kind, .int .i64 x.pl.l, .slice x.pl.A x.pl.n x.pl.c, .int .i64 x.n]
def cRv (x : RvW) : List Value := [.int .i64 x.kind, .int .i64 x.op, .int .i64 x.region, .bool x.mut_, .int .i64 x.pl.l, .slice x.pl.A x.pl.n x.pl.c, .slice x.args.A x.args.n x.args.c]
def cSt (x : StW) : List Value := [.int .i64 x.kind, .int .i64 x.pl.l, .slice x.pl.A x.pl.n x.pl.c, .int .i64 x.rv.kind, .int .i64 x.rv.op, .int .i64 x.rv.region, .bool x.rv.mut_, .int .i64 x.rv.pl.l, .slice x.rv.pl.A x.rv.pl.n x.rv.pl.c, .slice x.rv.args.A x.rv.args.n x.rv.args.c, .int .i64 x.loc]
def cTm (x : TmW) : List Value := [.int .i64 x.kind, .slice x.targets.A x.targets.n x.targets.c, .slice x.args.A x.args.n x.args.c, .int .i64 x.pl.l, .slice x.pl.A x.pl.n x.pl.c, .string x.name]
def cBk (x : BkW) : List Value := [.slice x.stmts.A x.stmts.n x.stmts.c, .int .i64 x.term.kind, .slice x.term.targets.A x.term.targets.n x.term.targets.c, .slice x.term.args.A x.term.args.n x.term.args.c, .int .i64 x.term.pl.l, .slice x.term.pl.A x.term.pl.n x.term.pl.c, .string x.term.name]
def cBd (x : BdW) : List Value := [.string x.name, .slice x.regions.A x.regions.n x.regions.c, .slice x.outl.A x.outl.n x.outl.c, .slice x.types.A x.types.n x.types.c, .slice x.locals.A x.locals.n x.locals.c, .int .i64 x.args, .slice x.blocks.A x.blocks.n x.blocks.c]
theorem cOp_len (x : OpW) : (cOp x).length = 4 := rfl
theorem cSt_len (x : StW) : (cSt x).length = 11 := rfl
theorem cBk_len (x : BkW) : (cBk x).length = 7 := rfl
theorem cBd_len (x : BdW) : (cBd x).length = 7 := rfl
theorem cInt_len (x : Int) : (cInt x).length = 1 := rfl
theorem cStr_len (x : ByteArray) : (cStr x).length = 1 := rfl
abbrev aggOp (x : OpW) : Value := .agg #[.int .i64 x.kind, .int .i64 x.pl.l, .slice x.pl.A x.pl.n x.pl.c, .int .i64 x.n]
abbrev aggRv (x : RvW) : Value := .agg #[.int .i64 x.kind, .int .i64 x.op, .int .i64 x.region, .bool x.mut_, .int .i64 x.pl.l, .slice x.pl.A x.pl.n x.pl.c, .slice x.args.A x.args.n x.args.c]
abbrev aggSt (x : StW) : Value := .agg #[.int .i64 x.kind, .int .i64 x.pl.l, .slice x.pl.A x.pl.n x.pl.c, .int .i64 x.rv.kind, .int .i64 x.rv.op, .int .i64 x.rv.region, .bool x.rv.mut_, .int .i64 x.rv.pl.l, .slice x.rv.pl.A x.rv.pl.n x.rv.pl.c, .slice x.rv.args.A x.rv.args.n x.rv.args.c, .int .i64 x.loc]
abbrev aggTm (x : TmW) : Value := .agg #[.int .i64 x.kind, .slice x.targets.A x.targets.n x.targets.c, .slice x.args.A x.args.n x.args.c, .int .i64 x.pl.l, .slice x.pl.A x.pl.n x.pl.c, .string x.name]
abbrev aggBk (x : BkW) : Value := .agg #[.slice x.stmts.A x.stmts.n x.stmts.c, .int .i64 x.term.kind, .slice x.term.targets.A x.term.targets.n x.term.targets.c, .slice x.term.args.A x.term.args.n x.term.args.c, .int .i64 x.term.pl.l, .slice x.term.pl.A x.term.pl.n x.term.pl.c, .string x.term.name]
abbrev aggBd (x : BdW) : Value := .agg #[.string x.name, .slice x.regions.A x.regions.n x.regions.c, .slice x.outl.A x.outl.n x.outl.c, .slice x.types.A x.types.n x.types.c, .slice x.locals.A x.locals.n x.locals.c, .int .i64 x.args, .slice x.blocks.A x.blocks.n x.blocks.c]
structure OneOp (w : World) (B : Nat) (x : OpW) : Prop where
 kind : IntR x.kind
 pl : OnePl w B x.pl
 n : IntR x.n
abbrev Ops (w : World) (B : Nat) (s : SlW OpW) : Prop := SlH w B 4 cOp (OneOp w B) s
structure OneRv (w : World) (B : Nat) (x : RvW) : Prop where
 kind : IntR x.kind
 op : IntR x.op
 region : IntR x.region
 pl : OnePl w B x.pl
 args : Ops w B x.args
structure OneSt (w : World) (B : Nat) (x : StW) : Prop where
 kind : IntR x.kind
 pl : OnePl w B x.pl
 rv : OneRv w B x.rv
 loc : IntR x.loc
structure OneTm (w : World) (B : Nat) (x : TmW) : Prop where
 kind : IntR x.kind
 targets : Ints w B x.targets
 args : Ops w B x.args
 pl : OnePl w B x.pl
 name : x.name.size ≤ maxLen
structure OneBk (w : World) (B : Nat) (x : BkW) : Prop where
 stmts : SlH w B 11 cSt (OneSt w B) x.stmts
 term : OneTm w B x.term
structure OneBd (w : World) (B : Nat) (x : BdW) : Prop where
 name : x.name.size ≤ maxLen
 regions : Strs w B x.regions
 outl : SlH w B 2 pV IntP x.outl
 types : SlH w B 5 c5 (OneT w B) x.types
 locals : SlH w B 2 cLc (fun y => IntR y.ty ∧ y.name.size ≤ maxLen) x.locals
 args : IntR x.args
 blocks : SlH w B 7 cBk (OneBk w B) x.blocks
section
variable {w w' : World} {B B' : Nat} (hb : Below B w w')
include hb
theorem OneOp.below {x : OpW} (h : OneOp w B x) : OneOp w' B x := ⟨h.kind, h.pl.below hb, h.n⟩
theorem Ops.below {s : SlW OpW} (h : Ops w B s) : Ops w' B s := SlH.below h hb fun _ h => h.below hb
theorem OneRv.below {x : RvW} (h : OneRv w B x) : OneRv w' B x := ⟨h.kind, h.op, h.region, h.pl.below hb, Ops.below hb h.args⟩
theorem OneSt.below {x : StW} (h : OneSt w B x) : OneSt w' B x := ⟨h.kind, h.pl.below hb, h.rv.below hb, h.loc⟩
theorem OneTm.below {x : TmW} (h : OneTm w B x) : OneTm w' B x := ⟨h.kind, SlH.below h.targets hb fun _ h => h, Ops.below hb h.args, h.pl.below hb, h.name⟩
theorem OneBk.below {x : BkW} (h : OneBk w B x) : OneBk w' B x := ⟨SlH.below h.stmts hb fun _ h => h.below hb, h.term.below hb⟩
theorem OneBd.below {x : BdW} (h : OneBd w B x) : OneBd w' B x := ⟨h.name, SlH.below h.regions hb fun _ h => h, SlH.below h.outl hb fun _ h => h, SlH.below h.types hb fun _ h => OneT.below h hb, SlH.below h.locals hb fun _ h => h, h.args, SlH.below h.blocks hb fun _ h => h.below hb⟩
end
section
variable {w : World} {B B' : Nat} (hb : B ≤ B')
include hb
theorem OneOp.more {x : OpW} (h : OneOp w B x) : OneOp w B' x := ⟨h.kind, h.pl.more hb, h.n⟩
theorem Ops.more {s : SlW OpW} (h : Ops w B s) : Ops w B' s := SlH.more h hb fun _ h => h.more hb
theorem OneRv.more {x : RvW} (h : OneRv w B x) : OneRv w B' x := ⟨h.kind, h.op, h.region, h.pl.more hb, Ops.more hb h.args⟩
theorem OneSt.more {x : StW} (h : OneSt w B x) : OneSt w B' x := ⟨h.kind, h.pl.more hb, h.rv.more hb, h.loc⟩
theorem OneTm.more {x : TmW} (h : OneTm w B x) : OneTm w B' x := ⟨h.kind, SlH.more h.targets hb fun _ h => h, Ops.more hb h.args, h.pl.more hb, h.name⟩
theorem OneBk.more {x : BkW} (h : OneBk w B x) : OneBk w B' x := ⟨SlH.more h.stmts hb fun _ h => h.more hb, h.term.more hb⟩
theorem OneBd.more {x : BdW} (h : OneBd w B x) : OneBd w B' x := ⟨h.name, SlH.more h.regions hb fun _ h => h, SlH.more h.outl hb fun _ h => h, SlH.more h.types hb fun _ h => OneT.more h hb, SlH.more h.locals hb fun _ h => h, h.args, SlH.more h.blocks hb fun _ h => h.more hb⟩
end
theorem OneBd.up {w w' : World} {x : BdW} (h : OneBd w w.heap.size x) (hb : Below w.heap.size w w') : OneBd w' w'.heap.size x := (h.below hb).more hb.size
theorem OneBk.up {w w' : World} {x : BkW} (h : OneBk w w.heap.size x) (hb : Below w.heap.size w w') : OneBk w' w'.heap.size x := (h.below hb).more hb.size
theorem OneTm.up {w w' : World} {x : TmW} (h : OneTm w w.heap.size x) (hb : Below w.heap.size w w') : OneTm w' w'.heap.size x := (h.below hb).more hb.size
theorem OneSt.up {w w' : World} {x : StW} (h : OneSt w w.heap.size x) (hb : Below w.heap.size w w') : OneSt w' w'.heap.size x := (h.below hb).more hb.size
theorem OneRv.up {w w' : World} {x : RvW} (h : OneRv w w.heap.size x) (hb : Below w.heap.size w w') : OneRv w' w'.heap.size x := (h.below hb).more hb.size
theorem OneOp.up {w w' : World} {x : OpW} (h : OneOp w w.heap.size x) (hb : Below w.heap.size w w') : OneOp w' w'.heap.size x := (h.below hb).more hb.size
theorem Ops.up {w w' : World} {s : SlW OpW} (h : Ops w w.heap.size s) (hb : Below w.heap.size w w') : Ops w' w'.heap.size s := Ops.more hb.size (Ops.below hb h)
theorem OneBd.typs {w : World} {B : Nat} {x : BdW} (h : OneBd w B x) : Typs w B x.types.A x.types.n x.types.L := ⟨h.types.cells, h.types.all⟩
theorem OneBd.locs {w : World} {B : Nat} {x : BdW} (h : OneBd w B x) : Locs w B x.locals.A x.locals.n x.locals.L := ⟨h.locals.cells, fun y hy => (h.locals.all y hy).1⟩
theorem OneBd.prs {w : World} {B : Nat} {x : BdW} (h : OneBd w B x) : Prs w B x.outl.A x.outl.n x.outl.L := ⟨h.outl.cells, h.outl.all⟩
section
variable {α : Type}
def sumN (f : α → Nat) (l : List α) : Nat := (l.map f).sum
theorem sumN_cons (f : α → Nat) (x : α) (l : List α) : sumN f (x :: l) = f x + sumN f l := by simp [sumN]
theorem sumN_append (f : α → Nat) (l m : List α) : sumN f (l ++ m) = sumN f l + sumN f m := by simp [sumN]
theorem sumN_up {f : α → Nat} {l : List α} {j : Nat} {p : α} (h : l[j]? = some p) : sumN f (l.take (j + 1)) = sumN f (l.take j) + f p := by
 rw [List.take_add_one, h, sumN_append]
 simp [sumN]
theorem sumN_all (f : α → Nat) {l : List α} {n : Nat} (h : l.length = n) : sumN f (l.take n) = sumN f l := by rw [List.take_of_length_le (by omega)]
end
theorem wrapI9 (n : Int) (h0 : -9223372036854775808 ≤ n) (h1 : n ≤ 9223372036854775807) : IntKind.i64.wrap n = n := by
 simp [IntKind.wrap, IntKind.bits, IntKind.signed]
 omega
def bd1 (w : World) (x : BdW) : World := w.alloc (.cells #[.string x.name, .slice x.regions.A x.regions.n x.regions.c, .slice x.outl.A x.outl.n x.outl.c, .slice x.types.A x.types.n x.types.c, .slice x.locals.A x.locals.n x.locals.c, .int .i64 x.args, .slice x.blocks.A x.blocks.n x.blocks.c] 28)
theorem bd1_size (w : World) (x : BdW) : (bd1 w x).heap.size = w.heap.size + 1 := by simp [bd1]
theorem bd1_below (w : World) (x : BdW) : Below w.heap.size w (bd1 w x) := (Below.refl _ w).alloc (Nat.le_refl _) _
theorem bd1_cells {w w' : World} {x : BdW} (h : Below (bd1 w x).heap.size (bd1 w x) w') : ∀ j u, (cBd x)[j]? = some u → w'.cell? ⟨w.heap.size, j, none⟩ = some u := by
 have hs := bd1_size w x
 intro j u hu
 refine (h.cell (show w.heap.size < (bd1 w x).heap.size by omega)).trans ?_
 unfold bd1
 simp only [cBd] at hu
 rw [← hu]
 rcases j with _ | _ | _ | _ | _ | _ | _ | j <;> simp [go_sem]
def bk1 (w : World) (x : BkW) : World := w.alloc (.cells #[.slice x.stmts.A x.stmts.n x.stmts.c, .int .i64 x.term.kind, .slice x.term.targets.A x.term.targets.n x.term.targets.c, .slice x.term.args.A x.term.args.n x.term.args.c, .int .i64 x.term.pl.l, .slice x.term.pl.A x.term.pl.n x.term.pl.c, .string x.term.name] 52)
theorem bk1_size (w : World) (x : BkW) : (bk1 w x).heap.size = w.heap.size + 1 := by simp [bk1]
theorem bk1_below (w : World) (x : BkW) : Below w.heap.size w (bk1 w x) := (Below.refl _ w).alloc (Nat.le_refl _) _
theorem bk1_cells {w w' : World} {x : BkW} (h : Below (bk1 w x).heap.size (bk1 w x) w') : ∀ j u, (cBk x)[j]? = some u → w'.cell? ⟨w.heap.size, j, none⟩ = some u := by
 have hs := bk1_size w x
 intro j u hu
 refine (h.cell (show w.heap.size < (bk1 w x).heap.size by omega)).trans ?_
 unfold bk1
 simp only [cBk] at hu
 rw [← hu]
 rcases j with _ | _ | _ | _ | _ | _ | _ | j <;> simp [go_sem]
theorem sumN_min {α : Type} {f : α → Nat} {l : List α} {k : Nat} (h : sumN (fun x => min (f x) k) l < k) : sumN f l = sumN (fun x => min (f x) k) l := by
 induction l with
 | nil => rfl
 | cons x l ih =>
  rw [sumN_cons, sumN_cons] at *
  have h1 : min (f x) k = f x := by omega
  rw [ih (by omega), h1]
def LOpsOut (w : World) (s : SlW OpW) (e : Ending) (w' : World) : Prop := ∃ r : Nat, e = .returned (.int .i64 (r : Int)) ∧ r ≤ 18000 ∧ (r ≤ 3000 → s.n + sumN (fun o => o.pl.n) s.L = r) ∧ Below w.heap.size w w'
set_option maxHeartbeats 4000000 in
set_option maxRecDepth 100000 in
theorem LOperands_any (s : SlW OpW) (w : World) (hs : Ops w w.heap.size s) :
  Calls Tryz.prog 37 #[s.val] w (LOpsOut w s) := by
 have HX := hide hs
 have HL := hide hs.len
 have hn := hs.nm
 have hnc := hs.nc
 clear hs
 obtain ⟨A, n, c, xs⟩ := s
 simp only [] at hn hnc
 unfold maxLen at hn
 show Calls Tryz.prog 37 #[.slice A n c] w _
 by_cases h9 : 9000 < n
 ·
  have hi1 : (9000 : Int) < (n : Int) := by omega
  have hi2 : (9000 : Int) ≤ (n : Int) := by omega
  have hi3 : ¬ (n : Int) ≤ 9000 := by omega
  have hi4 : ¬ (n : Int) < 9000 := by omega
  have hc1 : (9000 : Int) ≤ (c : Int) := by omega
  have hc2 : 9000 ≤ c := by omega
  go_enter Tryz.func37, Tryz.ntmps37
  go_wp2
  go_loopw [3, 13] (fun v i wr => ∃ j m : Nat, i = .int .i64 (j : Int) ∧ v = .int .i64 (m : Int) ∧ j ≤ 9000 ∧ m ≤ 9000 ∧ Hid (m = 9000 + sumN (fun o => min o.pl.n 9000) (xs.take j)) ∧ Hid (Below w.heap.size w wr)) (fun _ i _ => 9000 - (intOf i).toNat)
  case atStart => exact ⟨0, 9000, rfl, rfl, Nat.zero_le _, by omega, hide (by simp [sumN]), hide (Below.refl _ _)⟩
  case round =>
   obtain ⟨j, m, rfl, rfl, hj, hm, HM, HB⟩ := hrel
   have hsz := HB.out.size
   by_cases hlt : j < 9000
   ·
    obtain ⟨p, hp⟩ := HX.out.get (show j < n by omega)
    obtain ⟨g, o, hA, hg, h1, c0⟩ := HX.out.at_ hp
    simp only [] at hA
    subst hA
    obtain ⟨k, ⟨l, pA, pn, pc, ps⟩, z⟩ := p
    have hlt' : (j : Int) < (9000 : Int) := by omega
    have hltn : (j : Int) < (n : Int) := by omega
    have c1 := (HB.out.cell hg).trans (c0 0 _ rfl)
    have c2 := (HB.out.cell hg).trans (c0 1 _ rfl)
    have c3 := (HB.out.cell hg).trans (c0 2 _ rfl)
    have c4 := (HB.out.cell hg).trans (c0 3 _ rfl)
    simp only [Nat.add_zero] at c1 c2 c3 c4
    have hpn : pn ≤ 9223372036854775807 := Nat.le_trans h1.pl.nc h1.pl.cm
    have hu := sumN_up (f := fun o : OpW => min o.pl.n 9000) hp
    simp only [] at hu
    have HB2 := hide (HB.out.alloc hsz (.cells #[.int .i64 k, .int .i64 l, .slice pA pn pc, .int .i64 z] 38))
    by_cases hb : 9000 < pn
    ·
     have hb1 : (9000 : Int) < (pn : Int) := by omega
     have hb2 : (9000 : Int) ≤ (pn : Int) := by omega
     have hb3 : ¬ (pn : Int) ≤ 9000 := by omega
     have HM2 := hide (show m + 9000 = 9000 + sumN (fun o => min o.pl.n 9000) (xs.take (j + 1)) by rw [hu, HM.out, Nat.min_eq_right (Nat.le_of_lt hb), Nat.add_assoc])
     have t1 : IntKind.i64.wrap ((m : Int) + 9000) = (m : Int) + 9000 := wrapI9 _ (by omega) (by omega)
     by_cases h0 : 0 < m
     ·
      have hg2 : (9000 : Int) < (m : Int) + 9000 := by omega
      clear c0 h1 hu hp
      go_wp2
      go_ret
      exact ⟨m + 9000, congrArg (fun z : Int => Ending.returned (.int .i64 z)) (by omega), by omega, fun h => absurd h (by omega), HB2.out⟩
     ·
      have hm0 : m = 0 := by omega
      have : 9000 ≤ m := by rw [HM.out]; omega
      omega
    ·
     have hb1 : ¬ (9000 : Int) < (pn : Int) := by omega
     have hb2 : (pn : Int) ≤ 9000 := by omega
     have HM2 := hide (show m + pn = 9000 + sumN (fun o => min o.pl.n 9000) (xs.take (j + 1)) by rw [hu, HM.out, Nat.min_eq_left (by omega), Nat.add_assoc])
     have t1 : IntKind.i64.wrap ((m : Int) + (pn : Int)) = (m : Int) + (pn : Int) := wrapI9 _ (by omega) (by omega)
     by_cases h0 : 9000 < m + pn
     ·
      have hg2 : (9000 : Int) < (m : Int) + (pn : Int) := by omega
      clear c0 h1 hu hp
      go_wp2
      go_ret
      exact ⟨m + pn, congrArg (fun z : Int => Ending.returned (.int .i64 z)) (by omega), by omega, fun h => absurd h (by omega), HB2.out⟩
     ·
      have hg2 : ¬ (9000 : Int) < (m : Int) + (pn : Int) := by omega
      clear c0 h1 hu hp
      go_wp2
      go_roundw
      case rel => exact ⟨j + 1, m + pn, by go_num, congrArg (fun z : Int => Value.int .i64 z) (by omega), by omega, by omega, HM2, HB2⟩
      case measure => simp [intOf]; omega
   ·
    have hjn : 9000 = j := by omega
    have hge : ¬ (j : Int) < (9000 : Int) := by omega
    have HF := hide (show m ≤ 3000 → n + sumN (fun o : OpW => o.pl.n) xs = m from fun h => by
     have h1 := HM.out
     omega)
    clear hjn
    go_wp2
    go_ret
    exact ⟨m, rfl, by omega, HF.out, HB.out⟩
 ·
  have hi1 : ¬ (9000 : Int) < (n : Int) := by omega
  have hi2 : (n : Int) ≤ 9000 := by omega
  have hc1 : (n : Int) ≤ (c : Int) := by omega
  go_enter Tryz.func37, Tryz.ntmps37
  go_wp2
  go_loopw [3, 13] (fun v i wr => ∃ j m : Nat, i = .int .i64 (j : Int) ∧ v = .int .i64 (m : Int) ∧ j ≤ n ∧ m ≤ 9000 ∧ Hid (m = n + sumN (fun o => min o.pl.n 9000) (xs.take j)) ∧ Hid (Below w.heap.size w wr)) (fun _ i _ => n - (intOf i).toNat)
  case atStart => exact ⟨0, n, rfl, rfl, Nat.zero_le _, by omega, hide (by simp [sumN]), hide (Below.refl _ _)⟩
  case round =>
   obtain ⟨j, m, rfl, rfl, hj, hm, HM, HB⟩ := hrel
   have hsz := HB.out.size
   by_cases hlt : j < n
   ·
    obtain ⟨p, hp⟩ := HX.out.get (show j < n by omega)
    obtain ⟨g, o, hA, hg, h1, c0⟩ := HX.out.at_ hp
    simp only [] at hA
    subst hA
    obtain ⟨k, ⟨l, pA, pn, pc, ps⟩, z⟩ := p
    have hlt' : (j : Int) < (n : Int) := by omega
    have hltn : (j : Int) < (n : Int) := by omega
    have c1 := (HB.out.cell hg).trans (c0 0 _ rfl)
    have c2 := (HB.out.cell hg).trans (c0 1 _ rfl)
    have c3 := (HB.out.cell hg).trans (c0 2 _ rfl)
    have c4 := (HB.out.cell hg).trans (c0 3 _ rfl)
    simp only [Nat.add_zero] at c1 c2 c3 c4
    have hpn : pn ≤ 9223372036854775807 := Nat.le_trans h1.pl.nc h1.pl.cm
    have hu := sumN_up (f := fun o : OpW => min o.pl.n 9000) hp
    simp only [] at hu
    have HB2 := hide (HB.out.alloc hsz (.cells #[.int .i64 k, .int .i64 l, .slice pA pn pc, .int .i64 z] 38))
    by_cases hb : 9000 < pn
    ·
     have hb1 : (9000 : Int) < (pn : Int) := by omega
     have hb2 : (9000 : Int) ≤ (pn : Int) := by omega
     have hb3 : ¬ (pn : Int) ≤ 9000 := by omega
     have HM2 := hide (show m + 9000 = n + sumN (fun o => min o.pl.n 9000) (xs.take (j + 1)) by rw [hu, HM.out, Nat.min_eq_right (Nat.le_of_lt hb), Nat.add_assoc])
     have t1 : IntKind.i64.wrap ((m : Int) + 9000) = (m : Int) + 9000 := wrapI9 _ (by omega) (by omega)
     by_cases h0 : 0 < m
     ·
      have hg2 : (9000 : Int) < (m : Int) + 9000 := by omega
      clear c0 h1 hu hp
      go_wp2
      go_ret
      exact ⟨m + 9000, congrArg (fun z : Int => Ending.returned (.int .i64 z)) (by omega), by omega, fun h => absurd h (by omega), HB2.out⟩
     ·
      have hm0 : m = 0 := by omega
      have : n ≤ m := by rw [HM.out]; omega
      omega
    ·
     have hb1 : ¬ (9000 : Int) < (pn : Int) := by omega
     have hb2 : (pn : Int) ≤ 9000 := by omega
     have HM2 := hide (show m + pn = n + sumN (fun o => min o.pl.n 9000) (xs.take (j + 1)) by rw [hu, HM.out, Nat.min_eq_left (by omega), Nat.add_assoc])
     have t1 : IntKind.i64.wrap ((m : Int) + (pn : Int)) = (m : Int) + (pn : Int) := wrapI9 _ (by omega) (by omega)
     by_cases h0 : 9000 < m + pn
     ·
      have hg2 : (9000 : Int) < (m : Int) + (pn : Int) := by omega
      clear c0 h1 hu hp
      go_wp2
      go_ret
      exact ⟨m + pn, congrArg (fun z : Int => Ending.returned (.int .i64 z)) (by omega), by omega, fun h => absurd h (by omega), HB2.out⟩
     ·
      have hg2 : ¬ (9000 : Int) < (m : Int) + (pn : Int) := by omega
      clear c0 h1 hu hp
      go_wp2
      go_roundw
      case rel => exact ⟨j + 1, m + pn, by go_num, congrArg (fun z : Int => Value.int .i64 z) (by omega), by omega, by omega, HM2, HB2⟩
      case measure => simp [intOf]; omega
   ·
    have hjn : n = j := by omega
    have hge : ¬ (j : Int) < (n : Int) := by omega
    have HF := hide (show m ≤ 3000 → n + sumN (fun o : OpW => o.pl.n) xs = m from fun h => by
     have h1 := HM.out
     rw [← hjn, sumN_all _ HL.out] at h1
     rw [sumN_min (f := fun o : OpW => o.pl.n) (k := 9000) (by omega), h1])
    clear hjn
    go_wp2
    go_ret
    exact ⟨m, rfl, by omega, HF.out, HB.out⟩
end Go.Proofs.YtfgacmgjpikgaaaGreatDoor
namespace Go.Proofs.YtfgacmgjpikgaaaGreatDoor
open Go.ChangeShapes Go.WideShapes Go.ChangeAt Go.RowKit
theorem cellLt {w : World} {a : Addr} {v : Value} (h : w.cell? a = some v) : a.block < w.heap.size := by
 rcases Nat.lt_or_ge a.block w.heap.size with h' | h'
 ·
  exact h'
 ·
  unfold World.cell? at h
  rw [Array.getElem?_eq_none h'] at h
  simp at h
end Go.Proofs.YtfgacmgjpikgaaaGreatDoor
