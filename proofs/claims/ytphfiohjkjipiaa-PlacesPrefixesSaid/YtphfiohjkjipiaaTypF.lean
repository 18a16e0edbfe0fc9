/- compute: the frame that the recursive closure keeps, and maps keyed by numbers. -/
import Derived.Test.YtphfiohjkjipiaaTypD
import Derived.Maps.OwnSet
import Derived.Maps.RangeWalk
import Derived.Sort.KeysCollected
set_option linter.unusedVariables false
namespace Go.Proofs.Ytphfiohjkjipiaa
open Go.RowKit

theorem intK : Go.Maps.Keyed Try.prog 3 := Go.Maps.int_keyed Try.underlying3
theorem keyOf_i {r : Int} (h : IntR r) : keyOf Try.prog 3 (.int .i64 r) = some (.int .i64 r) := Go.Maps.keyOf_int_mk Try.underlying3 (wf_i64 h)

theorem run_enter {P : Program} {f : FuncId} {fn : Func} {c : Code} (hf : P.funcs[f]? = some fn) (hname : (fn.name == "runtime.NumGoroutine") = false) (hb : fn.body = some c) (args : Array Value) (w : World) : (callFunc f args).run P w = .ok (.enter f args) w := by
  have h1 : ¬ fn.name = "runtime.NumGoroutine" := by simpa using hname
  simp [callFunc, hf, h1, hb]

/-- a look-up in a map, whose outcome is known -/
theorem wpList_look {P : Program} (w : World) {ops : Array Oper} {rest : List Oper} {o : Oper} {a : Act} {Q : Exit → Act → World → Prop} (hg : o.guard = none) (m x : Operand) (t : TypeId) (c : Bool) (hop : o.op = Op.lookup t m x c)
    (mv key v : Value) (hm : a.eval m = mv) (hx : a.eval x = key) (hrun : (Instr.lookup t mv key c).run P w = .ok v w) (hK : wpList P ops Q rest (a.put o.dst v) w) : wpList P ops Q (o :: rest) a w := by
  refine wpList_plain hg fun K' hK' => ?_
  unfold Oper.wp
  simp [execOp, hop, hm, hx, hrun, Result.andThen]
  exact hK' _ _ hK
/-- an element that reads as a truth value is one -/
theorem plainElem_bool_inv {H : Type} {P : Program} {e : TypeId} (he : P.underlying e = some .bool) {v : Value} {z : DataW H × List MemPlace} (h : plainElem P e v = some z) : ∃ a, v = .bool a ∧ z = (.lit (.bool a), []) := by
  unfold plainElem at h
  rw [he] at h
  cases v <;> simp at h
  exact ⟨_, rfl, h.symm⟩

/-! ### maps -/
section
variable {H : Type} {P : Program} {k : TypeId} {R : Value → Option (DataW H × List MemPlace)} {w w' : World} {b m : Nat} {D : DataW H}
theorem owns_block (h : w.ownsMap P k R b m D) (hb : w'.heap[b]? = w.heap[b]?) : w'.ownsMap P k R b m D := by
  obtain ⟨es, clock, h1, h2⟩ := h
  exact ⟨es, clock, hb.trans h1, h2⟩
theorem owns_lt (h : w.ownsMap P k R b m D) : b < w.heap.size := h.lt
def litInt : Lit → Int
  | .int _ x => x
  | _ => 0
/-- a map of numbers has no more entries than there are numbers that can be its keys -/
theorem owns_few (K : Go.Maps.Keyed P k) (hk : P.underlying k = some (.int .i64)) (h : w.ownsMap P k R b m D) (qs : List Int) (hq : ∀ q, (Lit.int .i64 q).wf = true → Maps.has D (.int .i64 q) = true → q ∈ qs) : w.ownsMap P k R b qs.length D := by
  obtain ⟨es, hD, hpw, _⟩ := h.entries K
  obtain ⟨es', hD', hko⟩ := h.keysOf
  obtain rfl : es = es' := by rw [hD] at hD'; simpa using hD'
  subst hD
  have hx : ∀ p ∈ es, ∃ x : Int, p.1 = .int .i64 x ∧ (Lit.int .i64 x).wf = true := fun p hp => by
    obtain ⟨v, hv⟩ := hko p hp
    obtain ⟨x, _, hx, hw⟩ := Maps.keyOf_int_inv hk hv
    exact ⟨x, hx, hw⟩
  have hnd : (es.map fun p => litInt p.1).Nodup := by
    refine List.pairwise_map.2 (hpw.imp_of_mem ?_)
    intro p q hp hq hne e
    obtain ⟨a, ha, _⟩ := hx p hp
    obtain ⟨c, hc, _⟩ := hx q hq
    rw [ha, hc] at e hne
    exact hne (congrArg (Lit.int .i64) e)
  have hlen : (es.map fun p => litInt p.1).length ≤ qs.length := by
    refine nodup_sub hnd ?_
    intro y hy
    obtain ⟨p, hp, e⟩ := List.mem_map.1 hy
    obtain ⟨a, ha, hw⟩ := hx p hp
    rw [ha] at e
    have e' : a = y := e
    subst e'
    refine hq a hw ?_
    rw [Maps.has_eq, List.any_eq_true]
    exact ⟨p, hp, by rw [ha]; simp [Lit.sameKey]⟩
  obtain ⟨es', clock, h1, h2, _, h4⟩ := h
  refine ⟨es', clock, h1, h2, ?_, h4⟩
  have e := congrArg (fun d : DataW H => match d with | .map l => l.length | _ => 0) h4
  simp only [Go.length_sorted, List.length_map, Array.length_toList] at e
  rw [List.length_map] at hlen
  omega
end

/-! ### the frame -/
structure Ctx where
  b3 : Nat
  b5 : Nat
  b7 : Nat
  b8 : Nat
  bm : Nat
  A : Option Addr
  n : Nat
  c : Nat
  L : List TyW
  S : Nat → Prop
  KP : FuncId
  cp : Array Value
/-- the closure that calls itself -/
abbrev Ctx.self (C : Ctx) (K : FuncId) : Value := .func (.func K) #[] #[.pointer (some ⟨C.b7, 0, none⟩), .pointer (some ⟨C.b3, 0, none⟩), .pointer (some ⟨C.b5, 0, none⟩), .pointer (some ⟨C.b8, 0, none⟩)]
/-- what does not turn -/
structure Ctx.fix (C : Ctx) : Prop where
  n3 : ¬ C.S C.b3
  n5 : ¬ C.S C.b5
  n7 : ¬ C.S C.b7
  n8 : ¬ C.S C.b8
  sm : C.S C.bm
  fA : 0 < C.n → ∀ b o, C.A = some ⟨b, o, none⟩ → ¬ C.S b
  fx : ∀ x ∈ C.L, 0 < x.n → ∀ b o, x.A = some ⟨b, o, none⟩ → ¬ C.S b
  nc : C.n ≤ C.c
  cm : C.c ≤ maxLen
  few : C.n ≤ 65535
structure TyFr (C : Ctx) (K : FuncId) (w : World) : Prop where
  c3 : w.cell? ⟨C.b3, 0, none⟩ = some (.slice C.A C.n C.c)
  c5 : w.cell? ⟨C.b5, 0, none⟩ = some (.func (.func C.KP) #[] C.cp)
  c7 : w.cell? ⟨C.b7, 0, none⟩ = some (.map (some C.bm))
  c8 : w.cell? ⟨C.b8, 0, none⟩ = some (C.self K)
  l3 : C.b3 < w.heap.size
  l5 : C.b5 < w.heap.size
  l7 : C.b7 < w.heap.size
  l8 : C.b8 < w.heap.size
  ls : ∀ k, C.S k → k < w.heap.size
  ty : Typs w w.heap.size C.A C.n C.L
theorem Cells.turn {α : Type} {S : Nat → Prop} {w w' : World} {B k : Nat} {f : α → List Value} {A : Option Addr} {n : Nat} {L : List α} (h : Cells w B k f A n L) (ht : Turn S w w') (hB : B ≤ w.heap.size) (hS : 0 < n → ∀ b o, A = some ⟨b, o, none⟩ → ¬ S b) : Cells w' B k f A n L :=
  ⟨h.1, fun hn => by
    obtain ⟨b, o, h1, h2, h3⟩ := h.2 hn
    exact ⟨b, o, h1, h2, fun i x hx j u hu => (ht.cell (p := ⟨b, o + i * k + j, none⟩) (by simp; omega) (hS hn b o h1)).trans (h3 i x hx j u hu)⟩⟩
theorem OneT.turn {S : Nat → Prop} {w w' : World} {B : Nat} {x : TyW} (h : OneT w B x) (ht : Turn S w w') (hB : B ≤ w.heap.size) (hS : 0 < x.n → ∀ b o, x.A = some ⟨b, o, none⟩ → ¬ S b) : OneT w' B x := ⟨h.ok, h.rd.turn ht hB hS⟩
theorem TyFr.turn {C : Ctx} {K : FuncId} {w w' : World} (h : TyFr C K w) (hf : C.fix) {S' : Nat → Prop} (ht : Turn S' w w') (hs : ∀ k, S' k → C.S k) : TyFr C K w' := by
  have ht' := ht.weak hs
  exact ⟨(ht'.cell (p := ⟨C.b3, 0, none⟩) h.l3 hf.n3).trans h.c3, (ht'.cell (p := ⟨C.b5, 0, none⟩) h.l5 hf.n5).trans h.c5, (ht'.cell (p := ⟨C.b7, 0, none⟩) h.l7 hf.n7).trans h.c7, (ht'.cell (p := ⟨C.b8, 0, none⟩) h.l8 hf.n8).trans h.c8,
    Nat.lt_of_lt_of_le h.l3 ht.size, Nat.lt_of_lt_of_le h.l5 ht.size, Nat.lt_of_lt_of_le h.l7 ht.size, Nat.lt_of_lt_of_le h.l8 ht.size, fun k hk => Nat.lt_of_lt_of_le (h.ls k hk) ht.size,
    ⟨(h.ty.cells.turn ht' (Nat.le_refl _) hf.fA).more ht.size, fun x hx => ((h.ty.one x hx).turn ht' (Nat.le_refl _) (hf.fx x hx)).more ht.size⟩⟩

/-- What a property is asked for: each element of the list, told of its parts by a function value. -/
structure PropC (C : Ctx) (ret : Int → Value) (men : Int → Int → Prop) (J : World → (Int → Prop) → Prop) : Prop where
  enter : ∀ (args : Array Value) (w : World), (callFunc C.KP args).run Try.prog w = .ok (.enter C.KP args) w
  call : ∀ (i : Nat) (x : TyW), C.L[i]? = some x → ∀ (w : World) (D : Int → Prop) (K : FuncId) (caps : Array Value), OneT w w.heap.size x → (∀ k, C.S k → k < w.heap.size) → J w D → Visits K caps ret (tyParts x.t) w C.S J men →
    Calls Try.prog C.KP (#[aggT x, .func (.func K) #[] caps] ++ C.cp) w fun e w' => e = .returned (ret (i : Int)) ∧ J w' (fun r => D r ∨ men (i : Int) r) ∧ Turn C.S w w'
end Go.Proofs.Ytphfiohjkjipiaa
