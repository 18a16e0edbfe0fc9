/- Part 17 of the contracts and their mathematics. -/
import Derived.Test.YtfgacmgjpikgaaaGreatDoorQ14
import Derived.Lib.AppendZeros
import Derived.Lib.AppendZerosOnto
import Derived.Sort.LoopGhostIn
import Derived.Maps.OwnIn
import Derived.Deep.DeepMust
import Derived.WalkMore
set_option linter.unusedVariables false
set_option linter.unusedSimpArgs false
set_option maxRecDepth 100000
set_option maxHeartbeats 8000000
namespace Go.Proofs.YtfgacmgjpikgaaaGreatDoor
open Go.RowKit
def ownX (X:Nat) (w:World):Option Nat:=match w.cell? ⟨X,0,none⟩ with
 | some v=>v.ownBlock
 | none=>none
theorem ownX_of {X:Nat} {w:World} {v:Value} (h:w.cell? ⟨X,0,none⟩=some v):ownX X w=v.ownBlock:=by unfold ownX;rw [h]
theorem ownX_eq {X:Nat} {w w':World} (h:w'.cell? ⟨X,0,none⟩=w.cell? ⟨X,0,none⟩):ownX X w'=ownX X w:=by unfold ownX;rw [h]
theorem cells_at {w:World} {b i:Nat} {v:Value} (h:w.cell? ⟨b,i,none⟩=some v):∃ cs t fr,w.heap[b]?=some (.cells cs t fr):=by
 obtain ⟨o,ho,hc⟩:=cells_of_cell h
 cases o with
 | cells cs t fr=>exact ⟨cs,t,fr,ho⟩
 | _=>cases hc
structure KeepX (base X:Nat) (W W':World):Prop where
 low:Below base W W'
 cells:∀ k cs t fr,W.heap[k]?=some (.cells cs t fr)→k≠X→some k≠ownX X W→W'.heap[k]?=some (.cells cs t fr)
 own:ownX X W'=ownX X W∨∃ g,ownX X W'=some g∧W.heap.size≤g
 fits:(∀ g,ownX X W=some g→g < W.heap.size)→∀ g,ownX X W'=some g→g < W'.heap.size
theorem KeepX.trans {base X:Nat} {A B C:World} (h:KeepX base X A B) (k:KeepX base X B C):KeepX base X A C:=by
 refine ⟨h.low.trans k.low,fun b cs t fr hb hX hO=>?_,?_,fun hf=>k.fits (h.fits hf)⟩
 ·
  have h1:=h.cells b cs t fr hb hX hO
  refine k.cells b cs t fr h1 hX ?_
  rcases h.own with e | ⟨g,e,hg⟩
  ·
   rw [e];exact hO
  ·
   rw [e]
   intro e'
   injection e' with e'
   have:=(Array.getElem?_eq_some_iff.1 hb).1
   omega
 ·
  rcases k.own with e | ⟨g,e,hg⟩
  ·
   rw [e];exact h.own
  ·
   exact .inr ⟨g,e,Nat.le_trans h.low.size hg⟩
theorem KeepX.of_below {base X:Nat} {W W':World} (h:Below W.heap.size W W') (hb:base≤W.heap.size) (hX:X < W.heap.size):KeepX base X W W':=by
 have e:ownX X W'=ownX X W:=ownX_eq (h.cell (p:=⟨X,0,none⟩) hX)
 exact ⟨h.mono hb,fun k cs t fr hk _ _=>(h.block k (Array.getElem?_eq_some_iff.1 hk).1).trans hk,.inl e,fun hf g hg=>Nat.lt_of_lt_of_le (hf g (by rw [←e];exact hg)) h.size⟩
theorem KeepX.put {base X:Nat} {w:World} (hn:base≤w.heap.size) (hX:X < w.heap.size) (W:World) (l:Nat) (o o':Obj) (hl:w.heap.size≤l) (h:W.heap[l]?=some o) (hc:o.isCells=false) (hw:o.isWalk=false):KeepX base X W (W.putObj l o'):=by
 have hb:=belowK_b hn W l o o' hl h hc hw
 have hbX:=belowK_b (Nat.le_refl w.heap.size) W l o o' hl h hc hw
 have e:ownX X (W.putObj l o')=ownX X W:=ownX_eq (hbX.cell (p:=⟨X,0,none⟩) hX)
 refine ⟨hb,fun k cs t fr hk _ _=>((grownBy_putObj' W l o').block k (Array.getElem?_eq_some_iff.1 hk).1 (fun e=>by
  injection e with e
  subst e
  rw [h] at hk
  injection hk with hk
  subst hk
  cases hc)).trans hk,.inl e,fun hf g hg=>Nat.lt_of_lt_of_le (hf g (by rw [←e];exact hg)) hb.size⟩
theorem KeepX.cell {base X:Nat} {W W':World} (h:KeepX base X W W') {b i:Nat} {v:Value} (hc:W.cell? ⟨b,i,none⟩=some v) (hX:b≠X) (hO:some b≠ownX X W):W'.cell? ⟨b,i,none⟩=some v:=by
 obtain ⟨cs,t,fr,hh⟩:=cells_at hc
 exact (World.cell?_of_block (w:=W) (a:=⟨b,i,none⟩) ((h.cells b cs t fr hh hX hO).trans hh.symm)).trans hc
structure ItX (n X:Nat) (W W':World):Prop where
 low:Below n W W'
 own:∀ g,ownX X W=some g→g < W.heap.size→W'.heap[g]?=W.heap[g]?
theorem ItX.of_below {n X:Nat} {W W':World} (h:Below W.heap.size W W') (hn:n≤W.heap.size):ItX n X W W':=⟨h.mono hn,fun g _ hg=>h.block g hg⟩
theorem ItX.of_grown {n X:Nat} {W W':World} {row:Option Nat} (h:W.grownBy W' row) (hn:n≤W.heap.size) (hr:∀ k,row=some k→n≤k∧some k≠ownX X W):ItX n X W W':=
 ⟨(Below.refl n W).grown h hn (fun k e=>(hr k e).1),fun g hg hl=>h.block g hl (fun e=>(hr g e.symm).2 hg.symm)⟩
theorem round_deep {m:Nat} (m':Nat) {P:Program} {l:Nat} {args:Array Value} {W:World} {R:Ending→World→Prop} (h:YieldAt Fence.wide m P l args W R):YieldAt Fence.wide m' P l args W R:=by
 obtain ⟨fn,tmps,assign,body,hy,hR⟩:=h
 exact ⟨fn,tmps,assign,body,hy,hR.1,fun c cs _=>hR.2 c cs (fun d h=>by cases h)⟩
def SeqX (n:Nat) (P:Program) (g:Nat) (lb:Array Value) (base X:Nat) (S Sp:List Int→Prop) (N:Nat) (w:World):Prop:=
 ∀ (l:Nat) (J Jx:List Int→World→Prop) (W:World),Below w.heap.size w W→ownX X W=none→X < W.heap.size →
  (∀ s A B,J s A→ItX W.heap.size X A B→J s B)→(∀ s A B,Jx s A→ItX W.heap.size X A B→Jx s B) →
  (∀ pre x W1,J pre W1→pre.length < N→YieldAt Fence.wide (n - 1) P l #[.int .i64 x] W1 fun e W'=>
   (e=.returned (.bool true)∧J (pre++[x]) W'∧KeepX base X W1 W')∨(e=.returned (.bool false)∧Jx (pre++[x]) W')) →
  J [] W →
  CallsIn Fence.wide n P g (#[.func (.yield l) #[] #[]]++lb) W fun e W'=>(∃ v,e=.returned v)∧((∃ xs,S xs∧J xs W')∨(∃ pre,Sp pre∧Jx pre W'))
def StaysX {β:Type} (B X:Nat) (I:β→World→Prop):Prop:=∀ s A C,I s A→ItX B X A C→I s C
theorem wpIn_rangeFunc_X {n:Nat} {P:Program} {g:Operand} {p:Tmp} {assign body:Code} {Q:Exit→Act→World→Prop} {a:Act} {w:World}
    (h1:1≤n) {gf:Nat} {lb:Array Value} (hg:a.eval g=.func (.func gf) #[] lb) (eg:∀ args w,(callFunc gf args).run P w=.ok (.enter gf args) w)
    {base X:Nat} {S Sp:List Int→Prop} {N:Nat} {w0:World} (hseq:SeqX (n - 1) P gf lb base X S Sp N w0) (hb0:Below w0.heap.size w0 w) (hbase:base≤w.heap.size) (hX:X < w.heap.size) (hO:ownX X w=none)
    (I:List Int→World→Prop) (Ix:Code→List Int→World→Prop) (hI:OwnFrom w.heap.size I) (hIx:∀ c,OwnFrom w.heap.size (Ix c)) (hS:StaysX (w.heap.size+2) X I) (hSx:∀ c,StaysX (w.heap.size+2) X (Ix c)) (h0:I [] w) (a₁:Int→Act)
    (hassign:∀ (l:Nat) (x:Int) (W:World) (K:Act→World→Prop),K (a₁ x) W →
      assign.wpIn (Fence.wide.inRound l) (n - 1 - 1) P (Exit.then K (fun _ _ _=>False)) { tmps:=((#[p]:Array Tmp).zip (#[.int .i64 x]:Array Value)).foldl (fun t (p,v)=>t.setIfInBounds p v) a.tmps,defers:=[] } W)
    (hbody:∀ (l:Nat) (pre:List Int) (x:Int) (W:World),I pre W→pre.length < N→body.wpIn (Fence.wide.inRound l) (n - 1 - 1) P (ownPostG w.heap.size (KeepX base X) I Ix (pre++[x]) W) (a₁ x) W)
    (hdone:∀ (D:Nat) (xs:List Int) (W:World),w.heap.size≤D→S xs→I xs W→W.heap[D]?=some (.deferred (some []))→Q .normal { a with defers:={ target:=.collected D,args:=#[] } :: a.defers } W)
    (hstop:∀ (D:Nat) (c:Code) (pre:List Int) (W:World),w.heap.size≤D→Sp pre→Ix c pre W→W.heap[D]?=some (.deferred (some []))→c.wpIn Fence.wide n P Q { a with defers:={ target:=.collected D,args:=#[] } :: a.defers } W) :
    (Code.rangeFunc g #[p] assign body).wpIn Fence.wide n P Q a w:=by
  refine wpIn_rangeFunc ?_
  intro fn hfn
  obtain ⟨rec,hrec⟩:∃ rec:LoopState→Option Code→Loop,rec=fun st pe=>{ state:=st,pending:=pe,fn,tmps:=a.tmps,params:=#[p],assign,body,defers:=w.heap.size }:=⟨_,rfl⟩
  obtain ⟨W1,hW1⟩:∃ W1,(w.alloc (.deferred (some []))).alloc (.loop (rec .ready none))=W1:=⟨_,rfl⟩
  have hsz:W1.heap.size=w.heap.size+2:=by rw [←hW1];simp
  have hL1:W1.heap[w.heap.size+1]?=some (.loop (rec .ready none)):=by
    rw [←hW1];have:=World.alloc_heap_new (w.alloc (.deferred (some []))) (.loop (rec .ready none));rwa [World.size_alloc] at this
  have hK1:W1.heap[w.heap.size]?=some (.deferred (some [])):=by
    rw [←hW1];exact (Below.heap_alloc _ _ _ (by simp)).trans (World.alloc_heap_new w _)
  have hI1:I [] W1:=by rw [←hW1];exact hI.alloc _ (hI.alloc _ h0)
  have hbw:Below w.heap.size w W1:=by rw [←hW1];exact ((Below.refl _ w).alloc (Nat.le_refl _) _).alloc (by simp) _
  refine ⟨w.heap.size+1,[{ target:=.collected w.heap.size,args:=#[] }],W1,{ target:=.fn (.func gf) lb,args:=#[.func (.yield (w.heap.size+1)) #[] #[]] },W1,gf,
    #[.func (.yield (w.heap.size+1)) #[] #[]]++lb,W1,?_,?_,fun _ _=>trivial,?_,fun _=>h1,?_⟩
  · rw [←hW1,hrec];exact run_enterLoop_outer _ _ _ _ _
  · simp only [resolve,hg]
    simp [go_sem]
  · simp [invoke,go_sem,eg]
  refine (hseq (w.heap.size+1)
    (fun pre W=>I pre W∧W.heap[w.heap.size+1]?=some (.loop (rec .ready none))∧W.heap[w.heap.size]?=some (.deferred (some [])))
    (fun pre W=>∃ c,Ix c pre W∧W.heap[w.heap.size+1]?=some (.loop (rec .done (some c)))∧W.heap[w.heap.size]?=some (.deferred (some [])))
    W1 (hb0.trans (hbw.mono hb0.size)) ((ownX_eq (hbw.cell (p:=⟨X,0,none⟩) hX)).trans hO) (by omega)
    (fun s A B hs hi=>⟨hS s A B hs.1 (hsz ▸ hi),(hi.low.block _ (by omega)).trans hs.2.1,(hi.low.block _ (by omega)).trans hs.2.2⟩)
    (fun s A B hs hi=>by
      obtain ⟨c,hc,hl,hk⟩:=hs
      exact ⟨c,hSx c s A B hc (hsz ▸ hi),(hi.low.block _ (by omega)).trans hl,(hi.low.block _ (by omega)).trans hk⟩)
    ?_ ⟨hI1,hL1,hK1⟩).mono ?_
  · rintro pre x W ⟨hi,hl,hk⟩ hlen
    have hlt:w.heap.size+1 < W.heap.size:=(Array.getElem?_eq_some_iff.1 hl).1
    have hy:=run_yield (P:=P) (args:=#[.int .i64 x]) hl (by rw [hrec];rfl)
    rw [hrec] at hy
    refine ⟨fn,_,assign,body,hy,roundIn_of_wpIn hfn (hassign _ x W _ ⟨_,run_beginRound hl (by rw [hrec]),?_⟩)⟩
    have hl2:(W.putObj (w.heap.size+1) (.loop { rec .ready none with state:=.busy })).heap[w.heap.size+1]?=some (.loop { rec .ready none with state:=.busy }):=World.putObj_heap_same hlt
    have hk2:(W.putObj (w.heap.size+1) (.loop { rec .ready none with state:=.busy })).heap[w.heap.size]?=some (.deferred (some [])):=(World.putObj_heap_other (by omega)).trans hk
    have hw2:KeepX base X W (W.putObj (w.heap.size+1) (.loop { rec .ready none with state:=.busy })):=KeepX.put hbase hX _ _ _ _ (by omega) hl rfl rfl
    refine wpIn_mono (hbody _ pre x _ (hI.putObj _ hi (by omega) hl rfl) hlen) ?_
    have fin:∀ (jump:Option Code) (W3:World),KeepsFrom w.heap.size (W.putObj (w.heap.size+1) (.loop { rec .ready none with state:=.busy })) W3 →
        (Instr.endRound (w.heap.size+1) jump).run P W3=.ok (.bool jump.isNone) (W3.putObj (w.heap.size+1) (.loop (rec (if jump.isNone then .ready else .done) jump))) ∧
        W3.heap[w.heap.size+1]?=some (.loop { rec .ready none with state:=.busy }) ∧
        (W3.putObj (w.heap.size+1) (.loop (rec (if jump.isNone then .ready else .done) jump))).heap[w.heap.size+1]?=some (.loop (rec (if jump.isNone then .ready else .done) jump)) ∧
        (W3.putObj (w.heap.size+1) (.loop (rec (if jump.isNone then .ready else .done) jump))).heap[w.heap.size]?=some (.deferred (some [])):=fun jump W3 hk3=>by
      have hl3:=hk3.same _ _ (by omega) hl2 rfl
      have:=run_endRound (P:=P) jump hl3
      rw [hrec] at this ⊢
      exact ⟨this,by rw [hrec] at hl3;exact hl3,World.putObj_heap_same (Array.getElem?_eq_some_iff.1 hl3).1,(World.putObj_heap_other (by omega)).trans (hk3.same _ _ (Nat.le_refl _) hk2 rfl)⟩
    rintro e a3 W3 hp
    cases e with
    | normal=>
      obtain ⟨hk3,hkp3,hi3⟩:=hp
      obtain ⟨hr,hl3,hl4,hk4⟩:=fin none W3 hk3
      exact ⟨_,_,hr,.inl ⟨rfl,⟨hI.putObj _ hi3 (by omega) hl3 rfl,hl4,hk4⟩,(hw2.trans hkp3).trans (KeepX.put hbase hX _ _ _ _ (by omega) hl3 rfl rfl)⟩⟩
    | ret=>
      obtain ⟨hk3,hi3⟩:=hp
      obtain ⟨hr,hl3,hl4,hk4⟩:=fin (some .ret) W3 hk3
      exact ⟨_,_,hr,.inr ⟨rfl,.ret,(hIx _).putObj _ hi3 (by omega) hl3 rfl,hl4,hk4⟩⟩
    | exit id=>
      obtain ⟨hk3,hi3⟩:=hp
      obtain ⟨hr,hl3,hl4,hk4⟩:=fin (some (.exit id)) W3 hk3
      exact ⟨_,_,hr,.inr ⟨rfl,.exit id,(hIx _).putObj _ hi3 (by omega) hl3 rfl,hl4,hk4⟩⟩
    | goto t=>
      obtain ⟨hk3,hi3⟩:=hp
      obtain ⟨hr,hl3,hl4,hk4⟩:=fin (some (.goto t)) W3 hk3
      exact ⟨_,_,hr,.inr ⟨rfl,.goto t,(hIx _).putObj _ hi3 (by omega) hl3 rfl,hl4,hk4⟩⟩
    | panic ch=>exact hp.elim
    | outgrown=>exact hp.elim
  · rintro e W2 ⟨⟨v,rfl⟩,(⟨xs,hS,hi,hl,hk⟩ | ⟨pre,hSp,c,hi,hl,hk⟩)⟩
    · exact ⟨none,_,by have:=run_endLoop (P:=P) hl (by rw [hrec];simp);rw [hrec] at this;exact this,hdone _ xs _ (Nat.le_refl _) hS (hI.putObj _ hi (by omega) hl rfl) ((World.putObj_heap_other (by omega)).trans hk)⟩
    · exact ⟨some c,_,by have:=run_endLoop (P:=P) hl (by rw [hrec];simp);rw [hrec] at this;exact this,hstop _ c pre _ (Nat.le_refl _) hSp ((hIx c).putObj _ hi (by omega) hl rfl) ((World.putObj_heap_other (by omega)).trans hk)⟩
end Go.Proofs.YtfgacmgjpikgaaaGreatDoor
namespace Go.Proofs.YtfgacmgjpikgaaaGreatDoor
open Go.RowKit Go.Shelf
attribute [local go_sem] Oper.semAt_some
theorem infoBool:(Tryz.prog.info? 4).map (fun i=>(i.zero,i.size,i.bytes))=some (some (.bool false),1,1):=by kernel_rfl
theorem madeOne (z:Value) (hz:z.cells=#[z]) (k:Nat):madeCells z.cells k=(List.replicate k z).toArray:=by
 apply Array.ext
 ·
  rw [size_madeCells];simp
 ·
  intro i h1 h2
  simp [madeCells,hz,Nat.mod_one]
theorem wpListIn_make_rep {F:Fence} {nF:Nat} {P:Program} (w:World) {ops:Array Oper} {rest:List Oper} {o:Oper} {a:Act} {Q:Exit→Act→World→Prop}
  (hg:o.guard=none) (l c:Operand) (t:TypeId) (hop:o.op=Op.makeSlice t l c)
  (e:TypeId) (i:TypeInfo) (z:Value) (h1:P.underlying t=some (.slice e)) (h2:P.info? e=some i) (h3:i.zero=some z) (h4:i.size=1) (hz:z.cells=#[z])
  (n:Nat) (hl:a.eval l=.int .i64 (n:Int)) (hc:a.eval c=.int .i64 (n:Int)) (b2:i.bytes*n≤281474976710656) (b3:n≤1000000)
  (hK:wpListIn F nF P ops Q rest (a.put o.dst (.slice (some ⟨w.heap.size,0,none⟩) n n)) (w.alloc (.cells (List.replicate n z).toArray e))) :
  wpListIn F nF P ops Q (o :: rest) a w:=by
 have hb':(i.bytes:Int)*(n:Int)≤281474976710656:=by
  have h:((i.bytes*n:Nat):Int)≤281474976710656:=by omega
  rwa [Int.natCast_mul] at h
 have hr:=run_make (P:=P) w t e i z h1 h2 h3 .i64 .i64 n n (by omega) (Int.le_refl _) hb' (by omega)
 simp only [Int.toNat_natCast,h4,Nat.mul_one,madeOne z hz] at hr
 refine wpListIn_plain hg fun K hK'=>?_
 unfold Oper.wpIn
 refine ⟨by simp [Oper.about,hop],?_⟩
 rw [Oper.semAt_plain F _ _ (by rw [hop];intro c hc';cases hc')]
 simp [execOp,hop,hl,hc,hr,Result.andThen]
 exact hK' _ _ hK
def RdX (B X:Nat) (w:World) (A:Option Addr) (n:Nat) (xs:List Int):Prop:=
 xs.length=n∧(0 < n→∃ b o,A=some ⟨b,o,none⟩∧b < B∧b≠X∧some b≠ownX X w∧∀ j x,xs[j]?=some x→w.cell? ⟨b,o+j,none⟩=some (.int .i64 x))
theorem RdX.at_ {B X:Nat} {w:World} {A:Option Addr} {n:Nat} {xs:List Int} (h:RdX B X w A n xs) {j:Nat} {x:Int} (hx:xs[j]?=some x):∃ b o,A=some ⟨b,o,none⟩∧b < B∧b≠X∧some b≠ownX X w∧w.cell? ⟨b,o+j,none⟩=some (.int .i64 x):=by
 obtain ⟨b,o,h1,h2,h3,h4,h5⟩:=h.2 (by have:=(List.getElem?_eq_some_iff.1 hx).1;have:=h.1;omega)
 exact ⟨b,o,h1,h2,h3,h4,h5 j x hx⟩
theorem RdX.of_rd {B B' X:Nat} {w:World} {A:Option Addr} {n:Nat} {xs:List Int} (h:Rd w B A n (i64s xs)) (hB:B≤X) (hB':B≤B') (hO:∀ g,ownX X w=some g→B≤g):RdX B' X w A n xs:=by
 refine ⟨h.ilen,fun hn=>?_⟩
 obtain ⟨b,o,h1,h2,h3⟩:=h.2 hn
 exact ⟨b,o,h1,by omega,by omega,fun e=>by have:=hO b e.symm;omega,fun j x hx=>h3 j _ (by rw [List.getElem?_map,hx];rfl)⟩
theorem own_after {base X:Nat} {W W':World} (h:KeepX base X W W') {b:Nat} (hb:b < W.heap.size) (hO:some b≠ownX X W):some b≠ownX X W':=by
 rcases h.own with e | ⟨g,e,hg⟩
 ·
  rw [e];exact hO
 ·
  rw [e];intro e';injection e' with e';omega
theorem RdX.keep {B X base:Nat} {w w':World} {A:Option Addr} {n:Nat} {xs:List Int} (h:RdX B X w A n xs) (hk:KeepX base X w w') (hB:B≤w.heap.size):RdX B X w' A n xs:=
 ⟨h.1,fun hn=>by
  obtain ⟨b,o,h1,h2,h3,h4,h5⟩:=h.2 hn
  exact ⟨b,o,h1,h2,h3,own_after hk (by omega) h4,fun j x hx=>hk.cell (h5 j x hx) h3 h4⟩⟩
theorem RdX.low {B X:Nat} {w w':World} {A:Option Addr} {n:Nat} {xs:List Int} (h:RdX B X w A n xs) (hb:Below B w w') (hX:X < B):RdX B X w' A n xs:=by
 have e:ownX X w'=ownX X w:=ownX_eq (hb.cell (p:=⟨X,0,none⟩) hX)
 exact ⟨h.1,fun hn=>by
  obtain ⟨b,o,h1,h2,h3,h4,h5⟩:=h.2 hn
  exact ⟨b,o,h1,h2,h3,by rw [e];exact h4,fun j x hx=>(hb.cell (p:=⟨b,o+j,none⟩) h2).trans (h5 j x hx)⟩⟩
structure SrW (base n₀ X gF:Nat) (W0 w:World) (F:List Bool) (v:Value) (m:Nat) (W:List Int):Prop where
 low:Below base W0 w
 fnd:w.heap[gF]?=some (.cells (F.map Value.bool).toArray 4 (0,0))
 own:w.ownsRow (gF+1) 3 1 v m (i64s W)
 ox:∀ g,ownX X w=some g→n₀≤g∧g < w.heap.size∧g≠gF∧v.ownBlock≠some g
section
variable {base n₀ X gF:Nat} {W0 w w':World} {F:List Bool} {v:Value} {m:Nat} {W:List Int}
theorem SrW.lt (h:SrW base n₀ X gF W0 w F v m W):gF < w.heap.size:=(Array.getElem?_eq_some_iff.1 h.fnd).1
theorem SrW.keep (h:SrW base n₀ X gF W0 w F v m W) (hk:KeepX base X w w') (hn:n₀≤gF) (hX:X < n₀):SrW base n₀ X gF W0 w' F v m W:=by
 have hl:=h.lt
 have hO:some gF≠ownX X w:=fun e=>(h.ox gF e.symm).2.2.1 rfl
 refine ⟨h.low.trans hk.low,hk.cells gF _ _ _ h.fnd (by omega) hO,⟨h.own.1,?_⟩,fun g hg=>?_⟩
 ·
  rcases h.own.2 with hv | ⟨g,cap,cur,e,hb,hgg,rest⟩
  ·
   exact .inl hv
  ·
   refine .inr ⟨g,cap,cur,e,hb,hk.cells g _ _ _ hgg (by omega) (fun e2=>?_),rest⟩
   exact (h.ox g e2.symm).2.2.2 (by rw [e];rfl)
 ·
  have hf:=hk.fits (fun g hg=>(h.ox g hg).2.1) g hg
  rcases hk.own with e | ⟨g',e,hg'⟩
  ·
   rw [e] at hg
   have:=h.ox g hg
   exact ⟨this.1,hf,this.2.2⟩
  ·
   rw [e] at hg
   injection hg with hg
   subst hg
   exact ⟨by omega,hf,by omega,fun e2=>by have:=(h.own.lt g' e2).2;omega⟩
theorem SrW.cell (h:SrW base n₀ X gF W0 w F v m W) {i:Nat} {b:Bool} (hb:F[i]?=some b):w.cell? ⟨gF,i,none⟩=some (.bool b)∧w.frozen? ⟨gF,i,none⟩=false:=
 ⟨(cell_of_row w gF i _ _ (0,0) h.fnd).trans (by simp [hb]),by simp [World.frozen?,h.fnd]⟩
theorem SrW.mark (h:SrW base n₀ X gF W0 w F v m W) (hn:n₀≤gF) (hX:X < n₀) (hb:base≤n₀) (i:Nat):SrW base n₀ X gF W0 (w.setCell ⟨gF,i,none⟩ (.bool true)) (F.set i true) v m W∧ItX n₀ X w (w.setCell ⟨gF,i,none⟩ (.bool true)):=by
 have hl:=h.lt
 have hs:(w.setCell ⟨gF,i,none⟩ (.bool true)).heap.size=w.heap.size:=by simp [World.setCell]
 have hother:∀ k,k≠gF→(w.setCell ⟨gF,i,none⟩ (.bool true)).heap[k]?=w.heap[k]?:=fun k hk=>Below.heap_setCell w ⟨gF,i,none⟩ _ k hk
 have e:ownX X (w.setCell ⟨gF,i,none⟩ (.bool true))=ownX X w:=ownX_eq (World.cell?_of_block (w:=w) (a:=⟨X,0,none⟩) (hother X (by omega)))
 refine ⟨⟨h.low.setCell (p:=⟨gF,i,none⟩) (Nat.le_trans hb hn) _,?_,⟨h.own.1,?_⟩,fun g hg=>?_⟩,(Below.refl n₀ w).setCell (p:=⟨gF,i,none⟩) hn _,fun g hg _=>hother g (h.ox g hg).2.2.1⟩
 ·
  have hh:(w.setCell ⟨gF,i,none⟩ (.bool true)).heap[gF]?=some (.cells ((F.map Value.bool).toArray.setIfInBounds i (.bool true)) 4 (0,0)):=by simp [World.setCell,Array.getElem?_modify,h.fnd]
  rw [hh]
  congr 2
  apply Array.ext'
  simp [List.map_set]
 ·
  rcases h.own.2 with hv | ⟨g,cap,cur,e,hb,hgg,rest⟩
  ·
   exact .inl hv
  ·
   exact .inr ⟨g,cap,cur,e,hb,(hother g (by omega)).trans hgg,rest⟩
 ·
  rw [e] at hg
  rw [hs]
  exact h.ox g hg
theorem SrW.alloc (h:SrW base n₀ X gF W0 w F v m W) (hX:X < w.heap.size) (hbl:Below w.heap.size w w') (hb:base≤w.heap.size):SrW base n₀ X gF W0 w' F v m W:=by
 have e:ownX X w'=ownX X w:=ownX_eq (hbl.cell (p:=⟨X,0,none⟩) hX)
 refine ⟨h.low.trans (hbl.mono hb),(hbl.block _ h.lt).trans h.fnd,ownsRow_below h.own hbl,fun g hg=>?_⟩
 rw [e] at hg
 have:=h.ox g hg
 exact ⟨this.1,Nat.lt_of_lt_of_le this.2.1 hbl.size,this.2.2⟩
theorem SrW.app (h:SrW base n₀ X gF W0 w F v m W) (hn:n₀≤gF) (hX:X < n₀) (hb:base≤n₀) {v':Value} {m':Nat} {ys:List Int} (hown:w'.ownsRow (gF+1) 3 1 v' m' (i64s ys)) (hg:w.grownBy w' v.ownBlock) (hat:v'.ownBlock=v.ownBlock∨v'.ownBlock=some w.heap.size) :
  SrW base n₀ X gF W0 w' F v' m' ys∧ItX n₀ X w w':=by
 have hl:=h.lt
 have hob:∀ k,v.ownBlock=some k→gF+1≤k:=fun k hk=>(h.own.lt k hk).1
 have e:ownX X w'=ownX X w:=ownX_eq (World.cell?_of_block (w:=w) (a:=⟨X,0,none⟩) (hg.block X (by omega) (fun e=>by have:=hob X e.symm;omega)))
 refine ⟨⟨h.low.grown hg (by omega) (fun k hk=>by have:=hob k hk;omega),(hg.block gF hl (fun e=>by have:=hob gF e.symm;omega)).trans h.fnd,hown,fun g hg'=>?_⟩,ItX.of_grown hg (by omega) fun k hk=>⟨by have:=hob k hk;omega,fun e2=>(h.ox k e2.symm).2.2.2 hk⟩⟩
 rw [e] at hg'
 have h1:=h.ox g hg'
 refine ⟨h1.1,Nat.lt_of_lt_of_le h1.2.1 hg.size,h1.2.2.1,fun e2=>?_⟩
 rcases hat with e3 | e3
 ·
  exact h1.2.2.2 (e3 ▸ e2)
 ·
  rw [e3] at e2
  injection e2 with e2
  omega
end
theorem ownsRow_pop {w:World} {base g n cap:Nat} {e:TypeId} {xs:List Value} {x:Value} (h:w.ownsRow base e 1 (.slice (some ⟨g,0,none⟩) (n+1) cap) (n+1) (xs++[x])):w.ownsRow base e 1 (.slice (some ⟨g,0,none⟩) n cap) n xs:=by
 have hl:xs.length=n:=by have:=h.1;simp at this;omega
 rcases h.2 with ⟨h0,_⟩ | ⟨g',cap',cur,e0,hb,hg,h1,h2,h3,h4⟩
 ·
  cases h0
 ·
  injection e0 with e1 e2 e3
  injection e1 with e1
  injection e1 with e1
  subst e1 e3
  refine ⟨by simp [hl],.inr ⟨g,cap,cur,rfl,hb,hg,by omega,h2,h3,?_⟩⟩
  have h5:=congrArg (List.take n) h4
  rw [List.take_take,List.take_append_of_le_length (by omega),← hl,List.take_length] at h5
  rw [←h5,hl]
  congr 1
  omega
end Go.Proofs.YtfgacmgjpikgaaaGreatDoor
namespace Go.Proofs.YtfgacmgjpikgaaaGreatDoor
open Go.RowKit Go.Shelf
attribute [local go_sem] Oper.semAt_some
theorem i64app2 {w:World} {base n:Nat} {e:TypeId} {v:Value} {xs ys:List Int} (h:w.ownsRow base e 1 v n (i64s xs++i64s ys)):w.ownsRow base e 1 v n (i64s (xs++ys)):=by rw [←List.map_append] at h;exact h
def RoundX (base X N l:Nat) (J Jx:List Int→World→Prop):Prop:=∀ m pre x W1,J pre W1→pre.length < N→YieldAt Fence.wide m Tryz.prog l #[.int .i64 x] W1 fun e W'=>
   (e=.returned (.bool true)∧J (pre++[x]) W'∧KeepX base X W1 W')∨(e=.returned (.bool false)∧Jx (pre++[x]) W')
theorem snoc_of {α:Type}:∀ {L:List α} {n:Nat},L.length=n+1→∃ M x,L=M++[x]∧M.length=n:=by
 intro L n h
 refine ⟨L.take n,L[n]'(by omega),?_,by rw [List.length_take];omega⟩
 have:=List.take_append_getElem (show n < L.length by omega)
 rw [this,← h,List.take_length]
theorem search_in (m l base X n₀ N:Nat) (J Jx:List Int→World→Prop) (hJ:∀ s A B,J s A→ItX n₀ X A B→J s B) (hY:RoundX base X N l J Jx)
  (r:Nat) (ps:List Pr) (rg:Int) (A1:Option Addr) (nD cD:Nat) (D:List Int) (A2:Option Addr) (c2:Nat) (L:List RowW) (W0:World) (hR:RelW W0 base r ps rg A1 nD cD D A2 c2 L)
  (hbn:base≤n₀) (hbX:base≤X) (hXn:X < n₀) (hn:n₀≤W0.heap.size) (G:Int→Prop) (hG:∀ a b,(a,b)∈ps→G b→G a)
  (A:Option Addr) (n c:Nat) (S:List Int) (hS:RdX W0.heap.size X W0 A n S) (hnn:n≤140737488355327) (hSg:∀ x∈S,(0≤x∧x < (D.length:Int))∧∀ a,D[x.toNat]?=some a→G a)
  (pre0:List Int) (h0:J pre0 W0) (hO:∀ g,ownX X W0=some g→n₀≤g∧g < W0.heap.size) (hN:pre0.length+nD≤N) :
  CallsIn Fence.wide m Tryz.prog 141 #[.pointer (some ⟨r,0,none⟩),.slice A n c,.func (.yield l) #[] #[]] W0 fun e W'=>(∃ v,e=.returned v) ∧
   ((∃ ys:List Int,(∀ a∈ys,G a)∧(∀ s∈S,∀ b,D[s.toNat]?=some b→∀ a,Way ps a b→a∈ys)∧J (pre0++ys) W')∨(∃ ys:List Int,(∀ a∈ys,G a)∧Jx (pre0++ys) W')):=by
 obtain ⟨i0,hi,hz0,hz1,hz2⟩:=info_parts infoInt
 obtain ⟨i1,hi1,hy0,hy1,hy2⟩:=info_parts infoBool
 have HR:=hide hR
 have hDl:D.length=nD:=hR.dec.ilen
 have hfew:=hR.few
 have HJ:=hide hJ
 have HYY:=hide hY
 have HG:=hide hG
 have hc1:=hR.d1
 have hrl:r < W0.heap.size:=Nat.lt_of_lt_of_le hR.lt (by omega)
 have HS0:=hide hS
 have HSr:=hide (Sr.begin (ab:=L.map RowW.xs) hSg)
 rw [hDl] at HSr
 have hA0:Below W0.heap.size W0 (W0.alloc (.cells (Array.replicate nD (.bool false)) 4)):=(Below.refl _ _).alloc (Nat.le_refl _) _
 have HJ0:=hide (hJ _ _ _ h0 (ItX.of_below hA0 hn))
 have HW0:=hide (show SrW base n₀ X W0.heap.size W0 (W0.alloc (.cells (Array.replicate nD (.bool false)) 4)) (List.replicate nD false) (.slice none 0 0) 0 [] from
  ⟨(Below.refl base W0).alloc (by omega) _,by rw [heap_alloc_new];simp,World.ownsRow_nil _ _ _ _,fun g hg=>by
   have e:ownX X (W0.alloc (.cells (Array.replicate nD (.bool false)) 4))=ownX X W0:=ownX_eq (hA0.cell (p:=⟨X,0,none⟩) (show X < W0.heap.size by omega))
   rw [e] at hg
   have:=hO g hg
   exact ⟨this.1,by simp;omega,by omega,fun e=>by cases e⟩⟩)
 have HS1:=hide (hS.low hA0 (by omega))
 clear hJ hY hG hS hSg h0 hO hR hA0
 refine callsIn_of_wp Tryz.func141 rfl trivial ?_ rfl
 simp only [Tryz.ntmps141,List.size_toArray,List.length_cons,List.length_nil,Nat.reduceAdd,Nat.reduceSub,Array.replicate_succ,Array.replicate_zero,List.push_toArray,List.append_toArray,List.nil_append,List.cons_append]
 refine wpIn_wide.2 (wp_scope_straight ((wpIn_wide (n:=m)).1 ?_))
 gi_wp2_with (gi_at_make;refine wpListIn_make_rep _ rfl _ _ _ rfl 4 i1 _ Tryz.underlying179 hi1 hy0 hy1 rfl nD rfl rfl (by rw [hy2];omega) (by omega) ?_)
 apply wpIn_label
 gi_wp2
 have hgw:W0.heap.size < (W0.alloc (.cells (Array.replicate nD (.bool false)) 4)).heap.size:=by rw [World.size_alloc];omega
 generalize W0.alloc (.cells (Array.replicate nD (.bool false)) 4)=w1 at *
 have hex:∃ gF,gF=W0.heap.size:=⟨_,rfl⟩
 obtain ⟨gF,hgF⟩:=hex
 rw [←hgF] at HW0 HS1 hn hrl hgw ⊢
 clear hgF
 gi_loopg [1,7] (2*nD) (fun g v1 v7 wr=>∃ (A:Option Addr) (n c:Nat) (Ix:List Int) (F:List Bool) (W:List Int) (ys:List Int) (m2:Nat),v1=.slice A n c∧n≤140737488355327∧Hid (RdX gF X wr A n Ix)∧Hid (SrW base n₀ X gF W0 wr F v7 m2 W)∧Hid (Sr D (L.map RowW.xs) G S Ix W F ys)∧Hid (ys.length+left_ F=nD)∧Hid (2*left_ F+m2≤g)∧Hid (g≤2*nD)∧Hid (J (pre0++ys) wr))
 case atStart=>
  have hleft:left_ (List.replicate nD false)=nD:=by unfold left_;rw [List.countP_replicate];simp
  exact ⟨A,n,c,S,_,[],[],0,rfl,hnn,HS1.out,HW0.out,HSr.out,(show _=_ by rw [hleft];simp),(show _≤_ by rw [hleft];omega),(show _≤_ by omega),(show J (pre0++[]) _ by rw [List.append_nil];exact HJ0.out)⟩
 case round=>
  obtain ⟨A,n,c,Ix,F,W,ys,m2,rfl,hnn,HRd,HSW,HSS,HC,HM,HGK,HJ1⟩:=hrel
  gi_wp2
  gi_loopw [7,19] (fun v7 i wr=>∃ (k:Nat) (F:List Bool) (W:List Int) (ys:List Int) (m2:Nat),i=.int .i64 (k:Int)∧k≤n∧Hid (RdX gF X wr A n Ix)∧Hid (SrW base n₀ X gF W0 wr F v7 m2 W)∧Hid (Sr D (L.map RowW.xs) G S (Ix.drop k) W F ys)∧Hid (ys.length+left_ F=nD)∧Hid (2*left_ F+m2≤gk)∧Hid (J (pre0++ys) wr)) (fun _ i _=>n - (intOf i).toNat)
  case atStart=>exact ⟨0,F,W,ys,m2,rfl,Nat.zero_le _,HRd.out,HSW.out,HSS.out,HC.out,HM.out,HJ1.out⟩
  case round=>
   clear HRd HSW HSS HC HM HJ1
   obtain ⟨k,F,W,ys,m2,rfl,hk,HRd,HSW,HSS,HC,HM,HJ1⟩:=hrel
   have hgr:=HSW.out.lt
   by_cases hlt:k < n
   ·
    have hex:∃ x,Ix[k]?=some x:=⟨_,List.getElem?_eq_getElem (by have:=HRd.out.1;omega)⟩
    obtain ⟨x,hx⟩:=hex
    have hlt':(k:Int) < (n:Int):=by omega
    have hdrop:Ix.drop k=x :: Ix.drop (k+1):=by
     have hkl:=(List.getElem?_eq_some_iff.1 hx).1
     rw [List.drop_eq_getElem_cons hkl]
     rw [List.getElem?_eq_getElem hkl] at hx
     injection hx with hx
     rw [hx]
    have HS2:=HSS
    rw [hdrop] at HS2
    obtain ⟨⟨hx0,hx1⟩,_⟩:=HS2.out.ix x (by simp)
    obtain ⟨i,rfl⟩:=Int.eq_ofNat_of_zero_le hx0
    have hiD:i < nD:=by omega
    have hex:∃ fb,F[i]?=some fb:=⟨_,List.getElem?_eq_getElem (by have:=HSW.out;have:=HSS.out.len;omega)⟩
    obtain ⟨fb,hfb⟩:=hex
    obtain ⟨b,o,rfl,hbg,hbX,hbO,c0⟩:=HRd.out.at_ hx
    obtain ⟨f0,f1⟩:=HSW.out.cell hfb
    have hi0:(0:Int)≤(i:Int):=Int.natCast_nonneg _
    have hiD':(i:Int) < (nD:Int):=by omega
    cases fb
    ·
     have hex:∃ a,D[i]?=some a:=⟨_,List.getElem?_eq_getElem (by omega)⟩
     obtain ⟨a,ha⟩:=hex
     obtain ⟨hm1,hm2⟩:=HSW.out.mark hn hXn hbn i
     have hlo2:Below gF wr (wr.setCell ⟨gF,i,none⟩ (.bool true)):=(Below.refl gF wr).setCell (p:=⟨gF,i,none⟩) (Nat.le_refl _) _
     have hRd2:=HRd.out.low hlo2 (by omega)
     obtain ⟨bD,oD,rfl,hbD,dD⟩:=(HR.out.below hm1.low).dec.int ha
     have d1:=(HR.out.below hm1.low).d1
     have hleft:=left_set hfb
     have HS3:=hide (show Sr D (L.map RowW.xs) G S (Ix.drop (k+1)) (W++[(i:Int)]) (F.set i true) (ys++[a]) from by have h:=HS2.out.take (a:=a) (by rw [Int.toNat_natCast];exact ha);rw [Int.toNat_natCast] at h;exact h)
     have HC3:=hide (show (ys++[a]).length+left_ (F.set i true)=nD by rw [List.length_append,List.length_singleton];have:=HC.out;omega)
     have HM3:=hide (show 2*left_ (F.set i true)+(m2+1)≤gk by have:=HM.out;omega)
     have hm2D:m2≤400000:=by
      have h2:=HM.out
      have:=HGK.out
      omega
     obtain ⟨fn,tmps,assign,body,hy,hRR⟩:=HYY.out (m - 1) (pre0++ys) a _ (HJ.out _ _ _ HJ1.out hm2) (by rw [List.length_append];have:=HC.out;omega)
     have HW2:=hide hm1
     have HRd2:=hide hRd2
     clear hx hdrop HS2 hfb hm1 hm2 hlo2 hRd2 ha hleft HSS HC HM HJ1 HRd HSW
     gi_wp2
     refine ⟨fun h=>(by cases h),hRR.mono ?_⟩
     rintro e W3 (⟨rfl,hJ3,hk3⟩ | ⟨rfl,hJx3⟩)
     ·
      have HW3:=hide (HW2.out.keep hk3 hn hXn)
      have HRd3:=hide (HRd2.out.keep hk3 (by simp [World.setCell];omega))
      have HJ3:=hide hJ3
      clear hJ3 hk3 hRR hy f0 f1 d1 dD c0
      have hg3:=HW3.out.lt
      gi_wp2_with (gi_at_builtin;go_must (refine wpListIn_append_own_at _ rfl _ _ 48 rfl (gF+1) 3 i0 (.int .i64 0) 1 8 Tryz.underlying48 hi hz0 hz1 hz2 rfl (by decide) _ m2 _ rfl (HW3.out.own.alloc _) ⟨W3.heap.size,0,none⟩ 1 1 (i64s [(i:Int)]) rfl rfl (cell_int2 W3 (i:Int) 3) (ints_oneCell _ _) (by unfold maxLen;omega) (by omega) (by rw [World.size_alloc];omega) ?_;intro v5 w5 hown5 hg5 _ hat5;have hal:=(Below.refl W3.heap.size W3).alloc (Nat.le_refl _) (.cells #[.int .i64 (i:Int)] 3);have HWa:=HW3.out.alloc (by omega) hal (by omega);have happ:=HWa.app hn hXn hbn (i64app2 hown5) hg5 hat5;have HW5:=hide happ.1;have HJ5:=hide (HJ.out _ _ _ (HJ.out _ _ _ HJ3.out (ItX.of_below hal (by omega))) happ.2);have HRd5:=hide ((HRd3.out.low (hal.mono (by omega:gF≤W3.heap.size)) (by omega)).low ((Below.refl gF _).grown hg5 (by rw [World.size_alloc];omega) (fun k hk=>by have:=(HWa.own.lt k hk).1;omega)) (by omega));clear hown5 hg5 hat5 hal HWa happ))
      exact ⟨⟨k+1,F.set i true,W++[(i:Int)],ys++[a],m2+1,by go_num,by omega,HRd5.out,HW5.out,HS3.out,HC3.out,HM3.out,(show J (pre0++(ys++[a])) w5 by rw [←List.append_assoc];exact HJ5.out)⟩,by simp [intOf];omega⟩
     ·
      have HJx3:=hide hJx3
      clear hJx3 hRR hy f0 f1 d1 dD c0
      gi_wp2
      rw [Exit.noGoto_normal]
      go_end0
      exact ⟨⟨_,rfl⟩,.inr ⟨ys++[a],HS3.out.good,(by rw [←List.append_assoc];exact HJx3.out)⟩⟩
    ·
     have HS3:=hide (HS2.out.skip (show Fnd F (i:Int) from by unfold Fnd;rw [Int.toNat_natCast];exact hfb))
     clear hx hdrop HS2 hfb
     gi_wp2
     exact ⟨⟨k+1,F,W,ys,m2,by go_num,by omega,HRd.out,HSW.out,HS3.out,HC.out,HM.out,HJ1.out⟩,by simp [intOf];omega⟩
   ·
    have e:k=n:=by omega
    have hlt':¬(k:Int) < (n:Int):=by omega
    have HS2:=HSS
    rw [List.drop_of_length_le (by have:=HRd.out.1;omega)] at HS2
    obtain ⟨A7,c7,rfl,hmc,hcm⟩:=ownsRow_shape3 HSW.out.own
    have hWl:W.length=m2:=by have:=HSW.out.own.1;simpa using this
    have hm2D:m2≤400000:=by
     have h2:=HM.out
     have:=HGK.out
     omega
    unfold maxLen at hcm
    rcases Nat.eq_zero_or_pos m2 with h0 | h0
    ·
     subst h0
     have e0:W=[]:=List.eq_nil_of_length_eq_zero hWl
     subst e0
     have HE:=hide (show ∀ s∈S,∀ b,D[s.toNat]?=some b→∀ a,Way ps a b→a∈ys from fun s hs b hb a ha=>HS2.out.end_ HR.out.rel hs hb ha)
     have HSE:=hide HS2.out.good
     clear HSS HS2 hWl
     gi_wp2
     go_end0
     exact ⟨⟨_,rfl⟩,.inl ⟨ys,HSE.out,HE.out,HJ1.out⟩⟩
    ·
     obtain ⟨m3,rfl⟩:∃ m3,m2=m3+1:=⟨m2 - 1,by omega⟩
     obtain ⟨W3,x,rfl,hW3⟩:=snoc_of hWl
     obtain ⟨hfx,hx0⟩:=HS2.out.wait x (by simp)
     obtain ⟨i,rfl⟩:=Int.eq_ofNat_of_zero_le hx0
     have hiD:i < nD:=by
      unfold Fnd at hfx
      have h1:=(List.getElem?_eq_some_iff.1 hfx).1
      have h2:=HS2.out.len
      rw [Int.toNat_natCast] at h1
      omega
     have hex:∃ z,L[i]?=some z:=⟨_,List.getElem?_eq_getElem (by have h1:=HR.out.above.len;rw [List.length_map] at h1;omega)⟩
     obtain ⟨z,hz⟩:=hex
     have hex:∃ y,D[i]?=some y:=⟨_,List.getElem?_eq_getElem (by omega)⟩
     obtain ⟨y,hy⟩:=hex
     have hzx:(L.map RowW.xs)[i]?=some z.xs:=by rw [List.getElem?_map,hz];rfl
     have hGy:G y:=HS2.out.good y ((HS2.out.come y).2 ⟨i,by unfold Fnd at hfx;rw [Int.toNat_natCast] at hfx;exact hfx,hy⟩)
     have HS3:=hide (HS2.out.pop (x:=(i:Int)) (xs:=z.xs) (by rw [Int.toNat_natCast];exact hzx) (fun t ht=>HR.out.rel.rng i z.xs hzx t ht) (fun t ht a ha=>by
      obtain ⟨h0,h1⟩:=HR.out.rel.rng i z.xs hzx t ht
      obtain ⟨q,rfl⟩:=Int.eq_ofNat_of_zero_le h0
      rw [Int.toNat_natCast] at ha
      exact HG.out a y ((HR.out.rel.ab i z.xs y hzx hy q a ha).1 ht) hGy))
     obtain ⟨hz1,hz2,hz3⟩:=(HR.out.below HSW.out.low).rows z (List.mem_of_getElem? hz)
     have HRz:=hide (RdX.of_rd hz1 hbX (by omega:base≤gF) (fun g hg=>by have:=(HSW.out.ox g hg).1;omega))
     obtain ⟨bL,oL,rfl,hbL,dL⟩:=(HR.out.below HSW.out.low).above.cell (k:=i) (u:=rowV z) (by rw [List.getElem?_map,hz];rfl)
     have d2:=(HR.out.below HSW.out.low).d2
     obtain ⟨g7,cap7,hv7,hg7,hg7l⟩:=HSW.out.own.form (by omega)
     obtain ⟨rfl,rfl⟩:A7=some ⟨g7,0,none⟩∧c7=cap7:=by injection hv7 with h1 h2 h3;exact ⟨h1,h3⟩
     have dW:wr.cell? ⟨g7,m3,none⟩=some (.int .i64 (i:Int)):=by
      obtain ⟨b,o,e,_,h⟩:=(Rd.of_own HSW.out.own).int (k:=m3) (x:=(i:Int)) (by rw [List.getElem?_append_right (by omega),hW3,Nat.sub_self];rfl)
      injection e with e
      injection e with e1 e2
      subst e1 e2
      rw [Nat.zero_add] at h
      exact h
     have e7:i64s (W3++[(i:Int)])=i64s W3++[.int .i64 (i:Int)]:=List.map_append
     have h7:=HSW.out.own
     rw [e7] at h7
     have HO3:=hide (ownsRow_pop h7)
     clear h7 e7
     have HSW3:=hide (show SrW base n₀ X gF W0 wr F (.slice (some ⟨g7,0,none⟩) m3 c7) m3 W3 from ⟨HSW.out.low,HSW.out.fnd,HO3.out,HSW.out.ox⟩)
     have hi0:(0:Int)≤(i:Int):=Int.natCast_nonneg _
     have hiD':(i:Int) < (nD:Int):=by omega
     have hm0:(0:Int)≤(m3:Int):=Int.natCast_nonneg _
     have hm1:(m3:Int)≤(m3:Int)+1:=by omega
     obtain ⟨zxs,zA,zn,zc⟩:=z
     simp only [rowV] at dL
     clear HSS HS2 hWl hfx hz hy hzx hGy hz1 hx0 HSW HO3 hv7 hW3
     gi_wp2
     gi_quiet (fail)
     gi_wp2
     have hq:=tyN (Below.refl wr.heap.size wr) nq
     have hgr2:=HSW3.out.lt
     have HSW4:=hide (HSW3.out.alloc (by omega) hq (by omega))
     have HRz4:=hide (HRz.out.low (hq.mono (by omega:gF≤wr.heap.size)) (by omega))
     have HJ4:=hide (HJ.out _ _ _ HJ1.out (ItX.of_below hq (by omega)))
     gi_roundg (2*left_ F+m3)
     case rel=>exact ⟨zA,zn,zc,zxs,F,W3,ys,m3,rfl,hz3,HRz4.out,HSW4.out,HS3.out,HC.out,Nat.le_refl _,(show _≤_ by have:=HM.out;have:=HGK.out;omega),HJ4.out⟩
     case measure=>have:=HM.out;omega
end Go.Proofs.YtfgacmgjpikgaaaGreatDoor
