/- Part 9 of the contracts and their mathematics. -/
import Derived.Test.YtfgacmgjpikgaaaGreatDoorQ7
import Derived.RangeFuncNested
import Derived.RangeFuncBound
import Derived.RangeFuncCalls
import Derived.RangeFuncLeaves
import Derived.RangeFuncWrites
import Derived.Deep.RegionHeld3
import Derived.OwnWalkIn
import Derived.OrdersIn
import Derived.Shelf.Abstract
import Derived.TacticsInMore
import Derived.LoopNIn
import Derived.LoopIn
import Derived.Sort.QuietIn
import Derived.Stop.RegionWithIn
set_option linter.unusedVariables false
set_option linter.unusedSimpArgs false
set_option maxRecDepth 100000
set_option maxHeartbeats 4000000
namespace Go.Proofs.YtfgacmgjpikgaaaGreatDoor
open Go.RowKit
def KeepT (n₀:Nat) (Ts:List TypeId) (W W':World):Prop:=Below n₀ W W'∧∀ (t:TypeId) (B:Nat) (cs:Array Value) (fr:Nat×Nat),t∈Ts→W.heap[B]?=some (.cells cs t fr)→W'.heap[B]?=some (.cells cs t fr)
section
variable {n₀:Nat} {Ts:List TypeId} {W W' W'':World}
theorem KeepT.refl (n₀:Nat) (Ts:List TypeId) (W:World):KeepT n₀ Ts W W:=⟨Below.refl _ _,fun _ _ _ _ _ h=>h⟩
theorem KeepT.trans (h:KeepT n₀ Ts W W') (k:KeepT n₀ Ts W' W''):KeepT n₀ Ts W W'':=⟨h.1.trans k.1,fun t B cs fr ht hB=>k.2 t B cs fr ht (h.2 t B cs fr ht hB)⟩
theorem KeepT.of_below (h:Below W.heap.size W W') (hn:n₀≤W.heap.size):KeepT n₀ Ts W W':=⟨h.mono hn,fun t B cs fr _ hB=>(h.block B (Array.getElem?_eq_some_iff.1 hB).1).trans hB⟩
theorem KeepT.grown {row:Option Nat} (hg:W.grownBy W' row) (hn:n₀≤W.heap.size) (hrow:∀ k,row=some k→n₀≤k∧∃ cs t fr,W.heap[k]?=some (.cells cs t fr)∧t∉Ts):KeepT n₀ Ts W W':=
 ⟨(Below.refl n₀ W).grown hg hn (fun k e=>(hrow k e).1),fun t B cs fr ht hB=>(hg.block B (Array.getElem?_eq_some_iff.1 hB).1 (fun e=>by
  obtain ⟨_,cs',t',fr',h1,h2⟩:=hrow B e.symm
  rw [hB] at h1
  injection h1 with h1
  injection h1 with _ h1 _
  exact h2 (h1 ▸ ht))).trans hB⟩
theorem KeepT.box {B:Nat} {t:TypeId} {v:Value} (h:Boxed W B t v) (hB:n₀≤B) (ht:t∉Ts) (v':Value):KeepT n₀ Ts W (W.setCell ⟨B,0,none⟩ v'):=
 KeepT.grown (grownBy_setCell' W B v') (Nat.le_trans hB (Nat.le_of_lt h.lt)) (fun k e=>by cases e;exact ⟨hB,_,_,_,h,ht⟩)
theorem KeepT.row {base k n:Nat} {e:TypeId} {v:Value} {xs:List Value} (hg:W.grownBy W' v.ownBlock) (hown:W.ownsRow base e k v n xs) (hb:n₀≤base) (hn:n₀≤W.heap.size) (ht:e∉Ts):KeepT n₀ Ts W W':=
 KeepT.grown hg hn (fun q hq=>by
  refine ⟨Nat.le_trans hb (hown.lt q hq).1,?_⟩
  rcases hown.2 with ⟨rfl,_⟩ | ⟨g,cap,cur,rfl,_,hgg,_⟩
  ·
   cases hq
  ·
   have:g=q:=by simpa [Value.ownBlock] using hq
   subst this
   exact ⟨_,_,_,hgg,ht⟩)
theorem keepT_b {w:World} (hn:n₀≤w.heap.size) (W:World) (l:Nat) (o o':Obj) (hl:w.heap.size≤l) (h:W.heap[l]?=some o) (hc:o.isCells=false) (hw:o.isWalk=false):KeepT n₀ Ts W (W.putObj l o'):=
 ⟨belowK_b hn W l o o' hl h hc hw,fun t B cs fr ht hB=>((grownBy_putObj' W l o').block B (Array.getElem?_eq_some_iff.1 hB).1 (fun e=>by
  injection e with e
  subst e
  rw [h] at hB
  injection hB with hB
  subst hB
  cases hc)).trans hB⟩
end
theorem grown_of_below {W W':World} (h:Below W.heap.size W W'):W.grownBy W' none:=⟨h.os,h.tape,h.output,h.size,fun k hk _=>h.block k hk⟩
theorem cell_of_heap {W:World} {B:Nat} {cs:Array Value} {t:TypeId} {fr:Nat×Nat} (h:W.heap[B]?=some (.cells cs t fr)) (j:Nat):W.cell? ⟨B,j,none⟩=cs[j]?:=cell_of_row W B j cs t fr h
section
variable {P:Program} {l n:Nat} {Q:Exit→Act→World→Prop}
theorem rows_in {row:String} {args:Array Value} {w:World} {R:Value→World→Prop} (h:Rows P row args w R):RowsIn (Fence.wide.inRound l) n P row args w R:=fun c cs _=>by
 obtain ⟨v,w',hR,hs⟩:=h c cs
 exact ⟨v,w',hR,stepsIn_wide.2 hs⟩
theorem oper_in {o:Oper} {a:Act} {w:World} {K:Act→World→Prop} (hnd:∀ c,o.op≠.defer c) (h:o.wp P a w K Q):o.wpIn (Fence.wide.inRound l) n P a w K Q:=by
 refine ⟨fun _ _=>trivial,?_⟩
 rw [Oper.semAt_plain _ _ _ hnd]
 unfold Oper.wp at h
 generalize (execOp a.eval o).run P w=r at *
 rcases r with ⟨x,w'⟩ | ⟨x,w'⟩
 ·
  cases x with
  | value v=>exact h
  | skip=>exact h
  | defer d=>exact h
  | enter f args=>exact ⟨(fun h'=>by cases h'),CallsIn.inRound l (callsIn_wide.2 h)⟩
  | row r args=>exact ⟨(fun h'=>by cases h'),rows_in h⟩
  | round l f tmps assign body=>exact (h:False).elim
  | _=>exact (h:False).elim
 ·
  cases x with
  | panic v=>exact h
  | _=>exact (h:False).elim
def noDefer (ops:Array Oper):Bool:=ops.all fun o=>match o.op with | .defer _=>false | _=>true
theorem noDefer_at {ops:Array Oper} (h:noDefer ops=true) {i:Nat} {o:Oper} (hi:ops[i]?=some o):∀ c,o.op≠.defer c:=by
 intro c hc
 unfold noDefer at h
 rw [Array.all_eq_true] at h
 obtain ⟨hlt,he⟩:=Array.getElem?_eq_some_iff.1 hi
 have:=h i hlt
 rw [he,hc] at this
 cases this
theorem wpAny_in {md:Region.Mode} {ops:Array Oper} (hnd:noDefer ops=true) (hq:¬LetsOut Q):∀ (fuel:Nat) (listed:Array Bool) (a:Act) (w:World),wpAny P md ops Q fuel listed a w→wpAnyIn (Fence.wide.inRound l) n P md ops Q fuel listed a w
 | 0,_,_,_,h=>h
 | fuel+1,listed,a,w,h=>⟨h.1,fun i hi=>by
  have h2:=h.2 i hi
  unfold wpOp at h2
  unfold wpOpIn
  rcases ho:ops[i]? with _ | o
  ·
   rw [ho] at h2
   exact wpAny_in hnd hq fuel _ _ _ h2
  ·
   rw [ho] at h2
   simp only [] at h2 ⊢
   split
   ·
    rename_i hw
    rw [if_pos hw] at h2
    rcases h2 with h2 | ⟨_,h2⟩
    ·
     exact oper_in (noDefer_at hnd ho) (Oper.wp_mono (fun a' w' h'=>wpAny_in hnd hq fuel _ a' w' h') h2)
    ·
     exact absurd h2 hq
   ·
    rename_i hw
    rw [if_neg hw] at h2
    exact ⟨fun _ _=>trivial,wpAny_in hnd hq fuel _ _ _ h2⟩⟩
theorem region_in {S:World→Prop} {id:Nat} {ops:Array Oper} {a:Act} {w:World} (hm:P.follows .mixedOrders=true) (hnd:noDefer ops=true) (hq:¬LetsOut Q) (hS:S w.drew)
  (h:S w.drew→wpAnyH P .any ops Q S ops.size (Array.replicate ops.size false) a w.drew):(Code.region id ops true).wpIn (Fence.wide.inRound l) n P Q a w:=
 wpIn_region_any hm (wpAny_in hnd hq _ _ _ _ (wpAny_of_held _ _ _ _ (h hS)))
end
end Go.Proofs.YtfgacmgjpikgaaaGreatDoor
namespace Go.Proofs.YtfgacmgjpikgaaaGreatDoor
open Go.RowKit Go.Shelf
attribute [local go_sem] Oper.semAt_some
structure KeepTX (n₀:Nat) (Ts:List TypeId) (X:Nat) (W W':World):Prop where
 low:Below n₀ W W'
 cells:∀ (t:TypeId) (B:Nat) (cs:Array Value) (fr:Nat×Nat),t∈Ts→B≠X→W.heap[B]?=some (.cells cs t fr)→W'.heap[B]?=some (.cells cs t fr)
section
variable {n₀ X:Nat} {Ts:List TypeId} {W W' W'':World}
theorem KeepTX.refl (n₀:Nat) (Ts:List TypeId) (X:Nat) (W:World):KeepTX n₀ Ts X W W:=⟨Below.refl _ _,fun _ _ _ _ _ _ h=>h⟩
theorem KeepTX.trans (h:KeepTX n₀ Ts X W W') (k:KeepTX n₀ Ts X W' W''):KeepTX n₀ Ts X W W'':=⟨h.low.trans k.low,fun t B cs fr ht hX hB=>k.cells t B cs fr ht hX (h.cells t B cs fr ht hX hB)⟩
theorem KeepTX.of_t (h:KeepT n₀ Ts W W'):KeepTX n₀ Ts X W W':=⟨h.1,fun t B cs fr ht _ hB=>h.2 t B cs fr ht hB⟩
theorem KeepTX.of_below (h:Below W.heap.size W W') (hn:n₀≤W.heap.size):KeepTX n₀ Ts X W W':=.of_t (.of_below h hn)
theorem KeepTX.boxX {t:TypeId} {v:Value} (h:Boxed W X t v) (hX:n₀≤X) (v':Value):KeepTX n₀ Ts X W (W.setCell ⟨X,0,none⟩ v'):=
 ⟨(Below.refl n₀ W).grown (grownBy_setCell' W X v') (Nat.le_trans hX (Nat.le_of_lt h.lt)) (fun k e=>by cases e;exact hX),fun t B cs fr ht hBX hB=>((grownBy_setCell' W X v').block B (Array.getElem?_eq_some_iff.1 hB).1 (fun e=>hBX (by injection e))).trans hB⟩
theorem keepTX_t {A B C:World} (h:KeepTX n₀ Ts X A B) (k:KeepTX n₀ Ts X B C):KeepTX n₀ Ts X A C:=h.trans k
theorem keepTX_b {w:World} (hn:n₀≤w.heap.size) (W:World) (l:Nat) (o o':Obj) (hl:w.heap.size≤l) (h:W.heap[l]?=some o) (hc:o.isCells=false) (hw:o.isWalk=false):KeepTX n₀ Ts X W (W.putObj l o'):=.of_t (keepT_b hn W l o o' hl h hc hw)
end
theorem abides_below8 {β:Type} {B:Nat} {J:β→World→Prop} (h:AbidesFrom B J) {s:β} {W W':World} (hs:J s W) (hb:Below W.heap.size W W'):J s W':=
 h s W W' none hs (grown_of_below hb) (fun r e=>by cases e)
def plTs:List TypeId:=[24,25,36,102]
abbrev StX (T:List Ty) (t:Int) (ps:List Pr):={ m:Nat // Stp T t ps m }
def penc (x:PlW) (T:List Ty) (t:Int) (m:StX T t x.ps):Array Value:=#[.agg #[.int .i64 x.l,.slice x.A m.1 x.c],.int .i64 (tyA T t x.ps m.1)]
def AllY (T:List Ty) (t:Int) (ps:List Pr) (ys:List (StX T t ps)):Prop:=∃ m,Stp T t ps m∧ys.map (·.1)=List.range (m+1)∧(m=ps.length∨∃ p,ps[m]?=some p∧(stepT (tyGet T (tyA T t ps m)) p).2≠0)
theorem st_snoc {T:List Ty} {t:Int} {ps:List Pr} {pre:List (StX T t ps)} {m:Nat} (h:pre.map (·.1)=List.range m) (hm:Stp T t ps m):(pre++[(⟨m,hm⟩:StX T t ps)]).map (·.1)=List.range (m+1):=by
 rw [List.map_append,h,List.range_succ];rfl
theorem st_len {T:List Ty} {t:Int} {ps:List Pr} {pre:List (StX T t ps)} {m:Nat} (h:pre.map (·.1)=List.range m):pre.length=m:=by
 have:=congrArg List.length h
 simpa using this
def AnyP {β:Type} (_:List β):Prop:=True
def AltY {β:Type} (J Jx:List β→World→Prop) (Kp:World→World→Prop) (pre:List β) (W1:World) (e:Ending) (W':World):Prop:=∃ b:Bool,e=.returned (.bool b)∧(b=true→J pre W'∧Kp W1 W')∧(b=false→Jx pre W')
theorem altY_of {β:Type} {J Jx:List β→World→Prop} {Kp:World→World→Prop} {pre:List β} {W1:World} (e:Ending) (W':World) (h:(e=.returned (.bool true)∧J pre W'∧Kp W1 W')∨(e=.returned (.bool false)∧Jx pre W')):AltY J Jx Kp pre W1 e W':=by
 rcases h with ⟨rfl,h⟩ | ⟨rfl,h⟩
 ·
  exact ⟨true,rfl,fun _=>h,(fun e=>by cases e)⟩
 ·
  exact ⟨false,rfl,(fun e=>by cases e),fun _=>h⟩
theorem along_in (n:Nat) (At Al:Option Addr) (nt ct nl cl:Nat) (x:PlW) (w:World) :
  CallsIn Fence.wide n Tryz.prog 112 #[.slice At nt ct,.slice Al nl cl,aggPl x] w fun e w'=>e=.returned (.func (.func 125) #[] #[.pointer (some ⟨w.heap.size+2,0,none⟩),.pointer (some ⟨w.heap.size+1,0,none⟩),.pointer (some ⟨w.heap.size,0,none⟩)]) ∧
   w'=((w.alloc (.cells #[.slice At nt ct] 24)).alloc (.cells #[.slice Al nl cl] 25)).alloc (.cells #[.int .i64 x.l,.slice x.A x.n x.c] 36):=by
 obtain ⟨l,A,m,c,ps⟩:=x
 refine callsIn_of_wp Tryz.func112 rfl trivial ?_ rfl
 simp only [Tryz.ntmps112,List.size_toArray,List.length_cons,List.length_nil,Nat.reduceAdd,Nat.reduceSub,Array.replicate_succ,Array.replicate_zero,List.push_toArray,List.append_toArray,List.nil_append,List.cons_append]
 gi_wp2
 go_ret
 exact ⟨rfl,rfl⟩
theorem along1_in (n:Nat) (hn:1≤n) (l Bt Bl Bp X n₀:Nat) (At Al:Option Addr) (nt ct nl cl:Nat) (L:List TyW) (LL:List LcW) (x:PlW) (k:Nat) (lc:LcW) (r:Int)
  (hT:TyOk (tys L) r) (hnt:nt≤maxLen) (hnl:nl≤maxLen) (hxn:x.n≤x.c) (hxc:x.c≤maxLen) (hk:x.l=(k:Int)) (hlc:LL[k]?=some lc) (ht0:0≤lc.ty) (ht1:lc.ty < (L.length:Int))
  (J Jx:List (StX (tys L) lc.ty x.ps)→World→Prop) (B0:Nat) (hJ:AbidesFrom B0 J) (hJx:AbidesFrom B0 Jx)
  (hY:∀ pre y W,J pre W→pre.length < x.ps.length+1→YieldAt Fence.wide (n - 1) Tryz.prog l (penc x (tys L) lc.ty y) W fun e W'=>
   (e=.returned (.bool true)∧J (pre++[y]) W'∧KeepTX n₀ plTs X W W')∨(e=.returned (.bool false)∧Jx (pre++[y]) W'))
  (W:World) (hBt:Boxed W Bt 24 (.slice At nt ct)) (hBl:Boxed W Bl 25 (.slice Al nl cl)) (hBp:W.heap[Bp]?=some (.cells #[.int .i64 x.l,.slice x.A x.n x.c] 36 (0,0)))
  (hXt:Bt≠X) (hXl:Bl≠X) (hXp:Bp≠X) (hXW:X < W.heap.size)
  (hA:Typs W n₀ At nt L) (hL:Locs W n₀ Al nl LL) (hP:Prs W n₀ x.A x.n x.ps) (hn0:n₀≤W.heap.size) (h0:J [] W) :
  CallsIn Fence.wide n Tryz.prog 125 #[.func (.yield l) #[] #[],.pointer (some ⟨Bp,0,none⟩),.pointer (some ⟨Bl,0,none⟩),.pointer (some ⟨Bt,0,none⟩)] W fun e W'=>(∃ v,e=.returned v) ∧
   ((∃ ys,AllY (tys L) lc.ty x.ps ys∧J ys W')∨(∃ pre,AnyP pre∧Jx pre W')):=by
 have HJ:=hide fun (pre:List (StX (tys L) lc.ty x.ps)) (W W':World) (h:J pre W) (hb:Below W.heap.size W W')=>abides_below8 hJ h hb
 have HPR:=hide fun (i:Nat) (u:TyW) (hu:L[i]?=some u) (p:Pr) (w:World) (h:Typs w w.heap.size At nt L)=>Project_any (c:=ct) hu p w h hnt
 have HYY:=hide hY
 have HTO:=hide hT
 have hxl:x.ps.length=x.n:=hP.len
 have hll:=(List.getElem?_eq_some_iff.1 hlc).1
 have hnll:=hL.len
 have HIN:=hide (show tyIn (k:Int) (nl:Int)=true from tyIn_iff.2 ⟨by omega,by omega⟩)
 obtain ⟨bl,ol,rfl,hbl,q0,q1⟩:=hL.at_ hlc
 have c0:W.cell? ⟨Bp,0,none⟩=some (.int .i64 x.l):=cell_of_heap hBp 0
 have c1:W.cell? ⟨Bp,1,none⟩=some (.slice x.A x.n x.c):=cell_of_heap hBp 1
 have cl0:=hBl.cell
 have HRES:=hide fun (m:Nat) (h:Stp (tys L) lc.ty x.ps m)=>h.lt hT ht0 (by rw [tys_len];exact ht1)
 obtain ⟨lx,Ax,nx,cx,ps⟩:=x
 simp only [] at hk hxn hxc hxl hBp hP c0 c1
 subst hk
 have hkl:(k:Int) < (nl:Int):=by omega
 have HJW:=hide (HJ.out [] W W.drew h0 (Below.refl _ _).drew)
 obtain ⟨lnm,lty⟩:=lc
 unfold maxLen at hnt hnl hxc
 clear hJ hY hT
 refine callsIn_of_wp Tryz.func125 rfl trivial ?_ rfl
 simp only [Tryz.ntmps125,List.size_toArray,List.length_cons,List.length_nil,Nat.reduceAdd,Nat.reduceSub,Array.replicate_succ,Array.replicate_zero,List.push_toArray,List.append_toArray,List.nil_append,List.cons_append]
 gi_wp2_with (refine ⟨trivial,?_⟩;gi_at_call 111;refine (callsIn_wide.2 (Within_is HIN.out _)).mono ?_;rintro e w1 ⟨rfl,rfl⟩)
 have HW0:=hide (KeepTX.refl n₀ plTs X W)
 gi_loopw [5,25] (fun p q wr=>∃ (pre:List (StX (tys L) lty ps)) (m:Nat),p=.int .i64 (tyA (tys L) lty ps m)∧q=.int .i64 (m:Int)∧Hid (pre.map (·.1)=List.range m)∧Hid (Stp (tys L) lty ps m)∧m≤nx∧J pre wr∧KeepTX n₀ plTs X W wr∧n₀≤wr.heap.size)
  (fun _ q _=>nx - (intOf q).toNat)
 case atStart=>
  exact ⟨[],0,rfl,rfl,rfl,Stp.zero _ _ _,Nat.zero_le _,h0,HW0.out,hn0⟩
 case round=>
  obtain ⟨pre,m,rfl,rfl,HP0,HS,hm,hJs,hK,hnw⟩:=hrel
  have hB1:wr.heap[Bt]?=some (.cells #[.slice At nt ct] 24 (0,0)):=hK.cells _ _ _ _ (by simp [plTs]) hXt hBt
  have hB3:wr.heap[Bp]?=some (.cells #[.int .i64 (k:Int),.slice Ax nx cx] 36 (0,0)):=hK.cells _ _ _ _ (by simp [plTs]) hXp hBp
  have hXwr:X < wr.heap.size:=Nat.lt_of_lt_of_le hXW (hK.low.size)
  have HK:=hide hK
  have HAw:=hide (hA.below hK.low)
  have HPw:=hide (hP.below hK.low)
  clear hK
  by_cases hlt:m < nx
  ·
   have hlt':(m:Int) < (nx:Int):=by omega
   obtain ⟨p,hp⟩:∃ p,ps[m]?=some p:=⟨_,List.getElem?_eq_getElem (by omega)⟩
   obtain ⟨b,o,rfl,hbB,hi,d0,d1⟩:=HPw.out.at_ hp
   obtain ⟨pk,pf⟩:=p
   simp only [] at d0 d1
   have HB2:=hide ((Below.refl wr.heap.size wr).alloc (Nat.le_refl _) (.cells #[.int .i64 pk,.int .i64 pf] 102))
   have e0:((wr.alloc (.cells #[.int .i64 pk,.int .i64 pf] 102)).drew).cell? ⟨Bp,0,none⟩=some (.int .i64 (k:Int)):=cell_of_heap ((HB2.out.drew.block Bp (Array.getElem?_eq_some_iff.1 hB3).1).trans hB3) 0
   have e1:((wr.alloc (.cells #[.int .i64 pk,.int .i64 pf] 102)).drew).cell? ⟨Bp,1,none⟩=some (.slice (some ⟨b,o,none⟩) nx cx):=cell_of_heap ((HB2.out.drew.block Bp (Array.getElem?_eq_some_iff.1 hB3).1).trans hB3) 1
   have hJ2:=HJ.out _ _ _ hJs HB2.out.drew
   have HYm:=HYY.out pre ⟨m,HS.out⟩ _ hJ2 (by have:=st_len HP0.out;omega)
   have HP1:=hide (st_snoc HP0.out HS.out)
   simp only [penc] at HYm
   have hmc:m≤cx:=by omega
   clear hJ2 hi
   obtain ⟨fn,tmps,assign,body,hy,hR⟩:=HYm
   have hR2:=hR.mono altY_of
   have HPP:=hide hp
   clear hR hp
   gi_wp2
   gi_region_with (first | (refine hR2.mono ?_;rintro e w3 ⟨bb,rfl,hgo,hno⟩))
   all_goals
    clear hR2 hy
    have HGO:=hide hgo
    have HNO:=hide hno
    clear hgo hno
    cases bb
    ·
     gi_wp2
     refine bodyPost_ret (results_none rfl _ _ _) rfl ?_
     exact ⟨⟨_,rfl⟩,.inr ⟨_,True.intro,HNO.out (by trivial)⟩⟩
    ·
     have hk3:=(HGO.out (by trivial)).2
     have HJ3:=hide (HGO.out (by trivial)).1
     have HK3:=hide (HK.out.trans ((KeepTX.of_below HB2.out.drew hnw).trans hk3))
     have hw3:wr.heap.size+1≤w3.heap.size:=by
      have:=hk3.low.size
      simpa using this
     have hB6:w3.heap[wr.heap.size]?=some (.cells #[.int .i64 pk,.int .i64 pf] 102 (0,0)):=hk3.cells _ _ _ _ (by simp [plTs]) (by omega) (heap_alloc_new wr _)
     have hB1':w3.heap[Bt]?=some (.cells #[.slice At nt ct] 24 (0,0)):=HK3.out.cells _ _ _ _ (by simp [plTs]) hXt hBt
     have x0:w3.cell? ⟨wr.heap.size,0,none⟩=some (.int .i64 pk):=cell_of_heap hB6 0
     have x1:w3.cell? ⟨wr.heap.size,1,none⟩=some (.int .i64 pf):=cell_of_heap hB6 1
     have t0:w3.cell? ⟨Bt,0,none⟩=some (.slice At nt ct):=cell_of_heap hB1' 0
     obtain ⟨i,u,hti,hu⟩:=HRES.out m HS.out
     obtain ⟨y,hy,hyt⟩:=tys_back hu
     obtain ⟨g1,g2⟩:=erA_up (T:=tys L) (t:=lty) HPP.out HS.out.ok
     have HERR:=hide fun (he:(stepT (tyGet (tys L) (tyA (tys L) lty ps m)) (pk,pf)).2≠0)=>(show AllY (tys L) lty ps _ from ⟨m,HS.out,HP1.out,.inr ⟨_,HPP.out,he⟩⟩)
     have hgy:tyGet (tys L) (tyA (tys L) lty ps m)=y.t:=by rw [hti,hyt];exact tyGet_at hu
     rw [hgy] at g1 g2 HERR
     have HCP:=hide (show Calls Tryz.prog 113 #[.slice At nt ct,.int .i64 (tyA (tys L) lty ps m),.agg #[.int .i64 pk,.int .i64 pf]] w3 fun e w'=>e=.returned (.tuple #[.int .i64 (tyA (tys L) lty ps (m+1)),.int .i64 (stepT y.t (pk,pf)).2])∧Below w3.heap.size w3 w' by
      rw [hti,g1]
      exact HPR.out i y hy (pk,pf) w3 ((hA.below HK3.out.low).more (Nat.le_trans hn0 HK3.out.low.size)))
     obtain ⟨ev,hev⟩:∃ ev,(stepT y.t (pk,pf)).2=ev:=⟨_,rfl⟩
     rw [hev] at HCP g2 HERR
     have HG2:=hide g2
     clear hk3 HGO HNO hB6 hB1' hti hu hy hyt g1 g2 hgy hev
     have hn3:n₀≤w3.heap.size:=by omega
     by_cases hev0:ev=0
     ·
      subst hev0
      have HS4:Hid (Stp (tys L) lty ps (m+1)):=(show Stp _ _ _ _ from ⟨by omega,HG2.out⟩)
      clear HERR
      gi_wp2_with (refine ⟨trivial,?_⟩;gi_at_call 113;refine (callsIn_wide.2 HCP.out).mono ?_;rintro e w4 ⟨rfl,hb4⟩)
      have HJ4:=hide (HJ.out _ _ _ HJ3.out hb4)
      have HK4:=hide (HK3.out.trans (KeepTX.of_below hb4 hn3))
      have hn4:=Nat.le_trans hn3 hb4.size
      exact ⟨⟨_,m+1,rfl,by go_num,HP1,HS4,by omega,HJ4.out,HK4.out,hn4⟩,by simp [intOf];omega⟩
     ·
      have tev:(ev != 0)=true:=by rw [bne_iff_ne];exact hev0
      have HE:=hide (HERR.out hev0)
      clear hev0 HERR
      gi_wp2_with (refine ⟨trivial,?_⟩;gi_at_call 113;refine (callsIn_wide.2 HCP.out).mono ?_;rintro e w4 ⟨rfl,hb4⟩)
      refine bodyPost_ret (results_none rfl _ _ _) rfl ?_
      exact ⟨⟨_,rfl⟩,.inl ⟨_,HE.out,HJ.out _ _ _ HJ3.out hb4⟩⟩
  ·
   obtain rfl:m=nx:=by omega
   have e0:wr.cell? ⟨Bp,0,none⟩=some (.int .i64 (k:Int)):=cell_of_heap hB3 0
   have e1:wr.cell? ⟨Bp,1,none⟩=some (.slice Ax m cx):=cell_of_heap hB3 1
   have HYm:=HYY.out pre ⟨m,HS.out⟩ _ hJs (by have:=st_len HP0.out;omega)
   have HP1:=hide (st_snoc HP0.out HS.out)
   simp only [penc] at HYm
   obtain ⟨fn,tmps,assign,body,hy,hR⟩:=HYm
   gi_wp2
   refine hR.mono ?_
   rintro e w3 (⟨rfl,hJ3,_⟩ | ⟨rfl,hJ3⟩)
   ·
    gi_wp2
    go_end0
    exact ⟨⟨_,rfl⟩,.inl ⟨_,⟨m,HS.out,HP1.out,.inl hxl.symm⟩,hJ3⟩⟩
   ·
    gi_wp2
    go_end0
    exact ⟨⟨_,rfl⟩,.inr ⟨_,True.intro,hJ3⟩⟩
structure Way8 (At Al:Option Addr) (nt nl:Nat) (L:List TyW) (LL:List LcW) (x:PlW) (k:Nat) (lc:LcW) (r:Int):Prop where
 ok:TyOk (tys L) r
 nt:nt≤maxLen
 nl:nl≤maxLen
 nc:x.n≤x.c
 cm:x.c≤maxLen
 l:x.l=(k:Int)
 at_:LL[k]?=some lc
 t0:0≤lc.ty
 t1:lc.ty < (L.length:Int)
theorem along_stops (n:Nat) (hn:1≤n) (Bt Bl Bp X n₀:Nat) (At Al:Option Addr) (nt ct nl cl:Nat) (L:List TyW) (LL:List LcW) (x:PlW) (k:Nat) (lc:LcW) (r:Int) (h8:Way8 At Al nt nl L LL x k lc r)
  (w:World) (hBt:Boxed w Bt 24 (.slice At nt ct)) (hBl:Boxed w Bl 25 (.slice Al nl cl)) (hBp:w.heap[Bp]?=some (.cells #[.int .i64 x.l,.slice x.A x.n x.c] 36 (0,0)))
  (hXt:Bt≠X) (hXl:Bl≠X) (hXp:Bp≠X) (hXW:X < w.heap.size)
  (hA:Typs w n₀ At nt L) (hL:Locs w n₀ Al nl LL) (hP:Prs w n₀ x.A x.n x.ps) (hn0:n₀≤w.heap.size) :
  SeqStopsK Fence.wide n Tryz.prog 125 #[.pointer (some ⟨Bp,0,none⟩),.pointer (some ⟨Bl,0,none⟩),.pointer (some ⟨Bt,0,none⟩)] (penc x (tys L) lc.ty) (KeepTX n₀ plTs X) (AllY (tys L) lc.ty x.ps) AnyP (x.ps.length+1) w:=fun l J Jx W hW hJ hJx hY h0=>
 along1_in n hn l Bt Bl Bp X n₀ At Al nt ct nl cl L LL x k lc r h8.ok h8.nt h8.nl h8.nc h8.cm h8.l h8.at_ h8.t0 h8.t1 J Jx W.heap.size hJ hJx hY W ((hW.block Bt hBt.lt).trans hBt) ((hW.block Bl hBl.lt).trans hBl) ((hW.block Bp (Array.getElem?_eq_some_iff.1 hBp).1).trans hBp) hXt hXl hXp (Nat.lt_of_lt_of_le hXW hW.size) (hA.below (hW.mono hn0)) (hL.below (hW.mono hn0)) (hP.below (hW.mono hn0)) (Nat.le_trans hn0 hW.size) h0
end Go.Proofs.YtfgacmgjpikgaaaGreatDoor
namespace Go.Proofs.YtfgacmgjpikgaaaGreatDoor
open Go.RowKit Go.Shelf
attribute [local go_sem] Oper.semAt_some
theorem block_own8 {W W':World} {row:Option Nat} {B:Nat} {cs:Array Value} {t:TypeId} {fr:Nat×Nat} (h:W.heap[B]?=some (.cells cs t fr)) (hg:W.grownBy W' row) (hr:∀ r,row=some r→∃ o:Obj,W.heap[r]?=some o∧o.isCells=false):W'.heap[B]?=some (.cells cs t fr):=
 (hg.block B (Array.getElem?_eq_some_iff.1 h).1 (fun e'=>by
  obtain ⟨o,ho,hc⟩:=hr B e'.symm
  rw [h] at ho
  injection ho with ho
  subst ho
  cases hc)).trans h
theorem size_set8 (w:World) (a:Addr) (v:Value):(w.setCell a v).heap.size=w.heap.size:=by simp
theorem boxed_below8 {W W':World} {B:Nat} {t:TypeId} {u:Value} (h:Boxed W B t u) (hb:Below W.heap.size W W'):Boxed W' B t u:=(hb.block B h.lt).trans h
def lastSt {T:List Ty} {t:Int} {ps:List Pr} (pre:List (StX T t ps)):Nat×Int:=match pre.getLast? with
 | none=>(0,0)
 | some y=>(y.1,tyA T t ps y.1)
theorem lastSt_snoc {T:List Ty} {t:Int} {ps:List Pr} {pre:List (StX T t ps)} {y:StX T t ps}:lastSt (pre++[y])=(y.1,tyA T t ps y.1):=by
 unfold lastSt;rw [List.getLast?_concat]
theorem lastSt_all {T:List Ty} {t:Int} {ps:List Pr} {ys:List (StX T t ps)} {m:Nat} (h:ys.map (·.1)=List.range (m+1)):lastSt ys=(m,tyA T t ps m):=by
 rcases List.eq_nil_or_concat ys with rfl | ⟨l,y,rfl⟩
 ·
  rw [List.range_succ] at h;simp at h
 ·
  rw [List.concat_eq_append] at h ⊢
  rw [lastSt_snoc]
  rw [List.map_append,List.range_succ] at h
  have h2:=List.append_inj_right' h rfl
  have:y.1=m:=by simpa using h2
  rw [this]
structure Pl8 (w:World) (At Al:Option Addr) (nt nl:Nat) (L:List TyW) (LL:List LcW) (x:PlW) (r:Int):Prop where
 typs:Typs w w.heap.size At nt L
 locs:Locs w w.heap.size Al nl LL
 one:OnePl w w.heap.size x
 nt:nt≤maxLen
 nl:nl≤maxLen
 ok:TyOk (tys L) r
 lc:LcOk (tys L) (lcs LL)
theorem Pl8.up {w w':World} {At Al:Option Addr} {nt nl:Nat} {L:List TyW} {LL:List LcW} {x:PlW} {r:Int} (h:Pl8 w At Al nt nl L LL x r) (hb:Below w.heap.size w w'):Pl8 w' At Al nt nl L LL x r:=⟨h.typs.up hb,h.locs.up hb,h.one.up hb,h.nt,h.nl,h.ok,h.lc⟩
theorem Pl8.take {w:World} {At Al:Option Addr} {nt nl:Nat} {L:List TyW} {LL:List LcW} {x:PlW} {r:Int} (h:Pl8 w At Al nt nl L LL x r) {k:Nat} (hk:k≤x.n):Pl8 w At Al nt nl L LL (x.take k) r:=⟨h.typs,h.locs,h.one.take hk,h.nt,h.nl,h.ok,h.lc⟩
theorem Pl8.way {w:World} {At Al:Option Addr} {nt nl:Nat} {L:List TyW} {LL:List LcW} {x:PlW} {r:Int} (h:Pl8 w At Al nt nl L LL x r) {k:Nat} {lc:LcW} (hk:x.l=(k:Int)) (hl:LL[k]?=some lc):Way8 At Al nt nl L LL x k lc r:=by
 have:=h.lc lc.ty (List.mem_map_of_mem (List.mem_of_getElem? hl))
 exact ⟨h.ok,h.nt,h.nl,h.one.nc,h.one.cm,hk,hl,this.1,by rw [←tys_len];exact this.2⟩
theorem TypeOf_yes {At Al:Option Addr} {nt ct nl cl:Nat} {L:List TyW} {LL:List LcW} {x:PlW} {r:Int} {w:World} (h:Pl8 w At Al nt nl L LL x r) {k:Nat} {lc:LcW} (hk:x.l=(k:Int)) (hlc:LL[k]?=some lc) (hp0:plErr x.l x.ps=0) :
    CallsIn Fence.wide 9 Tryz.prog 100 #[.slice At nt ct,.slice Al nl cl,aggPl x] w fun e w'=>e=.returned (.tuple #[.int .i64 (goL (tys L) lc.ty x.ps).1,.int .i64 (goL (tys L) lc.ty x.ps).2])∧Below w.heap.size w w':=by
  have hB0:=(Below.refl w.heap.size w).alloc (Nat.le_refl _) (.cells #[.int .i64 x.l,.slice x.A x.n x.c] 36)
  have HB0:=hide hB0
  have HW:=hide (h.way hk hlc)
  have HC:=hide (CheckP_is hp0 _ (h.one.up hB0))
  have hll:=(List.getElem?_eq_some_iff.1 hlc).1
  have hnll:=h.locs.len
  have HIN:=hide (show tyIn (k:Int) (nl:Int)=true from tyIn_iff.2 ⟨by omega,by omega⟩)
  have H:=hide fun w' (hb:Below w.heap.size w w')=>h.up hb
  have hxl:x.ps.length=x.n:=h.one.prs.len
  have hnc:=h.one.nc
  have hcm:=h.one.cm
  have hp32:=(plErr_zero.1 hp0).2.1
  have HBX:=hide (heap_alloc_new w (.cells #[.int .i64 x.l,.slice x.A x.n x.c] 36))
  obtain ⟨l,A,n,c,ps⟩:=x
  simp only [] at hk hxl hnc hcm hp32
  subst hk
  unfold maxLen at hcm
  clear h hB0 hlc hp0
  refine callsIn_of_wp_marks Tryz.func100 rfl trivial ?_ rfl
  simp only [Tryz.ntmps100,List.size_toArray,List.length_cons,List.length_nil,Nat.reduceAdd,Nat.reduceSub,Array.replicate_succ,Array.replicate_zero,List.push_toArray,List.append_toArray,List.nil_append,List.cons_append]
  gi_wp2_with (first
    | (refine ⟨trivial,?_⟩;gi_at_call 110;refine (callsIn_wide.2 HC.out).mono ?_;rintro e w1 ⟨rfl,hb1⟩;have HB1:=hide hb1;have hbX:=(hb1.block w.heap.size (by simp)).trans HBX.out;have z0:=cell_of_heap hbX 0;have z1:=cell_of_heap hbX 1;have y0:=cell_of_heap ((((Below.refl w1.heap.size w1).alloc (Nat.le_refl _) (.cells #[.int .i64 0] 3)).alloc (by simp) (.cells #[.int .i64 0] 3)).block w.heap.size (by have:=hb1.size;simp at this;omega) |>.trans hbX) 0;have y1:=cell_of_heap ((((Below.refl w1.heap.size w1).alloc (Nat.le_refl _) (.cells #[.int .i64 0] 3)).alloc (by simp) (.cells #[.int .i64 0] 3)).block w.heap.size (by have:=hb1.size;simp at this;omega) |>.trans hbX) 1)
    | (refine ⟨trivial,?_⟩;gi_at_call 111;refine (callsIn_wide.2 (Within_is HIN.out _)).mono ?_;rintro e w2 ⟨rfl,rfl⟩)
    | (refine ⟨trivial,?_⟩;gi_at_call 112;refine (along_in _ At Al nt ct nl cl ⟨(k:Int),A,n,c,ps⟩ _).mono ?_;rintro e w2 ⟨rfl,rfl⟩))
  have bR:=((((Boxed.new w1 3 (.int .i64 0)).alloc (.cells #[.int .i64 0] 3)).alloc (.cells #[.slice At nt ct] 24)).alloc (.cells #[.slice Al nl cl] 25)).alloc (.cells #[.int .i64 (k:Int),.slice A n c] 36)
  have bT:=(((Boxed.new (w1.alloc (.cells #[.int .i64 0] 3)) 3 (.int .i64 0)).alloc (.cells #[.slice At nt ct] 24)).alloc (.cells #[.slice Al nl cl] 25)).alloc (.cells #[.int .i64 (k:Int),.slice A n c] 36)
  have bA:=((Boxed.new ((w1.alloc (.cells #[.int .i64 0] 3)).alloc (.cells #[.int .i64 0] 3)) 24 (.slice At nt ct)).alloc (.cells #[.slice Al nl cl] 25)).alloc (.cells #[.int .i64 (k:Int),.slice A n c] 36)
  have bL:=(Boxed.new (((w1.alloc (.cells #[.int .i64 0] 3)).alloc (.cells #[.int .i64 0] 3)).alloc (.cells #[.slice At nt ct] 24)) 25 (.slice Al nl cl)).alloc (.cells #[.int .i64 (k:Int),.slice A n c] 36)
  have bP:=heap_alloc_new ((((w1.alloc (.cells #[.int .i64 0] 3)).alloc (.cells #[.int .i64 0] 3)).alloc (.cells #[.slice At nt ct] 24)).alloc (.cells #[.slice Al nl cl] 25)) (.cells #[.int .i64 (k:Int),.slice A n c] 36)
  simp only [World.size_alloc] at bT bA bL bP
  have hBW:Below w1.heap.size w1 (((((w1.alloc (.cells #[.int .i64 0] 3)).alloc (.cells #[.int .i64 0] 3)).alloc (.cells #[.slice At nt ct] 24)).alloc (.cells #[.slice Al nl cl] 25)).alloc (.cells #[.int .i64 (k:Int),.slice A n c] 36)):=(((((Below.refl _ w1).alloc (Nat.le_refl _) _).alloc (by simp) _).alloc (by simp;omega) _).alloc (by simp;omega) _).alloc (by simp;omega) _
  have hsz:(((((w1.alloc (.cells #[.int .i64 0] 3)).alloc (.cells #[.int .i64 0] 3)).alloc (.cells #[.slice At nt ct] 24)).alloc (.cells #[.slice Al nl cl] 25)).alloc (.cells #[.int .i64 (k:Int),.slice A n c] 36)).heap.size=w1.heap.size+5:=by simp
  obtain ⟨W0,hW0⟩:∃ W0,(((((w1.alloc (.cells #[.int .i64 0] 3)).alloc (.cells #[.int .i64 0] 3)).alloc (.cells #[.slice At nt ct] 24)).alloc (.cells #[.slice Al nl cl] 25)).alloc (.cells #[.int .i64 (k:Int),.slice A n c] 36))=W0:=⟨_,rfl⟩
  rw [hW0] at bR bT bA bL bP hBW hsz ⊢
  clear hW0 y0 y1 z0 z1
  have HB01:=hide (HB0.out.trans (HB1.out.mono HB0.out.size))
  have h1:=H.out _ HB01.out
  have hw1:w.heap.size < w1.heap.size:=by have:=HB1.out.size;simp at this;omega
  have HTY:=hide (h1.typs.below hBW)
  have HLO:=hide (h1.locs.below hBW)
  have HPS:=hide (h1.one.prs.below hBW)
  have hbx:w1.heap[w.heap.size]?=some (.cells #[.int .i64 (k:Int),.slice A n c] 36 (0,0)):=hbX
  have HBXX:=hide hbx
  clear hbX hbx h1
  refine wpIn_rangeFunc_ownH rfl (by omega) (gf:=125) (lb:=#[.pointer (some ⟨w1.heap.size+1+1+2,0,none⟩),.pointer (some ⟨w1.heap.size+1+1+1,0,none⟩),.pointer (some ⟨w1.heap.size+1+1,0,none⟩)]) rfl trivial (enters_of Tryz.func125 (by kernel_rfl) rfl)
    (along_stops _ (by omega) (w1.heap.size+1+1) (w1.heap.size+1+1+1) (w1.heap.size+1+1+2) w1.heap.size w1.heap.size At Al nt ct nl cl L LL ⟨(k:Int),A,n,c,ps⟩ k lc r HW.out W0 bA bL bP (by omega) (by omega) (by omega) (by omega) HTY.out HLO.out HPS.out (by omega)) keepTX_t (keepTX_b (by omega)) (Below.refl _ _) (fun _=>rfl)
    (fun pre W=>(w1.heap.size+5≤W.heap.size∧Boxed W w1.heap.size 3 (.int .i64 ((lastSt pre).1:Int))∧Boxed W (w1.heap.size+1) 3 (.int .i64 (lastSt pre).2))∧Below w1.heap.size w1 W)
    (fun _ _ _=>False)
    (OwnFrom.and (Own.from (fun s X Y row hs hg hr=>⟨Nat.le_trans hs.1 hg.size,block_own8 hs.2.1 hg hr,block_own8 hs.2.2 hg hr⟩) _) (ownFrom_below (Nat.le_refl _) (by omega)))
    (fun _ _ _ _ _ hs _ _=>hs)
    ⟨⟨by omega,bR,bT⟩,hBW⟩
    (fun y a' W=>∃ Bq,w1.heap.size+5≤Bq∧W.heap[Bq]?=some (.cells #[.int .i64 (k:Int),.slice A y.1 c] 36 (0,0))∧a'={ tmps:=#[.slice At nt ct,.slice Al nl cl,aggPl ⟨(k:Int),A,n,c,ps⟩,undef,undef,.pointer (some ⟨w.heap.size,0,none⟩),.int .i64 0,.int .i64 0,.int .i64 0,.pointer (some ⟨w1.heap.size,0,none⟩),.pointer (some ⟨w1.heap.size+1,0,none⟩),.pointer (some ⟨Bq,0,none⟩),.int .i64 (tyA (tys L) lc.ty ps y.1),.agg #[.int .i64 (k:Int),.slice A n c],.int .i64 0,.int .i64 0,.bool false,undef,.pointer (some ⟨w.heap.size,0,none⟩),.int .i64 (k:Int),.slice Al nl cl,.int .i64 (nl:Int),.bool true,.bool false,.slice At nt ct,.slice Al nl cl,.agg #[.int .i64 (k:Int),.slice A n c],.func (.func 125) #[] #[.pointer (some ⟨w1.heap.size+1+1+2,0,none⟩),.pointer (some ⟨w1.heap.size+1+1+1,0,none⟩),.pointer (some ⟨w1.heap.size+1+1,0,none⟩)],.agg #[.int .i64 (k:Int),.slice A y.1 c],.int .i64 (tyA (tys L) lc.ty ps y.1),undef,undef,undef,undef,undef,undef,undef,undef,undef,undef,undef,undef,undef,undef,undef,undef,undef,undef,undef,undef],defers:=[] })
    (fun y a' _ X Y row hs hg hr=>by obtain ⟨Bq,h1,h2,h3⟩:=hs;exact ⟨Bq,h1,block_own8 h2 hg (fun r e=>(hr r e).2),h3⟩)
    ?assign ?body ?done ?stop
  case assign=>
    rintro l pre y W K ⟨⟨hs,b1,b2⟩,hB⟩ hK
    have hb:=(Below.refl W.heap.size W).alloc (Nat.le_refl _) (.cells #[.int .i64 (k:Int),.slice A y.1 c] 36)
    have hKp:KeepTX w1.heap.size plTs w1.heap.size W _:=KeepTX.of_below hb (by omega)
    have HK:=hide hK
    clear hK
    dsimp only [penc]
    gi_wp2
    exact HK.out _ _ ((KeepsOthers.alloc _ _).from _) hKp ⟨⟨by simp;omega,b1.alloc _,b2.alloc _⟩,hB.trans (hb.mono hB.size)⟩ ⟨W.heap.size,hs,heap_alloc_new W _,rfl⟩
  case body=>
    rintro l pre y a' W hl hrr ⟨⟨hs,b1,b2⟩,hB⟩ ⟨Bq,hBq,bX,rfl⟩ hlt
    have d0:=cell_of_heap bX 0
    have d1:=cell_of_heap bX 1
    have k1:=b1.cell
    have k2:=b2.cell
    have f1:=b1.frozen
    have f2:=b2.frozen
    have c1:=b1.set (.int .i64 (y.1:Int))
    have c2:=b2.other (B':=w1.heap.size) (by omega) (.int .i64 (y.1:Int))
    have HKT:=hide ((KeepT.box (Ts:=plTs) b1 (Nat.le_refl _) (by decide) (.int .i64 (y.1:Int))).trans (KeepT.box c2 (by omega) (by decide) (.int .i64 (tyA (tys L) lc.ty ps y.1))))
    have HI:=hide (show (w1.heap.size+5≤((W.setCell ⟨w1.heap.size,0,none⟩ (.int .i64 (y.1:Int))).setCell ⟨w1.heap.size+1,0,none⟩ (.int .i64 (tyA (tys L) lc.ty ps y.1))).heap.size∧Boxed ((W.setCell ⟨w1.heap.size,0,none⟩ (.int .i64 (y.1:Int))).setCell ⟨w1.heap.size+1,0,none⟩ (.int .i64 (tyA (tys L) lc.ty ps y.1))) w1.heap.size 3 (.int .i64 ((lastSt (pre++[y])).1:Int))∧Boxed ((W.setCell ⟨w1.heap.size,0,none⟩ (.int .i64 (y.1:Int))).setCell ⟨w1.heap.size+1,0,none⟩ (.int .i64 (tyA (tys L) lc.ty ps y.1))) (w1.heap.size+1) 3 (.int .i64 (lastSt (pre++[y])).2)) from by
      rw [lastSt_snoc]
      exact ⟨by rw [size_set8,size_set8];exact hs,c1.other (B':=w1.heap.size+1) (by omega) _,c2.set _⟩)
    have HB:=hide hB
    clear c1 c2 hB
    gi_wp2
    exact ⟨((KeepsOthers.setCell W ⟨w1.heap.size,0,none⟩ (.int .i64 (y.1:Int))).trans (KeepsOthers.setCell _ ⟨w1.heap.size+1,0,none⟩ (.int .i64 (tyA (tys L) lc.ty ps y.1)))).from _,KeepTX.of_t HKT.out,HI.out,HB.out.trans HKT.out.1⟩
  case done=>
    rintro D ys W hD ⟨m,hS,hm,hend⟩ ⟨⟨hs,b1,b2⟩,hB⟩ hK
    rw [lastSt_all hm] at b1 b2
    have k1:=b1.cell
    have k2:=b2.cell
    have hbx:=(hB.block w.heap.size hw1).trans HBXX.out
    have z0:=cell_of_heap hbx 0
    have z1:=cell_of_heap hbx 1
    have HBB:=hide (HB01.out.trans (hB.mono HB01.out.size))
    have HD:=hide fun W' (h:Below W.heap.size W W')=>(h.block D (Array.getElem?_eq_some_iff.1 hK).1).trans hK
    have HBW:=hide hB
    have hDW:w.heap.size≤D:=by omega
    simp only [] at k1 k2
    rcases hend with rfl | ⟨p,hp,he⟩
    · have HG:=hide (show goL (tys L) lc.ty ps=(tyA (tys L) lc.ty ps ps.length,0) from by
        have h2:=hS.ok
        unfold erA at h2
        unfold tyA
        rw [goL_take_all] at h2 ⊢
        rw [←h2])
      rw [hxl] at k1 HG
      gi_wp2
      refine ⟨by simp,.inl ⟨_,_,rfl,run_takeDeferred hK,?_⟩⟩
      refine ⟨_,results_tmp2 rfl _ _ _,?_,HBB.out.trans (belowK_b (w:=w) (Nat.le_refl _) W D _ _ hDW hK rfl rfl)⟩
      exact congrArg (fun z:Int×Int=>Ending.returned (.tuple #[.int .i64 z.1,.int .i64 z.2])) HG.out.symm
    · have hmn:m < n:=by have:m < ps.length:=(List.getElem?_eq_some_iff.1 hp).1;omega
      have hmn':(m:Int) < (n:Int):=by omega
      have HG:=hide (goA_none hS hp he)
      obtain ⟨i,u,hti,hu⟩:=hS.lt HW.out.ok HW.out.t0 (by rw [tys_len];exact HW.out.t1)
      obtain ⟨y,hy,hyt⟩:=tys_back hu
      have hgy:tyGet (tys L) (tyA (tys L) lc.ty ps m)=y.t:=by rw [hti,hyt];exact tyGet_at hu
      rw [hgy] at HG he
      have HCP:=hide fun W' (h:Below W.heap.size W W')=>(show Calls Tryz.prog 113 #[.slice At nt ct,.int .i64 (tyA (tys L) lc.ty ps m),aggP p] W' fun e w'=>e=.returned (.tuple #[.int .i64 0,.int .i64 (stepT y.t p).2])∧Below W'.heap.size W' w' from by
        rw [hti]
        have h2:=Project_any (c:=ct) hy p W' (H.out W' (HBB.out.trans (h.mono HBB.out.size))).typs HW.out.nt
        rw [stepT_err he] at h2
        exact h2)
      have HPX:=hide fun W' (h:Below W.heap.size W W')=>(H.out W' (HBB.out.trans (h.mono HBB.out.size))).one.prs
      obtain ⟨b,o,hA,_,hi,d0,d1⟩:=(HPX.out W (Below.refl _ _)).at_ hp
      simp only [] at hA
      subst hA
      obtain ⟨pk,pf⟩:=p
      simp only [] at d0 d1
      have HS:=hide fun W' (h:Below W.heap.size W W')=>show Below W.heap.size W W'∧W'.cell? ⟨w1.heap.size+1,0,none⟩=some (.int .i64 (tyA (tys L) lc.ty ps m))∧W'.cell? ⟨w.heap.size,1,none⟩=some (.slice (some ⟨b,o,none⟩) n c)∧W'.cell? ⟨w1.heap.size,0,none⟩=some (.int .i64 (m:Int))∧W'.cell? ⟨b,o+m*2,none⟩=some (.int .i64 pk)∧W'.cell? ⟨b,o+m*2+1,none⟩=some (.int .i64 pf) from
        ⟨h,(boxed_below8 b2 h).cell,cell_of_heap ((h.block w.heap.size (by omega)).trans hbx) 1,(boxed_below8 b1 h).cell,(h.cell (p:=⟨b,o+m*2,none⟩) (World.block_lt_of_cell? W _ d0)).trans d0,(h.cell (p:=⟨b,o+m*2+1,none⟩) (World.block_lt_of_cell? W _ d1)).trans d1⟩
      clear hti hu hy hyt hgy hi hbx
      gi_wp2
      refine wpIn_wide.2 ?_
      go_region_held3 (fun W'=>Below W.heap.size W W'∧W'.cell? ⟨w1.heap.size+1,0,none⟩=some (.int .i64 (tyA (tys L) lc.ty ps m))∧W'.cell? ⟨w.heap.size,1,none⟩=some (.slice (some ⟨b,o,none⟩) n c)∧W'.cell? ⟨w1.heap.size,0,none⟩=some (.int .i64 (m:Int))∧W'.cell? ⟨b,o+m*2,none⟩=some (.int .i64 pk)∧W'.cell? ⟨b,o+m*2+1,none⟩=some (.int .i64 pf))
        (first | exact HS.out _ (by assumption) | exact HS.out _ (Below.refl _ _) | exact HS.out _ (Below.refl _ _).drew)
        (first
          | (go_at_call 113;go_split_ands;refine (HCP.out _ (by assumption)).mono ?_;rintro e w4 ⟨rfl,hb0⟩;have hb4:=Below.trans (by assumption:Below W.heap.size W _) (hb0.mono (Below.size (by assumption:Below W.heap.size W _)))))
      all_goals
        go_split_ands
        have hb4':=(by assumption:Below W.heap.size W w4)
        have hK4:=HD.out _ hb4'
        gi_wp2
        refine ⟨by simp,.inl ⟨_,_,rfl,run_takeDeferred hK4,?_⟩⟩
        refine ⟨_,results_tmp2 rfl _ _ _,?_,(HBB.out.trans (hb4'.mono HBB.out.size)).trans (belowK_b (w:=w) (Nat.le_refl _) w4 D _ _ hDW hK4 rfl rfl)⟩
        exact congrArg (fun z:Int×Int=>Ending.returned (.tuple #[.int .i64 z.1,.int .i64 z.2])) HG.out.symm
  case stop=>
    rintro D cd pre W hD hpre h hK
    exact h.elim
theorem TypeOf_any {At Al:Option Addr} {nt ct nl cl:Nat} {L:List TyW} {LL:List LcW} {x:PlW} {r:Int} {w:World} (h:Pl8 w At Al nt nl L LL x r) :
  Calls Tryz.prog 100 #[.slice At nt ct,.slice Al nl cl,aggPl x] w fun e w'=>e=.returned (.tuple #[.int .i64 (tyOfP (tys L) (lcs LL) x.l x.ps).1,.int .i64 (tyOfP (tys L) (lcs LL) x.l x.ps).2])∧Below w.heap.size w w':=by
 obtain ⟨v,hv⟩:∃ v,plErr x.l x.ps=v:=⟨_,rfl⟩
 have hB0:=(Below.refl w.heap.size w).alloc (Nat.le_refl _) (.cells #[.int .i64 x.l,.slice x.A x.n x.c] 36)
 have HB0:=hide hB0
 have HC:=hide (CheckP_is hv _ (h.one.up hB0))
 by_cases hv0:v=0
 ·
  subst hv0
  by_cases hl:x.l < (nl:Int)
  ·
   have h0:=(plErr_zero.1 hv).1
   have hnl:=h.locs.len
   obtain ⟨lc,hlc⟩:∃ lc,LL[x.l.toNat]?=some lc:=⟨_,List.getElem?_eq_getElem (by omega)⟩
   have hk:x.l=((x.l.toNat:Nat):Int):=by omega
   rw [tyOfP_in hv hk (lcs_at hlc)]
   exact callsIn_wide.1 (TypeOf_yes h hk hlc hv)
  ·
   have HF:=hide (tyOfP_out (T:=tys L) (lc:=lcs LL) hv (by rw [lcs_len,h.locs.len];exact hl))
   have HIN:=hide (show tyIn x.l (nl:Int)=false from tyIn_not.2 fun h=>hl h.2)
   have HBX:=hide (heap_alloc_new w (.cells #[.int .i64 x.l,.slice x.A x.n x.c] 36))
   obtain ⟨l,A,n,c,ps⟩:=x
   clear h hB0 hl hv
   go_enter Tryz.func100,Tryz.ntmps100
   go_wp2_with fail
   refine HC.out.mono ?_
   rintro e w1 ⟨rfl,hb1⟩
   have HB1:=hide (HB0.out.trans (hb1.mono HB0.out.size))
   have hbX:=(hb1.block w.heap.size (by simp)).trans HBX.out
   have z0:=cell_of_heap hbX 0
   clear hb1 hbX
   go_wp2_with fail
   refine (Within_is HIN.out _).mono ?_
   rintro e w2 ⟨rfl,rfl⟩
   go_wp2
   go_ret2
   exact ⟨congrArg (fun z:Int×Int=>Ending.returned (.tuple #[.int .i64 z.1,.int .i64 z.2])) HF.out.symm,HB1.out⟩
 ·
  have tv:(v != 0)=true:=by rw [bne_iff_ne];exact hv0
  have HF:=hide (tyOfP_err (T:=tys L) (lc:=lcs LL) hv hv0)
  obtain ⟨l,A,n,c,ps⟩:=x
  clear h hB0 hv hv0
  go_enter Tryz.func100,Tryz.ntmps100
  go_wp2_with fail
  refine HC.out.mono ?_
  rintro e w1 ⟨rfl,hb1⟩
  have HB1:=hide (HB0.out.trans (hb1.mono HB0.out.size))
  clear hb1
  go_wp2
  go_ret2
  exact ⟨congrArg (fun z:Int×Int=>Ending.returned (.tuple #[.int .i64 z.1,.int .i64 z.2])) HF.out.symm,HB1.out⟩
theorem TypeOf_is {At Al:Option Addr} {nt ct nl cl:Nat} {L:List TyW} {LL:List LcW} {x:PlW} {r u v:Int} {w:World} (h:Pl8 w At Al nt nl L LL x r) (hv:tyOfP (tys L) (lcs LL) x.l x.ps=(u,v)) :
  Calls Tryz.prog 100 #[.slice At nt ct,.slice Al nl cl,aggPl x] w fun e w'=>e=.returned (.tuple #[.int .i64 u,.int .i64 v])∧Below w.heap.size w w':=by
 have:=TypeOf_any (ct:=ct) (cl:=cl) h
 rw [hv] at this
 exact this
end Go.Proofs.YtfgacmgjpikgaaaGreatDoor
