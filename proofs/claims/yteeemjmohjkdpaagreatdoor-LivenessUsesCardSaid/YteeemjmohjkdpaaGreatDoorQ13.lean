/- Part 14 of the contracts and their mathematics. -/
import Derived.Test.YteeemjmohjkdpaaGreatDoorQ9
import Derived.Deep.DeepMust
import Derived.Lib.AppendZeros
import Derived.Lib.AppendZerosOnto
import Derived.Sort.LoopGhostIn
import Derived.Maps.OwnIn
import Derived.WalkMore
import Derived.DeepKeys5
set_option linter.unusedVariables false
set_option linter.unusedSimpArgs false
set_option maxRecDepth 100000
set_option maxHeartbeats 8000000
namespace Go.Proofs.YteeemjmohjkdpaaGreatDoor
open Go.RowKit
theorem BSearch_none (A:Option Addr) (c:Nat) (x:Int) (w:World):Calls Tryz.prog 70 #[.slice A 0 c,.int .i64 x] w fun e w'=>e=.returned (.tuple #[.int .i64 0,.bool false])∧∃ q,w'=w.drewN q:=by
 go_enter Tryz.func70,Tryz.ntmps70
 go_wp2
 go_loop [7,8] (fun i j=>i=.int .i64 0∧j=.int .i64 0) (fun _ _=>0)
 case atStart=>exact ⟨rfl,rfl⟩
 case round=>
  obtain ⟨rfl,rfl⟩:=hrel
  go_wp2
  go_ret2
  exact ⟨rfl,0,rfl⟩
theorem BSearch_any {A:Option Addr} {n c:Nat} {D:List Int} (x:Int) (w:World) {B:Nat} (hD:Rd w B A n (i64s D)) (hs:D.Pairwise (· < ·)) (hn:n≤1000000) :
  Calls Tryz.prog 70 #[.slice A n c,.int .i64 x] w fun e w'=>e=.returned (.tuple #[.int .i64 ((D.countP (· < x):Nat):Int),.bool (D.contains x)])∧∃ q,w'=w.drewN q:=by
 have hl:=hD.ilen
 rcases Nat.eq_zero_or_pos n with h0 | h0
 ·
  subst h0
  obtain rfl:D=[]:=List.eq_nil_of_length_eq_zero hl
  exact BSearch_none A c x w
 ·
  obtain ⟨b,o,rfl,hb,hc⟩:=hD.2 h0
  have h:=Tryz.slices_BinarySearch_int b o n c D x w (by omega) (by omega) (fun j hj=>hc j _ (by rw [List.getElem?_map,List.getElem?_eq_getElem hj,List.getD_eq_getElem?_getD,List.getElem?_eq_getElem hj];rfl)) (by rw [←hl,List.take_length];exact asc_le hs)
  rw [←hl,List.take_length,hl] at h
  exact h
structure RowW where
 xs:List Int
 A:Option Addr
 n:Nat
 c:Nat
abbrev rowV (x:RowW):Value:=.slice x.A x.n x.c
structure RelW (w:World) (B r:Nat) (ps:List Pr) (rg:Int) (A1:Option Addr) (nD cD:Nat) (D:List Int) (A2:Option Addr) (c2:Nat) (L:List RowW):Prop where
 lt:r < B
 d0:w.cell? ⟨r,0,none⟩=some (.int .i64 rg)
 d1:w.cell? ⟨r,1,none⟩=some (.slice A1 nD cD)
 d2:w.cell? ⟨r,2,none⟩=some (.slice A2 nD c2)
 nc:nD≤cD
 nc2:nD≤c2
 dec:Rd w B A1 nD (i64s D)
 above:Rd w B A2 nD (L.map rowV)
 rows:∀ x∈L,Rd w B x.A x.n (i64s x.xs)∧x.n≤x.c∧x.n≤140737488355327
 rel:RelD ps rg D (L.map RowW.xs)
 few:nD≤200000
 ok:PrOk ps rg
theorem RelW.below {w w':World} {B r:Nat} {ps:List Pr} {rg:Int} {A1:Option Addr} {nD cD:Nat} {D:List Int} {A2:Option Addr} {c2:Nat} {L:List RowW} (h:RelW w B r ps rg A1 nD cD D A2 c2 L) (hb:Below B w w'):RelW w' B r ps rg A1 nD cD D A2 c2 L:=
 ⟨h.lt,(hb.cell (p:=⟨r,0,none⟩) h.lt).trans h.d0,(hb.cell (p:=⟨r,1,none⟩) h.lt).trans h.d1,(hb.cell (p:=⟨r,2,none⟩) h.lt).trans h.d2,h.nc,h.nc2,h.dec.below hb,h.above.below hb,fun x hx=>⟨(h.rows x hx).1.below hb,(h.rows x hx).2⟩,h.rel,h.few,h.ok⟩
theorem RelW.more {w:World} {B B' r:Nat} {ps:List Pr} {rg:Int} {A1:Option Addr} {nD cD:Nat} {D:List Int} {A2:Option Addr} {c2:Nat} {L:List RowW} (h:RelW w B r ps rg A1 nD cD D A2 c2 L) (hb:B≤B'):RelW w B' r ps rg A1 nD cD D A2 c2 L:=
 ⟨Nat.lt_of_lt_of_le h.lt hb,h.d0,h.d1,h.d2,h.nc,h.nc2,h.dec.more hb,h.above.more hb,fun x hx=>⟨(h.rows x hx).1.more hb,(h.rows x hx).2⟩,h.rel,h.few,h.ok⟩
def Rel (w:World) (B r:Nat) (ps:List Pr) (rg:Int):Prop:=∃ A1 nD cD D A2 c2 L,RelW w B r ps rg A1 nD cD D A2 c2 L
theorem Rel.below {w w':World} {B r:Nat} {ps:List Pr} {rg:Int} (h:Rel w B r ps rg) (hb:Below B w w'):Rel w' B r ps rg:=by
 obtain ⟨A1,nD,cD,D,A2,c2,L,h⟩:=h
 exact ⟨A1,nD,cD,D,A2,c2,L,h.below hb⟩
theorem Rel.more {w:World} {B B' r:Nat} {ps:List Pr} {rg:Int} (h:Rel w B r ps rg) (hb:B≤B'):Rel w B' r ps rg:=by
 obtain ⟨A1,nD,cD,D,A2,c2,L,h⟩:=h
 exact ⟨A1,nD,cD,D,A2,c2,L,h.more hb⟩
structure AbOk (D:List Int) (qs:List Pr) (Ls:List (List Int)):Prop where
 len:Ls.length=D.length
 all:∀ (j:Nat) xs b,Ls[j]?=some xs→D[j]?=some b→(∀ t∈xs,0≤t∧t < (D.length:Int))∧xs.length≤qs.length∧∀ (i:Nat) a,D[i]?=some a→((i:Int)∈xs↔(a,b)∈qs)
theorem AbOk.begin (D:List Int):AbOk D [] (List.replicate D.length []):=by
 refine ⟨by simp,fun j xs b h _=>?_⟩
 have e:xs=[]:=List.eq_of_mem_replicate (List.mem_of_getElem? h)
 subst e
 exact ⟨(fun t h=>by cases h),Nat.le_refl _,fun i a _=>⟨(fun h=>by cases h),fun h=>by cases h⟩⟩
theorem AbOk.step {D:List Int} {qs:List Pr} {Ls:List (List Int)} (h:AbOk D qs Ls) (hD:D.Pairwise (· < ·)) {x y:Int} {i j:Nat} (hi:D[i]?=some x) (hj:D[j]?=some y) {xs:List Int} (hx:Ls[j]?=some xs):AbOk D (qs++[(x,y)]) (Ls.set j (xs++[(i:Int)])):=by
 have hil:=(List.getElem?_eq_some_iff.1 hi).1
 have hjl:=(List.getElem?_eq_some_iff.1 hx).1
 refine ⟨by rw [List.length_set,h.len],fun j' zs b hz hb=>?_⟩
 rw [List.getElem?_set] at hz
 by_cases e:j=j'
 ·
  subst e
  rw [if_pos rfl,if_pos hjl] at hz
  injection hz with hz
  subst hz
  rw [hj] at hb
  injection hb with hb
  subst hb
  obtain ⟨h1,h2,h3⟩:=h.all j xs y hx hj
  refine ⟨fun t ht=>?_,by simp;omega,fun i' a ha=>?_⟩
  ·
   rcases List.mem_append.1 ht with ht | ht
   ·
    exact h1 t ht
   ·
    have e:t=(i:Int):=by simpa using ht
    omega
  ·
   rw [List.mem_append,List.mem_append,h3 i' a ha]
   refine or_congr Iff.rfl ?_
   simp only [List.mem_singleton,Prod.mk.injEq,and_true]
   constructor
   ·
    intro e
    have e:i'=i:=by omega
    subst e
    rw [hi] at ha
    injection ha with ha
    exact ha.symm
   ·
    intro e
    subst e
    rw [asc_injR hD ha hi]
 ·
  rw [if_neg e] at hz
  obtain ⟨h1,h2,h3⟩:=h.all j' zs b hz hb
  refine ⟨h1,by simp;omega,fun i' a ha=>?_⟩
  rw [List.mem_append,h3 i' a ha]
  refine ⟨.inl,fun k=>k.elim id fun k=>?_⟩
  have k2:b=y:=by simp at k;exact k.2
  subst k2
  exact absurd (asc_injR hD hj hb) e
theorem AbOk.rel {D:List Int} {ps:List Pr} {rg:Int} {Ls:List (List Int)} (h:AbOk D ps Ls) (hD:D.Pairwise (· < ·)) (hm:∀ x,x∈D↔∃ p∈ps,x=p.1∨x=p.2):RelD ps rg D Ls:=by
 have hb:∀ (j:Nat) xs,Ls[j]?=some xs→∃ b,D[j]?=some b:=fun j xs hx=>⟨_,List.getElem?_eq_getElem (by have:=(List.getElem?_eq_some_iff.1 hx).1;have:=h.len;omega)⟩
 refine ⟨hD,hm,h.len,fun j xs hx i hi=>?_,fun j xs b hx hb=>(h.all j xs b hx hb).2.2⟩
 obtain ⟨b,hb⟩:=hb j xs hx
 exact (h.all j xs b hx hb).1 i hi
structure AbW (w:World) (base gA nD:Nat) (L:List RowW):Prop where
 len:L.length=nD
 blk:w.heap[gA]?=some (.cells (L.map rowV).toArray 34 (0,0))
 own:∀ (j:Nat) x,L[j]?=some x→w.ownsRow base 3 1 (rowV x) x.n (i64s x.xs)
 dis:∀ (i j:Nat) x y,i≠j→L[i]?=some x→L[j]?=some y→∀ g,(rowV x).ownBlock=some g→(rowV y).ownBlock≠some g
theorem AbW.below {w w':World} {base gA nD:Nat} {L:List RowW} (h:AbW w base gA nD L) (hb:Below w.heap.size w w'):AbW w' base gA nD L:=
 ⟨h.len,(hb.block gA (Array.getElem?_eq_some_iff.1 h.blk).1).trans h.blk,fun j x hx=>ownsRow_below (h.own j x hx) hb,h.dis⟩
theorem AbW.begin (w:World) (base n:Nat) (t:TypeId) (ht:t=34):AbW (w.alloc (.cells (List.replicate n (.slice none 0 0)).toArray t)) base w.heap.size n (List.replicate n ⟨[],none,0,0⟩):=by
 subst ht
 have hm:∀ (j:Nat) x,(List.replicate n (⟨[],none,0,0⟩:RowW))[j]?=some x→x=⟨[],none,0,0⟩:=fun j x h=>List.eq_of_mem_replicate (List.mem_of_getElem? h)
 refine ⟨by simp,?_,fun j x h=>?_,fun i j x y _ h k g hg=>?_⟩
 ·
  rw [heap_alloc_new];simp
 ·
  rw [hm j x h];exact World.ownsRow_nil _ _ _ _
 ·
  rw [hm i x h] at hg;cases hg
theorem heap_setCell {w:World} {b i:Nat} {cs:Array Value} {t:TypeId} {fr:Nat×Nat} (h:w.heap[b]?=some (.cells cs t fr)) (v:Value):(w.setCell ⟨b,i,none⟩ v).heap[b]?=some (.cells (cs.setIfInBounds i v) t fr):=by
 simp [World.setCell,Array.getElem?_modify,h]
theorem AbW.stored {w6 wp w7:World} {s nD j zn cap g H:Nat} {zc:Nat} {zA:Option Addr} {L:List RowW} {xs ys:List Int} {m:Nat} (h:AbW w6 (s+2) (s+1) nD L) (hz:L[j]?=some ⟨xs,zA,zn,zc⟩) (hb:Below w6.heap.size w6 wp)
  (hg:wp.grownBy w7 (Value.slice zA zn zc).ownBlock) (hown:w7.ownsRow (s+2) 3 1 (.slice (some ⟨g,0,none⟩) m cap) m (i64s ys)) (hat:(Value.slice zA zn zc).ownBlock=some g∨g=H) (hH:wp.heap.size=H) (hs:s+2≤w6.heap.size) :
  Below (s+2) w6 w7∧w7.cell? ⟨s+1,j,none⟩=some (.slice zA zn zc)∧w7.frozen? ⟨s+1,j,none⟩=false∧AbW (w7.setCell ⟨s+1,j,none⟩ (.slice (some ⟨g,0,none⟩) m cap)) (s+2) (s+1) nD (L.set j ⟨ys,some ⟨g,0,none⟩,m,cap⟩)∧Below (s+1) w6 (w7.setCell ⟨s+1,j,none⟩ (.slice (some ⟨g,0,none⟩) m cap))∧s+2≤(w7.setCell ⟨s+1,j,none⟩ (.slice (some ⟨g,0,none⟩) m cap)).heap.size:=by
 have hjl:=(List.getElem?_eq_some_iff.1 hz).1
 have hrow:=ownsRow_below (h.own j _ hz) hb
 have hob:∀ k,(Value.slice zA zn zc).ownBlock=some k→s+2≤k:=fun k hk=>(hrow.lt k hk).1
 have hbp:=hb.size
 have hblk6:s+1 < wp.heap.size:=by omega
 have hb7:w7.heap[s+1]?=some (.cells (L.map rowV).toArray 34 (0,0)):=
  (hg.block (s+1) hblk6 (fun e=>by have:=hob _ e.symm;omega)).trans ((hb.block _ (by omega)).trans h.blk)
 have hset:=heap_setCell (i:=j) hb7 (.slice (some ⟨g,0,none⟩) m cap)
 have hgl:s+2≤g:=by
  rcases hat with e | e
  ·
   exact hob g e
  ·
   omega
 have hlow:Below (s+2) w6 w7:=(hb.mono (by omega)).grown hg (by omega) hob
 refine ⟨hlow,(cell_of_row w7 (s+1) j _ _ (0,0) hb7).trans (by simp [hz]),by simp [World.frozen?,hb7],⟨by rw [List.length_set,h.len],?_,fun i x hx=>?_,fun i k x y hik hx hy q hq=>?_⟩,?_,?_⟩
 ·
  rw [hset]
  congr 1
  congr 1
  apply Array.ext'
  simp [List.map_set]
 ·
  rw [List.getElem?_set] at hx
  by_cases e:j=i
  ·
   subst e
   rw [if_pos rfl,if_pos hjl] at hx
   injection hx with hx
   subst hx
   exact ownsRow_setCell_below hown (a:=⟨s+1,j,none⟩) (show s+1 < s+2 by omega) _
  ·
   rw [if_neg e] at hx
   have h1:=ownsRow_below (h.own i x hx) hb
   have h2:=h1.kept hg (by
    rcases h1.2 with ⟨e0,_⟩ | ⟨g',cap',cur,e0,_⟩
    ·
     left;rw [e0];rfl
    ·
     right
     intro e'
     have e1:(rowV x).ownBlock=some g':=by rw [e0];rfl
     exact h.dis i j x _ (fun e2=>e e2.symm) hx hz g' e1 (by rw [←e',← e1]))
   exact ownsRow_setCell_below h2 (a:=⟨s+1,j,none⟩) (show s+1 < s+2 by omega) _
 ·
  rw [List.getElem?_set] at hx hy
  have oldlt:∀ i x,L[i]?=some x→∀ q,(rowV x).ownBlock=some q→q < w6.heap.size:=fun i x hx q hq=>((h.own i x hx).lt q hq).2
  by_cases e1:j=i
  ·
   subst e1
   rw [if_pos rfl,if_pos hjl] at hx
   injection hx with hx
   subst hx
   rw [if_neg hik] at hy
   have eq:q=g:=by have:some g=some q:=hq;injection this with this;exact this.symm
   subst eq
   rcases hat with e | e
   ·
    exact h.dis j k _ y hik hz hy q e
   ·
    intro e3
    have:=oldlt k y hy q e3
    omega
  ·
   rw [if_neg e1] at hx
   by_cases e2:j=k
   ·
    subst e2
    rw [if_pos rfl,if_pos hjl] at hy
    injection hy with hy
    subst hy
    intro e3
    have eq:q=g:=by have:some g=some q:=e3;injection this with this;exact this.symm
    subst eq
    rcases hat with e | e
    ·
     exact h.dis i j x _ hik hx hz q hq e
    ·
     have:=oldlt i x hx q hq
     omega
   ·
    rw [if_neg e2] at hy
    exact h.dis i k x y hik hx hy q hq
 ·
  exact (hlow.mono (show s+1≤s+2 by omega)).setCell (p:=⟨s+1,j,none⟩) (Nat.le_refl _) _
 ·
  have:=hlow.size
  simp [World.setCell]
  omega
def ownX (X:Nat) (w:World):Option Nat:=match w.cell? ⟨X,0,none⟩ with
 | some v=>v.ownBlock
 | none=>none
theorem ownX_of {X:Nat} {w:World} {v:Value} (h:w.cell? ⟨X,0,none⟩=some v):ownX X w=v.ownBlock:=by unfold ownX;rw [h]
theorem ownX_eq {X:Nat} {w w':World} (h:w'.cell? ⟨X,0,none⟩=w.cell? ⟨X,0,none⟩):ownX X w'=ownX X w:=by unfold ownX;rw [h]
theorem cells_at {w:World} {b i:Nat} {v:Value} (h:w.cell? ⟨b,i,none⟩=some v):∃ cs t fr,w.heap[b]?=some (.cells cs t fr):=by
 obtain ⟨o,ho,hc⟩:=cells_of_cell h
 cases o with
 | cells cs t fr=>exact ⟨cs,t,fr,ho⟩
 | _=>cases hc
structure KeepX (base X:Nat) (W W':World):Prop where
 low:Below base W W'
 cells:∀ k cs t fr,W.heap[k]?=some (.cells cs t fr)→k≠X→some k≠ownX X W→W'.heap[k]?=some (.cells cs t fr)
 own:ownX X W'=ownX X W∨∃ g,ownX X W'=some g∧W.heap.size≤g
 fits:(∀ g,ownX X W=some g→g < W.heap.size)→∀ g,ownX X W'=some g→g < W'.heap.size
 walks:∀ (k:Nat) (o:Obj),W.heap[k]?=some o→o.isWalk=true→W'.heap[k]?=some o
theorem KeepX.trans {base X:Nat} {A B C:World} (h:KeepX base X A B) (k:KeepX base X B C):KeepX base X A C:=by
 refine ⟨h.low.trans k.low,fun b cs t fr hb hX hO=>?_,?_,fun hf=>k.fits (h.fits hf),fun b o hb ho=>k.walks b o (h.walks b o hb ho) ho⟩
 ·
  have h1:=h.cells b cs t fr hb hX hO
  refine k.cells b cs t fr h1 hX ?_
  rcases h.own with e | ⟨g,e,hg⟩
  ·
   rw [e];exact hO
  ·
   rw [e]
   intro e'
   injection e' with e'
   have:=(Array.getElem?_eq_some_iff.1 hb).1
   omega
 ·
  rcases k.own with e | ⟨g,e,hg⟩
  ·
   rw [e];exact h.own
  ·
   exact .inr ⟨g,e,Nat.le_trans h.low.size hg⟩
theorem KeepX.of_below {base X:Nat} {W W':World} (h:Below W.heap.size W W') (hb:base≤W.heap.size) (hX:X < W.heap.size):KeepX base X W W':=by
 have e:ownX X W'=ownX X W:=ownX_eq (h.cell (p:=⟨X,0,none⟩) hX)
 exact ⟨h.mono hb,fun k cs t fr hk _ _=>(h.block k (Array.getElem?_eq_some_iff.1 hk).1).trans hk,.inl e,fun hf g hg=>Nat.lt_of_lt_of_le (hf g (by rw [←e];exact hg)) h.size,fun k o hk _=>(h.block k (Array.getElem?_eq_some_iff.1 hk).1).trans hk⟩
theorem KeepX.put {base X:Nat} {w:World} (hn:base≤w.heap.size) (hX:X < w.heap.size) (W:World) (l:Nat) (o o':Obj) (hl:w.heap.size≤l) (h:W.heap[l]?=some o) (hc:o.isCells=false) (hw:o.isWalk=false):KeepX base X W (W.putObj l o'):=by
 have hb:=belowK_b hn W l o o' hl h hc hw
 have hbX:=belowK_b (Nat.le_refl w.heap.size) W l o o' hl h hc hw
 have e:ownX X (W.putObj l o')=ownX X W:=ownX_eq (hbX.cell (p:=⟨X,0,none⟩) hX)
 refine ⟨hb,fun k cs t fr hk _ _=>((grownBy_putObj' W l o').block k (Array.getElem?_eq_some_iff.1 hk).1 (fun e=>by
  injection e with e
  subst e
  rw [h] at hk
  injection hk with hk
  subst hk
  cases hc)).trans hk,.inl e,fun hf g hg=>Nat.lt_of_lt_of_le (hf g (by rw [←e];exact hg)) hb.size,fun k o2 hk ho=>((grownBy_putObj' W l o').block k (Array.getElem?_eq_some_iff.1 hk).1 (fun e=>by
  injection e with e
  subst e
  rw [h] at hk
  injection hk with hk
  subst hk
  rw [hw] at ho
  cases ho)).trans hk⟩
theorem KeepX.cell {base X:Nat} {W W':World} (h:KeepX base X W W') {b i:Nat} {v:Value} (hc:W.cell? ⟨b,i,none⟩=some v) (hX:b≠X) (hO:some b≠ownX X W):W'.cell? ⟨b,i,none⟩=some v:=by
 obtain ⟨cs,t,fr,hh⟩:=cells_at hc
 exact (World.cell?_of_block (w:=W) (a:=⟨b,i,none⟩) ((h.cells b cs t fr hh hX hO).trans hh.symm)).trans hc
structure ItX (n X:Nat) (W W':World):Prop where
 low:Below n W W'
 own:∀ g,ownX X W=some g→g < W.heap.size→W'.heap[g]?=W.heap[g]?
theorem ItX.of_below {n X:Nat} {W W':World} (h:Below W.heap.size W W') (hn:n≤W.heap.size):ItX n X W W':=⟨h.mono hn,fun g _ hg=>h.block g hg⟩
theorem ItX.of_grown {n X:Nat} {W W':World} {row:Option Nat} (h:W.grownBy W' row) (hn:n≤W.heap.size) (hr:∀ k,row=some k→n≤k∧some k≠ownX X W):ItX n X W W':=
 ⟨(Below.refl n W).grown h hn (fun k e=>(hr k e).1),fun g hg hl=>h.block g hl (fun e=>(hr g e.symm).2 hg.symm)⟩
def SeqX (n:Nat) (P:Program) (g:Nat) (lb:Array Value) (base X:Nat) (S Sp:List Int→Prop) (N:Nat) (w:World):Prop:=
 ∀ (l:Nat) (J Jx:List Int→World→Prop) (W:World),Below w.heap.size w W→ownX X W=none→X < W.heap.size →
  (∀ s A B,J s A→ItX W.heap.size X A B→J s B)→(∀ s A B,Jx s A→ItX W.heap.size X A B→Jx s B) →
  (∀ pre x W1,J pre W1→pre.length < N→YieldAt Fence.wide (n - 1) P l #[.int .i64 x] W1 fun e W'=>
   (e=.returned (.bool true)∧J (pre++[x]) W'∧KeepX base X W1 W')∨(e=.returned (.bool false)∧Jx (pre++[x]) W')) →
  J [] W →
  CallsIn Fence.wide n P g (#[.func (.yield l) #[] #[]]++lb) W fun e W'=>(∃ v,e=.returned v)∧((∃ xs,S xs∧J xs W')∨(∃ pre,Sp pre∧Jx pre W'))
def StaysX {β:Type} (B X:Nat) (I:β→World→Prop):Prop:=∀ s A C,I s A→ItX B X A C→I s C
theorem wpIn_rangeFunc_X {n:Nat} {P:Program} {g:Operand} {p:Tmp} {assign body:Code} {Q:Exit→Act→World→Prop} {a:Act} {w:World}
    (h1:1≤n) {gf:Nat} {lb:Array Value} (hg:a.eval g=.func (.func gf) #[] lb) (eg:∀ args w,(callFunc gf args).run P w=.ok (.enter gf args) w)
    {base X:Nat} {S Sp:List Int→Prop} {N:Nat} {w0:World} (hseq:SeqX (n - 1) P gf lb base X S Sp N w0) (hb0:Below w0.heap.size w0 w) (hbase:base≤w.heap.size) (hX:X < w.heap.size) (hO:ownX X w=none)
    (I:List Int→World→Prop) (Ix:Code→List Int→World→Prop) (hI:OwnFrom w.heap.size I) (hIx:∀ c,OwnFrom w.heap.size (Ix c)) (hS:StaysX (w.heap.size+2) X I) (hSx:∀ c,StaysX (w.heap.size+2) X (Ix c)) (h0:I [] w) (a₁:Int→Act)
    (hassign:∀ (l:Nat) (x:Int) (W:World) (K:Act→World→Prop),K (a₁ x) W →
      assign.wpIn (Fence.wide.inRound l) (n - 1 - 1) P (Exit.then K (fun _ _ _=>False)) { tmps:=((#[p]:Array Tmp).zip (#[.int .i64 x]:Array Value)).foldl (fun t (p,v)=>t.setIfInBounds p v) a.tmps,defers:=[] } W)
    (hbody:∀ (l:Nat) (pre:List Int) (x:Int) (W:World),I pre W→pre.length < N→body.wpIn (Fence.wide.inRound l) (n - 1 - 1) P (ownPostG w.heap.size (KeepX base X) I Ix (pre++[x]) W) (a₁ x) W)
    (hdone:∀ (D:Nat) (xs:List Int) (W:World),w.heap.size≤D→S xs→I xs W→W.heap[D]?=some (.deferred (some []))→Q .normal { a with defers:={ target:=.collected D,args:=#[] } :: a.defers } W)
    (hstop:∀ (D:Nat) (c:Code) (pre:List Int) (W:World),w.heap.size≤D→Sp pre→Ix c pre W→W.heap[D]?=some (.deferred (some []))→c.wpIn Fence.wide n P Q { a with defers:={ target:=.collected D,args:=#[] } :: a.defers } W) :
    (Code.rangeFunc g #[p] assign body).wpIn Fence.wide n P Q a w:=by
  refine wpIn_rangeFunc ?_
  intro fn hfn
  obtain ⟨rec,hrec⟩:∃ rec:LoopState→Option Code→Loop,rec=fun st pe=>{ state:=st,pending:=pe,fn,tmps:=a.tmps,params:=#[p],assign,body,defers:=w.heap.size }:=⟨_,rfl⟩
  obtain ⟨W1,hW1⟩:∃ W1,(w.alloc (.deferred (some []))).alloc (.loop (rec .ready none))=W1:=⟨_,rfl⟩
  have hsz:W1.heap.size=w.heap.size+2:=by rw [←hW1];simp
  have hL1:W1.heap[w.heap.size+1]?=some (.loop (rec .ready none)):=by
    rw [←hW1];have:=World.alloc_heap_new (w.alloc (.deferred (some []))) (.loop (rec .ready none));rwa [World.size_alloc] at this
  have hK1:W1.heap[w.heap.size]?=some (.deferred (some [])):=by
    rw [←hW1];exact (Below.heap_alloc _ _ _ (by simp)).trans (World.alloc_heap_new w _)
  have hI1:I [] W1:=by rw [←hW1];exact hI.alloc _ (hI.alloc _ h0)
  have hbw:Below w.heap.size w W1:=by rw [←hW1];exact ((Below.refl _ w).alloc (Nat.le_refl _) _).alloc (by simp) _
  refine ⟨w.heap.size+1,[{ target:=.collected w.heap.size,args:=#[] }],W1,{ target:=.fn (.func gf) lb,args:=#[.func (.yield (w.heap.size+1)) #[] #[]] },W1,gf,
    #[.func (.yield (w.heap.size+1)) #[] #[]]++lb,W1,?_,?_,fun _ _=>trivial,?_,fun _=>h1,?_⟩
  · rw [←hW1,hrec];exact run_enterLoop_outer _ _ _ _ _
  · simp only [resolve,hg]
    simp [go_sem]
  · simp [invoke,go_sem,eg]
  refine (hseq (w.heap.size+1)
    (fun pre W=>I pre W∧W.heap[w.heap.size+1]?=some (.loop (rec .ready none))∧W.heap[w.heap.size]?=some (.deferred (some [])))
    (fun pre W=>∃ c,Ix c pre W∧W.heap[w.heap.size+1]?=some (.loop (rec .done (some c)))∧W.heap[w.heap.size]?=some (.deferred (some [])))
    W1 (hb0.trans (hbw.mono hb0.size)) ((ownX_eq (hbw.cell (p:=⟨X,0,none⟩) hX)).trans hO) (by omega)
    (fun s A B hs hi=>⟨hS s A B hs.1 (hsz ▸ hi),(hi.low.block _ (by omega)).trans hs.2.1,(hi.low.block _ (by omega)).trans hs.2.2⟩)
    (fun s A B hs hi=>by
      obtain ⟨c,hc,hl,hk⟩:=hs
      exact ⟨c,hSx c s A B hc (hsz ▸ hi),(hi.low.block _ (by omega)).trans hl,(hi.low.block _ (by omega)).trans hk⟩)
    ?_ ⟨hI1,hL1,hK1⟩).mono ?_
  · rintro pre x W ⟨hi,hl,hk⟩ hlen
    have hlt:w.heap.size+1 < W.heap.size:=(Array.getElem?_eq_some_iff.1 hl).1
    have hy:=run_yield (P:=P) (args:=#[.int .i64 x]) hl (by rw [hrec];rfl)
    rw [hrec] at hy
    refine ⟨fn,_,assign,body,hy,roundIn_of_wpIn hfn (hassign _ x W _ ⟨_,run_beginRound hl (by rw [hrec]),?_⟩)⟩
    have hl2:(W.putObj (w.heap.size+1) (.loop { rec .ready none with state:=.busy })).heap[w.heap.size+1]?=some (.loop { rec .ready none with state:=.busy }):=World.putObj_heap_same hlt
    have hk2:(W.putObj (w.heap.size+1) (.loop { rec .ready none with state:=.busy })).heap[w.heap.size]?=some (.deferred (some [])):=(World.putObj_heap_other (by omega)).trans hk
    have hw2:KeepX base X W (W.putObj (w.heap.size+1) (.loop { rec .ready none with state:=.busy })):=KeepX.put hbase hX _ _ _ _ (by omega) hl rfl rfl
    refine wpIn_mono (hbody _ pre x _ (hI.putObj _ hi (by omega) hl rfl) hlen) ?_
    have fin:∀ (jump:Option Code) (W3:World),KeepsFrom w.heap.size (W.putObj (w.heap.size+1) (.loop { rec .ready none with state:=.busy })) W3 →
        (Instr.endRound (w.heap.size+1) jump).run P W3=.ok (.bool jump.isNone) (W3.putObj (w.heap.size+1) (.loop (rec (if jump.isNone then .ready else .done) jump))) ∧
        W3.heap[w.heap.size+1]?=some (.loop { rec .ready none with state:=.busy }) ∧
        (W3.putObj (w.heap.size+1) (.loop (rec (if jump.isNone then .ready else .done) jump))).heap[w.heap.size+1]?=some (.loop (rec (if jump.isNone then .ready else .done) jump)) ∧
        (W3.putObj (w.heap.size+1) (.loop (rec (if jump.isNone then .ready else .done) jump))).heap[w.heap.size]?=some (.deferred (some [])):=fun jump W3 hk3=>by
      have hl3:=hk3.same _ _ (by omega) hl2 rfl
      have:=run_endRound (P:=P) jump hl3
      rw [hrec] at this ⊢
      exact ⟨this,by rw [hrec] at hl3;exact hl3,World.putObj_heap_same (Array.getElem?_eq_some_iff.1 hl3).1,(World.putObj_heap_other (by omega)).trans (hk3.same _ _ (Nat.le_refl _) hk2 rfl)⟩
    rintro e a3 W3 hp
    cases e with
    | normal=>
      obtain ⟨hk3,hkp3,hi3⟩:=hp
      obtain ⟨hr,hl3,hl4,hk4⟩:=fin none W3 hk3
      exact ⟨_,_,hr,.inl ⟨rfl,⟨hI.putObj _ hi3 (by omega) hl3 rfl,hl4,hk4⟩,(hw2.trans hkp3).trans (KeepX.put hbase hX _ _ _ _ (by omega) hl3 rfl rfl)⟩⟩
    | ret=>
      obtain ⟨hk3,hi3⟩:=hp
      obtain ⟨hr,hl3,hl4,hk4⟩:=fin (some .ret) W3 hk3
      exact ⟨_,_,hr,.inr ⟨rfl,.ret,(hIx _).putObj _ hi3 (by omega) hl3 rfl,hl4,hk4⟩⟩
    | exit id=>
      obtain ⟨hk3,hi3⟩:=hp
      obtain ⟨hr,hl3,hl4,hk4⟩:=fin (some (.exit id)) W3 hk3
      exact ⟨_,_,hr,.inr ⟨rfl,.exit id,(hIx _).putObj _ hi3 (by omega) hl3 rfl,hl4,hk4⟩⟩
    | goto t=>
      obtain ⟨hk3,hi3⟩:=hp
      obtain ⟨hr,hl3,hl4,hk4⟩:=fin (some (.goto t)) W3 hk3
      exact ⟨_,_,hr,.inr ⟨rfl,.goto t,(hIx _).putObj _ hi3 (by omega) hl3 rfl,hl4,hk4⟩⟩
    | panic ch=>exact hp.elim
    | outgrown=>exact hp.elim
  · rintro e W2 ⟨⟨v,rfl⟩,(⟨xs,hS,hi,hl,hk⟩ | ⟨pre,hSp,c,hi,hl,hk⟩)⟩
    · exact ⟨none,_,by have:=run_endLoop (P:=P) hl (by rw [hrec];simp);rw [hrec] at this;exact this,hdone _ xs _ (Nat.le_refl _) hS (hI.putObj _ hi (by omega) hl rfl) ((World.putObj_heap_other (by omega)).trans hk)⟩
    · exact ⟨some c,_,by have:=run_endLoop (P:=P) hl (by rw [hrec];simp);rw [hrec] at this;exact this,hstop _ c pre _ (Nat.le_refl _) hSp ((hIx c).putObj _ hi (by omega) hl rfl) ((World.putObj_heap_other (by omega)).trans hk)⟩
end Go.Proofs.YteeemjmohjkdpaaGreatDoor
namespace Go.Proofs.YteeemjmohjkdpaaGreatDoor
open Go.RowKit Go.Shelf
attribute [local go_sem] Oper.semAt_some
def RdX (B X:Nat) (w:World) (A:Option Addr) (n:Nat) (xs:List Int):Prop:=
 xs.length=n∧(0 < n→∃ b o,A=some ⟨b,o,none⟩∧b < B∧b≠X∧some b≠ownX X w∧∀ j x,xs[j]?=some x→w.cell? ⟨b,o+j,none⟩=some (.int .i64 x))
theorem RdX.at_ {B X:Nat} {w:World} {A:Option Addr} {n:Nat} {xs:List Int} (h:RdX B X w A n xs) {j:Nat} {x:Int} (hx:xs[j]?=some x):∃ b o,A=some ⟨b,o,none⟩∧b < B∧b≠X∧some b≠ownX X w∧w.cell? ⟨b,o+j,none⟩=some (.int .i64 x):=by
 obtain ⟨b,o,h1,h2,h3,h4,h5⟩:=h.2 (by have:=(List.getElem?_eq_some_iff.1 hx).1;have:=h.1;omega)
 exact ⟨b,o,h1,h2,h3,h4,h5 j x hx⟩
theorem own_after {base X:Nat} {W W':World} (h:KeepX base X W W') {b:Nat} (hb:b < W.heap.size) (hO:some b≠ownX X W):some b≠ownX X W':=by
 rcases h.own with e | ⟨g,e,hg⟩
 ·
  rw [e];exact hO
 ·
  rw [e];intro e';injection e' with e';omega
theorem RdX.keep {B X base:Nat} {w w':World} {A:Option Addr} {n:Nat} {xs:List Int} (h:RdX B X w A n xs) (hk:KeepX base X w w') (hB:B≤w.heap.size):RdX B X w' A n xs:=
 ⟨h.1,fun hn=>by
  obtain ⟨b,o,h1,h2,h3,h4,h5⟩:=h.2 hn
  exact ⟨b,o,h1,h2,h3,own_after hk (by omega) h4,fun j x hx=>hk.cell (h5 j x hx) h3 h4⟩⟩
theorem RdX.low {B X:Nat} {w w':World} {A:Option Addr} {n:Nat} {xs:List Int} (h:RdX B X w A n xs) (hb:Below B w w') (hX:X < B):RdX B X w' A n xs:=by
 have e:ownX X w'=ownX X w:=ownX_eq (hb.cell (p:=⟨X,0,none⟩) hX)
 exact ⟨h.1,fun hn=>by
  obtain ⟨b,o,h1,h2,h3,h4,h5⟩:=h.2 hn
  exact ⟨b,o,h1,h2,h3,by rw [e];exact h4,fun j x hx=>(hb.cell (p:=⟨b,o+j,none⟩) h2).trans (h5 j x hx)⟩⟩
structure SrW (base n₀ X gF:Nat) (W0 w:World) (F:List Bool) (v:Value) (m:Nat) (W:List Int):Prop where
 low:Below base W0 w
 fnd:w.heap[gF]?=some (.cells (F.map Value.bool).toArray 4 (0,0))
 own:w.ownsRow (gF+1) 3 1 v m (i64s W)
 ox:∀ g,ownX X w=some g→n₀≤g∧g < w.heap.size∧g≠gF∧v.ownBlock≠some g
section
variable {base n₀ X gF:Nat} {W0 w w':World} {F:List Bool} {v:Value} {m:Nat} {W:List Int}
theorem SrW.lt (h:SrW base n₀ X gF W0 w F v m W):gF < w.heap.size:=(Array.getElem?_eq_some_iff.1 h.fnd).1
theorem SrW.keep (h:SrW base n₀ X gF W0 w F v m W) (hk:KeepX base X w w') (hn:n₀≤gF) (hX:X < n₀):SrW base n₀ X gF W0 w' F v m W:=by
 have hl:=h.lt
 have hO:some gF≠ownX X w:=fun e=>(h.ox gF e.symm).2.2.1 rfl
 refine ⟨h.low.trans hk.low,hk.cells gF _ _ _ h.fnd (by omega) hO,⟨h.own.1,?_⟩,fun g hg=>?_⟩
 ·
  rcases h.own.2 with hv | ⟨g,cap,cur,e,hb,hgg,rest⟩
  ·
   exact .inl hv
  ·
   refine .inr ⟨g,cap,cur,e,hb,hk.cells g _ _ _ hgg (by omega) (fun e2=>?_),rest⟩
   exact (h.ox g e2.symm).2.2.2 (by rw [e];rfl)
 ·
  have hf:=hk.fits (fun g hg=>(h.ox g hg).2.1) g hg
  rcases hk.own with e | ⟨g',e,hg'⟩
  ·
   rw [e] at hg
   have:=h.ox g hg
   exact ⟨this.1,hf,this.2.2⟩
  ·
   rw [e] at hg
   injection hg with hg
   subst hg
   exact ⟨by omega,hf,by omega,fun e2=>by have:=(h.own.lt g' e2).2;omega⟩
theorem SrW.cell (h:SrW base n₀ X gF W0 w F v m W) {i:Nat} {b:Bool} (hb:F[i]?=some b):w.cell? ⟨gF,i,none⟩=some (.bool b)∧w.frozen? ⟨gF,i,none⟩=false:=
 ⟨(cell_of_row w gF i _ _ (0,0) h.fnd).trans (by simp [hb]),by simp [World.frozen?,h.fnd]⟩
theorem SrW.alloc (h:SrW base n₀ X gF W0 w F v m W) (hX:X < w.heap.size) (hbl:Below w.heap.size w w') (hb:base≤w.heap.size):SrW base n₀ X gF W0 w' F v m W:=by
 have e:ownX X w'=ownX X w:=ownX_eq (hbl.cell (p:=⟨X,0,none⟩) hX)
 refine ⟨h.low.trans (hbl.mono hb),(hbl.block _ h.lt).trans h.fnd,ownsRow_below h.own hbl,fun g hg=>?_⟩
 rw [e] at hg
 have:=h.ox g hg
 exact ⟨this.1,Nat.lt_of_lt_of_le this.2.1 hbl.size,this.2.2⟩
end
end Go.Proofs.YteeemjmohjkdpaaGreatDoor
namespace Go.Proofs.YteeemjmohjkdpaaGreatDoor
open Go.RowKit Go.Shelf
attribute [local go_sem] Oper.semAt_some
theorem i64app2 {w:World} {base n:Nat} {e:TypeId} {v:Value} {xs ys:List Int} (h:w.ownsRow base e 1 v n (i64s xs++i64s ys)):w.ownsRow base e 1 v n (i64s (xs++ys)):=by rw [←List.map_append] at h;exact h
end Go.Proofs.YteeemjmohjkdpaaGreatDoor
namespace Go.Proofs.YteeemjmohjkdpaaGreatDoor
open Go.RowKit Go.Shelf
attribute [local go_sem] Oper.semAt_some
theorem RdX.more {B B' X:Nat} {w:World} {A:Option Addr} {n:Nat} {xs:List Int} (h:RdX B X w A n xs) (hB:B≤B'):RdX B' X w A n xs:=
 ⟨h.1,fun hn=>by
  obtain ⟨b,o,h1,h2,h3⟩:=h.2 hn
  exact ⟨b,o,h1,by omega,h3⟩⟩
theorem way_undeclared {ps:List Pr} {a b:Int} (h:Way ps a b) (hb:∀ p∈ps,b≠p.2):a=b:=by
 induction h with
 | refl=>rfl
 | @step a c b m w ih=>
  have e:=ih hb
  subst e
  exact absurd rfl (hb _ m)
structure SeU (base n₀ X:Nat) (W0 w:World) (v:Value) (m:Nat) (S:List Int):Prop where
 low:Below base W0 w
 size:n₀≤w.heap.size
 own:w.ownsRow n₀ 3 1 v m (i64s S)
 ox:∀ g,ownX X w=some g→n₀≤g∧g < w.heap.size∧v.ownBlock≠some g
section
variable {base n₀ X:Nat} {W0 w w':World} {v:Value} {m:Nat} {S:List Int}
theorem SeU.keep (h:SeU base n₀ X W0 w v m S) (hk:KeepX base X w w') (hX:X < n₀):SeU base n₀ X W0 w' v m S:=by
 refine ⟨h.low.trans hk.low,Nat.le_trans h.size hk.low.size,⟨h.own.1,?_⟩,fun g hg=>?_⟩
 ·
  rcases h.own.2 with hv | ⟨g,cap,cur,e,hb,hgg,rest⟩
  ·
   exact .inl hv
  ·
   refine .inr ⟨g,cap,cur,e,hb,hk.cells g _ _ _ hgg (by omega) (fun e2=>?_),rest⟩
   exact (h.ox g e2.symm).2.2 (by rw [e];rfl)
 ·
  have hf:=hk.fits (fun g hg=>(h.ox g hg).2.1) g hg
  rcases hk.own with e | ⟨g',e,hg'⟩
  ·
   rw [e] at hg
   have:=h.ox g hg
   exact ⟨this.1,hf,this.2.2⟩
  ·
   rw [e] at hg
   injection hg with hg
   subst hg
   have:=h.size
   exact ⟨by omega,hf,fun e2=>by have:=(h.own.lt g' e2).2;omega⟩
theorem SeU.alloc (h:SeU base n₀ X W0 w v m S) (hX:X < n₀) (hbl:Below w.heap.size w w') (hb:base≤n₀):SeU base n₀ X W0 w' v m S:=by
 have hs:=h.size
 have e:ownX X w'=ownX X w:=ownX_eq (hbl.cell (p:=⟨X,0,none⟩) (show X < w.heap.size by omega))
 refine ⟨h.low.trans (hbl.mono (by omega)),Nat.le_trans hs hbl.size,ownsRow_below h.own hbl,fun g hg=>?_⟩
 rw [e] at hg
 have:=h.ox g hg
 exact ⟨this.1,Nat.lt_of_lt_of_le this.2.1 hbl.size,this.2.2⟩
theorem SeU.rd (h:SeU base n₀ X W0 w v m S) (hX:X < n₀) {A:Option Addr} {c:Nat} (hv:v=.slice A m c):RdX w.heap.size X w A m S:=by
 subst hv
 have hr:=Rd.of_own h.own
 refine ⟨hr.ilen,fun hn=>?_⟩
 obtain ⟨b,o,e,hb,hc⟩:=hr.2 hn
 subst e
 have hbn:n₀≤b:=(h.own.lt b rfl).1
 exact ⟨b,o,rfl,hb,by omega,fun e2=>(h.ox b e2.symm).2.2 rfl,fun j x hx=>hc j _ (by rw [List.getElem?_map,hx];rfl)⟩
end
structure Ls (ps:List Pr) (rg:Int) (D l:List Int) (k:Nat) (S pre:List Int):Prop where
 few:pre.length≤k
 good:∀ a∈pre,OutL ps rg l a
 all:∀ (t:Nat) b,t < k→l[t]?=some b→b∉D→0≤b→b < rg→b∈pre
 rng:∀ x∈S,(0≤x∧x < (D.length:Int))∧∀ a,D[x.toNat]?=some a→a∈l
 dec:∀ (t:Nat) b (i:Nat),t < k→l[t]?=some b→D[i]?=some b→(i:Int)∈S
section
variable {ps:List Pr} {rg:Int} {D l:List Int} {k:Nat} {S pre:List Int}
theorem Ls.begin:Ls ps rg D l 0 [] []:=⟨Nat.le_refl _,(fun a h=>by cases h),(fun t b h=>absurd h (Nat.not_lt_zero _)),(fun x h=>by cases h),fun t b i h=>absurd h (Nat.not_lt_zero _)⟩
theorem Ls.other (h:Ls ps rg D l k S pre) {b:Int} (hb:l[k]?=some b) (hi:b∉D) (hr:¬(0≤b∧b < rg)):Ls ps rg D l (k+1) S pre:=by
 refine ⟨by have:=h.few;omega,h.good,fun t c ht hc hn h0 h1=>?_,h.rng,fun t c j ht hc hj=>?_⟩
 ·
  rcases Nat.lt_or_ge t k with h2 | h2
  ·
   exact h.all t c h2 hc hn h0 h1
  ·
   obtain rfl:t=k:=by omega
   rw [hb] at hc;injection hc with hc;subst hc
   exact absurd ⟨h0,h1⟩ hr
 ·
  rcases Nat.lt_or_ge t k with h2 | h2
  ·
   exact h.dec t c j h2 hc hj
  ·
   obtain rfl:t=k:=by omega
   rw [hb] at hc;injection hc with hc;subst hc
   exact absurd (List.mem_of_getElem? hj) hi
theorem Ls.yielded (h:Ls ps rg D l k S pre) {b:Int} (hb:l[k]?=some b) (hi:b∉D) (hr:0≤b∧b < rg):Ls ps rg D l (k+1) S (pre++[b]):=by
 refine ⟨by have:=h.few;simp;omega,fun a ha=>?_,fun t c ht hc hn h0 h1=>?_,h.rng,fun t c j ht hc hj=>?_⟩
 ·
  rcases List.mem_append.1 ha with ha | ha
  ·
   exact h.good a ha
  ·
   have e:a=b:=by simpa using ha
   subst e
   exact ⟨a,List.mem_of_getElem? hb,Out.refl hr⟩
 ·
  rcases Nat.lt_or_ge t k with h2 | h2
  ·
   exact List.mem_append_left _ (h.all t c h2 hc hn h0 h1)
  ·
   obtain rfl:t=k:=by omega
   rw [hb] at hc;injection hc with hc;subst hc
   simp
 ·
  rcases Nat.lt_or_ge t k with h2 | h2
  ·
   exact h.dec t c j h2 hc hj
  ·
   obtain rfl:t=k:=by omega
   rw [hb] at hc;injection hc with hc;subst hc
   exact absurd (List.mem_of_getElem? hj) hi
theorem Ls.end_ {ab:List (List Int)} (h:Ls ps rg D l k S pre) (hk:l.length≤k) (hr:RelD ps rg D ab) (hok:PrOk ps rg) {ys:List Int} (h1:∀ a∈ys,OutL ps rg l a) (h2:∀ s∈S,∀ b,D[s.toNat]?=some b→∀ a,Way ps a b→a∈ys):∀ a,a∈pre++ys↔OutL ps rg l a:=by
 intro a
 constructor
 ·
  intro ha
  rcases List.mem_append.1 ha with ha | ha
  ·
   exact h.good a ha
  ·
   exact h1 a ha
 ·
  rintro ⟨b,hb,⟨_,hbr,hw⟩⟩
  obtain ⟨t,ht⟩:=List.getElem?_of_mem hb
  have htl:=(List.getElem?_eq_some_iff.1 ht).1
  by_cases hD:b∈D
  ·
   obtain ⟨i,hi⟩:=List.getElem?_of_mem hD
   exact List.mem_append_right _ (h2 _ (h.dec t b i (by omega) ht hi) b (by rw [Int.toNat_natCast];exact hi) a hw)
  ·
   have e:=way_undeclared hw (fun p hp e=>hD ((hr.mem b).2 ⟨p,hp,.inr e⟩))
   subst e
   exact List.mem_append_left _ (h.all t a (by omega) ht hD hbr.1 hbr.2)
end
end Go.Proofs.YteeemjmohjkdpaaGreatDoor
namespace Go.Proofs.YteeemjmohjkdpaaGreatDoor
open Go.RowKit Go.Shelf
attribute [local go_sem] Oper.semAt_some
theorem block_ownB {W W':World} {row:Option Nat} {B:Nat} {t:TypeId} {v:Value} (h:Boxed W B t v) (hg:W.grownBy W' row) (hr:∀ r,row=some r→∃ o:Obj,W.heap[r]?=some o∧o.isCells=false):Boxed W' B t v:=
 (hg.block B h.lt (fun e'=>by
  obtain ⟨o,ho,hc⟩:=hr B e'.symm
  have h':W.heap[B]?=some (.cells #[v] t (0,0)):=h
  rw [h'] at ho
  injection ho with ho
  subst ho
  cases hc)).trans h
theorem block_low {B n X:Nat} {W W':World} {t:TypeId} {v:Value} (h:Boxed W B t v) (hi:ItX n X W W') (hB:B < n):Boxed W' B t v:=(hi.low.block B hB).trans h
end Go.Proofs.YteeemjmohjkdpaaGreatDoor
namespace Go.Proofs.YteeemjmohjkdpaaGreatDoor
open Go.RowKit Go.Shelf
attribute [local go_sem] Oper.semAt_some
def ColI (W:World) (base:Nat) (v:Value) (ys:List Int):Prop:=W.ownsRow base 3 1 v ys.length (i64s ys)
theorem ColI.own {W W':World} {row:Option Nat} {base:Nat} {v:Value} {ys:List Int} (h:ColI W base v ys) (hg:W.grownBy W' row) (hr:∀ r,row=some r→∃ o:Obj,W.heap[r]?=some o∧o.isCells=false):ColI W' base v ys:=by
 unfold ColI at h ⊢
 refine h.kept hg ?_
 rcases h.2 with ⟨rfl,_⟩ | ⟨g,cap,cur,rfl,_,hgg,_⟩
 ·
  exact .inl rfl
 ·
  refine .inr fun e'=>?_
  obtain ⟨o,ho,hc⟩:=hr g (by rw [←e'];rfl)
  rw [hgg] at ho
  injection ho with ho
  subst ho
  cases hc
theorem ColI.stays {W W':World} {n X base:Nat} {v:Value} {ys:List Int} (h:ColI W base v ys) (hi:ItX n X W W') (hX:W.cell? ⟨X,0,none⟩=some v):ColI W' base v ys:=by
 refine ⟨h.1,?_⟩
 rcases h.2 with hv | ⟨g,cap,cur,e,hb,hgg,rest⟩
 ·
  exact .inl hv
 ·
  have hgl:=(Array.getElem?_eq_some_iff.1 hgg).1
  exact .inr ⟨g,cap,cur,e,hb,(hi.own g (by rw [ownX_of hX,e];rfl) hgl).trans hgg,rest⟩
theorem keepX_app {base X:Nat} {W w1 w2:World} {v v':Value} {n:Nat} {xs:List Value} {t:TypeId} (h1:Below W.heap.size W w1) (hown:w1.ownsRow (X+1) t 1 v n xs) (hX:Boxed W X 34 v) (hg:w1.grownBy w2 v.ownBlock) (hat:v'.ownBlock=v.ownBlock∨v'.ownBlock=some w1.heap.size) (hb:base≤X) (hf:∀ k,v'.ownBlock=some k→k < w2.heap.size) :
  KeepX base X W (w2.setCell ⟨X,0,none⟩ v'):=by
 have hXl:=hX.lt
 have hs1:=h1.size
 have hob:∀ k,v.ownBlock=some k→X+1≤k:=fun k hk=>(hown.lt k hk).1
 have hX2:w2.cell? ⟨X,0,none⟩=some v:=by
  have hbk:w2.heap[X]?=some (.cells #[v] 34 (0,0)):=(hg.block X (by omega) (fun e=>by have:=hob X e.symm;omega)).trans ((h1.block X hXl).trans hX)
  exact cell_of_row w2 X 0 _ _ (0,0) hbk
 have hX3:(w2.setCell ⟨X,0,none⟩ v').cell? ⟨X,0,none⟩=some v':=World.cell?_setCell_same' _ _ _ (by rw [hX2];rfl)
 have eW:ownX X W=v.ownBlock:=ownX_of hX.cell
 have e3:ownX X (w2.setCell ⟨X,0,none⟩ v')=v'.ownBlock:=ownX_of hX3
 have hss:(w2.setCell ⟨X,0,none⟩ v').heap.size=w2.heap.size:=by simp [World.setCell]
 refine ⟨(((h1.mono (by omega:base≤W.heap.size))).grown hg (by omega) (fun k hk=>by have:=hob k hk;omega)).setCell (p:=⟨X,0,none⟩) hb _,fun k cs ty fr hk hkX hkO=>?_,?_,fun _ g hg2=>?_,fun k o hk ho=>?_⟩
 ·
  have hkl:=(Array.getElem?_eq_some_iff.1 hk).1
  rw [eW] at hkO
  exact (Below.heap_setCell w2 ⟨X,0,none⟩ v' k hkX).trans ((hg.block k (by omega) hkO).trans ((h1.block k hkl).trans hk))
 ·
  rw [e3,eW]
  rcases hat with e | e
  ·
   exact .inl e
  ·
   exact .inr ⟨_,e,hs1⟩
 ·
  rw [e3] at hg2
  rw [hss]
  exact hf g hg2
 ·
  have hkl:=(Array.getElem?_eq_some_iff.1 hk).1
  have hkX:k≠X:=by
   rintro rfl
   have h':W.heap[k]?=some (.cells #[v] 34 (0,0)):=hX
   rw [h'] at hk
   injection hk with hk
   subst hk
   cases ho
  have h1k:=(h1.block k hkl).trans hk
  refine (Below.heap_setCell w2 ⟨X,0,none⟩ v' k hkX).trans ((hg.block k (by omega) fun e=>?_).trans h1k)
  rcases hown.2 with ⟨rfl,_⟩ | ⟨g,cap,cur,rfl,_,hgg,_⟩
  ·
   cases e
  ·
   have:k=g:=by simpa [Value.ownBlock] using e
   subst this
   rw [h1k] at hgg
   injection hgg with hgg
   subst hgg
   cases ho
theorem keepsFrom_belowI {B:Nat} {W W':World} (hb:Below W.heap.size W W'):KeepsFrom B W W':=⟨hb.size,fun k o _ hk _=>(hb.block k (Array.getElem?_eq_some_iff.1 hk).1).trans hk⟩
theorem keepsFrom_rowI {B:Nat} {W W':World} {base k n:Nat} {e:TypeId} {v:Value} {xs:List Value} (hg:W.grownBy W' v.ownBlock) (hown:W.ownsRow base e k v n xs):KeepsFrom B W W':=⟨hg.size,fun q o _ hq ho=>(hg.block q (Array.getElem?_eq_some_iff.1 hq).1 (fun he=>by
 rcases hown.2 with ⟨rfl,_⟩ | ⟨g,cap,cur,rfl,_,hgg,_⟩
 ·
  cases he
 ·
  have:q=g:=by simpa [Value.ownBlock] using he
  subst this
  rw [hq] at hgg
  injection hgg with hgg
  subst hgg
  cases ho)).trans hq⟩
theorem AppendSeq_any (gf:Nat) (lb:Array Value) (S Sp:List Int→Prop) (N:Nat) (w:World)
  (hseq:∀ w',Below w.heap.size w w'→w.heap.size < w'.heap.size→ownX w.heap.size w'=none→SeqX 8 Tryz.prog gf lb w.heap.size w.heap.size S Sp N w') (eg:∀ args w',(callFunc gf args).run Tryz.prog w'=.ok (.enter gf args) w') (hN:N≤1000000000) :
  Calls Tryz.prog 144 #[.slice none 0 0,.func (.func gf) #[] lb] w fun e w'=>∃ v ys,e=.returned v∧S ys∧ys.length≤N∧w'.ownsRow w.heap.size 3 1 v ys.length (i64s ys)∧Below w.heap.size w w':=by
 obtain ⟨i0,hi,hz0,hz1,hz2⟩:=info_parts infoInt
 refine (callsIn_wide (n:=9)).1 ?_
 have HSeq:=hide hseq
 clear hseq
 refine callsIn_of_wp_marks Tryz.func144 rfl trivial ?_ rfl
 simp only [Tryz.ntmps144,List.size_toArray,List.length_cons,List.length_nil,Nat.reduceAdd,Nat.reduceSub,Array.replicate_succ,Array.replicate_zero,List.push_toArray,List.append_toArray,List.nil_append,List.cons_append]
 gi_wp2
 have hB0:Below w.heap.size w (w.alloc (.cells #[.slice none 0 0] 34)):=(Below.refl _ w).alloc (Nat.le_refl _) _
 have hsz:(w.alloc (.cells #[.slice none 0 0] 34)).heap.size=w.heap.size+1:=World.size_alloc _ _
 have bX:=Boxed.new w 34 (.slice none 0 0)
 have hsq:=HSeq.out _ hB0 (by omega) (ownX_of bX.cell)
 generalize w.alloc (.cells #[.slice none 0 0] 34)=W0 at *
 have hex:∃ s,s=w.heap.size:=⟨_,rfl⟩
 obtain ⟨s,hs⟩:=hex
 rw [←hs] at hB0 hsz bX hsq ⊢
 have HS:=hide hs
 clear hs HSeq
 refine wpIn_rangeFunc_X (by omega) (gf:=gf) (lb:=lb) rfl eg hsq (Below.refl _ _) (by omega) (by omega) (ownX_of bX.cell)
  (fun pre W=>(pre.length≤N∧∃ v,Boxed W s 34 v∧ColI W (s+1) v pre)∧Below s w W)
  (fun _ _ _=>False)
  (OwnFrom.and (Own.from (fun s A B row hs hg hr=>⟨hs.1,by
   obtain ⟨v,h1,h2⟩:=hs.2
   exact ⟨v,block_ownB h1 hg hr,h2.own hg hr⟩⟩) _) (ownFrom_below (Nat.le_of_eq HS.out) (by omega)))
  (fun _ _ _ _ _ h _ _=>h)
  (fun pre A C h hi=>⟨⟨h.1.1,by
   obtain ⟨v,h1,h2⟩:=h.1.2
   exact ⟨v,block_low h1 hi (by omega),h2.stays hi h1.cell⟩⟩,h.2.trans (hi.low.mono (by omega))⟩)
  (fun _ _ _ _ h _=>h)
  ⟨⟨Nat.zero_le _,_,bX,World.ownsRow_nil _ _ _ _⟩,hB0⟩
  (fun x=>{ tmps:=#[.slice none 0 0,.func (.func gf) #[] lb,.pointer (some ⟨s,0,none⟩),undef,.slice none 0 0,.int .i64 x,.func (.func gf) #[] lb,.int .i64 x,undef,undef,undef,undef,undef],defers:=[] }) ?assign ?body ?done ?stop
 case assign=>
  intro l x W K hK
  gi_wp2
  exact hK
 case body=>
  rintro l pre x W ⟨⟨hl,v,hbx,hcol⟩,hB⟩ hlen
  have c0:=hbx.cell
  have hW:=hB.size
  have hXl:=hbx.lt
  have HBX:=hide hbx
  have HCol:=hide (show W.ownsRow (s+1) 3 1 v pre.length (i64s pre) from hcol)
  have HB:=hide hB
  have hal:=(Below.refl W.heap.size W).alloc (Nat.le_refl _) (.cells #[.int .i64 x] 3)
  have hO1:=ownsRow_below hcol hal
  clear hbx hcol hB
  gi_wp2_with (gi_at_builtin;go_must (refine wpListIn_append_own_at _ rfl _ _ 34 rfl (s+1) 3 i0 (.int .i64 0) 1 8 Tryz.underlying34 hi hz0 hz1 hz2 rfl (by decide) _ pre.length _ rfl hO1 ⟨W.heap.size,0,none⟩ 1 1 (i64s [x]) rfl rfl (cell_int2 W x 3) (ints_oneCell _ _) (by unfold maxLen;omega) (by omega) (by rw [World.size_alloc];omega) ?_;intro v5 w5 hown5 hg5 _ hat5;obtain ⟨g5,cap5,rfl⟩:=ownsRow_succ hown5;have hbk:w5.heap[s]?=some (.cells #[v] 34 (0,0)):=(hg5.block s (by rw [World.size_alloc];omega) (fun e=>by have:=(hO1.lt s e.symm).1;omega)).trans ((hal.block s hXl).trans HBX.out);have hc5:=cell_of_row w5 s 0 _ _ (0,0) hbk;have hf5:w5.frozen? ⟨s,0,none⟩=false:=(by simp [World.frozen?,hbk]);have HK5:=hide (keepX_app (base:=s) (X:=s) hal hO1 HBX.out hg5 hat5 (Nat.le_refl _) (fun k hk=>(hown5.lt k hk).2));have HO5:=hide (i64app2 hown5);have HF5:=hide ((keepsFrom_belowI (B:=W0.heap.size) hal).trans (keepsFrom_rowI hg5 hO1));have HB5:=hide (show Boxed w5 s 34 v from hbk);clear hown5 hg5 hat5 hbk))
  refine ⟨HF5.out.trans ((KeepsOthers.setCell _ _ _).from _),HK5.out,⟨by simp;omega,_,HB5.out.set _,?_⟩,HB.out.trans HK5.out.low⟩
  have h:=ownsRow_setCell_below HO5.out (a:=⟨s,0,none⟩) (show s < s+1 by omega) (.slice (some ⟨g5,0,none⟩) (pre.length+1) cap5)
  unfold ColI
  rw [List.length_append,List.length_singleton]
  exact h
 case done=>
  rintro D ys W hD hys ⟨⟨hl,v,hbx,hcol⟩,hB⟩ hK
  have c0:=hbx.cell
  have HCol:=hide hcol
  have HB:=hide hB
  clear hcol hB
  gi_wp2
  refine ⟨by simp,.inl ⟨_,_,rfl,run_takeDeferred hK,?_⟩⟩
  have hlow:=belowK_b (w:=W0) (by omega:s≤W0.heap.size) W D _ (.deferred none) hD hK rfl rfl
  have hgr:=grownBy_putObj' W D (.deferred none)
  refine ⟨_,results_tmp rfl _ _ _,v,ys,rfl,hys,hl,?_,by rw [←HS.out];exact HB.out.trans hlow⟩
  have h:=HCol.out.own hgr (fun r e=>by cases e;exact ⟨_,hK,rfl⟩)
  rw [←HS.out]
  exact ownsRow_base h (by omega)
 case stop=>
  rintro D cd pre W hD hpre h hK
  exact h.elim
end Go.Proofs.YteeemjmohjkdpaaGreatDoor
namespace Go.Proofs.YteeemjmohjkdpaaGreatDoor
open Go.RowKit Go.Shelf
def PassX (gf:Nat) (lb:Array Value) (S Sp:List Int→Prop) (N:Nat) (w:World):Prop:=
 (∀ w',Below w.heap.size w w'→w.heap.size < w'.heap.size→ownX w.heap.size w'=none→SeqX 8 Tryz.prog gf lb w.heap.size w.heap.size S Sp N w')∧(∀ args w',(callFunc gf args).run Tryz.prog w'=.ok (.enter gf args) w')∧N≤1000000000
theorem Collect_any (gf:Nat) (lb:Array Value) (S Sp:List Int→Prop) (N:Nat) (w:World) (h:PassX gf lb S Sp N w) :
  Calls Tryz.prog 108 #[.func (.func gf) #[] lb] w fun e w'=>∃ v ys,e=.returned v∧S ys∧ys.length≤N∧w'.ownsRow w.heap.size 3 1 v ys.length (i64s ys)∧Below w.heap.size w w':=by
 have HA:=hide (AppendSeq_any gf lb S Sp N w h.1 h.2.1 h.2.2)
 clear h
 go_enter Tryz.func108,Tryz.ntmps108
 go_wp2_with fail
 refine HA.out.mono ?_
 rintro e w1 ⟨v,ys,rfl,h1,h2,h3,h4⟩
 go_wp2_with fail
 go_ret
 exact ⟨v,ys,rfl,h1,h2,h3,h4⟩
theorem Sorted_any (gf:Nat) (lb:Array Value) (S Sp:List Int→Prop) (N:Nat) (w:World) (h:PassX gf lb S Sp N w) :
  Calls Tryz.prog 66 #[.func (.func gf) #[] lb] w fun e w'=>∃ v ys,e=.returned v∧S ys∧ys.length≤N∧w'.ownsRow w.heap.size 3 1 v ys.length (i64s (ys.mergeSort fun x y=>decide (x≤y)))∧Below w.heap.size w w':=by
 have hN:=h.2.2
 have HA:=hide (Collect_any gf lb S Sp N w h)
 clear h
 go_enter Tryz.func66,Tryz.ntmps66
 go_wp2_with fail
 refine HA.out.mono ?_
 rintro e w1 ⟨v,ys,rfl,h1,h2,h3,h4⟩
 have H1:=hide h1
 have H3:=hide h3
 have H4:=hide h4
 clear h1 h3 h4
 go_wp2_with fail
 refine (SortRowI H3.out (by omega)).mono ?_
 rintro e w2 ⟨rfl,h5,h6⟩
 have H5:=hide h5
 have H6:=hide (h6 H4.out.size)
 clear h5 h6
 go_wp2_with fail
 go_ret
 exact ⟨v,ys,rfl,H1.out,h2,H5.out,H4.out.trans H6.out⟩
end Go.Proofs.YteeemjmohjkdpaaGreatDoor
namespace Go.Proofs.YteeemjmohjkdpaaGreatDoor
open Go.RowKit
def RetP (w':World) (A:Option Addr) (n c:Nat) (ps:List Pr):Prop:=n≤c∧c≤maxLen∧Cells w' w'.heap.size 2 pV A n ps
theorem RetP.nil (w:World):RetP w none 0 0 []:=⟨Nat.le_refl _,Nat.zero_le _,rfl,fun h=>absurd h (Nat.lt_irrefl 0)⟩
theorem RetP.of_own {w:World} {base n c:Nat} {A:Option Addr} {ps:List Pr} (h:w.ownsRow base 47 2 (.slice A n c) n (ps.flatMap pV)):RetP w A n c ps:=by
 obtain ⟨A',c',e,h1,h2⟩:=ownsRow_shape3 h
 cases e
 exact ⟨h1,h2,Cells.of_own pV_len (by decide) h⟩
theorem RetP.below {w w':World} {A:Option Addr} {n c:Nat} {ps:List Pr} (h:RetP w A n c ps) (hb:Below w.heap.size w w'):RetP w' A n c ps:=⟨h.1,h.2.1,(h.2.2.below hb).more hb.size⟩
def kb (fs:List Int):List Int:=fs.flatMap fun f=>[f % 256,f / 256 % 256]
theorem kb_len (fs:List Int):(kb fs).length=2*fs.length:=by
 induction fs with
 | nil=>rfl
 | cons f fs ih=>unfold kb at ih ⊢;rw [List.flatMap_cons,List.length_append,ih];simp;omega
theorem kb_byt (fs:List Int):Byt (kb fs):=by
 intro y hy
 obtain ⟨f,_,h⟩:=List.mem_flatMap.1 hy
 simp only [List.mem_cons,List.not_mem_nil,or_false] at h
 rcases h with rfl | rfl <;> omega
theorem kb_inj:∀ {fs gs:List Int},(∀ f∈fs,0≤f∧f < 65536)→(∀ f∈gs,0≤f∧f < 65536)→kb fs=kb gs→fs=gs
 | [],[],_,_,_=>rfl
 | [],g :: gs,_,_,h=>by simp [kb] at h
 | f :: fs,[],_,_,h=>by simp [kb] at h
 | f :: fs,g :: gs,hf,hg,h=>by
  have e:∀ x (xs:List Int),kb (x :: xs)=x % 256 :: x / 256 % 256 :: kb xs:=fun _ _=>rfl
  rw [e,e] at h
  injection h with h1 h2
  injection h2 with h2 h3
  have a:=hf f (by simp)
  have b:=hg g (by simp)
  rw [kb_inj (fun x hx=>hf x (by simp [hx])) (fun x hx=>hg x (by simp [hx])) h3,show f=g by omega]
abbrev keyV (t:Ty):Value:=.agg #[.int .i64 t.kind,.int .i64 t.region,.int .i64 t.elem,.bool t.mut_,.string (strOfNums (kb t.fields))]
def keyL (t:Ty):Lit:=.string (keyBytes [.int .i64 t.kind,.int .i64 t.region,.int .i64 t.elem,.bool t.mut_,.string (strOfNums (kb t.fields)).data.toList])
theorem keyTypeK:Tryz.prog.keyType 219=true:=by kernel_rfl
theorem seen_law:Go.Maps.Keyed Tryz.prog 219:=Go.Maps.Keyed.of_law (deep_law_gate (by kernel_rfl) (of_decide_eq_true (by kernel_rfl)) (of_decide_eq_true (by kernel_rfl)) keyTypeK (by rw [Tryz.underlying219]))
theorem strOfNums_size (xs:List Int):(strOfNums xs).size=xs.length:=by simp [strOfNums,ByteArray.size]
section
variable {P:Program} {d:Nat} {t:TypeId}
theorem keyLits_int {q:IntKind} (hu:P.underlying t=some (.int q)) {n:Int} (hw:(Lit.int q n).wf=true):P.keyLits (d+1) t [.int q n]=some [.int q n]:=by
 simp [Program.keyLits,hu,hw]
theorem keyLits_bool (hu:P.underlying t=some .bool) (b:Bool):P.keyLits (d+1) t [.bool b]=some [.bool b]:=by
 simp [Program.keyLits,hu]
theorem keyLits_str (hu:P.underlying t=some .string) {s:ByteArray} (hs:s.size≤maxLen):P.keyLits (d+1) t [.string s]=some [.string s.data.toList]:=by
 simp [Program.keyLits,hu,hs]
theorem keyOf_struct {k:TypeId} {fs:Array Field} {cs:List Value} {ls:List Lit} (hu:P.underlying k=some (.struct fs)) (hk:P.keyType k=true) (hsz:cs.length=P.cellsOf k) (hl:P.keyLits (P.types.size+1) k cs=some ls):keyOf P k (.agg cs.toArray)=some (.string (keyBytes ls)):=by
 simp [keyOf,hu,hk,Value.formed,hsz,Value.cells,hl]
theorem keyLits_struct {fs:Array Field} {cs:List Value} (hu:P.underlying t=some (.struct fs)) (hsz:cs.length=P.cellsOf t) (hn:fs.all (·.name != "_")=true):P.keyLits (d+1) t cs=(fs.toList.mapM fun f=>P.keyLits d f.type ((cs.drop f.offset).take (P.cellsOf f.type))).map List.flatten:=by
 conv=>lhs;unfold Program.keyLits
 simp only [hu]
 rw [if_pos ⟨hsz,hn⟩]
end
theorem keyOf_key {t:Ty} (hk:IntR t.kind) (hr:IntR t.region) (he:IntR t.elem) (hf:t.fields.length≤65535):keyOf Tryz.prog 219 (keyV t)=some (keyL t):=by
 have hs:(strOfNums (kb t.fields)).size≤maxLen:=by rw [strOfNums_size,kb_len];unfold maxLen;omega
 have c1:Tryz.prog.cellsOf 3=1:=by kernel_rfl
 have c2:Tryz.prog.cellsOf 4=1:=by kernel_rfl
 have c3:Tryz.prog.cellsOf 9=1:=by kernel_rfl
 have c4:Tryz.prog.cellsOf 219=5:=by kernel_rfl
 have hp:∃ d,Tryz.prog.types.size=d+1:=⟨Tryz.prog.types.size - 1,by have h:0 < Tryz.prog.types.size:=of_decide_eq_true (by kernel_rfl);omega⟩
 obtain ⟨d,hd⟩:=hp
 refine keyOf_struct Tryz.underlying219 keyTypeK (by rw [c4];rfl) ?_
 rw [keyLits_struct Tryz.underlying219 (by rw [c4];rfl) (by kernel_rfl),hd]
 simp only [List.mapM_cons,List.mapM_nil,c1,c2,c3]
 simp [keyLits_int Tryz.underlying3 (wf_i64 hk),keyLits_int Tryz.underlying3 (wf_i64 hr),keyLits_int Tryz.underlying3 (wf_i64 he),keyLits_bool Tryz.underlying4,keyLits_str Tryz.underlying9 hs]
theorem keyL_inj {t u:Ty} (hk:IntR t.kind) (hr:IntR t.region) (he:IntR t.elem) (hf:t.fields.length≤65535) (hk':IntR u.kind) (hr':IntR u.region) (he':IntR u.elem) (hf':u.fields.length≤65535)
  (ht:∀ f∈t.fields,0≤f∧f < 65536) (hu:∀ f∈u.fields,0≤f∧f < 65536) (h:keyL t=keyL u):t=u:=by
 have h1:=keyOf_key hk hr he hf
 rw [h] at h1
 have h2:=seen_law.inj h1 (keyOf_key hk' hr' he' hf')
 injection h2 with h2
 have h3:=congrArg Array.toList h2
 simp only [List.cons.injEq,and_true,Value.int.injEq,Value.bool.injEq,Value.string.injEq,true_and] at h3
 obtain ⟨a,b,c,d,e⟩:=h3
 exact Ty.ext' a d b c (kb_inj ht hu (strOfNums_inj (kb_byt _) (kb_byt _) e))
theorem keyL_key {t:Ty}:Go.WideAt.IsKeyLit (keyL t):=trivial
structure TyB (t:Ty):Prop where
 k:IntR t.kind
 r:IntR t.region
 e:IntR t.elem
 n:t.fields.length≤65535
 f:∀ f∈t.fields,0≤f∧f < 65536
theorem TyB.inj {t u:Ty} (h:TyB t) (h':TyB u) (e:keyL t=keyL u):t=u:=keyL_inj h.k h.r h.e h.n h'.k h'.r h'.e h'.n h.f h'.f e
theorem TyB.key {t:Ty} (h:TyB t):keyOf Tryz.prog 219 (keyV t)=some (keyL t):=keyOf_key h.k h.r h.e h.n
structure ChkD (b n:Nat) (pre:List Ty) (w:World):Prop where
 dep:∀ j v,(tyDeps pre)[j]?=some v→w.cell? ⟨b,j,none⟩=some (.int .i64 v)
 rest:∀ j,pre.length≤j→j < n→∃ v,w.cell? ⟨b,j,none⟩=some (.int .i64 v)
 fz:∀ j,w.frozen? ⟨b,j,none⟩=false
theorem ChkD.block {b n:Nat} {pre:List Ty} {w w':World} (h:ChkD b n pre w) (hb:w'.heap[b]?=w.heap[b]?):ChkD b n pre w':=
 ⟨fun j v hv=>(World.cell?_of_block (w:=w) hb).trans (h.dep j v hv),fun j h1 h2=>by obtain ⟨v,hv⟩:=h.rest j h1 h2;exact ⟨v,(World.cell?_of_block (w:=w) hb).trans hv⟩,fun j=>(World.frozen?_of_block (w:=w) (a:=⟨b,j,none⟩) hb).trans (h.fz j)⟩
theorem ChkD.set {b n:Nat} {pre:List Ty} {w:World} (h:ChkD b n pre w) {t:Ty} (hk:pre.length < n):ChkD b n (pre++[t]) (w.setCell ⟨b,pre.length,none⟩ (.int .i64 (tyDpt (tyDeps pre) t))):=by
 have hlen:(tyDeps pre).length=pre.length:=by unfold tyDeps;exact tyTab_len _ _
 have hs:tyDeps (pre++[t])=tyDeps pre++[tyDpt (tyDeps pre) t]:=tyTab_snoc _ _ _
 obtain ⟨u,hu⟩:=h.rest pre.length (Nat.le_refl _) hk
 refine ⟨fun j v hv=>?_,fun j h1 h2=>?_,fun j=>(World.frozen?_setCell w _ _ _).trans (h.fz j)⟩
 ·
  rw [hs] at hv
  rcases Nat.lt_or_ge j pre.length with hj | hj
  ·
   rw [List.getElem?_append_left (by omega)] at hv
   exact (World.cell?_setCell_other w ⟨b,pre.length,none⟩ ⟨b,j,none⟩ _ (by simp <;> omega)).trans (h.dep j v hv)
  ·
   rw [List.getElem?_append_right (by omega)] at hv
   have hj0:j=pre.length:=by
    rcases Nat.eq_zero_or_pos (j - (tyDeps pre).length) with h0 | h0
    ·
     omega
    ·
     rw [List.getElem?_eq_none (by simp;omega)] at hv;cases hv
   subst hj0
   rw [hlen,Nat.sub_self] at hv
   obtain rfl:_=v:=by simpa using hv
   exact World.cell?_setCell_same _ _ _ hu
 ·
  simp only [List.length_append,List.length_singleton] at h1
  obtain ⟨v,hv⟩:=h.rest j (by omega) h2
  exact ⟨v,(World.cell?_setCell_other w ⟨b,pre.length,none⟩ ⟨b,j,none⟩ _ (by simp <;> omega)).trans hv⟩
def ChkM (b:Nat) (pre:List Ty) (w:World):Prop:=∃ m Dm,w.ownsMap (H:=Unit) Tryz.prog 219 (plainElem Tryz.prog 4) b m Dm∧m≤pre.length ∧
 (∀ t,TyB t→(Maps.has Dm (keyL t)=true↔t∈pre))∧∀ t,Maps.has Dm (keyL t)=true→∀ z,Dm.atKey (keyL t) z=.lit (.bool true)
theorem ChkM.block {b:Nat} {pre:List Ty} {w w':World} (h:ChkM b pre w) (hb:w'.heap[b]?=w.heap[b]?):ChkM b pre w':=by
 obtain ⟨m,Dm,h1,h2⟩:=h
 exact ⟨m,Dm,owns_block h1 hb,h2⟩
theorem mapKey:Tryz.prog.underlying 215=some (.map 219 4):=Tryz.underlying215
theorem ChkM.look {b:Nat} {pre:List Ty} {w:World} (h:ChkM b pre w) {t:Ty} (ht:TyB t):(Instr.lookup 215 (.map (some b)) (keyV t) false).run Tryz.prog w=.ok (.bool (decide (t∈pre))) w:=by
 obtain ⟨m,Dm,h1,_,h3,h4⟩:=h
 obtain ⟨v,ps,hrun,hv⟩:=h1.lookup seen_law mapKey (zeroB w) (zd:=.lit (.bool false)) (zp:=[]) (plainElem_bool Tryz.underlying4 false) ht.key
 rw [hrun]
 cases hh:Maps.has Dm (keyL t)
 ·
  rw [Maps.atKey_of_not_has hh] at hv
  obtain ⟨c,rfl,hc⟩:=plainElem_bool_inv Tryz.underlying4 hv
  injection hc with hc _
  injection hc with hc
  injection hc with hc
  have hn:¬t∈pre:=fun h=>by rw [(h3 t ht).2 h] at hh;cases hh
  rw [decide_eq_false hn,hc]
 ·
  rw [h4 t hh] at hv
  obtain ⟨c,rfl,hc⟩:=plainElem_bool_inv Tryz.underlying4 hv
  injection hc with hc _
  injection hc with hc
  injection hc with hc
  rw [decide_eq_true ((h3 t ht).1 hh),hc]
theorem ChkM.put {b:Nat} {pre:List Ty} {w w':World} {m:Nat} {Dm:DataW Unit} {t:Ty} (hbd:∀ u∈pre,TyB u) (h1:w.ownsMap (H:=Unit) Tryz.prog 219 (plainElem Tryz.prog 4) b m Dm) (h2:m≤pre.length)
  (h3:∀ t,TyB t→(Maps.has Dm (keyL t)=true↔t∈pre)) (h4:∀ t,Maps.has Dm (keyL t)=true→∀ z,Dm.atKey (keyL t) z=.lit (.bool true)) (ht:TyB t)
  (hw:w'.ownsMap (H:=Unit) Tryz.prog 219 (plainElem Tryz.prog 4) b (m+1) (Dm.put (keyL t) (.lit (.bool true)))):ChkM b (pre++[t]) w':=by
 have hm:Maps.IsMap Dm:=⟨_,(h1.entries seen_law).choose_spec.1⟩
 refine ⟨m+1,_,hw,by simp;omega,fun u hu=>?_,fun u hh z=>?_⟩
 ·
  by_cases hut:u=t
  ·
   subst hut
   rw [Maps.has_put_same hm keyL_key]
   simp
  ·
   have hne:keyL u≠keyL t:=fun e=>hut (hu.inj ht e)
   rw [Maps.has_put_other hne,h3 u hu]
   simp [hut]
 ·
  by_cases hut:keyL u=keyL t
  ·
   rw [hut]
   exact Maps.atKey_put_same hm keyL_key _ z
  ·
   rw [Maps.has_put_other hut] at hh
   exact (Maps.atKey_put_other hut _ z).trans (h4 u hh z)
end Go.Proofs.YteeemjmohjkdpaaGreatDoor
