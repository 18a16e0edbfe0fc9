/- Part 26 of the contracts and their mathematics. -/
import Derived.Test.YteeemjmohjkdpaaGreatDoorQ24
import Derived.Deep.LoopGhost
set_option linter.unusedVariables false
set_option linter.unusedSimpArgs false
set_option maxRecDepth 100000
set_option maxHeartbeats 8000000
namespace Go.Proofs.YteeemjmohjkdpaaGreatDoor
open Go.RowKit
structure FlowM (w:World) (l:List BkV) (fb:Nat) (sA:Option Addr) (sc bb m b1 b2:Nat) (S:Int→SlW (Nat×Bool)) (K:List Int) (L:List (SlW Int)):Prop where
 box:Bx w fb [.slice sA (l.length+1) sc,.slice (some ⟨bb,0,none⟩) l.length l.length,.map (some m)] 90
 st:Rd w w.heap.size sA (l.length+1) (i64s (stI l (l.length+1)))
 grid:GridW w b1 bb 34 3 1 cInt L
 bef:∀ j,j < l.length→∃ s,L[j]?=some s∧s.L=castL (befW l (edgesI l) j)
 sit:SitW w b2 m S K
 sites:∀ q,(S q).L=sitesW l q (ptCount l)
def FlowW (w:World) (l:List BkV) (fb:Nat) (K:List Int):Prop:=∃ sA sc bb m b1 b2 S L,FlowM w l fb sA sc bb m b1 b2 S K L
section
variable {w w':World} {l:List BkV} {fb:Nat} {sA:Option Addr} {sc bb m b1 b2:Nat} {S:Int→SlW (Nat×Bool)} {K:List Int} {L:List (SlW Int)}
theorem FlowM.below (h:FlowM w l fb sA sc bb m b1 b2 S K L) (hb:Below w.heap.size w w'):FlowM w' l fb sA sc bb m b1 b2 S K L:=
 ⟨h.box.below hb,(h.st.below hb).more hb.size,h.grid.below hb,h.bef,h.sit.below hb,h.sites⟩
theorem FlowW.below (h:FlowW w l fb K) (hb:Below w.heap.size w w'):FlowW w' l fb K:=by
 obtain ⟨sA,sc,bb,m,b1,b2,S,L,h⟩:=h
 exact ⟨sA,sc,bb,m,b1,b2,S,L,h.below hb⟩
end
theorem own_pop12 {w:World} {base g n cap:Nat} {e:TypeId} {xs:List Value} {x y:Value} (h:w.ownsRow base e 2 (.slice (some ⟨g,0,none⟩) (n+1) cap) (n+1) (xs++[x,y])):w.ownsRow base e 2 (.slice (some ⟨g,0,none⟩) n cap) n xs:=by
 have hl:xs.length=n*2:=by have:=h.1;simp at this;omega
 rcases h.2 with ⟨h0,_⟩ | ⟨g',cap',cur,e0,hb,hg,h1,h2,h3,h4⟩
 ·
  cases h0
 ·
  injection e0 with e1 e2 e3
  injection e1 with e1
  injection e1 with e1
  subst e1 e3
  refine ⟨hl,.inr ⟨g,cap,cur,rfl,hb,hg,by omega,h2,h3,?_⟩⟩
  have h5:=congrArg (List.take (n*2)) h4
  rw [List.take_take,List.take_append_of_le_length (by omega),← hl,List.take_length] at h5
  rw [←h5,hl]
  congr 1
  omega
theorem two_app {w wp w7:World} {lo lo' k k' n n':Nat} {e e':TypeId} {v v' v2:Value} {xs xs':List Value} (h1:w.ownsRow lo e k v n xs) (h2:w.ownsRow lo' e' k' v' n' xs') (hd:∀ b,v.ownBlock=some b→v'.ownBlock≠some b) (hb:Below w.heap.size w wp) (hg:wp.grownBy w7 v.ownBlock)
  (hat:v2.ownBlock=v.ownBlock∨v2.ownBlock=some wp.heap.size):w7.ownsRow lo' e' k' v' n' xs'∧∀ b,v2.ownBlock=some b→v'.ownBlock≠some b:=by
 have r:=ownsRow_below h2 hb
 refine ⟨r.kept hg ?_,fun b hb2 hb3=>?_⟩
 ·
  rcases r.2 with ⟨e0,_⟩ | ⟨g',cap',cur,e0,_⟩
  ·
   left;rw [e0];rfl
  ·
   right
   intro e1
   have e2:v'.ownBlock=some g':=by rw [e0];rfl
   exact hd g' (by rw [←e1,e2]) e2
 ·
  rcases hat with e1 | e1
  ·
   exact hd b (by rw [←e1];exact hb2) hb3
  ·
   rw [e1] at hb2
   injection hb2 with hb2
   have h3:=(h2.lt b hb3).2
   have h4:=hb.size
   omega
theorem SetW.grown {w wp w7:World} {eb lo k n:Nat} {e:TypeId} {v:Value} {xs:List Value} {L:List Int} (h:SetW w eb L) (h1:w.ownsRow lo e k v n xs) (hb:Below w.heap.size w wp) (hg:wp.grownBy w7 v.ownBlock):SetW w7 eb L:=by
 refine h.kept fun o ho hc=>?_
 have hl:=(Array.getElem?_eq_some_iff.1 ho).1
 have o1:=(hb.block eb hl).trans ho
 refine (hg.block eb (Array.getElem?_eq_some_iff.1 o1).1 fun e=>?_).trans o1
 obtain ⟨cs,hcs⟩:=own_cells h1 e.symm
 rw [ho] at hcs
 injection hcs with hcs
 subst hcs
 cases hc
structure LiveS (w:World) (lo eb:Nat) (R W:List RunW) (X:List Nat) (Lx:List Int) (v5 v6:Value) (n5 n6:Nat):Prop where
 r5:w.ownsRow lo 94 2 v5 n5 (R.flatMap cRun)
 r6:w.ownsRow lo 94 2 v6 n6 (W.flatMap cRun)
 dis:∀ b,v5.ownBlock=some b→v6.ownBlock≠some b
 set:SetW w eb Lx
 mem:∀ i:Nat,(i:Int)∈Lx↔i∈X
section
variable {w w' wp w7:World} {lo eb:Nat} {R W:List RunW} {X:List Nat} {Lx:List Int} {v5 v6 v:Value} {n5 n6:Nat} {r:RunW}
theorem LiveS.l5 (h:LiveS w lo eb R W X Lx v5 v6 n5 n6):R.length=n5:=own_len cRun_len (by decide) h.r5
theorem LiveS.l6 (h:LiveS w lo eb R W X Lx v5 v6 n5 n6):W.length=n6:=own_len cRun_len (by decide) h.r6
theorem LiveS.below (h:LiveS w lo eb R W X Lx v5 v6 n5 n6) (hb:Below w.heap.size w w'):LiveS w' lo eb R W X Lx v5 v6 n5 n6:=
 ⟨ownsRow_below h.r5 hb,ownsRow_below h.r6 hb,h.dis,h.set.below hb,h.mem⟩
theorem LiveS.add (h:LiveS w lo eb R W X Lx v5 v6 n5 n6) (ht:Turn (fun k=>k=eb) w w') {i:Nat} {X':List Nat} (hs:SetW w' eb (Lx++[(i:Int)])) (hX:∀ j,j∈X'↔j∈X∨j=i):LiveS w' lo eb R W X' (Lx++[(i:Int)]) v5 v6 n5 n6:=by
 have hm:∀ (v:Value) (n:Nat) (xs:List Value),w.ownsRow lo 94 2 v n xs→∀ b,v.ownBlock=some b→¬b=eb:=fun v n xs hr b hb e=>by
  subst e
  obtain ⟨cs,hc⟩:=own_cells hr hb
  obtain ⟨_,⟨es,clock,h3,_⟩,_⟩:=h.set.own
  rw [h3] at hc
  cases hc
 refine ⟨own_turn h.r5 ht (hm _ _ _ h.r5),own_turn h.r6 ht (hm _ _ _ h.r6),h.dis,hs,fun j=>?_⟩
 rw [List.mem_append,h.mem j,hX j,List.mem_singleton]
 exact or_congr_right ⟨fun e=>by omega,fun e=>by omega⟩
theorem LiveS.pop {g n c:Nat} (h:LiveS w lo eb R (W++[r]) X Lx v5 (.slice (some ⟨g,0,none⟩) (n+1) c) n5 (n+1)):LiveS w lo eb R W X Lx v5 (.slice (some ⟨g,0,none⟩) n c) n5 n:=
 ⟨h.r5,own_pop12 (x:=.int .i64 (r.1:Int)) (y:=.int .i64 (r.2:Int)) (by have:=h.r6;rw [List.flatMap_append] at this;exact this),h.dis,h.set,h.mem⟩
theorem LiveS.app5 (h:LiveS w lo eb R W X Lx v5 v6 n5 n6) (hb:Below w.heap.size w wp) (hg:wp.grownBy w7 v5.ownBlock) {g c:Nat} (hown:w7.ownsRow lo 94 2 (.slice (some ⟨g,0,none⟩) (n5+1) c) (n5+1) (R.flatMap cRun++cRun r)) (hat:v5.ownBlock=some g∨g=wp.heap.size) :
  LiveS w7 lo eb (R++[r]) W X Lx (.slice (some ⟨g,0,none⟩) (n5+1) c) v6 (n5+1) n6:=by
 obtain ⟨k1,k2⟩:=two_app (v2:=.slice (some ⟨g,0,none⟩) (n5+1) c) h.r5 h.r6 h.dis hb hg (hat.elim (fun e=>.inl e.symm) fun e=>.inr (by rw [e];rfl))
 exact ⟨by rw [List.flatMap_append];exact hown,k1,k2,h.set.grown h.r5 hb hg,h.mem⟩
theorem LiveS.app6 (h:LiveS w lo eb R W X Lx v5 v6 n5 n6) (hb:Below w.heap.size w wp) (hg:wp.grownBy w7 v6.ownBlock) {g c:Nat} (hown:w7.ownsRow lo 94 2 (.slice (some ⟨g,0,none⟩) (n6+1) c) (n6+1) (W.flatMap cRun++cRun r)) (hat:v6.ownBlock=some g∨g=wp.heap.size) :
  LiveS w7 lo eb R (W++[r]) X Lx v5 (.slice (some ⟨g,0,none⟩) (n6+1) c) n5 (n6+1):=by
 obtain ⟨k1,k2⟩:=two_app (v2:=.slice (some ⟨g,0,none⟩) (n6+1) c) h.r6 h.r5 (fun b e1 e2=>h.dis b e2 e1) hb hg (hat.elim (fun e=>.inl e.symm) fun e=>.inr (by rw [e];rfl))
 exact ⟨k1,by rw [List.flatMap_append];exact hown,fun b e1 e2=>k2 b e2 e1,h.set.grown h.r6 hb hg,h.mem⟩
end
theorem belowD (w:World) (n:Nat):Below w.heap.size w (w.drewN n):=by
 have h:∀ k (w1:World),Below w.heap.size w w1→Below w.heap.size w (w1.drewN k):=by
  intro k
  induction k with
  | zero=>intro w1 h;exact h
  | succ k ih=>intro w1 h;exact (ih w1 h).drew
 exact h n w (Below.refl _ _)
abbrev aggSp (p i k:Nat):Value:=.agg #[.int .i64 (p:Int),.int .i64 (i:Int),.int .i64 (k:Int)]
theorem PIsStmt_any (x:BdW) (q i k:Nat) (w:World) (b:BkV) (hx:OneBd w w.heap.size x) (hb:x.v.blocks[i]?=some b) :
  Calls Tryz.prog 112 #[aggBd x,aggSp q i k] w fun e w'=>e=.returned (.bool (decide (k < b.stmts.length)))∧Below w.heap.size w w':=by
 have hi:i < x.blocks.n:=by rw [←bk_len hx];exact (List.getElem?_eq_some_iff.1 hb).1
 have hbm:=hx.blocks.nm
 unfold maxLen at hbm
 obtain ⟨p,b',o,_,hpv,hps,hpm,hA,hbB,_,hc⟩:=bk_at hx hi
 have e':some p.v=some b:=hpv.symm.trans hb
 injection e' with e'
 subst e'
 unfold maxLen at hpm
 have c0':w.cell? ⟨b',o+i*7,none⟩=some (.slice p.stmts.A p.stmts.n p.stmts.c):=hc 0 _ rfl
 obtain ⟨sn,hsn⟩:∃ sn,p.stmts.n=sn:=⟨_,rfl⟩
 have HSN:=hide (hps.trans hsn)
 rw [hsn] at c0' hpm
 rw [HSN.out]
 obtain ⟨sA,hsA⟩:∃ sA,p.stmts.A=sA:=⟨_,rfl⟩
 obtain ⟨sc,hsc⟩:∃ sc,p.stmts.c=sc:=⟨_,rfl⟩
 rw [hsA,hsc] at c0'
 clear hpv hps hc hsn HSN hsA hsc hx hb
 obtain ⟨nm,⟨rA,rn,rc,rL⟩,⟨oA,on,oc,oL⟩,⟨tA,tm,tc,tL⟩,⟨lA,ln,lc,lL⟩,ar,⟨bA,bn,bc,bL⟩⟩:=x
 have hA:bA=some ⟨b',o,none⟩:=hA
 subst hA
 have hi:i < bn:=hi
 have hbm:bn≤9223372036854775807:=hbm
 have hi':(i:Int) < (bn:Int):=by omega
 have hi0:(0:Int)≤(i:Int):=by omega
 have hws1:(w.alloc (.cells #[.string nm,.slice rA rn rc,.slice oA on oc,.slice tA tm tc,.slice lA ln lc,.int .i64 ar,.slice (some ⟨b',o,none⟩) bn bc] 28)).heap.size=w.heap.size+1:=by simp
 have b1:=below1 w (.cells #[.string nm,.slice rA rn rc,.slice oA on oc,.slice tA tm tc,.slice lA ln lc,.int .i64 ar,.slice (some ⟨b',o,none⟩) bn bc] 28)
 have b2:=below1 (w.alloc (.cells #[.string nm,.slice rA rn rc,.slice oA on oc,.slice tA tm tc,.slice lA ln lc,.int .i64 ar,.slice (some ⟨b',o,none⟩) bn bc] 28)) (.cells #[.int .i64 (q:Int),.int .i64 (i:Int),.int .i64 (k:Int)] 167)
 have hx7:=(Bx.new w [.string nm,.slice rA rn rc,.slice oA on oc,.slice tA tm tc,.slice lA ln lc,.int .i64 ar,.slice (some ⟨b',o,none⟩) bn bc] 28).below b2
 have ht6:=Bx.new (w.alloc (.cells #[.string nm,.slice rA rn rc,.slice oA on oc,.slice tA tm tc,.slice lA ln lc,.int .i64 ar,.slice (some ⟨b',o,none⟩) bn bc] 28)) [.int .i64 (q:Int),.int .i64 (i:Int),.int .i64 (k:Int)] 167
 rw [hws1] at ht6
 have hbb:=b1.trans (b2.mono b1.size)
 have HBB:=hide hbb
 have z6:=hx7.cell (j:=6) rfl
 have z1:=ht6.cell (j:=1) rfl
 have z2:=ht6.cell (j:=2) rfl
 have zc:=(hbb.cell (p:=⟨b',o+i*7,none⟩) hbB).trans c0'
 have HQ:=hide fun (kk:Nat)=>(hbb.trans ((belowD ((w.alloc (.cells #[.string nm,.slice rA rn rc,.slice oA on oc,.slice tA tm tc,.slice lA ln lc,.int .i64 ar,.slice (some ⟨b',o,none⟩) bn bc] 28)).alloc (.cells #[.int .i64 (q:Int),.int .i64 (i:Int),.int .i64 (k:Int)] 167)) kk).mono hbb.size))
 clear hx7 ht6 hbb b1 b2 hws1
 go_enter Tryz.func112,Tryz.ntmps112
 go_wp2
 go_quiet (fail)
 go_wp2
 go_ret
 exact ⟨congrArg (fun z:Bool=>Ending.returned (.bool z)) (by simp),HQ.out _⟩
theorem jm_set {M:List Int} {j:Nat} {t:Int} (h:M[j]?=some t) (f:Int→Int):∃ R,(M.take j).map f++M.drop j=(M.take j).map f++t :: R∧(M.take (j+1)).map f++M.drop (j+1)=(M.take j).map f++f t :: R:=by
 obtain ⟨hl,he⟩:=List.getElem?_eq_some_iff.1 h
 refine ⟨M.drop (j+1),?_,?_⟩
 ·
  rw [List.drop_eq_getElem_cons hl,he]
 ·
  rw [List.take_add_one,h,List.map_append,List.append_assoc]
  rfl
theorem PJumps_any (x:BdW) (i:Nat) (b:BkV) (fA:Option Addr) (fc:Nat) (w:World) (hx:OneBd w w.heap.size x) (hb:x.v.blocks[i]?=some b) (hn:b.term.targets.length≤1000000) (hN:ptCount x.v.blocks≤2 ^ 62)
  (hF:Cells w w.heap.size 1 cInt fA x.blocks.n (stI x.v.blocks x.blocks.n)) :
  Calls Tryz.prog 113 #[aggBd x,.int .i64 (i:Int),.slice fA x.blocks.n fc] w (IntsOut9 w (jmI x.v.blocks x.blocks.n b.term.targets)):=by
 obtain ⟨BL,hBL⟩:∃ l,x.v.blocks=l:=⟨_,rfl⟩
 have hi:i < x.blocks.n:=by rw [←bk_len hx];exact (List.getElem?_eq_some_iff.1 hb).1
 have hbm:=hx.blocks.nm
 unfold maxLen at hbm
 obtain ⟨p,b',o,_,hpv,hps,hpm,hA,hbB,hob,hc⟩:=bk_at hx hi
 have e':some p.v=some b:=hpv.symm.trans hb
 injection e' with e'
 subst e'
 have hxl:p.term.targets.L.length=p.term.targets.n:=hob.term.targets.len
 have hn':p.term.targets.n≤1000000:=by rw [←hxl];exact hn
 have HTG:=hide fun (w':World) (y:Below w.heap.size w w')=>PTargets_any x p.term w' (hx.up y) (hob.term.up y) hn'
 obtain ⟨L,hL⟩:∃ L,tgI x.blocks.n p.term.targets.L=L:=⟨_,rfl⟩
 have hLm:=fun z (h:z∈L)=>(tgI_mem (n:=x.blocks.n) (L:=p.term.targets.L)).1 (hL ▸ h)
 have HLM:=hide hLm
 have hLl:L.length≤1000000:=by
  have:=tgI_len x.blocks.n p.term.targets.L
  rw [hL] at this
  omega
 have HJM:=hide (show jmI BL x.blocks.n p.v.term.targets=L.map fun z=>(ptFirst BL z.toNat:Int) from by
  unfold jmI
  rw [←hL]
  rfl)
 rw [hL] at HTG
 have HPC:=hide hc
 rw [hBL] at hN hF ⊢
 have HN:=hide hN
 have HF:=hide hF
 rw [HJM.out]
 obtain ⟨sn,hsn⟩:∃ sn,p.term=sn:=⟨_,rfl⟩
 rw [hsn] at HTG
 have hc1:∀ j u,(cTm sn)[j]?=some u→w.cell? ⟨b',o+i*7+(j+1),none⟩=some u:=fun j u hu=>hc (j+1) u (by rw [←hsn] at hu;exact hu)
 clear hpv hps hc HPC hsn hx hb hN hF hLm hxl hn' hn hL HJM hob hpm
 obtain ⟨bk,⟨xA,xn,xc,xL⟩,⟨gA,gn,gc,gL⟩,⟨l,pA,pn,pc,ps⟩,tnm⟩:=sn
 obtain ⟨nm,⟨rA,rn,rc,rL⟩,⟨oA,on,oc,oL⟩,⟨tA,tm,tc,tL⟩,⟨lA,ln,lc,lL⟩,ar,⟨bA,bn,bc,bL⟩⟩:=x
 have hA:bA=some ⟨b',o,none⟩:=hA
 subst hA
 have hi:i < bn:=hi
 have hbm:bn≤9223372036854775807:=hbm
 have hi':(i:Int) < (bn:Int):=by omega
 have hi0:(0:Int)≤(i:Int):=by omega
 have HB:=hide (below1 w (.cells #[.string nm,.slice rA rn rc,.slice oA on oc,.slice tA tm tc,.slice lA ln lc,.int .i64 ar,.slice (some ⟨b',o,none⟩) bn bc] 28))
 have hws:(w.alloc (.cells #[.string nm,.slice rA rn rc,.slice oA on oc,.slice tA tm tc,.slice lA ln lc,.int .i64 ar,.slice (some ⟨b',o,none⟩) bn bc] 28)).heap.size=w.heap.size+1:=by simp
 have HC7:=hide fun (w':World) (y:Below (w.alloc (.cells #[.string nm,.slice rA rn rc,.slice oA on oc,.slice tA tm tc,.slice lA ln lc,.int .i64 ar,.slice (some ⟨b',o,none⟩) bn bc] 28)).heap.size (w.alloc (.cells #[.string nm,.slice rA rn rc,.slice oA on oc,.slice tA tm tc,.slice lA ln lc,.int .i64 ar,.slice (some ⟨b',o,none⟩) bn bc] 28)) w')=>cells7 y
 have HC1:=hide hc1
 obtain ⟨W1,hW1⟩:∃ W1,W1=w.alloc (.cells #[.string nm,.slice rA rn rc,.slice oA on oc,.slice tA tm tc,.slice lA ln lc,.int .i64 ar,.slice (some ⟨b',o,none⟩) bn bc] 28):=⟨_,rfl⟩
 rw [←hW1] at HB hws HC7
 have HWS:=hide hws
 have hcx:=hide fun (w':World) (y:Below W1.heap.size W1 w')=>(show _∧_∧_∧_∧_∧_∧_ from HC7.out w' y)
 have hel:=hide fun (w':World) (y:Below W1.heap.size W1 w')=>(show w'.cell? ⟨b',o+i*7+1,none⟩=some (.int .i64 bk)∧w'.cell? ⟨b',o+i*7+2,none⟩=some (.slice xA xn xc)∧w'.cell? ⟨b',o+i*7+3,none⟩=some (.slice gA gn gc)∧w'.cell? ⟨b',o+i*7+4,none⟩=some (.int .i64 l)∧w'.cell? ⟨b',o+i*7+5,none⟩=some (.slice pA pn pc)∧w'.cell? ⟨b',o+i*7+6,none⟩=some (.string tnm) from
  have hz:=fun j=>(y.cell (p:=⟨b',o+i*7+j,none⟩) (show b' < W1.heap.size by rw [HWS.out];omega)).trans (HB.out.cell (p:=⟨b',o+i*7+j,none⟩) hbB)
  ⟨(hz 1).trans (HC1.out 0 _ rfl),(hz 2).trans (HC1.out 1 _ rfl),(hz 3).trans (HC1.out 2 _ rfl),(hz 4).trans (HC1.out 3 _ rfl),(hz 5).trans (HC1.out 4 _ rfl),(hz 6).trans (HC1.out 5 _ rfl)⟩)
 have HW1:=hide hW1
 have HD:=hide ((Below.refl W1.heap.size W1).drew)
 clear hc1 hws hW1 hbB
 go_enter Tryz.func113,Tryz.ntmps113
 go_wp2
 rw [←HW1.out]
 refine wp_region_held_drew (S:=(fun w'=>Below W1.heap.size W1 w')) (by kernel_rfl) HD.out (fun hHeld=>?_)
 refine planS [0,1,2,3,4,5,6] ?_
 repeat' (first | refine pT hHeld rfl ?_ | refine pS hHeld rfl ?_)
 refine planE ?_
 refine wpAnyH_ready (rs:=[7]) (by kernel_rfl) (by simp) ?_
 refine AllReadyH.cons rfl (fun KZ hK=>?_) AllReadyH.nil
 go_simp
 refine (HTG.out _ (HB.out.trans (HD.out.mono HB.out.size))).mono ?_
 rintro e5 w5 ⟨A,c,rfl,hown,hb0⟩
 have HY:=hide (HD.out.trans (hb0.mono HD.out.size))
 have HO:=hide (ownsRow_base hown (show w.heap.size+1≤_ by rw [←HWS.out];exact HD.out.size))
 clear hb0 hown
 refine hK.out _ _ HY.out (fun hHeld=>?_)
 clear hK KZ
 try simp only [Act.put,List.setIfInBounds_toArray,List.set_cons_zero,List.set_cons_succ]
 refine planS [8] ?_
 repeat' (first | refine pT hHeld rfl ?_ | refine pS hHeld rfl ?_)
 refine planE ?_
 refine wpAnyH_done (by kernel_rfl) ?_ _
 obtain ⟨n,hn⟩:∃ n,L.length=n:=⟨_,rfl⟩
 have HLN:=hide hn
 rw [hn] at HO hLl ⊢
 clear hn
 go_wp2
 go_loopw [20] (fun i wr=>∃ j:Nat,i=.int .i64 (j:Int)∧j≤n∧Hid (wr.ownsRow (w.heap.size+1) 3 1 (.slice A n c) n (((L.take j).map (fun z=>(ptFirst BL z.toNat:Int))++L.drop j).flatMap cInt))∧Hid (Below W1.heap.size W1 wr)) (fun i _=>n - (intOf i).toNat)
 case atStart=>exact ⟨0,rfl,Nat.zero_le _,hide (by rw [List.take_zero,List.map_nil,List.nil_append,List.drop_zero];exact HO.out),HY⟩
 case round=>
  obtain ⟨j,rfl,hj,HO,HW⟩:=hrel
  by_cases hlt:j < n
  ·
   have hlt':(j:Int) < (n:Int):=by omega
   obtain ⟨t,ht⟩:∃ t,L[j]?=some t:=⟨_,List.getElem?_eq_getElem (by rw [HLN.out];exact hlt)⟩
   obtain ⟨_,ht0,ht1⟩:=HLM.out t (List.mem_of_getElem? ht)
   obtain ⟨k,rfl⟩:∃ k:Nat,t=(k:Int):=⟨t.toNat,by omega⟩
   obtain ⟨R,hR1,hR2⟩:=jm_set ht (fun z=>(ptFirst BL z.toNat:Int))
   have hown:=HO.out
   rw [hR1] at hown
   obtain ⟨g,rfl,hg1,hg2⟩:=own_form hown (by omega)
   have hml:((L.take j).map (fun z=>(ptFirst BL z.toNat:Int))).length=j:=by rw [List.length_map,List.length_take,HLN.out];omega
   have ht2:=own_there hown hlt 0 (by omega)
   obtain ⟨g',z',hgA,_,hgc⟩:=(Cells.of_own cInt_len (by decide) hown).at_ (i:=j) (x:=(k:Int)) (by rw [List.getElem?_append_right (by rw [hml];exact Nat.le_refl _),hml,Nat.sub_self];rfl)
   injection hgA with hgA
   injection hgA with hga hgz
   subst hga hgz
   have c0:wr.cell? ⟨g,j,none⟩=some (.int .i64 (k:Int)):=by simpa using hgc 0 _ rfl
   have ff:wr.frozen? ⟨g,j,none⟩=false:=by simpa using ht2.2
   have hkb:k < bn:=by have h:(k:Int) < (bn:Int):=ht1;omega
   obtain ⟨f1,f2,hfA,hfB,hfc⟩:=HF.out.at_ (stI_at BL hkb)
   have hfA:fA=some ⟨f1,f2,none⟩:=hfA
   subst hfA
   obtain ⟨m,hm⟩:∃ m,ptFirst BL k=m:=⟨_,rfl⟩
   rw [hm] at hfc
   have d0:wr.cell? ⟨f1,f2+k,none⟩=some (.int .i64 (m:Int)):=(HW.out.cell (p:=⟨f1,f2+k,none⟩) (show f1 < W1.heap.size by rw [HWS.out];omega)).trans ((HB.out.cell (p:=⟨f1,f2+k,none⟩) hfB).trans (by simpa using hfc 0 _ rfl))
   have hset:=own_set cInt_len (q:=(m:Int)) hown
   rw [hml,Nat.mul_one] at hset
   have HO5:=hide (show (wr.setCell ⟨g,j,none⟩ (.int .i64 (m:Int))).ownsRow (w.heap.size+1) 3 1 (.slice (some ⟨g,0,none⟩) n c) n (((L.take (j+1)).map (fun z=>(ptFirst BL z.toNat:Int))++L.drop (j+1)).flatMap cInt) from by
    rw [hR2]
    show (wr.setCell ⟨g,j,none⟩ (.int .i64 (m:Int))).ownsRow (w.heap.size+1) 3 1 (.slice (some ⟨g,0,none⟩) n c) n (((L.take j).map (fun z=>(ptFirst BL z.toNat:Int))++(ptFirst BL ((k:Int)).toNat:Int) :: R).flatMap cInt)
    rw [Int.toNat_natCast,hm]
    exact hset)
   have HW5:=hide (HW.out.setCell (p:=⟨g,j,none⟩) (show W1.heap.size≤g by rw [HWS.out];exact hg1) (.int .i64 (m:Int)))
   have hk':(k:Int) < (bn:Int):=by omega
   have hk0:(0:Int)≤(k:Int):=by omega
   have hj0:(0:Int)≤(j:Int):=by omega
   clear ht ht0 ht1 hR1 hR2 hown hml ht2 hgc hfc hm hset HO
   go_wp2
   go_roundw
   case rel=>exact ⟨j+1,by go_num,by omega,HO5,HW5⟩
   case measure=>simp [intOf];omega
  ·
   have hlt':¬(j:Int) < (n:Int):=by omega
   obtain rfl:n=j:=by omega
   have HO5:=hide (show wr.ownsRow w.heap.size 3 1 (.slice A n c) n ((L.map (fun z=>(ptFirst BL z.toNat:Int))).flatMap cInt) from by
    have h:=HO.out
    rw [List.take_of_length_le (by rw [HLN.out];exact Nat.le_refl _),List.drop_eq_nil_of_le (by rw [HLN.out];exact Nat.le_refl _),List.append_nil] at h
    exact ownsRow_base h (Nat.le_succ _))
   go_wp2
   go_ret
   refine ⟨A,c,?_,?_,HB.out.trans (HW.out.mono HB.out.size)⟩
   ·
    rw [List.length_map,HLN.out];rfl
   ·
    rw [List.length_map,HLN.out];exact HO5.out
end Go.Proofs.YteeemjmohjkdpaaGreatDoor
namespace Go.Proofs.YteeemjmohjkdpaaGreatDoor
open Go.RowKit Go.Shelf
attribute [local go_sem] Oper.semAt_some
abbrev SpX (l:List BkV):={ s:Nat×Nat×Nat // ptLoc l s.1=some (s.2.1,s.2.2) }
def spenc {l:List BkV} (s:SpX l):Array Value:=#[aggSp s.1.1 s.1.2.1 s.1.2.2]
def spP {l:List BkV} (s:SpX l):Nat:=s.1.1
def spTs:List TypeId:=[28,3]
theorem abides_below11 {β:Type} {B:Nat} {J:β→World→Prop} (h:AbidesFrom B J) {s:β} {W W':World} (hs:J s W) (hb:Below W.heap.size W W'):J s W':=
 h s W W' none hs (grown_of_below hb) (fun r e=>by cases e)
theorem range_up11 (f P:Nat) (h:f≤P):List.range' f (P+1 - f)=List.range' f (P - f)++[P]:=by
 obtain ⟨d,rfl⟩:=Nat.exists_eq_add_of_le h
 rw [show f+d+1 - f=d+1 by omega,show f+d - f=d by omega,List.range'_concat]
 simp
theorem mapP_snoc {l:List BkV} {pre:List (SpX l)} {s:SpX l} {f P:Nat} (h:pre.map spP=List.range' f (P - f)) (hf:f≤P) (hs:spP s=P):(pre++[s]).map spP=List.range' f (P+1 - f):=by
 rw [List.map_append,h,range_up11 f P hf,List.map_singleton,hs]
theorem mapP_len {l:List BkV} {pre:List (SpX l)} {f P:Nat} (h:pre.map spP=List.range' f (P - f)):pre.length=P - f:=by
 have:=congrArg List.length h
 rwa [List.length_map,List.length_range'] at this
theorem mapP_pre {l:List BkV} {pre:List (SpX l)} {f P C:Nat} (h:pre.map spP=List.range' f (P - f)) (hP:P≤C):pre.map spP <+: List.range' f (C - f):=by
 rw [h]
 obtain ⟨d,hd⟩:=Nat.exists_eq_add_of_le (show P - f≤C - f by omega)
 rw [hd,← List.range'_append_1]
 exact List.prefix_append _ _
theorem onward_in (n:Nat) (x:BdW) (fr:Int) (w:World) :
  CallsIn Fence.wide n Tryz.prog 111 #[aggBd x,.int .i64 fr] w fun e w'=>e=.returned (.func (.func 145) #[] #[.pointer (some ⟨w.heap.size,0,none⟩),.pointer (some ⟨w.heap.size+1,0,none⟩)]) ∧
   w'=(w.alloc (.cells (cBd x).toArray 28)).alloc (.cells #[.int .i64 fr] 3):=by
 obtain ⟨nm,⟨rA,rn,rc,rL⟩,⟨oA,on,oc,oL⟩,⟨tA,tm,tc,tL⟩,⟨lA,ln,lc,lL⟩,ar,⟨bA,bn,bc,bL⟩⟩:=x
 refine callsIn_of_wp Tryz.func111 rfl trivial ?_ rfl
 simp only [Tryz.ntmps111,List.size_toArray,List.length_cons,List.length_nil,Nat.reduceAdd,Nat.reduceSub,Array.replicate_succ,Array.replicate_zero,List.push_toArray,List.append_toArray,List.nil_append,List.cons_append]
 gi_wp2
 go_ret
 exact ⟨rfl,rfl⟩
theorem onward1_in (n:Nat) (hn:1≤n) (l Bb Bf n₀:Nat) (x:BdW) (BL:List BkV) (hBL:x.v.blocks=BL) (fr:Int) (C:Nat) (hC:ptCount BL=C) (hN:C≤2 ^ 62) (hI:IntR fr) (B0:Nat) (J Jx:List (SpX BL)→World→Prop) (hJ:AbidesFrom B0 J) (hJx:AbidesFrom B0 Jx)
  (hY:∀ pre s W,J pre W→pre.length < C - fr.toNat→YieldAt Fence.wide (n - 1) Tryz.prog l (spenc s) W fun e W'=>
   (e=.returned (.bool true)∧J (pre++[s]) W'∧KeepT n₀ spTs W W')∨(e=.returned (.bool false)∧Jx (pre++[s]) W'))
  (W:World) (hBb:W.heap[Bb]?=some (.cells (cBd x).toArray 28 (0,0))) (hBf:Boxed W Bf 3 (.int .i64 fr)) (hx:OneBd W n₀ x) (hn0:n₀≤W.heap.size) (h0:J [] W) :
  CallsIn Fence.wide n Tryz.prog 145 #[.func (.yield l) #[] #[],.pointer (some ⟨Bb,0,none⟩),.pointer (some ⟨Bf,0,none⟩)] W fun e W'=>(∃ v,e=.returned v) ∧
   ((∃ ys:List (SpX BL),ys.map spP=List.range' fr.toNat (C - fr.toNat)∧J ys W')∨(∃ pre:List (SpX BL),pre.map spP <+: List.range' fr.toNat (C - fr.toNat)∧Jx pre W')):=by
 obtain ⟨f,hf⟩:∃ f,fr.toNat=f:=⟨_,rfl⟩
 rw [hf] at hY ⊢
 have HF:=hide hf
 have HJ:=hide fun (pre:List (SpX BL)) (W W':World) (h:J pre W) (hb:Below W.heap.size W W')=>abides_below11 hJ h hb
 have HYY:=hide hY
 have HBV:=hide hBL
 have HCC:=hide hC
 have hbl:=bk_len hx
 rw [hBL] at hbl
 have hbm:=hx.blocks.nm
 unfold maxLen at hbm
 obtain ⟨hI1,hI2⟩:=hI
 have HX:=hide hx
 obtain ⟨nm,⟨rA,rn,rc,rL⟩,⟨oA,on,oc,oL⟩,⟨tA,tm,tc,tL⟩,⟨lA,ln,lc,lL⟩,ar,⟨bA,bn,bc,bL⟩⟩:=x
 have HBL:=hide (show BL.length=bn from hbl)
 have hbm:bn≤2 ^ 63 - 1:=hbm
 have c6:W.cell? ⟨Bb,6,none⟩=some (.slice bA bn bc):=cell_of_heap hBb 6
 have HBf:=hide hBf
 have HK0:=hide (KeepT.refl n₀ spTs W)
 clear hJ hY hBL hbl hx hC hf hBb hBf
 refine callsIn_of_wp Tryz.func145 rfl trivial ?_ rfl
 simp only [Tryz.ntmps145,List.size_toArray,List.length_cons,List.length_nil,Nat.reduceAdd,Nat.reduceSub,Array.replicate_succ,Array.replicate_zero,List.push_toArray,List.append_toArray,List.nil_append,List.cons_append]
 refine wpIn_wide.2 (wp_scope_straight ((wpIn_wide (n:=n)).1 ?_))
 gi_wp2
 apply wpIn_label
 gi_wp2
 clear c6
 gi_loopw [4,12] (fun v i wr=>∃ (pre:List (SpX BL)) (j:Nat),i=.int .i64 (j:Int)∧v=.int .i64 (ptFirst BL j:Nat)∧j≤bn∧Hid (pre.map spP=List.range' f (ptFirst BL j - f))∧J pre wr∧Hid (KeepT n₀ spTs W wr)∧n₀≤wr.heap.size) (fun _ i _=>bn - (intOf i).toNat)
 case atStart=>exact ⟨[],0,rfl,by rw [ptFirst_zero];rfl,Nat.zero_le _,(show _=_ by rw [ptFirst_zero,Nat.zero_sub];rfl),h0,HK0,hn0⟩
 case round=>
  obtain ⟨pre,j,rfl,rfl,hj,HP,hJs,HK,hnw⟩:=hrel
  by_cases hlt:j < bn
  ·
   have hlt':(j:Int) < (bn:Int):=by omega
   obtain ⟨p,b,o,_,hpv,hps,hA,hb,hob,hc⟩:=bk_all (HX.out.below HK.out.1) hlt
   have hA:bA=some ⟨b,o,none⟩:=hA
   subst hA
   have hpv:BL[j]?=some p.v:=HBV.out ▸ hpv
   have hu:=ptFirst_up hpv
   unfold ptN at hu
   rw [hps] at hu
   have hle:=ptFirst_le BL (j+1)
   rw [HCC.out] at hle
   have HPV:=hide hpv
   have HPS:=hide hps
   obtain ⟨m,hm⟩:∃ m,ptFirst BL j=m:=⟨_,rfl⟩
   have HMM:=hide hm
   have h62:m+(p.stmts.n+1)≤C:=by omega
   have HU:=hide (show ptFirst BL (j+1)=m+(p.stmts.n+1) by omega)
   have HSZ:=hide fun (w':World)=>PSize_any p w' (by omega)
   rw [hm] at HP ⊢
   obtain ⟨⟨sA,sn,sc,sL⟩,⟨bk,⟨xA,xn,xc,xL⟩,⟨gA,gn,gc,gL⟩,⟨l,pA,pn,pc,ps⟩,tnm⟩⟩:=p
   have HPS:=hide (show (BkV.stmts (BkW.v ⟨⟨sA,sn,sc,sL⟩,⟨bk,⟨xA,xn,xc,xL⟩,⟨gA,gn,gc,gL⟩,⟨l,pA,pn,pc,ps⟩,tnm⟩⟩)).length=sn from HPS.out)
   have h62:m+(sn+1)≤C:=h62
   have c0:wr.cell? ⟨b,o+j*7,none⟩=some (.slice sA sn sc):=hc 0 _ rfl
   have c1:wr.cell? ⟨b,o+j*7+1,none⟩=some (.int .i64 bk):=hc 1 _ rfl
   have c2:wr.cell? ⟨b,o+j*7+2,none⟩=some (.slice xA xn xc):=hc 2 _ rfl
   have c3:wr.cell? ⟨b,o+j*7+3,none⟩=some (.slice gA gn gc):=hc 3 _ rfl
   have c4:wr.cell? ⟨b,o+j*7+4,none⟩=some (.int .i64 l):=hc 4 _ rfl
   have c5:wr.cell? ⟨b,o+j*7+5,none⟩=some (.slice pA pn pc):=hc 5 _ rfl
   have c6:wr.cell? ⟨b,o+j*7+6,none⟩=some (.string tnm):=hc 6 _ rfl
   have HB4:=hide (below1 wr (.cells #[.slice sA sn sc,.int .i64 bk,.slice xA xn xc,.slice gA gn gc,.int .i64 l,.slice pA pn pc,.string tnm] 62))
   obtain ⟨y0,y1,y2,y3,y4,y5,y6⟩:=cells7 (Below.refl (wr.alloc (.cells #[.slice sA sn sc,.int .i64 bk,.slice xA xn xc,.slice gA gn gc,.int .i64 l,.slice pA pn pc,.string tnm] 62)).heap.size (wr.alloc (.cells #[.slice sA sn sc,.int .i64 bk,.slice xA xn xc,.slice gA gn gc,.int .i64 l,.slice pA pn pc,.string tnm] 62)))
   have s3:IntKind.i64.wrap ((m:Int)+((sn:Int)+1))=(m:Int)+((sn:Int)+1):=wrapI9 _ (by omega) (by omega)
   clear hpv hps hc hu hle hm hob
   gi_wp2_with (refine ⟨trivial,?_⟩;gi_at_call 72;refine (callsIn_wide.2 (HSZ.out _)).mono ?_;rintro e w2 ⟨rfl,hb2⟩;have HB5:=hide (HB4.out.trans (hb2.mono HB4.out.size));have cF:=cell_of_heap ((HK.out.2 _ _ _ _ (by simp [spTs]) HBf.out) |> (HB5.out.block Bf (Array.getElem?_eq_some_iff.1 (HK.out.2 _ _ _ _ (by simp [spTs]) HBf.out)).1).trans) 0)
   have HK5:=hide (HK.out.trans (KeepT.of_below HB5.out hnw))
   have HJ5:=hide (HJ.out _ _ _ hJs HB5.out)
   have hn5:n₀≤w2.heap.size:=Nat.le_trans hnw HB5.out.size
   have hmx:max (m:Int) fr=((max m f:Nat):Int):=by have:=HF.out;omega
   rw [hmx]
   have hmx2:max m f=m∨max m f=f:=by omega
   have hmx3:m≤max m f:=Nat.le_max_left _ _
   have hmx4:f≤max m f:=Nat.le_max_right _ _
   have HP5:=hide (show pre.map spP=List.range' f (max m f - f) from by
    rw [HP.out]
    congr 1
    omega)
   obtain ⟨P0,hP0⟩:∃ P0,max m f=P0:=⟨_,rfl⟩
   rw [hP0] at hmx2 hmx3 hmx4 HP5 ⊢
   obtain ⟨E,hE⟩:∃ E,m+(sn+1)=E:=⟨_,rfl⟩
   have hEi:(m:Int)+((sn:Int)+1)=(E:Int):=by omega
   rw [hEi]
   clear hb2 cF c0 c1 c2 c3 c4 c5 c6 y0 y1 y2 y3 y4 y5 y6 s3 hmx hP0 hJs hEi
   generalize wr=wo at *
   gi_loopw [8] (fun v wr=>∃ (pre:List (SpX BL)) (P:Nat),v=.int .i64 (P:Int)∧f≤P∧m≤P∧(P≤E∨P=f)∧Hid (pre.map spP=List.range' f (P - f))∧J pre wr∧Hid (KeepT n₀ spTs W wr)∧n₀≤wr.heap.size) (fun v _=>E - (intOf v).toNat)
   case atStart=>exact ⟨pre,P0,rfl,hmx4,hmx3,by omega,HP5.out,HJ5.out,HK5,hn5⟩
   case round=>
    clear HP5 HJ5 HK5 hn5 HP
    obtain ⟨pre,P,rfl,hfP,hmP,hor,HP,hJs,HK6,hn6⟩:=hrel
    by_cases hPE:P < E
    ·
     have hPE':(P:Int) < (E:Int):=by omega
     obtain ⟨k,hk⟩:∃ k,P=m+k:=Nat.exists_eq_add_of_le hmP
     have hok:ptLoc BL P=some (j,k):=ptLoc_iff.2 ⟨_,HPV.out,by rw [HPS.out];omega,by rw [HMM.out];exact hk⟩
     have HP2:=hide (mapP_snoc (s:=(⟨(P,j,k),hok⟩:SpX BL)) HP.out hfP rfl)
     have hlen:pre.length < C - f:=by
      have:=mapP_len HP.out
      omega
     have HY1:=HYY.out pre ⟨(P,j,k),hok⟩ wr hJs hlen
     simp only [spenc] at HY1
     have s1:IntKind.i64.wrap ((P:Int) - (m:Int))=(k:Int):=by
      rw [show (P:Int) - (m:Int)=(k:Int) by omega]
      exact wrapI9 _ (by omega) (by omega)
     have HPP:=hide (mapP_pre (C:=C) HP2.out (by omega))
     have hP62:P≤2 ^ 62:=by omega
     have s2:IntKind.i64.wrap ((P:Int)+1)=(P:Int)+1:=wrapI9 _ (by omega) (by omega)
     obtain ⟨fn,tmps,assign,body,hy,hR⟩:=HY1
     clear hlen hor HP hJs hk
     gi_wp2
     refine hR.mono ?_
     rintro e w3 (⟨rfl,hJ3,hk3⟩ | ⟨rfl,hJ3⟩)
     ·
      have HK3:=hide (HK6.out.trans hk3)
      have hn3:=Nat.le_trans hn6 hk3.1.size
      clear hk3 hR hy
      gi_wp2
      exact ⟨⟨_,P+1,by go_num,by omega,by omega,.inl hPE,HP2.out,hJ3,HK3,hn3⟩,by simp [intOf];omega⟩
     ·
      gi_wp2
      rw [Exit.noGoto_normal]
      go_end0
      exact ⟨⟨_,rfl⟩,.inr ⟨_,HPP.out,hJ3⟩⟩
    ·
     have hPE':¬(P:Int) < (E:Int):=by omega
     have HP7:=hide (show pre.map spP=List.range' f (ptFirst BL (j+1) - f) from by
      rw [HP.out,HU.out]
      congr 1
      omega)
     have he:(E:Int)=(ptFirst BL (j+1):Nat):=by rw [HU.out,hE]
     rw [he]
     clear hor HP
     gi_wp2
     exact ⟨⟨pre,j+1,by go_num,rfl,by omega,HP7,hJs,HK6,hn6⟩,by simp [intOf];omega⟩
  ·
   have hlt':¬(j:Int) < (bn:Int):=by omega
   have HP7:=hide (show pre.map spP=List.range' f (C - f) from by
    rw [HP.out,ptFirst_all (show BL.length≤j by rw [HBL.out];omega),HCC.out])
   gi_wp2
   go_end0
   exact ⟨⟨_,rfl⟩,.inl ⟨pre,HP7.out,hJs⟩⟩
theorem onward_stops (n:Nat) (hn:1≤n) (Bb Bf n₀:Nat) (x:BdW) (BL:List BkV) (hBL:x.v.blocks=BL) (fr:Int) (C:Nat) (hC:ptCount BL=C) (hN:C≤2 ^ 62) (hI:IntR fr) (w:World) (hBb:w.heap[Bb]?=some (.cells (cBd x).toArray 28 (0,0))) (hBf:Boxed w Bf 3 (.int .i64 fr)) (hx:OneBd w n₀ x) (hn0:n₀≤w.heap.size) :
  SeqStopsK Fence.wide n Tryz.prog 145 #[.pointer (some ⟨Bb,0,none⟩),.pointer (some ⟨Bf,0,none⟩)] (fun s:SpX BL=>spenc s) (KeepT n₀ spTs) (fun ys=>ys.map spP=List.range' fr.toNat (C - fr.toNat)) (fun pre=>pre.map spP <+: List.range' fr.toNat (C - fr.toNat)) (C - fr.toNat) w:=fun l J Jx W hW hJ hJx hY h0=>
 onward1_in n hn l Bb Bf n₀ x BL hBL fr C hC hN hI W.heap.size J Jx hJ hJx hY W ((hW.block Bb (Array.getElem?_eq_some_iff.1 hBb).1).trans hBb) ((hW.block Bf hBf.lt).trans hBf) (hx.below (hW.mono hn0)) (Nat.le_trans hn0 hW.size) h0
end Go.Proofs.YteeemjmohjkdpaaGreatDoor
namespace Go.Proofs.YteeemjmohjkdpaaGreatDoor
open Go.RowKit Go.Shelf
attribute [local go_sem] Oper.semAt_some
theorem results_spot {P:Program} {fn:Func} {p u:Tmp} {ty ty2:TypeId} (h:fn.results=#[.cell p ty,.cell u ty2]) (tmps:Array Value) (w:World) (g g2:Nat) (t:TypeId) (cs:Array Value) (fr:Nat×Nat) (d:TypeDesc) (v:Value)
  (hp:tmps.getD p undef=.pointer (some ⟨g,0,none⟩)) (hg:w.heap[g]?=some (.cells cs t fr))
  (hu:P.underlying ty=some d) (hd:(match d with | .struct _ | .array _ _=>true | _=>false)=true) (hi:(P.info? ty).map (·.size)=some cs.size)
  (hp2:tmps.getD u undef=.pointer (some ⟨g2,0,none⟩)) (h2:(loadVar ty2 ⟨g2,0,none⟩).run P w=.ok v w) :
  (results fn tmps).run P w=.ok (.tuple #[.agg cs,v]) w:=by
 have hp':tmps[p]?.getD undef=.pointer (some ⟨g,0,none⟩):=by simpa using hp
 have hp2':tmps[u]?.getD undef=.pointer (some ⟨g2,0,none⟩):=by simpa using hp2
 simp [results,h,hp',hp2',asAddr,run_loadVar_row w g t ty cs fr d hg hu hd hi,h2,Sem.run_bind,Result.andThen]
def vSp:Option (Nat×Nat)→Int→Value
 | some x,p=>.tuple #[.agg #[.int .i64 p,.int .i64 (x.1:Int),.int .i64 (x.2:Int)],.bool true]
 | none,_=>.tuple #[.agg #[.int .i64 0,.int .i64 0,.int .i64 0],.bool false]
def LocBy {BL:List BkV} (g h:Nat) (pre:List (SpX BL)) (W:World):Prop:=∃ s,pre=[s]∧W.heap[g]?=some (.cells #[.int .i64 (s.1.1:Int),.int .i64 (s.1.2.1:Int),.int .i64 (s.1.2.2:Int)] 167 (0,0))∧Boxed W h 4 (.bool true)
theorem block_own11 {W W':World} {row:Option Nat} {B:Nat} {cs:Array Value} {t:TypeId} {fr:Nat×Nat} (h:W.heap[B]?=some (.cells cs t fr)) (hg:W.grownBy W' row) (hr:∀ r,row=some r→∃ o:Obj,W.heap[r]?=some o∧o.isCells=false):W'.heap[B]?=some (.cells cs t fr):=
 (hg.block B (Array.getElem?_eq_some_iff.1 h).1 (fun e'=>by
  obtain ⟨o,ho,hc⟩:=hr B e'.symm
  rw [h] at ho
  injection ho with ho
  subst ho
  cases hc)).trans h
theorem LocBy.own {BL:List BkV} {g h:Nat} {pre:List (SpX BL)} {W W':World} {row:Option Nat} (H:LocBy g h pre W) (hg:W.grownBy W' row) (hr:∀ r,row=some r→∃ o:Obj,W.heap[r]?=some o∧o.isCells=false):LocBy g h pre W':=by
 obtain ⟨s,h1,h2,h3⟩:=H
 exact ⟨s,h1,block_own11 h2 hg hr,block_own11 h3 hg hr⟩
theorem PLoc_neg (x:BdW) (pt:Int) (w:World) (hneg:pt < 0) :
  Calls Tryz.prog 105 #[aggBd x,.int .i64 pt] w fun e w'=>e=.returned (vSp none pt)∧Below w.heap.size w w':=by
 obtain ⟨nm,⟨rA,rn,rc,rL⟩,⟨oA,on,oc,oL⟩,⟨tA,tm,tc,tL⟩,⟨lA,ln,lc,lL⟩,ar,⟨bA,bn,bc,bL⟩⟩:=x
 go_enter Tryz.func105,Tryz.ntmps105
 go_wp2
 have hB:=(below1 w (.cells #[.string nm,.slice rA rn rc,.slice oA on oc,.slice tA tm tc,.slice lA ln lc,.int .i64 ar,.slice bA bn bc] 28)).trans ((below1 (w.alloc (.cells #[.string nm,.slice rA rn rc,.slice oA on oc,.slice tA tm tc,.slice lA ln lc,.int .i64 ar,.slice bA bn bc] 28)) (.cells #[.int .i64 0,.int .i64 0,.int .i64 0] 167)).mono (below1 w (.cells #[.string nm,.slice rA rn rc,.slice oA on oc,.slice tA tm tc,.slice lA ln lc,.int .i64 ar,.slice bA bn bc] 28)).size)
 have hB2:=hB.trans ((below1 _ (.cells #[.bool false] 4)).mono hB.size)
 refine bodyPost_ret (v:=vSp none pt) ?_ rfl ⟨rfl,hB2⟩
 refine results_spot rfl _ _ (w.heap.size+1) (w.heap.size+1+1) 167 #[.int .i64 0,.int .i64 0,.int .i64 0] (0,0) _ (.bool false) rfl ?_ Tryz.underlying167 rfl (by kernel_rfl) rfl ?_
 ·
  have h:=heap_alloc_new (w.alloc (.cells #[.string nm,.slice rA rn rc,.slice oA on oc,.slice tA tm tc,.slice lA ln lc,.int .i64 ar,.slice bA bn bc] 28)) (.cells #[.int .i64 0,.int .i64 0,.int .i64 0] 167)
  have h1:(w.alloc (.cells #[.string nm,.slice rA rn rc,.slice oA on oc,.slice tA tm tc,.slice lA ln lc,.int .i64 ar,.slice bA bn bc] 28)).heap.size=w.heap.size+1:=by simp
  rw [h1] at h
  have hs:((w.alloc (.cells #[.string nm,.slice rA rn rc,.slice oA on oc,.slice tA tm tc,.slice lA ln lc,.int .i64 ar,.slice bA bn bc] 28)).alloc (.cells #[.int .i64 0,.int .i64 0,.int .i64 0] 167)).heap.size=w.heap.size+1+1:=by simp
  exact ((below1 ((w.alloc (.cells #[.string nm,.slice rA rn rc,.slice oA on oc,.slice tA tm tc,.slice lA ln lc,.int .i64 ar,.slice bA bn bc] 28)).alloc (.cells #[.int .i64 0,.int .i64 0,.int .i64 0] 167)) (.cells #[.bool false] 4)).block (w.heap.size+1) (by rw [hs];omega)).trans h
 ·
  go_simp
theorem PLoc_yes (x:BdW) (pt:Int) (w:World) (hx:OneBd w w.heap.size x) (hN:ptCount x.v.blocks≤2 ^ 62) (hI:IntR pt) (hpos:0≤pt) :
    Calls Tryz.prog 105 #[aggBd x,.int .i64 pt] w fun e w'=>e=.returned (vSp (ptLocI x.v.blocks pt) pt)∧Below w.heap.size w w':=by
  refine (callsIn_wide (n:=9)).1 ?_
  obtain ⟨BL,hBL⟩:∃ l,x.v.blocks=l:=⟨_,rfl⟩
  obtain ⟨C,hC⟩:∃ n,ptCount BL=n:=⟨_,rfl⟩
  rw [hBL,hC] at hN
  rw [hBL]
  have HX:=hide hx
  have HBV:=hide hBL
  have HCC:=hide hC
  have HI:=hide hI
  have HSTOP:=hide fun (n:Nat) (hn:1≤n) (Bb Bf:Nat) (w':World) (hBb:w'.heap[Bb]?=some (.cells (cBd x).toArray 28 (0,0))) (hBf:Boxed w' Bf 3 (.int .i64 pt)) (hx:OneBd w' w.heap.size x) (hn0:w.heap.size≤w'.heap.size)=>onward_stops n hn Bb Bf w.heap.size x BL hBL pt C hC hN hI w' hBb hBf hx hn0
  clear hx hBL hC hI
  obtain ⟨nm,⟨rA,rn,rc,rL⟩,⟨oA,on,oc,oL⟩,⟨tA,tm,tc,tL⟩,⟨lA,ln,lc,lL⟩,ar,⟨bA,bn,bc,bL⟩⟩:=x
  have HON:=hide fun (n:Nat) (w':World)=>(show CallsIn Fence.wide n Tryz.prog 111 #[.agg #[.string nm,.slice rA rn rc,.slice oA on oc,.slice tA tm tc,.slice lA ln lc,.int .i64 ar,.slice bA bn bc],.int .i64 pt] w' fun e w2=>e=.returned (.func (.func 145) #[] #[.pointer (some ⟨w'.heap.size,0,none⟩),.pointer (some ⟨w'.heap.size+1,0,none⟩)]) ∧
      w2=(w'.alloc (.cells #[.string nm,.slice rA rn rc,.slice oA on oc,.slice tA tm tc,.slice lA ln lc,.int .i64 ar,.slice bA bn bc] 28)).alloc (.cells #[.int .i64 pt] 3) from onward_in n ⟨nm,⟨rA,rn,rc,rL⟩,⟨oA,on,oc,oL⟩,⟨tA,tm,tc,tL⟩,⟨lA,ln,lc,lL⟩,ar,⟨bA,bn,bc,bL⟩⟩ pt w')
  refine callsIn_of_wp_marks Tryz.func105 rfl trivial ?_ rfl
  simp only [Tryz.ntmps105,List.size_toArray,List.length_cons,List.length_nil,Nat.reduceAdd,Nat.reduceSub,Array.replicate_succ,Array.replicate_zero,List.push_toArray,List.append_toArray,List.nil_append,List.cons_append]
  gi_wp2_with (refine ⟨trivial,?_⟩;gi_at_call 111;refine (HON.out _ _).mono ?_;rintro e w2 ⟨rfl,rfl⟩)
  have bS:=((((Bx.new (w.alloc (.cells #[.string nm,.slice rA rn rc,.slice oA on oc,.slice tA tm tc,.slice lA ln lc,.int .i64 ar,.slice bA bn bc] 28)) [.int .i64 0,.int .i64 0,.int .i64 0] 167).below (below1 _ (.cells #[.bool false] 4))).below (below1 _ (.cells #[.string nm,.slice rA rn rc,.slice oA on oc,.slice tA tm tc,.slice lA ln lc,.int .i64 ar,.slice bA bn bc] 28))).below (below1 _ (.cells #[.int .i64 pt] 3)))
  have bF:=(((Bx.new ((w.alloc (.cells #[.string nm,.slice rA rn rc,.slice oA on oc,.slice tA tm tc,.slice lA ln lc,.int .i64 ar,.slice bA bn bc] 28)).alloc (.cells #[.int .i64 0,.int .i64 0,.int .i64 0] 167)) [.bool false] 4).below (below1 _ (.cells #[.string nm,.slice rA rn rc,.slice oA on oc,.slice tA tm tc,.slice lA ln lc,.int .i64 ar,.slice bA bn bc] 28))).below (below1 _ (.cells #[.int .i64 pt] 3)))
  have bC:=(Bx.new (((w.alloc (.cells #[.string nm,.slice rA rn rc,.slice oA on oc,.slice tA tm tc,.slice lA ln lc,.int .i64 ar,.slice bA bn bc] 28)).alloc (.cells #[.int .i64 0,.int .i64 0,.int .i64 0] 167)).alloc (.cells #[.bool false] 4)) [.string nm,.slice rA rn rc,.slice oA on oc,.slice tA tm tc,.slice lA ln lc,.int .i64 ar,.slice bA bn bc] 28).below (below1 _ (.cells #[.int .i64 pt] 3))
  have bP:=Bx.new ((((w.alloc (.cells #[.string nm,.slice rA rn rc,.slice oA on oc,.slice tA tm tc,.slice lA ln lc,.int .i64 ar,.slice bA bn bc] 28)).alloc (.cells #[.int .i64 0,.int .i64 0,.int .i64 0] 167)).alloc (.cells #[.bool false] 4)).alloc (.cells #[.string nm,.slice rA rn rc,.slice oA on oc,.slice tA tm tc,.slice lA ln lc,.int .i64 ar,.slice bA bn bc] 28)) [.int .i64 pt] 3
  have hB5:Below w.heap.size w (((((w.alloc (.cells #[.string nm,.slice rA rn rc,.slice oA on oc,.slice tA tm tc,.slice lA ln lc,.int .i64 ar,.slice bA bn bc] 28)).alloc (.cells #[.int .i64 0,.int .i64 0,.int .i64 0] 167)).alloc (.cells #[.bool false] 4)).alloc (.cells #[.string nm,.slice rA rn rc,.slice oA on oc,.slice tA tm tc,.slice lA ln lc,.int .i64 ar,.slice bA bn bc] 28)).alloc (.cells #[.int .i64 pt] 3)):=(((((Below.refl _ w).alloc (Nat.le_refl _) _).alloc (by simp) _).alloc (by simp;omega) _).alloc (by simp;omega) _).alloc (by simp;omega) _
  have hsz:(((((w.alloc (.cells #[.string nm,.slice rA rn rc,.slice oA on oc,.slice tA tm tc,.slice lA ln lc,.int .i64 ar,.slice bA bn bc] 28)).alloc (.cells #[.int .i64 0,.int .i64 0,.int .i64 0] 167)).alloc (.cells #[.bool false] 4)).alloc (.cells #[.string nm,.slice rA rn rc,.slice oA on oc,.slice tA tm tc,.slice lA ln lc,.int .i64 ar,.slice bA bn bc] 28)).alloc (.cells #[.int .i64 pt] 3)).heap.size=w.heap.size+5:=by simp
  simp only [World.size_alloc] at bS bF bC bP
  generalize (((((w.alloc (.cells #[.string nm,.slice rA rn rc,.slice oA on oc,.slice tA tm tc,.slice lA ln lc,.int .i64 ar,.slice bA bn bc] 28)).alloc (.cells #[.int .i64 0,.int .i64 0,.int .i64 0] 167)).alloc (.cells #[.bool false] 4)).alloc (.cells #[.string nm,.slice rA rn rc,.slice oA on oc,.slice tA tm tc,.slice lA ln lc,.int .i64 ar,.slice bA bn bc] 28)).alloc (.cells #[.int .i64 pt] 3))=W0 at *
  have HXW:=hide (HX.out.below hB5)
  have HB5:=hide hB5
  have hpt:((pt.toNat:Nat):Int)=pt:=by omega
  refine wpIn_rangeFunc_ownH rfl (by omega) (gf:=145) (lb:=#[.pointer (some ⟨w.heap.size+1+1+1,0,none⟩),.pointer (some ⟨w.heap.size+1+1+1+1,0,none⟩)]) rfl trivial (enters_of Tryz.func145 (by kernel_rfl) rfl)
    (HSTOP.out _ (by omega) (w.heap.size+1+1+1) (w.heap.size+1+1+1+1) W0 bC bP HXW.out (by omega)) keepT_t (keepT_b (by omega)) (Below.refl _ _) (fun _=>rfl)
    (fun pre W=>(pre=[]∧w.heap.size+5≤W.heap.size∧W.heap[w.heap.size+1]?=some (.cells #[.int .i64 0,.int .i64 0,.int .i64 0] 167 (0,0))∧Boxed W (w.heap.size+1+1) 4 (.bool false))∧Below w.heap.size w W)
    (fun cd pre W=>(cd=.ret∧LocBy (w.heap.size+1) (w.heap.size+1+1) pre W)∧Below w.heap.size w W)
    (OwnFrom.and (Own.from (fun s X Y row hs hg hr=>⟨hs.1,Nat.le_trans hs.2.1 hg.size,block_own11 hs.2.2.1 hg hr,block_own11 hs.2.2.2 hg hr⟩) _) (ownFrom_below (Nat.le_refl _) (by omega)))
    (fun cd=>OwnFrom.and (Own.from (fun s X Y row hs hg hr=>⟨hs.1,hs.2.own hg hr⟩) _) (ownFrom_below (Nat.le_refl _) (by omega)))
    ⟨⟨rfl,by omega,bS,bF⟩,HB5.out⟩
    (fun s a' W=>∃ Bq,w.heap.size+5≤Bq∧W.heap[Bq]?=some (.cells #[.int .i64 (s.1.1:Int),.int .i64 (s.1.2.1:Int),.int .i64 (s.1.2.2:Int)] 167 (0,0))∧a'={ tmps:=#[aggBd ⟨nm,⟨rA,rn,rc,rL⟩,⟨oA,on,oc,oL⟩,⟨tA,tm,tc,tL⟩,⟨lA,ln,lc,lL⟩,ar,⟨bA,bn,bc,bL⟩⟩,.int .i64 pt,.pointer (some ⟨w.heap.size,0,none⟩),undef,.pointer (some ⟨w.heap.size+1,0,none⟩),.pointer (some ⟨w.heap.size+1+1,0,none⟩),.pointer (some ⟨Bq,0,none⟩),.int .i64 pt,.bool (decide (pt < 0)),undef,.agg #[.string nm,.slice rA rn rc,.slice oA on oc,.slice tA tm tc,.slice lA ln lc,.int .i64 ar,.slice bA bn bc],.int .i64 pt,.func (.func 145) #[] #[.pointer (some ⟨w.heap.size+1+1+1,0,none⟩),.pointer (some ⟨w.heap.size+1+1+1+1,0,none⟩)],aggSp s.1.1 s.1.2.1 s.1.2.2,undef,undef],defers:=[] })
    (fun s a' _ X Y row hs hg hr=>by obtain ⟨Bq,h1,h2,h3⟩:=hs;exact ⟨Bq,h1,block_own11 h2 hg (fun r e=>(hr r e).2),h3⟩)
    ?assign ?body ?done ?stop
  case assign=>
    rintro l pre s W K ⟨⟨h1,hs,b1,b2⟩,hB⟩ hK
    obtain ⟨⟨sp,si,sk⟩,hok⟩:=s
    have hb:=below1 W (.cells #[.int .i64 (sp:Int),.int .i64 (si:Int),.int .i64 (sk:Int)] 167)
    have hKp:KeepT w.heap.size spTs W _:=KeepT.of_below hb (by omega)
    have HK:=hide hK
    clear hK
    dsimp only [spenc]
    gi_wp2
    exact HK.out _ _ ((KeepsOthers.alloc _ _).from _) hKp ⟨⟨h1,by simp;omega,(hb.block _ (by omega)).trans b1,b2.alloc _⟩,hB.trans (hb.mono hB.size)⟩ ⟨W.heap.size,hs,heap_alloc_new W _,rfl⟩
  case body=>
    rintro l pre s a' W hl hrr ⟨⟨h1,hs,b1,b2⟩,hB⟩ ⟨Bq,hBq,bX,rfl⟩ hlt
    obtain ⟨⟨sp,si,sk⟩,hok⟩:=s
    subst h1
    have d0:=cell_of_heap bX 0
    have d1:=cell_of_heap bX 1
    have d2:=cell_of_heap bX 2
    have s0:Bx W (w.heap.size+1) [.int .i64 0,.int .i64 0,.int .i64 0] 167:=b1
    have s1:=s0.set 0 (.int .i64 (sp:Int))
    have s2:=s1.set 1 (.int .i64 (si:Int))
    have s3:=s2.set 2 (.int .i64 (sk:Int))
    have t3:=(((show Bx W (w.heap.size+1+1) [.bool false] 4 from b2).other (a:=⟨w.heap.size+1,0,none⟩) (by simp) (.int .i64 (sp:Int))).other (a:=⟨w.heap.size+1,1,none⟩) (by simp) (.int .i64 (si:Int))).other (a:=⟨w.heap.size+1,2,none⟩) (by simp) (.int .i64 (sk:Int))
    have k0:=s0.cell (j:=0) rfl
    have k1:=s1.cell (j:=1) rfl
    have k2:=s2.cell (j:=2) rfl
    have f0:=s0.frozen 0
    have f1:=s1.frozen 1
    have f2:=s2.frozen 2
    have k3:=t3.cell (j:=0) rfl
    have f3:=t3.frozen 0
    have HS4:=hide (s3.other (a:=⟨w.heap.size+1+1,0,none⟩) (by simp) (.bool true))
    have HT4:=hide (t3.set 0 (.bool true))
    have HB:=hide ((((hB.setCell (p:=⟨w.heap.size+1,0,none⟩) (by simp) (.int .i64 (sp:Int))).setCell (p:=⟨w.heap.size+1,1,none⟩) (by simp) (.int .i64 (si:Int))).setCell (p:=⟨w.heap.size+1,2,none⟩) (by simp) (.int .i64 (sk:Int))).setCell (p:=⟨w.heap.size+1+1,0,none⟩) (by simp;omega) (.bool true))
    clear s0 s1 s2 s3 t3 b1 b2 hB
    gi_wp2
    exact ⟨(((KeepsOthers.setCell W ⟨w.heap.size+1,0,none⟩ (.int .i64 (sp:Int))).trans (KeepsOthers.setCell _ ⟨w.heap.size+1,1,none⟩ (.int .i64 (si:Int)))).trans ((KeepsOthers.setCell _ ⟨w.heap.size+1,2,none⟩ (.int .i64 (sk:Int))).trans (KeepsOthers.setCell _ ⟨w.heap.size+1+1,0,none⟩ (.bool true)))).from _,⟨rfl,⟨⟨(sp,si,sk),hok⟩,rfl,HS4.out,HT4.out⟩⟩,HB.out⟩
  case done=>
    rintro D ys W hD hys ⟨⟨rfl,hs,b1,b2⟩,hB⟩ hK
    have hz:C - pt.toNat=0:=by
      have:=congrArg List.length hys
      rw [List.length_range'] at this
      exact this.symm
    have HV:=hide (show ptLocI BL pt=none from by
      unfold ptLocI
      rw [if_neg (by omega)]
      exact ptLoc_none_iff.2 (by rw [HCC.out];omega))
    have s0:Bx W (w.heap.size+1) [.int .i64 0,.int .i64 0,.int .i64 0] 167:=b1
    have s1:=s0.set 0 (.int .i64 0)
    have s2:=s1.set 1 (.int .i64 0)
    have s3:=s2.set 2 (.int .i64 0)
    have t3:=(((show Bx W (w.heap.size+1+1) [.bool false] 4 from b2).other (a:=⟨w.heap.size+1,0,none⟩) (by simp) (.int .i64 0)).other (a:=⟨w.heap.size+1,1,none⟩) (by simp) (.int .i64 0)).other (a:=⟨w.heap.size+1,2,none⟩) (by simp) (.int .i64 0)
    have k0:=s0.cell (j:=0) rfl
    have k1:=s1.cell (j:=1) rfl
    have k2:=s2.cell (j:=2) rfl
    have f0:=s0.frozen 0
    have f1:=s1.frozen 1
    have f2:=s2.frozen 2
    have k3:=t3.cell (j:=0) rfl
    have f3:=t3.frozen 0
    have HS4:=hide (s3.other (a:=⟨w.heap.size+1+1,0,none⟩) (by simp) (.bool false))
    have HT4:=hide (t3.set 0 (.bool false))
    have HB:=hide ((((hB.setCell (p:=⟨w.heap.size+1,0,none⟩) (by simp) (.int .i64 0)).setCell (p:=⟨w.heap.size+1,1,none⟩) (by simp) (.int .i64 0)).setCell (p:=⟨w.heap.size+1,2,none⟩) (by simp) (.int .i64 0)).setCell (p:=⟨w.heap.size+1+1,0,none⟩) (by simp;omega) (.bool false))
    have hK':=((((KeepsOthers.setCell W ⟨w.heap.size+1,0,none⟩ (.int .i64 0)).trans (KeepsOthers.setCell _ ⟨w.heap.size+1,1,none⟩ (.int .i64 0))).trans ((KeepsOthers.setCell _ ⟨w.heap.size+1,2,none⟩ (.int .i64 0)).trans (KeepsOthers.setCell _ ⟨w.heap.size+1+1,0,none⟩ (.bool false))))).same D _ hK rfl
    have HK':=hide hK'
    have hDW:w.heap.size≤D:=by omega
    clear s0 s1 s2 s3 t3 b1 b2 hB hK'
    gi_wp2
    generalize (((W.setCell ⟨w.heap.size+1,0,none⟩ (.int .i64 0)).setCell ⟨w.heap.size+1,1,none⟩ (.int .i64 0)).setCell ⟨w.heap.size+1,2,none⟩ (.int .i64 0)).setCell ⟨w.heap.size+1+1,0,none⟩ (.bool false)=W5 at *
    refine ⟨by simp,.inl ⟨_,_,rfl,run_takeDeferred HK'.out,?_⟩⟩
    have hg5:=block_own11 HS4.out (grownBy_putObj' W5 D (.deferred none)) (fun r e=>by cases e;exact ⟨_,HK'.out,rfl⟩)
    have hc5:=cell_kept (HT4.out.cell (j:=0) rfl) (grownBy_putObj' _ D (.deferred none)) (fun r e=>by cases e;exact ⟨_,HK'.out,rfl⟩)
    refine ⟨_,results_spot rfl _ _ (w.heap.size+1) (w.heap.size+1+1) 167 _ (0,0) _ (.bool false) rfl hg5 Tryz.underlying167 rfl (by kernel_rfl) rfl ?_,(by rw [HV.out];rfl),HB.out.trans (belowK_b (w:=w) (Nat.le_refl _) W5 D _ _ hDW HK'.out rfl rfl)⟩
    simp [go_sem,hc5]
  case stop=>
    rintro D cd pre W hD hpre ⟨⟨rfl,⟨⟨⟨sp,si,sk⟩,hok⟩,rfl,b1,b2⟩⟩,hB⟩ hK
    have hhead:sp=pt.toNat∧pt.toNat < C:=by
      obtain ⟨t,ht⟩:=hpre
      have h0:=congrArg (fun l=>l[0]?) ht
      simp only [List.map_cons,List.map_nil,List.cons_append,List.nil_append,List.getElem?_cons_zero] at h0
      have hl:=congrArg List.length ht
      rw [List.length_range'] at hl
      simp only [List.map_cons,List.map_nil,List.cons_append,List.nil_append,List.length_cons] at hl
      rw [List.getElem?_range' (by omega)] at h0
      injection h0 with h0
      have h0:sp=pt.toNat:=by simpa [spP] using h0
      exact ⟨h0,by omega⟩
    have HV:=hide (show ptLocI BL pt=some (si,sk) from by
      unfold ptLocI
      rw [if_neg (by omega),← hhead.1]
      exact hok)
    have hDW:w.heap.size≤D:=by omega
    have hsp:(sp:Int)=pt:=by rw [hhead.1];exact hpt
    have hg5:=block_own11 b1 (grownBy_putObj' W D (.deferred none)) (fun r e=>by cases e;exact ⟨_,hK,rfl⟩)
    have hc5:=cell_kept b2.cell (grownBy_putObj' _ D (.deferred none)) (fun r e=>by cases e;exact ⟨_,hK,rfl⟩)
    gi_wp2
    refine ⟨by simp,.inl ⟨_,_,rfl,run_takeDeferred hK,?_⟩⟩
    refine ⟨_,results_spot rfl _ _ (w.heap.size+1) (w.heap.size+1+1) 167 _ (0,0) _ (.bool true) rfl hg5 Tryz.underlying167 rfl (by kernel_rfl) rfl ?_,?_,hB.trans (belowK_b (w:=w) (Nat.le_refl _) W D _ _ hDW hK rfl rfl)⟩
    · simp [go_sem,hc5]
    · rw [HV.out]
      dsimp only [vSp]
      rw [hsp]
theorem PLoc_any (x:BdW) (pt:Int) (w:World) (hx:OneBd w w.heap.size x) (hN:ptCount x.v.blocks≤2 ^ 62) (hI:IntR pt) :
  Calls Tryz.prog 105 #[aggBd x,.int .i64 pt] w fun e w'=>e=.returned (vSp (ptLocI x.v.blocks pt) pt)∧Below w.heap.size w w':=by
 by_cases h:pt < 0
 ·
  have e:ptLocI x.v.blocks pt=none:=by unfold ptLocI;rw [if_pos h]
  rw [e]
  exact PLoc_neg x pt w h
 ·
  exact PLoc_yes x pt w hx hN hI (by omega)
end Go.Proofs.YteeemjmohjkdpaaGreatDoor
namespace Go.Proofs.YteeemjmohjkdpaaGreatDoor
open Go.RowKit
theorem vSp_form (r:Option (Nat×Nat)) (p:Int):∃ a0 a1 a2:Int,∃ v:Bool,vSp r p=.tuple #[.agg #[.int .i64 a0,.int .i64 a1,.int .i64 a2],.bool v]∧vLoc r=.tuple #[.int .i64 a1,.int .i64 a2,.bool v]:=by
 cases r with
 | none=>exact ⟨0,0,0,false,rfl,rfl⟩
 | some z=>exact ⟨p,z.1,z.2,true,rfl,rfl⟩
theorem len_le_count:∀ l:List BkV,l.length≤ptCount l
 | []=>Nat.zero_le _
 | b :: l=>by
  have h1:=len_le_count l
  have h2:ptCount (b :: l)=b.stmts.length+1+ptCount l:=by unfold ptCount;rw [sumN_cons];rfl
  rw [List.length_cons]
  omega
theorem PLocate_any (x:BdW) (pt:Int) (w:World) (hx:OneBd w w.heap.size x) (hN:ptCount x.v.blocks≤2 ^ 62) (hI:IntR pt) :
  Calls Tryz.prog 63 #[aggBd x,.int .i64 pt] w fun e w'=>e=.returned (vLoc (ptLocI x.v.blocks pt))∧Below w.heap.size w w':=by
 obtain ⟨r,hr⟩:∃ r,ptLocI x.v.blocks pt=r:=⟨_,rfl⟩
 rw [hr]
 have HL:=hide fun (w':World) (y:Below w.heap.size w w')=>hr ▸ PLoc_any x pt w' (hx.up y) hN hI
 obtain ⟨a0,a1,a2,v,e1,e2⟩:=vSp_form r pt
 rw [e1] at HL
 rw [e2]
 obtain ⟨nm,⟨rA,rn,rc,rL⟩,⟨oA,on,oc,oL⟩,⟨tA,tm,tc,tL⟩,⟨lA,ln,lc,lL⟩,ar,⟨bA,bn,bc,bL⟩⟩:=x
 have HB:=hide (below1 w (.cells #[.string nm,.slice rA rn rc,.slice oA on oc,.slice tA tm tc,.slice lA ln lc,.int .i64 ar,.slice bA bn bc] 28))
 obtain ⟨x0,x1,x2,x3,x4,x5,x6⟩:=cells7 (Below.refl (w.alloc (.cells #[.string nm,.slice rA rn rc,.slice oA on oc,.slice tA tm tc,.slice lA ln lc,.int .i64 ar,.slice bA bn bc] 28)).heap.size (w.alloc (.cells #[.string nm,.slice rA rn rc,.slice oA on oc,.slice tA tm tc,.slice lA ln lc,.int .i64 ar,.slice bA bn bc] 28)))
 clear e1 e2 hx hr
 go_enter Tryz.func63,Tryz.ntmps63
 go_wp2_with fail
 refine (HL.out _ HB.out).mono ?_
 rintro e w1 ⟨rfl,hb1⟩
 have b2:=below1 w1 (.cells #[.int .i64 a0,.int .i64 a1,.int .i64 a2] 167)
 have HQ:=hide fun (kk:Nat)=>HB.out.trans ((hb1.trans ((b2.trans ((belowD (w1.alloc (.cells #[.int .i64 a0,.int .i64 a1,.int .i64 a2] 167)) kk).mono b2.size)).mono hb1.size)).mono HB.out.size)
 have hx3:=Bx.new w1 [.int .i64 a0,.int .i64 a1,.int .i64 a2] 167
 have z1:=hx3.cell (j:=1) rfl
 have z2:=hx3.cell (j:=2) rfl
 clear hb1 b2 hx3 x0 x1 x2 x3 x4 x5 x6
 go_wp2
 go_quiet (fail)
 go_wp2
 go_ret3
 exact ⟨rfl,HQ.out _⟩
end Go.Proofs.YteeemjmohjkdpaaGreatDoor
