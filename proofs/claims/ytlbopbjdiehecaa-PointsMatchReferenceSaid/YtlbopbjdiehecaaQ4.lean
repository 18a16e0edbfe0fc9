/- Part 5 of the contracts and their mathematics. -/
import Derived.Test.YtlbopbjdiehecaaQ3
import Derived.Maps.OwnIn
set_option linter.unusedVariables false
set_option linter.unusedSimpArgs false
set_option maxRecDepth 100000
set_option maxHeartbeats 8000000
namespace Go.Proofs.Ytlbopbjdiehecaa
open Go.RowKit Go.Shelf
attribute [local go_sem] Oper.semAt_some
def edP (BL:List BkV) (pre:List (SpX BL)):List Pr:=pre.flatMap fun s=>(nextI BL (s.1.1:Int)).map fun q=>((s.1.1:Int),q)
theorem edP_up (BL:List BkV) (pre:List (SpX BL)) (s:SpX BL):edP BL (pre++[s])=edP BL pre++(nextI BL (s.1.1:Int)).map fun q=>((s.1.1:Int),q):=by
 unfold edP
 rw [List.flatMap_append]
 simp
theorem edP_all {BL:List BkV} {ys:List (SpX BL)} (h:ys.map spP=List.range' 0 (ptCount BL)):edP BL ys=edgesI BL:=by
 unfold edP edgesI edI
 have e:(ys.flatMap fun s=>(nextI BL (s.1.1:Int)).map fun q=>((s.1.1:Int),q))=(ys.map spP).flatMap fun (k:Nat)=>(nextI BL (k:Int)).map fun q=>((k:Int),q):=by
  rw [List.flatMap_map]
  rfl
 rw [e,h,← List.range_eq_range']
theorem next_len (l:List BkV) (p:Int):(nextI l p).length≤ptCount l:=nxI_len l p _
theorem edP_len (BL:List BkV) (pre:List (SpX BL)):(edP BL pre).length≤pre.length*ptCount BL:=by
 induction pre with
 | nil=>simp [edP]
 | cons s pre ih=>
  have e:edP BL (s :: pre)=((nextI BL (s.1.1:Int)).map fun q=>((s.1.1:Int),q))++edP BL pre:=by
   unfold edP
   rw [List.flatMap_cons]
  rw [e,List.length_append,List.length_map,List.length_cons,Nat.add_mul,Nat.one_mul]
  have:=next_len BL (s.1.1:Int)
  omega
def K2 (W W':World):Prop:=∀ (k:Nat) (cs:Array Value) (t:TypeId) (fz:Nat×Nat),W.heap[k]?=some (.cells cs t fz)→t≠25→t≠27→W'.heap[k]?=some (.cells cs t fz)
theorem K2.of_below {W W':World} (h:Below W.heap.size W W'):K2 W W':=fun k cs t fz hk _ _=>(h.block k (Array.getElem?_eq_some_iff.1 hk).1).trans hk
theorem K2.trans {A B C:World} (h:K2 A B) (k:K2 B C):K2 A C:=fun j cs t fz hj h1 h2=>k j cs t fz (h j cs t fz hj h1 h2) h1 h2
theorem own_k2 {W W':World} {lo k n:Nat} {e:TypeId} {v:Value} {xs:List Value} (h:W.ownsRow lo e k v n xs) (hk:K2 W W') (h1:e≠25) (h2:e≠27):W'.ownsRow lo e k v n xs:=by
 refine ⟨h.1,?_⟩
 rcases h.2 with hv | ⟨g,cap,cur,hv,hb,hg,r⟩
 ·
  exact .inl hv
 ·
  exact .inr ⟨g,cap,cur,hv,hb,hk _ _ _ _ hg h1 h2,r⟩
structure EdW (lo e0 f0 bn fc:Nat) (fA:Option Addr) (st:List Int) (L:List Pr) (W:World):Prop where
 row:∃ A c,Boxed W e0 27 (.slice A L.length c)∧W.ownsRow lo 25 2 (.slice A L.length c) L.length (L.flatMap pV)
 fb:Boxed W f0 43 (.slice fA bn fc)
 fr:W.ownsRow lo 3 1 (.slice fA bn fc) bn (st.flatMap cInt)
section
variable {lo e0 f0 bn fc:Nat} {fA:Option Addr} {st:List Int} {L:List Pr} {W W':World}
theorem EdW.below (h:EdW lo e0 f0 bn fc fA st L W) (hb:Below W.heap.size W W'):EdW lo e0 f0 bn fc fA st L W':=by
 obtain ⟨A,c,h1,h2⟩:=h.row
 exact ⟨⟨A,c,(hb.block _ h1.lt).trans h1,ownsRow_below h2 hb⟩,(hb.block _ h.fb.lt).trans h.fb,ownsRow_below h.fr hb⟩
theorem row_own11 {row:Option Nat} {base k n:Nat} {e:TypeId} {v:Value} {xs:List Value} (h:W.ownsRow base e k v n xs) (hg:W.grownBy W' row) (hr:∀ r,row=some r→∃ o:Obj,W.heap[r]?=some o∧o.isCells=false):W'.ownsRow base e k v n xs:=by
 refine h.kept hg ?_
 rcases h.2 with ⟨rfl,_⟩ | ⟨g,cap,cur,rfl,_,hgg,_⟩
 ·
  exact .inl rfl
 ·
  refine .inr fun e'=>?_
  obtain ⟨o,ho,hc⟩:=hr g (by rw [←e'];rfl)
  rw [hgg] at ho
  injection ho with ho
  subst ho
  cases hc
theorem EdW.own {row:Option Nat} (h:EdW lo e0 f0 bn fc fA st L W) (hg:W.grownBy W' row) (hr:∀ r,row=some r→∃ o:Obj,W.heap[r]?=some o∧o.isCells=false):EdW lo e0 f0 bn fc fA st L W':=by
 obtain ⟨A,c,h1,h2⟩:=h.row
 exact ⟨⟨A,c,block_own11 h1 hg hr,row_own11 h2 hg hr⟩,block_own11 h.fb hg hr,row_own11 h.fr hg hr⟩
theorem keepsFrom_below11 {B:Nat} (hb:Below W.heap.size W W'):KeepsFrom B W W':=⟨hb.size,fun k o _ hk _=>(hb.block k (Array.getElem?_eq_some_iff.1 hk).1).trans hk⟩
theorem keepsFrom_row11 {B:Nat} {base k n:Nat} {e:TypeId} {v:Value} {xs:List Value} (hg:W.grownBy W' v.ownBlock) (hown:W.ownsRow base e k v n xs):KeepsFrom B W W':=⟨hg.size,fun q o _ hq ho=>(hg.block q (Array.getElem?_eq_some_iff.1 hq).1 (fun he=>by
 rcases hown.2 with ⟨rfl,_⟩ | ⟨g,cap,cur,rfl,_,hgg,_⟩
 ·
  cases he
 ·
  have:q=g:=by simpa [Value.ownBlock] using he
  subst this
  rw [hq] at hgg
  injection hgg with hgg
  subst hgg
  cases ho)).trans hq⟩
theorem EdW.step {n₀ B:Nat} {A A5:Option Addr} {c c5:Nat} {y:Pr} {w5:World} (h:EdW lo e0 f0 bn fc fA st L W) (h1:Boxed W e0 27 (.slice A L.length c)) (h2:W.ownsRow lo 25 2 (.slice A L.length c) L.length (L.flatMap pV))
  (hown5:w5.ownsRow lo 25 2 (.slice A5 (L.length+1) c5) (L.length+1) (L.flatMap pV++pV y)) (hg5:W.grownBy w5 (Value.slice A L.length c).ownBlock) (hlo:lo≤W.heap.size) (he:lo≤e0) (hn:n₀≤lo) :
  Boxed w5 e0 27 (.slice A L.length c)∧EdW lo e0 f0 bn fc fA st (L++[y]) (w5.setCell ⟨e0,0,none⟩ (.slice A5 (L.length+1) c5))∧K2 W (w5.setCell ⟨e0,0,none⟩ (.slice A5 (L.length+1) c5))∧Below lo W (w5.setCell ⟨e0,0,none⟩ (.slice A5 (L.length+1) c5))∧KeepT n₀ spTs W (w5.setCell ⟨e0,0,none⟩ (.slice A5 (L.length+1) c5))∧KeepsFrom B W (w5.setCell ⟨e0,0,none⟩ (.slice A5 (L.length+1) c5)):=by
 have k1:KT 25 W w5:=KT.of_grown hg5 h2
 have bx5:Boxed w5 e0 27 (.slice A L.length c):=(k1 _ _ _ _ h1 (by decide)).trans h1
 have k2:KT 27 w5 (w5.setCell ⟨e0,0,none⟩ (.slice A5 (L.length+1) c5)):=KT.of_set (cs:=[.slice A L.length c]) bx5 0 _
 have hk2:K2 W (w5.setCell ⟨e0,0,none⟩ (.slice A5 (L.length+1) c5)):=fun k cs t fz hk t1 t2=>(k2 k cs t fz ((k1 k cs t fz hk t1).trans hk) t2).trans ((k1 k cs t fz hk t1).trans hk)
 have hkt:KeepT n₀ spTs W (w5.setCell ⟨e0,0,none⟩ (.slice A5 (L.length+1) c5)):=(KeepT.row hg5 h2 hn (Nat.le_trans hn hlo) (by decide)).trans (KeepT.box bx5 (Nat.le_trans hn he) (by decide) _)
 refine ⟨bx5,⟨⟨A5,c5,?_,?_⟩,hk2 _ _ _ _ h.fb (by decide) (by decide),own_k2 h.fr hk2 (by decide) (by decide)⟩,hk2,?_,hkt,(keepsFrom_row11 hg5 h2).trans ((KeepsOthers.setCell w5 ⟨e0,0,none⟩ (.slice A5 (L.length+1) c5)).from _)⟩
 ·
  have e:(L++[y]).length=L.length+1:=by simp
  rw [e]
  exact bx5.set _
 ·
  have e:(L++[y]).length=L.length+1:=by simp
  rw [e,List.flatMap_append]
  have h3:=own_kt hown5 k2 (by decide)
  simpa using h3
 ·
  exact ((Below.refl lo W).grown hg5 hlo (fun k hk=>(h2.lt k hk).1)).setCell (p:=⟨e0,0,none⟩) he _
end
theorem PEdges_any (x:BdW) (w:World) (hx:OneBd w w.heap.size x) (hN:ptCount x.v.blocks≤100000) (hT:∀ b∈x.v.blocks,b.term.targets.length≤100000) :
    Calls Try.prog 21 #[aggBd x] w (PrsOut9 w (edgesI x.v.blocks)):=by
  refine (callsIn_wide (n:=9)).1 ?_
  obtain ⟨BL,hBL⟩:∃ l,x.v.blocks=l:=⟨_,rfl⟩
  obtain ⟨C,hC⟩:∃ n,ptCount BL=n:=⟨_,rfl⟩
  have hbl:=bk_len hx
  have hbn:x.blocks.n≤100000:=by
    have:=len_le_count x.v.blocks
    omega
  rw [hBL] at hbl
  have hN2:ptCount x.v.blocks≤2 ^ 62:=Nat.le_trans hN (by decide)
  have HST:=hide fun (w':World) (q i k:Nat) (b:BkV) (hb:BL[i]?=some b) (y:Below w.heap.size w w')=>PIsStmt_any x q i k w' b (hx.up y) (hBL ▸ hb)
  have HSS:=hide fun (w':World) (y:Below w.heap.size w w')=>PStarts_any x w' (hx.up y) hN2 (by omega)
  have HJ:=hide fun (w':World) (i:Nat) (b:BkV) (hb:BL[i]?=some b) (fA:Option Addr) (fc:Nat) (y:Below w.heap.size w w') (hF:Cells w' w'.heap.size 1 cInt fA x.blocks.n (stI x.v.blocks x.blocks.n))=>PJumps_any x i b fA fc w' (hx.up y) (hBL ▸ hb) (Nat.le_trans (hT b (hBL ▸ List.mem_of_getElem? hb)) (by decide)) hN2 hF
  rw [hBL] at hN hT HSS HJ ⊢
  rw [hC] at hN
  have hN3:C≤2 ^ 62:=Nat.le_trans hN (by decide)
  have HX:=hide hx
  have HBL:=hide hbl
  have HBV:=hide hBL
  have HCC:=hide hC
  have HSL:=hide (stI_len BL x.blocks.n)
  have HSTOP:=hide fun (n:Nat) (hn:1≤n) (Bb Bf:Nat) (w':World) (hBb:w'.heap[Bb]?=some (.cells (cBd x).toArray 32 (0,0))) (hBf:Boxed w' Bf 3 (.int .i64 0)) (hx:OneBd w' w.heap.size x) (hn0:w.heap.size≤w'.heap.size)=>onward_stops n hn Bb Bf w.heap.size x BL hBL 0 C hC hN3 ⟨by omega,by omega⟩ w' hBb hBf hx hn0
  clear hx hBL hC hN2
  obtain ⟨nm,⟨rA,rn,rc,rL⟩,⟨oA,on,oc,oL⟩,⟨tA,tm,tc,tL⟩,⟨lA,ln,lc,lL⟩,ar,⟨bA,bn,bc,bL⟩⟩:=x
  have HON:=hide fun (n:Nat) (w':World)=>(show CallsIn Fence.wide n Try.prog 33 #[.agg #[.string nm,.slice rA rn rc,.slice oA on oc,.slice tA tm tc,.slice lA ln lc,.int .i64 ar,.slice bA bn bc],.int .i64 0] w' fun e w2=>e=.returned (.func (.func 36) #[] #[.pointer (some ⟨w'.heap.size,0,none⟩),.pointer (some ⟨w'.heap.size+1,0,none⟩)]) ∧
      w2=(w'.alloc (.cells #[.string nm,.slice rA rn rc,.slice oA on oc,.slice tA tm tc,.slice lA ln lc,.int .i64 ar,.slice bA bn bc] 32)).alloc (.cells #[.int .i64 0] 3) from onward_in n ⟨nm,⟨rA,rn,rc,rL⟩,⟨oA,on,oc,oL⟩,⟨tA,tm,tc,tL⟩,⟨lA,ln,lc,lL⟩,ar,⟨bA,bn,bc,bL⟩⟩ 0 w')
  have HB:=hide (below1 w (.cells #[.string nm,.slice rA rn rc,.slice oA on oc,.slice tA tm tc,.slice lA ln lc,.int .i64 ar,.slice bA bn bc] 32))
  have hws1:(w.alloc (.cells #[.string nm,.slice rA rn rc,.slice oA on oc,.slice tA tm tc,.slice lA ln lc,.int .i64 ar,.slice bA bn bc] 32)).heap.size=w.heap.size+1:=by simp
  have HW1:=hide hws1
  have HC7:=hide fun (w':World) (y:Below (w.alloc (.cells #[.string nm,.slice rA rn rc,.slice oA on oc,.slice tA tm tc,.slice lA ln lc,.int .i64 ar,.slice bA bn bc] 32)).heap.size (w.alloc (.cells #[.string nm,.slice rA rn rc,.slice oA on oc,.slice tA tm tc,.slice lA ln lc,.int .i64 ar,.slice bA bn bc] 32)) w')=>cells7 y
  have HBX:=hide (Bx.new w [.string nm,.slice rA rn rc,.slice oA on oc,.slice tA tm tc,.slice lA ln lc,.int .i64 ar,.slice bA bn bc] 32)
  obtain ⟨W1,hW1⟩:∃ W1,W1=(w.alloc (.cells #[.string nm,.slice rA rn rc,.slice oA on oc,.slice tA tm tc,.slice lA ln lc,.int .i64 ar,.slice bA bn bc] 32)):=⟨_,rfl⟩
  rw [←hW1] at HB HW1 HC7 HBX
  have ho1:(W1.alloc (.cells #[] 25)).ownsRow (w.heap.size+1) 25 2 (.slice (some ⟨w.heap.size+1,0,none⟩) 0 0) 0 []:=by
    have h:=own_new9 W1 25 2
    rw [HW1.out] at h
    exact h
  have b1:=below1 W1 (.cells #[] 25)
  have hs2:(W1.alloc (.cells #[] 25)).heap.size=w.heap.size+2:=by rw [World.size_alloc,HW1.out]
  have b2:=below1 (W1.alloc (.cells #[] 25)) (.cells #[.slice (some ⟨w.heap.size+1,0,none⟩) 0 0] 27)
  have e2:=Boxed.new (W1.alloc (.cells #[] 25)) 27 (.slice (some ⟨w.heap.size+1,0,none⟩) 0 0)
  rw [hs2] at e2
  have hs3:((W1.alloc (.cells #[] 25)).alloc (.cells #[.slice (some ⟨w.heap.size+1,0,none⟩) 0 0] 27)).heap.size=w.heap.size+3:=by rw [World.size_alloc,hs2]
  have ho2:=ownsRow_below ho1 b2
  obtain ⟨W2,hW2⟩:∃ W2,W2=(W1.alloc (.cells #[] 25)).alloc (.cells #[.slice (some ⟨w.heap.size+1,0,none⟩) 0 0] 27):=⟨_,rfl⟩
  have HB2:=hide (show Below W1.heap.size W1 W2 from hW2 ▸ b1.trans (b2.mono b1.size))
  rw [←hW2] at e2 hs3 ho2
  have HE2:=hide e2
  have HS3:=hide hs3
  have HO2:=hide ho2
  have HHW1:=hide hW1
  have HHW2:=hide hW2
  have c7:=HC7.out _ HB2.out
  obtain ⟨x0,x1,x2,x3,x4,x5,x6⟩:=c7
  clear b1 b2 e2 hs2 hs3 ho1 ho2 hW1 hW2 hws1 hbl hbn
  refine callsIn_of_wp_marks Try.func21 rfl trivial ?_ rfl
  simp only [Try.ntmps21,List.size_toArray,List.length_cons,List.length_nil,Nat.reduceAdd,Nat.reduceSub,Array.replicate_succ,Array.replicate_zero,List.push_toArray,List.append_toArray,List.nil_append,List.cons_append]
  gi_wp2_with fail
  rw [←HHW1.out]
  rw [←HHW2.out]
  refine ⟨trivial,(callsIn_wide.2 (HSS.out W2 (HB.out.trans (HB2.out.mono HB.out.size)))).mono ?_⟩
  rintro e w3 ⟨fA,fc,rfl,hown3,hb3⟩
  rw [HSL.out] at hown3 ⊢
  have hown3:w3.ownsRow (w.heap.size+1) 3 1 (.slice fA bn fc) bn ((stI BL bn).flatMap cInt):=ownsRow_base hown3 (by rw [HS3.out];omega)
  have HB3:=hide (HB2.out.trans (hb3.mono HB2.out.size))
  have hb4:=below1 w3 (.cells #[.slice fA bn fc] 43)
  have HB4:=hide (HB3.out.trans (hb4.mono HB3.out.size))
  have hE3:=(hb3.block _ HE2.out.lt).trans HE2.out
  have hE4:EdW (w.heap.size+1) (w.heap.size+2) w3.heap.size bn fc fA (stI BL bn) [] (w3.alloc (.cells #[.slice fA bn fc] 43)):=⟨⟨_,0,(hb4.block _ (Array.getElem?_eq_some_iff.1 hE3).1).trans hE3,ownsRow_below (ownsRow_below HO2.out hb3) hb4⟩,Boxed.new w3 43 _,ownsRow_below hown3 hb4⟩
  have hs4:(w3.alloc (.cells #[.slice fA bn fc] 43)).heap.size=w3.heap.size+1:=by simp
  have hs3:w.heap.size+3≤w3.heap.size:=by rw [←HS3.out];exact hb3.size
  have c7:=HC7.out _ HB4.out
  obtain ⟨x0,x1,x2,x3,x4,x5,x6⟩:=c7
  clear hb3 hE3 hown3
  gi_wp2_with (refine ⟨trivial,?_⟩;gi_at_call 33;refine (HON.out _ _).mono ?_;rintro e w4 ⟨rfl,rfl⟩)
  have b5:=below1 (w3.alloc (.cells #[.slice fA bn fc] 43)) (.cells #[.string nm,.slice rA rn rc,.slice oA on oc,.slice tA tm tc,.slice lA ln lc,.int .i64 ar,.slice bA bn bc] 32)
  have bC:=(Bx.new (w3.alloc (.cells #[.slice fA bn fc] 43)) [.string nm,.slice rA rn rc,.slice oA on oc,.slice tA tm tc,.slice lA ln lc,.int .i64 ar,.slice bA bn bc] 32).below (below1 _ (.cells #[.int .i64 0] 3))
  have bP:=Bx.new ((w3.alloc (.cells #[.slice fA bn fc] 43)).alloc (.cells #[.string nm,.slice rA rn rc,.slice oA on oc,.slice tA tm tc,.slice lA ln lc,.int .i64 ar,.slice bA bn bc] 32)) [.int .i64 0] 3
  have b6:=below1 ((w3.alloc (.cells #[.slice fA bn fc] 43)).alloc (.cells #[.string nm,.slice rA rn rc,.slice oA on oc,.slice tA tm tc,.slice lA ln lc,.int .i64 ar,.slice bA bn bc] 32)) (.cells #[.int .i64 0] 3)
  have hE6:=(hE4.below b5).below b6
  have hB6:=HB4.out.trans ((b5.trans (b6.mono b5.size)).mono HB4.out.size)
  have hsz:(((w3.alloc (.cells #[.slice fA bn fc] 43)).alloc (.cells #[.string nm,.slice rA rn rc,.slice oA on oc,.slice tA tm tc,.slice lA ln lc,.int .i64 ar,.slice bA bn bc] 32)).alloc (.cells #[.int .i64 0] 3)).heap.size=w3.heap.size+3:=by simp
  simp only [World.size_alloc] at bC bP
  obtain ⟨W0,hW0⟩:∃ W0,W0=((w3.alloc (.cells #[.slice fA bn fc] 43)).alloc (.cells #[.string nm,.slice rA rn rc,.slice oA on oc,.slice tA tm tc,.slice lA ln lc,.int .i64 ar,.slice bA bn bc] 32)).alloc (.cells #[.int .i64 0] 3):=⟨_,rfl⟩
  rw [←hW0] at bC bP hE6 hB6 hsz ⊢
  have HE6:=hide hE6
  have HB6:=hide hB6
  have HBB6:=hide (HB.out.trans (hB6.mono HB.out.size))
  have HXW:=hide (HX.out.below HBB6.out)
  clear hW0 hE6 hB6 hE4 b5 b6 hb4 x0 x1 x2 x3 x4 x5 x6 hs4
  obtain ⟨i0,hi,hz0,hz1,hz2⟩:=info_parts info9Pr
  have hW10:W1.heap.size≤W0.heap.size:=HB6.out.size
  refine wpIn_rangeFunc_ownH rfl (by omega) (gf:=36) (lb:=#[.pointer (some ⟨w3.heap.size+1,0,none⟩),.pointer (some ⟨w3.heap.size+1+1,0,none⟩)]) rfl trivial (enters_of Try.func36 (by kernel_rfl) rfl)
    (HSTOP.out _ (by omega) (w3.heap.size+1) (w3.heap.size+1+1) W0 bC bP HXW.out (by omega)) keepT_t (keepT_b (by omega)) (Below.refl _ _) (fun _=>rfl)
    (fun pre W=>(EdW (w.heap.size+1) (w.heap.size+1+1) w3.heap.size bn fc fA (stI BL bn) (edP BL pre) W∧w3.heap.size+3≤W.heap.size)∧Below W1.heap.size W1 W)
    (fun _ _ _=>False)
    (OwnFrom.and (Own.from (fun s X Y row hs hg hr=>⟨hs.1.own hg hr,Nat.le_trans hs.2 hg.size⟩) _) (ownFrom_below (Nat.le_refl _) hW10))
    (fun _ _ _ _ _ hs _ _=>hs)
    ⟨⟨HE6.out,by omega⟩,HB6.out⟩
    (fun s a' W=>∃ Bq,w3.heap.size+3≤Bq∧W.heap[Bq]?=some (.cells #[.int .i64 (s.1.1:Int),.int .i64 (s.1.2.1:Int),.int .i64 (s.1.2.2:Int)] 72 (0,0))∧a'={ tmps:=#[aggBd ⟨nm,⟨rA,rn,rc,rL⟩,⟨oA,on,oc,oL⟩,⟨tA,tm,tc,tL⟩,⟨lA,ln,lc,lL⟩,ar,⟨bA,bn,bc,bL⟩⟩,.pointer (some ⟨w.heap.size,0,none⟩),.slice none 0 0,.pointer (some ⟨w.heap.size+1+1,0,none⟩),.pointer (some ⟨w3.heap.size,0,none⟩),.pointer (some ⟨Bq,0,none⟩),undef,undef,.slice (some ⟨w.heap.size+1,0,none⟩) 0 0,.agg #[.string nm,.slice rA rn rc,.slice oA on oc,.slice tA tm tc,.slice lA ln lc,.int .i64 ar,.slice bA bn bc],.slice fA bn fc,.agg #[.string nm,.slice rA rn rc,.slice oA on oc,.slice tA tm tc,.slice lA ln lc,.int .i64 ar,.slice bA bn bc],.func (.func 36) #[] #[.pointer (some ⟨w3.heap.size+1,0,none⟩),.pointer (some ⟨w3.heap.size+1+1,0,none⟩)],aggSp s.1.1 s.1.2.1 s.1.2.2,undef,undef,undef,undef,undef,undef,undef,undef,undef,undef,undef,undef,undef,undef,undef,undef,undef,undef,undef,undef,undef,undef,undef,undef,undef,undef,undef,undef,undef,undef,undef],defers:=[] })
    (fun s a' _ X Y row hs hg hr=>by obtain ⟨Bq,h1,h2,h3⟩:=hs;exact ⟨Bq,h1,block_own11 h2 hg (fun r e=>(hr r e).2),h3⟩)
    ?assign ?body ?done ?stop
  case assign=>
    rintro l pre s W K ⟨⟨hE,hs⟩,hB⟩ hK
    obtain ⟨⟨sp,si,sk⟩,hok⟩:=s
    have hb:=below1 W (.cells #[.int .i64 (sp:Int),.int .i64 (si:Int),.int .i64 (sk:Int)] 72)
    have hKp:KeepT w.heap.size spTs W _:=KeepT.of_below hb (by omega)
    have HK:=hide hK
    clear hK
    dsimp only [spenc]
    gi_wp2
    exact HK.out _ _ ((KeepsOthers.alloc _ _).from _) hKp ⟨⟨hE.below hb,by rw [World.size_alloc];omega⟩,hB.trans (hb.mono hB.size)⟩ ⟨W.heap.size,hs,heap_alloc_new W _,rfl⟩
  case body=>
    rintro l pre s a' W hl hrr ⟨⟨hE,hs⟩,hB⟩ ⟨Bq,hBq,bX,rfl⟩ hlt
    have HUP:=hide (edP_up BL pre s)
    obtain ⟨⟨sp,si,sk⟩,hok⟩:=s
    obtain ⟨b,hb,hk,hpk⟩:=ptLoc_some hok
    have hcnt:=pt_lt hb hk
    rw [HCC.out] at hcnt
    have hlI:ptLocI BL (sp:Int)=some (si,sk):=by
      unfold ptLocI
      rw [if_neg (by omega),Int.toNat_natCast]
      exact hok
    have hlen:=edP_len BL pre
    rw [HCC.out] at hlen
    obtain ⟨L,hL⟩:∃ L,edP BL pre=L:=⟨_,rfl⟩
    rw [hL] at hlen hE HUP
    have hLm:L.length≤100000*100000:=Nat.le_trans hlen (Nat.mul_le_mul (by omega) hN)
    have HW1w:=hide (HB.out.trans (hB.mono HB.out.size))
    obtain ⟨x0,x1,x2,x3,x4,x5,x6⟩:=HC7.out _ hB
    have d0:=cell_of_heap bX 0
    have d1:=cell_of_heap bX 1
    have d2:=cell_of_heap bX 2
    have hBql:=(Array.getElem?_eq_some_iff.1 bX).1
    have HBXq:=hide (show Bx W Bq [.int .i64 (sp:Int),.int .i64 (si:Int),.int .i64 (sk:Int)] 72 from bX)
    have HE:=hide hE
    have HB1W:=hide hB
    have hsW:w.heap.size+1≤W.heap.size:=by omega
    clear hE hB bX hlen hL hrr
    by_cases hks:sk < b.stmts.length
    · have HV:=hide (next_stmt hlI hb hks)
      have HST1:=hide fun (w':World) (y:Below w.heap.size w w')=>HST.out w' sp si sk b hb y
      rw [decide_eq_true hks] at HST1
      have s1:IntKind.i64.wrap ((sp:Int)+1)=(sp:Int)+1:=wrapI9 _ (by omega) (by omega)
      clear hks hb hk hpk hlI hcnt
      gi_wp2_with fail
      refine ⟨trivial,(callsIn_wide.2 (HST1.out W HW1w.out)).mono ?_⟩
      rintro e w5 ⟨rfl,hb5⟩
      obtain ⟨A,c,hbx,hrow⟩:=(HE.out.below hb5).row
      have k0:=hbx.cell
      have hq5:=HBXq.out.below hb5
      have d0:=hq5.cell (j:=0) rfl
      have hba:=below1 w5 (.cells #[.int .i64 (sp:Int),.int .i64 ((sp:Int)+1)] 25)
      have HEa:=hide ((HE.out.below hb5).below hba)
      have HBa:=hide ((hba.block _ hbx.lt).trans hbx:Boxed _ _ _ _)
      have HOa:=hide (ownsRow_below hrow hba)
      have HBE:=hide (hb5.trans (hba.mono hb5.size))
      have hs5:W.heap.size≤w5.heap.size:=hb5.size
      clear x0 x1 x2 x3 x4 x5 x6 d1 d2 hbx hrow hq5 hba hb5
      gi_wp2_with (gi_at_builtin;refine wpListIn_append_own_at _ rfl _ _ 27 rfl (w.heap.size+1) 25 i0 (.agg #[.int .i64 0,.int .i64 0]) 2 16 Try.underlying27 hi hz0 hz1 hz2 rfl (by decide) _ L.length (L.flatMap pV) rfl HOa.out ⟨w5.heap.size,0,none⟩ 1 1 (pV ((sp:Int),((sp:Int)+1))) rfl rfl (World.news_of_block (heap_alloc_new w5 (.cells #[.int .i64 (sp:Int),.int .i64 ((sp:Int)+1)] 25))) (pV_one9 _) (by unfold maxLen;omega) (by omega) (by rw [World.size_alloc];omega) ?_;intro v6 w6 hown6 hg6 _ hat6;obtain ⟨A6,k6,rfl⟩:=own_slice9 hown6;obtain ⟨bx6,he6,hk6,hb6,ht6,hf6⟩:=EdW.step (n₀:=w.heap.size) (B:=W0.heap.size) HEa.out HBa.out HOa.out hown6 hg6 (by rw [World.size_alloc];omega) (show w.heap.size+1≤w.heap.size+1+1 by omega) (Nat.le_succ _);have q6:=bx6.cell;have f6:=bx6.frozen;have HE6:=hide he6;have HK6:=hide hk6;have HB6:=hide hb6;have HT6:=hide ht6;have HF6:=hide hf6;clear bx6 he6 hk6 hb6 ht6 hf6 hown6 hg6 hat6)
      have hsz6:W.heap.size≤(w6.setCell ⟨w.heap.size+1+1,0,none⟩ (.slice A6 (L.length+1) k6)).heap.size:=by
        have h1:=HB6.out.size
        rw [World.size_alloc] at h1
        omega
      exact ⟨(keepsFrom_below11 HBE.out).trans HF6.out,(KeepT.of_below HBE.out (by omega)).trans HT6.out,⟨by rw [HUP.out,HV.out];exact HE6.out,by omega⟩,HB1W.out.trans ((HBE.out.mono HB1W.out.size).trans (HB6.out.mono (Nat.le_of_eq HW1.out)))⟩
    · have HV:=hide (show nextI BL (sp:Int)=jmI BL bn b.term.targets from by rw [next_term hlI hb hks,show BL.length=bn from HBL.out])
      have HST1:=hide fun (w':World) (y:Below w.heap.size w w')=>HST.out w' sp si sk b hb y
      rw [decide_eq_false hks] at HST1
      have HJ1:=hide fun (w':World) (fA:Option Addr) (fc:Nat)=>HJ.out w' si b hb fA fc
      clear hks hb hk hpk hlI hcnt
      gi_wp2_with fail
      refine ⟨trivial,(callsIn_wide.2 (HST1.out W HW1w.out)).mono ?_⟩
      rintro e w5 ⟨rfl,hb5⟩
      have HE5:=hide (HE.out.below hb5)
      have HBX5:=hide (HBXq.out.below hb5)
      have d1:=HBX5.out.cell (j:=1) rfl
      have k1:=HE5.out.fb.cell
      have HB5:=hide hb5
      have hB5:=HB1W.out.trans (hb5.mono HB1W.out.size)
      have HB15:=hide hB5
      clear hb5 x0 x1 x2 x3 x4 x5 x6 d0 d2
      obtain ⟨x0,x1,x2,x3,x4,x5,x6⟩:=HC7.out _ hB5
      clear hB5
      gi_wp2_with fail
      refine ⟨trivial,(callsIn_wide.2 (HJ1.out w5 fA fc (HB.out.trans (HB15.out.mono HB.out.size)) (Cells.of_own cInt_len (by decide) HE5.out.fr))).mono ?_⟩
      rintro e w7 ⟨A8,c8,rfl,hown8,hb8⟩
      obtain ⟨K,hK⟩:∃ K,jmI BL bn b.term.targets=K:=⟨_,rfl⟩
      rw [hK] at hown8 HV ⊢
      have hKl:K.length≤100000:=by
        have:=next_len BL (sp:Int)
        rw [HV.out,HCC.out] at this
        omega
      obtain ⟨m,hm⟩:∃ m,K.length=m:=⟨_,rfl⟩
      have HML:=hide hm
      rw [hm] at hown8 hKl ⊢
      have HR7:=hide (ownsRow_base hown8 (Nat.zero_le _))
      have HE7:=hide (HE5.out.below hb8)
      have HBX7:=hide (HBX5.out.below hb8)
      have HB17:=hide (HB15.out.trans (hb8.mono HB15.out.size))
      have HBW7:=hide (HB5.out.trans (hb8.mono HB5.out.size))
      have HK7:=hide (KeepT.of_below (n₀:=w.heap.size) (Ts:=spTs) HBW7.out (by omega))
      have HF7:=hide (keepsFrom_below11 (B:=W0.heap.size) HBW7.out)
      have hs7:w3.heap.size+3≤w7.heap.size:=Nat.le_trans hs HBW7.out.size
      clear hm hown8 hb8 x0 x1 x2 x3 x4 x5 x6 d1 k1 hK
      gi_wp2
      gi_loopw [32] (fun v wr=>∃ q:Nat,v=.int .i64 (q:Int)∧q≤m∧Hid (EdW (w.heap.size+1) (w.heap.size+1+1) w3.heap.size bn fc fA (stI BL bn) (L++(K.take q).map fun z=>((sp:Int),z)) wr)∧Hid (wr.ownsRow 0 3 1 (.slice A8 m c8) m (K.flatMap cInt))∧Hid (Bx wr Bq [.int .i64 (sp:Int),.int .i64 (si:Int),.int .i64 (sk:Int)] 72)∧Hid (Below W1.heap.size W1 wr)∧Hid (KeepT w.heap.size spTs W wr)∧Hid (KeepsFrom W0.heap.size W wr)∧w3.heap.size+3≤wr.heap.size) (fun v _=>m - (intOf v).toNat)
      case atStart=>exact ⟨0,rfl,Nat.zero_le _,hide (by simpa using HE7.out),HR7,HBX7,HB17,HK7,HF7,hs7⟩
      case round=>
        clear HR7 HE7 HBX7 HB17 HBW7 HK7 HF7 hs7
        obtain ⟨q,rfl,hq,HEr,HRr,HBXr,HBr,HKr,HFr,hsr⟩:=hrel
        by_cases hlq:q < m
        · have hlq':(q:Int) < (m:Int):=by omega
          obtain ⟨z,hz⟩:∃ z,K[q]?=some z:=⟨_,List.getElem?_eq_getElem (by rw [HML.out];exact hlq)⟩
          obtain ⟨g,z',hgA,_,hgc⟩:=(Cells.of_own cInt_len (by decide) HRr.out).at_ hz
          subst hgA
          have c0:wr.cell? ⟨g,z'+q,none⟩=some (.int .i64 z):=by simpa using hgc 0 _ rfl
          have HTK:=hide (show (K.take (q+1)).map (fun z=>((sp:Int),z))=(K.take q).map (fun z=>((sp:Int),z))++[((sp:Int),z)] by rw [List.take_add_one,hz,List.map_append];rfl)
          have hml:(L++(K.take q).map fun z=>((sp:Int),z)).length≤100000*100000+100000:=by
            rw [List.length_append,List.length_map,List.length_take]
            omega
          obtain ⟨M,hM⟩:∃ M,(L++(K.take q).map fun z=>((sp:Int),z))=M:=⟨_,rfl⟩
          rw [hM] at HEr hml
          have HM:=hide hM
          obtain ⟨A,c,hbx,hrow⟩:=HEr.out.row
          have k0:=hbx.cell
          have d0:=HBXr.out.cell (j:=0) rfl
          have hba:=below1 wr (.cells #[.int .i64 (sp:Int),.int .i64 z] 25)
          have HEa:=hide (HEr.out.below hba)
          have HBa:=hide ((hba.block _ hbx.lt).trans hbx:Boxed _ _ _ _)
          have HOa:=hide (ownsRow_below hrow hba)
          have HBE:=hide hba
          clear hbx hrow hba hgc hz hM
          gi_wp2_with (gi_at_builtin;refine wpListIn_append_own_at _ rfl _ _ 27 rfl (w.heap.size+1) 25 i0 (.agg #[.int .i64 0,.int .i64 0]) 2 16 Try.underlying27 hi hz0 hz1 hz2 rfl (by decide) _ M.length (M.flatMap pV) rfl HOa.out ⟨wr.heap.size,0,none⟩ 1 1 (pV ((sp:Int),z)) rfl rfl (World.news_of_block (heap_alloc_new wr (.cells #[.int .i64 (sp:Int),.int .i64 z] 25))) (pV_one9 _) (by unfold maxLen;omega) (by omega) (by rw [World.size_alloc];omega) ?_;intro v6 w6 hown6 hg6 _ hat6;obtain ⟨A6,k6,rfl⟩:=own_slice9 hown6;obtain ⟨bx6,he6,hk6,hb6,ht6,hf6⟩:=EdW.step (n₀:=w.heap.size) (B:=W0.heap.size) HEa.out HBa.out HOa.out hown6 hg6 (by rw [World.size_alloc];omega) (show w.heap.size+1≤w.heap.size+1+1 by omega) (Nat.le_succ _);have q6:=bx6.cell;have f6:=bx6.frozen;have HE6:=hide he6;have HK6:=hide hk6;have HB6:=hide hb6;have HT6:=hide ht6;have HF6:=hide hf6;clear bx6 he6 hk6 hb6 ht6 hf6 hown6 hg6 hat6)
          have hsz6:wr.heap.size≤(w6.setCell ⟨w.heap.size+1+1,0,none⟩ (.slice A6 (M.length+1) k6)).heap.size:=by
            have h1:=HB6.out.size
            rw [World.size_alloc] at h1
            omega
          have HKK:=hide ((K2.of_below HBE.out).trans HK6.out)
          exact ⟨⟨q+1,by go_num,by omega,hide (by rw [HTK.out,← List.append_assoc,HM.out];exact HE6.out),hide (own_k2 HRr.out HKK.out (by decide) (by decide)),hide (HKK.out _ _ _ _ HBXr.out (by decide) (by decide)),hide (HBr.out.trans ((HBE.out.mono HBr.out.size).trans (HB6.out.mono (Nat.le_of_eq HW1.out)))),hide (HKr.out.trans ((KeepT.of_below HBE.out (by omega)).trans HT6.out)),hide (HFr.out.trans ((keepsFrom_below11 HBE.out).trans HF6.out)),by omega⟩,by simp [intOf];omega⟩
        · have hlq':¬(q:Int) < (m:Int):=by omega
          obtain rfl:m=q:=by omega
          have HTK:=hide (show K.take m=K from List.take_of_length_le (Nat.le_of_eq HML.out))
          gi_wp2
          exact ⟨by rw [←hsz];exact HFr.out,HKr.out,⟨by rw [HUP.out,HV.out];exact HTK.out ▸ HEr.out,hsr⟩,HBr.out⟩
  case done=>
    rintro D ys W hD hys ⟨⟨hE,hs⟩,hB⟩ hK
    have HV:=hide (show edP BL ys=edgesI BL from edP_all (by rw [HCC.out];exact hys))
    rw [HV.out] at hE
    obtain ⟨A,c,hbx,hrow⟩:=hE.row
    have k0:=hbx.cell
    have HRow:=hide hrow
    have HBF:=hide (HB.out.trans (hB.mono HB.out.size))
    have hDW:w.heap.size≤D:=by omega
    clear hE hbx hrow hys
    gi_wp2
    refine ⟨by simp,.inl ⟨_,_,rfl,run_takeDeferred hK,?_⟩⟩
    refine ⟨_,results_tmp rfl _ _ _,A,c,rfl,ownsRow_base (row_own11 HRow.out (grownBy_putObj' W D (.deferred none)) (fun r e=>by cases e;exact ⟨_,hK,rfl⟩)) (Nat.le_succ _),HBF.out.trans (belowK_b (w:=w) (Nat.le_refl _) W D _ _ hDW hK rfl rfl)⟩
  case stop=>
    rintro D cd pre W hD hpre h hK
    exact h.elim
end Go.Proofs.Ytlbopbjdiehecaa
namespace Go.Proofs.Ytlbopbjdiehecaa
open Go.RowKit
theorem count_set9:∀ {l:List Bool} {i:Nat},l[i]?=some false→(l.set i true).count true=l.count true+1
 | [],i,h=>by cases h
 | a :: l,0,h=>by
  have e:a=false:=by simpa using h
  subst e
  simp
 | a :: l,i+1,h=>by
  have h':l[i]?=some false:=by simpa using h
  rw [List.set_cons_succ,List.count_cons,List.count_cons,count_set9 h']
  omega
inductive RchL (nx:Nat→List Nat) (N0:List Nat):Nat→Prop
 | base {q:Nat} (h:q∈N0):RchL nx N0 q
 | step {p q:Nat} (h:RchL nx N0 p) (k:q∈nx p):RchL nx N0 q
theorem RchL.trans {nx:Nat→List Nat} {N0:List Nat} {p q:Nat} (h:RchL nx N0 p) (k:RchL nx (nx p) q):RchL nx N0 q:=by
 induction k with
 | base k=>exact .step h k
 | step _ k ih=>exact .step ih k
theorem RchL.closed {nx:Nat→List Nat} {N0:List Nat} {S:Nat→Prop} {q:Nat} (h0:∀ x∈N0,S x) (h1:∀ x,S x→∀ y∈nx x,S y) (h:RchL nx N0 q):S q:=by
 induction h with
 | base h=>exact h0 _ h
 | step _ k ih=>exact h1 _ ih _ k
structure Bfs (nx:Nat→List Nat) (n:Nat) (N0:List Nat) (seen:List Bool) (L:List Nat) (i:Nat):Prop where
 len:seen.length=n
 rng:∀ x∈L,x < n
 first:∀ x∈N0,x∈L
 sub:∀ x∈L,RchL nx N0 x
 done:∀ x∈L.take i,seen[x]?=some true
 cls:∀ x,seen[x]?=some true→x∈L∧∀ y∈nx x,y∈L
 cnt:L.length≤n+seen.count true*n
 ile:i≤L.length
section
variable {nx:Nat→List Nat} {n i x:Nat} {N0:List Nat} {seen:List Bool} {L:List Nat}
theorem Bfs.start (hr:∀ x∈N0,x < n) (hn:N0.length≤n):Bfs nx n N0 (List.replicate n false) N0 0:=by
 refine ⟨List.length_replicate,hr,fun _ h=>h,fun _ h=>.base h,fun x h=>by simp at h,fun x h=>?_,Nat.le_trans hn (Nat.le_add_right _ _),Nat.zero_le _⟩
 rw [List.getElem?_replicate] at h
 split at h
 ·
  cases h
 ·
  cases h
theorem take_mem_up {L:List Nat} {i x y:Nat} (hx:L[i]?=some x) (h:y∈L.take (i+1)):y∈L.take i∨y=x:=by
 rw [List.take_add_one,hx] at h
 rcases List.mem_append.1 h with h | h
 ·
  exact .inl h
 ·
  exact .inr (by simpa using h)
theorem Bfs.skip (h:Bfs nx n N0 seen L i) (hx:L[i]?=some x) (hs:seen[x]?=some true):Bfs nx n N0 seen L (i+1):=
 ⟨h.len,h.rng,h.first,h.sub,fun y hy=>(take_mem_up hx hy).elim (h.done y) fun e=>e ▸ hs,h.cls,h.cnt,(List.getElem?_eq_some_iff.1 hx).1⟩
theorem Bfs.step (h:Bfs nx n N0 seen L i) (hx:L[i]?=some x) (hs:seen[x]?=some false) (hr:∀ y∈nx x,y < n) (hn:(nx x).length≤n):Bfs nx n N0 (seen.set x true) (L++nx x) (i+1):=by
 have hxL:x∈L:=List.mem_of_getElem? hx
 have hil:=(List.getElem?_eq_some_iff.1 hx).1
 have hxn:x < seen.length:=by rw [h.len];exact h.rng x hxL
 have hset:∀ y,(seen.set x true)[y]?=some true↔y=x∨seen[y]?=some true:=by
  intro y
  rw [List.getElem?_set]
  by_cases hy:x=y
  ·
   subst hy
   simp [hxn]
  ·
   rw [if_neg hy]
   exact ⟨fun h=>.inr h,fun h=>h.elim (fun e=>absurd e.symm hy) id⟩
 refine ⟨by rw [List.length_set];exact h.len,fun y hy=>(List.mem_append.1 hy).elim (h.rng y) (hr y),fun y hy=>List.mem_append_left _ (h.first y hy),fun y hy=>(List.mem_append.1 hy).elim (h.sub y) fun hy=>.step (h.sub x hxL) hy,?_,?_,?_,?_⟩
 ·
  intro y hy
  rw [List.take_append_of_le_length (show i+1≤L.length from hil)] at hy
  rw [hset]
  exact (take_mem_up hx hy).elim (fun hy=>.inr (h.done y hy)) fun e=>.inl e
 ·
  intro y hy
  rcases (hset y).1 hy with rfl | hy
  ·
   exact ⟨List.mem_append_left _ hxL,fun z hz=>List.mem_append_right _ hz⟩
  ·
   exact ⟨List.mem_append_left _ (h.cls y hy).1,fun z hz=>List.mem_append_left _ ((h.cls y hy).2 z hz)⟩
 ·
  rw [List.length_append,count_set9 hs,Nat.add_mul,Nat.one_mul]
  have:=h.cnt
  omega
 ·
  rw [List.length_append]
  omega
theorem Bfs.count (h:Bfs nx n N0 seen L i):L.length≤n+n*n:=by
 have h1:seen.count true≤n:=by rw [←h.len];exact List.count_le_length
 exact Nat.le_trans h.cnt (Nat.add_le_add_left (Nat.mul_le_mul_right _ h1) _)
theorem Bfs.fin (h:Bfs nx n N0 seen L L.length) (q:Nat):seen[q]?=some true↔RchL nx N0 q:=by
 have hall:∀ x∈L,seen[x]?=some true:=fun x hx=>h.done x (by rw [List.take_length];exact hx)
 refine ⟨fun hq=>h.sub q (h.cls q hq).1,fun hq=>?_⟩
 exact hall q (RchL.closed (S:=fun x=>x∈L) h.first (fun x hx y hy=>(h.cls x (hall x hx)).2 y hy) hq)
end
def nxN (l:List BkV) (p:Int):List Nat:=(List.range (ptCount l)).filter fun (k:Nat)=>ptFolI l p (k:Int)
def castL (L:List Nat):List Int:=L.map fun (k:Nat)=>(k:Int)
theorem nextI_cast (l:List BkV) (p:Int):nextI l p=castL (nxN l p):=by
 unfold nextI nxI castL nxN
 rw [List.filter_map]
 rfl
abbrev nxF (l:List BkV):Nat→List Nat:=fun k=>nxN l (k:Int)
noncomputable def rchI (l:List BkV) (p q:Int):Bool:=@decide (0≤q∧q < (ptCount l:Int)∧RchL (nxF l) (nxN l p) q.toNat) (Classical.propDecidable _)
theorem rchI_iff {l:List BkV} {p q:Int}:rchI l p q=true↔0≤q∧q < (ptCount l:Int)∧RchL (nxF l) (nxN l p) q.toNat:=by unfold rchI;exact @decide_eq_true_iff _ (Classical.propDecidable _)
theorem rchI_no {l:List BkV} {p q:Int} (h:¬(0≤q∧q < (ptCount l:Int)∧RchL (nxF l) (nxN l p) q.toNat)):rchI l p q=false:=by
 cases e:rchI l p q with
 | false=>rfl
 | true=>exact absurd (rchI_iff.1 e) h
theorem castL_at {L:List Nat} {i x:Nat} (h:L[i]?=some x):(castL L)[i]?=some (x:Int):=by
 unfold castL
 rw [List.getElem?_map,h];rfl
def bN (l:List BkV) (i:Nat):List Nat:=match l[i]? with
 | none=>[]
 | some b=>(tgF l.length b.term.targets).map Int.toNat
theorem bN_mem {l:List BkV} {i y:Nat} {b:BkV} (h:l[i]?=some b):y∈bN l i↔(y:Int)∈b.term.targets∧y < l.length:=by
 unfold bN tgF
 rw [h]
 show y∈(b.term.targets.filter fun z=>inR z (l.length:Int)).map Int.toNat↔_
 rw [List.mem_map]
 constructor
 ·
  rintro ⟨t,ht,rfl⟩
  obtain ⟨h1,h2⟩:=List.mem_filter.1 ht
  obtain ⟨h3,h4⟩:=of_decide_eq_true h2
  rw [Int.toNat_of_nonneg h3]
  exact ⟨h1,by omega⟩
 ·
  rintro ⟨h1,h2⟩
  exact ⟨(y:Int),List.mem_filter.2 ⟨h1,decide_eq_true ⟨by omega,by omega⟩⟩,by simp⟩
theorem bN_lt {l:List BkV} {i y:Nat} (h:y∈bN l i):y < l.length:=by
 cases hb:l[i]? with
 | none=>unfold bN at h;rw [hb] at h;cases h
 | some b=>exact ((bN_mem hb).1 h).2
def Lead (l:List BkV) (i j:Nat):Prop:=RchL (bN l) (bN l i) j
theorem nxN_mem {l:List BkV} {p:Int} {y:Nat}:y∈nxN l p↔(y:Int)∈nextI l p:=by
 rw [nextI_cast]
 unfold castL
 rw [List.mem_map]
 exact ⟨fun h=>⟨y,h,rfl⟩,fun ⟨z,h,e⟩=>by
  have:z=y:=by omega
  exact this ▸ h⟩
theorem ptLocI_nat {l:List BkV} {p:Nat} {r:Nat×Nat} (h:ptLoc l p=some r):ptLocI l (p:Int)=some r:=by
 unfold ptLocI
 rw [if_neg (by omega),Int.toNat_natCast]
 exact h
theorem nx_stmt {l:List BkV} {p i k y:Nat} {b:BkV} (h:ptLoc l p=some (i,k)) (hb:l[i]?=some b) (hk:k < b.stmts.length):y∈nxN l (p:Int)↔y=p+1:=by
 rw [nxN_mem,next_stmt (ptLocI_nat h) hb hk,List.mem_singleton]
 omega
theorem nx_term {l:List BkV} {p i k y:Nat} {b:BkV} (h:ptLoc l p=some (i,k)) (hb:l[i]?=some b) (hk:¬k < b.stmts.length):y∈nxN l (p:Int)↔∃ j∈bN l i,y=ptFirst l j:=by
 rw [nxN_mem,next_term (ptLocI_nat h) hb hk]
 unfold jmI
 rw [List.mem_map]
 constructor
 ·
  rintro ⟨t,ht,e⟩
  obtain ⟨h0,h1,h2⟩:=tgI_mem.1 ht
  refine ⟨t.toNat,(bN_mem hb).2 ⟨?_,by omega⟩,by omega⟩
  rw [Int.toNat_of_nonneg h1]
  exact h0
 ·
  rintro ⟨j,hj,rfl⟩
  obtain ⟨h1,h2⟩:=(bN_mem hb).1 hj
  exact ⟨(j:Int),tgI_mem.2 ⟨h1,by omega,by omega⟩,by rw [Int.toNat_natCast]⟩
theorem loc_first {l:List BkV} {j:Nat} (h:j < l.length):ptLoc l (ptFirst l j)=some (j,0):=
 ptLoc_iff.2 ⟨_,List.getElem?_eq_getElem h,Nat.zero_le _,rfl⟩
theorem loc_up {l:List BkV} {p i k:Nat} {b:BkV} (h:ptLoc l p=some (i,k)) (hb:l[i]?=some b) (hk:k < b.stmts.length):ptLoc l (p+1)=some (i,k+1):=by
 obtain ⟨b',hb',_,e⟩:=ptLoc_some h
 exact ptLoc_iff.2 ⟨b,hb,hk,by omega⟩
theorem rch_to {l:List BkV} {p i k:Nat} (h:ptLoc l p=some (i,k)) {q:Nat} (hr:RchL (nxF l) (nxN l (p:Int)) q):∃ j m,ptLoc l q=some (j,m)∧((i=j∧k < m)∨Lead l i j):=by
 obtain ⟨b,hb,hkb,_⟩:=ptLoc_some h
 induction hr with
 | base hq=>
  by_cases hk:k < b.stmts.length
  ·
   obtain rfl:=(nx_stmt h hb hk).1 hq
   exact ⟨i,k+1,loc_up h hb hk,.inl ⟨rfl,Nat.lt_succ_self _⟩⟩
  ·
   obtain ⟨j,hj,rfl⟩:=(nx_term h hb hk).1 hq
   exact ⟨j,0,loc_first (bN_lt hj),.inr (.base hj)⟩
 | step _ hq ih=>
  obtain ⟨j0,m0,h0,ih⟩:=ih
  obtain ⟨c,hc,hmc,_⟩:=ptLoc_some h0
  by_cases hk:m0 < c.stmts.length
  ·
   obtain rfl:=(nx_stmt h0 hc hk).1 hq
   exact ⟨j0,m0+1,loc_up h0 hc hk,ih.imp (fun h=>⟨h.1,by omega⟩) id⟩
  ·
   obtain ⟨j,hj,rfl⟩:=(nx_term h0 hc hk).1 hq
   refine ⟨j,0,loc_first (bN_lt hj),.inr ?_⟩
   rcases ih with ⟨rfl,_⟩ | ih
   ·
    exact .base hj
   ·
    exact .step ih hj
theorem rch_in {l:List BkV} {i:Nat} {b:BkV} (hb:l[i]?=some b):∀ (d p k:Nat),ptLoc l p=some (i,k)→k+d+1≤b.stmts.length→RchL (nxF l) (nxN l (p:Int)) (p+d+1)
 | 0,p,k,h,hk=>.base ((nx_stmt h hb (by omega)).2 rfl)
 | d+1,p,k,h,hk=>by
  have h1:=rch_in hb d p k h (by omega)
  have h2:ptLoc l (p+d+1)=some (i,k+d+1):=by
   obtain ⟨_,_,_,e⟩:=ptLoc_some h
   exact ptLoc_iff.2 ⟨b,hb,by omega,by omega⟩
  exact .step h1 ((nx_stmt h2 hb (by omega)).2 rfl)
theorem rch_jump {l:List BkV} {p i k j:Nat} (h:ptLoc l p=some (i,k)) (hj:j∈bN l i):RchL (nxF l) (nxN l (p:Int)) (ptFirst l j):=by
 obtain ⟨b,hb,hkb,e⟩:=ptLoc_some h
 by_cases hk:k < b.stmts.length
 ·
  have h1:=rch_in hb (b.stmts.length - k - 1) p k h (by omega)
  have h2:ptLoc l (p+(b.stmts.length - k - 1)+1)=some (i,b.stmts.length):=ptLoc_iff.2 ⟨b,hb,Nat.le_refl _,by omega⟩
  exact .step h1 ((nx_term h2 hb (Nat.lt_irrefl _)).2 ⟨j,hj,rfl⟩)
 ·
  exact .base ((nx_term h hb hk).2 ⟨j,hj,rfl⟩)
theorem lead_lt {l:List BkV} {i j:Nat} (h:Lead l i j):j < l.length:=by
 cases h with
 | base h=>exact bN_lt h
 | step _ h=>exact bN_lt h
theorem rch_lead {l:List BkV} {p i k j:Nat} (h:ptLoc l p=some (i,k)) (hl:Lead l i j):RchL (nxF l) (nxN l (p:Int)) (ptFirst l j):=by
 unfold Lead at hl
 induction hl with
 | base hj=>exact rch_jump h hj
 | step hl hj ih=>exact ih.trans (rch_jump (loc_first (lead_lt hl)) hj)
theorem rch_iff {l:List BkV} {p q i k j m:Nat} (h:ptLoc l p=some (i,k)) (hq:ptLoc l q=some (j,m)):RchL (nxF l) (nxN l (p:Int)) q↔(i=j∧k < m)∨Lead l i j:=by
 constructor
 ·
  intro hr
  obtain ⟨j',m',h1,h2⟩:=rch_to h hr
  have e:=hq.symm.trans h1
  injection e with e
  injection e with e1 e2
  subst e1 e2
  exact h2
 ·
  obtain ⟨c,hc,hmc,eq⟩:=ptLoc_some hq
  rintro (⟨rfl,hkm⟩ | hl)
  ·
   obtain ⟨_,_,_,ep⟩:=ptLoc_some h
   have h1:=rch_in hc (m - k - 1) p k h (by omega)
   have e:p+(m - k - 1)+1=q:=by omega
   rwa [e] at h1
  ·
   have h1:=rch_lead h hl
   rcases Nat.eq_zero_or_pos m with rfl | h0
   ·
    rw [Nat.add_zero] at eq
    rwa [eq]
   ·
    have h2:=rch_in hc (m - 1) (ptFirst l j) 0 (loc_first (lead_lt hl)) (by omega)
    have e:ptFirst l j+(m - 1)+1=q:=by omega
    rw [e] at h2
    exact h1.trans h2
structure Srch (l:List BkV) (a b:Nat) (seen:List Bool) (work:List Nat):Prop where
 len:seen.length=l.length
 wlt:∀ x∈work,x < l.length∧(x=a∨Lead l a x)
 not:seen[b]?≠some true
 snd:∀ x,seen[x]?=some true→Lead l a x
 cls:∀ x,(x=a∨seen[x]?=some true)→x∈work∨∀ y∈bN l x,seen[y]?=some true
structure SrchX (l:List BkV) (a b:Nat) (seen:List Bool) (work:List Nat) (x:Nat) (done:List Int):Prop where
 len:seen.length=l.length
 wlt:∀ x∈work,x < l.length∧(x=a∨Lead l a x)
 not:seen[b]?≠some true
 snd:∀ x,seen[x]?=some true→Lead l a x
 cls:∀ z,(z=a∨seen[z]?=some true)→z∈work∨z=x∨∀ y∈bN l z,seen[y]?=some true
 this:x=a∨Lead l a x
 tgs:∀ t∈done,∀ y:Nat,t=(y:Int)→y < l.length→seen[y]?=some true
section
variable {l:List BkV} {a b x:Nat} {seen:List Bool} {work:List Nat} {done:List Int}
theorem Srch.start (ha:a < l.length):Srch l a b (List.replicate l.length false) [a]:=by
 have hno:∀ x,(List.replicate l.length false)[x]?≠some true:=fun x h=>by
  rw [List.getElem?_replicate] at h
  split at h <;> cases h
 refine ⟨List.length_replicate,fun x hx=>?_,hno b,fun x hx=>absurd hx (hno x),fun x hx=>?_⟩
 ·
  obtain rfl:x=a:=by simpa using hx
  exact ⟨ha,.inl rfl⟩
 ·
  rcases hx with rfl | hx
  ·
   exact .inl (by simp)
  ·
   exact absurd hx (hno x)
theorem Srch.pop (h:Srch l a b seen (work++[x])):SrchX l a b seen work x []:=
 ⟨h.len,fun y hy=>h.wlt y (List.mem_append_left _ hy),h.not,h.snd,fun z hz=>(h.cls z hz).elim (fun hz=>(List.mem_append.1 hz).elim .inl fun e=>.inr (.inl (by simpa using e))) fun hz=>.inr (.inr hz),(h.wlt x (by simp)).2,fun t ht=>by cases ht⟩
theorem SrchX.skip {t:Int} (h:SrchX l a b seen work x done) (ht:inR t (l.length:Int)=false∨seen[t.toNat]?=some true):SrchX l a b seen work x (done++[t]):=
 ⟨h.len,h.wlt,h.not,h.snd,h.cls,h.this,fun u hu y e hy=>by
  rcases List.mem_append.1 hu with hu | hu
  ·
   exact h.tgs u hu y e hy
  ·
   obtain rfl:u=t:=by simpa using hu
   rcases ht with ht | ht
   ·
    exact absurd (show 0≤u∧u < (l.length:Int) by omega) (of_decide_eq_false ht)
   ·
    rw [e,Int.toNat_natCast] at ht
    exact ht⟩
theorem SrchX.lead {c:BkV} {t:Nat} (h:SrchX l a b seen work x done) (hc:l[x]?=some c) (ht:(t:Int)∈c.term.targets) (hl:t < l.length):Lead l a t:=by
 have hm:=(bN_mem hc).2 ⟨ht,hl⟩
 rcases h.this with e | hx
 ·
  rw [e] at hm
  exact .base hm
 ·
  exact .step hx hm
theorem SrchX.push {c:BkV} {t:Nat} (h:SrchX l a b seen work x done) (hc:l[x]?=some c) (ht:(t:Int)∈c.term.targets) (hl:t < l.length) (hb:t≠b):SrchX l a b (seen.set t true) (work++[t]) x (done++[(t:Int)]):=by
  have hld:=h.lead hc ht hl
  have hset:∀ y,(seen.set t true)[y]?=some true↔y=t∨seen[y]?=some true:=by
    intro y
    rw [List.getElem?_set]
    by_cases hy:t=y
    · subst hy
      simp [h.len,hl]
    · rw [if_neg hy]
      exact ⟨fun h=>.inr h,fun h=>h.elim (fun e=>absurd e.symm hy) id⟩
  refine ⟨by rw [List.length_set];exact h.len,fun y hy=>?_,fun e=>?_,fun y hy=>?_,fun z hz=>?_,h.this,fun u hu y e hy=>?_⟩
  · rcases List.mem_append.1 hy with hy | hy
    · exact h.wlt y hy
    · obtain rfl:y=t:=by simpa using hy
      exact ⟨hl,.inr hld⟩
  · rcases (hset b).1 e with e | e
    · exact hb e.symm
    · exact h.not e
  · rcases (hset y).1 hy with rfl | hy
    · exact hld
    · exact h.snd y hy
  · have hz' : z = t ∨ (z = a ∨ seen[z]? = some true) := by
      rcases hz with hz | hz
      · exact .inr (.inl hz)
      · exact ((hset z).1 hz).imp id .inr
    rcases hz' with rfl | hz'
    · exact .inl (by simp)
    · rcases h.cls z hz' with h1 | h1 | h1
      · exact .inl (List.mem_append_left _ h1)
      · exact .inr (.inl h1)
      · exact .inr (.inr fun y hy=>(hset y).2 (.inr (h1 y hy)))
  · rcases List.mem_append.1 hu with hu | hu
    · exact (hset y).2 (.inr (h.tgs u hu y e hy))
    · obtain rfl:u=(t:Int):=by simpa using hu
      exact (hset y).2 (.inl (by omega))
theorem SrchX.fin {c:BkV} (h:SrchX l a b seen work x c.term.targets) (hc:l[x]?=some c):Srch l a b seen work:=
 ⟨h.len,h.wlt,h.not,h.snd,fun z hz=>by
  rcases h.cls z hz with h1 | rfl | h1
  ·
   exact .inl h1
  ·
   refine .inr fun y hy=>?_
   obtain ⟨h2,h3⟩:=(bN_mem hc).1 hy
   exact h.tgs _ h2 y rfl h3
  ·
   exact .inr h1⟩
theorem Srch.none (h:Srch l a b seen []):¬Lead l a b:=by
 intro hl
 refine h.not ?_
 have hcl:∀ z,(z=a∨seen[z]?=some true)→∀ y∈bN l z,seen[y]?=some true:=fun z hz=>(h.cls z hz).elim (fun h=>by cases h) id
 exact RchL.closed (S:=fun y=>seen[y]?=some true) (hcl a (.inl rfl)) (fun x hx=>hcl x (.inr hx)) hl
end
end Go.Proofs.Ytlbopbjdiehecaa
