/- Part 10 of the contracts and their mathematics. -/
import Derived.Test.YtfgacmgjpikgaaaGreatDoorQ6
import Derived.Test.YtfgacmgjpikgaaaGreatDoorQ8
import Derived.Deep.RegionLaw
set_option linter.unusedVariables false
set_option linter.unusedSimpArgs false
set_option maxRecDepth 100000
set_option maxHeartbeats 4000000
namespace Go.Proofs.YtfgacmgjpikgaaaGreatDoor
open Go.RowKit Go.Shelf
attribute [local go_sem] Oper.semAt_some
theorem infoTy:(Tryz.prog.info? 62).map (fun i=>(i.zero,i.size,i.bytes))=some (some (.agg #[.int .i64 0,.bool false,.int .i64 0,.int .i64 0,.slice none 0 0]),5,56):=by kernel_rfl
theorem row_own8 {W W':World} {row:Option Nat} {base k n:Nat} {e:TypeId} {v:Value} {xs:List Value} (h:W.ownsRow base e k v n xs) (hg:W.grownBy W' row) (hr:∀ r,row=some r→∃ o:Obj,W.heap[r]?=some o∧o.isCells=false):W'.ownsRow base e k v n xs:=by
 refine h.kept hg ?_
 rcases h.2 with ⟨rfl,_⟩ | ⟨g,cap,cur,rfl,_,hgg,_⟩
 ·
  exact .inl rfl
 ·
  refine .inr fun e'=>?_
  obtain ⟨o,ho,hc⟩:=hr g (by rw [←e'];rfl)
  rw [hgg] at ho
  injection ho with ho
  subst ho
  cases hc
theorem boxed_row8 {W W':World} {B base k n:Nat} {t e:TypeId} {u v:Value} {xs:List Value} (h:Boxed W B t u) (hg:W.grownBy W' v.ownBlock) (hown:W.ownsRow base e k v n xs) (ht:t≠e):Boxed W' B t u:=
 h.kept hg (h.not_row ht hown)
theorem keepsFrom_below8 {B:Nat} {W W':World} (hb:Below W.heap.size W W'):KeepsFrom B W W':=⟨hb.size,fun k o _ hk _=>(hb.block k (Array.getElem?_eq_some_iff.1 hk).1).trans hk⟩
theorem keepsFrom_row8 {B:Nat} {W W':World} {base k n:Nat} {e:TypeId} {v:Value} {xs:List Value} (hg:W.grownBy W' v.ownBlock) (hown:W.ownsRow base e k v n xs):KeepsFrom B W W':=⟨hg.size,fun q o _ hq ho=>(hg.block q (Array.getElem?_eq_some_iff.1 hq).1 (fun he=>by
 rcases hown.2 with ⟨rfl,_⟩ | ⟨g,cap,cur,rfl,_,hgg,_⟩
 ·
  cases he
 ·
  have:q=g:=by simpa [Value.ownBlock] using he
  subst this
  rw [hq] at hgg
  injection hgg with hgg
  subst hgg
  cases ho)).trans hq⟩
theorem news_new8 (w:World) (cs:List Value) (t:TypeId):∀ j u,cs[j]?=some u→(w.alloc (.cells cs.toArray t)).cell? ((⟨w.heap.size,0,none⟩:Addr).add j)=some u:=
 World.news_of_block (heap_alloc_new w _)
def RefI (R base:Nat) (S:List TyW) (W:World):Prop:=∃ v m,Boxed W R 24 v∧W.ownsRow base 62 5 v m (S.flatMap c5)∧m=S.length
theorem RefI.own {R base:Nat} {S:List TyW} {W W':World} {row:Option Nat} (h:RefI R base S W) (hg:W.grownBy W' row) (hr:∀ r,row=some r→∃ o:Obj,W.heap[r]?=some o∧o.isCells=false):RefI R base S W':=by
 obtain ⟨v,m,h1,h2,h3⟩:=h
 exact ⟨v,m,block_own8 h1 hg hr,row_own8 h2 hg hr,h3⟩
theorem RefI.below {R base:Nat} {S:List TyW} {W W':World} (h:RefI R base S W) (hb:Below W.heap.size W W'):RefI R base S W':=by
 obtain ⟨v,m,h1,h2,h3⟩:=h
 exact ⟨v,m,boxed_below8 h1 hb,ownsRow_below h2 hb,h3⟩
def RefsOut (w:World) (R:List TyW) (e:Ending) (w':World):Prop:=∃ v m,e=.returned (.tuple #[v,.bool true])∧w'.ownsRow w.heap.size 62 5 v m (R.flatMap c5)∧m=R.length∧Below w.heap.size w w'
def refPre (L:List TyW) (T:List Ty) (t:Int) (ps:List Pr) (pre:List (StX T t ps)):List TyW:=pre.filterMap fun y=>refAt L T t ps y.1
theorem refPre_no {L:List TyW} {T:List Ty} {t:Int} {ps:List Pr} {pre:List (StX T t ps)} {y:StX T t ps} (h:∀ p,ps[y.1]?=some p→p.1≠0):refPre L T t ps (pre++[y])=refPre L T t ps pre:=by
 unfold refPre
 rw [List.filterMap_append]
 have:refAt L T t ps y.1=none:=by
  unfold refAt
  cases hp:ps[y.1]? with
  | none=>rfl
  | some p=>simp [h p hp]
 simp [this]
theorem refPre_yes {L:List TyW} {T:List Ty} {t:Int} {ps:List Pr} {pre:List (StX T t ps)} {y:StX T t ps} {p:Pr} {x:TyW} (hp:ps[y.1]?=some p) (h0:p.1=0) {i:Nat} (hi:tyA T t ps y.1=(i:Int)) (hx:L[i]?=some x):refPre L T t ps (pre++[y])=refPre L T t ps pre++[x]:=by
 unfold refPre
 rw [List.filterMap_append]
 have:refAt L T t ps y.1=some x:=by
  unfold refAt
  rw [hp]
  simp only [h0,if_true]
  rw [hi,Int.toNat_natCast,hx]
 simp [this]
theorem refPre_len {L:List TyW} {T:List Ty} {t:Int} {ps:List Pr} (pre:List (StX T t ps)):(refPre L T t ps pre).length≤pre.length:=List.length_filterMap_le _ _
theorem refPre_all {L:List TyW} {T:List Ty} {t:Int} {ps:List Pr} {ys:List (StX T t ps)} (h:ys.map (·.1)=List.range (ps.length+1)):refPre L T t ps ys=refTo L T t ps ps.length:=by
 have e:refPre L T t ps ys=(ys.map (·.1)).filterMap (refAt L T t ps):=by
  unfold refPre
  rw [List.filterMap_map]
  rfl
 rw [e,h]
 exact refTo_no (n:=ps.length) fun p hp=>by rw [List.getElem?_eq_none (Nat.le_refl _)] at hp;cases hp
theorem PlaFz0 {P:Prop} (h:P:=by
 refine hK.out _ _ (HS.out _ hb4.out) (fun hHeld=>?_)
 clear hK K
 refine wpAnyH_ready (rs:=[5]) (by kernel_rfl) (by simp) ?_
 refine AllReadyH.cons rfl (fun K hK=>?_) AllReadyH.nil
 refine step_append_lies _ (by rfl) (.tmp 46) (.tmp 50) 24 (by rfl) (w1.heap.size+4) 62 i0 (.agg #[.int .i64 0,.bool false,.int .i64 0,.int .i64 0,.slice none 0 0]) 5 56 Tryz.underlying24 hi hz0 hz1 hz2 rfl (by decide) v m ((refPre L (tys L) lc.ty ps pre).flatMap c5) (by rfl) (ownsRow_below HRow.out hb4.out) ⟨w3.heap.size,0,none⟩ 1 1 (c5 ⟨⟨k0,mu,r0,el,fs⟩,Af,nf,cf⟩) (by rfl) rfl (news_new8 w3 [.int .i64 k0,.bool mu,.int .i64 r0,.int .i64 el,.slice Af nf cf] 62) (c5_one _) (by decide) (by unfold maxLen;omega) (by omega) (by have:=hb4.out.size;omega) _ rfl ?_
 intro g5 cap5 w5 hown5 hg5 hat5 hlt5
 have cB5:=boxed_row8 (boxed_below8 HB1X.out hb4.out) hg5 (ownsRow_below HRow.out hb4.out) (by decide)
 have cA5:=cB5.cell
 have fA5:=cB5.frozen
 have S5:=(boxed_row8 (boxed_below8 HBTW.out hb4.out) hg5 (ownsRow_below HRow.out hb4.out) (by decide)).cell
 refine hK.out _ _ S5 (fun hHeld=>?_)
 clear hK K
 refine wpAnyH_ready (rs:=[6]) (by kernel_rfl) (by simp) ?_
 refine AllReadyH.cons rfl (fun K hK=>?_) AllReadyH.nil
 go_simp
 refine hK.out _ _ ((World.cell?_setCell_other _ _ _ _ (by simp <;> omega)).trans S5) (fun hHeld=>?_)
 clear hK K
 refine wpAnyH_done (by kernel_rfl) ?_ _
 have hk1:KeepTX w1.heap.size plTs w1.heap.size W _:=(KeepTX.of_below hb4.out (by omega)).trans ((KeepTX.of_t (KeepT.row hg5 (ownsRow_below HRow.out hb4.out) (by omega) (by have:=hb4.out.size;omega) (by decide))).trans (KeepTX.boxX cB5 (Nat.le_refl _) (.slice (some ⟨g5,0,none⟩) (m+1) cap5)))
 have hk2:KeepsFrom W0.heap.size W _:=(keepsFrom_below8 hb4.out).trans ((keepsFrom_row8 hg5 (ownsRow_below HRow.out hb4.out)).trans ((KeepsOthers.setCell w5 ⟨w1.heap.size,0,none⟩ (.slice (some ⟨g5,0,none⟩) (m+1) cap5)).from _))
 refine ⟨hk2,hk1,⟨?_,_,m+1,cB5.set _,?_,?_⟩,HBB.out.trans hk1.low⟩
 ·
  rw [size_set8];have:=hb4.out.size;have:=hg5.size;omega
 ·
  rw [HN.out,List.flatMap_append,List.flatMap_cons,List.flatMap_nil,List.append_nil]
  exact ownsRow_setCell_below hown5 (a:=⟨w1.heap.size,0,none⟩) (by show w1.heap.size < _;omega) _
 ·
  rw [HN.out,List.length_append,List.length_singleton,HM.out]):P:=h
theorem PlaFz1 {P:Prop} (h:P:=by
 refine hK.out _ _ S3 (fun hHeld=>?_)
 clear hK K
 refine wpAnyH_ready (rs:=[4]) (by kernel_rfl) (by simp) ?_
 refine AllReadyH.cons rfl (fun K hK=>?_) AllReadyH.nil
 go_simp
 have hb4:=hide (hb3'.alloc hb3'.size (.cells #[.int .i64 k0,.bool mu,.int .i64 r0,.int .i64 el,.slice Af nf cf] 62))
 exact PlaFz0):P:=h
theorem References_yes {At Al:Option Addr} {nt ct nl cl:Nat} {L:List TyW} {LL:List LcW} {x:PlW} {r:Int} {w:World} (h:Pl8 w At Al nt nl L LL x r) {k:Nat} {lc:LcW} (hk:x.l=(k:Int)) (hlc:LL[k]?=some lc) (hp0:plErr x.l x.ps=0) (he:(goL (tys L) lc.ty x.ps).2=0) :
 CallsIn Fence.wide 9 Tryz.prog 119 #[.slice At nt ct,.slice Al nl cl,aggPl x] w (RefsOut w (refTo L (tys L) lc.ty x.ps x.ps.length)):=by
 have hB0:=((Below.refl w.heap.size w).alloc (Nat.le_refl _) (.cells #[.slice At nt ct] 24)).alloc (by simp) (.cells #[.int .i64 x.l,.slice x.A x.n x.c] 36)
 have HB0:=hide hB0
 have HW:=hide (h.way hk hlc)
 obtain ⟨tv,htv⟩:∃ tv,(goL (tys L) lc.ty x.ps).1=tv:=⟨_,rfl⟩
 have hty:tyOfP (tys L) (lcs LL) x.l x.ps=(tv,0):=by rw [tyOfP_in hp0 hk (lcs_at hlc),← htv,← he]
 have HC:=hide (TypeOf_is (ct:=ct) (cl:=cl) (h.up hB0) hty)
 have H:=hide fun w' (hb:Below w.heap.size w w')=>h.up hb
 have hxl:x.ps.length=x.n:=h.one.prs.len
 have hnc:=h.one.nc
 have hcm:=h.one.cm
 have hp32:=(plErr_zero.1 hp0).2.1
 have hbt:=heap_alloc_new w (.cells #[.slice At nt ct] 24)
 have HBX:=hide (heap_alloc_new (w.alloc (.cells #[.slice At nt ct] 24)) (.cells #[.int .i64 x.l,.slice x.A x.n x.c] 36))
 have HBT:=hide ((((Below.refl (w.alloc (.cells #[.slice At nt ct] 24)).heap.size _).alloc (Nat.le_refl _) (.cells #[.int .i64 x.l,.slice x.A x.n x.c] 36)).block w.heap.size (by simp)).trans hbt)
 have hx0:x.l=(k:Int):=hk
 have HE:=hide he
 obtain ⟨l,A,n,c,ps⟩:=x
 simp only [] at hk hxl hnc hcm hp32
 subst hk
 unfold maxLen at hcm
 clear h hB0 hlc hp0 hbt hx0 hty htv he
 refine callsIn_of_wp_marks Tryz.func119 rfl trivial ?_ rfl
 simp only [Tryz.ntmps119,List.size_toArray,List.length_cons,List.length_nil,Nat.reduceAdd,Nat.reduceSub,Array.replicate_succ,Array.replicate_zero,List.push_toArray,List.append_toArray,List.nil_append,List.cons_append]
 gi_wp2
 refine ⟨trivial,?_⟩
 refine (callsIn_wide.2 HC.out).mono ?_
 rintro e w1 ⟨rfl,hb1⟩
 have hs0:w.heap.size+2≤w1.heap.size:=by have:=hb1.size;simpa using this
 have HB1:=hide (HB0.out.trans (hb1.mono HB0.out.size))
 have hbX:w1.heap[w.heap.size+1]?=some (.cells #[.int .i64 (k:Int),.slice A n c] 36 (0,0)):=(hb1.block (w.heap.size+1) (by simp)).trans (by simpa using HBX.out)
 have hbT:w1.heap[w.heap.size]?=some (.cells #[.slice At nt ct] 24 (0,0)):=(hb1.block w.heap.size (by simp;omega)).trans HBT.out
 have hba:=(Below.refl w1.heap.size w1).alloc (Nat.le_refl _) (.cells #[.slice none 0 0] 24)
 have HBXX:=hide hbX
 have HBTT:=hide hbT
 have z0:=cell_of_heap hbX 0
 have z1:=cell_of_heap hbX 1
 have z2:=cell_of_heap hbT 0
 have y0:=cell_of_heap ((hba.block (w.heap.size+1) (by omega)).trans hbX) 0
 have y1:=cell_of_heap ((hba.block (w.heap.size+1) (by omega)).trans hbX) 1
 have y2:=cell_of_heap ((hba.block w.heap.size (by omega)).trans hbT) 0
 clear hb1 hba hbX hbT
 gi_wp2
 refine ⟨trivial,?_⟩
 refine (along_in _ At Al nt ct nl cl ⟨(k:Int),A,n,c,ps⟩ _).mono ?_
 rintro e w2 ⟨rfl,rfl⟩
 gi_wp2
 have bR:=(((Boxed.new w1 24 (.slice none 0 0)).alloc (.cells #[.slice At nt ct] 24)).alloc (.cells #[.slice Al nl cl] 25)).alloc (.cells #[.int .i64 (k:Int),.slice A n c] 36)
 have bA:=((Boxed.new (w1.alloc (.cells #[.slice none 0 0] 24)) 24 (.slice At nt ct)).alloc (.cells #[.slice Al nl cl] 25)).alloc (.cells #[.int .i64 (k:Int),.slice A n c] 36)
 have bL:=(Boxed.new ((w1.alloc (.cells #[.slice none 0 0] 24)).alloc (.cells #[.slice At nt ct] 24)) 25 (.slice Al nl cl)).alloc (.cells #[.int .i64 (k:Int),.slice A n c] 36)
 have bP:=heap_alloc_new (((w1.alloc (.cells #[.slice none 0 0] 24)).alloc (.cells #[.slice At nt ct] 24)).alloc (.cells #[.slice Al nl cl] 25)) (.cells #[.int .i64 (k:Int),.slice A n c] 36)
 simp only [World.size_alloc] at bA bL bP
 have hBW:Below w1.heap.size w1 ((((w1.alloc (.cells #[.slice none 0 0] 24)).alloc (.cells #[.slice At nt ct] 24)).alloc (.cells #[.slice Al nl cl] 25)).alloc (.cells #[.int .i64 (k:Int),.slice A n c] 36)):=((((Below.refl _ w1).alloc (Nat.le_refl _) _).alloc (by simp) _).alloc (by simp;omega) _).alloc (by simp;omega) _
 have hsz:((((w1.alloc (.cells #[.slice none 0 0] 24)).alloc (.cells #[.slice At nt ct] 24)).alloc (.cells #[.slice Al nl cl] 25)).alloc (.cells #[.int .i64 (k:Int),.slice A n c] 36)).heap.size=w1.heap.size+4:=by simp
 obtain ⟨W0,hW0⟩:∃ W0,((((w1.alloc (.cells #[.slice none 0 0] 24)).alloc (.cells #[.slice At nt ct] 24)).alloc (.cells #[.slice Al nl cl] 25)).alloc (.cells #[.int .i64 (k:Int),.slice A n c] 36))=W0:=⟨_,rfl⟩
 rw [hW0] at bR bA bL bP hBW hsz ⊢
 clear hW0 y0 y1 y2 z0 z1 z2
 have h1:=H.out _ HB1.out
 have HTY:=hide (h1.typs.below hBW)
 have HLO:=hide (h1.locs.below hBW)
 have HPS:=hide (h1.one.prs.below hBW)
 clear h1
 obtain ⟨i0,hi,hz0,hz1,hz2⟩:=info_parts infoTy
 refine wpIn_rangeFunc_ownH rfl (by omega) (gf:=125) (lb:=#[.pointer (some ⟨w1.heap.size+1+2,0,none⟩),.pointer (some ⟨w1.heap.size+1+1,0,none⟩),.pointer (some ⟨w1.heap.size+1,0,none⟩)]) rfl trivial (enters_of Tryz.func125 (by kernel_rfl) rfl)
  (along_stops _ (by omega) (w1.heap.size+1) (w1.heap.size+1+1) (w1.heap.size+1+2) w1.heap.size w1.heap.size At Al nt ct nl cl L LL ⟨(k:Int),A,n,c,ps⟩ k lc r HW.out W0 bA bL bP (by omega) (by omega) (by omega) (by omega) HTY.out HLO.out HPS.out (by omega)) keepTX_t (keepTX_b (by omega)) (Below.refl _ _) (fun _=>rfl)
  (fun pre W=>(w1.heap.size+4≤W.heap.size∧RefI w1.heap.size (w1.heap.size+4) (refPre L (tys L) lc.ty ps pre) W)∧Below w1.heap.size w1 W)
  (fun _ _ _=>False)
  (OwnFrom.and (Own.from (fun s X Y row hs hg hr=>⟨Nat.le_trans hs.1 hg.size,hs.2.own hg hr⟩) _) (ownFrom_below (Nat.le_refl _) (by omega)))
  (fun _ _ _ _ _ hs _ _=>hs)
  ⟨⟨by omega,.slice none 0 0,0,bR,World.ownsRow_nil _ _ _ _,rfl⟩,hBW⟩
  (fun y a' W=>∃ Bq,w1.heap.size+4≤Bq∧W.heap[Bq]?=some (.cells #[.int .i64 (k:Int),.slice A y.1 c] 36 (0,0))∧a'={ tmps:=#[.slice At nt ct,.slice Al nl cl,aggPl ⟨(k:Int),A,n,c,ps⟩,.pointer (some ⟨w.heap.size,0,none⟩),undef,.pointer (some ⟨w.heap.size+1,0,none⟩),.slice none 0 0,.bool false,.int .i64 tv,.int .i64 0,.pointer (some ⟨w1.heap.size,0,none⟩),.pointer (some ⟨Bq,0,none⟩),.int .i64 (tyA (tys L) lc.ty ps y.1),undef,.tuple #[.int .i64 tv,.int .i64 0],.slice At nt ct,.slice Al nl cl,.agg #[.int .i64 (k:Int),.slice A n c],.tuple #[.int .i64 tv,.int .i64 0],.int .i64 tv,.int .i64 0,.int .i64 0,.bool false,.slice At nt ct,.slice Al nl cl,.agg #[.int .i64 (k:Int),.slice A n c],.func (.func 125) #[] #[.pointer (some ⟨w1.heap.size+1+2,0,none⟩),.pointer (some ⟨w1.heap.size+1+1,0,none⟩),.pointer (some ⟨w1.heap.size+1,0,none⟩)],.agg #[.int .i64 (k:Int),.slice A y.1 c],.int .i64 (tyA (tys L) lc.ty ps y.1),undef,undef,undef,undef,undef,undef,undef,undef,undef,undef,undef,undef,undef,undef,undef,undef,undef,undef,undef,undef,undef,undef,undef,undef],defers:=[] })
  (fun y a' _ X Y row hs hg hr=>by obtain ⟨Bq,h1,h2,h3⟩:=hs;exact ⟨Bq,h1,block_own8 h2 hg (fun r e=>(hr r e).2),h3⟩)
  ?assign ?body ?done ?stop
 case assign=>
  rintro l pre y W K ⟨⟨hs,hI⟩,hB⟩ hK
  have hb:=(Below.refl W.heap.size W).alloc (Nat.le_refl _) (.cells #[.int .i64 (k:Int),.slice A y.1 c] 36)
  have hKp:KeepTX w1.heap.size plTs w1.heap.size W _:=KeepTX.of_below hb (by omega)
  have HK:=hide hK
  clear hK
  dsimp only [penc]
  gi_wp2
  exact HK.out _ _ ((KeepsOthers.alloc _ _).from _) hKp ⟨⟨by simp;omega,hI.below hb⟩,hB.trans (hb.mono hB.size)⟩ ⟨W.heap.size,hs,heap_alloc_new W _,rfl⟩
 case body=>
  rintro l pre y a' W hl hrr ⟨⟨hs,hI⟩,hB⟩ ⟨Bq,hBq,bX,rfl⟩ hlt
  have HI:=hide hI
  obtain ⟨v,m,b1,hrow,hm⟩:=hI
  have d0:=cell_of_heap bX 0
  have d1:=cell_of_heap bX 1
  have hbT:Boxed W w.heap.size 24 (.slice At nt ct):=(hB.block w.heap.size (by omega)).trans HBTT.out
  have HBTW:=hide hbT
  have z0:=hbT.cell
  have hbX:=(hB.block (w.heap.size+1) (by omega)).trans HBXX.out
  have x1:=cell_of_heap hbX 1
  have HBB:=hide hB
  have HPW:=hide ((H.out W (HB1.out.trans (hB.mono HB1.out.size))).one.prs)
  have HRow:=hide hrow
  have HM:=hide hm
  have HREFL:=hide (show KeepsFrom (w1.heap.size+4) W W∧KeepTX w1.heap.size plTs w1.heap.size W W from ⟨KeepsFrom.refl _ _,KeepTX.refl _ _ _ _⟩)
  have HB1X:=hide b1
  have b1c:=b1.cell
  have hml:m≤40:=by
   have h1:=HM.out
   have h2:(refPre L (tys L) lc.ty ps pre).length≤pre.length:=refPre_len pre
   have h3:pre.length < ps.length+1:=hlt
   omega
  clear hrow hm hbT hbX hrr b1 hB
  by_cases hyn:y.1 < n
  rotate_left
  ·
   have hyn':(n:Int)≤(y.1:Int):=by omega
   have HN:=hide (show RefI w1.heap.size (w1.heap.size+4) (refPre L (tys L) lc.ty ps (pre++[y])) W from by
    rw [refPre_no (L:=L) (pre:=pre) (y:=y) fun p hp=>by
     rw [List.getElem?_eq_none (by show ps.length≤y.1;omega)] at hp
     cases hp]
    exact HI.out)
   gi_wp2
   exact ⟨HREFL.out.1,HREFL.out.2,⟨hs,HN.out⟩,HBB.out⟩
  have hyn':(y.1:Int) < (n:Int):=by omega
  obtain ⟨p,hp⟩:∃ p,ps[y.1]?=some p:=⟨_,List.getElem?_eq_getElem (by omega)⟩
  obtain ⟨b,o,hA,_,_,e0,e1⟩:=HPW.out.at_ hp
  simp only [] at hA
  subst hA
  obtain ⟨pk,pf⟩:=p
  simp only [] at e0 e1
  by_cases hp0:pk=0
  rotate_left
  ·
   have tp:(pk == 0)=false:=by simpa using hp0
   have HN:=hide (show RefI w1.heap.size (w1.heap.size+4) (refPre L (tys L) lc.ty ps (pre++[y])) W from by
    rw [refPre_no (L:=L) (pre:=pre) (y:=y) fun p hp'=>by
     have hp2:ps[y.1]?=some p:=hp'
     rw [hp] at hp2
     injection hp2 with hp2
     rw [←hp2]
     exact hp0]
    exact HI.out)
   clear hp hp0
   gi_wp2
   exact ⟨HREFL.out.1,HREFL.out.2,⟨hs,HN.out⟩,HBB.out⟩
  subst hp0
  obtain ⟨i,u,hti,hu⟩:=y.2.lt HW.out.ok HW.out.t0 (by rw [tys_len];exact HW.out.t1)
  obtain ⟨x0,hx0,hxt⟩:=tys_back hu
  have HN:=hide (show refPre L (tys L) lc.ty ps (pre++[y])=refPre L (tys L) lc.ty ps pre++[x0] from refPre_yes (pre:=pre) hp rfl hti hx0)
  have HCT:=hide fun W' (h:Below W.heap.size W W')=>(show Calls Tryz.prog 126 #[.slice At nt ct,.int .i64 (tyA (tys L) lc.ty ps y.1)] W' fun e w'=>e=.returned (aggT x0)∧Below W'.heap.size W' w' from by
   rw [show tyA (tys L) lc.ty ps y.1=(i:Int) from hti]
   exact TypeAt_any (c:=ct) hx0 W' (H.out W' (HB1.out.trans ((HBB.out.trans (h.mono HBB.out.size)).mono HB1.out.size))).typs HW.out.nt)
  have HS:=hide fun W' (h:Below W.heap.size W W')=>(h.cell (p:=⟨w.heap.size,0,none⟩) (by show w.heap.size < W.heap.size;omega)).trans z0
  clear hp hti hu hx0 hxt
  have HAB:=hide fun (W':World) (h:Below W.heap.size W W')=>(boxed_below8 HB1X.out h).cell
  obtain ⟨⟨k0,mu,r0,el,fs⟩,Af,nf,cf⟩:=x0
  simp only [] at HCT
  gi_wp2
  refine region_in (S:=fun w'=>w'.cell? ⟨w.heap.size,0,none⟩=some (.slice At nt ct)) (by kernel_rfl) (by kernel_rfl) (by rintro ⟨_,_,h⟩;exact h) (HS.out _ (Below.refl _ W).drew) (fun hHeld=>?_)
  refine wpAnyH_take (i:=1) (v:=.slice At nt ct) rfl (by kernel_rfl) (by kernel_rfl) (by kernel_rfl) (fun _ _ _ h=>h) (Or.inl ⟨by rfl,fun w' hS=>by have s0:=hS;go_simp⟩) hHeld ?_
  simp only [Act.put,List.setIfInBounds_toArray]
  refine wpAnyH_take (i:=2) (v:=.int .i64 (tyA (tys L) lc.ty ps y.1)) rfl (by kernel_rfl) (by kernel_rfl) (by kernel_rfl) (fun _ _ _ h=>h) (Or.inl ⟨by rfl,fun w' hS=>by have s0:=hS;go_simp⟩) hHeld ?_
  simp only [Act.put]
  refine wpAnyH_ready (rs:=[0,3]) (by kernel_rfl) (by simp) ?_
  refine AllReadyH.cons rfl (fun K hK=>?_) (AllReadyH.cons rfl (fun K hK=>?_) AllReadyH.nil)
  ·
   go_simp
   refine hK.out _ _ hHeld (fun hHeld=>?_)
   clear hK K
   refine wpAnyH_ready (rs:=[3]) (by kernel_rfl) (by simp) ?_
   refine AllReadyH.cons rfl (fun K hK=>?_) AllReadyH.nil
   go_simp
   refine (HCT.out _ (Below.refl _ W).drew).mono ?_
   rintro e w3 ⟨rfl,hb3⟩
   have hb3':Below W.heap.size W w3:=(Below.refl _ W).drew.trans hb3
   have S3:=HS.out _ hb3'
   exact PlaFz1
  ·
   go_simp
   refine (HCT.out _ (Below.refl _ W).drew).mono ?_
   rintro e w3 ⟨rfl,hb3⟩
   have hb3':Below W.heap.size W w3:=(Below.refl _ W).drew.trans hb3
   have S3:=HS.out _ hb3'
   have cA3:=HAB.out _ hb3'
   refine hK.out _ _ S3 (fun hHeld=>?_)
   clear hK K
   refine wpAnyH_ready (rs:=[0,4]) (by kernel_rfl) (by simp) ?_
   refine AllReadyH.cons rfl (fun K hK=>?_) (AllReadyH.cons rfl (fun K hK=>?_) AllReadyH.nil)
   ·
    go_simp
    exact PlaFz1
   ·
    go_simp
    have hb4:=hide (hb3'.alloc hb3'.size (.cells #[.int .i64 k0,.bool mu,.int .i64 r0,.int .i64 el,.slice Af nf cf] 62))
    refine hK.out _ _ (HS.out _ hb4.out) (fun hHeld=>?_)
    clear hK K
    refine wpAnyH_ready (rs:=[0]) (by kernel_rfl) (by simp) ?_
    refine AllReadyH.cons rfl (fun K hK=>?_) AllReadyH.nil
    have cA4:=HAB.out _ hb4.out
    go_simp
    exact PlaFz0
 case done=>
  rintro D ys W hD ⟨m,hS,hm,hend⟩ ⟨⟨hs,hI⟩,hB⟩ hK
  have hmn:m=ps.length:=by
   rcases hend with h | ⟨p,hp,he⟩
   ·
    exact h
   ·
    exact absurd (by rw [goA_none hS hp he] at HE;exact HE.out) he
  subst hmn
  rw [show refPre L (tys L) lc.ty ps ys=refTo L (tys L) lc.ty ps ps.length from refPre_all hm,hxl] at hI
  obtain ⟨v,m,b1,hrow,hm2⟩:=hI
  have k1:=b1.cell
  have HM:=hide hm2
  have HRow:=hide hrow
  have HBB:=hide (HB1.out.trans (hB.mono HB1.out.size))
  have hDW:w.heap.size≤D:=by omega
  clear hm2 hrow hm hend hB
  gi_wp2
  refine ⟨by simp,.inl ⟨_,_,rfl,run_takeDeferred hK,?_⟩⟩
  refine ⟨_,results_tmp2 rfl _ _ _,v,m,rfl,ownsRow_base (base:=w1.heap.size+4) (ownsRow_putObj HRow.out _ hK rfl) (by omega),HM.out,HBB.out.trans (belowK_b (w:=w) (Nat.le_refl _) W D _ _ hDW hK rfl rfl)⟩
 case stop=>
  rintro D cd pre W hD hpre h hK
  exact h.elim
theorem References_no {At Al:Option Addr} {nt ct nl cl:Nat} {L:List TyW} {LL:List LcW} {x:PlW} {r u v:Int} {w:World} (h:Pl8 w At Al nt nl L LL x r) (hv:tyOfP (tys L) (lcs LL) x.l x.ps=(u,v)) (hv0:v≠0) :
 Calls Tryz.prog 119 #[.slice At nt ct,.slice Al nl cl,aggPl x] w fun e w'=>e=.returned (.tuple #[.slice none 0 0,.bool false])∧Below w.heap.size w w':=by
 have hB0:=((Below.refl w.heap.size w).alloc (Nat.le_refl _) (.cells #[.slice At nt ct] 24)).alloc (by simp) (.cells #[.int .i64 x.l,.slice x.A x.n x.c] 36)
 have HB0:=hide hB0
 have HC:=hide (TypeOf_is (ct:=ct) (cl:=cl) (h.up hB0) hv)
 have tv:(v != 0)=true:=by rw [bne_iff_ne];exact hv0
 obtain ⟨l,A,n,c,ps⟩:=x
 clear h hB0 hv hv0
 go_enter Tryz.func119,Tryz.ntmps119
 go_wp2_with fail
 refine HC.out.mono ?_
 rintro e w1 ⟨rfl,hb1⟩
 have HB1:=hide (HB0.out.trans (hb1.mono HB0.out.size))
 clear hb1
 go_wp2
 go_ret2
 exact ⟨rfl,HB1.out⟩
end Go.Proofs.YtfgacmgjpikgaaaGreatDoor
namespace Go.Proofs.YtfgacmgjpikgaaaGreatDoor
open Go.RowKit
theorem tys_refTo (L:List TyW) (t:Int) (ps:List Pr) (n:Nat):tys (refTo L (tys L) t ps n)=refTo (tys L) (tys L) t ps n:=refTo_map TyW.t L t ps n
def RefsE (w:World) (L:List TyW) (LL:List LcW) (x:PlW) (e:Ending) (w':World):Prop:=
 (∃ A m c R,e=.returned (.tuple #[.slice A m c,.bool true])∧(tyOfP (tys L) (lcs LL) x.l x.ps).2=0∧tys R=refP (tys L) (lcs LL) x.l x.ps∧m≤40∧Typs w' w'.heap.size A m R∧Below w.heap.size w w') ∨
 (e=.returned (.tuple #[.slice none 0 0,.bool false])∧(tyOfP (tys L) (lcs LL) x.l x.ps).2≠0∧Below w.heap.size w w')
theorem References_any {At Al:Option Addr} {nt ct nl cl:Nat} {L:List TyW} {LL:List LcW} {x:PlW} {r:Int} {w:World} (h:Pl8 w At Al nt nl L LL x r) :
  Calls Tryz.prog 119 #[.slice At nt ct,.slice Al nl cl,aggPl x] w (RefsE w L LL x):=by
 by_cases hv:(tyOfP (tys L) (lcs LL) x.l x.ps).2=0
 ·
  obtain ⟨hp0,k,t,hk,ht,hg⟩:=tyOfP_zero hv
  have hkl:=(List.getElem?_eq_some_iff.1 ht).1
  rw [lcs_len] at hkl
  obtain ⟨lc,hlc⟩:∃ lc,LL[k]?=some lc:=⟨_,List.getElem?_eq_getElem hkl⟩
  have ht2:=lcs_at hlc
  rw [ht] at ht2
  injection ht2 with ht2
  subst ht2
  rw [hg] at hv
  refine (callsIn_wide.1 (References_yes (ct:=ct) (cl:=cl) h hk hlc hp0 hv)).mono ?_
  rintro e w' ⟨v,m,rfl,hrow,hm,hb⟩
  obtain ⟨A,c,rfl,_,_⟩:=ownsRow_shape3 hrow
  refine .inl ⟨A,m,c,refTo L (tys L) lc.ty x.ps x.ps.length,rfl,by rw [hg];exact hv,?_,?_,⟨Cells.of_own c5_len (by decide) hrow,fun y hy=>?_⟩,hb⟩
  ·
   rw [tys_refTo]
   unfold refP
   rw [hg,if_pos hv,hk,Int.toNat_natCast,List.getD_eq_getElem?_getD,ht]
   rfl
  ·
   have h1:=refTo_len L (tys L) lc.ty x.ps x.ps.length
   have h2:=(plErr_zero.1 hp0).2.1
   omega
  ·
   exact ((h.typs.one y (refTo_mem hy)).below hb).more hb.size
 ·
  obtain ⟨u,v,he⟩:∃ u v,tyOfP (tys L) (lcs LL) x.l x.ps=(u,v):=⟨_,_,rfl⟩
  rw [he] at hv
  refine (References_no (ct:=ct) (cl:=cl) h he hv).mono ?_
  rintro e w' ⟨rfl,hb⟩
  exact .inr ⟨rfl,by rw [he];exact hv,hb⟩
theorem Mutable1_any (x:TyW) (w:World):Calls Tryz.prog 130 #[aggT x] w fun e w'=>e=.returned (.bool (!x.t.mut_))∧Below w.heap.size w w':=by
 obtain ⟨⟨k,mu,r,el,fs⟩,A,n,c⟩:=x
 have HA:=hide ((Below.refl w.heap.size w).alloc (Nat.le_refl _) (.cells #[.int .i64 k,.bool mu,.int .i64 r,.int .i64 el,.slice A n c] 62))
 go_enter Tryz.func130,Tryz.ntmps130
 go_wp2
 go_ret
 exact ⟨rfl,HA.out⟩
def IdxE (R:List TyW) (e:Ending):Prop:=∃ v:Int,e=.returned (.int .i64 v)∧((R.all (fun x=>x.t.mut_)=true∧v=-1)∨(R.all (fun x=>x.t.mut_)=false∧0≤v))
theorem IndexFunc_any (A:Option Addr) (n c:Nat) (R:List TyW) (w:World) (hA:Typs w w.heap.size A n R) (hn:n≤maxLen) :
    Calls Tryz.prog 135 #[.slice A n c,.func (.func 130) #[] #[]] w fun e w'=>IdxE R e∧Below w.heap.size w w':=by
  have HA:=hide hA
  have HL:=hide hA.len
  unfold maxLen at hn
  clear hA
  go_enter Tryz.func135,Tryz.ntmps135
  go_wp2
  go_loopw [8] (fun i wr=>∃ j:Nat,i=.int .i64 (j:Int)∧j≤n∧Hid (∀ t x,t < j→R[t]?=some x→x.t.mut_=true)∧Below w.heap.size w wr) (fun i _=>n - (intOf i).toNat)
  case atStart=>exact ⟨0,rfl,Nat.zero_le _,fun t x h=>absurd h (Nat.not_lt_zero _),Below.refl _ _⟩
  case round=>
    obtain ⟨j,rfl,hj,HE,hb⟩:=hrel
    have HB:=hide hb
    clear hb
    by_cases hlt:j < n
    · have hlt':(j:Int) < (n:Int):=by omega
      obtain ⟨x,hx⟩:∃ x,R[j]?=some x:=⟨_,List.getElem?_eq_getElem (by have:=HL.out;omega)⟩
      obtain ⟨b,o,rfl,_,_,c0,c1,c2,c3,c4⟩:=(HA.out.below HB.out).at_ hx
      have HM:=hide (Mutable1_any x wr)
      have HX:=hide hx
      obtain ⟨⟨k,mu,r,el,fs⟩,Af,nf,cf⟩:=x
      simp only [] at c0 c1 c2 c3 c4 HM
      clear hx
      cases mu
      · have HF:=hide (show R.all (fun x=>x.t.mut_)=false from by
          rw [←Bool.not_eq_true,List.all_eq_true]
          exact fun h=>by cases h _ (List.mem_of_getElem? HX.out))
        go_wp2_with fail
        refine HM.out.mono ?_
        rintro e w1 ⟨rfl,hb⟩
        have HB1:=hide (HB.out.trans (hb.mono HB.out.size))
        clear hb
        go_wp2
        go_ret
        exact ⟨⟨_,rfl,.inr ⟨HF.out,by omega⟩⟩,HB1.out⟩
      · have HN:=hide (show ∀ t x,t < j+1→R[t]?=some x→x.t.mut_=true from fun t x ht hx=>by
          rcases Nat.lt_or_ge t j with h1 | h1
          · exact HE.out t x h1 hx
          · obtain rfl:t=j:=by omega
            rw [HX.out] at hx
            injection hx with hx
            rw [←hx])
        go_wp2_with fail
        refine HM.out.mono ?_
        rintro e w1 ⟨rfl,hb⟩
        have HB1:=hide (HB.out.trans (hb.mono HB.out.size))
        clear hb
        go_wp2
        go_roundw
        case rel=>exact ⟨j+1,by go_num,by omega,HN.out,HB1.out⟩
        case measure=>simp [intOf];omega
    · obtain rfl:j=n:=by omega
      have HF:=hide (show R.all (fun x=>x.t.mut_)=true from by
        rw [List.all_eq_true]
        intro x hx
        obtain ⟨t,ht⟩:=List.getElem?_of_mem hx
        exact HE.out t x (by have:=(List.getElem?_eq_some_iff.1 ht).1;have:=HL.out;omega) ht)
      go_wp2
      go_ret
      exact ⟨⟨_,rfl,.inl ⟨HF.out,rfl⟩⟩,HB.out⟩
theorem ContainsFunc_any (A:Option Addr) (n c:Nat) (R:List TyW) (w:World) (hA:Typs w w.heap.size A n R) (hn:n≤maxLen) :
  Calls Tryz.prog 129 #[.slice A n c,.func (.func 130) #[] #[]] w fun e w'=>e=.returned (.bool (!R.all (fun x=>x.t.mut_)))∧Below w.heap.size w w':=by
 go_enter Tryz.func129,Tryz.ntmps129
 go_wp2_with fail
 refine (IndexFunc_any A n c R w hA hn).mono ?_
 rintro e w1 ⟨⟨v,rfl,hv⟩,hb⟩
 have HB:=hide hb
 clear hb
 rcases hv with ⟨h1,rfl⟩ | ⟨h1,h2⟩
 ·
  have HF:=hide h1
  clear h1
  go_wp2
  go_ret
  exact ⟨by rw [HF.out];rfl,HB.out⟩
 ·
  have HF:=hide h1
  have t1:decide (0≤v)=true:=decide_eq_true h2
  clear h1
  go_wp2
  go_ret
  exact ⟨by rw [HF.out];rfl,HB.out⟩
theorem Mutable_any {At Al:Option Addr} {nt ct nl cl:Nat} {L:List TyW} {LL:List LcW} {x:PlW} {r:Int} {w:World} (h:Pl8 w At Al nt nl L LL x r) :
  Calls Tryz.prog 116 #[.slice At nt ct,.slice Al nl cl,aggPl x] w fun e w'=>e=.returned (.bool (mutP (tys L) (lcs LL) x.l x.ps))∧Below w.heap.size w w':=by
 have hB0:=(Below.refl w.heap.size w).alloc (Nat.le_refl _) (.cells #[.int .i64 x.l,.slice x.A x.n x.c] 36)
 have HB0:=hide hB0
 have HC:=hide (References_any (ct:=ct) (cl:=cl) (h.up hB0))
 obtain ⟨mm,hmm⟩:∃ mm,mutP (tys L) (lcs LL) x.l x.ps=mm:=⟨_,rfl⟩
 rw [hmm]
 have HMM:=hide hmm
 obtain ⟨l,A,n,c,ps⟩:=x
 clear h hB0 hmm
 go_enter Tryz.func116,Tryz.ntmps116
 go_wp2_with fail
 refine HC.out.mono ?_
 rintro e w1 (⟨A1,m,c1,R,rfl,h0,hR,hm,hT,hb⟩ | ⟨rfl,h0,hb⟩)
 ·
  have HB1:=hide (HB0.out.trans (hb.mono HB0.out.size))
  have HF:=hide (show R.all (fun x=>x.t.mut_)=mm from by
   rw [←HMM.out]
   unfold mutP
   simp only [] at h0 hR
   rw [h0,← hR,List.all_map]
   simp
   rfl)
  have HT:=hide hT
  clear hb h0 hR hT
  go_wp2_with fail
  refine (ContainsFunc_any A1 m c1 R w1 HT.out (by unfold maxLen;omega)).mono ?_
  rintro e w2 ⟨rfl,hb⟩
  have HB2:=hide (HB1.out.trans (hb.mono HB1.out.size))
  clear hb
  generalize R.all (fun x=>x.t.mut_)=bb at *
  go_wp2
  go_ret
  exact ⟨congrArg (fun v=>Ending.returned (.bool v)) HF.out,HB2.out⟩
 ·
  have HB1:=hide (HB0.out.trans (hb.mono HB0.out.size))
  have HF:=hide (show mm=false from by
   rw [←HMM.out]
   unfold mutP
   simp only [] at h0
   simp [h0])
  clear hb h0
  go_wp2
  go_ret
  exact ⟨congrArg (fun v=>Ending.returned (.bool v)) HF.out.symm,HB1.out⟩
theorem Mutable_is {At Al:Option Addr} {nt ct nl cl:Nat} {L:List TyW} {LL:List LcW} {x:PlW} {r:Int} {v:Bool} {w:World} (h:Pl8 w At Al nt nl L LL x r) (hv:mutP (tys L) (lcs LL) x.l x.ps=v) :
  Calls Tryz.prog 116 #[.slice At nt ct,.slice Al nl cl,aggPl x] w fun e w'=>e=.returned (.bool v)∧Below w.heap.size w w':=hv ▸ Mutable_any h
def IntsOut (w:World) (xs:List Int) (e:Ending) (w':World):Prop:=∃ A m c,e=.returned (.slice A m c)∧m≤40∧m≤c∧c≤maxLen∧w'.ownsRow w.heap.size 3 1 (.slice A m c) m (i64s xs)∧Below w.heap.size w w'
theorem take_map_up {α β:Type} {l:List α} {f:α→β} {k:Nat} {x:α} (h:l[k]?=some x):(l.take (k+1)).map f=(l.take k).map f++[f x]:=by
 rw [List.take_add_one,h,List.map_append];rfl
theorem cell_int8 (w:World) (x:Int) (t:TypeId):∀ j u,(i64s [x])[j]?=some u→(w.alloc (.cells #[.int .i64 x] t)).cell? ((⟨w.heap.size,0,none⟩:Addr).add j)=some u:=
 World.news_of_block (heap_alloc_new w _)
theorem RegionsP_any {At Al:Option Addr} {nt ct nl cl:Nat} {L:List TyW} {LL:List LcW} {x:PlW} {r:Int} {w:World} (h:Pl8 w At Al nt nl L LL x r) :
  Calls Tryz.prog 107 #[.slice At nt ct,.slice Al nl cl,aggPl x] w (IntsOut w (regP (tys L) (lcs LL) x.l x.ps)):=by
 obtain ⟨i0,hi,hz0,hz1,hz2⟩:=info_parts infoInt
 have hB0:=(Below.refl w.heap.size w).alloc (Nat.le_refl _) (.cells #[.int .i64 x.l,.slice x.A x.n x.c] 36)
 have HB0:=hide hB0
 have HC:=hide (References_any (ct:=ct) (cl:=cl) (h.up hB0))
 obtain ⟨rg,hrg⟩:∃ rg,regP (tys L) (lcs LL) x.l x.ps=rg:=⟨_,rfl⟩
 rw [hrg]
 have HRG:=hide hrg
 obtain ⟨l,A,n,c,ps⟩:=x
 clear h hB0 hrg
 go_enter Tryz.func107,Tryz.ntmps107
 go_wp2_with fail
 refine HC.out.mono ?_
 rintro e w1 (⟨A1,m,c1,R,rfl,h0,hR,hm,hT,hb⟩ | ⟨rfl,h0,hb⟩)
 ·
  have HB1:=hide (HB0.out.trans (hb.mono HB0.out.size))
  have HF:=hide (show R.map (fun x=>x.t.region)=rg from by
   rw [←HRG.out]
   unfold regP
   simp only [] at hR
   rw [←hR,List.map_map]
   rfl)
  have HT:=hide hT
  have HL:=hide hT.len
  clear hb h0 hR hT
  go_wp2
  go_loopw [9,21] (fun v i wr=>∃ j:Nat,i=.int .i64 (j:Int)∧j≤m∧wr.ownsRow w1.heap.size 3 1 v j (i64s ((R.take j).map fun x=>x.t.region))∧Below w1.heap.size w1 wr) (fun _ i _=>m - (intOf i).toNat)
  case atStart=>exact ⟨0,rfl,Nat.zero_le _,World.ownsRow_nil _ _ _ _,Below.refl _ _⟩
  case round=>
   obtain ⟨j,rfl,hj,hown,hb⟩:=hrel
   obtain ⟨A2,c2,rfl,hj1,hc1⟩:=ownsRow_shape3 hown
   have HO:=hide hown
   have HB:=hide hb
   have HBW:=hide (HB1.out.trans (hb.mono HB1.out.size))
   have hsz:=hb.size
   have hszw:=HBW.out.size
   unfold maxLen at hc1
   clear hown hb
   by_cases hlt:j < m
   ·
    have hlt':(j:Int) < (m:Int):=by omega
    obtain ⟨y,hy⟩:∃ y,R[j]?=some y:=⟨_,List.getElem?_eq_getElem (by have:=HL.out;omega)⟩
    obtain ⟨b,o,rfl,_,_,d0,d1,d2,d3,d4⟩:=(HT.out.below HB.out).at_ hy
    have HUP:=hide (take_map_up (f:=fun x:TyW=>x.t.region) hy)
    obtain ⟨⟨k,mu,rr,el,fs⟩,Af,nf,cf⟩:=y
    simp only [] at d0 d1 d2 d3 d4 HUP
    clear hy
    have HBx:=hide ((Below.refl wr.heap.size wr).alloc (Nat.le_refl _) (.cells #[.int .i64 k,.bool mu,.int .i64 rr,.int .i64 el,.slice Af nf cf] 62))
    go_wp2_with (at_builtin;refine wpList_append_own_at _ rfl (.tmp 25) (.tmp 28) 48 rfl w1.heap.size 3 i0 (.int .i64 0) 1 8 Tryz.underlying48 hi hz0 hz1 hz2 rfl (by decide) _ j _ rfl ((HO.out.alloc _).alloc _) ⟨wr.heap.size+1,0,none⟩ 1 1 (i64s [rr]) rfl rfl (by simpa using cell_int8 (wr.alloc (.cells #[.int .i64 k,.bool mu,.int .i64 rr,.int .i64 el,.slice Af nf cf] 62)) rr 3) (ints_oneCell _ _) (by unfold maxLen;omega) (by omega) (by simp;omega) ?_;intro v5 w5 hown5 hg5 _ hat5;have HO5:=hide hown5;have HB5:=hide (below_app ((HB.out.alloc hsz (.cells #[.int .i64 k,.bool mu,.int .i64 rr,.int .i64 el,.slice Af nf cf] 62)).alloc (by simp;omega) (.cells #[.int .i64 rr] 3)) ((HO.out.alloc _).alloc _) (by simp;omega) hg5);clear hown5 hg5 hat5)
    go_roundw
    case rel=>
     refine ⟨j+1,by go_num,by omega,?_,HB5.out⟩
     rw [HUP.out]
     have h:=HO5.out
     rw [←List.map_append] at h
     exact h
    case measure=>simp [intOf];omega
   ·
    obtain rfl:j=m:=by omega
    have HE:=hide (show wr.ownsRow w.heap.size 3 1 (.slice A2 j c2) j (i64s rg) from by
     rw [←HF.out]
     have h:=HO.out
     rw [List.take_of_length_le (by have:=HL.out;omega)] at h
     exact ownsRow_base h (by have:=HB1.out.size;omega))
    go_wp2
    go_ret
    exact ⟨A2,j,c2,rfl,by omega,hj1,hc1,HE.out,HBW.out⟩
 ·
  have HB1:=hide (HB0.out.trans (hb.mono HB0.out.size))
  have HF:=hide (show rg=[] from by
   rw [←HRG.out]
   unfold regP refP
   simp only [] at h0
   rw [if_neg h0]
   rfl)
  clear hb h0
  go_wp2
  go_loopw [9,21] (fun v i wr=>v=.slice none 0 0∧i=.int .i64 0∧Below w.heap.size w wr) (fun _ i _=>0)
  case atStart=>exact ⟨rfl,rfl,HB1.out⟩
  case round=>
   obtain ⟨rfl,rfl,hb⟩:=hrel
   have HB2:=hide hb
   clear hb
   go_wp2
   go_ret
   exact ⟨none,0,0,rfl,by omega,Nat.le_refl _,Nat.zero_le _,by rw [HF.out];exact World.ownsRow_nil _ _ _ _,HB2.out⟩
theorem RCheckP_any (x:PlW) (w:World) (hx:OnePl w w.heap.size x) :
  Calls Tryz.prog 82 #[aggPl x] w fun e w'=>e=.returned (.int .i64 (plErr x.l x.ps))∧Below w.heap.size w w':=by
 obtain ⟨l,A,n,c,ps⟩:=x
 have hcm:=hx.cm
 have hnc:=hx.nc
 simp only [] at hcm hnc
 have HX:=hide hx.prs
 have HL:=hide hx.prs.len
 have HA:=hide ((Below.refl w.heap.size w).alloc (Nat.le_refl _) (.cells #[.int .i64 l,.slice A n c] 36))
 clear hx
 unfold maxLen at hcm
 by_cases hl:l < 0
 ·
  have HF:=hide (show plErr l ps=3 from if_pos hl)
  go_enter Tryz.func82,Tryz.ntmps82
  go_wp2
  go_ret
  exact ⟨congrArg (fun v=>Ending.returned (.int .i64 v)) HF.out.symm,HA.out⟩
 by_cases hn:32 < n
 ·
  have HF:=hide (show plErr l ps=19 from by unfold plErr;rw [if_neg hl,if_pos (by have:ps.length=n:=HL.out;omega)])
  have hn':(32:Int) < (n:Int):=by omega
  go_enter Tryz.func82,Tryz.ntmps82
  go_wp2
  go_ret
  exact ⟨congrArg (fun v=>Ending.returned (.int .i64 v)) HF.out.symm,HA.out⟩
 have HF:=hide (show plErr l ps=pjsErr (ps.drop 0) from by unfold plErr;rw [if_neg hl,if_neg (by have:ps.length=n:=HL.out;omega)];rfl)
 have hn':(n:Int)≤32:=by omega
 have hl':0≤l:=by omega
 clear hl hn
 have HC:=hide fun (w':World) (h:Below (w.alloc (.cells #[.int .i64 l,.slice A n c] 36)).heap.size (w.alloc (.cells #[.int .i64 l,.slice A n c] 36)) w')=>((h.cell (p:=⟨w.heap.size,1,none⟩) (by simp)).trans (by simp [go_sem]):w'.cell? ⟨w.heap.size,1,none⟩=some (.slice A n c))
 go_enter Tryz.func82,Tryz.ntmps82
 go_wp2
 go_loopw [3] (fun i wr=>∃ j:Nat,i=.int .i64 (j:Int)∧j≤n∧Hid (pjsErr (ps.drop j)=pjsErr (ps.drop 0))∧Below (w.alloc (.cells #[.int .i64 l,.slice A n c] 36)).heap.size (w.alloc (.cells #[.int .i64 l,.slice A n c] 36)) wr) (fun i _=>n - (intOf i).toNat)
 case atStart=>exact ⟨0,rfl,Nat.zero_le _,rfl,Below.refl _ _⟩
 case round=>
  obtain ⟨j,rfl,hj,HE,hb⟩:=hrel
  have HB:=hide (HA.out.trans (hb.mono (by simp)))
  have HB0:=hide hb
  have cz:=HC.out _ hb
  clear hb
  by_cases hlt:j < n
  ·
   have hlt':(j:Int) < (n:Int):=by omega
   obtain ⟨p,hp⟩:∃ p,ps[j]?=some p:=⟨_,List.getElem?_eq_getElem (by have:ps.length=n:=HL.out;omega)⟩
   obtain ⟨b,o,rfl,_,hi,c0,c1⟩:=(HX.out.below HB.out).at_ hp
   have HS:=hide (pjsErr_at hp)
   obtain ⟨k,f⟩:=p
   simp only [] at c0 c1
   have HB2:=hide (HB.out.alloc HB.out.size (.cells #[.int .i64 k,.int .i64 f] 102))
   have HB3:=hide (HB0.out.alloc HB0.out.size (.cells #[.int .i64 k,.int .i64 f] 102))
   clear hp hi
   have good:∀ v,pjErr (k,f)=v→v≠0→Hid (plErr l ps=v):=fun v hv hv0=>(show _=_ by rw [HF.out,← HE.out,HS.out,hv,if_neg hv0])
   have next:pjErr (k,f)=0→Hid (pjsErr (ps.drop (j+1))=pjsErr (ps.drop 0)):=fun hv=>(show _=_ by rw [←HE.out,HS.out,if_pos hv])
   by_cases h0:k=0
   ·
    subst h0
    by_cases hf:f=0
    ·
     subst hf
     have HN:=next (by decide)
     clear good next
     go_wp2
     go_roundw
     case rel=>exact ⟨j+1,by go_num,by omega,HN.out,HB3.out⟩
     case measure=>simp [intOf];omega
    ·
     have t1:(f != 0)=true:=by rw [bne_iff_ne];exact hf
     have HN:=good 2 (by unfold pjErr;rw [if_neg (by omega),if_pos ⟨rfl,hf⟩]) (by decide)
     clear good next hf
     go_wp2
     go_ret
     exact ⟨congrArg (fun v=>Ending.returned (.int .i64 v)) HN.out.symm,HB2.out⟩
   ·
    have t0:(k != 0)=true:=by rw [bne_iff_ne];exact h0
    have t00:(k == 0)=false:=by simpa using h0
    by_cases h1:k=1
    ·
     subst h1
     clear h0 t0 t00
     by_cases hf:f < 0
     ·
      have HN:=good 3 (by unfold pjErr;rw [if_neg (by omega),if_neg (by omega),if_pos hf]) (by decide)
      clear good next
      go_wp2
      go_ret
      exact ⟨congrArg (fun v=>Ending.returned (.int .i64 v)) HN.out.symm,HB2.out⟩
     ·
      have HN:=next (by unfold pjErr;rw [if_neg (by omega),if_neg (by omega),if_neg hf])
      clear good next
      have hf':0≤f:=by omega
      go_wp2
      go_roundw
      case rel=>exact ⟨j+1,by go_num,by omega,HN.out,HB3.out⟩
      case measure=>simp [intOf];omega
    ·
     have t1:(k != 1)=true:=by rw [bne_iff_ne];exact h1
     have HN:=good 14 (by unfold pjErr;rw [if_pos ⟨h0,h1⟩]) (by decide)
     clear good next h0 h1
     go_wp2
     go_ret
     exact ⟨congrArg (fun v=>Ending.returned (.int .i64 v)) HN.out.symm,HB2.out⟩
  ·
   obtain rfl:j=n:=by omega
   have HN:=hide (show plErr l ps=0 from by rw [HF.out,← HE.out,List.drop_of_length_le (by have:ps.length=j:=HL.out;omega)];rfl)
   go_wp2
   go_ret
   exact ⟨congrArg (fun v=>Ending.returned (.int .i64 v)) HN.out.symm,HB.out⟩
theorem RCheckP_is {x:PlW} {v:Int} (h:plErr x.l x.ps=v) (w:World) (hx:OnePl w w.heap.size x) :
  Calls Tryz.prog 82 #[aggPl x] w fun e w'=>e=.returned (.int .i64 v)∧Below w.heap.size w w':=h ▸ RCheckP_any x w hx
end Go.Proofs.YtfgacmgjpikgaaaGreatDoor
