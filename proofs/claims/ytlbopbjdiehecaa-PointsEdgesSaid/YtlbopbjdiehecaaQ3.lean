/- Part 4 of the contracts and their mathematics. -/
import Derived.Test.YtlbopbjdiehecaaQ2
import Derived.TacticsInMore
import Derived.LoopNIn
import Derived.LoopIn
import Derived.Sort.QuietIn
set_option linter.unusedVariables false
set_option linter.unusedSimpArgs false
set_option maxRecDepth 100000
set_option maxHeartbeats 8000000
namespace Go.Proofs.Ytlbopbjdiehecaa
open Go.RowKit Go.Shelf
attribute [local go_sem] Oper.semAt_some
abbrev SpX (l:List BkV):={ s:Nat×Nat×Nat // ptLoc l s.1=some (s.2.1,s.2.2) }
def spenc {l:List BkV} (s:SpX l):Array Value:=#[aggSp s.1.1 s.1.2.1 s.1.2.2]
def spP {l:List BkV} (s:SpX l):Nat:=s.1.1
def spTs:List TypeId:=[32,3]
theorem abides_below11 {β:Type} {B:Nat} {J:β→World→Prop} (h:AbidesFrom B J) {s:β} {W W':World} (hs:J s W) (hb:Below W.heap.size W W'):J s W':=
 h s W W' none hs (grown_of_below hb) (fun r e=>by cases e)
theorem range_up11 (f P:Nat) (h:f≤P):List.range' f (P+1 - f)=List.range' f (P - f)++[P]:=by
 obtain ⟨d,rfl⟩:=Nat.exists_eq_add_of_le h
 rw [show f+d+1 - f=d+1 by omega,show f+d - f=d by omega,List.range'_concat]
 simp
theorem mapP_snoc {l:List BkV} {pre:List (SpX l)} {s:SpX l} {f P:Nat} (h:pre.map spP=List.range' f (P - f)) (hf:f≤P) (hs:spP s=P):(pre++[s]).map spP=List.range' f (P+1 - f):=by
 rw [List.map_append,h,range_up11 f P hf,List.map_singleton,hs]
theorem mapP_len {l:List BkV} {pre:List (SpX l)} {f P:Nat} (h:pre.map spP=List.range' f (P - f)):pre.length=P - f:=by
 have:=congrArg List.length h
 rwa [List.length_map,List.length_range'] at this
theorem mapP_pre {l:List BkV} {pre:List (SpX l)} {f P C:Nat} (h:pre.map spP=List.range' f (P - f)) (hP:P≤C):pre.map spP <+: List.range' f (C - f):=by
 rw [h]
 obtain ⟨d,hd⟩:=Nat.exists_eq_add_of_le (show P - f≤C - f by omega)
 rw [hd,← List.range'_append_1]
 exact List.prefix_append _ _
theorem onward_in (n:Nat) (x:BdW) (fr:Int) (w:World) :
  CallsIn Fence.wide n Try.prog 33 #[aggBd x,.int .i64 fr] w fun e w'=>e=.returned (.func (.func 36) #[] #[.pointer (some ⟨w.heap.size,0,none⟩),.pointer (some ⟨w.heap.size+1,0,none⟩)]) ∧
   w'=(w.alloc (.cells (cBd x).toArray 32)).alloc (.cells #[.int .i64 fr] 3):=by
 obtain ⟨nm,⟨rA,rn,rc,rL⟩,⟨oA,on,oc,oL⟩,⟨tA,tm,tc,tL⟩,⟨lA,ln,lc,lL⟩,ar,⟨bA,bn,bc,bL⟩⟩:=x
 refine callsIn_of_wp Try.func33 rfl trivial ?_ rfl
 simp only [Try.ntmps33,List.size_toArray,List.length_cons,List.length_nil,Nat.reduceAdd,Nat.reduceSub,Array.replicate_succ,Array.replicate_zero,List.push_toArray,List.append_toArray,List.nil_append,List.cons_append]
 gi_wp2
 go_ret
 exact ⟨rfl,rfl⟩
theorem onward1_in (n:Nat) (hn:1≤n) (l Bb Bf n₀:Nat) (x:BdW) (BL:List BkV) (hBL:x.v.blocks=BL) (fr:Int) (C:Nat) (hC:ptCount BL=C) (hN:C≤2 ^ 62) (hI:IntR fr) (B0:Nat) (J Jx:List (SpX BL)→World→Prop) (hJ:AbidesFrom B0 J) (hJx:AbidesFrom B0 Jx)
  (hY:∀ pre s W,J pre W→pre.length < C - fr.toNat→YieldAt Fence.wide (n - 1) Try.prog l (spenc s) W fun e W'=>
   (e=.returned (.bool true)∧J (pre++[s]) W'∧KeepT n₀ spTs W W')∨(e=.returned (.bool false)∧Jx (pre++[s]) W'))
  (W:World) (hBb:W.heap[Bb]?=some (.cells (cBd x).toArray 32 (0,0))) (hBf:Boxed W Bf 3 (.int .i64 fr)) (hx:OneBd W n₀ x) (hn0:n₀≤W.heap.size) (h0:J [] W) :
  CallsIn Fence.wide n Try.prog 36 #[.func (.yield l) #[] #[],.pointer (some ⟨Bb,0,none⟩),.pointer (some ⟨Bf,0,none⟩)] W fun e W'=>(∃ v,e=.returned v) ∧
   ((∃ ys:List (SpX BL),ys.map spP=List.range' fr.toNat (C - fr.toNat)∧J ys W')∨(∃ pre:List (SpX BL),pre.map spP <+: List.range' fr.toNat (C - fr.toNat)∧Jx pre W')):=by
 obtain ⟨f,hf⟩:∃ f,fr.toNat=f:=⟨_,rfl⟩
 rw [hf] at hY ⊢
 have HF:=hide hf
 have HJ:=hide fun (pre:List (SpX BL)) (W W':World) (h:J pre W) (hb:Below W.heap.size W W')=>abides_below11 hJ h hb
 have HYY:=hide hY
 have HBV:=hide hBL
 have HCC:=hide hC
 have hbl:=bk_len hx
 rw [hBL] at hbl
 have hbm:=hx.blocks.nm
 unfold maxLen at hbm
 obtain ⟨hI1,hI2⟩:=hI
 have HX:=hide hx
 obtain ⟨nm,⟨rA,rn,rc,rL⟩,⟨oA,on,oc,oL⟩,⟨tA,tm,tc,tL⟩,⟨lA,ln,lc,lL⟩,ar,⟨bA,bn,bc,bL⟩⟩:=x
 have HBL:=hide (show BL.length=bn from hbl)
 have hbm:bn≤2 ^ 63 - 1:=hbm
 have c6:W.cell? ⟨Bb,6,none⟩=some (.slice bA bn bc):=cell_of_heap hBb 6
 have HBf:=hide hBf
 have HK0:=hide (KeepT.refl n₀ spTs W)
 clear hJ hY hBL hbl hx hC hf hBb hBf
 refine callsIn_of_wp Try.func36 rfl trivial ?_ rfl
 simp only [Try.ntmps36,List.size_toArray,List.length_cons,List.length_nil,Nat.reduceAdd,Nat.reduceSub,Array.replicate_succ,Array.replicate_zero,List.push_toArray,List.append_toArray,List.nil_append,List.cons_append]
 refine wpIn_wide.2 (wp_scope_straight ((wpIn_wide (n:=n)).1 ?_))
 gi_wp2
 apply wpIn_label
 gi_wp2
 clear c6
 gi_loopw [4,12] (fun v i wr=>∃ (pre:List (SpX BL)) (j:Nat),i=.int .i64 (j:Int)∧v=.int .i64 (ptFirst BL j:Nat)∧j≤bn∧Hid (pre.map spP=List.range' f (ptFirst BL j - f))∧J pre wr∧Hid (KeepT n₀ spTs W wr)∧n₀≤wr.heap.size) (fun _ i _=>bn - (intOf i).toNat)
 case atStart=>exact ⟨[],0,rfl,by rw [ptFirst_zero];rfl,Nat.zero_le _,(show _=_ by rw [ptFirst_zero,Nat.zero_sub];rfl),h0,HK0,hn0⟩
 case round=>
  obtain ⟨pre,j,rfl,rfl,hj,HP,hJs,HK,hnw⟩:=hrel
  by_cases hlt:j < bn
  ·
   have hlt':(j:Int) < (bn:Int):=by omega
   obtain ⟨p,b,o,_,hpv,hps,hA,hb,hob,hc⟩:=bk_all (HX.out.below HK.out.1) hlt
   have hA:bA=some ⟨b,o,none⟩:=hA
   subst hA
   have hpv:BL[j]?=some p.v:=HBV.out ▸ hpv
   have hu:=ptFirst_up hpv
   unfold ptN at hu
   rw [hps] at hu
   have hle:=ptFirst_le BL (j+1)
   rw [HCC.out] at hle
   have HPV:=hide hpv
   have HPS:=hide hps
   obtain ⟨m,hm⟩:∃ m,ptFirst BL j=m:=⟨_,rfl⟩
   have HMM:=hide hm
   have h62:m+(p.stmts.n+1)≤C:=by omega
   have HU:=hide (show ptFirst BL (j+1)=m+(p.stmts.n+1) by omega)
   have HSZ:=hide fun (w':World)=>PSize_any p w' (by omega)
   rw [hm] at HP ⊢
   obtain ⟨⟨sA,sn,sc,sL⟩,⟨bk,⟨xA,xn,xc,xL⟩,⟨gA,gn,gc,gL⟩,⟨l,pA,pn,pc,ps⟩,tnm⟩⟩:=p
   have HPS:=hide (show (BkV.stmts (BkW.v ⟨⟨sA,sn,sc,sL⟩,⟨bk,⟨xA,xn,xc,xL⟩,⟨gA,gn,gc,gL⟩,⟨l,pA,pn,pc,ps⟩,tnm⟩⟩)).length=sn from HPS.out)
   have h62:m+(sn+1)≤C:=h62
   have c0:wr.cell? ⟨b,o+j*7,none⟩=some (.slice sA sn sc):=hc 0 _ rfl
   have c1:wr.cell? ⟨b,o+j*7+1,none⟩=some (.int .i64 bk):=hc 1 _ rfl
   have c2:wr.cell? ⟨b,o+j*7+2,none⟩=some (.slice xA xn xc):=hc 2 _ rfl
   have c3:wr.cell? ⟨b,o+j*7+3,none⟩=some (.slice gA gn gc):=hc 3 _ rfl
   have c4:wr.cell? ⟨b,o+j*7+4,none⟩=some (.int .i64 l):=hc 4 _ rfl
   have c5:wr.cell? ⟨b,o+j*7+5,none⟩=some (.slice pA pn pc):=hc 5 _ rfl
   have c6:wr.cell? ⟨b,o+j*7+6,none⟩=some (.string tnm):=hc 6 _ rfl
   have HB4:=hide (below1 wr (.cells #[.slice sA sn sc,.int .i64 bk,.slice xA xn xc,.slice gA gn gc,.int .i64 l,.slice pA pn pc,.string tnm] 58))
   obtain ⟨y0,y1,y2,y3,y4,y5,y6⟩:=cells7 (Below.refl (wr.alloc (.cells #[.slice sA sn sc,.int .i64 bk,.slice xA xn xc,.slice gA gn gc,.int .i64 l,.slice pA pn pc,.string tnm] 58)).heap.size (wr.alloc (.cells #[.slice sA sn sc,.int .i64 bk,.slice xA xn xc,.slice gA gn gc,.int .i64 l,.slice pA pn pc,.string tnm] 58)))
   have s3:IntKind.i64.wrap ((m:Int)+((sn:Int)+1))=(m:Int)+((sn:Int)+1):=wrapI9 _ (by omega) (by omega)
   clear hpv hps hc hu hle hm hob
   gi_wp2_with (refine ⟨trivial,?_⟩;gi_at_call 26;refine (callsIn_wide.2 (HSZ.out _)).mono ?_;rintro e w2 ⟨rfl,hb2⟩;have HB5:=hide (HB4.out.trans (hb2.mono HB4.out.size));have cF:=cell_of_heap ((HK.out.2 _ _ _ _ (by simp [spTs]) HBf.out) |> (HB5.out.block Bf (Array.getElem?_eq_some_iff.1 (HK.out.2 _ _ _ _ (by simp [spTs]) HBf.out)).1).trans) 0)
   have HK5:=hide (HK.out.trans (KeepT.of_below HB5.out hnw))
   have HJ5:=hide (HJ.out _ _ _ hJs HB5.out)
   have hn5:n₀≤w2.heap.size:=Nat.le_trans hnw HB5.out.size
   have hmx:max (m:Int) fr=((max m f:Nat):Int):=by have:=HF.out;omega
   rw [hmx]
   have hmx2:max m f=m∨max m f=f:=by omega
   have hmx3:m≤max m f:=Nat.le_max_left _ _
   have hmx4:f≤max m f:=Nat.le_max_right _ _
   have HP5:=hide (show pre.map spP=List.range' f (max m f - f) from by
    rw [HP.out]
    congr 1
    omega)
   obtain ⟨P0,hP0⟩:∃ P0,max m f=P0:=⟨_,rfl⟩
   rw [hP0] at hmx2 hmx3 hmx4 HP5 ⊢
   obtain ⟨E,hE⟩:∃ E,m+(sn+1)=E:=⟨_,rfl⟩
   have hEi:(m:Int)+((sn:Int)+1)=(E:Int):=by omega
   rw [hEi]
   clear hb2 cF c0 c1 c2 c3 c4 c5 c6 y0 y1 y2 y3 y4 y5 y6 s3 hmx hP0 hJs hEi
   generalize wr=wo at *
   gi_loopw [8] (fun v wr=>∃ (pre:List (SpX BL)) (P:Nat),v=.int .i64 (P:Int)∧f≤P∧m≤P∧(P≤E∨P=f)∧Hid (pre.map spP=List.range' f (P - f))∧J pre wr∧Hid (KeepT n₀ spTs W wr)∧n₀≤wr.heap.size) (fun v _=>E - (intOf v).toNat)
   case atStart=>exact ⟨pre,P0,rfl,hmx4,hmx3,by omega,HP5.out,HJ5.out,HK5,hn5⟩
   case round=>
    clear HP5 HJ5 HK5 hn5 HP
    obtain ⟨pre,P,rfl,hfP,hmP,hor,HP,hJs,HK6,hn6⟩:=hrel
    by_cases hPE:P < E
    ·
     have hPE':(P:Int) < (E:Int):=by omega
     obtain ⟨k,hk⟩:∃ k,P=m+k:=Nat.exists_eq_add_of_le hmP
     have hok:ptLoc BL P=some (j,k):=ptLoc_iff.2 ⟨_,HPV.out,by rw [HPS.out];omega,by rw [HMM.out];exact hk⟩
     have HP2:=hide (mapP_snoc (s:=(⟨(P,j,k),hok⟩:SpX BL)) HP.out hfP rfl)
     have hlen:pre.length < C - f:=by
      have:=mapP_len HP.out
      omega
     have HY1:=HYY.out pre ⟨(P,j,k),hok⟩ wr hJs hlen
     simp only [spenc] at HY1
     have s1:IntKind.i64.wrap ((P:Int) - (m:Int))=(k:Int):=by
      rw [show (P:Int) - (m:Int)=(k:Int) by omega]
      exact wrapI9 _ (by omega) (by omega)
     have HPP:=hide (mapP_pre (C:=C) HP2.out (by omega))
     have hP62:P≤2 ^ 62:=by omega
     have s2:IntKind.i64.wrap ((P:Int)+1)=(P:Int)+1:=wrapI9 _ (by omega) (by omega)
     obtain ⟨fn,tmps,assign,body,hy,hR⟩:=HY1
     clear hlen hor HP hJs hk
     gi_wp2
     refine hR.mono ?_
     rintro e w3 (⟨rfl,hJ3,hk3⟩ | ⟨rfl,hJ3⟩)
     ·
      have HK3:=hide (HK6.out.trans hk3)
      have hn3:=Nat.le_trans hn6 hk3.1.size
      clear hk3 hR hy
      gi_wp2
      exact ⟨⟨_,P+1,by go_num,by omega,by omega,.inl hPE,HP2.out,hJ3,HK3,hn3⟩,by simp [intOf];omega⟩
     ·
      gi_wp2
      rw [Exit.noGoto_normal]
      go_end0
      exact ⟨⟨_,rfl⟩,.inr ⟨_,HPP.out,hJ3⟩⟩
    ·
     have hPE':¬(P:Int) < (E:Int):=by omega
     have HP7:=hide (show pre.map spP=List.range' f (ptFirst BL (j+1) - f) from by
      rw [HP.out,HU.out]
      congr 1
      omega)
     have he:(E:Int)=(ptFirst BL (j+1):Nat):=by rw [HU.out,hE]
     rw [he]
     clear hor HP
     gi_wp2
     exact ⟨⟨pre,j+1,by go_num,rfl,by omega,HP7,hJs,HK6,hn6⟩,by simp [intOf];omega⟩
  ·
   have hlt':¬(j:Int) < (bn:Int):=by omega
   have HP7:=hide (show pre.map spP=List.range' f (C - f) from by
    rw [HP.out,ptFirst_all (show BL.length≤j by rw [HBL.out];omega),HCC.out])
   gi_wp2
   go_end0
   exact ⟨⟨_,rfl⟩,.inl ⟨pre,HP7.out,hJs⟩⟩
theorem onward_stops (n:Nat) (hn:1≤n) (Bb Bf n₀:Nat) (x:BdW) (BL:List BkV) (hBL:x.v.blocks=BL) (fr:Int) (C:Nat) (hC:ptCount BL=C) (hN:C≤2 ^ 62) (hI:IntR fr) (w:World) (hBb:w.heap[Bb]?=some (.cells (cBd x).toArray 32 (0,0))) (hBf:Boxed w Bf 3 (.int .i64 fr)) (hx:OneBd w n₀ x) (hn0:n₀≤w.heap.size) :
  SeqStopsK Fence.wide n Try.prog 36 #[.pointer (some ⟨Bb,0,none⟩),.pointer (some ⟨Bf,0,none⟩)] (fun s:SpX BL=>spenc s) (KeepT n₀ spTs) (fun ys=>ys.map spP=List.range' fr.toNat (C - fr.toNat)) (fun pre=>pre.map spP <+: List.range' fr.toNat (C - fr.toNat)) (C - fr.toNat) w:=fun l J Jx W hW hJ hJx hY h0=>
 onward1_in n hn l Bb Bf n₀ x BL hBL fr C hC hN hI W.heap.size J Jx hJ hJx hY W ((hW.block Bb (Array.getElem?_eq_some_iff.1 hBb).1).trans hBb) ((hW.block Bf hBf.lt).trans hBf) (hx.below (hW.mono hn0)) (Nat.le_trans hn0 hW.size) h0
end Go.Proofs.Ytlbopbjdiehecaa
namespace Go.Proofs.Ytlbopbjdiehecaa
open Go.RowKit Go.Shelf
attribute [local go_sem] Oper.semAt_some
theorem results_spot {P:Program} {fn:Func} {p u:Tmp} {ty ty2:TypeId} (h:fn.results=#[.cell p ty,.cell u ty2]) (tmps:Array Value) (w:World) (g g2:Nat) (t:TypeId) (cs:Array Value) (fr:Nat×Nat) (d:TypeDesc) (v:Value)
  (hp:tmps.getD p undef=.pointer (some ⟨g,0,none⟩)) (hg:w.heap[g]?=some (.cells cs t fr))
  (hu:P.underlying ty=some d) (hd:(match d with | .struct _ | .array _ _=>true | _=>false)=true) (hi:(P.info? ty).map (·.size)=some cs.size)
  (hp2:tmps.getD u undef=.pointer (some ⟨g2,0,none⟩)) (h2:(loadVar ty2 ⟨g2,0,none⟩).run P w=.ok v w) :
  (results fn tmps).run P w=.ok (.tuple #[.agg cs,v]) w:=by
 have hp':tmps[p]?.getD undef=.pointer (some ⟨g,0,none⟩):=by simpa using hp
 have hp2':tmps[u]?.getD undef=.pointer (some ⟨g2,0,none⟩):=by simpa using hp2
 simp [results,h,hp',hp2',asAddr,run_loadVar_row w g t ty cs fr d hg hu hd hi,h2,Sem.run_bind,Result.andThen]
def vSp:Option (Nat×Nat)→Int→Value
 | some x,p=>.tuple #[.agg #[.int .i64 p,.int .i64 (x.1:Int),.int .i64 (x.2:Int)],.bool true]
 | none,_=>.tuple #[.agg #[.int .i64 0,.int .i64 0,.int .i64 0],.bool false]
def LocBy {BL:List BkV} (g h:Nat) (pre:List (SpX BL)) (W:World):Prop:=∃ s,pre=[s]∧W.heap[g]?=some (.cells #[.int .i64 (s.1.1:Int),.int .i64 (s.1.2.1:Int),.int .i64 (s.1.2.2:Int)] 72 (0,0))∧Boxed W h 4 (.bool true)
theorem block_own11 {W W':World} {row:Option Nat} {B:Nat} {cs:Array Value} {t:TypeId} {fr:Nat×Nat} (h:W.heap[B]?=some (.cells cs t fr)) (hg:W.grownBy W' row) (hr:∀ r,row=some r→∃ o:Obj,W.heap[r]?=some o∧o.isCells=false):W'.heap[B]?=some (.cells cs t fr):=
 (hg.block B (Array.getElem?_eq_some_iff.1 h).1 (fun e'=>by
  obtain ⟨o,ho,hc⟩:=hr B e'.symm
  rw [h] at ho
  injection ho with ho
  subst ho
  cases hc)).trans h
theorem LocBy.own {BL:List BkV} {g h:Nat} {pre:List (SpX BL)} {W W':World} {row:Option Nat} (H:LocBy g h pre W) (hg:W.grownBy W' row) (hr:∀ r,row=some r→∃ o:Obj,W.heap[r]?=some o∧o.isCells=false):LocBy g h pre W':=by
 obtain ⟨s,h1,h2,h3⟩:=H
 exact ⟨s,h1,block_own11 h2 hg hr,block_own11 h3 hg hr⟩
theorem PLoc_neg (x:BdW) (pt:Int) (w:World) (hneg:pt < 0) :
  Calls Try.prog 28 #[aggBd x,.int .i64 pt] w fun e w'=>e=.returned (vSp none pt)∧Below w.heap.size w w':=by
 obtain ⟨nm,⟨rA,rn,rc,rL⟩,⟨oA,on,oc,oL⟩,⟨tA,tm,tc,tL⟩,⟨lA,ln,lc,lL⟩,ar,⟨bA,bn,bc,bL⟩⟩:=x
 go_enter Try.func28,Try.ntmps28
 go_wp2
 have hB:=(below1 w (.cells #[.string nm,.slice rA rn rc,.slice oA on oc,.slice tA tm tc,.slice lA ln lc,.int .i64 ar,.slice bA bn bc] 32)).trans ((below1 (w.alloc (.cells #[.string nm,.slice rA rn rc,.slice oA on oc,.slice tA tm tc,.slice lA ln lc,.int .i64 ar,.slice bA bn bc] 32)) (.cells #[.int .i64 0,.int .i64 0,.int .i64 0] 72)).mono (below1 w (.cells #[.string nm,.slice rA rn rc,.slice oA on oc,.slice tA tm tc,.slice lA ln lc,.int .i64 ar,.slice bA bn bc] 32)).size)
 have hB2:=hB.trans ((below1 _ (.cells #[.bool false] 4)).mono hB.size)
 refine bodyPost_ret (v:=vSp none pt) ?_ rfl ⟨rfl,hB2⟩
 refine results_spot rfl _ _ (w.heap.size+1) (w.heap.size+1+1) 72 #[.int .i64 0,.int .i64 0,.int .i64 0] (0,0) _ (.bool false) rfl ?_ Try.underlying72 rfl (by kernel_rfl) rfl ?_
 ·
  have h:=heap_alloc_new (w.alloc (.cells #[.string nm,.slice rA rn rc,.slice oA on oc,.slice tA tm tc,.slice lA ln lc,.int .i64 ar,.slice bA bn bc] 32)) (.cells #[.int .i64 0,.int .i64 0,.int .i64 0] 72)
  have h1:(w.alloc (.cells #[.string nm,.slice rA rn rc,.slice oA on oc,.slice tA tm tc,.slice lA ln lc,.int .i64 ar,.slice bA bn bc] 32)).heap.size=w.heap.size+1:=by simp
  rw [h1] at h
  have hs:((w.alloc (.cells #[.string nm,.slice rA rn rc,.slice oA on oc,.slice tA tm tc,.slice lA ln lc,.int .i64 ar,.slice bA bn bc] 32)).alloc (.cells #[.int .i64 0,.int .i64 0,.int .i64 0] 72)).heap.size=w.heap.size+1+1:=by simp
  exact ((below1 ((w.alloc (.cells #[.string nm,.slice rA rn rc,.slice oA on oc,.slice tA tm tc,.slice lA ln lc,.int .i64 ar,.slice bA bn bc] 32)).alloc (.cells #[.int .i64 0,.int .i64 0,.int .i64 0] 72)) (.cells #[.bool false] 4)).block (w.heap.size+1) (by rw [hs];omega)).trans h
 ·
  go_simp
theorem PLoc_yes (x:BdW) (pt:Int) (w:World) (hx:OneBd w w.heap.size x) (hN:ptCount x.v.blocks≤2 ^ 62) (hI:IntR pt) (hpos:0≤pt) :
    Calls Try.prog 28 #[aggBd x,.int .i64 pt] w fun e w'=>e=.returned (vSp (ptLocI x.v.blocks pt) pt)∧Below w.heap.size w w':=by
  refine (callsIn_wide (n:=9)).1 ?_
  obtain ⟨BL,hBL⟩:∃ l,x.v.blocks=l:=⟨_,rfl⟩
  obtain ⟨C,hC⟩:∃ n,ptCount BL=n:=⟨_,rfl⟩
  rw [hBL,hC] at hN
  rw [hBL]
  have HX:=hide hx
  have HBV:=hide hBL
  have HCC:=hide hC
  have HI:=hide hI
  have HSTOP:=hide fun (n:Nat) (hn:1≤n) (Bb Bf:Nat) (w':World) (hBb:w'.heap[Bb]?=some (.cells (cBd x).toArray 32 (0,0))) (hBf:Boxed w' Bf 3 (.int .i64 pt)) (hx:OneBd w' w.heap.size x) (hn0:w.heap.size≤w'.heap.size)=>onward_stops n hn Bb Bf w.heap.size x BL hBL pt C hC hN hI w' hBb hBf hx hn0
  clear hx hBL hC hI
  obtain ⟨nm,⟨rA,rn,rc,rL⟩,⟨oA,on,oc,oL⟩,⟨tA,tm,tc,tL⟩,⟨lA,ln,lc,lL⟩,ar,⟨bA,bn,bc,bL⟩⟩:=x
  have HON:=hide fun (n:Nat) (w':World)=>(show CallsIn Fence.wide n Try.prog 33 #[.agg #[.string nm,.slice rA rn rc,.slice oA on oc,.slice tA tm tc,.slice lA ln lc,.int .i64 ar,.slice bA bn bc],.int .i64 pt] w' fun e w2=>e=.returned (.func (.func 36) #[] #[.pointer (some ⟨w'.heap.size,0,none⟩),.pointer (some ⟨w'.heap.size+1,0,none⟩)]) ∧
      w2=(w'.alloc (.cells #[.string nm,.slice rA rn rc,.slice oA on oc,.slice tA tm tc,.slice lA ln lc,.int .i64 ar,.slice bA bn bc] 32)).alloc (.cells #[.int .i64 pt] 3) from onward_in n ⟨nm,⟨rA,rn,rc,rL⟩,⟨oA,on,oc,oL⟩,⟨tA,tm,tc,tL⟩,⟨lA,ln,lc,lL⟩,ar,⟨bA,bn,bc,bL⟩⟩ pt w')
  refine callsIn_of_wp_marks Try.func28 rfl trivial ?_ rfl
  simp only [Try.ntmps28,List.size_toArray,List.length_cons,List.length_nil,Nat.reduceAdd,Nat.reduceSub,Array.replicate_succ,Array.replicate_zero,List.push_toArray,List.append_toArray,List.nil_append,List.cons_append]
  gi_wp2_with (refine ⟨trivial,?_⟩;gi_at_call 33;refine (HON.out _ _).mono ?_;rintro e w2 ⟨rfl,rfl⟩)
  have bS:=((((Bx.new (w.alloc (.cells #[.string nm,.slice rA rn rc,.slice oA on oc,.slice tA tm tc,.slice lA ln lc,.int .i64 ar,.slice bA bn bc] 32)) [.int .i64 0,.int .i64 0,.int .i64 0] 72).below (below1 _ (.cells #[.bool false] 4))).below (below1 _ (.cells #[.string nm,.slice rA rn rc,.slice oA on oc,.slice tA tm tc,.slice lA ln lc,.int .i64 ar,.slice bA bn bc] 32))).below (below1 _ (.cells #[.int .i64 pt] 3)))
  have bF:=(((Bx.new ((w.alloc (.cells #[.string nm,.slice rA rn rc,.slice oA on oc,.slice tA tm tc,.slice lA ln lc,.int .i64 ar,.slice bA bn bc] 32)).alloc (.cells #[.int .i64 0,.int .i64 0,.int .i64 0] 72)) [.bool false] 4).below (below1 _ (.cells #[.string nm,.slice rA rn rc,.slice oA on oc,.slice tA tm tc,.slice lA ln lc,.int .i64 ar,.slice bA bn bc] 32))).below (below1 _ (.cells #[.int .i64 pt] 3)))
  have bC:=(Bx.new (((w.alloc (.cells #[.string nm,.slice rA rn rc,.slice oA on oc,.slice tA tm tc,.slice lA ln lc,.int .i64 ar,.slice bA bn bc] 32)).alloc (.cells #[.int .i64 0,.int .i64 0,.int .i64 0] 72)).alloc (.cells #[.bool false] 4)) [.string nm,.slice rA rn rc,.slice oA on oc,.slice tA tm tc,.slice lA ln lc,.int .i64 ar,.slice bA bn bc] 32).below (below1 _ (.cells #[.int .i64 pt] 3))
  have bP:=Bx.new ((((w.alloc (.cells #[.string nm,.slice rA rn rc,.slice oA on oc,.slice tA tm tc,.slice lA ln lc,.int .i64 ar,.slice bA bn bc] 32)).alloc (.cells #[.int .i64 0,.int .i64 0,.int .i64 0] 72)).alloc (.cells #[.bool false] 4)).alloc (.cells #[.string nm,.slice rA rn rc,.slice oA on oc,.slice tA tm tc,.slice lA ln lc,.int .i64 ar,.slice bA bn bc] 32)) [.int .i64 pt] 3
  have hB5:Below w.heap.size w (((((w.alloc (.cells #[.string nm,.slice rA rn rc,.slice oA on oc,.slice tA tm tc,.slice lA ln lc,.int .i64 ar,.slice bA bn bc] 32)).alloc (.cells #[.int .i64 0,.int .i64 0,.int .i64 0] 72)).alloc (.cells #[.bool false] 4)).alloc (.cells #[.string nm,.slice rA rn rc,.slice oA on oc,.slice tA tm tc,.slice lA ln lc,.int .i64 ar,.slice bA bn bc] 32)).alloc (.cells #[.int .i64 pt] 3)):=(((((Below.refl _ w).alloc (Nat.le_refl _) _).alloc (by simp) _).alloc (by simp;omega) _).alloc (by simp;omega) _).alloc (by simp;omega) _
  have hsz:(((((w.alloc (.cells #[.string nm,.slice rA rn rc,.slice oA on oc,.slice tA tm tc,.slice lA ln lc,.int .i64 ar,.slice bA bn bc] 32)).alloc (.cells #[.int .i64 0,.int .i64 0,.int .i64 0] 72)).alloc (.cells #[.bool false] 4)).alloc (.cells #[.string nm,.slice rA rn rc,.slice oA on oc,.slice tA tm tc,.slice lA ln lc,.int .i64 ar,.slice bA bn bc] 32)).alloc (.cells #[.int .i64 pt] 3)).heap.size=w.heap.size+5:=by simp
  simp only [World.size_alloc] at bS bF bC bP
  generalize (((((w.alloc (.cells #[.string nm,.slice rA rn rc,.slice oA on oc,.slice tA tm tc,.slice lA ln lc,.int .i64 ar,.slice bA bn bc] 32)).alloc (.cells #[.int .i64 0,.int .i64 0,.int .i64 0] 72)).alloc (.cells #[.bool false] 4)).alloc (.cells #[.string nm,.slice rA rn rc,.slice oA on oc,.slice tA tm tc,.slice lA ln lc,.int .i64 ar,.slice bA bn bc] 32)).alloc (.cells #[.int .i64 pt] 3))=W0 at *
  have HXW:=hide (HX.out.below hB5)
  have HB5:=hide hB5
  have hpt:((pt.toNat:Nat):Int)=pt:=by omega
  refine wpIn_rangeFunc_ownH rfl (by omega) (gf:=36) (lb:=#[.pointer (some ⟨w.heap.size+1+1+1,0,none⟩),.pointer (some ⟨w.heap.size+1+1+1+1,0,none⟩)]) rfl trivial (enters_of Try.func36 (by kernel_rfl) rfl)
    (HSTOP.out _ (by omega) (w.heap.size+1+1+1) (w.heap.size+1+1+1+1) W0 bC bP HXW.out (by omega)) keepT_t (keepT_b (by omega)) (Below.refl _ _) (fun _=>rfl)
    (fun pre W=>(pre=[]∧w.heap.size+5≤W.heap.size∧W.heap[w.heap.size+1]?=some (.cells #[.int .i64 0,.int .i64 0,.int .i64 0] 72 (0,0))∧Boxed W (w.heap.size+1+1) 4 (.bool false))∧Below w.heap.size w W)
    (fun cd pre W=>(cd=.ret∧LocBy (w.heap.size+1) (w.heap.size+1+1) pre W)∧Below w.heap.size w W)
    (OwnFrom.and (Own.from (fun s X Y row hs hg hr=>⟨hs.1,Nat.le_trans hs.2.1 hg.size,block_own11 hs.2.2.1 hg hr,block_own11 hs.2.2.2 hg hr⟩) _) (ownFrom_below (Nat.le_refl _) (by omega)))
    (fun cd=>OwnFrom.and (Own.from (fun s X Y row hs hg hr=>⟨hs.1,hs.2.own hg hr⟩) _) (ownFrom_below (Nat.le_refl _) (by omega)))
    ⟨⟨rfl,by omega,bS,bF⟩,HB5.out⟩
    (fun s a' W=>∃ Bq,w.heap.size+5≤Bq∧W.heap[Bq]?=some (.cells #[.int .i64 (s.1.1:Int),.int .i64 (s.1.2.1:Int),.int .i64 (s.1.2.2:Int)] 72 (0,0))∧a'={ tmps:=#[aggBd ⟨nm,⟨rA,rn,rc,rL⟩,⟨oA,on,oc,oL⟩,⟨tA,tm,tc,tL⟩,⟨lA,ln,lc,lL⟩,ar,⟨bA,bn,bc,bL⟩⟩,.int .i64 pt,.pointer (some ⟨w.heap.size,0,none⟩),undef,.pointer (some ⟨w.heap.size+1,0,none⟩),.pointer (some ⟨w.heap.size+1+1,0,none⟩),.pointer (some ⟨Bq,0,none⟩),.int .i64 pt,.bool (decide (pt < 0)),undef,.agg #[.string nm,.slice rA rn rc,.slice oA on oc,.slice tA tm tc,.slice lA ln lc,.int .i64 ar,.slice bA bn bc],.int .i64 pt,.func (.func 36) #[] #[.pointer (some ⟨w.heap.size+1+1+1,0,none⟩),.pointer (some ⟨w.heap.size+1+1+1+1,0,none⟩)],aggSp s.1.1 s.1.2.1 s.1.2.2,undef,undef],defers:=[] })
    (fun s a' _ X Y row hs hg hr=>by obtain ⟨Bq,h1,h2,h3⟩:=hs;exact ⟨Bq,h1,block_own11 h2 hg (fun r e=>(hr r e).2),h3⟩)
    ?assign ?body ?done ?stop
  case assign=>
    rintro l pre s W K ⟨⟨h1,hs,b1,b2⟩,hB⟩ hK
    obtain ⟨⟨sp,si,sk⟩,hok⟩:=s
    have hb:=below1 W (.cells #[.int .i64 (sp:Int),.int .i64 (si:Int),.int .i64 (sk:Int)] 72)
    have hKp:KeepT w.heap.size spTs W _:=KeepT.of_below hb (by omega)
    have HK:=hide hK
    clear hK
    dsimp only [spenc]
    gi_wp2
    exact HK.out _ _ ((KeepsOthers.alloc _ _).from _) hKp ⟨⟨h1,by simp;omega,(hb.block _ (by omega)).trans b1,b2.alloc _⟩,hB.trans (hb.mono hB.size)⟩ ⟨W.heap.size,hs,heap_alloc_new W _,rfl⟩
  case body=>
    rintro l pre s a' W hl hrr ⟨⟨h1,hs,b1,b2⟩,hB⟩ ⟨Bq,hBq,bX,rfl⟩ hlt
    obtain ⟨⟨sp,si,sk⟩,hok⟩:=s
    subst h1
    have d0:=cell_of_heap bX 0
    have d1:=cell_of_heap bX 1
    have d2:=cell_of_heap bX 2
    have s0:Bx W (w.heap.size+1) [.int .i64 0,.int .i64 0,.int .i64 0] 72:=b1
    have s1:=s0.set 0 (.int .i64 (sp:Int))
    have s2:=s1.set 1 (.int .i64 (si:Int))
    have s3:=s2.set 2 (.int .i64 (sk:Int))
    have t3:=(((show Bx W (w.heap.size+1+1) [.bool false] 4 from b2).other (a:=⟨w.heap.size+1,0,none⟩) (by simp) (.int .i64 (sp:Int))).other (a:=⟨w.heap.size+1,1,none⟩) (by simp) (.int .i64 (si:Int))).other (a:=⟨w.heap.size+1,2,none⟩) (by simp) (.int .i64 (sk:Int))
    have k0:=s0.cell (j:=0) rfl
    have k1:=s1.cell (j:=1) rfl
    have k2:=s2.cell (j:=2) rfl
    have f0:=s0.frozen 0
    have f1:=s1.frozen 1
    have f2:=s2.frozen 2
    have k3:=t3.cell (j:=0) rfl
    have f3:=t3.frozen 0
    have HS4:=hide (s3.other (a:=⟨w.heap.size+1+1,0,none⟩) (by simp) (.bool true))
    have HT4:=hide (t3.set 0 (.bool true))
    have HB:=hide ((((hB.setCell (p:=⟨w.heap.size+1,0,none⟩) (by simp) (.int .i64 (sp:Int))).setCell (p:=⟨w.heap.size+1,1,none⟩) (by simp) (.int .i64 (si:Int))).setCell (p:=⟨w.heap.size+1,2,none⟩) (by simp) (.int .i64 (sk:Int))).setCell (p:=⟨w.heap.size+1+1,0,none⟩) (by simp;omega) (.bool true))
    clear s0 s1 s2 s3 t3 b1 b2 hB
    gi_wp2
    exact ⟨(((KeepsOthers.setCell W ⟨w.heap.size+1,0,none⟩ (.int .i64 (sp:Int))).trans (KeepsOthers.setCell _ ⟨w.heap.size+1,1,none⟩ (.int .i64 (si:Int)))).trans ((KeepsOthers.setCell _ ⟨w.heap.size+1,2,none⟩ (.int .i64 (sk:Int))).trans (KeepsOthers.setCell _ ⟨w.heap.size+1+1,0,none⟩ (.bool true)))).from _,⟨rfl,⟨⟨(sp,si,sk),hok⟩,rfl,HS4.out,HT4.out⟩⟩,HB.out⟩
  case done=>
    rintro D ys W hD hys ⟨⟨rfl,hs,b1,b2⟩,hB⟩ hK
    have hz:C - pt.toNat=0:=by
      have:=congrArg List.length hys
      rw [List.length_range'] at this
      exact this.symm
    have HV:=hide (show ptLocI BL pt=none from by
      unfold ptLocI
      rw [if_neg (by omega)]
      exact ptLoc_none_iff.2 (by rw [HCC.out];omega))
    have s0:Bx W (w.heap.size+1) [.int .i64 0,.int .i64 0,.int .i64 0] 72:=b1
    have s1:=s0.set 0 (.int .i64 0)
    have s2:=s1.set 1 (.int .i64 0)
    have s3:=s2.set 2 (.int .i64 0)
    have t3:=(((show Bx W (w.heap.size+1+1) [.bool false] 4 from b2).other (a:=⟨w.heap.size+1,0,none⟩) (by simp) (.int .i64 0)).other (a:=⟨w.heap.size+1,1,none⟩) (by simp) (.int .i64 0)).other (a:=⟨w.heap.size+1,2,none⟩) (by simp) (.int .i64 0)
    have k0:=s0.cell (j:=0) rfl
    have k1:=s1.cell (j:=1) rfl
    have k2:=s2.cell (j:=2) rfl
    have f0:=s0.frozen 0
    have f1:=s1.frozen 1
    have f2:=s2.frozen 2
    have k3:=t3.cell (j:=0) rfl
    have f3:=t3.frozen 0
    have HS4:=hide (s3.other (a:=⟨w.heap.size+1+1,0,none⟩) (by simp) (.bool false))
    have HT4:=hide (t3.set 0 (.bool false))
    have HB:=hide ((((hB.setCell (p:=⟨w.heap.size+1,0,none⟩) (by simp) (.int .i64 0)).setCell (p:=⟨w.heap.size+1,1,none⟩) (by simp) (.int .i64 0)).setCell (p:=⟨w.heap.size+1,2,none⟩) (by simp) (.int .i64 0)).setCell (p:=⟨w.heap.size+1+1,0,none⟩) (by simp;omega) (.bool false))
    have hK':=((((KeepsOthers.setCell W ⟨w.heap.size+1,0,none⟩ (.int .i64 0)).trans (KeepsOthers.setCell _ ⟨w.heap.size+1,1,none⟩ (.int .i64 0))).trans ((KeepsOthers.setCell _ ⟨w.heap.size+1,2,none⟩ (.int .i64 0)).trans (KeepsOthers.setCell _ ⟨w.heap.size+1+1,0,none⟩ (.bool false))))).same D _ hK rfl
    have HK':=hide hK'
    have hDW:w.heap.size≤D:=by omega
    clear s0 s1 s2 s3 t3 b1 b2 hB hK'
    gi_wp2
    generalize (((W.setCell ⟨w.heap.size+1,0,none⟩ (.int .i64 0)).setCell ⟨w.heap.size+1,1,none⟩ (.int .i64 0)).setCell ⟨w.heap.size+1,2,none⟩ (.int .i64 0)).setCell ⟨w.heap.size+1+1,0,none⟩ (.bool false)=W5 at *
    refine ⟨by simp,.inl ⟨_,_,rfl,run_takeDeferred HK'.out,?_⟩⟩
    have hg5:=block_own11 HS4.out (grownBy_putObj' W5 D (.deferred none)) (fun r e=>by cases e;exact ⟨_,HK'.out,rfl⟩)
    have hc5:=cell_kept (HT4.out.cell (j:=0) rfl) (grownBy_putObj' _ D (.deferred none)) (fun r e=>by cases e;exact ⟨_,HK'.out,rfl⟩)
    refine ⟨_,results_spot rfl _ _ (w.heap.size+1) (w.heap.size+1+1) 72 _ (0,0) _ (.bool false) rfl hg5 Try.underlying72 rfl (by kernel_rfl) rfl ?_,(by rw [HV.out];rfl),HB.out.trans (belowK_b (w:=w) (Nat.le_refl _) W5 D _ _ hDW HK'.out rfl rfl)⟩
    simp [go_sem,hc5]
  case stop=>
    rintro D cd pre W hD hpre ⟨⟨rfl,⟨⟨⟨sp,si,sk⟩,hok⟩,rfl,b1,b2⟩⟩,hB⟩ hK
    have hhead:sp=pt.toNat∧pt.toNat < C:=by
      obtain ⟨t,ht⟩:=hpre
      have h0:=congrArg (fun l=>l[0]?) ht
      simp only [List.map_cons,List.map_nil,List.cons_append,List.nil_append,List.getElem?_cons_zero] at h0
      have hl:=congrArg List.length ht
      rw [List.length_range'] at hl
      simp only [List.map_cons,List.map_nil,List.cons_append,List.nil_append,List.length_cons] at hl
      rw [List.getElem?_range' (by omega)] at h0
      injection h0 with h0
      have h0:sp=pt.toNat:=by simpa [spP] using h0
      exact ⟨h0,by omega⟩
    have HV:=hide (show ptLocI BL pt=some (si,sk) from by
      unfold ptLocI
      rw [if_neg (by omega),← hhead.1]
      exact hok)
    have hDW:w.heap.size≤D:=by omega
    have hsp:(sp:Int)=pt:=by rw [hhead.1];exact hpt
    have hg5:=block_own11 b1 (grownBy_putObj' W D (.deferred none)) (fun r e=>by cases e;exact ⟨_,hK,rfl⟩)
    have hc5:=cell_kept b2.cell (grownBy_putObj' _ D (.deferred none)) (fun r e=>by cases e;exact ⟨_,hK,rfl⟩)
    gi_wp2
    refine ⟨by simp,.inl ⟨_,_,rfl,run_takeDeferred hK,?_⟩⟩
    refine ⟨_,results_spot rfl _ _ (w.heap.size+1) (w.heap.size+1+1) 72 _ (0,0) _ (.bool true) rfl hg5 Try.underlying72 rfl (by kernel_rfl) rfl ?_,?_,hB.trans (belowK_b (w:=w) (Nat.le_refl _) W D _ _ hDW hK rfl rfl)⟩
    · simp [go_sem,hc5]
    · rw [HV.out]
      dsimp only [vSp]
      rw [hsp]
theorem PLoc_any (x:BdW) (pt:Int) (w:World) (hx:OneBd w w.heap.size x) (hN:ptCount x.v.blocks≤2 ^ 62) (hI:IntR pt) :
  Calls Try.prog 28 #[aggBd x,.int .i64 pt] w fun e w'=>e=.returned (vSp (ptLocI x.v.blocks pt) pt)∧Below w.heap.size w w':=by
 by_cases h:pt < 0
 ·
  have e:ptLocI x.v.blocks pt=none:=by unfold ptLocI;rw [if_pos h]
  rw [e]
  exact PLoc_neg x pt w h
 ·
  exact PLoc_yes x pt w hx hN hI (by omega)
end Go.Proofs.Ytlbopbjdiehecaa
namespace Go.Proofs.Ytlbopbjdiehecaa
open Go.RowKit
def KT (e:TypeId) (w w':World):Prop:=∀ (k:Nat) (cs:Array Value) (e':TypeId) (fz:Nat×Nat),w.heap[k]?=some (.cells cs e' fz)→e'≠e→w'.heap[k]?=w.heap[k]?
section
variable {e e':TypeId} {w w':World} {lo k n:Nat} {v:Value} {xs:List Value}
theorem KT.of_grown (hg:w.grownBy w' v.ownBlock) (ho:w.ownsRow lo e k v n xs):KT e w w':=fun j cs e1 fz hj he=>by
 refine hg.block j (Array.getElem?_eq_some_iff.1 hj).1 fun h=>?_
 rcases ho.2 with ⟨rfl,_⟩ | ⟨g,cap,cur,rfl,_,h2,_⟩
 ·
  cases h
 ·
  injection h with h
  subst h
  rw [h2] at hj
  injection hj with hj
  injection hj with _ hj _
  exact he hj.symm
theorem KT.of_set {g:Nat} {cs:List Value} {T:TypeId} (h:Bx w g cs T) (j:Nat) (u:Value):KT T w (w.setCell ⟨g,j,none⟩ u):=fun i cs' e1 fz hi he=>by
 refine Below.heap_setCell w _ u i fun h'=>?_
 subst h'
 unfold Bx at h
 rw [h] at hi
 injection hi with hi
 injection hi with _ hi _
 exact he hi.symm
theorem own_kt (h:w.ownsRow lo e' k v n xs) (hk:KT e w w') (he:e'≠e):w'.ownsRow lo e' k v n xs:=by
 obtain ⟨h1,h2⟩:=h
 refine ⟨h1,?_⟩
 rcases h2 with h2 | ⟨g,cap,cur,hv,hb,hg,r⟩
 ·
  exact .inl h2
 ·
  exact .inr ⟨g,cap,cur,hv,hb,(hk _ _ _ _ hg he).trans hg,r⟩
theorem Bx.kt {g:Nat} {cs:List Value} {T:TypeId} (h:Bx w g cs T) (hk:KT e w w') (he:T≠e):Bx w' g cs T:=(hk _ _ _ _ h he).trans h
structure Inner9 (e:TypeId):Prop where
 p:132≠e
 o:130≠e
 s:67≠e
 i:3≠e
variable (hk:KT e w w') (hi:Inner9 e)
include hk hi
theorem OwPl.kt {x:PlW} (h:OwPl w lo x):OwPl w' lo x:=own_kt h hk hi.p
theorem OwOps.kt {s:SlW OpW} (h:OwOps w lo s):OwOps w' lo s:=⟨own_kt h.row hk hi.o,fun x hx=>own_kt (h.all x hx) hk hi.p⟩
theorem OwRv.kt {x:RvW} (h:OwRv w lo x):OwRv w' lo x:=⟨own_kt h.pl hk hi.p,OwOps.kt hk hi h.args⟩
theorem OwSt.kt {x:StW} (h:OwSt w lo x):OwSt w' lo x:=⟨own_kt h.pl hk hi.p,OwRv.kt hk hi h.rv⟩
theorem OwTm.kt {x:TmW} (h:OwTm w lo x):OwTm w' lo x:=⟨own_kt h.targets hk hi.i,OwOps.kt hk hi h.args,own_kt h.pl hk hi.p⟩
theorem OwBk.kt {x:BkW} (h:OwBk w lo x):OwBk w' lo x:=⟨⟨own_kt h.stmts.row hk hi.s,fun x hx=>OwSt.kt hk hi (h.stmts.all x hx)⟩,OwTm.kt hk hi h.term⟩
theorem OwTy.kt {x:TyW} (h:OwTy w lo x):OwTy w' lo x:=own_kt h hk hi.i
end
def Like (u v:Value):Prop:=u=v∨(∃ a b,u=.int .i64 a∧v=.int .i64 b∧IntR b)∨(∃ s t,u=.string s∧v=.string t)
theorem Like.int {a:Int} {v:Value} (h:Like (.int .i64 a) v) (ha:IntR a):∃ b,v=.int .i64 b∧IntR b:=by
 rcases h with rfl | ⟨_,b,_,rfl,hb⟩ | ⟨s,t,h,_⟩
 ·
  exact ⟨a,rfl,ha⟩
 ·
  exact ⟨b,rfl,hb⟩
 ·
  cases h
theorem Like.bool {a:Bool} {v:Value} (h:Like (.bool a) v):v=.bool a:=by
 rcases h with rfl | ⟨_,b,h,_⟩ | ⟨s,t,h,_⟩
 ·
  rfl
 ·
  cases h
 ·
  cases h
theorem Like.slice {A:Option Addr} {n c:Nat} {v:Value} (h:Like (.slice A n c) v):v=.slice A n c:=by
 rcases h with rfl | ⟨_,b,h,_⟩ | ⟨s,t,h,_⟩
 ·
  rfl
 ·
  cases h
 ·
  cases h
structure Sim (lo hi:Nat) (w w':World):Prop where
 os:w'.os=w.os
 tape:w'.tape=w.tape
 output:w'.output=w.output
 size:w.heap.size≤w'.heap.size
 out:∀ k,k < w.heap.size→(k < lo∨hi≤k)→w'.heap[k]?=w.heap[k]?
 mid:∀ (k:Nat) (cur:Array Value) (e:TypeId) (fz:Nat×Nat),lo≤k→k < hi→w.heap[k]?=some (.cells cur e fz)→∃ cur',w'.heap[k]?=some (.cells cur' e fz)∧cur'.size=cur.size∧∀ (p:Nat) (u:Value),cur[p]?=some u→∃ v,cur'[p]?=some v∧Like u v
section
variable {lo hi:Nat} {w w' w'':World}
theorem Sim.refl (lo hi:Nat) (w:World):Sim lo hi w w:=⟨rfl,rfl,rfl,Nat.le_refl _,fun _ _ _=>rfl,fun k cur e fz _ _ h=>⟨cur,h,rfl,fun p u hu=>⟨u,hu,.inl rfl⟩⟩⟩
theorem Sim.below (h:Sim lo hi w w') (hl:lo≤w.heap.size):Below lo w w':=⟨h.os,h.tape,h.output,h.size,fun k hk=>h.out k (Nat.lt_of_lt_of_le hk hl) (.inl hk)⟩
theorem Sim.keep (h:Sim lo hi w w'):Keep hi w w':=⟨h.size,fun k hk hl=>h.out k hl (.inr hk)⟩
theorem Sim.more (h:Sim lo hi w w') (hb:Below w'.heap.size w' w'') (hh:hi≤w.heap.size):Sim lo hi w w'':=
 ⟨hb.os.trans h.os,hb.tape.trans h.tape,hb.output.trans h.output,Nat.le_trans h.size hb.size,fun k hk ho=>(hb.block k (Nat.lt_of_lt_of_le hk h.size)).trans (h.out k hk ho),fun k cur e fz h1 h2 h3=>by
  obtain ⟨cur',k1,k2,k3⟩:=h.mid k cur e fz h1 h2 h3
  exact ⟨cur',(hb.block k (by have:=h.size;omega)).trans k1,k2,k3⟩⟩
theorem Sim.drew (h:Sim lo hi w w'):Sim lo hi w w'.drew:=⟨h.os,h.tape,h.output,h.size,h.out,h.mid⟩
theorem Sim.box (h:Sim lo hi w w') {g:Nat} {cs:List Value} {T:TypeId} (hx:Bx w g cs T) (hg:hi≤g):Bx w' g cs T:=(h.out g hx.lt (.inr hg)).trans hx
end
def edI (l:List BkV) (j:Nat):List Pr:=(List.range j).flatMap fun (k:Nat)=>(nextI l (k:Int)).map fun q=>((k:Int),q)
def edgesI (l:List BkV):List Pr:=edI l (ptCount l)
def PrsOut9 (w:World) (L:List Pr) (e:Ending) (w':World):Prop:=∃ A c,e=.returned (.slice A L.length c)∧w'.ownsRow w.heap.size 25 2 (.slice A L.length c) L.length (L.flatMap pV)∧Below w.heap.size w w'
theorem asc_eq11:∀ {a b:List Int},a.Pairwise (· < ·)→b.Pairwise (· < ·)→(∀ z,z∈a↔z∈b)→a=b
 | [],[],_,_,_=>rfl
 | [],y :: b,_,_,h=>by have:=(h y).2 (by simp);cases this
 | x :: a,[],_,_,h=>by have:=(h x).1 (by simp);cases this
 | x :: a,y :: b,ha,hb,h=>by
  rw [List.pairwise_cons] at ha hb
  have e:x=y:=by
   rcases List.mem_cons.1 ((h x).1 (by simp)) with e | hx
   ·
    exact e
   ·
    rcases List.mem_cons.1 ((h y).2 (by simp)) with e | hy
    ·
     exact e.symm
    ·
     have h1:=hb.1 x hx
     have h2:=ha.1 y hy
     omega
  subst e
  congr 1
  refine asc_eq11 ha.2 hb.2 fun z=>⟨fun hz=>?_,fun hz=>?_⟩
  ·
   rcases List.mem_cons.1 ((h z).1 (List.mem_cons_of_mem _ hz)) with e | hz'
   ·
    have:=ha.1 z hz
    omega
   ·
    exact hz'
  ·
   rcases List.mem_cons.1 ((h z).2 (List.mem_cons_of_mem _ hz)) with e | hz'
   ·
    have:=hb.1 z hz
    omega
   ·
    exact hz'
theorem nextI_asc (l:List BkV) (p:Int):(nextI l p).Pairwise (· < ·):=by
 unfold nextI nxI
 refine List.Pairwise.sublist List.filter_sublist ?_
 rw [List.pairwise_map]
 exact List.Pairwise.imp (fun h=>by omega) List.pairwise_lt_range
theorem nextI_mem {l:List BkV} {p z:Int}:z∈nextI l p↔(0≤z∧z < (ptCount l:Int))∧ptFolI l p z=true:=by
 unfold nextI nxI
 rw [List.mem_filter,List.mem_map]
 refine ⟨fun ⟨⟨k,hk,e⟩,h⟩=>⟨?_,h⟩,fun ⟨h1,h⟩=>⟨⟨z.toNat,List.mem_range.2 (by omega),by omega⟩,h⟩⟩
 have:=List.mem_range.1 hk
 omega
theorem ptFirst_lt {l:List BkV} {i j:Nat} (h:i < j) (hj:j≤l.length):ptFirst l i < ptFirst l j:=by
 have h1:=ptFirst_up (show l[i]?=some (l[i]'(by omega)) from List.getElem?_eq_getElem _)
 have h2:=ptFirst_mono l (show i+1≤j from h)
 unfold ptN at h1
 omega
theorem ptFirst_low {l:List BkV} {i:Nat} (h:i < l.length):ptFirst l i < ptCount l:=by
 rw [←ptFirst_all (Nat.le_refl l.length)]
 exact ptFirst_lt h (Nat.le_refl _)
theorem next_none {l:List BkV} {p:Int} (h:ptLocI l p=none):nextI l p=[]:=by
 refine List.eq_nil_iff_forall_not_mem.2 fun z hz=>?_
 have:=(nextI_mem.1 hz).2
 rw [ptFolI_none h] at this
 cases this
theorem next_stmt {l:List BkV} {p:Int} {i k:Nat} {b:BkV} (h:ptLocI l p=some (i,k)) (hb:l[i]?=some b) (hk:k < b.stmts.length):nextI l p=[p+1]:=by
 refine asc_eq11 (nextI_asc _ _) (List.pairwise_singleton _ _) fun z=>?_
 rw [nextI_mem,ptFolI_at h hb,if_pos hk,decide_eq_true_iff,List.mem_singleton]
 refine ⟨fun h=>h.2,fun e=>⟨?_,e⟩⟩
 obtain ⟨hp0,b',hb',_,hpk⟩:=ptLocI_some h
 have h1:=pt_lt hb (show k+1≤b.stmts.length from hk)
 omega
theorem jmI_asc {l:List BkV} {L:List Int}:(jmI l l.length L).Pairwise (· < ·):=by
 unfold jmI
 rw [List.pairwise_map]
 refine List.Pairwise.imp_of_mem ?_ (show (tgI l.length L).Pairwise (· < ·) from idedup_asc _)
 intro a b ha hb hab
 have h1:=tgI_mem.1 ha
 have h2:=tgI_mem.1 hb
 have:=ptFirst_lt (l:=l) (show a.toNat < b.toNat by omega) (by omega)
 omega
theorem next_term {l:List BkV} {p:Int} {i k:Nat} {b:BkV} (h:ptLocI l p=some (i,k)) (hb:l[i]?=some b) (hk:¬k < b.stmts.length):nextI l p=jmI l l.length b.term.targets:=by
 refine asc_eq11 (nextI_asc _ _) jmI_asc fun z=>?_
 rw [nextI_mem,ptFolI_at h hb,if_neg hk,List.any_eq_true]
 unfold jmI
 rw [List.mem_map]
 constructor
 ·
  rintro ⟨_,t,ht,hz⟩
  obtain ⟨h0,h1,h2⟩:=of_decide_eq_true hz
  exact ⟨t,tgI_mem.2 ⟨ht,h0,h1⟩,h2⟩
 ·
  rintro ⟨t,ht,rfl⟩
  obtain ⟨h0,h1,h2⟩:=tgI_mem.1 ht
  have h3:=ptFirst_low (l:=l) (show t.toNat < l.length by omega)
  exact ⟨⟨by omega,by omega⟩,t,h0,decide_eq_true ⟨h1,h2,rfl⟩⟩
theorem vSp_form (r:Option (Nat×Nat)) (p:Int):∃ a0 a1 a2:Int,∃ v:Bool,vSp r p=.tuple #[.agg #[.int .i64 a0,.int .i64 a1,.int .i64 a2],.bool v]∧vLoc r=.tuple #[.int .i64 a1,.int .i64 a2,.bool v]:=by
 cases r with
 | none=>exact ⟨0,0,0,false,rfl,rfl⟩
 | some z=>exact ⟨p,z.1,z.2,true,rfl,rfl⟩
theorem len_le_count:∀ l:List BkV,l.length≤ptCount l
 | []=>Nat.zero_le _
 | b :: l=>by
  have h1:=len_le_count l
  have h2:ptCount (b :: l)=b.stmts.length+1+ptCount l:=by unfold ptCount;rw [sumN_cons];rfl
  rw [List.length_cons]
  omega
theorem world3 {w:World} {A:Obj} {a0 a1 a2:Value} {T:TypeId} {w':World} (h:Below (w.alloc (.cells #[a0,a1,a2] T)).heap.size (w.alloc (.cells #[a0,a1,a2] T)) w'):w'.cell? ⟨w.heap.size,0,none⟩=some a0∧w'.cell? ⟨w.heap.size,1,none⟩=some a1∧w'.cell? ⟨w.heap.size,2,none⟩=some a2:=by
 have c:=one_cells (cs:=[a0,a1,a2]) h
 exact ⟨c 0 _ rfl,c 1 _ rfl,c 2 _ rfl⟩
theorem PLocate_any (x:BdW) (pt:Int) (w:World) (hx:OneBd w w.heap.size x) (hN:ptCount x.v.blocks≤2 ^ 62) (hI:IntR pt) :
  Calls Try.prog 13 #[aggBd x,.int .i64 pt] w fun e w'=>e=.returned (vLoc (ptLocI x.v.blocks pt))∧Below w.heap.size w w':=by
 obtain ⟨r,hr⟩:∃ r,ptLocI x.v.blocks pt=r:=⟨_,rfl⟩
 rw [hr]
 have HL:=hide fun (w':World) (y:Below w.heap.size w w')=>hr ▸ PLoc_any x pt w' (hx.up y) hN hI
 obtain ⟨a0,a1,a2,v,e1,e2⟩:=vSp_form r pt
 rw [e1] at HL
 rw [e2]
 obtain ⟨nm,⟨rA,rn,rc,rL⟩,⟨oA,on,oc,oL⟩,⟨tA,tm,tc,tL⟩,⟨lA,ln,lc,lL⟩,ar,⟨bA,bn,bc,bL⟩⟩:=x
 have HB:=hide (below1 w (.cells #[.string nm,.slice rA rn rc,.slice oA on oc,.slice tA tm tc,.slice lA ln lc,.int .i64 ar,.slice bA bn bc] 32))
 obtain ⟨x0,x1,x2,x3,x4,x5,x6⟩:=cells7 (Below.refl (w.alloc (.cells #[.string nm,.slice rA rn rc,.slice oA on oc,.slice tA tm tc,.slice lA ln lc,.int .i64 ar,.slice bA bn bc] 32)).heap.size (w.alloc (.cells #[.string nm,.slice rA rn rc,.slice oA on oc,.slice tA tm tc,.slice lA ln lc,.int .i64 ar,.slice bA bn bc] 32)))
 clear e1 e2 hx hr
 go_enter Try.func13,Try.ntmps13
 go_wp2_with fail
 refine (HL.out _ HB.out).mono ?_
 rintro e w1 ⟨rfl,hb1⟩
 have b2:=below1 w1 (.cells #[.int .i64 a0,.int .i64 a1,.int .i64 a2] 72)
 have HQ:=hide fun (kk:Nat)=>HB.out.trans ((hb1.trans ((b2.trans ((belowD (w1.alloc (.cells #[.int .i64 a0,.int .i64 a1,.int .i64 a2] 72)) kk).mono b2.size)).mono hb1.size)).mono HB.out.size)
 have hx3:=Bx.new w1 [.int .i64 a0,.int .i64 a1,.int .i64 a2] 72
 have z1:=hx3.cell (j:=1) rfl
 have z2:=hx3.cell (j:=2) rfl
 clear hb1 b2 hx3 x0 x1 x2 x3 x4 x5 x6
 go_wp2
 go_quiet (fail)
 go_wp2
 go_ret3
 exact ⟨rfl,HQ.out _⟩
theorem PNext_any (x:BdW) (pt:Int) (w:World) (hx:OneBd w w.heap.size x) (hN:ptCount x.v.blocks≤1000000) (hT:∀ b∈x.v.blocks,b.term.targets.length≤1000000) (hI:IntR pt) :
  Calls Try.prog 18 #[aggBd x,.int .i64 pt] w (IntsOut9 w (nextI x.v.blocks pt)):=by
 have hN2:ptCount x.v.blocks≤2 ^ 62:=Nat.le_trans hN (by decide)
 obtain ⟨r,hr⟩:∃ r,ptLocI x.v.blocks pt=r:=⟨_,rfl⟩
 have HL:=hide fun (w':World) (y:Below w.heap.size w w')=>hr ▸ PLoc_any x pt w' (hx.up y) hN2 hI
 have hbl:=bk_len hx
 have hbn:x.blocks.n≤1000000:=by
  have:=len_le_count x.v.blocks
  omega
 cases r with
 | none=>
  have HV:=hide (next_none hr)
  obtain ⟨nm,⟨rA,rn,rc,rL⟩,⟨oA,on,oc,oL⟩,⟨tA,tm,tc,tL⟩,⟨lA,ln,lc,lL⟩,ar,⟨bA,bn,bc,bL⟩⟩:=x
  have HB:=hide (below1 w (.cells #[.string nm,.slice rA rn rc,.slice oA on oc,.slice tA tm tc,.slice lA ln lc,.int .i64 ar,.slice bA bn bc] 32))
  obtain ⟨x0,x1,x2,x3,x4,x5,x6⟩:=cells7 (Below.refl (w.alloc (.cells #[.string nm,.slice rA rn rc,.slice oA on oc,.slice tA tm tc,.slice lA ln lc,.int .i64 ar,.slice bA bn bc] 32)).heap.size (w.alloc (.cells #[.string nm,.slice rA rn rc,.slice oA on oc,.slice tA tm tc,.slice lA ln lc,.int .i64 ar,.slice bA bn bc] 32)))
  clear hx hr hT hN hN2 hbl hbn
  go_enter Try.func18,Try.ntmps18
  go_wp2_with fail
  refine (HL.out _ HB.out).mono ?_
  rintro e w1 ⟨rfl,hb1⟩
  unfold vSp
  have b2:=below1 w1 (.cells #[.int .i64 0,.int .i64 0,.int .i64 0] 72)
  have HQ:=hide (HB.out.trans ((hb1.trans (b2.mono hb1.size)).mono HB.out.size))
  clear hb1 b2 x0 x1 x2 x3 x4 x5 x6
  go_wp2
  go_ret
  refine ⟨none,0,?_,?_,HQ.out⟩
  ·
   rw [HV.out];rfl
  ·
   rw [HV.out];exact World.ownsRow_nil _ _ _ _
 | some z=>
 obtain ⟨i,k⟩:=z
 obtain ⟨hp0,b,hb,hk,hpk⟩:=ptLocI_some hr
 have hcnt:=pt_lt hb hk
 have hp62:pt < 2 ^ 62:=by omega
 have HST:=hide fun (w':World) (q:Nat) (y:Below w.heap.size w w')=>PIsStmt_any x q i k w' b (hx.up y) hb
 have HSS:=hide fun (w':World) (y:Below w.heap.size w w')=>PStarts_any x w' (hx.up y) hN2 hbn
 have hsl:=stI_len x.v.blocks x.blocks.n
 obtain ⟨pn,hpn⟩:∃ n:Nat,pt=(n:Int):=⟨pt.toNat,by omega⟩
 subst hpn
 have HJ:=hide fun (w':World) (fA:Option Addr) (fc:Nat) (y:Below w.heap.size w w') (hF:Cells w' w'.heap.size 1 cInt fA x.blocks.n (stI x.v.blocks x.blocks.n))=>PJumps_any x i b fA fc w' (hx.up y) hb (hT b (List.mem_of_getElem? hb)) hN2 hF
 have hne:=fun h=>next_term hr hb h
 rw [hbl] at hne
 by_cases hks:k < b.stmts.length
 ·
  have HV:=hide (next_stmt hr hb hks)
  rw [decide_eq_true hks] at HST
  obtain ⟨nm,⟨rA,rn,rc,rL⟩,⟨oA,on,oc,oL⟩,⟨tA,tm,tc,tL⟩,⟨lA,ln,lc,lL⟩,ar,⟨bA,bn,bc,bL⟩⟩:=x
  have HB:=hide (below1 w (.cells #[.string nm,.slice rA rn rc,.slice oA on oc,.slice tA tm tc,.slice lA ln lc,.int .i64 ar,.slice bA bn bc] 32))
  obtain ⟨x0,x1,x2,x3,x4,x5,x6⟩:=cells7 (Below.refl (w.alloc (.cells #[.string nm,.slice rA rn rc,.slice oA on oc,.slice tA tm tc,.slice lA ln lc,.int .i64 ar,.slice bA bn bc] 32)).heap.size (w.alloc (.cells #[.string nm,.slice rA rn rc,.slice oA on oc,.slice tA tm tc,.slice lA ln lc,.int .i64 ar,.slice bA bn bc] 32)))
  have HC:=hide fun (w':World) (y:Below (w.alloc (.cells #[.string nm,.slice rA rn rc,.slice oA on oc,.slice tA tm tc,.slice lA ln lc,.int .i64 ar,.slice bA bn bc] 32)).heap.size (w.alloc (.cells #[.string nm,.slice rA rn rc,.slice oA on oc,.slice tA tm tc,.slice lA ln lc,.int .i64 ar,.slice bA bn bc] 32)) w')=>cells7 y
  have s1:IntKind.i64.wrap ((pn:Int)+1)=(pn:Int)+1:=wrapI9 _ (by omega) (by omega)
  clear hx hr hT hN hN2 hbl hbn hb hk hpk hcnt HSS HJ hks hne hsl
  go_enter Try.func18,Try.ntmps18
  go_wp2_with fail
  refine (HL.out _ HB.out).mono ?_
  rintro e w1 ⟨rfl,hb1⟩
  unfold vSp
  have b2:=below1 w1 (.cells #[.int .i64 (pn:Int),.int .i64 (i:Int),.int .i64 (k:Int)] 72)
  have HQ:=hide (hb1.trans (b2.mono hb1.size))
  obtain ⟨z0,z1,z2⟩:=world3 (w:=w1) (A:=.deferred none) (Below.refl (w1.alloc (.cells #[.int .i64 (pn:Int),.int .i64 (i:Int),.int .i64 (k:Int)] 72)).heap.size _)
  clear hb1 b2 x0 x1 x2 x3 x4 x5 x6
  obtain ⟨x0,x1,x2,x3,x4,x5,x6⟩:=HC.out _ HQ.out
  go_wp2_with fail
  refine (HST.out _ pn (HB.out.trans (HQ.out.mono HB.out.size))).mono ?_
  rintro e w3 ⟨rfl,hb3⟩
  have HQ3:=hide (HB.out.trans ((HQ.out.trans (hb3.mono HQ.out.size)).mono HB.out.size))
  have hb4:=below1 w3 (.cells #[.int .i64 ((pn:Int)+1)] 3)
  have HQ4:=hide (HQ3.out.trans (hb4.mono HQ3.out.size))
  have HO:=hide (lit_own (f:=cInt) w3 w.heap.size cInt_len ((pn:Int)+1) 3 HQ3.out.size)
  clear hb3 hb4 z0 z1 z2 x0 x1 x2 x3 x4 x5 x6
  go_wp2
  go_ret
  refine ⟨some ⟨w3.heap.size,0,none⟩,1,?_,?_,HQ4.out⟩
  ·
   rw [HV.out];rfl
  ·
   rw [HV.out];exact HO.out
 ·
  have HV:=hide (hne hks)
  rw [decide_eq_false hks] at HST
  obtain ⟨nm,⟨rA,rn,rc,rL⟩,⟨oA,on,oc,oL⟩,⟨tA,tm,tc,tL⟩,⟨lA,ln,lc,lL⟩,ar,⟨bA,bn,bc,bL⟩⟩:=x
  have HB:=hide (below1 w (.cells #[.string nm,.slice rA rn rc,.slice oA on oc,.slice tA tm tc,.slice lA ln lc,.int .i64 ar,.slice bA bn bc] 32))
  obtain ⟨x0,x1,x2,x3,x4,x5,x6⟩:=cells7 (Below.refl (w.alloc (.cells #[.string nm,.slice rA rn rc,.slice oA on oc,.slice tA tm tc,.slice lA ln lc,.int .i64 ar,.slice bA bn bc] 32)).heap.size (w.alloc (.cells #[.string nm,.slice rA rn rc,.slice oA on oc,.slice tA tm tc,.slice lA ln lc,.int .i64 ar,.slice bA bn bc] 32)))
  have HC:=hide fun (w':World) (y:Below (w.alloc (.cells #[.string nm,.slice rA rn rc,.slice oA on oc,.slice tA tm tc,.slice lA ln lc,.int .i64 ar,.slice bA bn bc] 32)).heap.size (w.alloc (.cells #[.string nm,.slice rA rn rc,.slice oA on oc,.slice tA tm tc,.slice lA ln lc,.int .i64 ar,.slice bA bn bc] 32)) w')=>cells7 y
  clear hx hr hT hN hN2 hbl hbn hb hk hpk hcnt hks hne
  have HSL:=hide hsl
  clear hsl
  go_enter Try.func18,Try.ntmps18
  go_wp2_with fail
  refine (HL.out _ HB.out).mono ?_
  rintro e w1 ⟨rfl,hb1⟩
  unfold vSp
  have b2:=below1 w1 (.cells #[.int .i64 (pn:Int),.int .i64 (i:Int),.int .i64 (k:Int)] 72)
  have HQ:=hide (hb1.trans (b2.mono hb1.size))
  have HZ:=hide fun (w':World) (y:Below (w1.alloc (.cells #[.int .i64 (pn:Int),.int .i64 (i:Int),.int .i64 (k:Int)] 72)).heap.size _ w')=>world3 (w:=w1) (A:=.deferred none) y
  obtain ⟨z0,z1,z2⟩:=HZ.out _ (Below.refl _ _)
  clear hb1 b2 x0 x1 x2 x3 x4 x5 x6
  obtain ⟨x0,x1,x2,x3,x4,x5,x6⟩:=HC.out _ HQ.out
  go_wp2_with fail
  refine (HST.out _ pn (HB.out.trans (HQ.out.mono HB.out.size))).mono ?_
  rintro e w3 ⟨rfl,hb3⟩
  have HQ3:=hide (HQ.out.trans (hb3.mono HQ.out.size))
  have HZ3:=hide hb3
  clear hb3 z0 z1 z2 x0 x1 x2 x3 x4 x5 x6
  have hcx:=hide fun (w':World) (y:Below w3.heap.size w3 w')=>HC.out w' (HQ3.out.trans (y.mono HQ3.out.size))
  have hel:=hide fun (w':World) (y:Below w3.heap.size w3 w')=>HZ.out w' (HZ3.out.trans (y.mono HZ3.out.size))
  have HD:=hide ((Below.refl w3.heap.size w3).drew)
  have HB3:=hide (HB.out.trans (HQ3.out.mono HB.out.size))
  go_wp2
  refine wp_region_held_drew (S:=(fun w'=>Below w3.heap.size w3 w')) (by kernel_rfl) HD.out (fun hHeld=>?_)
  refine planS [0,1,2,3] ?_
  repeat' (first | refine pT hHeld rfl ?_ | refine pS hHeld rfl ?_)
  refine planE ?_
  refine wpAnyH_ready (rs:=[4]) (by kernel_rfl) (by simp) ?_
  refine AllReadyH.cons rfl (fun KZ hK=>?_) AllReadyH.nil
  go_simp
  refine (HSS.out _ (HB3.out.trans (HD.out.mono HB3.out.size))).mono ?_
  rintro e5 w5 ⟨A,c,rfl,hown,hb0⟩
  have HY:=hide (HD.out.trans (hb0.mono HD.out.size))
  have HCC:=hide (Cells.of_own cInt_len (by decide) hown)
  rw [HSL.out] at HCC
  rw [HSL.out]
  clear hb0 hown
  refine hK.out _ _ HY.out (fun hHeld=>?_)
  clear hK KZ
  try simp only [Act.put,List.setIfInBounds_toArray,List.set_cons_zero,List.set_cons_succ]
  refine wpAnyH_ready (rs:=[5]) (by kernel_rfl) (by simp) ?_
  refine AllReadyH.cons rfl (fun KZ hK=>?_) AllReadyH.nil
  go_simp
  refine (HJ.out _ A c (HB3.out.trans (HY.out.mono HB3.out.size)) HCC.out).mono ?_
  rintro e6 w6 ⟨A6,c6,rfl,hown6,hb6⟩
  have HY6:=hide (HY.out.trans (hb6.mono HY.out.size))
  have HO6:=hide (ownsRow_base hown6 (Nat.le_trans HB3.out.size HY.out.size))
  clear hb6 hown6
  refine hK.out _ _ HY6.out (fun hHeld=>?_)
  clear hK KZ
  try simp only [Act.put,List.setIfInBounds_toArray,List.set_cons_zero,List.set_cons_succ]
  refine planS [6] ?_
  repeat' (first | refine pT hHeld rfl ?_ | refine pS hHeld rfl ?_)
  refine planE ?_
  refine wpAnyH_done (by kernel_rfl) ?_ _
  go_wp2
  go_ret
  refine ⟨A6,c6,?_,?_,HB3.out.trans (HY6.out.mono HB3.out.size)⟩
  ·
   rw [HV.out];rfl
  ·
   rw [HV.out];exact HO6.out
end Go.Proofs.Ytlbopbjdiehecaa
