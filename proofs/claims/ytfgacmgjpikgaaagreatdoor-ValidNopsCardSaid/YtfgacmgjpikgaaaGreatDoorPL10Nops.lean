/- ValidNops: a statement Nop ahead of each block, or a block at the end, keeps a body valid or invalid. Its condition: the lengths of the argument are within the reach. -/
import Derived.Test.YtfgacmgjpikgaaaGreatDoorQ39
import Derived.Test.YtfgacmgjpikgaaaGreatDoorQ40
import Derived.Test.YtfgacmgjpikgaaaGreatDoorQ46
import Derived.Test.YtfgacmgjpikgaaaGreatDoorQ47
import Derived.Test.YtfgacmgjpikgaaaGreatDoorTie
import Derived.Test.YtfgacmgjpikgaaaGreatDoorCards
import Derived.SevenTiedAt
set_option linter.unusedVariables false
set_option linter.unusedSimpArgs false
set_option maxRecDepth 100000
set_option maxHeartbeats 8000000
namespace Go.Proofs.YtfgacmgjpikgaaaGreatDoor.validNops
open Go.ChangeShapes Go.WideShapes Go.ChangeAt Go.ChangeMaps Go.RowKit Go.Shelf Go.WideElems
theorem RCheck_is {x:BdW} {v:Int} {w:World} (h:OneBd w w.heap.size x) (hv:bdErr x.v=v) :
  Calls Tryz.prog 12 #[aggBd x] w fun e w'=>e=.returned (.int .i64 v)∧Below w.heap.size w w':=
 RCheck_of (fun w' y=>RDecl_is (h.up y) rfl) RStmt_is RTerm_is h hv
theorem RNodes_is {x:BdW} {N:Nat} (hN:bdN x.v=N) (w:World) (hx:OneBd w w.heap.size x) (h2:N≤2 ^ 62) :
  Calls Tryz.prog 21 #[aggBd x] w fun e w'=>e=.returned (.int .i64 (N:Int))∧Below w.heap.size w w':=by
 subst hN
 exact RNodes_any x w hx h2
theorem slH0 {α:Type} (w:World) (B k:Nat) (f:α→List Value) (Q:α→Prop):SlH w B k f Q ⟨none,0,0,[]⟩:=⟨Nat.le_refl _,Nat.zero_le _,⟨rfl,fun h=>absurd h (Nat.lt_irrefl 0)⟩,fun x hx=>by cases hx⟩
theorem int0 {x:Int} (h:-100≤x∧x≤100):IntR x:=⟨by omega,by omega⟩
theorem pl0 (w:World) (B:Nat):OnePl w B ⟨0,none,0,0,[]⟩:=⟨Nat.le_refl _,Nat.zero_le _,int0 (by decide),⟨⟨rfl,fun h=>absurd h (Nat.lt_irrefl 0)⟩,fun x hx=>by cases hx⟩⟩
abbrev nopW:StW:=⟨2,⟨0,none,0,0,[]⟩,⟨0,0,0,false,⟨0,none,0,0,[]⟩,⟨none,0,0,[]⟩⟩,0⟩
abbrev endW:BkW:=⟨⟨none,0,0,[]⟩,⟨5,⟨none,0,0,[]⟩,⟨none,0,0,[]⟩,⟨0,none,0,0,[]⟩,.empty⟩⟩
theorem nopW_one (w:World) (B:Nat):OneSt w B nopW:=⟨int0 (by decide),pl0 _ _,⟨int0 (by decide),int0 (by decide),int0 (by decide),pl0 _ _,slH0 _ _ _ _ _⟩,int0 (by decide)⟩
theorem endW_tm (w:World) (B:Nat):OneTm w B endW.term:=⟨int0 (by decide),slH0 _ _ _ _ _,slH0 _ _ _ _ _,pl0 _ _,by decide⟩
def Nz (w0:World) (w:World) (z:BkW):Prop:=w.ownsRow w0.heap.size 46 11 z.stmts.val z.stmts.n (z.stmts.L.flatMap cSt)∧(∀ s∈z.stmts.L,OneSt w0 w0.heap.size s)∧OneTm w0 w0.heap.size z.term
theorem Nz.keep {w0 w w':World} {z:BkW} (h:Nz w0 w z) (hb:Below w.heap.size w w'):Nz w0 w' z:=⟨ownsRow_below h.1 hb,h.2⟩
theorem Nz.kt {w0 w w':World} {z:BkW} {e:TypeId} (h:Nz w0 w z) (hk:KT e w w') (he:46≠e):Nz w0 w' z:=⟨own_kt h.1 hk he,h.2⟩
theorem Nz.one {w0 w:World} {z:BkW} (h:Nz w0 w z) (hb:Below w0.heap.size w0 w):OneBk w w.heap.size z:=
 ⟨own_sl cSt_len (by decide) h.1 (fun s hs=>(h.2.1 s hs).up hb),h.2.2.up hb⟩
theorem lit_cells {α:Type} (w:World) (f:α→List Value) {k:Nat} (hk:∀ x,(f x).length=k) (z:α) (t:TypeId):Cells (w.alloc (.cells (f z).toArray t)) (w.heap.size+1) k f (some ⟨w.heap.size,0,none⟩) 1 [z]:=by
 refine ⟨rfl,fun _=>⟨w.heap.size,0,rfl,by omega,fun i x hx j u hu=>?_⟩⟩
 have hj:j < k:=by have:=(List.getElem?_eq_some_iff.1 hu).1;rwa [hk] at this
 have hi:i=0:=by
  have:=(List.getElem?_eq_some_iff.1 hx).1
  simpa using this
 subst hi
 obtain rfl:z=x:=by simpa using hx
 rw [cell_of_row (w.alloc (.cells (f z).toArray t)) w.heap.size _ (f z).toArray t (0,0) (heap_alloc_new w _)]
 rw [List.getElem?_toArray]
 simpa using hu
theorem lit_own {α:Type} (w:World) (base:Nat) (f:α→List Value) {k:Nat} (hk:∀ x,(f x).length=k) (z:α) (t:TypeId) (hb:base≤w.heap.size):(w.alloc (.cells (f z).toArray t)).ownsRow base t k (.slice (some ⟨w.heap.size,0,none⟩) 1 1) 1 ([z].flatMap f):=by
 have h:=World.ownsRow_lit (base:=base) (size:=k) (e:=t) w (f z).toArray 1 hb (by decide) (by simp [hk])
 simpa using h
theorem lit_own2 {α:Type} {w:World} {g:Nat} (hg:w.heap.size=g) (base:Nat) (f:α→List Value) {k:Nat} (hk:∀ x,(f x).length=k) (z:α) (t:TypeId) (hb:base≤w.heap.size):(w.alloc (.cells (f z).toArray t)).ownsRow base t k (.slice (some ⟨g,0,none⟩) 1 1) 1 ([z].flatMap f):=by
 subst hg
 exact lit_own w base f hk z t hb
theorem bx7 {w:World} {g:Nat} {a0 a1 a2 a3 a4 a5 a6:Value} {T:TypeId} (h:Bx w g [a0,a1,a2,a3,a4,a5,a6] T):w.cell? ⟨g,0,none⟩=some a0∧w.cell? ⟨g,1,none⟩=some a1∧w.cell? ⟨g,2,none⟩=some a2∧w.cell? ⟨g,3,none⟩=some a3∧w.cell? ⟨g,4,none⟩=some a4∧w.cell? ⟨g,5,none⟩=some a5∧w.cell? ⟨g,6,none⟩=some a6:=
 ⟨h.cell (j:=0) rfl,h.cell (j:=1) rfl,h.cell (j:=2) rfl,h.cell (j:=3) rfl,h.cell (j:=4) rfl,h.cell (j:=5) rfl,h.cell (j:=6) rfl⟩
theorem copy_one {w0 w:World} {x:BdW} {A:Option Addr} {n c:Nat} {M:List BkW} (h:OneBd w0 w0.heap.size x) (hb:Below w0.heap.size w0 w) (ho:w.ownsRow w0.heap.size 52 7 (.slice A n c) n (M.flatMap cBk)) (hz:∀ z∈M,Nz w0 w z) :
  OneBd w w.heap.size { x with blocks:=⟨A,n,c,M⟩ }:=
 have h2:=h.up hb
 ⟨h2.name,h2.regions,h2.outl,h2.types,h2.locals,h2.args,own_sl (s:=⟨A,n,c,M⟩) cBk_len (by decide) ho fun z hz'=>(hz z hz').one hb⟩
theorem szB_stmts {x:BdW} {b:BkW} (h:szB x≤3000) (hb:b∈x.blocks.L):b.stmts.n≤3000:=by
 have h1:=sumN_one (f:=szBk) hb
 have h2:sumN szBk x.blocks.L≤szB x:=by unfold szB;omega
 have h3:b.stmts.n≤szBk b:=by unfold szBk;omega
 omega
theorem nodes_le {w:World} {B:Nat} {x:BdW} (hx:OneBd w B x) (h:szB x≤3000):bdN x.v≤2 ^ 60:=by
 unfold szB at h
 have ht:∀ t∈x.types.L,t.n≤3000:=fun t hs=>by
  have h1:=sumN_one (f:=szT) hs
  have h2:szT t=1+min t.n 9000:=rfl
  exact min_le9 (by omega)
 have hb:∀ b∈x.blocks.L,szBk b≤3000:=fun b hs=>by have:=sumN_one (f:=szBk) hs;omega
 have lr:=sumN_len (f:=szR) (l:=x.regions.L) fun s=>by unfold szR;omega
 have lt:=sumN_len (f:=szT) (l:=x.types.L) fun s=>by unfold szT;omega
 have ll:=sumN_len (f:=szL) (l:=x.locals.L) fun s=>by unfold szL;omega
 have lb:=sumN_len (f:=szBk) (l:=x.blocks.L) fun s=>by unfold szBk;omega
 have eo:=hx.outl.len
 have h1:sumN (fun t:Ty=>t.fields.length) (tys x.types.L)≤(tys x.types.L).length*3000:=by
  unfold tys
  rw [sumN_map,List.length_map]
  exact sumN_bound fun t ht'=>by rw [(hx.types.all t ht').ok.len];exact ht t ht'
 have h2:sumN bkN (x.blocks.L.map BkW.v)≤x.blocks.L.length*100000000000:=by
  rw [sumN_map]
  exact sumN_bound fun b hb'=>(sz_bk (hx.blocks.all b hb') (hb b hb')).2.1
 have h3:x.blocks.L.length*100000000000≤3000*100000000000:=Nat.mul_le_mul_right _ (by omega)
 have h4:(tys x.types.L).length=x.types.L.length:=by unfold tys;rw [List.length_map]
 have h5:(tys x.types.L).length*3000≤3000*3000:=Nat.mul_le_mul_right _ (by omega)
 have h6:bdN x.v=1+x.regions.L.length+x.outl.L.length+(x.locals.L.map LcW.v).length+(x.blocks.L.map BkW.v).length+(tys x.types.L).length+sumN (fun t:Ty=>t.fields.length) (tys x.types.L)+sumN bkN (x.blocks.L.map BkW.v):=rfl
 rw [h6,List.length_map,List.length_map]
 omega
theorem take_map_up {l:List BkW} {M:List BkW} {j:Nat} {p z:BkW} (h:M.map BkW.v=((l.map BkW.v).take j).map nopBk) (hp:l[j]?=some p) (hz:z.v=nopBk p.v):(M++[z]).map BkW.v=((l.map BkW.v).take (j+1)).map nopBk:=by
 have hq:(l.map BkW.v)[j]?=some p.v:=by rw [List.getElem?_map,hp];rfl
 rw [List.take_add_one,hq,List.map_append,List.map_append,h,List.map_singleton,hz]
 rfl
theorem walk (x0:BdW) (w:World) (h0:OneBd w w.heap.size x0) (s0:FitBd x0) (hT:OpsT w) :
  Calls Tryz.prog 8 #[aggBd x0] w fun e w'=>e=.returned (.bool true)∧Below w.heap.size w w':=by
 obtain ⟨de,hde⟩:∃ u,deErr x0.v=u:=⟨_,rfl⟩
 obtain ⟨v,hv⟩:∃ u,bdErr x0.v=u:=⟨_,rfl⟩
 obtain ⟨N,hNN⟩:∃ u,bdN x0.v=u:=⟨_,rfl⟩
 have hbl:=h0.blocks.len
 have hbm:=h0.blocks.nm
 unfold maxLen at hbm
 have HBL:=hide hbl
 have HOB:=hide h0
 clear hbl
 obtain ⟨nm,⟨rA,rn,rc,rL⟩,⟨oA,on,oc,oL⟩,⟨tA,tm,tc,tL⟩,⟨lA,ln,lc,lL⟩,ar,⟨bA,bn,bc,bL⟩⟩:=x0
 have HB:=hide (below1 w (.cells #[.string nm,.slice rA rn rc,.slice oA on oc,.slice tA tm tc,.slice lA ln lc,.int .i64 ar,.slice bA bn bc] 28))
 have HX:=hide (h0.up HB.out)
 have HF:=hide s0
 have HT:=hide (hT.up HB.out)
 have HDE:=hide hde
 have HV:=hide hv
 have HNN:=hide hNN
 have hbm:bn≤2 ^ 63 - 1:=hbm
 clear h0 s0 hT hde hv hNN
 go_enter Tryz.func8,Tryz.ntmps8
 go_wp2_with fail
 refine (Skip10_any ⟨nm,⟨rA,rn,rc,rL⟩,⟨oA,on,oc,oL⟩,⟨tA,tm,tc,tL⟩,⟨lA,ln,lc,lL⟩,ar,⟨bA,bn,bc,bL⟩⟩ _ HX.out HF.out).mono ?_
 rintro e1 w1 ⟨h1,hb1⟩
 have HW1:=hide hb1
 clear hb1
 rcases h1 with rfl | ⟨rfl,hn,hsz,hbk⟩
 case inl=>
  go_wp2_with fail
  refine (alive10_any _ (HT.out.up HW1.out)).mono ?_
  rintro e9 w9 ⟨rfl,hb9⟩
  have HW9:=hide (HW1.out.trans (hb9.mono HW1.out.size))
  clear hb9
  go_wp2
  go_ret
  exact ⟨rfl,HB.out.trans (HW9.out.mono HB.out.size)⟩
 have HN:=hide hn
 have HSZ:=hide hsz
 have hbk:bn≤200:=hbk
 clear hn hsz
 obtain ⟨b1_0,b1_1,b1_2,b1_3,b1_4,b1_5,b1_6⟩:=cells7 HW1.out
 by_cases q2:de=0
 case neg=>
  have t2:(de != 0)=true:=by simp [q2]
  clear q2
  go_wp2_with fail
  refine (RDecl_is (HX.out.up HW1.out) HDE.out).mono ?_
  rintro e3 w3 ⟨rfl,hb3⟩
  have HW3:=hide (HW1.out.trans (hb3.mono HW1.out.size))
  clear hb3
  go_wp2_with fail
  refine (alive10_any _ (HT.out.up HW3.out)).mono ?_
  rintro e9 w9 ⟨rfl,hb9⟩
  have HW9:=hide (HW3.out.trans (hb9.mono HW3.out.size))
  clear hb9
  go_wp2
  go_ret
  exact ⟨rfl,HB.out.trans (HW9.out.mono HB.out.size)⟩
 have t2:(de != 0)=false:=by simp [q2]
 clear q2
 go_wp2_with fail
 refine (RDecl_is (HX.out.up HW1.out) HDE.out).mono ?_
 rintro e3 w3 ⟨rfl,hb3⟩
 have HW3:=hide (HW1.out.trans (hb3.mono HW1.out.size))
 clear hb3 b1_0 b1_1 b1_2 b1_3 b1_4 b1_5 b1_6
 have HC3:=hide fun (w':World) (y:Below w3.heap.size w3 w')=>cells7 (HW3.out.trans (y.mono HW3.out.size))
 have HO3:=hide (HX.out.up HW3.out)
 have HTT:=hide (HT.out.up HW3.out)
 have HB3:=hide (HB.out.trans (HW3.out.mono HB.out.size))
 obtain ⟨b3_0,b3_1,b3_2,b3_3,b3_4,b3_5,b3_6⟩:=HC3.out _ (Below.refl _ _)
 clear HX HT HF HW1 HW3 HOB
 have HBX0:=hide (Bx.new w3 [.string nm,.slice rA rn rc,.slice oA on oc,.slice tA tm tc,.slice lA ln lc,.int .i64 ar,.slice none 0 0] 28)
 have HBL0:=hide (below1 w3 (.cells #[.string nm,.slice rA rn rc,.slice oA on oc,.slice tA tm tc,.slice lA ln lc,.int .i64 ar,.slice none 0 0] 28))
 have d3_6:=(HC3.out _ HBL0.out).2.2.2.2.2.2
 go_wp2
 clear d3_6 b3_0 b3_1 b3_2 b3_3 b3_4 b3_5 b3_6
 go_loopw [20] (fun i wr=>∃ j:Nat,∃ A:Option Addr,∃ c:Nat,∃ M:List BkW,i=.int .i64 (j:Int)∧j≤bn∧Hid (M.map BkW.v=((bL.map BkW.v).take j).map nopBk)∧Hid (wr.ownsRow w3.heap.size 52 7 (.slice A j c) j (M.flatMap cBk))∧Hid (∀ z∈M,Nz w3 wr z)∧Hid (Bx wr w3.heap.size [.string nm,.slice rA rn rc,.slice oA on oc,.slice tA tm tc,.slice lA ln lc,.int .i64 ar,.slice A j c] 28)∧Hid (Below w3.heap.size w3 wr)) (fun i _=>bn - (intOf i).toNat)
 case atStart=>exact ⟨0,none,0,[],rfl,Nat.zero_le _,hide rfl,hide (World.ownsRow_nil _ _ _ _),hide (fun z hz=>by cases hz),hide HBX0.out,hide HBL0.out⟩
 case round=>
  obtain ⟨j,A,c,M,rfl,hj,HM,HO,HZ,HX3,HW⟩:=hrel
  generalize wr=wq at *
  by_cases hlt:j < bn
  ·
   have hlt':(j:Int) < (bn:Int):=by omega
   obtain ⟨p,hp⟩:∃ p,bL[j]?=some p:=⟨_,List.getElem?_eq_getElem (by have:bL.length=bn:=HBL.out;omega)⟩
   have HP:=hide hp
   have HSN:=hide (szB_stmts HSZ.out (List.mem_of_getElem? hp))
   obtain ⟨b,o,hA,_,hone,hc⟩:=(HO3.out.up HW.out).blocks.at_ hp
   obtain ⟨_,_,_,_,hone3,_⟩:=HO3.out.blocks.at_ hp
   have hA:bA=some ⟨b,o,none⟩:=hA
   subst hA
   obtain ⟨⟨sA,sn,sc,sL⟩,⟨k,⟨xA,xn,xc,xL⟩,⟨gA,gn,gc,gL⟩,⟨l,pA,pn,pc,ps⟩,tn⟩⟩:=p
   have c0:wq.cell? ⟨b,o+j*7,none⟩=some (.slice sA sn sc):=hc 0 _ rfl
   have c1:wq.cell? ⟨b,o+j*7+1,none⟩=some (.int .i64 k):=hc 1 _ rfl
   have c2:wq.cell? ⟨b,o+j*7+2,none⟩=some (.slice xA xn xc):=hc 2 _ rfl
   have c3:wq.cell? ⟨b,o+j*7+3,none⟩=some (.slice gA gn gc):=hc 3 _ rfl
   have c4:wq.cell? ⟨b,o+j*7+4,none⟩=some (.int .i64 l):=hc 4 _ rfl
   have c5:wq.cell? ⟨b,o+j*7+5,none⟩=some (.slice pA pn pc):=hc 5 _ rfl
   have c6:wq.cell? ⟨b,o+j*7+6,none⟩=some (.string tn):=hc 6 _ rfl
   have HO1:=hide hone
   have HO13:=hide hone3
   have hsn:sn≤3000:=HSN.out
   clear hp hone hone3 hc
   obtain ⟨i0,hi,hz0,hz1,hz2⟩:=info_parts info9St
   have hs1:(wq.alloc (.cells #[.slice sA sn sc,.int .i64 k,.slice xA xn xc,.slice gA gn gc,.int .i64 l,.slice pA pn pc,.string tn] 52)).heap.size=wq.heap.size+1:=by simp
   have hs2:w3.heap.size≤(wq.alloc (.cells #[.slice sA sn sc,.int .i64 k,.slice xA xn xc,.slice gA gn gc,.int .i64 l,.slice pA pn pc,.string tn] 52)).heap.size:=by
    have:=HW.out.size
    omega
   have HOL:=hide (show ((wq.alloc (.cells #[.slice sA sn sc,.int .i64 k,.slice xA xn xc,.slice gA gn gc,.int .i64 l,.slice pA pn pc,.string tn] 52)).alloc (.cells #[.int .i64 2,.int .i64 0,.slice none 0 0,.int .i64 0,.int .i64 0,.int .i64 0,.bool false,.int .i64 0,.slice none 0 0,.slice none 0 0,.int .i64 0] 46)).ownsRow w3.heap.size 46 11 (.slice (some ⟨wq.heap.size+1,0,none⟩) 1 1) 1 ([nopW].flatMap cSt) from lit_own2 hs1 w3.heap.size cSt cSt_len nopW 46 hs2)
   have HOR:=hide (show ((wq.alloc (.cells #[.slice sA sn sc,.int .i64 k,.slice xA xn xc,.slice gA gn gc,.int .i64 l,.slice pA pn pc,.string tn] 52)).alloc (.cells #[.int .i64 2,.int .i64 0,.slice none 0 0,.int .i64 0,.int .i64 0,.int .i64 0,.bool false,.int .i64 0,.slice none 0 0,.slice none 0 0,.int .i64 0] 46)).ownsRow (wq.alloc (.cells #[.slice sA sn sc,.int .i64 k,.slice xA xn xc,.slice gA gn gc,.int .i64 l,.slice pA pn pc,.string tn] 52)).heap.size 46 11 (.slice (some ⟨wq.heap.size+1,0,none⟩) 1 1) 1 ([nopW].flatMap cSt) from lit_own2 hs1 (wq.alloc (.cells #[.slice sA sn sc,.int .i64 k,.slice xA xn xc,.slice gA gn gc,.int .i64 l,.slice pA pn pc,.string tn] 52)).heap.size cSt cSt_len nopW 46 (Nat.le_refl _))
   have hb2:Below (wq.alloc (.cells #[.slice sA sn sc,.int .i64 k,.slice xA xn xc,.slice gA gn gc,.int .i64 l,.slice pA pn pc,.string tn] 52)).heap.size (wq.alloc (.cells #[.slice sA sn sc,.int .i64 k,.slice xA xn xc,.slice gA gn gc,.int .i64 l,.slice pA pn pc,.string tn] 52)) ((wq.alloc (.cells #[.slice sA sn sc,.int .i64 k,.slice xA xn xc,.slice gA gn gc,.int .i64 l,.slice pA pn pc,.string tn] 52)).alloc (.cells #[.int .i64 2,.int .i64 0,.slice none 0 0,.int .i64 0,.int .i64 0,.int .i64 0,.bool false,.int .i64 0,.slice none 0 0,.slice none 0 0,.int .i64 0] 46)):=below1 _ _
   have HB2:=hide hb2
   have HB1:=hide (below1 wq (.cells #[.slice sA sn sc,.int .i64 k,.slice xA xn xc,.slice gA gn gc,.int .i64 l,.slice pA pn pc,.string tn] 52))
   have HCS:=hide ((HO1.out.up (HB1.out.trans (hb2.mono HB1.out.size))).stmts.cells)
   have HBX:=hide (Bx.new wq [.slice sA sn sc,.int .i64 k,.slice xA xn xc,.slice gA gn gc,.int .i64 l,.slice pA pn pc,.string tn] 52)
   have hs3:w3.heap.size≤((wq.alloc (.cells #[.slice sA sn sc,.int .i64 k,.slice xA xn xc,.slice gA gn gc,.int .i64 l,.slice pA pn pc,.string tn] 52)).alloc (.cells #[.int .i64 2,.int .i64 0,.slice none 0 0,.int .i64 0,.int .i64 0,.int .i64 0,.bool false,.int .i64 0,.slice none 0 0,.slice none 0 0,.int .i64 0] 46)).heap.size:=Nat.le_trans hs2 hb2.size
   have hs4:(wq.alloc (.cells #[.slice sA sn sc,.int .i64 k,.slice xA xn xc,.slice gA gn gc,.int .i64 l,.slice pA pn pc,.string tn] 52)).heap.size≤((wq.alloc (.cells #[.slice sA sn sc,.int .i64 k,.slice xA xn xc,.slice gA gn gc,.int .i64 l,.slice pA pn pc,.string tn] 52)).alloc (.cells #[.int .i64 2,.int .i64 0,.slice none 0 0,.int .i64 0,.int .i64 0,.int .i64 0,.bool false,.int .i64 0,.slice none 0 0,.slice none 0 0,.int .i64 0] 46)).heap.size:=hb2.size
   clear hb2
   go_wp2_with (first | (at_builtin;refine wpList_append_cells ((wq.alloc (.cells #[.slice sA sn sc,.int .i64 k,.slice xA xn xc,.slice gA gn gc,.int .i64 l,.slice pA pn pc,.string tn] 52)).alloc (.cells #[.int .i64 2,.int .i64 0,.slice none 0 0,.int .i64 0,.int .i64 0,.int .i64 0,.bool false,.int .i64 0,.slice none 0 0,.slice none 0 0,.int .i64 0] 46)) rfl (.tmp 25) (.tmp 27) 47 rfl cSt_len (by decide) cSt_one w3.heap.size 46 i0 _ 136 Tryz.underlying47 hi hz0 hz1 hz2 rfl _ 1 ([nopW].flatMap cSt) rfl HOL.out _ sA sn sc sL rfl HCS.out (by unfold maxLen;omega) (by omega) hs3 ?_;intro v5 w5 hown5 hg5 _;obtain ⟨A5,k5,rfl⟩:=own_slice9 hown5;obtain ⟨m5,hm5⟩:∃ m,1+sn=m:=⟨_,rfl⟩;rw [hm5] at hown5 ⊢;have HOW:=hide hown5;have HM5:=hide hm5;have hb5:=below_app HB2.out HOR.out hs4 hg5;have HB5:=hide (HB1.out.trans (hb5.mono HB1.out.size));have HBX5:=hide (HBX.out.below hb5);have cf0:=HBX5.out.cell (j:=0) rfl;have ff0:=HBX5.out.frozen 0;have hb6:=HB5.out.setCell (p:=⟨wq.heap.size,0,none⟩) (Nat.le_refl _) (.slice A5 m5 k5);have HB6:=hide hb6;have hx6:=HBX5.out.set 0 (.slice A5 m5 k5);have x0:=hx6.cell (j:=0) rfl;have x1:=hx6.cell (j:=1) rfl;have x2:=hx6.cell (j:=2) rfl;have x3:=hx6.cell (j:=3) rfl;have x4:=hx6.cell (j:=4) rfl;have x5:=hx6.cell (j:=5) rfl;have x6:=hx6.cell (j:=6) rfl;have HX6:=hide (HX3.out.below hb6);have y6:=HX6.out.cell (j:=6) rfl;clear hown5 hm5 hb5 hg5 hb6 hx6;obtain ⟨i1,hi1,hy0,hy1,hy2⟩:=info_parts info9Bk;have hw6:(w5.setCell ⟨wq.heap.size,0,none⟩ (.slice A5 m5 k5)).heap.size=w5.heap.size:=(by simp);have HB7:=hide (HB6.out.trans ((below1 (w5.setCell ⟨wq.heap.size,0,none⟩ (.slice A5 m5 k5)) (.cells #[.slice A5 m5 k5,.int .i64 k,.slice xA xn xc,.slice gA gn gc,.int .i64 l,.slice pA pn pc,.string tn] 52)).mono HB6.out.size));have HO7:=hide (ownsRow_below HO.out HB7.out);have HL7:=hide (show Cells ((w5.setCell ⟨wq.heap.size,0,none⟩ (.slice A5 m5 k5)).alloc (.cells #[.slice A5 m5 k5,.int .i64 k,.slice xA xn xc,.slice gA gn gc,.int .i64 l,.slice pA pn pc,.string tn] 52)) (w5.heap.size+1) 7 cBk (some ⟨w5.heap.size,0,none⟩) 1 [(⟨⟨A5,m5,k5,nopW :: sL⟩,⟨k,⟨xA,xn,xc,xL⟩,⟨gA,gn,gc,gL⟩,⟨l,pA,pn,pc,ps⟩,tn⟩⟩:BkW)] from hw6 ▸ lit_cells (w5.setCell ⟨wq.heap.size,0,none⟩ (.slice A5 m5 k5)) cBk cBk_len (⟨⟨A5,m5,k5,nopW :: sL⟩,⟨k,⟨xA,xn,xc,xL⟩,⟨gA,gn,gc,gL⟩,⟨l,pA,pn,pc,ps⟩,tn⟩⟩:BkW) 52);have HX7:=hide (HX6.out.below (below1 (w5.setCell ⟨wq.heap.size,0,none⟩ (.slice A5 m5 k5)) (.cells #[.slice A5 m5 k5,.int .i64 k,.slice xA xn xc,.slice gA gn gc,.int .i64 l,.slice pA pn pc,.string tn] 52)));have HW7:=hide (HW.out.trans (HB7.out.mono HW.out.size));have hs7:w3.heap.size≤((w5.setCell ⟨wq.heap.size,0,none⟩ (.slice A5 m5 k5)).alloc (.cells #[.slice A5 m5 k5,.int .i64 k,.slice xA xn xc,.slice gA gn gc,.int .i64 l,.slice pA pn pc,.string tn] 52)).heap.size:=HW7.out.size) | (at_builtin;refine wpList_append_cells ((w5.setCell ⟨wq.heap.size,0,none⟩ (.slice A5 m5 k5)).alloc (.cells #[.slice A5 m5 k5,.int .i64 k,.slice xA xn xc,.slice gA gn gc,.int .i64 l,.slice pA pn pc,.string tn] 52)) rfl (.tmp 31) (.tmp 33) 26 rfl cBk_len (by decide) cBk_one w3.heap.size 52 i1 _ 128 Tryz.underlying26 hi1 hy0 hy1 hy2 rfl _ j (M.flatMap cBk) rfl HO7.out _ (some ⟨w5.heap.size,0,none⟩) 1 1 [(⟨⟨A5,m5,k5,nopW :: sL⟩,⟨k,⟨xA,xn,xc,xL⟩,⟨gA,gn,gc,gL⟩,⟨l,pA,pn,pc,ps⟩,tn⟩⟩:BkW)] rfl HL7.out (by unfold maxLen;omega) (by omega) hs7 ?_;intro v8 w8 hown8 hg8 _;obtain ⟨A8,k8,rfl⟩:=own_slice9 hown8;have HO8:=hide hown8;have hk8:=KT.of_grown hg8 HO7.out;have HK8:=hide hk8;have HX8:=hide (HX7.out.kt hk8 (by decide));have HW8:=hide (below_app HW7.out HO7.out hs7 hg8);have cf6:=HX8.out.cell (j:=6) rfl;have ff6:=HX8.out.frozen 6;clear hown8 hg8 hk8))
   have hkt:=KT.of_set HX8.out 6 (.slice A8 (j+1) k8)
   have hk5:=KT.of_set HBX5.out 0 (.slice A5 m5 k5)
   have hb7:Below (w5.setCell ⟨wq.heap.size,0,none⟩ (.slice A5 m5 k5)).heap.size (w5.setCell ⟨wq.heap.size,0,none⟩ (.slice A5 m5 k5)) ((w5.setCell ⟨wq.heap.size,0,none⟩ (.slice A5 m5 k5)).alloc (.cells #[.slice A5 m5 k5,.int .i64 k,.slice xA xn xc,.slice gA gn gc,.int .i64 l,.slice pA pn pc,.string tn] 52)):=below1 _ _
   have hz9:Nz w3 (w8.setCell ⟨w3.heap.size,6,none⟩ (.slice A8 (j+1) k8)) (⟨⟨A5,m5,k5,nopW :: sL⟩,⟨k,⟨xA,xn,xc,xL⟩,⟨gA,gn,gc,gL⟩,⟨l,pA,pn,pc,ps⟩,tn⟩⟩:BkW):=by
    have h1:=own_kt (own_kt (ownsRow_below (own_kt HOW.out hk5 (by decide)) hb7) HK8.out (by decide)) hkt (by decide)
    rw [←List.flatMap_append] at h1
    refine ⟨h1,fun s hs=>?_,HO13.out.term⟩
    rcases List.mem_cons.1 hs with rfl | hs
    ·
     exact nopW_one _ _
    ·
     exact HO13.out.stmts.all s hs
   have HZ9:=hide hz9
   have HKT:=hide hkt
   clear hkt hk5 hb7 hz9
   go_roundw
   case rel=>
    refine ⟨j+1,A8,k8,M++[(⟨⟨A5,m5,k5,nopW :: sL⟩,⟨k,⟨xA,xn,xc,xL⟩,⟨gA,gn,gc,gL⟩,⟨l,pA,pn,pc,ps⟩,tn⟩⟩:BkW)],by go_num,by omega,hide (take_map_up HM.out HP.out rfl),hide ?_,hide ?_,hide (HX8.out.set 6 _),hide (HW8.out.setCell (p:=⟨w3.heap.size,6,none⟩) (Nat.le_refl _) _)⟩
    ·
     rw [List.flatMap_append]
     exact own_kt HO8.out HKT.out (by decide)
    ·
     intro z hz
     rcases List.mem_append.1 hz with hz | hz
     ·
      exact (((HZ.out z hz).keep HB7.out).kt HK8.out (by decide)).kt HKT.out (by decide)
     ·
      obtain rfl:=List.mem_singleton.1 hz
      exact HZ9.out
   case measure=>simp [intOf];omega
  ·
   obtain rfl:bn=j:=by omega
   have hM:M.map BkW.v=(bL.map BkW.v).map nopBk:=by rw [HM.out,List.take_of_length_le (by rw [List.length_map];exact Nat.le_of_eq HBL.out)]
   have HC:=hide (copy_one (x:=⟨nm,⟨rA,rn,rc,rL⟩,⟨oA,on,oc,oL⟩,⟨tA,tm,tc,tL⟩,⟨lA,ln,lc,lL⟩,ar,⟨bA,bn,bc,bL⟩⟩) HO3.out HW.out HO.out HZ.out)
   have hcv:BdW.v ⟨nm,⟨rA,rn,rc,rL⟩,⟨oA,on,oc,oL⟩,⟨tA,tm,tc,tL⟩,⟨lA,ln,lc,lL⟩,ar,⟨A,bn,c,M⟩⟩=nopBd (BdW.v ⟨nm,⟨rA,rn,rc,rL⟩,⟨oA,on,oc,oL⟩,⟨tA,tm,tc,tL⟩,⟨lA,ln,lc,lL⟩,ar,⟨bA,bn,bc,bL⟩⟩):=by
    show (⟨nm,rL,oL,tys tL,lL.map LcW.v,ar,M.map BkW.v⟩:BdV)=⟨nm,rL,oL,tys tL,lL.map LcW.v,ar,(bL.map BkW.v).map nopBk⟩
    rw [hM]
   have HVE:=hide hcv
   have HCV:=hide (show bdErr (BdW.v ⟨nm,⟨rA,rn,rc,rL⟩,⟨oA,on,oc,oL⟩,⟨tA,tm,tc,tL⟩,⟨lA,ln,lc,lL⟩,ar,⟨A,bn,c,M⟩⟩)=v from by
    rw [hcv,bdErr_nop ?_]
    ·
     exact HV.out
    ·
     intro k hk
     obtain ⟨p,hp,rfl⟩:=List.mem_map.1 hk
     have h1:p.stmts.L.length=p.stmts.n:=(HO3.out.blocks.all p hp).stmts.len
     have h2:=szB_stmts HSZ.out hp
     show (p.stmts.L.map StW.v).length≤65534
     rw [List.length_map]
     omega)
   have hcx:=hide fun (w':World) (y:Below wq.heap.size wq w')=>And.intro (HC3.out w' (HW.out.trans (y.mono HW.out.size))) (bx7 (HX3.out.below y))
   have HD:=hide ((Below.refl wq.heap.size wq).drew)
   clear hM hcv
   go_wp2
   refine wp_region_held_drew (S:=(fun w'=>Below wq.heap.size wq w')) (by kernel_rfl) HD.out (fun hHeld=>?_)
   refine planS [0,2] ?_
   repeat' (first | refine pT hHeld rfl ?_ | refine pS hHeld rfl ?_)
   refine planE ?_
   refine wpAnyH_ready (rs:=[1]) (by kernel_rfl) (by simp) ?_
   refine AllReadyH.cons rfl (fun KZ hK=>?_) AllReadyH.nil
   go_simp
   refine (vCheck_is (x:=⟨nm,⟨rA,rn,rc,rL⟩,⟨oA,on,oc,oL⟩,⟨tA,tm,tc,tL⟩,⟨lA,ln,lc,lL⟩,ar,⟨A,bn,c,M⟩⟩) (HC.out.up HD.out) HN.out (HTT.out.up (HW.out.trans (HD.out.mono HW.out.size))) HCV.out).mono ?_
   rintro f1 v1 ⟨rfl,hb0⟩
   have HY1:=hide (HD.out.trans (hb0.mono HD.out.size))
   clear hb0
   refine hK.out _ _ HY1.out (fun hHeld=>?_)
   clear hK KZ
   try simp only [Act.put,List.setIfInBounds_toArray,List.set_cons_zero,List.set_cons_succ]
   refine wpAnyH_ready (rs:=[3]) (by kernel_rfl) (by simp) ?_
   refine AllReadyH.cons rfl (fun KZ hK=>?_) AllReadyH.nil
   go_simp
   refine (vCheck_is (x:=⟨nm,⟨rA,rn,rc,rL⟩,⟨oA,on,oc,oL⟩,⟨tA,tm,tc,tL⟩,⟨lA,ln,lc,lL⟩,ar,⟨bA,bn,bc,bL⟩⟩) (HO3.out.up (HW.out.trans (HY1.out.mono HW.out.size))) HN.out (HTT.out.up (HW.out.trans (HY1.out.mono HW.out.size))) HV.out).mono ?_
   rintro f2 v2 ⟨rfl,hb0⟩
   have HY2:=hide (HY1.out.trans (hb0.mono HY1.out.size))
   clear hb0
   refine hK.out _ _ HY2.out (fun hHeld=>?_)
   clear hK KZ
   try simp only [Act.put,List.setIfInBounds_toArray,List.set_cons_zero,List.set_cons_succ]
   refine planS [4] ?_
   repeat' (first | refine pT hHeld rfl ?_ | refine pS hHeld rfl ?_)
   refine planE ?_
   refine wpAnyH_done (by kernel_rfl) ?_ _
   obtain ⟨⟨b4_0,b4_1,b4_2,b4_3,b4_4,b4_5,b4_6⟩,_⟩:=hcx.out _ HY2.out
   by_cases q3:v=0
   case neg=>
    have t3:(v != 0)=true:=by simp [q3]
    clear q3
    go_wp2_with fail
    refine (RCheck_is (HO3.out.up (HW.out.trans (HY2.out.mono HW.out.size))) HV.out).mono ?_
    rintro e5 w5 ⟨rfl,hb5⟩
    have HY3:=hide (HY2.out.trans (hb5.mono HY2.out.size))
    clear hb5
    go_wp2_with fail
    refine (alive10_any _ (HTT.out.up (HW.out.trans (HY3.out.mono HW.out.size)))).mono ?_
    rintro e9 w9 ⟨rfl,hb9⟩
    have HY9:=hide (HY3.out.trans (hb9.mono HY3.out.size))
    clear hb9
    go_wp2
    go_ret
    exact ⟨rfl,HB3.out.trans ((HW.out.trans (HY9.out.mono HW.out.size)).mono HB3.out.size)⟩
   have t3:(v != 0)=false:=by simp [q3]
   subst q3
   go_wp2_with fail
   refine (RCheck_is (HO3.out.up (HW.out.trans (HY2.out.mono HW.out.size))) HV.out).mono ?_
   rintro e5 w4 ⟨rfl,hb5⟩
   have HY3:=hide (HY2.out.trans (hb5.mono HY2.out.size))
   clear hb5 b4_0 b4_1 b4_2 b4_3 b4_4 b4_5 b4_6
   have HX4:=hide (HX3.out.below HY3.out)
   have HO4:=hide (ownsRow_below HO.out HY3.out)
   have HZ4:=hide (fun (z:BkW) (hz:z∈M)=>(HZ.out z hz).keep HY3.out)
   have HW4:=hide (HW.out.trans (HY3.out.mono HW.out.size))
   clear HX3 HO HZ HW HY1 HY2 HY3 hcx HC HD HBX0 HBL0
   obtain ⟨i1,hi1,hy0,hy1,hy2⟩:=info_parts info9Bk
   have cf6:=HX4.out.cell (j:=6) rfl
   have hb5:Below w4.heap.size w4 (w4.alloc (.cells #[.slice none 0 0,.int .i64 5,.slice none 0 0,.slice none 0 0,.int .i64 0,.slice none 0 0,.string .empty] 52)):=below1 _ _
   have HB5:=hide hb5
   have HO5:=hide (ownsRow_below HO4.out hb5)
   have HL5:=hide (show Cells (w4.alloc (.cells #[.slice none 0 0,.int .i64 5,.slice none 0 0,.slice none 0 0,.int .i64 0,.slice none 0 0,.string .empty] 52)) (w4.heap.size+1) 7 cBk (some ⟨w4.heap.size,0,none⟩) 1 [endW] from lit_cells w4 cBk cBk_len endW 52)
   have HX5:=hide (HX4.out.below hb5)
   have HW5:=hide (HW4.out.trans (hb5.mono HW4.out.size))
   have hs5:w3.heap.size≤(w4.alloc (.cells #[.slice none 0 0,.int .i64 5,.slice none 0 0,.slice none 0 0,.int .i64 0,.slice none 0 0,.string .empty] 52)).heap.size:=HW5.out.size
   clear hb5
   go_wp2_with (at_builtin;refine wpList_append_cells (w4.alloc (.cells #[.slice none 0 0,.int .i64 5,.slice none 0 0,.slice none 0 0,.int .i64 0,.slice none 0 0,.string .empty] 52)) rfl (.tmp 47) (.tmp 50) 26 rfl cBk_len (by decide) cBk_one w3.heap.size 52 i1 _ 128 Tryz.underlying26 hi1 hy0 hy1 hy2 rfl _ bn (M.flatMap cBk) rfl HO5.out _ (some ⟨w4.heap.size,0,none⟩) 1 1 [endW] rfl HL5.out (by unfold maxLen;omega) (by omega) hs5 ?_;intro v8 w8 hown8 hg8 _;obtain ⟨A9,k9,rfl⟩:=own_slice9 hown8;have HO8:=hide hown8;have hk8:=KT.of_grown hg8 HO5.out;have HK8:=hide hk8;have HX8:=hide (HX5.out.kt hk8 (by decide));have HW8:=hide (below_app HW5.out HO5.out hs5 hg8);have dg6:=HX8.out.cell (j:=6) rfl;have ff6:=HX8.out.frozen 6;clear hown8 hg8 hk8)
   have hkt:=KT.of_set HX8.out 6 (.slice A9 (bn+1) k9)
   have HZ9:=hide (show ∀ z∈M++[endW],Nz w3 (w8.setCell ⟨w3.heap.size,6,none⟩ (.slice A9 (bn+1) k9)) z from by
    intro z hz
    rcases List.mem_append.1 hz with hz | hz
    ·
     exact (((HZ4.out z hz).keep HB5.out).kt HK8.out (by decide)).kt hkt (by decide)
    ·
     obtain rfl:=List.mem_singleton.1 hz
     exact ⟨World.ownsRow_nil _ _ _ _,(fun s hs=>by cases hs),endW_tm _ _⟩)
   have HO9:=hide (show (w8.setCell ⟨w3.heap.size,6,none⟩ (.slice A9 (bn+1) k9)).ownsRow w3.heap.size 52 7 (.slice A9 (bn+1) k9) (bn+1) ((M++[endW]).flatMap cBk) from by
    rw [List.flatMap_append]
    exact own_kt HO8.out hkt (by decide))
   have HX9:=hide (HX8.out.set 6 (.slice A9 (bn+1) k9))
   have HW9:=hide (HW8.out.setCell (p:=⟨w3.heap.size,6,none⟩) (Nat.le_refl _) (.slice A9 (bn+1) k9))
   clear hkt cf6 dg6 ff6
   generalize (w8.setCell ⟨w3.heap.size,6,none⟩ (.slice A9 (bn+1) k9))=wz at *
   have hmm:M.map BkW.v=(bL.map BkW.v).map nopBk:=congrArg BdV.blocks HVE.out
   have hev:BdW.v ⟨nm,⟨rA,rn,rc,rL⟩,⟨oA,on,oc,oL⟩,⟨tA,tm,tc,tL⟩,⟨lA,ln,lc,lL⟩,ar,⟨A9,bn+1,k9,M++[endW]⟩⟩=endBd (nopBd (BdW.v ⟨nm,⟨rA,rn,rc,rL⟩,⟨oA,on,oc,oL⟩,⟨tA,tm,tc,tL⟩,⟨lA,ln,lc,lL⟩,ar,⟨bA,bn,bc,bL⟩⟩)):=by
    show (⟨nm,rL,oL,tys tL,lL.map LcW.v,ar,(M++[endW]).map BkW.v⟩:BdV)=⟨nm,rL,oL,tys tL,lL.map LcW.v,ar,(bL.map BkW.v).map nopBk++[endBk]⟩
    rw [List.map_append,hmm]
    rfl
   have HCE:=hide (copy_one (x:=⟨nm,⟨rA,rn,rc,rL⟩,⟨oA,on,oc,oL⟩,⟨tA,tm,tc,tL⟩,⟨lA,ln,lc,lL⟩,ar,⟨bA,bn,bc,bL⟩⟩) HO3.out HW9.out HO9.out HZ9.out)
   have HEV:=hide (show bdErr (BdW.v ⟨nm,⟨rA,rn,rc,rL⟩,⟨oA,on,oc,oL⟩,⟨tA,tm,tc,tL⟩,⟨lA,ln,lc,lL⟩,ar,⟨A9,bn+1,k9,M++[endW]⟩⟩)=0 from by
    rw [hev]
    refine bdErr_end (HVE.out ▸ HCV.out) ?_
    show ((bL.map BkW.v).map nopBk).length < 65535
    rw [List.length_map,List.length_map,HBL.out]
    omega)
   obtain ⟨N',hN'⟩:∃ n,N+4*bn+3=n:=⟨_,rfl⟩
   have HEN:=hide (show bdN (BdW.v ⟨nm,⟨rA,rn,rc,rL⟩,⟨oA,on,oc,oL⟩,⟨tA,tm,tc,tL⟩,⟨lA,ln,lc,lL⟩,ar,⟨A9,bn+1,k9,M++[endW]⟩⟩)=N' from by
    rw [hev,bdN_nop,HNN.out,← hN']
    show N+4*(bL.map BkW.v).length+3=_
    rw [List.length_map,HBL.out])
   have hnl:N≤2 ^ 60:=by
    have:=nodes_le HO3.out HSZ.out
    rw [HNN.out] at this
    exact this
   have hnl2:N'≤2 ^ 62:=by omega
   have HNL:=hide (show N≤2 ^ 62 by omega)
   have HNL2:=hide hnl2
   have e1:IntKind.i64.wrap (4*(bn:Int))=4*(bn:Int):=wrapI9 _ (by omega) (by omega)
   have e2:IntKind.i64.wrap ((N:Int)+4*(bn:Int))=(N:Int)+4*(bn:Int):=wrapI9 _ (by omega) (by omega)
   have e3:IntKind.i64.wrap ((N:Int)+4*(bn:Int)+3)=(N:Int)+4*(bn:Int)+3:=wrapI9 _ (by omega) (by omega)
   have e4:((N':Int) == (N:Int)+4*(bn:Int)+3)=true:=by rw [beq_iff_eq];omega
   clear hmm hev hN' hnl hnl2
   have hcx:=hide fun (w':World) (y:Below wz.heap.size wz w')=>And.intro (HC3.out w' (HW9.out.trans (y.mono HW9.out.size))) (bx7 (HX9.out.below y))
   have HD:=hide ((Below.refl wz.heap.size wz).drew)
   refine wp_region_held_drew (S:=(fun w'=>Below wz.heap.size wz w')) (by kernel_rfl) HD.out (fun hHeld=>?_)
   refine wpAnyH_ready (rs:=[0]) (by kernel_rfl) (by simp) ?_
   refine AllReadyH.cons rfl (fun KZ hK=>?_) AllReadyH.nil
   go_simp
   refine (alive10_any _ (HTT.out.up (HW9.out.trans (HD.out.mono HW9.out.size)))).mono ?_
   rintro f1 v1 ⟨rfl,hb0⟩
   have HY1:=hide (HD.out.trans (hb0.mono HD.out.size))
   clear hb0
   refine hK.out _ _ HY1.out (fun hHeld=>?_)
   clear hK KZ
   try simp only [Act.put,List.setIfInBounds_toArray,List.set_cons_zero,List.set_cons_succ]
   refine planS [1,2] ?_
   repeat' (first | refine pT hHeld rfl ?_ | refine pS hHeld rfl ?_)
   refine planE ?_
   refine wpAnyH_ready (rs:=[3]) (by kernel_rfl) (by simp) ?_
   refine AllReadyH.cons rfl (fun KZ hK=>?_) AllReadyH.nil
   go_simp
   refine (vCheck_is (x:=⟨nm,⟨rA,rn,rc,rL⟩,⟨oA,on,oc,oL⟩,⟨tA,tm,tc,tL⟩,⟨lA,ln,lc,lL⟩,ar,⟨A9,bn+1,k9,M++[endW]⟩⟩) (HCE.out.up HY1.out) HN.out (HTT.out.up (HW9.out.trans (HY1.out.mono HW9.out.size))) HEV.out).mono ?_
   rintro f2 v2 ⟨rfl,hb0⟩
   have HY2:=hide (HY1.out.trans (hb0.mono HY1.out.size))
   clear hb0
   refine hK.out _ _ HY2.out (fun hHeld=>?_)
   clear hK KZ
   try simp only [Act.put,List.setIfInBounds_toArray,List.set_cons_zero,List.set_cons_succ]
   refine planS [4,5,6,7,9,11,12,13,14] ?_
   repeat' (first | refine pT hHeld rfl ?_ | refine pS hHeld rfl ?_)
   refine planE ?_
   refine wpAnyH_ready (rs:=[8]) (by kernel_rfl) (by simp) ?_
   refine AllReadyH.cons rfl (fun KZ hK=>?_) AllReadyH.nil
   go_simp
   refine (RNodes_is (x:=⟨nm,⟨rA,rn,rc,rL⟩,⟨oA,on,oc,oL⟩,⟨tA,tm,tc,tL⟩,⟨lA,ln,lc,lL⟩,ar,⟨A9,bn+1,k9,M++[endW]⟩⟩) HEN.out _ (HCE.out.up HY2.out) HNL2.out).mono ?_
   rintro f3 v3 ⟨rfl,hb0⟩
   have HY3:=hide (HY2.out.trans (hb0.mono HY2.out.size))
   clear hb0
   refine hK.out _ _ HY3.out (fun hHeld=>?_)
   clear hK KZ
   try simp only [Act.put,List.setIfInBounds_toArray,List.set_cons_zero,List.set_cons_succ]
   refine wpAnyH_ready (rs:=[10]) (by kernel_rfl) (by simp) ?_
   refine AllReadyH.cons rfl (fun KZ hK=>?_) AllReadyH.nil
   go_simp
   refine (RNodes_is (x:=⟨nm,⟨rA,rn,rc,rL⟩,⟨oA,on,oc,oL⟩,⟨tA,tm,tc,tL⟩,⟨lA,ln,lc,lL⟩,ar,⟨bA,bn,bc,bL⟩⟩) HNN.out _ (HO3.out.up (HW9.out.trans (HY3.out.mono HW9.out.size))) HNL.out).mono ?_
   rintro f4 v4 ⟨rfl,hb0⟩
   have HY4:=hide (HY3.out.trans (hb0.mono HY3.out.size))
   clear hb0
   refine hK.out _ _ HY4.out (fun hHeld=>?_)
   clear hK KZ
   try simp only [Act.put,List.setIfInBounds_toArray,List.set_cons_zero,List.set_cons_succ]
   refine planS [15,16,17,18,19] ?_
   repeat' (first | refine pT hHeld rfl ?_ | refine pS hHeld rfl ?_)
   refine planE ?_
   refine wpAnyH_done (by kernel_rfl) ?_ _
   go_wp2
   go_ret
   exact ⟨rfl,HB3.out.trans ((HW9.out.trans (HY4.out.mono HW9.out.size)).mono HB3.out.size)⟩
theorem own:ownKnob Tryz.prog.godebug=none:=by kernel_rfl
theorem laidOut:laidOutB Tryz.prog=true:=by kernel_rfl
theorem contract (H:Type) (enc:TypeId×Value→H) (W:World) (base:Nat) (args:Array Value) (ds gs:List (DataW H)) (before:List MemPlace)
  (hval0:∀ (j:Nat) t v,Tryz.f8.params[j]?=some t→args[j]?=some v→Value.okWide Tryz.prog W .any base t v)
  (hW:DataW.Whole enc Tryz.prog Tryz.f8.params.toList Rows.validNopsSpec.vars false W args.toList ds gs before) (hsz0:(DataW.weightsEach Tryz.prog (Tryz.f8.params.toList++Rows.validNopsSpec.plain.varTypes Tryz.prog) (ds++gs)).all (·≤reachBytes)=true) (hT:OpsT W) :
  Calls Tryz.prog 8 args W fun e W'=>∃ v,e=.returned v∧Rows.validNopsSpec.post enc Tryz.prog Tryz.f8 false true false false W args v W':=by
 have hval:∀ (j:Nat) t v,Tryz.f8.params[j]?=some t→args[j]?=some v→Value.okWide Tryz.prog W .any base t v:=hval0
 have hW':=hW
 obtain ⟨p,q,hA0,hV,rfl,hfz,hnd⟩:=hW
 have hA:DataW.TrodAll enc Tryz.prog W 0 (fun _=>true) true Tryz.f8.params.toList args.toList ds p:=hA0
 have hsz:(DataW.weightsEach Tryz.prog (Tryz.f8.params.toList++Rows.validNopsSpec.plain.varTypes Tryz.prog) (ds++gs)).all (·≤reachBytes)=true:=hsz0
 rw [Tryz.params8] at hA hval hsz
 obtain ⟨v0,vs0,d0,ds0,p0,q0,hargs,rfl,rfl,h0,r0⟩:=trodAll_cons hA
 obtain ⟨rfl,rfl,rfl⟩:=trodAll_nil r0
 obtain rfl:args=#[v0]:=by cases args;simp_all
 obtain ⟨rfl,rfl⟩:=trodVars_none hV
 have k0:=h0
 have lt0:∀ x∈p0,x.block < W.heap.size:=by obtain ⟨m,hm⟩:=k0;exact DataW.trod_lt m _ _ _ hm
 obtain ⟨x0,rfl,g0,f0⟩:=openBody (hval 0 28 v0 rfl rfl) h0
 have s0:FitBd x0:=f0 (List.all_eq_true.2 fun n hn=>List.all_eq_true.1 hsz n (DataW.weights_mem_each (j:=0) (t:=28) rfl rfl n hn))
 clear hA0 hval0 hsz hsz0
 simp only [List.append_nil] at hW'
 refine (walk x0 W g0 s0 hT).mono fun e W' ⟨he,bel⟩=>?_
 subst he
 exact ⟨_,rfl,_,_,_,[],_,[],hW',trodAll_mk1 (shut_bool Tryz.underlying4 _),(trodAll_cons_mk (Below.trod laidOut (by kernel_rfl) (of_decide_eq_true (by kernel_rfl)) k0 bel lt0) trodAll_mk0),rfl,bel.frame _,fun h=>by cases h⟩
theorem lifted (os:Os) (started:os.Started) (H:Type) (enc:TypeId×Value→H) :
  ReturnsInHanded {} Tryz.checked os 8 .any (fun w args=>(Rows.validNopsSpec.pre enc Tryz.prog Tryz.f8 [] false w args∧laidMetH Tryz.prog laid1 w)∧sizedMet enc Tryz.prog Tryz.f8 (OpenSpec.ofChange Rows.validNopsSpec) false w args) (Rows.validNopsSpec.post enc Tryz.prog Tryz.f8 false true false false):=by
 refine returnsInHanded_of_change_and (C:=Tryz.checked) (X:=fun w _=>laidMetH Tryz.prog laid1 w) (fun _ _ _ hh h=>h.of_heap hh) own started (by kernel_rfl) Tryz.func8
  (ChangeSpec.witness_shaped (enc:=enc) (C:=Tryz.checked) (os:=os) (X:=fun w _=>laidMetH Tryz.prog laid1 w) false (World.doorLaid Tryz.prog 400 os) #[.agg #[.string .empty,.slice none 0 0,.slice none 0 0,.slice none 0 0,.slice none 0 0,.int .i64 0,.slice none 0 0]] 8 rfl (World.shaped_of_RefB (by kernel_rfl) (by kernel_rfl)) (by kernel_rfl) (by kernel_rfl) (by kernel_rfl) (door_met os _)) ?_
 intro W base args ds gs before hval hW _ hsz hL _
 exact contract H enc W base args ds gs before hval hW hsz (opsT_of hL)
theorem rowProved:Rows.ValidNopsSaid:=
 OpenClaim.holds_of_wide 8 Tryz.f8 rfl rfl rfl rfl rfl rfl rfl ⟨rfl,rfl,rfl,rfl,rfl⟩ rfl rfl rfl rfl rfl (by kernel_rfl) Tryz.func8 (by kernel_rfl)
  (of_decide_eq_true (by kernel_rfl)) (by unfold Func.isWrapper;first | (rw [if_pos (by decide +kernel)];kernel_rfl) | (rw [if_neg (by decide +kernel)];exact ⟨rfl,rfl⟩))
  (fun os started H enc _=>lifted os started H enc)
theorem proved:Rows.ValidNopsCardSaid:=
 Claim7.holds_tied_plain_at .later [] [.data] true Rows.validNopsCard.stood.harness false
  rowProved (fun _ h=>by cases h) (by kernel_rfl) (fun _ h=>by cases h) validNops_row_tie rfl ⟨rfl,rfl⟩ (by kernel_rfl) rfl
  (fun f fn hf hfn=>by
   obtain rfl:f=8:=Option.some.inj ((show Tryz.prog.funcNamed "mirtower/mirtowerlaw10.ValidNops"=some 8 by kernel_rfl).symm.trans hf) |>.symm
   obtain rfl:fn=Tryz.f8:=(Option.some.inj (Tryz.func8.symm.trans hfn)).symm
   exact ⟨by kernel_rfl,fun j t ht=>by
    rw [Tryz.params8] at ht
    have hm:t∈[28]:=by simpa using Array.mem_of_getElem? ht
    have hall:([28].all fun u=>!Tryz.prog.wantsStandIn u)=true:=by kernel_rfl
    exact (show Tryz.prog.wantsStandIn t=false by simpa using List.all_eq_true.1 hall t hm)⟩)
  (by kernel_rfl)
end Go.Proofs.YtfgacmgjpikgaaaGreatDoor.validNops
