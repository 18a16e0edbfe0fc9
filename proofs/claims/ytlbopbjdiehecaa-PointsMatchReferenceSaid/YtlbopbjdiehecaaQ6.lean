/- Part 7 of the contracts and their mathematics. -/
import Derived.Test.YtlbopbjdiehecaaQ5
set_option linter.unusedVariables false
set_option linter.unusedSimpArgs false
set_option maxRecDepth 100000
set_option maxHeartbeats 8000000
namespace Go.Proofs.Ytlbopbjdiehecaa
open Go.RowKit
abbrev st00:StW:=⟨0,⟨0,none,0,0,[]⟩,⟨0,0,0,false,⟨0,none,0,0,[]⟩,⟨none,0,0,[]⟩⟩,0⟩
abbrev bd00:BdW:=⟨.empty,⟨none,0,0,[]⟩,⟨none,0,0,[]⟩,⟨none,0,0,[]⟩,⟨none,0,0,[]⟩,0,⟨none,0,0,[]⟩⟩
def gBk (x:GbW):BkV:=⟨(List.replicate x.s.toNat st00).map StW.v,⟨0,x.t.L,[],⟨0,[]⟩,.empty⟩⟩
def szG (x:GbW):Nat:=x.s.toNat+1+min x.t.n 500
theorem slH11 {α:Type} (w:World) (B k:Nat) (f:α→List Value) (Q:α→Prop):SlH w B k f Q ⟨none,0,0,[]⟩:=⟨Nat.le_refl _,Nat.zero_le _,⟨rfl,fun h=>absurd h (Nat.lt_irrefl 0)⟩,fun x hx=>by cases hx⟩
theorem int11 {x:Int} (h:-100≤x∧x≤100):IntR x:=⟨by omega,by omega⟩
theorem pl11 (w:World) (B:Nat):OnePl w B ⟨0,none,0,0,[]⟩:=⟨Nat.le_refl _,Nat.zero_le _,int11 (by decide),⟨⟨rfl,fun h=>absurd h (Nat.lt_irrefl 0)⟩,fun x hx=>by cases hx⟩⟩
theorem st11 (w:World) (B:Nat):OneSt w B st00:=⟨int11 (by decide),pl11 _ _,⟨int11 (by decide),int11 (by decide),int11 (by decide),pl11 _ _,slH11 _ _ _ _ _⟩,int11 (by decide)⟩
def Mz (w0:World) (w:World) (z:BkW):Prop:=w.ownsRow w0.heap.size 67 11 z.stmts.val z.stmts.n (z.stmts.L.flatMap cSt)∧(∀ s∈z.stmts.L,OneSt w0 w0.heap.size s)∧OneTm w0 w0.heap.size z.term
theorem Mz.keep {w0 w w':World} {z:BkW} (h:Mz w0 w z) (hb:Below w.heap.size w w'):Mz w0 w' z:=⟨ownsRow_below h.1 hb,h.2⟩
theorem Mz.kt {w0 w w':World} {z:BkW} {e:TypeId} (h:Mz w0 w z) (hk:KT e w w') (he:67≠e):Mz w0 w' z:=⟨own_kt h.1 hk he,h.2⟩
theorem Mz.one {w0 w:World} {z:BkW} (h:Mz w0 w z) (hb:Below w0.heap.size w0 w):OneBk w w.heap.size z:=
 ⟨own_sl cSt_len (by decide) h.1 (fun s hs=>(h.2.1 s hs).up hb),h.2.2.up hb⟩
theorem results_row_tmp {P:Program} {fn:Func} {p u:Tmp} {ty:TypeId} (h:fn.results=#[.cell p ty,.tmp u]) (tmps:Array Value) (w:World) (g:Nat) (t:TypeId) (cs:Array Value) (fr:Nat×Nat) (d:TypeDesc)
  (hp:tmps.getD p undef=.pointer (some ⟨g,0,none⟩)) (hg:w.heap[g]?=some (.cells cs t fr))
  (hu:P.underlying ty=some d) (hd:(match d with | .struct _ | .array _ _=>true | _=>false)=true) (hi:(P.info? ty).map (·.size)=some cs.size) :
  (results fn tmps).run P w=.ok (.tuple #[.agg cs,tmps.getD u undef]) w:=by
 rw [results_cell_tmp h,hp]
 simp [asAddr,run_loadVar_row w g t ty cs fr d hg hu hd hi,Result.andThen]
theorem made_flat {α:Type} {f:α→List Value} {x:α} {z:Array Value} {k:Nat} (hk:∀ x,(f x).length=k) (h0:0 < k) (hz:z=(f x).toArray) (n:Nat):(madeCells z (n*k)).toList=(List.replicate n x).flatMap f:=by
 have hl:((List.replicate n x).flatMap f).length=n*k:=by
  rw [List.length_flatMap]
  simp [hk]
 apply List.ext_getElem
 ·
  rw [hl];simp [size_madeCells]
 ·
  intro i h1 h2
  have hi:i < n*k:=by rw [hl] at h2;exact h2
  have hr:i % k < k:=Nat.mod_lt _ h0
  have hq:i / k < n:=Nat.div_lt_of_lt_mul (by rw [Nat.mul_comm];exact hi)
  have e:=flatMap_at hk (L:=List.replicate n x) (i:=i / k) (x:=x) (j:=i % k) (by rw [List.getElem?_replicate,if_pos hq]) hr
  rw [show i / k*k+i % k=i from by rw [Nat.mul_comm];exact Nat.div_add_mod i k] at e
  have h3:(f x)[i % k]?=some ((f x)[i % k]'(by rw [hk];exact hr)):=List.getElem?_eq_getElem _
  rw [h3,List.getElem?_eq_getElem h2] at e
  injection e with e
  rw [e]
  subst hz
  simp [madeCells,hk,hr,getElem!_pos]
theorem szG_len:∀ l:List GbW,l.length≤sumN szG l
 | []=>Nat.zero_le _
 | x :: l=>by
  rw [sumN_cons,List.length_cons]
  have h1:=szG_len l
  have h2:1≤szG x:=by unfold szG;omega
  omega
theorem KT.of_setRow {w:World} {g:Nat} {cs:List Value} {T:TypeId} (h:Bx w g cs T) (vs:Array Value):KT T w (w.setRow g vs):=fun k cs' e' fz hk he=>by
 by_cases hkg:k=g
 ·
  subst hkg
  have e:=hk.symm.trans h
  injection e with e
  injection e with _ e _
  exact absurd e he
 ·
  exact setRow_other w g k vs hkg
def BodyOut (w:World) (g:SlW GbW) (e:Ending) (w':World):Prop:=Below w.heap.size w w'∧(e=.returned (.tuple #[aggBd bd00,.int .i64 0])∨∃ x:BdW,e=.returned (.tuple #[aggBd x,.int .i64 1])∧OneBd w' w'.heap.size x∧x.v.blocks=g.L.map gBk∧sumN szG g.L≤150)
theorem GBody_any (g:SlW GbW) (w:World) (hg:Gbs w w.heap.size g):Calls Try.prog 9 #[aggG g] w (BodyOut w g):=by
 have hgl:=hg.len
 have hgm:=hg.nm
 unfold maxLen at hgm
 have HG:=hide hg
 obtain ⟨gA,gn,gc,gL⟩:=g
 have HGL:=hide (show gL.length=gn from hgl)
 have hgm:gn≤2 ^ 63 - 1:=hgm
 clear hg hgl
 go_enter Try.func9,Try.ntmps9
 have b1:=below1 w (.cells #[.slice gA gn gc] 24)
 have b2:=below1 (w.alloc (.cells #[.slice gA gn gc] 24)) (.cells #[.string ⟨#[]⟩,.slice none 0 0,.slice none 0 0,.slice none 0 0,.slice none 0 0,.int .i64 0,.slice none 0 0] 32)
 have b3:=below1 ((w.alloc (.cells #[.slice gA gn gc] 24)).alloc (.cells #[.string ⟨#[]⟩,.slice none 0 0,.slice none 0 0,.slice none 0 0,.slice none 0 0,.int .i64 0,.slice none 0 0] 32)) (.cells #[.string ⟨#[]⟩,.slice none 0 0,.slice none 0 0,.slice none 0 0,.slice none 0 0,.int .i64 0,.slice none 0 0] 32)
 obtain ⟨WW,hWW⟩:∃ u,u=(((w.alloc (.cells #[.slice gA gn gc] 24)).alloc (.cells #[.string ⟨#[]⟩,.slice none 0 0,.slice none 0 0,.slice none 0 0,.slice none 0 0,.int .i64 0,.slice none 0 0] 32)).alloc (.cells #[.string ⟨#[]⟩,.slice none 0 0,.slice none 0 0,.slice none 0 0,.slice none 0 0,.int .i64 0,.slice none 0 0] 32)):=⟨_,rfl⟩
 have hsz1:(w.alloc (.cells #[.slice gA gn gc] 24)).heap.size=w.heap.size+1:=by simp
 have hsz2:((w.alloc (.cells #[.slice gA gn gc] 24)).alloc (.cells #[.string ⟨#[]⟩,.slice none 0 0,.slice none 0 0,.slice none 0 0,.slice none 0 0,.int .i64 0,.slice none 0 0] 32)).heap.size=w.heap.size+2:=by simp
 have hsz3:(((w.alloc (.cells #[.slice gA gn gc] 24)).alloc (.cells #[.string ⟨#[]⟩,.slice none 0 0,.slice none 0 0,.slice none 0 0,.slice none 0 0,.int .i64 0,.slice none 0 0] 32)).alloc (.cells #[.string ⟨#[]⟩,.slice none 0 0,.slice none 0 0,.slice none 0 0,.slice none 0 0,.int .i64 0,.slice none 0 0] 32)).heap.size=w.heap.size+3:=by simp
 have hx1:=(Bx.new (w.alloc (.cells #[.slice gA gn gc] 24)) [.string ⟨#[]⟩,.slice none 0 0,.slice none 0 0,.slice none 0 0,.slice none 0 0,.int .i64 0,.slice none 0 0] 32).below b3
 have hx2:=Bx.new ((w.alloc (.cells #[.slice gA gn gc] 24)).alloc (.cells #[.string ⟨#[]⟩,.slice none 0 0,.slice none 0 0,.slice none 0 0,.slice none 0 0,.int .i64 0,.slice none 0 0] 32)) [.string ⟨#[]⟩,.slice none 0 0,.slice none 0 0,.slice none 0 0,.slice none 0 0,.int .i64 0,.slice none 0 0] 32
 rw [hsz1] at hx1
 rw [hsz2] at hx2
 have HBW:=hide (show Below w.heap.size w WW from hWW ▸ (b1.trans ((b2.mono b1.size).trans (b3.mono (Nat.le_trans b1.size b2.size)))))
 have HX1:=hide (show Bx WW (w.heap.size+1) [.string ⟨#[]⟩,.slice none 0 0,.slice none 0 0,.slice none 0 0,.slice none 0 0,.int .i64 0,.slice none 0 0] 32 from hWW ▸ hx1)
 have HX2:=hide (show Bx WW (w.heap.size+2) [.string ⟨#[]⟩,.slice none 0 0,.slice none 0 0,.slice none 0 0,.slice none 0 0,.int .i64 0,.slice none 0 0] 32 from hWW ▸ hx2)
 have HSW:=hide (show WW.heap.size=w.heap.size+3 from hWW ▸ hsz3)
 have HWW:=hide hWW
 clear b1 b2 b3 hWW hsz1 hsz2 hsz3 hx1 hx2
 go_wp2
 rw [←HWW.out]
 go_loopw [5,11] (fun u i wr=>∃ j m:Nat,∃ A c,∃ M:List BkW,i=.int .i64 (j:Int)∧u=.int .i64 (m:Int)∧j≤gn∧m≤150∧Hid (m=sumN szG (gL.take j))∧Hid (M.map BkW.v=(gL.take j).map gBk)∧Hid (wr.ownsRow w.heap.size 58 7 (.slice A j c) j (M.flatMap cBk))∧Hid (∀ z∈M,Mz w wr z)∧Hid (Bx wr (w.heap.size+1) [.string ⟨#[]⟩,.slice none 0 0,.slice none 0 0,.slice none 0 0,.slice none 0 0,.int .i64 0,.slice none 0 0] 32)∧Hid (Bx wr (w.heap.size+2) [.string ⟨#[]⟩,.slice none 0 0,.slice none 0 0,.slice none 0 0,.slice none 0 0,.int .i64 0,.slice A j c] 32)∧Hid (Below w.heap.size w wr)) (fun _ i _=>gn - (intOf i).toNat)
 case atStart=>exact ⟨0,0,none,0,[],rfl,rfl,Nat.zero_le _,by omega,hide (by simp [sumN_nil]),hide rfl,hide (World.ownsRow_nil _ _ _ _),hide (fun z hz=>by cases hz),HX1,HX2,HBW⟩
 case round=>
  obtain ⟨j,m,A,c,M,rfl,rfl,hj,hm,HM,HV,HO,HZ,HX1,HX2,HW⟩:=hrel
  generalize wr=wq at *
  by_cases hlt:j < gn
  ·
   have hlt':(j:Int) < (gn:Int):=by omega
   obtain ⟨x,hx⟩:∃ x,gL[j]?=some x:=⟨_,List.getElem?_eq_getElem (by have:=HGL.out;omega)⟩
   obtain ⟨b,o,hA,hb,h1,hc⟩:=HG.out.at_ hx
   have hA:gA=some ⟨b,o,none⟩:=hA
   subst hA
   obtain ⟨s,⟨tA,tn,tc,tL⟩⟩:=x
   have hs0:0≤s∧s≤255:=h1.s
   have htl:tL.length=tn:=h1.t.len
   have htm:tn≤maxLen:=h1.t.nm
   unfold maxLen at htm
   have c0:wq.cell? ⟨b,o+j*2,none⟩=some (.int .u8 s):=by simpa using (HW.out.cell (p:=⟨b,o+j*2+0,none⟩) hb).trans (hc 0 _ rfl)
   have c1:wq.cell? ⟨b,o+j*2+1,none⟩=some (.slice tA tn tc):=(HW.out.cell (p:=⟨b,o+j*2+1,none⟩) hb).trans (hc 1 _ rfl)
   have HXX:=hide hx
   have HT:=hide h1.t
   obtain ⟨k,rfl⟩:∃ k:Nat,s=(k:Int):=⟨s.toNat,by omega⟩
   have hu:=sumN_up (f:=szG) hx
   rw [←HM.out] at hu
   have hjm:j≤m:=by
    have h1:=szG_len (gL.take j)
    rw [←HM.out,List.length_take] at h1
    have h2:gL.length=gn:=HGL.out
    omega
   have hsg:szG ⟨(k:Int),⟨tA,tn,tc,tL⟩⟩=k+1+min tn 500:=rfl
   rw [hsg] at hu
   obtain ⟨t5,ht5⟩:∃ t,min tn 500=t:=⟨_,rfl⟩
   have ht55:t5≤500:=by omega
   rw [ht5] at hu
   have HU:=hide hu
   have HT5:=hide ht5
   have s1:IntKind.i64.wrap ((k:Int)+1)=(k:Int)+1:=wrapI9 _ (by omega) (by omega)
   have s2:IntKind.i64.wrap ((k:Int)+1+(t5:Int))=(k:Int)+1+(t5:Int):=wrapI9 _ (by omega) (by omega)
   have s3:IntKind.i64.wrap ((m:Int)+((k:Int)+1+(t5:Int)))=(m:Int)+((k:Int)+1+(t5:Int)):=wrapI9 _ (by omega) (by omega)
   have s4:IntKind.i64.wrap (k:Int)=(k:Int):=wrapI9 _ (by omega) (by omega)
   have s5:(if (500:Int) < (tn:Int) then (500:Int) else (tn:Int))=(t5:Int):=by split <;> omega
   clear hx hc h1 hu hsg ht5
   have HSZ:=hide (show (Try.prog.info? 32).map (·.size)=some 7 by kernel_rfl)
   have hbx:=below1 wq (.cells #[.int .u8 (k:Int),.slice tA tn tc] 63)
   have HX1b:=hide (HX1.out.below hbx)
   have HX2b:=hide (HX2.out.below hbx)
   have HWb:=hide (HW.out.trans (hbx.mono HW.out.size))
   have HOb:=hide (ownsRow_below HO.out hbx)
   have HZb:=hide (fun (z:BkW) (hz:z∈M)=>(HZ.out z hz).keep hbx)
   have HNB:=hide (Bx.new wq [.int .u8 (k:Int),.slice tA tn tc] 63)
   clear hbx
   by_cases hbig:150 < m+(k+1+t5)
   ·
    have hb2:(150:Int) < (m:Int)+((k:Int)+1+(t5:Int)):=by omega
    have HONE:=hide (all_oneCell_toArray (cs:=[.string ⟨#[]⟩,.slice none 0 0,.slice none 0 0,.slice none 0 0,.slice none 0 0,.int .i64 0,.slice none 0 0]) (fun u hu=>by simp only [List.mem_cons,List.not_mem_nil,or_false] at hu;rcases hu with rfl | rfl | rfl | rfl | rfl | rfl | rfl <;> rfl))
    clear hbig
    go_wp2_with (refine wpList_store_row rfl 32 _ _ rfl (w.heap.size+1) #[.string ⟨#[]⟩,.slice none 0 0,.slice none 0 0,.slice none 0 0,.slice none 0 0,.int .i64 0,.slice none 0 0] rfl rfl 32 #[.string ⟨#[]⟩,.slice none 0 0,.slice none 0 0,.slice none 0 0,.slice none 0 0,.int .i64 0,.slice none 0 0] ?_ ?_ ?_ ?_ ?_;exact HX1b.out;exact HSZ.out;rfl;exact HONE.out)
    refine bodyPost_ret (results_row_tmp rfl _ _ (w.heap.size+1) _ #[.string ⟨#[]⟩,.slice none 0 0,.slice none 0 0,.slice none 0 0,.slice none 0 0,.int .i64 0,.slice none 0 0] (0,0) _ rfl (setRow_heap _ _ _ _ _ _ HX1b.out) Try.underlying32 rfl (by kernel_rfl)) rfl ?_
    exact ⟨below_setRow9 HWb.out (Nat.le_succ _) _,.inl rfl⟩
   have hb2:¬(150:Int) < (m:Int)+((k:Int)+1+(t5:Int)):=by omega
   have hmk:m+(k+1+t5)≤150:=by omega
   clear hbig
   go_wp2
   generalize wq.alloc (.cells #[.int .u8 (k:Int),.slice tA tn tc] 63)=wb at *
   have x0:=HNB.out.cell (j:=0) rfl
   have x1:=HNB.out.cell (j:=1) rfl
   have y6:=HX2b.out.cell (j:=6) rfl
   obtain ⟨i1,hi1,hy0,hy1,hy2⟩:=info_parts info9Bk
   obtain ⟨i2,hi2,hv0,hv1,hv2⟩:=info_parts info9St
   obtain ⟨CS,hCS⟩:∃ CS,madeCells (Value.agg #[.int .i64 0,.int .i64 0,.slice none 0 0,.int .i64 0,.int .i64 0,.int .i64 0,.bool false,.int .i64 0,.slice none 0 0,.slice none 0 0,.int .i64 0]).cells (k*i2.size)=CS:=⟨_,rfl⟩
   have hcl:CS.toList=(List.replicate k st00).flatMap cSt:=by rw [←hCS,hv1];exact made_flat (x:=st00) cSt_len (by decide) rfl k
   have hcn:CS.size=k*11:=by rw [←hCS,size_madeCells,hv1]
   have hbd:=(Below.refl wb.heap.size wb).drew
   have hlb:w.heap.size≤wb.heap.size:=HWb.out.size
   have HO6s:=hide (show (wb.alloc (.cells CS 67)).ownsRow w.heap.size 67 11 (.slice (some ⟨wb.heap.size,0,none⟩) k k) k ((List.replicate k st00).flatMap cSt) from hcl ▸ World.ownsRow_lit (base:=w.heap.size) (size:=11) (e:=67) wb CS k hlb (by unfold maxLen;omega) hcn)
   have hb6:Below wb.heap.size wb (wb.alloc (.cells CS 67)):=below1 wb (.cells CS 67)
   have hb7:=(below1 (wb.alloc (.cells CS 67)) (.cells #[.slice (some ⟨wb.heap.size,0,none⟩) k k,.int .i64 0,.slice tA tn tc,.slice none 0 0,.int .i64 0,.slice none 0 0,.string ⟨#[]⟩] 58)).drew
   have hw6:(wb.alloc (.cells CS 67)).heap.size=wb.heap.size+1:=by simp
   have hbb:=hb6.trans (hb7.mono hb6.size)
   have HO7:=hide (ownsRow_below HOb.out hbb)
   have HX1c:=hide (HX1b.out.below hbb)
   have HX2c:=hide (HX2b.out.below hbb)
   have HW7:=hide (HWb.out.trans (hbb.mono HWb.out.size))
   have HBB:=hide hbb
   have HB7:=hide hb7
   have hl7:Cells ((wb.alloc (.cells CS 67)).alloc (.cells #[.slice (some ⟨wb.heap.size,0,none⟩) k k,.int .i64 0,.slice tA tn tc,.slice none 0 0,.int .i64 0,.slice none 0 0,.string ⟨#[]⟩] 58)) ((wb.alloc (.cells CS 67)).heap.size+1) 7 cBk (some ⟨wb.heap.size+1,0,none⟩) 1 [(⟨⟨some ⟨wb.heap.size,0,none⟩,k,k,List.replicate k st00⟩,⟨0,⟨tA,tn,tc,tL⟩,⟨none,0,0,[]⟩,⟨0,none,0,0,[]⟩,.empty⟩⟩:BkW)]:=hw6 ▸ lit_cells (wb.alloc (.cells CS 67)) cBk cBk_len (⟨⟨some ⟨wb.heap.size,0,none⟩,k,k,List.replicate k st00⟩,⟨0,⟨tA,tn,tc,tL⟩,⟨none,0,0,[]⟩,⟨0,none,0,0,[]⟩,.empty⟩⟩:BkW) 58
   have HL7:=hide (Cells.below hl7 ((Below.refl _ _).drew:Below ((wb.alloc (.cells CS 67)).heap.size+1) ((wb.alloc (.cells CS 67)).alloc (.cells #[.slice (some ⟨wb.heap.size,0,none⟩) k k,.int .i64 0,.slice tA tn tc,.slice none 0 0,.int .i64 0,.slice none 0 0,.string ⟨#[]⟩] 58)) ((wb.alloc (.cells CS 67)).alloc (.cells #[.slice (some ⟨wb.heap.size,0,none⟩) k k,.int .i64 0,.slice tA tn tc,.slice none 0 0,.int .i64 0,.slice none 0 0,.string ⟨#[]⟩] 58)).drew))
   have hs7:w.heap.size≤((wb.alloc (.cells CS 67)).alloc (.cells #[.slice (some ⟨wb.heap.size,0,none⟩) k k,.int .i64 0,.slice tA tn tc,.slice none 0 0,.int .i64 0,.slice none 0 0,.string ⟨#[]⟩] 58)).drew.heap.size:=HW7.out.size
   have xb0:=(HNB.out.below hb6).cell (j:=0) rfl
   have xb1:=(HNB.out.below hb6).cell (j:=1) rfl
   have yb6:=(HX2b.out.below hb6).cell (j:=6) rfl
   have yc6:=(HX2b.out.below (hb6.trans ((below1 (wb.alloc (.cells CS 67)) (.cells #[.slice (some ⟨wb.heap.size,0,none⟩) k k,.int .i64 0,.slice tA tn tc,.slice none 0 0,.int .i64 0,.slice none 0 0,.string ⟨#[]⟩] 58)).mono hb6.size))).cell (j:=6) rfl
   clear hl7 hcl hcn hbd hb6 hb7 hw6 hbb
   have hmake:∀ w':World,(Instr.makeSlice 50 (.int .u8 (k:Int)) (.int .u8 (k:Int))).run Try.prog w'=.ok (.slice (some ⟨w'.heap.size,0,none⟩) k k) (w'.alloc (.cells CS 67)):=fun w'=>by
    have hr:=run_make (P:=Try.prog) w' 50 67 i2 _ Try.underlying50 hi2 hv0 .u8 .u8 k k (by omega) (Int.le_refl _) (by rw [hv2];omega) (by omega)
    rw [Int.toNat_natCast,hCS] at hr
    exact hr
   go_region_law (first
    | (refine step_append_cells (w:=((wb.alloc (.cells CS 67)).alloc (.cells #[.slice (some ⟨wb.heap.size,0,none⟩) k k,.int .i64 0,.slice tA tn tc,.slice none 0 0,.int .i64 0,.slice none 0 0,.string ⟨#[]⟩] 58)).drew) (by rfl) (.tmp 30) (.tmp 38) 30 (by rfl) cBk_len (by decide) cBk_one w.heap.size 58 i1 _ 128 Try.underlying30 hi1 hy0 hy1 hy2 rfl _ j (M.flatMap cBk) (by rfl) HO7.out _ (some ⟨wb.heap.size+1,0,none⟩) 1 1 [(⟨⟨some ⟨wb.heap.size,0,none⟩,k,k,List.replicate k st00⟩,⟨0,⟨tA,tn,tc,tL⟩,⟨none,0,0,[]⟩,⟨0,none,0,0,[]⟩,.empty⟩⟩:BkW)] (by rfl) HL7.out (by unfold maxLen;omega) (by omega) hs7 ?_;intro v8 w8 hown8 hg8 _;obtain ⟨A8,k8,rfl⟩:=own_slice9 hown8;have HO8:=hide hown8;have hk8:=KT.of_grown hg8 HO7.out;have HK8:=hide hk8;have HX1d:=hide (HX1c.out.kt hk8 (by decide));have HX2d:=hide (HX2c.out.kt hk8 (by decide));have HW8:=hide (below_app HW7.out HO7.out hs7 hg8);have cf6:=HX2d.out.cell (j:=6) rfl;have ff6:=HX2d.out.frozen 6;clear hown8 hg8 hk8))
   all_goals
    have hkt:=KT.of_set HX2d.out 6 (.slice A8 (j+1) k8)
    have HX1e:=hide (HX1d.out.other (a:=⟨w.heap.size+2,6,none⟩) (by simp) (.slice A8 (j+1) k8))
    have HX2e:=hide (HX2d.out.set 6 (.slice A8 (j+1) k8))
    have HW9:=hide (HW8.out.setCell (p:=⟨w.heap.size+2,6,none⟩) (Nat.le_add_right _ _) (.slice A8 (j+1) k8))
    have HO9:=hide (own_kt HO8.out hkt (by decide))
    have HKT:=hide hkt
    clear hkt
    go_wp2
    go_roundw
    case rel=>
     refine ⟨j+1,m+(k+1+t5),A8,k8,M++[(⟨⟨some ⟨wb.heap.size,0,none⟩,k,k,List.replicate k st00⟩,⟨0,⟨tA,tn,tc,tL⟩,⟨none,0,0,[]⟩,⟨0,none,0,0,[]⟩,.empty⟩⟩:BkW)],by go_num,congrArg (fun z:Int=>Value.int .i64 z) (by omega),by omega,hmk,hide ?_,hide ?_,hide ?_,hide ?_,HX1e,HX2e,HW9⟩
     ·
      exact HU.out.symm
     ·
      rw [List.take_add_one,HXX.out,List.map_append,List.map_append,HV.out]
      rfl
     ·
      rw [List.flatMap_append]
      exact HO9.out
     ·
      intro z hz
      rcases List.mem_append.1 hz with hz | hz
      ·
       exact (((HZb.out z hz).keep HBB.out).kt HK8.out (by decide)).kt HKT.out (by decide)
      ·
       obtain rfl:=List.mem_singleton.1 hz
       refine ⟨own_kt (own_kt (ownsRow_below HO6s.out HB7.out) HK8.out (by decide)) HKT.out (by decide),fun s hs=>?_,⟨int11 (x:=0) (by decide),HT.out,slH11 _ _ _ _ _,pl11 _ _,(show ByteArray.empty.size≤maxLen by decide)⟩⟩
       obtain rfl:=List.eq_of_mem_replicate hs
       exact st11 _ _
    case measure=>simp [intOf];omega
  ·
   have hlt':¬(j:Int) < (gn:Int):=by omega
   obtain rfl:gn=j:=by omega
   have HSZ:=hide (show (Try.prog.info? 32).map (·.size)=some 7 by kernel_rfl)
   have HONE:=hide (all_oneCell_toArray (cs:=[.string ⟨#[]⟩,.slice none 0 0,.slice none 0 0,.slice none 0 0,.slice none 0 0,.int .i64 0,.slice A gn c]) (fun u hu=>by simp only [List.mem_cons,List.not_mem_nil,or_false] at hu;rcases hu with rfl | rfl | rfl | rfl | rfl | rfl | rfl <;> rfl))
   have z0:=HX2.out.cell (j:=0) rfl
   have z1:=HX2.out.cell (j:=1) rfl
   have z2:=HX2.out.cell (j:=2) rfl
   have z3:=HX2.out.cell (j:=3) rfl
   have z4:=HX2.out.cell (j:=4) rfl
   have z5:=HX2.out.cell (j:=5) rfl
   have z6:=HX2.out.cell (j:=6) rfl
   go_wp2_with (refine wpList_store_row rfl 32 _ _ rfl (w.heap.size+1) #[.string ⟨#[]⟩,.slice none 0 0,.slice none 0 0,.slice none 0 0,.slice none 0 0,.int .i64 0,.slice A gn c] rfl rfl 32 #[.string ⟨#[]⟩,.slice none 0 0,.slice none 0 0,.slice none 0 0,.slice none 0 0,.int .i64 0,.slice none 0 0] ?_ ?_ ?_ ?_ ?_;exact HX1.out;exact HSZ.out;rfl;exact HONE.out)
   refine bodyPost_ret (results_row_tmp rfl _ _ (w.heap.size+1) _ #[.string ⟨#[]⟩,.slice none 0 0,.slice none 0 0,.slice none 0 0,.slice none 0 0,.int .i64 0,.slice A gn c] (0,0) _ rfl (setRow_heap _ _ _ _ _ _ HX1.out) Try.underlying32 rfl (by kernel_rfl)) rfl ?_
   have hkt:=KT.of_setRow HX1.out #[.string ⟨#[]⟩,.slice none 0 0,.slice none 0 0,.slice none 0 0,.slice none 0 0,.int .i64 0,.slice A gn c]
   have hbw:=below_setRow9 HW.out (Nat.le_succ w.heap.size) #[.string ⟨#[]⟩,.slice none 0 0,.slice none 0 0,.slice none 0 0,.slice none 0 0,.int .i64 0,.slice A gn c]
   have htk:gL.take gn=gL:=List.take_of_length_le (Nat.le_of_eq HGL.out)
   refine ⟨hbw,.inr ⟨⟨.empty,⟨none,0,0,[]⟩,⟨none,0,0,[]⟩,⟨none,0,0,[]⟩,⟨none,0,0,[]⟩,0,⟨A,gn,c,M⟩⟩,rfl,?_,?_,?_⟩⟩
   ·
    exact ⟨(show ByteArray.empty.size≤maxLen by decide),slH11 _ _ _ _ _,slH11 _ _ _ _ _,slH11 _ _ _ _ _,slH11 _ _ _ _ _,int11 (x:=0) (by decide),own_sl (s:=⟨A,gn,c,M⟩) cBk_len (by decide) (own_kt HO.out hkt (by decide)) fun z hz=>((HZ.out z hz).kt hkt (by decide)).one hbw⟩
   ·
    show M.map BkW.v=gL.map gBk
    rw [HV.out,htk]
   ·
    show sumN szG gL≤150
    have:=HM.out
    rw [htk] at this
    omega
def exL11:List BkV:=[⟨[st00.v],⟨0,[1],[],⟨0,[]⟩,.empty⟩⟩,⟨[],⟨2,[],[],⟨0,[]⟩,.empty⟩⟩]
abbrev bkA11 (g:Nat):BkW:=⟨⟨some ⟨g,0,none⟩,1,1,[st00]⟩,⟨0,⟨some ⟨g+1,0,none⟩,1,1,[1]⟩,⟨none,0,0,[]⟩,⟨0,none,0,0,[]⟩,.empty⟩⟩
abbrev bkB11:BkW:=⟨⟨none,0,0,[]⟩,⟨2,⟨none,0,0,[]⟩,⟨none,0,0,[]⟩,⟨0,none,0,0,[]⟩,.empty⟩⟩
abbrev ex11 (g:Nat):BdW:=⟨.empty,⟨none,0,0,[]⟩,⟨none,0,0,[]⟩,⟨none,0,0,[]⟩,⟨none,0,0,[]⟩,0,⟨some ⟨g+1+1,0,none⟩,2,2,[bkA11 g,bkB11]⟩⟩
theorem ex11_v (g:Nat):(ex11 g).v.blocks=exL11:=rfl
def row11 (w:World):World:=((w.alloc (.cells #[.int .i64 0,.int .i64 0,.slice none 0 0,.int .i64 0,.int .i64 0,.int .i64 0,.bool false,.int .i64 0,.slice none 0 0,.slice none 0 0,.int .i64 0] 67)).alloc (.cells #[.int .i64 1] 3)).alloc (.cells #[.slice (some ⟨w.heap.size,0,none⟩) 1 1,.int .i64 0,.slice (some ⟨w.heap.size+1,0,none⟩) 1 1,.slice none 0 0,.int .i64 0,.slice none 0 0,.string ⟨#[]⟩,.slice none 0 0,.int .i64 2,.slice none 0 0,.slice none 0 0,.int .i64 0,.slice none 0 0,.string ⟨#[]⟩] 58)
def ex11W (w:World):World:=(row11 w).alloc (.cells #[.string ⟨#[]⟩,.slice none 0 0,.slice none 0 0,.slice none 0 0,.slice none 0 0,.int .i64 0,.slice (some ⟨w.heap.size+1+1,0,none⟩) 2 2] 32)
theorem row11_size (w:World):(row11 w).heap.size=w.heap.size+1+1+1:=by simp [row11]
theorem ex11W_size (w:World):(ex11W w).heap.size=w.heap.size+1+1+1+1:=by unfold ex11W;simp [row11_size]
theorem ex11W_below (w:World):Below w.heap.size w (ex11W w):=((((Below.refl _ w).alloc (Nat.le_refl _) _).alloc (by simp) _).alloc (by simp;omega) _).alloc (by simp [row11];omega) _
theorem cells_new11 {α:Type} (w:World) (f:α→List Value) {k:Nat} (hk:∀ x,(f x).length=k) (L:List α) (t:TypeId):Cells (w.alloc (.cells (L.flatMap f).toArray t)) (w.heap.size+1) k f (some ⟨w.heap.size,0,none⟩) L.length L:=by
 refine ⟨rfl,fun _=>⟨w.heap.size,0,rfl,by omega,fun i x hx j u hu=>?_⟩⟩
 have hj:j < k:=by have:=(List.getElem?_eq_some_iff.1 hu).1;rwa [hk] at this
 rw [cell_of_row (w.alloc (.cells (L.flatMap f).toArray t)) w.heap.size (0+i*k+j) (L.flatMap f).toArray t (0,0) (heap_alloc_new w _),Nat.zero_add]
 rw [List.getElem?_toArray,flatMap_at hk hx hj,hu]
theorem ex11_one (w:World):OneBd (ex11W w) (ex11W w).heap.size (ex11 w.heap.size):=by
 have hsz:=ex11W_size w
 have c1:=cells_new11 w cSt cSt_len [st00] 67
 have c2:=cells_new11 (w.alloc (.cells ([st00].flatMap cSt).toArray 67)) cInt cInt_len [1] 3
 have c3:=cells_new11 ((w.alloc (.cells ([st00].flatMap cSt).toArray 67)).alloc (.cells ([(1:Int)].flatMap cInt).toArray 3)) cBk cBk_len [bkA11 w.heap.size,bkB11] 58
 have z1:(w.alloc (.cells ([st00].flatMap cSt).toArray 67)).heap.size=w.heap.size+1:=by simp
 have z2:((w.alloc (.cells ([st00].flatMap cSt).toArray 67)).alloc (.cells ([(1:Int)].flatMap cInt).toArray 3)).heap.size=w.heap.size+1+1:=by simp
 rw [z1] at c2
 rw [z2] at c3
 have b1:Below (w.heap.size+1) (w.alloc (.cells ([st00].flatMap cSt).toArray 67)) (ex11W w):=(((Below.refl _ _).alloc (by simp) _).alloc (by simp) _).alloc (by simp) _
 have b2:Below (w.heap.size+1+1) ((w.alloc (.cells ([st00].flatMap cSt).toArray 67)).alloc (.cells ([(1:Int)].flatMap cInt).toArray 3)) (ex11W w):=((Below.refl _ _).alloc (by simp) _).alloc (by simp) _
 have b3:Below (w.heap.size+1+1+1) (((w.alloc (.cells ([st00].flatMap cSt).toArray 67)).alloc (.cells ([(1:Int)].flatMap cInt).toArray 3)).alloc (.cells ([bkA11 w.heap.size,bkB11].flatMap cBk).toArray 58)) (ex11W w):=(Below.refl _ _).alloc (by simp) _
 have m1:(1:Nat)≤maxLen:=by decide
 have m2:(2:Nat)≤maxLen:=by decide
 have m0:(0:Nat)≤maxLen:=by decide
 refine ⟨m0,slH11 _ _ _ _ _,slH11 _ _ _ _ _,slH11 _ _ _ _ _,slH11 _ _ _ _ _,int11 (show (-100:Int)≤0∧(0:Int)≤100 by decide),⟨Nat.le_refl _,m2,(c3.below b3).more (by rw [hsz];omega),fun x hx=>?_⟩⟩
 simp only [List.mem_cons,List.not_mem_nil,or_false] at hx
 rcases hx with rfl | rfl
 ·
  refine ⟨⟨Nat.le_refl _,m1,(c1.below b1).more (by rw [hsz];omega),fun s hs=>?_⟩,⟨int11 (show (-100:Int)≤0∧(0:Int)≤100 by decide),⟨Nat.le_refl _,m1,(c2.below b2).more (by rw [hsz];omega),fun t ht=>?_⟩,slH11 _ _ _ _ _,pl11 _ _,m0⟩⟩
  ·
   obtain rfl:=List.mem_singleton.1 hs
   exact st11 _ _
  ·
   obtain rfl:=List.mem_singleton.1 ht
   exact int11 (by decide)
 ·
  exact ⟨slH11 _ _ _ _ _,⟨int11 (show (-100:Int)≤2∧(2:Int)≤100 by decide),slH11 _ _ _ _ _,slH11 _ _ _ _ _,pl11 _ _,m0⟩⟩
theorem ex11_cells {w w':World} (h:Below (ex11W w).heap.size (ex11W w) w'):w'.cell? ⟨w.heap.size+1+1+1,0,none⟩=some (.string ⟨#[]⟩)∧w'.cell? ⟨w.heap.size+1+1+1,1,none⟩=some (.slice none 0 0)∧w'.cell? ⟨w.heap.size+1+1+1,2,none⟩=some (.slice none 0 0)∧w'.cell? ⟨w.heap.size+1+1+1,3,none⟩=some (.slice none 0 0)∧w'.cell? ⟨w.heap.size+1+1+1,4,none⟩=some (.slice none 0 0)∧w'.cell? ⟨w.heap.size+1+1+1,5,none⟩=some (.int .i64 0)∧w'.cell? ⟨w.heap.size+1+1+1,6,none⟩=some (.slice (some ⟨w.heap.size+1+1,0,none⟩) 2 2):=by
 have hq:=one_cells (w:=row11 w) (cs:=[.string ⟨#[]⟩,.slice none 0 0,.slice none 0 0,.slice none 0 0,.slice none 0 0,.int .i64 0,.slice (some ⟨w.heap.size+1+1,0,none⟩) 2 2]) (T:=32) h
 rw [row11_size] at hq
 exact ⟨hq 0 _ rfl,hq 1 _ rfl,hq 2 _ rfl,hq 3 _ rfl,hq 4 _ rfl,hq 5 _ rfl,hq 6 _ rfl⟩
theorem ex_count:ptCount exL11=3:=by decide
theorem ex_idx:ptIdx exL11 1 0=some 2:=by decide
theorem ex_loc:ptLocI exL11 1=some (0,1):=by decide
theorem ex_next:nextI exL11 0=[1]:=by decide
theorem ex_edges:edgesI exL11=[(0,1),(1,2)]:=by decide
theorem ex_yes:rchI exL11 0 2=true:=(rchI_at (i:=0) (k:=0) (j:=1) (m:=0) (by decide) (by decide)).2 (.inr (.base (by decide)))
theorem ex_no:rchI exL11 2 0=false:=by
 cases e:rchI exL11 2 0 with
 | false=>rfl
 | true=>
  rcases (rchI_at (i:=1) (k:=0) (j:=0) (m:=0) (by decide) (by decide)).1 e with h | h
  ·
   exact absurd h.1 (by decide)
  ·
   have h0:bN exL11 1=[]:=by decide
   unfold Lead at h
   rw [h0] at h
   exact (RchL.closed (S:=fun _=>False) (fun x hx=>by cases hx) (fun x hx _ _=>hx) h).elim
theorem alive11_any (w:World):Calls Try.prog 10 #[] w fun e w'=>e=.returned (.bool true)∧Below w.heap.size w w':=by
 have HB0:=hide (ex11W_below w)
 have HX:=hide fun (w':World) (y:Below (ex11W w).heap.size (ex11W w) w')=>(ex11_one w).up y
 have HC:=hide fun (w':World) (y:Below (ex11W w).heap.size (ex11W w) w')=>ex11_cells y
 have hcnt:ptCount (ex11 w.heap.size).v.blocks=3:=ex_count
 have HI:=hide fun (w':World) (y:Below (ex11W w).heap.size (ex11W w) w')=>(show Calls Try.prog 11 #[aggBd (ex11 w.heap.size),.int .i64 1,.int .i64 0] w' fun e w2=>e=.returned (.tuple #[.int .i64 2,.bool true])∧Below w'.heap.size w' w2 from by
  have h:=PIndex_any (ex11 w.heap.size) 1 0 w' ((ex11_one w).up y) (by rw [hcnt];decide)
  rw [ex11_v,ex_idx] at h
  exact h)
 have HL:=hide fun (w':World) (y:Below (ex11W w).heap.size (ex11W w) w')=>(show Calls Try.prog 13 #[aggBd (ex11 w.heap.size),.int .i64 1] w' fun e w2=>e=.returned (.tuple #[.int .i64 0,.int .i64 1,.bool true])∧Below w'.heap.size w' w2 from by
  have h:=PLocate_any (ex11 w.heap.size) 1 w' ((ex11_one w).up y) (by rw [hcnt];decide) (int11 (by decide))
  rw [ex11_v,ex_loc] at h
  exact h)
 have HK:=hide fun (w':World) (y:Below (ex11W w).heap.size (ex11W w) w')=>(show Calls Try.prog 15 #[aggBd (ex11 w.heap.size)] w' fun e w2=>e=.returned (.int .i64 3)∧Below w'.heap.size w' w2 from PCount_is (m:=3) ((ex11_one w).up y) hcnt (by decide))
 have htg:∀ b∈(ex11 w.heap.size).v.blocks,b.term.targets.length≤100000:=fun b hb=>by
  rw [ex11_v] at hb
  simp only [exL11,List.mem_cons,List.not_mem_nil,or_false] at hb
  rcases hb with rfl | rfl <;> decide
 have HE:=hide fun (w':World) (y:Below (ex11W w).heap.size (ex11W w) w')=>(show Calls Try.prog 21 #[aggBd (ex11 w.heap.size)] w' (PrsOut9 w' [(0,1),(1,2)]) from by
  have h:=PEdges_any (ex11 w.heap.size) w' ((ex11_one w).up y) (by rw [hcnt];decide) htg
  rw [ex11_v,ex_edges] at h
  exact h)
 have HN:=hide fun (w':World) (y:Below (ex11W w).heap.size (ex11W w) w')=>(show Calls Try.prog 18 #[aggBd (ex11 w.heap.size),.int .i64 0] w' (IntsOut9 w' [1]) from by
  have h:=PNext_any (ex11 w.heap.size) 0 w' ((ex11_one w).up y) (by rw [hcnt];decide) (fun b hb=>Nat.le_trans (htg b hb) (by decide)) (int11 (by decide))
  rw [ex11_v,ex_next] at h
  exact h)
 have HR1:=hide fun (w':World) (y:Below (ex11W w).heap.size (ex11W w) w')=>(show Calls Try.prog 23 #[aggBd (ex11 w.heap.size),.int .i64 0,.int .i64 2] w' fun e w2=>e=.returned (.bool true)∧Below w'.heap.size w' w2 from by
  have h:=PReaches_any (ex11 w.heap.size) 0 2 w' ((ex11_one w).up y) (by rw [hcnt];decide) (int11 (by decide)) (int11 (by decide))
  rw [ex11_v,ex_yes] at h
  exact h)
 have HR2:=hide fun (w':World) (y:Below (ex11W w).heap.size (ex11W w) w')=>(show Calls Try.prog 23 #[aggBd (ex11 w.heap.size),.int .i64 2,.int .i64 0] w' fun e w2=>e=.returned (.bool false)∧Below w'.heap.size w' w2 from by
  have h:=PReaches_any (ex11 w.heap.size) 2 0 w' ((ex11_one w).up y) (by rw [hcnt];decide) (int11 (by decide)) (int11 (by decide))
  rw [ex11_v,ex_no] at h
  exact h)
 have HWW:=hide (show ex11W w=(row11 w).alloc (.cells #[.string ⟨#[]⟩,.slice none 0 0,.slice none 0 0,.slice none 0 0,.slice none 0 0,.int .i64 0,.slice (some ⟨w.heap.size+1+1,0,none⟩) 2 2] 32) from rfl)
 have HRW:=hide (show row11 w=((w.alloc (.cells #[.int .i64 0,.int .i64 0,.slice none 0 0,.int .i64 0,.int .i64 0,.int .i64 0,.bool false,.int .i64 0,.slice none 0 0,.slice none 0 0,.int .i64 0] 67)).alloc (.cells #[.int .i64 1] 3)).alloc (.cells #[.slice (some ⟨w.heap.size,0,none⟩) 1 1,.int .i64 0,.slice (some ⟨w.heap.size+1,0,none⟩) 1 1,.slice none 0 0,.int .i64 0,.slice none 0 0,.string ⟨#[]⟩,.slice none 0 0,.int .i64 2,.slice none 0 0,.slice none 0 0,.int .i64 0,.slice none 0 0,.string ⟨#[]⟩] 58) from rfl)
 clear hcnt htg
 go_enter Try.func10,Try.ntmps10
 go_wp2_with fail
 refine (HI.out (ex11W w) (Below.refl _ _)).mono ?_
 rintro e w1 ⟨rfl,hb⟩
 have H1:=hide hb
 clear hb
 obtain ⟨x0,x1,x2,x3,x4,x5,x6⟩:=HC.out _ H1.out
 go_wp2_with fail
 refine (HL.out _ H1.out).mono ?_
 rintro e w2 ⟨rfl,hb⟩
 have H2:=hide (H1.out.trans (hb.mono H1.out.size))
 clear hb x0 x1 x2 x3 x4 x5 x6
 obtain ⟨x0,x1,x2,x3,x4,x5,x6⟩:=HC.out _ H2.out
 go_wp2_with fail
 refine (HK.out _ H2.out).mono ?_
 rintro e w3 ⟨rfl,hb⟩
 have H3:=hide (H2.out.trans (hb.mono H2.out.size))
 clear hb x0 x1 x2 x3 x4 x5 x6
 obtain ⟨x0,x1,x2,x3,x4,x5,x6⟩:=HC.out _ H3.out
 go_wp2_with fail
 refine (HE.out _ H3.out).mono ?_
 rintro e w4 ⟨A4,c4,rfl,ho4,hb⟩
 have H4:=hide (H3.out.trans (hb.mono H3.out.size))
 have b5:=below1 w4 (.cells #[.int .i64 0,.int .i64 1,.int .i64 1,.int .i64 2] 25)
 have HO4:=hide (ownsRow_below ho4 b5)
 have HO5:=hide (show (w4.alloc (.cells #[.int .i64 0,.int .i64 1,.int .i64 1,.int .i64 2] 25)).ownsRow 0 25 2 (.slice (some ⟨w4.heap.size,0,none⟩) 2 2) 2 (([(0,1),(1,2)]:List Pr).flatMap pV) from World.ownsRow_lit (base:=0) (size:=2) (e:=25) w4 #[.int .i64 0,.int .i64 1,.int .i64 1,.int .i64 2] 2 (Nat.zero_le _) (by decide) rfl)
 have HB5:=hide b5
 clear hb ho4 b5 x0 x1 x2 x3 x4 x5 x6
 go_wp2_with fail
 refine (EqP11 (show eqPs [(0,1),(1,2)] [(0,1),(1,2)]=true from by decide) _ HO4.out HO5.out).mono ?_
 rintro e w6 ⟨rfl,hb⟩
 have H6:=hide (H4.out.trans ((HB5.out.trans (hb.mono HB5.out.size)).mono H4.out.size))
 clear hb
 obtain ⟨x0,x1,x2,x3,x4,x5,x6⟩:=HC.out _ H6.out
 go_wp2_with fail
 refine (HN.out _ H6.out).mono ?_
 rintro e w7 ⟨A7,c7,rfl,ho7,hb⟩
 have H7:=hide (H6.out.trans (hb.mono H6.out.size))
 have b8:=below1 w7 (.cells #[.int .i64 1] 3)
 have HO7:=hide (ownsRow_below ho7 b8)
 have HO8:=hide (show (w7.alloc (.cells #[.int .i64 1] 3)).ownsRow 0 3 1 (.slice (some ⟨w7.heap.size,0,none⟩) 1 1) 1 (([1]:List Int).flatMap cInt) from World.ownsRow_lit (base:=0) (size:=1) (e:=3) w7 #[.int .i64 1] 1 (Nat.zero_le _) (by decide) rfl)
 have HB8:=hide b8
 clear hb ho7 b8 x0 x1 x2 x3 x4 x5 x6
 go_wp2_with fail
 refine (EqI11 (show eqIs [1] [1]=true from by decide) _ HO7.out HO8.out).mono ?_
 rintro e w9 ⟨rfl,hb⟩
 have H9:=hide (H7.out.trans ((HB8.out.trans (hb.mono HB8.out.size)).mono H7.out.size))
 clear hb
 obtain ⟨x0,x1,x2,x3,x4,x5,x6⟩:=HC.out _ H9.out
 go_wp2_with fail
 refine (HR1.out _ H9.out).mono ?_
 rintro e w10 ⟨rfl,hb⟩
 have H10:=hide (H9.out.trans (hb.mono H9.out.size))
 clear hb x0 x1 x2 x3 x4 x5 x6
 obtain ⟨x0,x1,x2,x3,x4,x5,x6⟩:=HC.out _ H10.out
 go_wp2_with fail
 refine (HR2.out _ H10.out).mono ?_
 rintro e w11 ⟨rfl,hb⟩
 have H11:=hide (H10.out.trans (hb.mono H10.out.size))
 clear hb x0 x1 x2 x3 x4 x5 x6
 go_wp2
 go_ret
 exact ⟨rfl,HB0.out.trans (H11.out.mono HB0.out.size)⟩
theorem szG_count:∀ l:List GbW,ptCount (l.map gBk)≤sumN szG l
 | []=>Nat.le_refl _
 | x :: l=>by
  have h:=szG_count l
  have e:ptCount ((x :: l).map gBk)=(gBk x).stmts.length+1+ptCount (l.map gBk):=by
   unfold ptCount
   rw [List.map_cons,sumN_cons]
   rfl
  have h2:(gBk x).stmts.length=x.s.toNat:=by unfold gBk;simp
  rw [e,sumN_cons,h2]
  have:szG x=x.s.toNat+1+min x.t.n 500:=rfl
  omega
theorem szG_mem:∀ {l:List GbW} {x:GbW},x∈l→szG x≤sumN szG l
 | y :: l,x,h=>by
  rw [sumN_cons]
  rcases List.mem_cons.1 h with rfl | h
  ·
   exact Nat.le_add_right _ _
  ·
   exact Nat.le_trans (szG_mem h) (Nat.le_add_left _ _)
theorem body_small {w:World} {B:Nat} {g:SlW GbW} {l:List BkV} (hg:Gbs w B g) (hv:l=g.L.map gBk) (hs:sumN szG g.L≤150):ptCount l≤150∧∀ b∈l,b.term.targets.length≤150:=by
 subst hv
 refine ⟨Nat.le_trans (szG_count _) hs,fun b hb=>?_⟩
 obtain ⟨x,hx,rfl⟩:=List.mem_map.1 hb
 have h1:=szG_mem hx
 have h2:szG x=x.s.toNat+1+min x.t.n 500:=rfl
 have h3:x.t.L.length=x.t.n:=(hg.all x hx).t.len
 show x.t.L.length≤150
 omega
structure Ctx11 (W:World) (x:BdW) (l:List BkV):Prop where
 hx:OneBd W W.heap.size x
 hv:x.v.blocks=l
 hN:ptCount l≤150
 hT:∀ b∈l,b.term.targets.length≤150
section
variable {W w:World} {x:BdW} {l:List BkV} (h:Ctx11 W x l) (y:Below W.heap.size W w)
include h y
theorem Ctx11.count {m:Nat} (hm:ptCount l=m):Calls Try.prog 15 #[aggBd x] w fun e w'=>e=.returned (.int .i64 (m:Int))∧Below w.heap.size w w':=by
 obtain ⟨hx,rfl,hN,hT⟩:=h
 exact PCount_is (hx.up y) hm (by omega)
end
end Go.Proofs.Ytlbopbjdiehecaa
