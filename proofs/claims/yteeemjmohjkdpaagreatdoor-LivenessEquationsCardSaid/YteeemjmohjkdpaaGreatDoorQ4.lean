/- Part 5 of the contracts and their mathematics. -/
import Derived.Test.YteeemjmohjkdpaaGreatDoorQ3
import Derived.Lib.BitFns
import Derived.Lib.AppendStr
set_option linter.unusedVariables false
set_option linter.unusedSimpArgs false
set_option maxRecDepth 100000
set_option maxHeartbeats 2000000
namespace Go.Proofs.YteeemjmohjkdpaaGreatDoor
open Go.RowKit
theorem ret_m {a b:Int} (h:a=b):Ending.returned (.int .i64 b)=.returned (.int .i64 a):=by rw [h]
theorem first_ex (l:List Ty) (t:Ty):∃ s,s≤l.length∧(∀ i,i < s→l[i]?≠some t)∧(s < l.length→l[s]?=some t)∧(s < l.length↔t∈l):=by
 by_cases h:t∈l
 ·
  obtain ⟨k,h1,h2⟩:=firstT_ex h
  have hk:=(List.getElem?_eq_some_iff.1 h1).1
  exact ⟨k,Nat.le_of_lt hk,h2,fun _=>h1,fun _=>h,fun _=>hk⟩
 ·
  exact ⟨l.length,Nat.le_refl _,fun i hi e=>h (List.mem_of_getElem? e),fun h'=>absurd h' (Nat.lt_irrefl _),fun h'=>absurd h' (Nat.lt_irrefl _),fun h'=>absurd h' h⟩
theorem RFindT_yes {A:Option Addr} {n c:Nat} {L:List TyW} {y:TyW} (w:World) (hA:Typs w w.heap.size A n L) (hy:OneT w w.heap.size y) (hn:n≤maxLen) (h:y.t∈tys L) :
 Calls Tryz.prog 121 #[.slice A n c,aggT y] w fun e w'=>∃ k:Nat,e=.returned (.int .i64 (k:Int))∧Below w.heap.size w w':=by
 obtain ⟨s,h1,h2,h3,h4⟩:=first_ex (tys L) y.t
 have hl:(tys L).length=n:=by rw [tys_len,hA.len]
 rw [hl] at h1 h3 h4
 refine (RFindT_any A n c L y w hA hy hn s h1 h2 h3).mono ?_
 rintro e w' ⟨rfl,hb⟩
 rw [if_pos (h4.2 h)]
 exact ⟨s,rfl,hb⟩
theorem RFindT_no {A:Option Addr} {n c:Nat} {L:List TyW} {y:TyW} (w:World) (hA:Typs w w.heap.size A n L) (hy:OneT w w.heap.size y) (hn:n≤maxLen) (h:¬y.t∈tys L) :
 Calls Tryz.prog 121 #[.slice A n c,aggT y] w fun e w'=>e=.returned (.int .i64 (-1))∧Below w.heap.size w w':=by
 obtain ⟨s,h1,h2,h3,h4⟩:=first_ex (tys L) y.t
 have hl:(tys L).length=n:=by rw [tys_len,hA.len]
 rw [hl] at h1 h3 h4
 refine (RFindT_any A n c L y w hA hy hn s h1 h2 h3).mono ?_
 rintro e w' ⟨rfl,hb⟩
 rw [if_neg (fun h'=>h (h4.1 h'))]
 exact ⟨rfl,hb⟩
theorem tys_take (L:List TyW) (k:Nat):tys (L.take k)=(tys L).take k:=List.map_take
structure RC (A:Option Addr) (n c:Nat) (L:List TyW) (k:Nat) (x:TyW) (Ad:Option Addr) (cd:Nat) (rg:Int) (w:World):Prop where
 ty:Typs w w.heap.size A n L
 at_:L[k]?=some x
 ok:TyOk ((tys L).take k) rg
 d:Rd w w.heap.size Ad k (i64s (tyDeps ((tys L).take k)))
 few:n≤65535
 nc:n≤c
 kc:k≤cd
theorem RC.lt {A:Option Addr} {n c:Nat} {L:List TyW} {k:Nat} {x:TyW} {Ad:Option Addr} {cd:Nat} {rg:Int} {w:World} (h:RC A n c L k x Ad cd rg w):k < n:=by
 have:=(List.getElem?_eq_some_iff.1 h.at_).1
 have:=h.ty.len
 omega
theorem RC.plen {A:Option Addr} {n c:Nat} {L:List TyW} {k:Nat} {x:TyW} {Ad:Option Addr} {cd:Nat} {rg:Int} {w:World} (h:RC A n c L k x Ad cd rg w):((tys L).take k).length=k:=by
 rw [List.length_take,tys_len,h.ty.len];have:=h.lt;omega
theorem tyErr_own {pre:List Ty} {t:Ty} {rg v:Int} {k:Nat} (hk:pre.length=k) (h:tyOwn t (k:Int) rg=v) (hv:v≠0):tyErr pre t rg=v:=by
 unfold tyErr;rw [hk,h,if_pos hv]
theorem tyErr_deep {pre:List Ty} {t:Ty} {rg kk:Int} {k:Nat} (hk:pre.length=k) (h:tyOwn t (k:Int) rg=0) (hd:tyDpt (tyDeps pre) t=kk+1) (h32:32 < kk+1):tyErr pre t rg=19:=by
 unfold tyErr;rw [hk,h,if_neg (by decide),hd,if_pos h32]
theorem tyErr_dup {pre:List Ty} {t:Ty} {rg kk:Int} {k:Nat} (hk:pre.length=k) (h:tyOwn t (k:Int) rg=0) (hd:tyDpt (tyDeps pre) t=kk+1) (h32:¬32 < kk+1) (hm:t∈pre):tyErr pre t rg=21:=by
 unfold tyErr;rw [hk,h,if_neg (by decide),hd,if_neg h32,if_pos hm]
theorem tyErr_fine {pre:List Ty} {t:Ty} {rg kk:Int} {k:Nat} (hk:pre.length=k) (h:tyOwn t (k:Int) rg=0) (hd:tyDpt (tyDeps pre) t=kk+1) (h32:¬32 < kk+1) (hm:¬t∈pre):tyErr pre t rg=0:=by
 unfold tyErr;rw [hk,h,if_neg (by decide),hd,if_neg h32,if_neg hm]
theorem TypRefz0 {P:Prop} (h:P:=by
 go_enter Tryz.func80,Tryz.ntmps80
 go_wp2
 go_ret
 exact ⟨ret_m HF.out,HB.out⟩):P:=h
theorem rcheck_low (A:Option Addr) (n c:Nat) (L:List TyW) (k:Nat) (kd:Int) (m:Bool) (r el:Int) (fs:List Int) (B:Option Addr) (nf cf:Nat) (Ad:Option Addr) (cd:Nat) (rg:Int) (w:World) (h:RC A n c L k ⟨⟨kd,m,r,el,fs⟩,B,nf,cf⟩ Ad cd rg w) (h0:kd < 0) :
 Calls Tryz.prog 80 #[.slice A n c,.slice Ad k cd,.int .i64 (k:Int),.int .i64 rg] w fun e w'=>e=.returned (.int .i64 (tyErr ((tys L).take k) ⟨kd,m,r,el,fs⟩ rg))∧Below w.heap.size w w':=by
 have HB:=hide ((Below.refl w.heap.size w).alloc (Nat.le_refl _) (.cells #[.int .i64 kd,.bool m,.int .i64 r,.int .i64 el,.slice B nf cf] 65))
 have hkn:=h.lt
 have hkn':(k:Int) < (n:Int):=by omega
 have hn:=h.few
 have hnc:=h.nc
 obtain ⟨g,o,rfl,hgB,hone,c0,c1,c2,c3,c4⟩:=h.ty.at_ h.at_
 simp only [] at c0 c1 c2 c3 c4
 have hl:fs.length=nf:=hone.ok.len
 have hnf:nf≤maxLen:=Nat.le_trans hone.ok.nc hone.ok.cm
 unfold maxLen at hnf
 have hpl:=h.plen
 have kc0:(0:Int)≤(k:Int):=Int.natCast_nonneg _
 have kc1:(k:Int)≤(c:Int):=by omega
 have kc2:k≤c:=by omega
 have kc3:¬(k:Int) < 0:=by omega
 have kc4:¬(c:Int) < (k:Int):=by omega
 have H:=hide h
 have HONE:=hide hone
 have HPL:=hide hpl
 have HF:=hide (tyErr_own (rg:=rg) hpl (show tyOwn ⟨kd,m,r,el,fs⟩ (k:Int) rg=14 from if_pos (.inl h0)) (by decide))
 clear h hone hpl hl
 exact TypRefz0
theorem rcheck_high (A:Option Addr) (n c:Nat) (L:List TyW) (k:Nat) (kd:Int) (m:Bool) (r el:Int) (fs:List Int) (B:Option Addr) (nf cf:Nat) (Ad:Option Addr) (cd:Nat) (rg:Int) (w:World) (h:RC A n c L k ⟨⟨kd,m,r,el,fs⟩,B,nf,cf⟩ Ad cd rg w) (h0:4 < kd) :
 Calls Tryz.prog 80 #[.slice A n c,.slice Ad k cd,.int .i64 (k:Int),.int .i64 rg] w fun e w'=>e=.returned (.int .i64 (tyErr ((tys L).take k) ⟨kd,m,r,el,fs⟩ rg))∧Below w.heap.size w w':=by
 have HB:=hide ((Below.refl w.heap.size w).alloc (Nat.le_refl _) (.cells #[.int .i64 kd,.bool m,.int .i64 r,.int .i64 el,.slice B nf cf] 65))
 have hkn:=h.lt
 have hkn':(k:Int) < (n:Int):=by omega
 have hn:=h.few
 have hnc:=h.nc
 obtain ⟨g,o,rfl,hgB,hone,c0,c1,c2,c3,c4⟩:=h.ty.at_ h.at_
 simp only [] at c0 c1 c2 c3 c4
 have hl:fs.length=nf:=hone.ok.len
 have hnf:nf≤maxLen:=Nat.le_trans hone.ok.nc hone.ok.cm
 unfold maxLen at hnf
 have hpl:=h.plen
 have kc0:(0:Int)≤(k:Int):=Int.natCast_nonneg _
 have kc1:(k:Int)≤(c:Int):=by omega
 have kc2:k≤c:=by omega
 have kc3:¬(k:Int) < 0:=by omega
 have kc4:¬(c:Int) < (k:Int):=by omega
 have H:=hide h
 have HONE:=hide hone
 have HPL:=hide hpl
 have HF:=hide (tyErr_own (rg:=rg) hpl (show tyOwn ⟨kd,m,r,el,fs⟩ (k:Int) rg=14 from if_pos (.inr h0)) (by decide))
 have e0:0≤kd:=by omega
 clear h hone hpl hl
 exact TypRefz0
theorem tyOwn_in2 {k:Int} {m:Bool} {r el:Int} {fs:List Int} {er rg:Int} (h0:0≤k) (h1:k≤4):tyOwn ⟨k,m,r,el,fs⟩ er rg=if (k≠3∧(m=true∨r≠0∨el≠0))∨(k≠4∧0 < fs.length) then 2 else if (k=3∧tyIn r rg=false)∨tyAllIn (tyParts ⟨k,m,r,el,fs⟩) er=false then 3 else if k=4∧(fs.length=0∨65535 < fs.length) then 15 else 0:=
 if_neg (show ¬(k < 0∨4 < k) by omega)
theorem rcheck_full (A:Option Addr) (n c:Nat) (L:List TyW) (k:Nat) (kd:Int) (m:Bool) (r el:Int) (fs:List Int) (B:Option Addr) (nf cf:Nat) (Ad:Option Addr) (cd:Nat) (rg:Int) (w:World) (h:RC A n c L k ⟨⟨kd,m,r,el,fs⟩,B,nf,cf⟩ Ad cd rg w) (h00:0≤kd) (h01:kd≤4) (h4:kd≠4) (hm:kd≠3→m=false∧r=0∧el=0) (hf:0 < nf) :
 Calls Tryz.prog 80 #[.slice A n c,.slice Ad k cd,.int .i64 (k:Int),.int .i64 rg] w fun e w'=>e=.returned (.int .i64 (tyErr ((tys L).take k) ⟨kd,m,r,el,fs⟩ rg))∧Below w.heap.size w w':=by
 have HB:=hide ((Below.refl w.heap.size w).alloc (Nat.le_refl _) (.cells #[.int .i64 kd,.bool m,.int .i64 r,.int .i64 el,.slice B nf cf] 65))
 have hkn:=h.lt
 have hkn':(k:Int) < (n:Int):=by omega
 have hn:=h.few
 have hnc:=h.nc
 obtain ⟨g,o,rfl,hgB,hone,c0,c1,c2,c3,c4⟩:=h.ty.at_ h.at_
 simp only [] at c0 c1 c2 c3 c4
 have hl:fs.length=nf:=hone.ok.len
 have hnf:nf≤maxLen:=Nat.le_trans hone.ok.nc hone.ok.cm
 unfold maxLen at hnf
 have hpl:=h.plen
 have kc0:(0:Int)≤(k:Int):=Int.natCast_nonneg _
 have kc1:(k:Int)≤(c:Int):=by omega
 have kc2:k≤c:=by omega
 have kc3:¬(k:Int) < 0:=by omega
 have kc4:¬(c:Int) < (k:Int):=by omega
 have H:=hide h
 have HONE:=hide hone
 have HPL:=hide hpl
 have HF:=hide (tyErr_own (rg:=rg) hpl (show tyOwn ⟨kd,m,r,el,fs⟩ (k:Int) rg=2 from (tyOwn_in2 h00 h01).trans (if_pos (.inr ⟨h4,by omega⟩))) (by decide))
 have e4:(kd != 4)=true:=by rw [bne_iff_ne];exact h4
 have hf1:(0:Int) < (nf:Int):=by omega
 by_cases h3:kd=3
 ·
  have e3:(kd != 3)=false:=by simp [h3]
  clear h hone hpl hl hm h3 h4 hf
  exact TypRefz0
 ·
  have e3:(kd != 3)=true:=by rw [bne_iff_ne];exact h3
  obtain ⟨rfl,rfl,rfl⟩:=hm h3
  clear h hone hpl hl hm h3 h4 hf
  exact TypRefz0
theorem rcheck_bad (A:Option Addr) (n c:Nat) (L:List TyW) (k:Nat) (kd:Int) (m:Bool) (r el:Int) (fs:List Int) (B:Option Addr) (nf cf:Nat) (Ad:Option Addr) (cd:Nat) (rg:Int) (w:World) (h:RC A n c L k ⟨⟨kd,m,r,el,fs⟩,B,nf,cf⟩ Ad cd rg w) (h00:0≤kd) (h01:kd≤4) (h3:kd≠3) (hbad:m=true∨r≠0∨el≠0) :
 Calls Tryz.prog 80 #[.slice A n c,.slice Ad k cd,.int .i64 (k:Int),.int .i64 rg] w fun e w'=>e=.returned (.int .i64 (tyErr ((tys L).take k) ⟨kd,m,r,el,fs⟩ rg))∧Below w.heap.size w w':=by
 have HB:=hide ((Below.refl w.heap.size w).alloc (Nat.le_refl _) (.cells #[.int .i64 kd,.bool m,.int .i64 r,.int .i64 el,.slice B nf cf] 65))
 have hkn:=h.lt
 have hkn':(k:Int) < (n:Int):=by omega
 have hn:=h.few
 have hnc:=h.nc
 obtain ⟨g,o,rfl,hgB,hone,c0,c1,c2,c3,c4⟩:=h.ty.at_ h.at_
 simp only [] at c0 c1 c2 c3 c4
 have hl:fs.length=nf:=hone.ok.len
 have hnf:nf≤maxLen:=Nat.le_trans hone.ok.nc hone.ok.cm
 unfold maxLen at hnf
 have hpl:=h.plen
 have kc0:(0:Int)≤(k:Int):=Int.natCast_nonneg _
 have kc1:(k:Int)≤(c:Int):=by omega
 have kc2:k≤c:=by omega
 have kc3:¬(k:Int) < 0:=by omega
 have kc4:¬(c:Int) < (k:Int):=by omega
 have H:=hide h
 have HONE:=hide hone
 have HPL:=hide hpl
 have HF:=hide (tyErr_own (rg:=rg) hpl (show tyOwn ⟨kd,m,r,el,fs⟩ (k:Int) rg=2 from (tyOwn_in2 h00 h01).trans (if_pos (.inl ⟨h3,hbad⟩))) (by decide))
 clear h hone hpl hl
 have e3:(kd != 3)=true:=by rw [bne_iff_ne];exact h3
 clear h3
 cases m
 rotate_left
 ·
  clear hbad
  exact TypRefz0
 by_cases hr:r=0
 rotate_left
 ·
  clear hbad
  have er0:(r != 0)=true:=by rw [bne_iff_ne];exact hr
  clear hr
  exact TypRefz0
 have hel:el≠0:=by
  rcases hbad with h | h | h
  ·
   cases h
  ·
   exact absurd hr h
  ·
   exact h
 have el0:(el != 0)=true:=by rw [bne_iff_ne];exact hel
 subst hr
 clear hbad hel
 exact TypRefz0
theorem TypRefz1 {P:Prop} (h:P:=by
 have d0:=D0.out
 have d1:=D1.out
 have d2:=D2.out
 have d3:=D3.out
 have d4:=D4.out
 go_still_tail 4,(by kernel_rfl)
 go_wp2_with fail
 refine (RFindT_yes _ HTY.out HX.out (by unfold maxLen;omega) (by rw [tys_take];exact HM.out)).mono ?_
 rintro e w1 ⟨s,rfl,hb1⟩
 have HB1:=hide (HB.out.drew.trans (hb1.mono HB.out.size))
 clear hb1
 have hs0:(0:Int)≤(s:Int):=Int.natCast_nonneg _
 go_wp2_with fail
 go_ret
 exact ⟨ret_m HF.out,HB1.out⟩):P:=h
theorem TypRefz2 {P:Prop} (h:P:=by
 have d0:=D0.out
 have d1:=D1.out
 have d2:=D2.out
 have d3:=D3.out
 have d4:=D4.out
 go_still_tail 4,(by kernel_rfl)
 go_wp2_with fail
 refine (RFindT_no _ HTY.out HX.out (by unfold maxLen;omega) (by rw [tys_take];exact HM.out)).mono ?_
 rintro e w1 ⟨rfl,hb1⟩
 have HB1:=hide (HB.out.drew.trans (hb1.mono HB.out.size))
 clear hb1
 go_wp2_with fail
 go_ret
 exact ⟨ret_m HF.out,HB1.out⟩):P:=h
theorem TypRefz3 {P:Prop} (h:P:=by
 have HF:=hide (tyErr_own (rg:=rg) hpl (HO.out.trans (if_pos (.inl (tyIn_not.2 (by omega))))) (by decide))
 clear h hone hpl hl hfs h3 hpp
 exact TypRefz0):P:=h
theorem TypRefz4 {P:Prop} (h:P:=by
 have HF:=hide (tyErr_own (rg:=rg) hpl (HO.out.trans (if_pos (.inr (tyIn_not.2 (by omega))))) (by decide))
 clear h hone hpl hl hfs h3 hpp
 exact TypRefz0):P:=h
theorem rcheck_ref (A:Option Addr) (n c:Nat) (L:List TyW) (k:Nat) (kd:Int) (m:Bool) (r el:Int) (fs:List Int) (B:Option Addr) (nf cf:Nat) (Ad:Option Addr) (cd:Nat) (rg:Int) (w:World) (h:RC A n c L k ⟨⟨kd,m,r,el,fs⟩,B,nf,cf⟩ Ad cd rg w) (h3:kd=3) (hf:nf=0) :
 Calls Tryz.prog 80 #[.slice A n c,.slice Ad k cd,.int .i64 (k:Int),.int .i64 rg] w fun e w'=>e=.returned (.int .i64 (tyErr ((tys L).take k) ⟨kd,m,r,el,fs⟩ rg))∧Below w.heap.size w w':=by
 have HB:=hide ((Below.refl w.heap.size w).alloc (Nat.le_refl _) (.cells #[.int .i64 kd,.bool m,.int .i64 r,.int .i64 el,.slice B nf cf] 65))
 have hkn:=h.lt
 have hkn':(k:Int) < (n:Int):=by omega
 have hn:=h.few
 have hnc:=h.nc
 obtain ⟨g,o,rfl,hgB,hone,c0,c1,c2,c3,c4⟩:=h.ty.at_ h.at_
 simp only [] at c0 c1 c2 c3 c4
 have hl:fs.length=nf:=hone.ok.len
 have hnf:nf≤maxLen:=Nat.le_trans hone.ok.nc hone.ok.cm
 unfold maxLen at hnf
 have hpl:=h.plen
 have kc0:(0:Int)≤(k:Int):=Int.natCast_nonneg _
 have kc1:(k:Int)≤(c:Int):=by omega
 have kc2:k≤c:=by omega
 have kc3:¬(k:Int) < 0:=by omega
 have kc4:¬(c:Int) < (k:Int):=by omega
 have H:=hide h
 have HONE:=hide hone
 have HPL:=hide hpl
 subst hf
 have hfs:fs=[]:=List.eq_nil_of_length_eq_zero hl
 have e3:(kd == 3)=true:=beq_iff_eq.2 h3
 have e3n:(kd != 3)=false:=by simp [h3]
 have e4:(kd == 4)=false:=beq_eq_false_iff_ne.2 (by omega)
 have e4n:(kd != 4)=true:=by rw [bne_iff_ne];omega
 have h00:0≤kd:=by omega
 have h01:kd≤4:=by omega
 have hpp:tyParts ⟨kd,m,r,el,fs⟩=[el]:=tyParts_ref h3
 have HO:Hid (tyOwn ⟨kd,m,r,el,fs⟩ (k:Int) rg=if tyIn r rg=false∨tyIn el (k:Int)=false then 3 else 0):=by
  show _=_
  rw [tyOwn_in2 h00 h01,if_neg (by rw [hfs];simp [h3]),hpp,if_neg (show ¬(kd=4∧(fs.length=0∨65535 < fs.length)) by omega)]
  simp [h3,tyAllIn]
 have D0:=hide (show (w.alloc (.cells #[.int .i64 kd,.bool m,.int .i64 r,.int .i64 el,.slice B 0 cf] 65)).cell? ⟨w.heap.size,0,none⟩=some (.int .i64 kd) from by simp [go_sem])
 have D1:=hide (show (w.alloc (.cells #[.int .i64 kd,.bool m,.int .i64 r,.int .i64 el,.slice B 0 cf] 65)).cell? ⟨w.heap.size,1,none⟩=some (.bool m) from by simp [go_sem])
 have D2:=hide (show (w.alloc (.cells #[.int .i64 kd,.bool m,.int .i64 r,.int .i64 el,.slice B 0 cf] 65)).cell? ⟨w.heap.size,2,none⟩=some (.int .i64 r) from by simp [go_sem])
 have D3:=hide (show (w.alloc (.cells #[.int .i64 kd,.bool m,.int .i64 r,.int .i64 el,.slice B 0 cf] 65)).cell? ⟨w.heap.size,3,none⟩=some (.int .i64 el) from by simp [go_sem])
 have D4:=hide (show (w.alloc (.cells #[.int .i64 kd,.bool m,.int .i64 r,.int .i64 el,.slice B 0 cf] 65)).cell? ⟨w.heap.size,4,none⟩=some (.slice B 0 cf) from by simp [go_sem])
 have HTY:=hide (show Typs (w.alloc (.cells #[.int .i64 kd,.bool m,.int .i64 r,.int .i64 el,.slice B 0 cf] 65)).drew (w.alloc (.cells #[.int .i64 kd,.bool m,.int .i64 r,.int .i64 el,.slice B 0 cf] 65)).drew.heap.size (some ⟨g,o,none⟩) k (L.take k) from (((h.ty.take (Nat.le_of_lt hkn)).below HB.out).more (by simp)).below ((Below.refl _ _).drew))
 have HX:=hide (show OneT (w.alloc (.cells #[.int .i64 kd,.bool m,.int .i64 r,.int .i64 el,.slice B 0 cf] 65)).drew (w.alloc (.cells #[.int .i64 kd,.bool m,.int .i64 r,.int .i64 el,.slice B 0 cf] 65)).drew.heap.size ⟨⟨kd,m,r,el,fs⟩,B,0,cf⟩ from ((hone.below HB.out).more (by simp)).below ((Below.refl _ _).drew))
 by_cases hr0:0≤r
 rotate_left
 ·
  have hr1:r < 0:=by omega
  exact TypRefz3
 by_cases hr1:r < rg
 rotate_left
 ·
  have hr2:rg≤r:=by omega
  exact TypRefz3
 by_cases he0:0≤el
 rotate_left
 ·
  have he1:el < 0:=by omega
  exact TypRefz4
 by_cases he1:el < (k:Int)
 rotate_left
 ·
  have he2:(k:Int)≤el:=by omega
  exact TypRefz4
 have hr2:¬rg≤r:=by omega
 have he2:¬(k:Int)≤el:=by omega
 have HOWN:=hide (HO.out.trans (if_neg (by rw [tyIn_iff.2 ⟨hr0,hr1⟩,tyIn_iff.2 ⟨he0,he1⟩];simp)))
 obtain ⟨q,hq⟩:=Int.eq_ofNat_of_zero_le he0
 have hex:∃ v,(tyDeps ((tys L).take k))[q]?=some v:=⟨_,List.getElem?_eq_getElem (by rw [tyDeps_len,hpl];omega)⟩
 obtain ⟨v,hv⟩:=hex
 have hv1:=tyDeps_bd2 h.ok v (List.mem_of_getElem? hv)
 obtain ⟨hv0,hv2⟩:=hv1
 have HD:=hide (tyDpt_ref (ds:=tyDeps ((tys L).take k)) (t:=⟨kd,m,r,el,fs⟩) h3 (show _=v by show (tyDeps ((tys L).take k)).getD el.toNat 0=v;rw [hq,Int.toNat_natCast,List.getD_eq_getElem?_getD,hv];rfl) hv0)
 obtain ⟨g1,o1,rfl,hg1,d0⟩:=h.d.int hv
 have hq1:(q:Int) < (k:Int):=by omega
 subst hq
 clear h hone hpl hl hfs h3 hpp hv
 go_enter Tryz.func80,Tryz.ntmps80
 go_wp2_with fail
 go_loop [10,11] (fun kk j=>j=.int .i64 0∧kk=.int .i64 v) (fun _ _=>0)
 case atStart=>exact ⟨rfl,rfl⟩
 case round=>
  obtain ⟨rfl,rfl⟩:=hrel
  have hmemx:(⟨kd,m,r,(q:Int),fs⟩∈(tys L).take k)∨¬(⟨kd,m,r,(q:Int),fs⟩∈(tys L).take k):=Classical.em _
  by_cases h32:32 < v+1
  ·
   clear hmemx
   have HF:=hide (tyErr_deep (rg:=rg) HPL.out HOWN.out HD.out h32)
   go_wp2_with fail
   go_ret
   exact ⟨ret_m HF.out,HB.out⟩
  ·
   rcases hmemx with hmem | hmem
   ·
    have HF:=hide (tyErr_dup (rg:=rg) HPL.out HOWN.out HD.out h32 hmem)
    have HM:=hide hmem
    clear hmem
    go_wp2_with fail
    generalize (w.alloc (.cells #[.int .i64 kd,.bool m,.int .i64 r,.int .i64 (q:Int),.slice B 0 cf] 65))=W at *
    exact TypRefz1
   ·
    have HF:=hide (tyErr_fine (rg:=rg) HPL.out HOWN.out HD.out h32 hmem)
    have HM:=hide hmem
    clear hmem
    go_wp2_with fail
    generalize (w.alloc (.cells #[.int .i64 kd,.bool m,.int .i64 r,.int .i64 (q:Int),.slice B 0 cf] 65))=W at *
    exact TypRefz2
theorem rcheck_plain (A:Option Addr) (n c:Nat) (L:List TyW) (k:Nat) (kd:Int) (m:Bool) (r el:Int) (fs:List Int) (B:Option Addr) (nf cf:Nat) (Ad:Option Addr) (cd:Nat) (rg:Int) (w:World) (h:RC A n c L k ⟨⟨kd,m,r,el,fs⟩,B,nf,cf⟩ Ad cd rg w) (h00:0≤kd) (h01:kd≤4) (h3:kd≠3) (h4:kd≠4) (hm:m=false) (hr:r=0) (he:el=0) (hf:nf=0) :
 Calls Tryz.prog 80 #[.slice A n c,.slice Ad k cd,.int .i64 (k:Int),.int .i64 rg] w fun e w'=>e=.returned (.int .i64 (tyErr ((tys L).take k) ⟨kd,m,r,el,fs⟩ rg))∧Below w.heap.size w w':=by
 have HB:=hide ((Below.refl w.heap.size w).alloc (Nat.le_refl _) (.cells #[.int .i64 kd,.bool m,.int .i64 r,.int .i64 el,.slice B nf cf] 65))
 have hkn:=h.lt
 have hkn':(k:Int) < (n:Int):=by omega
 have hn:=h.few
 have hnc:=h.nc
 obtain ⟨g,o,rfl,hgB,hone,c0,c1,c2,c3,c4⟩:=h.ty.at_ h.at_
 simp only [] at c0 c1 c2 c3 c4
 have hl:fs.length=nf:=hone.ok.len
 have hnf:nf≤maxLen:=Nat.le_trans hone.ok.nc hone.ok.cm
 unfold maxLen at hnf
 have hpl:=h.plen
 have kc0:(0:Int)≤(k:Int):=Int.natCast_nonneg _
 have kc1:(k:Int)≤(c:Int):=by omega
 have kc2:k≤c:=by omega
 have kc3:¬(k:Int) < 0:=by omega
 have kc4:¬(c:Int) < (k:Int):=by omega
 have H:=hide h
 have HONE:=hide hone
 have HPL:=hide hpl
 subst hm hr he hf
 have hfs:fs=[]:=List.eq_nil_of_length_eq_zero hl
 have e3:(kd == 3)=false:=beq_eq_false_iff_ne.2 h3
 have e3n:(kd != 3)=true:=by rw [bne_iff_ne];exact h3
 have e4:(kd == 4)=false:=beq_eq_false_iff_ne.2 h4
 have e4n:(kd != 4)=true:=by rw [bne_iff_ne];exact h4
 have hpp:tyParts ⟨kd,false,0,0,fs⟩=[]:=tyParts_none h3 h4
 have HOWN:Hid (tyOwn ⟨kd,false,0,0,fs⟩ (k:Int) rg=0):=by
  show _=_
  rw [tyOwn_in2 h00 h01,hpp,hfs]
  simp [h3,h4,tyAllIn]
 have HD:Hid (tyDpt (tyDeps ((tys L).take k)) ⟨kd,false,0,0,fs⟩=0+1):=by
  show _=_
  unfold tyDpt
  rw [hpp]
  rfl
 have D0:=hide (show (w.alloc (.cells #[.int .i64 kd,.bool false,.int .i64 0,.int .i64 0,.slice B 0 cf] 65)).cell? ⟨w.heap.size,0,none⟩=some (.int .i64 kd) from by simp [go_sem])
 have D1:=hide (show (w.alloc (.cells #[.int .i64 kd,.bool false,.int .i64 0,.int .i64 0,.slice B 0 cf] 65)).cell? ⟨w.heap.size,1,none⟩=some (.bool false) from by simp [go_sem])
 have D2:=hide (show (w.alloc (.cells #[.int .i64 kd,.bool false,.int .i64 0,.int .i64 0,.slice B 0 cf] 65)).cell? ⟨w.heap.size,2,none⟩=some (.int .i64 0) from by simp [go_sem])
 have D3:=hide (show (w.alloc (.cells #[.int .i64 kd,.bool false,.int .i64 0,.int .i64 0,.slice B 0 cf] 65)).cell? ⟨w.heap.size,3,none⟩=some (.int .i64 0) from by simp [go_sem])
 have D4:=hide (show (w.alloc (.cells #[.int .i64 kd,.bool false,.int .i64 0,.int .i64 0,.slice B 0 cf] 65)).cell? ⟨w.heap.size,4,none⟩=some (.slice B 0 cf) from by simp [go_sem])
 have HTY:=hide (show Typs (w.alloc (.cells #[.int .i64 kd,.bool false,.int .i64 0,.int .i64 0,.slice B 0 cf] 65)).drew (w.alloc (.cells #[.int .i64 kd,.bool false,.int .i64 0,.int .i64 0,.slice B 0 cf] 65)).drew.heap.size (some ⟨g,o,none⟩) k (L.take k) from (((h.ty.take (Nat.le_of_lt hkn)).below HB.out).more (by simp)).below ((Below.refl _ _).drew))
 have HX:=hide (show OneT (w.alloc (.cells #[.int .i64 kd,.bool false,.int .i64 0,.int .i64 0,.slice B 0 cf] 65)).drew (w.alloc (.cells #[.int .i64 kd,.bool false,.int .i64 0,.int .i64 0,.slice B 0 cf] 65)).drew.heap.size ⟨⟨kd,false,0,0,fs⟩,B,0,cf⟩ from ((hone.below HB.out).more (by simp)).below ((Below.refl _ _).drew))
 clear h hone hpl hl hfs h3 h4 hpp
 go_enter Tryz.func80,Tryz.ntmps80
 go_wp2_with fail
 go_loop [10,11] (fun kk j=>j=.int .i64 0∧kk=.int .i64 0) (fun _ _=>0)
 case atStart=>exact ⟨rfl,rfl⟩
 case round=>
  obtain ⟨rfl,rfl⟩:=hrel
  have hmemx:(⟨kd,false,0,0,fs⟩∈(tys L).take k)∨¬(⟨kd,false,0,0,fs⟩∈(tys L).take k):=Classical.em _
  by_cases h32:32 < (0:Int)+1
  ·
   exact absurd h32 (by decide)
  ·
   rcases hmemx with hmem | hmem
   ·
    have HF:=hide (tyErr_dup (rg:=rg) HPL.out HOWN.out HD.out h32 hmem)
    have HM:=hide hmem
    clear hmem
    go_wp2_with fail
    generalize (w.alloc (.cells #[.int .i64 kd,.bool false,.int .i64 0,.int .i64 0,.slice B 0 cf] 65))=W at *
    exact TypRefz1
   ·
    have HF:=hide (tyErr_fine (rg:=rg) HPL.out HOWN.out HD.out h32 hmem)
    have HM:=hide hmem
    clear hmem
    go_wp2_with fail
    generalize (w.alloc (.cells #[.int .i64 kd,.bool false,.int .i64 0,.int .i64 0,.slice B 0 cf] 65))=W at *
    exact TypRefz2
theorem rcheck_tup (A:Option Addr) (n c:Nat) (L:List TyW) (k:Nat) (kd:Int) (m:Bool) (r el:Int) (fs:List Int) (B:Option Addr) (nf cf:Nat) (Ad:Option Addr) (cd:Nat) (rg:Int) (w:World) (h:RC A n c L k ⟨⟨kd,m,r,el,fs⟩,B,nf,cf⟩ Ad cd rg w) (h4:kd=4) (hm:m=false) (hr:r=0) (he:el=0) :
 Calls Tryz.prog 80 #[.slice A n c,.slice Ad k cd,.int .i64 (k:Int),.int .i64 rg] w fun e w'=>e=.returned (.int .i64 (tyErr ((tys L).take k) ⟨kd,m,r,el,fs⟩ rg))∧Below w.heap.size w w':=by
 have HB:=hide ((Below.refl w.heap.size w).alloc (Nat.le_refl _) (.cells #[.int .i64 kd,.bool m,.int .i64 r,.int .i64 el,.slice B nf cf] 65))
 have hkn:=h.lt
 have hkn':(k:Int) < (n:Int):=by omega
 have hn:=h.few
 have hnc:=h.nc
 obtain ⟨g,o,rfl,hgB,hone,c0,c1,c2,c3,c4⟩:=h.ty.at_ h.at_
 simp only [] at c0 c1 c2 c3 c4
 have hl:fs.length=nf:=hone.ok.len
 have hnf:nf≤maxLen:=Nat.le_trans hone.ok.nc hone.ok.cm
 unfold maxLen at hnf
 have hpl:=h.plen
 have kc0:(0:Int)≤(k:Int):=Int.natCast_nonneg _
 have kc1:(k:Int)≤(c:Int):=by omega
 have kc2:k≤c:=by omega
 have kc3:¬(k:Int) < 0:=by omega
 have kc4:¬(c:Int) < (k:Int):=by omega
 have H:=hide h
 have HONE:=hide hone
 have HPL:=hide hpl
 subst hm hr he
 have e3:(kd == 3)=false:=beq_eq_false_iff_ne.2 (by omega)
 have e3n:(kd != 3)=true:=by rw [bne_iff_ne];omega
 have e4:(kd == 4)=true:=beq_iff_eq.2 h4
 have e4n:(kd != 4)=false:=by simp [h4]
 have h00:0≤kd:=by omega
 have h01:kd≤4:=by omega
 have hpp:tyParts ⟨kd,false,0,0,fs⟩=fs:=tyParts_tup h4
 have HO:Hid (tyOwn ⟨kd,false,0,0,fs⟩ (k:Int) rg=if tyAllIn fs (k:Int)=false then 3 else if nf=0∨65535 < nf then 15 else 0):=by
  show _=_
  rw [tyOwn_in2 h00 h01,if_neg (by simp [h4]),hpp,hl]
  simp [h4]
 have hdl:(tyDeps ((tys L).take k)).length=k:=by rw [tyDeps_len,hpl]
 have hbd:=tyDeps_bd2 h.ok
 have HD0:=hide (tyDpt_to (ds:=tyDeps ((tys L).take k)) hpp (Nat.le_of_eq hl))
 have HMB:=hide (maxTo_bd (ps:=fs) (d:=fun p=>(tyDeps ((tys L).take k)).getD p.toNat 0) (fun p _=>tyDpt_bd hbd p))
 have HRF:=hide hone.rd
 have HRD:=hide h.d
 have HDL:=hide hdl
 have HBD:=hide hbd
 have HL:=hide hl
 have D0:=hide (show (w.alloc (.cells #[.int .i64 kd,.bool false,.int .i64 0,.int .i64 0,.slice B nf cf] 65)).cell? ⟨w.heap.size,0,none⟩=some (.int .i64 kd) from by simp [go_sem])
 have D1:=hide (show (w.alloc (.cells #[.int .i64 kd,.bool false,.int .i64 0,.int .i64 0,.slice B nf cf] 65)).cell? ⟨w.heap.size,1,none⟩=some (.bool false) from by simp [go_sem])
 have D2:=hide (show (w.alloc (.cells #[.int .i64 kd,.bool false,.int .i64 0,.int .i64 0,.slice B nf cf] 65)).cell? ⟨w.heap.size,2,none⟩=some (.int .i64 0) from by simp [go_sem])
 have D3:=hide (show (w.alloc (.cells #[.int .i64 kd,.bool false,.int .i64 0,.int .i64 0,.slice B nf cf] 65)).cell? ⟨w.heap.size,3,none⟩=some (.int .i64 0) from by simp [go_sem])
 have D4:=hide (show (w.alloc (.cells #[.int .i64 kd,.bool false,.int .i64 0,.int .i64 0,.slice B nf cf] 65)).cell? ⟨w.heap.size,4,none⟩=some (.slice B nf cf) from by simp [go_sem])
 have HTY:=hide (show Typs (w.alloc (.cells #[.int .i64 kd,.bool false,.int .i64 0,.int .i64 0,.slice B nf cf] 65)).drew (w.alloc (.cells #[.int .i64 kd,.bool false,.int .i64 0,.int .i64 0,.slice B nf cf] 65)).drew.heap.size (some ⟨g,o,none⟩) k (L.take k) from (((h.ty.take (Nat.le_of_lt hkn)).below HB.out).more (by simp)).below ((Below.refl _ _).drew))
 have HX:=hide (show OneT (w.alloc (.cells #[.int .i64 kd,.bool false,.int .i64 0,.int .i64 0,.slice B nf cf] 65)).drew (w.alloc (.cells #[.int .i64 kd,.bool false,.int .i64 0,.int .i64 0,.slice B nf cf] 65)).drew.heap.size ⟨⟨kd,false,0,0,fs⟩,B,nf,cf⟩ from ((hone.below HB.out).more (by simp)).below ((Below.refl _ _).drew))
 generalize hds:tyDeps ((tys L).take k)=ds at *
 clear h hone hpl hl h4 hpp hdl hbd
 have HDS:=hide hds
 clear hds
 go_enter Tryz.func80,Tryz.ntmps80
 go_wp2_with fail
 go_loop [10,11] (fun kk j=>∃ i:Nat,j=.int .i64 (i:Int)∧i≤nf∧kk=.int .i64 (maxTo fs (fun p=>ds.getD p.toNat 0) i)∧Hid (∀ p∈fs.take i,0≤p∧p < (k:Int))) (fun _ j=>nf - (intOf j).toNat)
 case atStart=>exact ⟨0,rfl,Nat.zero_le _,rfl,fun p hp=>by simp at hp⟩
 case round=>
  obtain ⟨i,rfl,hi,rfl,HALL⟩:=hrel
  have hmb:=HMB.out i
  obtain ⟨hb0,hb2⟩:=hmb
  by_cases hlt:i < nf
  ·
   have hlt':(i:Int) < (nf:Int):=by omega
   have hex:∃ p,fs[i]?=some p:=⟨_,List.getElem?_eq_getElem (by have:=HL.out;omega)⟩
   obtain ⟨p,hp⟩:=hex
   obtain ⟨gf,of,rfl,hgf,df⟩:=HRF.out.int hp
   have hmem:=List.mem_of_getElem? hp
   have HP:=hide hp
   by_cases hp0:0≤p
   rotate_left
   ·
    have hp1:p < 0:=by omega
    have HF:=hide (tyErr_own (rg:=rg) HPL.out (HO.out.trans (if_pos (by cases hq:tyAllIn fs (k:Int) with | false=>rfl | true=>exact absurd (tyAllIn_iff.1 hq p hmem).1 hp0))) (by decide))
    clear hp hmem
    go_wp2
    go_ret
    exact ⟨ret_m HF.out,HB.out⟩
   by_cases hp1:p < (k:Int)
   rotate_left
   ·
    have hp2:(k:Int)≤p:=by omega
    have HF:=hide (tyErr_own (rg:=rg) HPL.out (HO.out.trans (if_pos (by cases hq:tyAllIn fs (k:Int) with | false=>rfl | true=>exact absurd (tyAllIn_iff.1 hq p hmem).2 hp1))) (by decide))
    clear hp hmem
    go_wp2
    go_ret
    exact ⟨ret_m HF.out,HB.out⟩
   obtain ⟨q,hq⟩:=Int.eq_ofNat_of_zero_le hp0
   have hex:∃ v,ds[q]?=some v:=⟨_,List.getElem?_eq_getElem (by have:=HDL.out;omega)⟩
   obtain ⟨v,hv⟩:=hex
   obtain ⟨g1,o1,rfl,hg1,d0⟩:=HRD.out.int hv
   have hms:=maxTo_succ (fun p:Int=>ds.getD p.toNat 0) hp
   have he:ds.getD p.toNat 0=v:=by rw [hq,Int.toNat_natCast,List.getD_eq_getElem?_getD,hv];rfl
   simp only [he] at hms
   have HMS:=hide hms
   have HA2:Hid (∀ p∈fs.take (i+1),0≤p∧p < (k:Int)):=fun y hy=>by
    rw [List.take_add_one,HP.out] at hy
    rcases List.mem_append.1 hy with hy | hy
    ·
     exact HALL.out y hy
    ·
     obtain rfl:y=p:=by simpa using hy
     exact ⟨hp0,hp1⟩
   have hq1:(q:Int) < (k:Int):=by omega
   have hq2:¬(k:Int)≤(q:Int):=by omega
   have hv1:=HBD.out v (List.mem_of_getElem? hv)
   obtain ⟨hv0,hv2⟩:=hv1
   subst hq
   generalize maxTo fs (fun p=>ds.getD p.toNat 0) i=mm at *
   clear hp hmem hv hms he
   go_wp2_with fail
   go_round
   case rel=>exact ⟨i+1,by go_num,by omega,by rw [HMS.out,ite_max],HA2.out⟩
   case measure=>simp [intOf];omega
  ·
   obtain rfl:i=nf:=by omega
   have hall:tyAllIn fs (k:Int)=true:=tyAllIn_iff.2 fun p hp=>HALL.out p (by rw [List.take_of_length_le (Nat.le_of_eq HL.out)];exact hp)
   have HO2:=hide (HO.out.trans (if_neg (by rw [hall];decide)))
   generalize hmm:maxTo fs (fun p=>ds.getD p.toNat 0) i=mm at *
   have HD:=HD0
   rw [←HDS.out] at HD
   clear hall hmm
   by_cases hf:i=0
   ·
    have HF:=hide (tyErr_own (rg:=rg) HPL.out (HO2.out.trans (if_pos (.inl hf))) (by decide))
    have e5:((i:Int) == 0)=true:=beq_iff_eq.2 (by omega)
    clear hf
    go_wp2
    go_ret
    exact ⟨ret_m HF.out,HB.out⟩
   ·
    have e5:((i:Int) == 0)=false:=beq_eq_false_iff_ne.2 (by omega)
    by_cases hg:65535 < i
    ·
     have HF:=hide (tyErr_own (rg:=rg) HPL.out (HO2.out.trans (if_pos (.inr hg))) (by decide))
     have hg1:(65535:Int) < (i:Int):=by omega
     clear hf hg
     go_wp2
     go_ret
     exact ⟨ret_m HF.out,HB.out⟩
    ·
     have HOWN:=hide (HO2.out.trans (if_neg (by omega)))
     have hg1:¬(65535:Int) < (i:Int):=by omega
     clear hf hg
     have hmemx:(⟨kd,false,0,0,fs⟩∈(tys L).take k)∨¬(⟨kd,false,0,0,fs⟩∈(tys L).take k):=Classical.em _
     by_cases h32:32 < mm+1
     ·
      clear hmemx
      have HF:=hide (tyErr_deep (rg:=rg) HPL.out HOWN.out HD.out h32)
      go_wp2_with fail
      go_ret
      exact ⟨ret_m HF.out,HB.out⟩
     ·
      rcases hmemx with hmem | hmem
      ·
       have HF:=hide (tyErr_dup (rg:=rg) HPL.out HOWN.out HD.out h32 hmem)
       have HM:=hide hmem
       clear hmem
       go_wp2_with fail
       generalize (w.alloc (.cells #[.int .i64 kd,.bool false,.int .i64 0,.int .i64 0,.slice B i cf] 65))=W at *
       exact TypRefz1
      ·
       have HF:=hide (tyErr_fine (rg:=rg) HPL.out HOWN.out HD.out h32 hmem)
       have HM:=hide hmem
       clear hmem
       go_wp2_with fail
       generalize (w.alloc (.cells #[.int .i64 kd,.bool false,.int .i64 0,.int .i64 0,.slice B i cf] 65))=W at *
       exact TypRefz2
theorem rcheck_any {A:Option Addr} {n c:Nat} {L:List TyW} {k:Nat} {x:TyW} {Ad:Option Addr} {cd:Nat} {rg:Int} {w:World} (h:RC A n c L k x Ad cd rg w) :
 Calls Tryz.prog 80 #[.slice A n c,.slice Ad k cd,.int .i64 (k:Int),.int .i64 rg] w fun e w'=>e=.returned (.int .i64 (tyErr ((tys L).take k) x.t rg))∧Below w.heap.size w w':=by
 obtain ⟨⟨kd,m,r,el,fs⟩,B,nf,cf⟩:=x
 by_cases h0:kd < 0
 ·
  exact rcheck_low A n c L k kd m r el fs B nf cf Ad cd rg w h h0
 by_cases h1:4 < kd
 ·
  exact rcheck_high A n c L k kd m r el fs B nf cf Ad cd rg w h h1
 by_cases h3:kd=3
 ·
  by_cases hf:nf=0
  ·
   exact rcheck_ref A n c L k kd m r el fs B nf cf Ad cd rg w h h3 hf
  ·
   exact rcheck_full A n c L k kd m r el fs B nf cf Ad cd rg w h (by omega) (by omega) (by omega) (fun h=>absurd h3 h) (by omega)
 by_cases hbad:m=true∨r≠0∨el≠0
 ·
  exact rcheck_bad A n c L k kd m r el fs B nf cf Ad cd rg w h (by omega) (by omega) h3 hbad
 have hm:m=false:=by
  cases hm:m
  ·
   rfl
  ·
   exact absurd (.inl hm) hbad
 have hr:r=0:=Classical.byContradiction fun h=>hbad (.inr (.inl h))
 have he:el=0:=Classical.byContradiction fun h=>hbad (.inr (.inr h))
 by_cases h4:kd=4
 ·
  exact rcheck_tup A n c L k kd m r el fs B nf cf Ad cd rg w h h4 hm hr he
 ·
  by_cases hf:nf=0
  ·
   exact rcheck_plain A n c L k kd m r el fs B nf cf Ad cd rg w h (by omega) (by omega) h3 h4 hm hr he hf
  ·
   exact rcheck_full A n c L k kd m r el fs B nf cf Ad cd rg w h (by omega) (by omega) h4 (fun _=>⟨hm,hr,he⟩) (by omega)
theorem rcheck_is {A:Option Addr} {n c:Nat} {L:List TyW} {k:Nat} {x:TyW} {Ad:Option Addr} {cd:Nat} {rg v:Int} {w:World} (h:RC A n c L k x Ad cd rg w) (hv:tyErr ((tys L).take k) x.t rg=v) :
 Calls Tryz.prog 80 #[.slice A n c,.slice Ad k cd,.int .i64 (k:Int),.int .i64 rg] w fun e w'=>e=.returned (.int .i64 v)∧Below w.heap.size w w':=hv ▸ rcheck_any h
theorem TyOk.snoc2 {l:List Ty} {r:Int} (h:TyOk l r) {t:Ty} (hl:l.length < 65535) (he:tyErr l t r=0):TyOk (l++[t]) r:=by
 refine ⟨by simp;omega,fun j u hu=>?_⟩
 rcases Nat.lt_or_ge j l.length with hj | hj
 ·
  rw [List.getElem?_append_left hj] at hu
  rw [List.take_append_of_le_length (by omega)]
  exact h.err j u hu
 ·
  have hj2:j < (l++[t]).length:=(List.getElem?_eq_some_iff.1 hu).1
  simp only [List.length_append,List.length_singleton] at hj2
  obtain rfl:j=l.length:=by omega
  rw [List.getElem?_append_right (Nat.le_refl _),Nat.sub_self] at hu
  obtain rfl:t=u:=by simpa using hu
  rw [List.take_left]
  exact he
def RChkR (A:Option Addr) (n:Nat) (L:List TyW) (rg:Int) (w:World) (k:Nat) (Ad:Option Addr) (cd:Nat) (wr:World):Prop:=
 tyChk (tys L) rg=tyChkR rg ((tys L).take k) ((tys L).drop k)∧TyOk ((tys L).take k) rg∧Rd wr wr.heap.size Ad k (i64s (tyDeps ((tys L).take k)))∧Below w.heap.size w wr
theorem RCheck_small (A:Option Addr) (n c:Nat) (L:List TyW) (rg:Int) (w:World) (hA:Typs w w.heap.size A n L) (hn:n≤65535) (hnc:n≤c) :
 Calls Tryz.prog 46 #[.slice A n c,.int .i64 rg] w fun e w'=>e=.returned (.int .i64 (tyChk (tys L) rg))∧Below w.heap.size w w':=by
 have HA:=hide hA
 have HL:=hide hA.len
 have hn':¬(65535:Int) < (n:Int):=by omega
 have HR0:Hid (RChkR A n L rg w 0 none 0 w):=⟨tyChk_at (by rw [tys_len,hA.len];exact hn) rg,⟨by simp,fun j t h=>by simp at h⟩,Rd.nil _ _ _,Below.refl _ _⟩
 clear hA
 go_enter Tryz.func46,Tryz.ntmps46
 go_wp2
 go_loopw [5,6] (fun d i wr=>∃ (k:Nat) (Ad:Option Addr) (cd:Nat),i=.int .i64 (k:Int)∧k≤n∧k≤cd∧d=.slice Ad k cd∧Hid (RChkR A n L rg w k Ad cd wr)) (fun _ i _=>n - (intOf i).toNat)
 case atStart=>exact ⟨0,none,0,rfl,Nat.zero_le _,Nat.zero_le _,rfl,HR0.out⟩
 case round=>
  obtain ⟨k,Ad,cd,rfl,hk,hkc,rfl,HR⟩:=hrel
  by_cases hlt:k < n
  ·
   have hlt':(k:Int) < (n:Int):=by omega
   have hex:∃ a,L[k]?=some a:=⟨_,List.getElem?_eq_getElem (by have:=HL.out;omega)⟩
   obtain ⟨x,hx⟩:=hex
   have hat:=tys_at hx
   have hstep:=tyChkR_at (r:=rg) hat
   have HRC:Hid (RC A n c L k x Ad cd rg wr):=⟨(HA.out.below HR.out.2.2.2).more HR.out.2.2.2.size,hx,HR.out.2.1,HR.out.2.2.1,hn,hnc,hkc⟩
   have hex:∃ v,tyErr ((tys L).take k) x.t rg=v:=⟨_,rfl⟩
   obtain ⟨v,hv⟩:=hex
   have HV:=hide hv
   have HAT:=hide hat
   by_cases hv0:v=0
   ·
    subst hv0
    have htk:(tys L).take (k+1)=(tys L).take k++[x.t]:=tyTake_snoc hat
    have hpl:((tys L).take k).length=k:=HRC.out.plen
    have HOK:Hid (TyOk ((tys L).take (k+1)) rg):=by show TyOk _ _;rw [htk];exact HR.out.2.1.snoc2 (by omega) hv
    have HST:=hide (show tyChk (tys L) rg=tyChkR rg ((tys L).take (k+1)) ((tys L).drop (k+1)) from by rw [HR.out.1,hstep,if_pos hv])
    have HK1:=hide (show (k:Int)+1=((k+1:Nat):Int) by omega)
    clear hx hat hstep hv htk hpl
    go_wp2_with fail
    refine (rcheck_is HRC.out HV.out).mono ?_
    rintro e w1 ⟨rfl,hb1⟩
    have HB1:=hide (HR.out.2.2.2.trans (hb1.mono HR.out.2.2.2.size))
    clear hb1
    go_wp2_with fail
    rw [HK1.out]
    refine (depths_any A n c L (k+1) rg w1 ((HA.out.below HB1.out).more HB1.out.size) (by omega) hn HOK.out).mono ?_
    rintro e w2 ⟨A2,c2,rfl,h1,h2,hown,hb2⟩
    have HRD:=hide (Rd.of_own hown)
    have HB2:=hide (HB1.out.trans (hb2.mono HB1.out.size))
    have hex:∃ m,m=k+1:=⟨_,rfl⟩
    obtain ⟨m,hm⟩:=hex
    rw [←hm] at h1 HRD HOK HST ⊢
    clear hown hb2
    have HM:=hide hm
    clear hm
    go_wp2_with fail
    go_roundw
    case rel=>exact ⟨m,A2,c2,by rw [HM.out];go_num,by have:=HM.out;omega,h1,rfl,HST.out,HOK.out,HRD.out,HB2.out⟩
    case measure=>simp [intOf];omega
   ·
    clear hx hat
    have hvn:(v != 0)=true:=by rw [bne_iff_ne];exact hv0
    have HF:=hide (show tyChk (tys L) rg=v from by rw [HR.out.1,hstep,hv,if_neg hv0])
    clear hstep hv hv0
    go_wp2_with fail
    refine (rcheck_is HRC.out HV.out).mono ?_
    rintro e w1 ⟨rfl,hb1⟩
    have HB1:=hide (HR.out.2.2.2.trans (hb1.mono HR.out.2.2.2.size))
    clear hb1
    go_wp2_with fail
    go_ret
    exact ⟨ret_m HF.out,HB1.out⟩
  ·
   obtain rfl:k=n:=by omega
   have HF:=hide (show tyChk (tys L) rg=0 from HR.out.1.trans (tyChkR_end (by rw [tys_len,HL.out];exact Nat.le_refl _)))
   go_wp2
   go_ret
   exact ⟨ret_m HF.out,HR.out.2.2.2⟩
theorem RCheck_big (A:Option Addr) (n c:Nat) (rg:Int) (w:World) (hn:65535 < n) (hm:n≤maxLen) :
 Calls Tryz.prog 46 #[.slice A n c,.int .i64 rg] w fun e w'=>e=.returned (.int .i64 15)∧Below w.heap.size w w':=by
 have hn':(65535:Int) < (n:Int):=by omega
 unfold maxLen at hm
 go_enter Tryz.func46,Tryz.ntmps46
 go_wp2
 go_ret
 exact ⟨rfl,Below.refl _ _⟩
theorem RCheckT_any (A:Option Addr) (n c:Nat) (L:List TyW) (rg:Int) (w:World) (hA:Typs w w.heap.size A n L) (hn:n≤maxLen) (hnc:n≤c) :
 Calls Tryz.prog 46 #[.slice A n c,.int .i64 rg] w fun e w'=>e=.returned (.int .i64 (tyChk (tys L) rg))∧Below w.heap.size w w':=by
 rcases Nat.lt_or_ge 65535 n with h | h
 ·
  rw [tyChk_big (by rw [tys_len,hA.len];exact h)]
  exact RCheck_big A n c rg w h hn
 ·
  exact RCheck_small A n c L rg w hA h hnc
theorem RCheckT_is {A:Option Addr} {n c:Nat} {L:List TyW} {rg v:Int} (h:tyChk (tys L) rg=v) (w:World) (hA:Typs w w.heap.size A n L) (hn:n≤maxLen) (hnc:n≤c) :
 Calls Tryz.prog 46 #[.slice A n c,.int .i64 rg] w fun e w'=>e=.returned (.int .i64 v)∧Below w.heap.size w w':=h ▸ RCheckT_any A n c L rg w hA hn hnc
theorem RDepth_in {A:Option Addr} {n c:Nat} {L:List TyW} {w:World} (hA:Typs w w.heap.size A n L) (hn:n≤65535) {r:Int} (hok:TyOk (tys L) r) (i:Nat) (hi:i < n) :
 Calls Tryz.prog 47 #[.slice A n c,.int .i64 (i:Int)] w fun e w'=>e=.returned (.int .i64 (tyDep (tys L) (i:Int)))∧Below w.heap.size w w':=by
 have HA:=hide hA
 have hl:=hA.len
 have hi':(i:Int) < (n:Int):=by omega
 have hi2:¬(n:Int)≤(i:Int):=by omega
 have hi1:(i:Int)+1=((i+1:Nat):Int):=by omega
 have hex:∃ v,(tyDeps ((tys L).take (i+1)))[i]?=some v:=⟨_,List.getElem?_eq_getElem (by rw [tyDeps_len,List.length_take,tys_len];omega)⟩
 obtain ⟨v,hv⟩:=hex
 have hvv:tyDep (tys L) (i:Int)=v:=by
  rw [tyDeps_take (by rw [tys_len];omega),List.getElem?_take,if_pos (by omega)] at hv
  unfold tyDep
  rw [Int.toNat_natCast,List.getD_eq_getElem?_getD,hv]
  rfl
 clear hA hl
 have HV:=hide hv
 clear hv
 have HVV:=hide hvv
 clear hvv
 have HOK:=hide (hok.take (i+1))
 clear hok
 have HI:=hide hi1
 clear hi1
 go_enter Tryz.func47,Tryz.ntmps47
 go_wp2_with fail
 rw [HI.out]
 refine (depths_any A n c L (i+1) r w HA.out (by omega) hn HOK.out).mono ?_
 rintro e w2 ⟨A2,c2,rfl,h1,h2,hown,hb2⟩
 obtain ⟨g,o,rfl,_,c0⟩:=(Rd.of_own hown).int HV.out
 have hex:∃ m,m=i+1:=⟨_,rfl⟩
 obtain ⟨m,hm⟩:=hex
 have him:(i:Int) < (m:Int):=by omega
 have HB2:=hide hb2
 rw [←hm]
 clear hown hb2 hm h1 h2
 go_wp2
 go_ret
 exact ⟨ret_m HVV.out,HB2.out⟩
def tyAt (L:List Ty) (s:Int):Option Ty:=if 0≤s then L[s.toNat]? else none
theorem tyAt_nat {L:List Ty} {i:Nat}:tyAt L (i:Int)=L[i]?:=by unfold tyAt;rw [if_pos (Int.natCast_nonneg _),Int.toNat_natCast]
theorem tyAt_some {L:List Ty} {s:Int} {a:Ty} (h:tyAt L s=some a):∃ i:Nat,s=(i:Int)∧L[i]?=some a:=by
 unfold tyAt at h
 split at h
 ·
  rename_i h0
  exact ⟨s.toNat,(Int.toNat_of_nonneg h0).symm,h⟩
 ·
  cases h
theorem tyAt_rng {L:List Ty} {s:Int} {a:Ty} (h:tyAt L s=some a):0≤s∧s < (L.length:Int):=by
 obtain ⟨i,rfl,h⟩:=tyAt_some h
 have:=(List.getElem?_eq_some_iff.1 h).1
 omega
def needs (a b:Ty):List Pr:=if a.kind=3 then (a.elem,b.elem) :: (if a.mut_=true then [(b.elem,a.elem)] else []) else if a.kind=4 then a.fields.zip b.fields else []
def poss (O:Int→Int→Bool) (a b:Ty):Bool:=
 if a.kind≠b.kind then false
 else if a.kind=0∨a.kind=1∨a.kind=2 then true
 else if a.kind=3 then (a.mut_ == b.mut_) && O a.region b.region
 else if a.kind=4 then decide (a.fields.length=b.fields.length)
 else false
inductive Sub (O:Int→Int→Bool) (L:List Ty):Int→Int→Prop
 | mk {s t:Int} {a b:Ty}:tyAt L s=some a→tyAt L t=some b→poss O a b=true→(∀ p:Pr,p∈needs a b→Sub O L p.1 p.2)→Sub O L s t
noncomputable def sub (O:Int→Int→Bool) (L:List Ty) (s t:Int):Bool:=@decide (Sub O L s t) (Classical.propDecidable _)
theorem sub_iff {O:Int→Int→Bool} {L:List Ty} {s t:Int}:sub O L s t=true↔Sub O L s t:=by unfold sub;exact @decide_eq_true_iff _ (Classical.propDecidable _)
theorem sub_not {O:Int→Int→Bool} {L:List Ty} {s t:Int}:sub O L s t=false↔¬Sub O L s t:=by rw [←sub_iff];simp
section
variable {O:Int→Int→Bool} {L:List Ty} {r:Int} {s t u:Int} {a b c:Ty}
theorem Sub.inv (h:Sub O L s t):∃ a b,tyAt L s=some a∧tyAt L t=some b∧poss O a b=true∧∀ p:Pr,p∈needs a b→Sub O L p.1 p.2:=by
 cases h with
 | mk h1 h2 h3 h4=>exact ⟨_,_,h1,h2,h3,h4⟩
theorem Sub.at_ (h:Sub O L s t) (ha:tyAt L s=some a) (hb:tyAt L t=some b):poss O a b=true∧∀ p:Pr,p∈needs a b→Sub O L p.1 p.2:=by
 obtain ⟨a',b',h1,h2,h3,h4⟩:=h.inv
 rw [ha] at h1;injection h1 with h1;subst h1
 rw [hb] at h2;injection h2 with h2;subst h2
 exact ⟨h3,h4⟩
theorem poss_kind (h:poss O a b=true):a.kind=b.kind:=by
 unfold poss at h
 by_cases e:a.kind=b.kind
 ·
  exact e
 ·
  rw [if_pos e] at h;cases h
theorem poss_ref (h:poss O a b=true) (h3:a.kind=3):a.mut_=b.mut_∧O a.region b.region=true:=by
 have e:=poss_kind h
 unfold poss at h
 rw [if_neg (fun h=>h e),if_neg (by omega),if_pos h3,Bool.and_eq_true] at h
 exact ⟨by simpa using h.1,h.2⟩
theorem poss_tup (h:poss O a b=true) (h4:a.kind=4):a.fields.length=b.fields.length:=by
 have e:=poss_kind h
 unfold poss at h
 rw [if_neg (fun h=>h e),if_neg (by omega),if_neg (by omega),if_pos h4] at h
 simpa using h
theorem poss_flat (e:a.kind=b.kind) (h:a.kind=0∨a.kind=1∨a.kind=2):poss O a b=true:=by unfold poss;rw [if_neg (fun h=>h e),if_pos h]
theorem poss_mkref (e:a.kind=b.kind) (h3:a.kind=3) (hm:a.mut_=b.mut_) (ho:O a.region b.region=true):poss O a b=true:=by
 unfold poss;rw [if_neg (fun h=>h e),if_neg (by omega),if_pos h3,hm,ho];simp
theorem poss_mktup (e:a.kind=b.kind) (h4:a.kind=4) (hl:a.fields.length=b.fields.length):poss O a b=true:=by
 unfold poss;rw [if_neg (fun h=>h e),if_neg (by omega),if_neg (by omega),if_pos h4];simpa using hl
theorem needs_ref (h3:a.kind=3):needs a b=(a.elem,b.elem) :: (if a.mut_=true then [(b.elem,a.elem)] else []):=by unfold needs;rw [if_pos h3]
theorem needs_tup (h4:a.kind=4):needs a b=a.fields.zip b.fields:=by unfold needs;rw [if_neg (by omega),if_pos h4]
theorem needs_flat (h:a.kind≠3) (h':a.kind≠4):needs a b=[]:=by unfold needs;rw [if_neg h,if_neg h']
theorem zip_at {xs ys:List Int} {p:Pr} (h:p∈xs.zip ys):∃ i:Nat,xs[i]?=some p.1∧ys[i]?=some p.2:=by
 obtain ⟨i,hi⟩:=List.getElem?_of_mem h
 exact ⟨i,List.getElem?_zip_eq_some.1 hi⟩
theorem zip_mk {xs ys:List Int} {i:Nat} {x y:Int} (hx:xs[i]?=some x) (hy:ys[i]?=some y):(x,y)∈xs.zip ys:=List.mem_of_getElem? (List.getElem?_zip_eq_some.2 ⟨hx,hy⟩)
theorem need_less (h:TyOk L r) (ha:tyAt L s=some a) (hb:tyAt L t=some b) (hp:a.kind=b.kind) {p:Pr} (hn:p∈needs a b):0≤p.1∧0≤p.2∧p.1+p.2 < s+t∧p.1 < (L.length:Int)∧p.2 < (L.length:Int):=by
 obtain ⟨i,rfl,hi⟩:=tyAt_some ha
 obtain ⟨j,rfl,hj⟩:=tyAt_some hb
 have hil:=(List.getElem?_eq_some_iff.1 hi).1
 have hjl:=(List.getElem?_eq_some_iff.1 hj).1
 by_cases h3:a.kind=3
 ·
  rw [needs_ref h3] at hn
  have h1:=h.part hi (p:=a.elem) (by rw [tyParts_ref h3];simp)
  have h2:=h.part hj (p:=b.elem) (by rw [tyParts_ref (by omega)];simp)
  rcases List.mem_cons.1 hn with rfl | hn
  ·
   simp only [];omega
  ·
   split at hn
   ·
    have e:p=(b.elem,a.elem):=by simpa using hn
    subst e
    simp only [];omega
   ·
    cases hn
 ·
  by_cases h4:a.kind=4
  ·
   rw [needs_tup h4] at hn
   obtain ⟨k,hx,hy⟩:=zip_at hn
   have h1:=h.part hi (p:=p.1) (by rw [tyParts_tup h4];exact List.mem_of_getElem? hx)
   have h2:=h.part hj (p:=p.2) (by rw [tyParts_tup (by omega)];exact List.mem_of_getElem? hy)
   omega
  ·
   rw [needs_flat h3 h4] at hn;cases hn
theorem closed_sub (h:TyOk L r) {M:List Pr} (hM:∀ p∈M,∃ a b,tyAt L p.1=some a∧tyAt L p.2=some b∧poss O a b=true∧∀ q∈needs a b,q∈M):∀ p∈M,Sub O L p.1 p.2:=by
 have key:∀ n:Nat,∀ p∈M,(p.1+p.2).toNat < n→Sub O L p.1 p.2:=by
  intro n
  induction n with
  | zero=>intro p _ h;omega
  | succ n ih=>
   intro p hp hlt
   obtain ⟨a,b,h1,h2,h3,h4⟩:=hM p hp
   refine .mk h1 h2 h3 fun q hq=>ih q (h4 q hq) ?_
   have:=need_less h h1 h2 (poss_kind h3) hq
   omega
 intro p hp
 exact key _ p hp (Nat.lt_succ_self _)
theorem sub_refl (h:TyOk L r) (hO:∀ x,0≤x→x < r→O x x=true):∀ (n:Nat) (s:Int) (a:Ty),s.toNat < n→tyAt L s=some a→Sub O L s s
 | 0,s,a,hn,_=>by omega
 | n+1,s,a,hn,ha=>by
  obtain ⟨i,rfl,hi⟩:=tyAt_some ha
  have hil:=(List.getElem?_eq_some_iff.1 hi).1
  have ho:=h.own hi
  have sm:∀ p:Int,p∈tyParts a→Sub O L p p:=fun p hp=>by
   obtain ⟨q,w,rfl,hq,hw⟩:=h.elem hi hp
   exact sub_refl h hO n q w (by omega) (by rw [tyAt_nat];exact hw)
  by_cases h3:a.kind=3
  ·
   have hr:=ho.2.2.2.1 h3
   refine .mk ha ha (poss_mkref rfl h3 rfl (hO _ hr.1 hr.2)) fun p hp=>?_
   rw [needs_ref h3] at hp
   have hp':p=(a.elem,a.elem):=by
    rcases List.mem_cons.1 hp with e | e
    ·
     exact e
    ·
     split at e
     ·
      simpa using e
     ·
      cases e
   subst hp'
   exact sm _ (by rw [tyParts_ref h3];simp)
  ·
   by_cases h4:a.kind=4
   ·
    refine .mk ha ha (poss_mktup rfl h4 rfl) fun p hp=>?_
    rw [needs_tup h4] at hp
    obtain ⟨k,hx,hy⟩:=zip_at hp
    rw [hx] at hy
    injection hy with hy
    rw [←hy]
    exact sm _ (by rw [tyParts_tup h4];exact List.mem_of_getElem? hx)
   ·
    exact .mk ha ha (poss_flat rfl (by omega)) fun p hp=>by rw [needs_flat h3 h4] at hp;cases hp
theorem sub_shape (h:TyOk L r) (hs:Sub O L s t):∃ a b,tyAt L s=some a∧tyAt L t=some b∧a.kind=b.kind∧a.mut_=b.mut_∧tyDep L s=tyDep L t:=by
 induction hs with
 | @mk s t a b ha hb hp hn ih=>
  have k:=poss_kind hp
  obtain ⟨i,rfl,hi⟩:=tyAt_some ha
  obtain ⟨j,rfl,hj⟩:=tyAt_some hb
  have oa:=h.own hi
  have ob:=h.own hj
  refine ⟨a,b,ha,hb,k,?_,?_⟩
  ·
   by_cases h3:a.kind=3
   ·
    exact (poss_ref hp h3).1
   ·
    rw [(oa.2.1 h3).1,(ob.2.1 (by omega)).1]
  ·
   rw [h.dep_at hi,h.dep_at hj]
   congr 2
   by_cases h3:a.kind=3
   ·
    rw [tyParts_ref h3,tyParts_ref (by omega)]
    obtain ⟨_,_,_,_,_,_,e⟩:=ih (a.elem,b.elem) (by rw [needs_ref h3];simp)
    simp only [List.map_cons,List.map_nil]
    rw [e]
   ·
    by_cases h4:a.kind=4
    ·
     rw [tyParts_tup h4,tyParts_tup (by omega)]
     have hl:=poss_tup hp h4
     apply List.ext_getElem?
     intro q
     rw [List.getElem?_map,List.getElem?_map]
     rcases Nat.lt_or_ge q a.fields.length with hq | hq
     ·
      have hx:a.fields[q]?=some (a.fields[q]):=List.getElem?_eq_getElem hq
      have hy:b.fields[q]?=some (b.fields[q]'(by omega)):=List.getElem?_eq_getElem (by omega)
      obtain ⟨_,_,_,_,_,_,e⟩:=ih _ (by rw [needs_tup h4];exact zip_mk hx hy)
      rw [hx,hy]
      exact congrArg some e
     ·
      rw [List.getElem?_eq_none hq,List.getElem?_eq_none (by omega)]
    ·
     rw [tyParts_none h3 h4,tyParts_none (by omega) (by omega)]
end
def hasD (ps:List Pr) (f:Int):Bool:=(List.range ps.length).any fun i=>decide (f≤(i:Int)) && (match ps[i]? with | some p=>decide (p.1=0) | none=>false)
def noDTo (ps:List Pr) (f:Int) (k:Nat):Prop:=∀ i p,i < k→f≤(i:Int)→ps[i]?=some p→p.1≠0
theorem noDTo_up {ps:List Pr} {f:Int} {k:Nat} {p:Pr} (h:noDTo ps f k) (hp:ps[k]?=some p) (hn:f≤(k:Int)→p.1≠0):noDTo ps f (k+1):=fun i q hi hf hq=>by
 rcases Nat.lt_or_ge i k with h1 | h1
 ·
  exact h i q h1 hf hq
 ·
  obtain rfl:i=k:=by omega
  rw [hp] at hq
  injection hq with hq
  exact hq ▸ hn hf
theorem hasD_yes {ps:List Pr} {f:Int} {k:Nat} {p:Pr} (hp:ps[k]?=some p) (hf:f≤(k:Int)) (h0:p.1=0):hasD ps f=true:=by
 unfold hasD
 rw [List.any_eq_true]
 refine ⟨k,List.mem_range.2 (List.getElem?_eq_some_iff.1 hp).1,?_⟩
 rw [hp]
 simp [hf,h0]
theorem hasD_no {ps:List Pr} {f:Int} (h:noDTo ps f ps.length):hasD ps f=false:=by
 cases e:hasD ps f with
 | false=>rfl
 | true=>
  unfold hasD at e
  rw [List.any_eq_true] at e
  obtain ⟨i,hi,he⟩:=e
  cases hp:ps[i]? with
  | none=>rw [hp] at he;simp at he
  | some p=>
   rw [hp] at he
   simp at he
   exact absurd he.2 (h i p (List.mem_range.1 hi) he.1 hp)
theorem RHasDeref_any (x:PlW) (f:Int) (w:World) (hx:OnePl w w.heap.size x) :
  Calls Tryz.prog 104 #[aggPl x,.int .i64 f] w fun e w'=>e=.returned (.bool (hasD x.ps f))∧Below w.heap.size w w':=by
 obtain ⟨l,A,n,c,ps⟩:=x
 have hn:=Nat.le_trans hx.nc hx.cm
 simp only [] at hn
 have HX:=hide hx.prs
 have HL:=hide hx.prs.len
 have HA:=hide ((Below.refl w.heap.size w).alloc (Nat.le_refl _) (.cells #[.int .i64 l,.slice A n c] 58))
 clear hx
 unfold maxLen at hn
 have c1:(w.alloc (.cells #[.int .i64 l,.slice A n c] 58)).cell? ⟨w.heap.size,1,none⟩=some (.slice A n c):=by simp [go_sem]
 have HC1:=hide c1
 clear c1
 go_enter Tryz.func104,Tryz.ntmps104
 go_wp2
 go_loop [5] (fun i=>∃ j:Nat,i=.int .i64 (j:Int)∧j≤n∧Hid (noDTo ps f j)) (fun i=>n - (intOf i).toNat)
 case atStart=>exact ⟨0,rfl,Nat.zero_le _,fun i p h=>absurd h (Nat.not_lt_zero _)⟩
 case round=>
  obtain ⟨j,rfl,hj,HE⟩:=hrel
  by_cases hlt:j < n
  ·
   have hlt':(j:Int) < (n:Int):=by omega
   obtain ⟨p,hp⟩:∃ p,ps[j]?=some p:=⟨_,List.getElem?_eq_getElem (by have:ps.length=n:=HL.out;omega)⟩
   obtain ⟨b,o,rfl,_,hi,c0,c1⟩:=(HX.out.below HA.out).at_ hp
   obtain ⟨k,fl⟩:=p
   simp only [] at c0 c1
   have HP:=hide hp
   clear hp hi
   by_cases hf:f≤(j:Int)
   ·
    by_cases h0:k=0
    ·
     subst h0
     have HF:=hide (hasD_yes HP.out hf rfl)
     go_wp2
     go_ret
     exact ⟨congrArg (fun v=>Ending.returned (.bool v)) HF.out.symm,HA.out⟩
    ·
     have t0:(k == 0)=false:=by simpa using h0
     have HN:=hide (noDTo_up HE.out HP.out fun _=>h0)
     clear h0
     go_wp2
     go_round
     case rel=>exact ⟨j+1,by go_num,by omega,HN.out⟩
     case measure=>simp [intOf];omega
   ·
    have hf':(j:Int) < f:=by omega
    have HN:=hide (noDTo_up HE.out HP.out fun h=>absurd h hf)
    clear hf
    go_wp2
    go_round
    case rel=>exact ⟨j+1,by go_num,by omega,HN.out⟩
    case measure=>simp [intOf];omega
  ·
   obtain rfl:j=n:=by omega
   have HF:=hide (hasD_no (show noDTo ps f ps.length from (show ps.length=j from HL.out) ▸ HE.out))
   go_wp2
   go_ret
   exact ⟨congrArg (fun v=>Ending.returned (.bool v)) HF.out.symm,HA.out⟩
theorem RHasDeref_is {x:PlW} {f:Int} {v:Bool} (h:hasD x.ps f=v) (w:World) (hx:OnePl w w.heap.size x) :
  Calls Tryz.prog 104 #[aggPl x,.int .i64 f] w fun e w'=>e=.returned (.bool v)∧Below w.heap.size w w':=h ▸ RHasDeref_any x f w hx
def sB (s:ByteArray):List Int:=s.data.toList.map fun b=>(b.toNat:Int)
theorem sB_length (s:ByteArray):(sB s).length=s.size:=by
 rw [sB,List.length_map,Array.length_toList];rfl
section
variable {ys:List Int} {e:Int}
end
def Sane (ys:List Int) (e:Int):Prop:=Byt ys∧(e≠0→ys=[])∧-9223372036854775808≤e∧e≤9223372036854775807
theorem Sane.err {e:Int} (h0:-9223372036854775808≤e) (h1:e≤9223372036854775807):Sane [] e:=⟨Byt.nil,fun _=>rfl,h0,h1⟩
structure ActV where
 k:Int
 u:Int
 n:Int
 s:ByteArray
def ActV.ok (a:ActV):Prop:=(-9223372036854775808≤a.k∧a.k≤9223372036854775807)∧(0≤a.u∧a.u≤18446744073709551615)∧(-9223372036854775808≤a.n∧a.n≤9223372036854775807)∧a.s.size≤maxLen
end Go.Proofs.YteeemjmohjkdpaaGreatDoor
