/- Part 11 of the contracts and their mathematics. -/
import Derived.Test.YtfgacmgjpikgaaaGreatDoorQ9
set_option linter.unusedVariables false
set_option linter.unusedSimpArgs false
set_option maxRecDepth 100000
set_option maxHeartbeats 4000000
namespace Go.Proofs.YtfgacmgjpikgaaaGreatDoor
open Go.RowKit
theorem goL_one {T:List Ty} {t:Int} {ps:List Pr} {m:Nat} {p:Pr} (hl:ps.length=m+1) (hp:ps[m]?=some p):goL T t ps=if erA T t ps m=0 then stepT (tyGet T (tyA T t ps m)) p else (0,erA T t ps m):=by
 rw [←goA_up hp,← hl,List.take_length]
theorem wrapI8 (n:Int) (h0:-9223372036854775808≤n) (h1:n≤9223372036854775807):IntKind.i64.wrap n=n:=by
 simp [IntKind.wrap,IntKind.bits,IntKind.signed]
 omega
def TyE (L:List TyW) (LL:List LcW) (x:PlW) (w:World) (e:Ending) (w':World):Prop:=e=.returned (.tuple #[.int .i64 (tyOfP (tys L) (lcs LL) x.l x.ps).1,.int .i64 (tyOfP (tys L) (lcs LL) x.l x.ps).2])∧Below w.heap.size w w'
theorem tyE_mk {L:List TyW} {LL:List LcW} {x:PlW} {w:World} {e:Ending} {w':World} {u v:Int} (h:tyOfP (tys L) (lcs LL) x.l x.ps=(u,v)) (he:e=.returned (.tuple #[.int .i64 u,.int .i64 v])) (hb:Below w.heap.size w w'):TyE L LL x w e w':=⟨by rw [he,h],hb⟩
theorem RTypeOf_err {At Al:Option Addr} {nt ct nl cl:Nat} {L:List TyW} {LL:List LcW} {r:Int} {x:PlW} {w:World} (h:Pl8 w At Al nt nl L LL x r) {v:Int} (hv:plErr x.l x.ps=v) (hv0:v≠0) :
  Calls Tryz.prog 57 #[.slice At nt ct,.slice Al nl cl,aggPl x] w (TyE L LL x w):=by
 have hB0:=(Below.refl w.heap.size w).alloc (Nat.le_refl _) (.cells #[.int .i64 x.l,.slice x.A x.n x.c] 36)
 have HB0:=hide hB0
 have HC:=hide (RCheckP_is hv _ (h.one.up hB0))
 have tv:(v != 0)=true:=by rw [bne_iff_ne];exact hv0
 have HF:=hide (tyOfP_err (T:=tys L) (lc:=lcs LL) hv hv0)
 obtain ⟨l,A,n,c,ps⟩:=x
 clear h hB0 hv hv0
 go_enter Tryz.func57,Tryz.ntmps57
 go_wp2_with fail
 refine HC.out.mono ?_
 rintro e w1 ⟨rfl,hb1⟩
 have HB1:=hide (HB0.out.trans (hb1.mono HB0.out.size))
 clear hb1
 go_wp2
 go_ret2
 exact tyE_mk HF.out rfl HB1.out
theorem RTypeOf_out {At Al:Option Addr} {nt ct nl cl:Nat} {L:List TyW} {LL:List LcW} {r:Int} {x:PlW} {w:World} (h:Pl8 w At Al nt nl L LL x r) (hv:plErr x.l x.ps=0) (hl:(nl:Int)≤x.l) :
  Calls Tryz.prog 57 #[.slice At nt ct,.slice Al nl cl,aggPl x] w (TyE L LL x w):=by
 have hB0:=(Below.refl w.heap.size w).alloc (Nat.le_refl _) (.cells #[.int .i64 x.l,.slice x.A x.n x.c] 36)
 have HB0:=hide hB0
 have HC:=hide (RCheckP_is hv _ (h.one.up hB0))
 have HBX:=hide (heap_alloc_new w (.cells #[.int .i64 x.l,.slice x.A x.n x.c] 36))
 have HF:=hide (tyOfP_out (T:=tys L) (lc:=lcs LL) hv (by rw [lcs_len,h.locs.len];omega))
 obtain ⟨l,A,n,c,ps⟩:=x
 simp only [] at hl
 clear h hB0 hv
 go_enter Tryz.func57,Tryz.ntmps57
 go_wp2_with fail
 refine HC.out.mono ?_
 rintro e w1 ⟨rfl,hb1⟩
 have HB1:=hide (HB0.out.trans (hb1.mono HB0.out.size))
 have hbX:=(hb1.block w.heap.size (by simp)).trans HBX.out
 have z0:=cell_of_heap hbX 0
 clear hb1 hbX
 go_wp2
 go_ret2
 exact tyE_mk HF.out rfl HB1.out
theorem RTypeOf_zero {At Al:Option Addr} {nt ct nl cl:Nat} {L:List TyW} {LL:List LcW} {r:Int} {x:PlW} {w:World} (h:Pl8 w At Al nt nl L LL x r) (hq:x.n=0) (hv:plErr x.l x.ps=0) {k:Nat} {lc:LcW} (hk:x.l=(k:Int)) (hlc:LL[k]?=some lc) :
  Calls Tryz.prog 57 #[.slice At nt ct,.slice Al nl cl,aggPl x] w (TyE L LL x w):=by
 have hB0:=(Below.refl w.heap.size w).alloc (Nat.le_refl _) (.cells #[.int .i64 x.l,.slice x.A x.n x.c] 36)
 have HB0:=hide hB0
 have HC:=hide (RCheckP_is hv _ (h.one.up hB0))
 have HBX:=hide (heap_alloc_new w (.cells #[.int .i64 x.l,.slice x.A x.n x.c] 36))
 have hnl:=h.locs.len
 have hkl:=(List.getElem?_eq_some_iff.1 hlc).1
 have hkl':(k:Int) < (nl:Int):=by omega
 have hps:x.ps=[]:=List.eq_nil_of_length_eq_zero (by have:=h.one.prs.len;omega)
 have HF:=hide (show tyOfP (tys L) (lcs LL) x.l x.ps=(lc.ty,0) from by rw [tyOfP_in hv hk (lcs_at hlc),hps];rfl)
 obtain ⟨b,o,rfl,hbb,c0,c1⟩:=h.locs.at_ hlc
 have HCC:=hide fun (w':World) (hb:Below w.heap.size w w')=>(hb.cell (p:=⟨b,o+k*2+1,none⟩) hbb).trans c1
 obtain ⟨l,A,n,c,ps⟩:=x
 simp only [] at hq hk
 subst hq hk
 obtain ⟨nm,ty⟩:=lc
 simp only [] at HF HCC
 clear h hB0 hlc hv hps c0 c1 hkl
 go_enter Tryz.func57,Tryz.ntmps57
 go_wp2_with fail
 refine HC.out.mono ?_
 rintro e w1 ⟨rfl,hb1⟩
 have HB1:=hide (HB0.out.trans (hb1.mono HB0.out.size))
 have hbX:=(hb1.block w.heap.size (by simp)).trans HBX.out
 have z0:=cell_of_heap hbX 0
 have z1:=cell_of_heap hbX 1
 have c1:=HCC.out _ HB1.out
 clear hb1 hbX
 go_wp2
 go_ret2
 exact tyE_mk HF.out rfl HB1.out
theorem RTypeOf_step {At Al:Option Addr} {nt ct nl cl:Nat} {L:List TyW} {LL:List LcW} {r:Int} {x:PlW} {w:World} (h:Pl8 w At Al nt nl L LL x r) {m:Nat} (hq:x.n=m+1) (hv:plErr x.l x.ps=0) {k:Nat} {lc:LcW} (hk:x.l=(k:Int)) (hlc:LL[k]?=some lc)
  (ih:∀ w',Below w.heap.size w w'→Calls Tryz.prog 57 #[.slice At nt ct,.slice Al nl cl,.agg #[.int .i64 x.l,.slice x.A m x.c]] w' fun e w''=>e=.returned (.tuple #[.int .i64 (tyA (tys L) lc.ty x.ps m),.int .i64 (erA (tys L) lc.ty x.ps m)])∧Below w'.heap.size w' w'') :
  Calls Tryz.prog 57 #[.slice At nt ct,.slice Al nl cl,aggPl x] w (TyE L LL x w):=by
 obtain ⟨l,A,n,c,ps⟩:=x
 simp only [] at hq hv hk ih
 subst hq
 have hpl:ps.length=m+1:=h.one.prs.len
 obtain ⟨p,hp⟩:∃ p,ps[m]?=some p:=⟨_,List.getElem?_eq_getElem (by omega)⟩
 obtain ⟨b2,o2,hA,hbb2,hint,d0,d1⟩:=h.one.prs.at_ hp
 simp only [] at hA
 subst hA
 have hB0:=(Below.refl w.heap.size w).alloc (Nat.le_refl _) (.cells #[.int .i64 l,.slice (some ⟨b2,o2,none⟩) (m+1) c] 36)
 have HB0:=hide hB0
 have HC:=hide (RCheckP_is (x:=⟨l,some ⟨b2,o2,none⟩,m+1,c,ps⟩) hv _ (h.one.up hB0))
 have HBX:=hide (heap_alloc_new w (.cells #[.int .i64 l,.slice (some ⟨b2,o2,none⟩) (m+1) c] 36))
 have hnl:=h.locs.len
 have hkl:=(List.getElem?_eq_some_iff.1 hlc).1
 have hkl':l < (nl:Int):=by omega
 have hW:=h.way hk hlc
 have hg:=goL_one (T:=tys L) (t:=lc.ty) hpl hp
 have hgx:tyOfP (tys L) (lcs LL) l ps=goL (tys L) lc.ty ps:=tyOfP_in hv hk (lcs_at hlc)
 have H:=hide fun w' (hb:Below w.heap.size w w')=>h.up hb
 have hnc:m+1≤c:=h.one.nc
 have hmc:m≤c:=by omega
 have hxn:m+1≤maxLen:=Nat.le_trans h.one.nc h.one.cm
 have hn0:(((m:Int)+1) == 0)=false:=by simp;omega
 have hwr:IntKind.i64.wrap (m:Int)=(m:Int):=wrapI8 _ (by omega) (by unfold maxLen at hxn;omega)
 have k0:(0:Int)≤(m:Int):=by omega
 have k1:(m:Int)≤(m:Int)+1:=by omega
 have k2:(m:Int)+1≤(c:Int):=by omega
 have k3:(m:Int)≤(c:Int):=by omega
 have k5:(m:Int) < (m:Int)+1:=by omega
 have hxs:m≤40:=by have:=(plErr_zero.1 hv).2.1;omega
 obtain ⟨ev,hev⟩:∃ ev,erA (tys L) lc.ty ps m=ev:=⟨_,rfl⟩
 obtain ⟨tv,htv⟩:∃ tv,tyA (tys L) lc.ty ps m=tv:=⟨_,rfl⟩
 rw [hev,htv] at ih hg
 have HIH:=hide ih
 have HEV:=hide hev
 have HTV:=hide htv
 have HS:=hide fun w' (h:Below (w.alloc (.cells #[.int .i64 l,.slice (some ⟨b2,o2,none⟩) (m+1) c] 36)).heap.size (w.alloc (.cells #[.int .i64 l,.slice (some ⟨b2,o2,none⟩) (m+1) c] 36)) w')=>show Below (w.alloc (.cells #[.int .i64 l,.slice (some ⟨b2,o2,none⟩) (m+1) c] 36)).heap.size (w.alloc (.cells #[.int .i64 l,.slice (some ⟨b2,o2,none⟩) (m+1) c] 36)) w'∧w'.cell? ⟨w.heap.size,0,none⟩=some (.int .i64 l)∧w'.cell? ⟨w.heap.size,1,none⟩=some (.slice (some ⟨b2,o2,none⟩) (m+1) c) from
  ⟨h,cell_of_heap ((h.block w.heap.size (by simp)).trans HBX.out) 0,cell_of_heap ((h.block w.heap.size (by simp)).trans HBX.out) 1⟩
 have HP:=hide hp
 have HGX:=hide (hgx.trans hg)
 have HWW:=hide hW
 have HPL:=hide hpl
 have HPL0:=hide hv
 unfold maxLen at hxn
 clear h hB0 hlc hv hp hg hgx hev hk ih hW hpl HBX hkl htv
 go_enter Tryz.func57,Tryz.ntmps57
 go_wp2_with fail
 refine HC.out.mono ?_
 rintro e w1 ⟨rfl,hb1⟩
 obtain ⟨_,z0,z1⟩:=HS.out _ hb1
 have HB1:=hide hb1
 clear hb1 HC
 go_wp2
 by_cases hev0:ev=0
 rotate_left
 ·
  have tev:(ev != 0)=true:=by rw [bne_iff_ne];exact hev0
  have HF:=hide (show tyOfP (tys L) (lcs LL) l ps=(0,ev) from by rw [HGX.out,if_neg hev0])
  clear hev0
  go_region_held3 (fun w'=>Below (w.alloc (.cells #[.int .i64 l,.slice (some ⟨b2,o2,none⟩) (m+1) c] 36)).heap.size (w.alloc (.cells #[.int .i64 l,.slice (some ⟨b2,o2,none⟩) (m+1) c] 36)) w'∧w'.cell? ⟨w.heap.size,0,none⟩=some (.int .i64 l)∧w'.cell? ⟨w.heap.size,1,none⟩=some (.slice (some ⟨b2,o2,none⟩) (m+1) c))
   (first | exact HS.out _ (by assumption) | exact HS.out _ HB1.out | exact HS.out _ HB1.out.drew)
   (first
    | (go_at_call 57;go_split_ands;refine (HIH.out _ (HB0.out.trans (Below.mono (by assumption:Below (w.alloc (.cells #[.int .i64 l,.slice (some ⟨b2,o2,none⟩) (m+1) c] 36)).heap.size (w.alloc (.cells #[.int .i64 l,.slice (some ⟨b2,o2,none⟩) (m+1) c] 36)) _) HB0.out.size))).mono ?_;rintro e w4 ⟨rfl,hb0⟩;have hb4:=Below.trans (by assumption:Below (w.alloc (.cells #[.int .i64 l,.slice (some ⟨b2,o2,none⟩) (m+1) c] 36)).heap.size (w.alloc (.cells #[.int .i64 l,.slice (some ⟨b2,o2,none⟩) (m+1) c] 36)) _) (hb0.mono (Below.size (by assumption:Below (w.alloc (.cells #[.int .i64 l,.slice (some ⟨b2,o2,none⟩) (m+1) c] 36)).heap.size (w.alloc (.cells #[.int .i64 l,.slice (some ⟨b2,o2,none⟩) (m+1) c] 36)) _)))))
  all_goals
   go_split_ands
   have hb4':=(by assumption:Below (w.alloc (.cells #[.int .i64 l,.slice (some ⟨b2,o2,none⟩) (m+1) c] 36)).heap.size (w.alloc (.cells #[.int .i64 l,.slice (some ⟨b2,o2,none⟩) (m+1) c] 36)) w4)
   go_wp2
   go_ret2
   exact tyE_mk HF.out rfl (HB0.out.trans (hb4'.mono HB0.out.size))
 subst hev0
 obtain ⟨i,u,hti,hu⟩:=Stp.lt HWW.out.ok HWW.out.t0 (by rw [tys_len];exact HWW.out.t1) (show Stp (tys L) lc.ty ps m from ⟨by have:=HPL.out;omega,HEV.out⟩)
 rw [HTV.out] at hti
 subst hti
 obtain ⟨y,hy,hyt⟩:=tys_back hu
 rw [if_pos rfl,tyGet_at hu,← hyt] at HGX
 have HY:=hide hy
 have HCASE:=hide (stepT_cases y.t p)
 have hin:i < nt:=by have:=(List.getElem?_eq_some_iff.1 hy).1;have:=(H.out w (Below.refl _ _)).typs.len;omega
 have hin':(i:Int) < (nt:Int):=by omega
 have hnt:=(H.out w (Below.refl _ _)).nt
 have HTP:=hide (((H.out w (Below.refl _ _)).typs.at_ hy))
 unfold maxLen at hnt
 clear hu hyt hy
 obtain ⟨b,o,rfl,hbb,hone,c0,c1,c2,c3,c4⟩:=HTP.out
 obtain ⟨pk,pf⟩:=p
 have HONE:=hide hone
 obtain ⟨⟨kd,mu,rr,el,fs⟩,Af,nf,cf⟩:=y
 simp only [] at c0 c1 c2 c3 c4 d0 d1
 have HR:=hide fun (w':World) (hb:Below w.heap.size w w')=>show w'.cell? ⟨b,o+i*5,none⟩=some (.int .i64 kd)∧w'.cell? ⟨b,o+i*5+1,none⟩=some (.bool mu)∧w'.cell? ⟨b,o+i*5+2,none⟩=some (.int .i64 rr)∧w'.cell? ⟨b,o+i*5+3,none⟩=some (.int .i64 el)∧w'.cell? ⟨b,o+i*5+4,none⟩=some (.slice Af nf cf)∧w'.cell? ⟨b2,o2+m*2,none⟩=some (.int .i64 pk)∧w'.cell? ⟨b2,o2+m*2+1,none⟩=some (.int .i64 pf) from
  ⟨(hb.cell (p:=⟨b,o+i*5,none⟩) hbb).trans c0,(hb.cell (p:=⟨b,o+i*5+1,none⟩) hbb).trans c1,(hb.cell (p:=⟨b,o+i*5+2,none⟩) hbb).trans c2,(hb.cell (p:=⟨b,o+i*5+3,none⟩) hbb).trans c3,(hb.cell (p:=⟨b,o+i*5+4,none⟩) hbb).trans c4,(hb.cell (p:=⟨b2,o2+m*2,none⟩) hbb2).trans d0,(hb.cell (p:=⟨b2,o2+m*2+1,none⟩) hbb2).trans d1⟩
 have hok:=hone.ok
 have hlen:fs.length=nf:=hok.len
 have hnf:nf≤cf:=hok.nc
 have hcf:cf≤maxLen:=hok.cm
 unfold maxLen at hcf
 clear hone hok c0 c1 c2 c3 c4 d0 d1 hint
 go_region_held3 (fun w'=>Below (w.alloc (.cells #[.int .i64 l,.slice (some ⟨b2,o2,none⟩) (m+1) c] 36)).heap.size (w.alloc (.cells #[.int .i64 l,.slice (some ⟨b2,o2,none⟩) (m+1) c] 36)) w'∧w'.cell? ⟨w.heap.size,0,none⟩=some (.int .i64 l)∧w'.cell? ⟨w.heap.size,1,none⟩=some (.slice (some ⟨b2,o2,none⟩) (m+1) c))
  (first | exact HS.out _ (by assumption) | exact HS.out _ HB1.out | exact HS.out _ HB1.out.drew)
  (first
   | (go_at_call 57;go_split_ands;refine (HIH.out _ (HB0.out.trans (Below.mono (by assumption:Below (w.alloc (.cells #[.int .i64 l,.slice (some ⟨b2,o2,none⟩) (m+1) c] 36)).heap.size (w.alloc (.cells #[.int .i64 l,.slice (some ⟨b2,o2,none⟩) (m+1) c] 36)) _) HB0.out.size))).mono ?_;rintro e w4 ⟨rfl,hb0⟩;have hb4:=Below.trans (by assumption:Below (w.alloc (.cells #[.int .i64 l,.slice (some ⟨b2,o2,none⟩) (m+1) c] 36)).heap.size (w.alloc (.cells #[.int .i64 l,.slice (some ⟨b2,o2,none⟩) (m+1) c] 36)) _) (hb0.mono (Below.size (by assumption:Below (w.alloc (.cells #[.int .i64 l,.slice (some ⟨b2,o2,none⟩) (m+1) c] 36)).heap.size (w.alloc (.cells #[.int .i64 l,.slice (some ⟨b2,o2,none⟩) (m+1) c] 36)) _)))))
 all_goals
  go_split_ands
  have hb4':=(by assumption:Below (w.alloc (.cells #[.int .i64 l,.slice (some ⟨b2,o2,none⟩) (m+1) c] 36)).heap.size (w.alloc (.cells #[.int .i64 l,.slice (some ⟨b2,o2,none⟩) (m+1) c] 36)) w4)
  have HB4:=hide hb4'
  have hbw:=HB0.out.trans (hb4'.mono HB0.out.size)
  have HBW:=hide hbw
  have ha1:=hbw.alloc hbw.size (.cells #[.int .i64 kd,.bool mu,.int .i64 rr,.int .i64 el,.slice Af nf cf] 62)
  have HB5:=hide (ha1.alloc ha1.size (.cells #[.int .i64 pk,.int .i64 pf] 102))
  obtain ⟨r0,r1,r2,r3,r4,r5,r6⟩:=HR.out _ hbw
  obtain ⟨_,_,_,_,_,s5,s6⟩:=HR.out _ ha1
  have z2:=(HS.out _ (hb4'.alloc hb4'.size (.cells #[.int .i64 kd,.bool mu,.int .i64 rr,.int .i64 el,.slice Af nf cf] 62))).2.2
  clear hb4' hbw ha1
  rcases HCASE.out with ⟨h1,h2,h3⟩ | ⟨h1,h2,q,v,hq,hv,h3⟩ | ⟨h1,h2,h4,h3⟩ | ⟨h1,h2,h3⟩
  ·
   subst h1 h2
   have HF:=hide (HGX.out.trans h3)
   clear h3
   go_wp2
   go_ret2
   exact tyE_mk HF.out rfl HB5.out
  ·
   subst h1 h2 hq
   have hql:=(List.getElem?_eq_some_iff.1 hv).1
   have hql':(q:Int) < (nf:Int):=by omega
   have HF:=hide (HGX.out.trans h3)
   obtain ⟨b3,o3,hAf,_,f0⟩:=(HONE.out.below HB5.out).rd.int hv
   simp only [] at hAf
   subst hAf
   clear h3 hv
   go_wp2
   go_ret2
   exact tyE_mk HF.out rfl HB5.out
  ·
   subst h1 h2
   have HF:=hide (HGX.out.trans h3)
   have hpe:=pjErr_zero ((plErr_zero.1 HPL0.out).2.2 _ (List.mem_of_getElem? HP.out))
   simp only [] at hpe
   have hge:(nf:Int)≤pf:=by omega
   clear h3 h4 hpe
   go_wp2
   go_ret2
   exact tyE_mk HF.out rfl HB5.out
  ·
   have HF:=hide (HGX.out.trans h3)
   clear h3
   by_cases p0:pk=0
   ·
    subst p0
    have k3':¬kd=3:=fun h=>h1 ⟨rfl,h⟩
    have t1:(kd == 3)=false:=by simpa using k3'
    clear h1 h2 k3'
    go_wp2
    go_ret2
    exact tyE_mk HF.out rfl HB5.out
   ·
    have t0:(pk == 0)=false:=by simpa using p0
    by_cases p1:pk=1
    ·
     subst p1
     have k4':¬kd=4:=fun h=>h2 ⟨rfl,h⟩
     have t1:(kd == 4)=false:=by simpa using k4'
     clear h1 h2 k4' t0 p0
     go_wp2
     go_ret2
     exact tyE_mk HF.out rfl HB5.out
    ·
     have t2:(pk == 1)=false:=by simpa using p1
     clear h1 h2 p0 p1
     go_wp2
     go_ret2
     exact tyE_mk HF.out rfl HB5.out
theorem RTypeOf_any {At Al:Option Addr} {nt ct nl cl:Nat} {L:List TyW} {LL:List LcW} {r:Int}:∀ (q:Nat) (x:PlW) (w:World),x.n=q→Pl8 w At Al nt nl L LL x r →
  Calls Tryz.prog 57 #[.slice At nt ct,.slice Al nl cl,aggPl x] w (TyE L LL x w)
 | q,x,w,hq,h=>by
  by_cases hv:plErr x.l x.ps=0
  ·
   have h0:=(plErr_zero.1 hv).1
   by_cases hl:x.l < (nl:Int)
   ·
    have hnl:=h.locs.len
    obtain ⟨lc,hlc⟩:∃ lc,LL[x.l.toNat]?=some lc:=⟨_,List.getElem?_eq_getElem (by omega)⟩
    have hk:x.l=((x.l.toNat:Nat):Int):=by omega
    match q,hq with
    | 0,hq=>exact RTypeOf_zero h hq hv hk hlc
    | m+1,hq=>
     refine RTypeOf_step (x:=x) h hq hv hk hlc fun w' hb=>?_
     have h2:=RTypeOf_any (ct:=ct) (cl:=cl) m (x.take m) w' rfl ((h.up hb).take (by omega))
     have e:tyOfP (tys L) (lcs LL) (x.take m).l (x.take m).ps=(tyA (tys L) lc.ty x.ps m,erA (tys L) lc.ty x.ps m):=tyOfP_in (plErr_take hv m) hk (lcs_at hlc)
     unfold TyE at h2
     rw [e] at h2
     exact h2
   ·
    exact RTypeOf_out h hv (by omega)
  ·
   exact RTypeOf_err h rfl hv
theorem RTypeOf_is {At Al:Option Addr} {nt ct nl cl:Nat} {L:List TyW} {LL:List LcW} {x:PlW} {r u v:Int} {w:World} (h:Pl8 w At Al nt nl L LL x r) (hv:tyOfP (tys L) (lcs LL) x.l x.ps=(u,v)) :
  Calls Tryz.prog 57 #[.slice At nt ct,.slice Al nl cl,aggPl x] w fun e w'=>e=.returned (.tuple #[.int .i64 u,.int .i64 v])∧Below w.heap.size w w':=by
 have:=RTypeOf_any (ct:=ct) (cl:=cl) x.n x w rfl h
 unfold TyE at this
 rw [hv] at this
 exact this
def RowE (w:World) (R:List TyW) (e:Ending) (w':World):Prop:=∃ A m c,e=.returned (.slice A m c)∧m≤c∧c≤maxLen∧w'.ownsRow w.heap.size 62 5 (.slice A m c) m (R.flatMap c5)∧m=R.length∧Below w.heap.size w w'
theorem RReferences_any {At Al:Option Addr} {nt ct nl cl:Nat} {L:List TyW} {LL:List LcW} {x:PlW} {r:Int} {w:World} (h:Pl8 w At Al nt nl L LL x r) {k:Nat} {lc:LcW} (hk:x.l=(k:Int)) (hlc:LL[k]?=some lc) (hp0:plErr x.l x.ps=0) (he:(goL (tys L) lc.ty x.ps).2=0) :
  Calls Tryz.prog 91 #[.slice At nt ct,.slice Al nl cl,aggPl x] w (RowE w (refTo L (tys L) lc.ty x.ps x.ps.length)):=by
 obtain ⟨i0,hi,hz0,hz1,hz2⟩:=info_parts infoTy
 have hB0:=(Below.refl w.heap.size w).alloc (Nat.le_refl _) (.cells #[.int .i64 x.l,.slice x.A x.n x.c] 36)
 have HB0:=hide hB0
 have HBX:=hide (heap_alloc_new w (.cells #[.int .i64 x.l,.slice x.A x.n x.c] 36))
 have H:=hide fun w' (hb:Below w.heap.size w w')=>h.up hb
 have HWW:=hide (h.way hk hlc)
 have hpl:x.ps.length=x.n:=h.one.prs.len
 have HST:=hide fun (j:Nat) (hj:j≤x.n)=>(show Stp (tys L) lc.ty x.ps x.ps.length from ⟨Nat.le_refl _,by unfold erA;rw [goL_take_all];exact he⟩).down (show j≤x.ps.length by omega)
 have HTY:=hide fun (j:Nat) (hj:j≤x.n)=>(show tyOfP (tys L) (lcs LL) x.l (x.ps.take j)=(tyA (tys L) lc.ty x.ps j,erA (tys L) lc.ty x.ps j) from tyOfP_in (plErr_take hp0 j) hk (lcs_at hlc))
 have hp32:=(plErr_zero.1 hp0).2.1
 have HRT:=hide fun (j:Nat) (w':World) (hj:j≤x.n) (hb:Below w.heap.size w w')=>(show Calls Tryz.prog 57 #[.slice At nt ct,.slice Al nl cl,.agg #[.int .i64 x.l,.slice x.A j x.c]] w' fun e w''=>e=.returned (.tuple #[.int .i64 (tyA (tys L) lc.ty x.ps j),.int .i64 0])∧Below w'.heap.size w' w'' from by
  have h2:=RTypeOf_is (ct:=ct) (cl:=cl) ((h.up hb).take hj) (HTY.out j hj)
  rw [(HST.out j hj).ok] at h2
  exact h2)
 have hnc:=h.one.nc
 have hcm:=h.one.cm
 have hntm:=h.nt
 obtain ⟨l,A,n,c,ps⟩:=x
 simp only [] at hpl hp32 hnc hcm HRT HST HBX
 have HS:=hide fun w' (h:Below (w.alloc (.cells #[.int .i64 l,.slice A n c] 36)).heap.size (w.alloc (.cells #[.int .i64 l,.slice A n c] 36)) w')=>show Below (w.alloc (.cells #[.int .i64 l,.slice A n c] 36)).heap.size (w.alloc (.cells #[.int .i64 l,.slice A n c] 36)) w'∧w'.cell? ⟨w.heap.size,0,none⟩=some (.int .i64 l)∧w'.cell? ⟨w.heap.size,1,none⟩=some (.slice A n c) from
  ⟨h,cell_of_heap ((h.block w.heap.size (by simp)).trans HBX.out) 0,cell_of_heap ((h.block w.heap.size (by simp)).trans HBX.out) 1⟩
 have HPL:=hide hpl
 unfold maxLen at hcm hntm
 have hB1:=hide (show (w.alloc (.cells #[.int .i64 l,.slice A n c] 36)).heap.size=w.heap.size+1 by simp)
 clear h hB0 hlc hp0 he hpl HBX HTY hk
 go_enter Tryz.func91,Tryz.ntmps91
 go_wp2
 go_loopw [7,8] (fun v i wr=>∃ (j m:Nat),i=.int .i64 (j:Int)∧j≤n∧wr.ownsRow (w.heap.size+1) 62 5 v m ((refTo L (tys L) lc.ty ps j).flatMap c5)∧Hid (m=(refTo L (tys L) lc.ty ps j).length)∧Below (w.alloc (.cells #[.int .i64 l,.slice A n c] 36)).heap.size (w.alloc (.cells #[.int .i64 l,.slice A n c] 36)) wr) (fun _ i _=>n - (intOf i).toNat)
 case atStart=>exact ⟨0,0,rfl,Nat.zero_le _,World.ownsRow_nil _ _ _ _,rfl,Below.refl _ _⟩
 case round=>
  obtain ⟨j,m,rfl,hj,hown,HM,hb⟩:=hrel
  obtain ⟨A2,c2,rfl,hm1,hc1⟩:=ownsRow_shape3 hown
  have HO:=hide hown
  have HB:=hide hb
  obtain ⟨_,z0,z1⟩:=HS.out _ hb
  have hsz:w.heap.size+1≤wr.heap.size:=by have:=hb.size;simpa using this
  have HBW:=hide (HB0.out.trans (hb.mono HB0.out.size))
  have hm40:m≤40:=by
   have h1:=HM.out
   have h2:=refTo_len L (tys L) lc.ty ps j
   have h3:=HPL.out
   omega
  unfold maxLen at hc1
  clear hown hb
  by_cases hlt:j < n
  ·
   have hlt':(j:Int) < (n:Int):=by omega
   have hjc:j≤c:=by omega
   have hjc':(j:Int)≤(c:Int):=by omega
   have hj0:(0:Int)≤(j:Int):=by omega
   obtain ⟨p,hp⟩:∃ p,ps[j]?=some p:=⟨_,List.getElem?_eq_getElem (by have:=HPL.out;omega)⟩
   obtain ⟨b2,o2,hA,_,_,d0,d1⟩:=(H.out wr HBW.out).one.prs.at_ hp
   simp only [] at hA
   subst hA
   obtain ⟨pk,pf⟩:=p
   simp only [] at d0 d1
   by_cases h0:pk=0
   ·
    subst h0
    obtain ⟨i,u,hti,hu⟩:=(HST.out j (by omega)).lt HWW.out.ok HWW.out.t0 (by rw [tys_len];exact HWW.out.t1)
    obtain ⟨y,hy,hyt⟩:=tys_back hu
    have HN:=hide (refTo_yes (G:=L) hp rfl hti hy)
    have HRJ:=hide fun w' hb=>HRT.out j w' (by omega) hb
    rw [hti] at HRJ
    have hin:i < nt:=by have:=(List.getElem?_eq_some_iff.1 hy).1;have:=(H.out w (Below.refl _ _)).typs.len;omega
    have hin':(i:Int) < (nt:Int):=by omega
    obtain ⟨b,o,rfl,hbb,_,e0,e1,e2,e3,e4⟩:=(H.out wr HBW.out).typs.at_ hy
    obtain ⟨⟨k0,mu,r0,el,fs⟩,Af,nf,cf⟩:=y
    simp only [] at e0 e1 e2 e3 e4
    have HR:=hide fun (w':World) (hb:Below wr.heap.size wr w')=>show w'.cell? ⟨b,o+i*5,none⟩=some (.int .i64 k0)∧w'.cell? ⟨b,o+i*5+1,none⟩=some (.bool mu)∧w'.cell? ⟨b,o+i*5+2,none⟩=some (.int .i64 r0)∧w'.cell? ⟨b,o+i*5+3,none⟩=some (.int .i64 el)∧w'.cell? ⟨b,o+i*5+4,none⟩=some (.slice Af nf cf) from
     ⟨(hb.cell (p:=⟨b,o+i*5,none⟩) hbb).trans e0,(hb.cell (p:=⟨b,o+i*5+1,none⟩) hbb).trans e1,(hb.cell (p:=⟨b,o+i*5+2,none⟩) hbb).trans e2,(hb.cell (p:=⟨b,o+i*5+3,none⟩) hbb).trans e3,(hb.cell (p:=⟨b,o+i*5+4,none⟩) hbb).trans e4⟩
    have HSR:=hide fun (w':World) (hb:Below wr.heap.size wr w')=>show Below wr.heap.size wr w'∧w'.cell? ⟨w.heap.size,0,none⟩=some (.int .i64 l)∧w'.cell? ⟨w.heap.size,1,none⟩=some (.slice (some ⟨b2,o2,none⟩) n c) from ⟨hb,(HS.out _ (HB.out.trans (hb.mono HB.out.size))).2⟩
    clear hp hti hu hy hyt e0 e1 e2 e3 e4
    go_wp2
    go_region_held3 (fun w'=>Below wr.heap.size wr w'∧w'.cell? ⟨w.heap.size,0,none⟩=some (.int .i64 l)∧w'.cell? ⟨w.heap.size,1,none⟩=some (.slice (some ⟨b2,o2,none⟩) n c))
     (first | exact HSR.out _ (by assumption) | exact HSR.out _ (Below.refl _ _) | exact HSR.out _ (Below.refl _ _).drew)
     (first
      | (go_at_call 57;go_split_ands;refine (HRJ.out _ (HBW.out.trans (Below.mono (by assumption:Below wr.heap.size wr _) HBW.out.size))).mono ?_;rintro e w4 ⟨rfl,hb0⟩;have hb4:=Below.trans (by assumption:Below wr.heap.size wr _) (hb0.mono (Below.size (by assumption:Below wr.heap.size wr _)))))
    all_goals
     go_split_ands
     have hb4':=(by assumption:Below wr.heap.size wr w4)
     have HB4:=hide hb4'
     have hs4:=hb4'.size
     obtain ⟨r0',r1,r2,r3,r4⟩:=HR.out _ hb4'
     have HO4:=hide (ownsRow_below HO.out hb4')
     have HBT:=hide (HB.out.trans (hb4'.mono HB.out.size))
     clear hb4'
     go_wp2_with (at_builtin;refine wpList_append_own_at _ rfl (.tmp 38) (.tmp 43) 24 rfl (w.heap.size+1) 62 i0 (.agg #[.int .i64 0,.bool false,.int .i64 0,.int .i64 0,.slice none 0 0]) 5 56 Tryz.underlying24 hi hz0 hz1 hz2 rfl (by decide) _ m _ rfl (HO4.out.alloc _) ⟨w4.heap.size,0,none⟩ 1 1 (c5 ⟨⟨k0,mu,r0,el,fs⟩,Af,nf,cf⟩) rfl rfl (news_new8 w4 [.int .i64 k0,.bool mu,.int .i64 r0,.int .i64 el,.slice Af nf cf] 62) (c5_one _) (by unfold maxLen;omega) (by omega) (by simp;omega) ?_;intro v5 w5 hown5 hg5 _ hat5;have HO5:=hide hown5;have HB5:=hide (below_app (base:=w.heap.size+1) (show Below (w.heap.size+1) _ _ from hB1.out ▸ HBT.out.alloc HBT.out.size _) (HO4.out.alloc _) (by simp;omega) hg5);clear hown5 hg5 hat5)
     go_roundw
     case rel=>
      refine ⟨j+1,m+1,by go_num,by omega,?_,(show m+1=_ by rw [HN.out,List.length_append,List.length_singleton,← HM.out]),hB1.out ▸ HB5.out⟩
      rw [HN.out,List.flatMap_append,List.flatMap_cons,List.flatMap_nil,List.append_nil]
      exact HO5.out
     case measure=>simp [intOf];omega
   ·
    have tp:(pk == 0)=false:=by simpa using h0
    have HN:=hide (show refTo L (tys L) lc.ty ps (j+1)=refTo L (tys L) lc.ty ps j from refTo_no fun q hq=>by
     rw [hp] at hq
     injection hq with hq
     rw [←hq]
     exact h0)
    clear hp h0
    go_wp2
    go_roundw
    case rel=>exact ⟨j+1,m,by go_num,by omega,by rw [HN.out];exact HO.out,(show m=_ by rw [HN.out,← HM.out]),HB.out⟩
    case measure=>simp [intOf];omega
  ·
   obtain rfl:j=n:=by omega
   have HF:=hide (show wr.ownsRow w.heap.size 62 5 (.slice A2 m c2) m ((refTo L (tys L) lc.ty ps ps.length).flatMap c5)∧m=(refTo L (tys L) lc.ty ps ps.length).length from by
    rw [HPL.out]
    exact ⟨ownsRow_base HO.out (by omega),HM.out⟩)
   go_wp2
   go_ret
   exact ⟨A2,m,c2,rfl,hm1,hc1,HF.out.1,HF.out.2,HBW.out⟩
theorem RRefs_typs {At Al:Option Addr} {nt ct nl cl:Nat} {L:List TyW} {LL:List LcW} {x:PlW} {r:Int} {w:World} (h:Pl8 w At Al nt nl L LL x r) (hv:(tyOfP (tys L) (lcs LL) x.l x.ps).2=0) :
  Calls Tryz.prog 91 #[.slice At nt ct,.slice Al nl cl,aggPl x] w fun e w'=>∃ A m c R,e=.returned (.slice A m c)∧tys R=refP (tys L) (lcs LL) x.l x.ps∧m≤40∧Typs w' w'.heap.size A m R∧Below w.heap.size w w':=by
 obtain ⟨hp0,k,t,hk,ht,hg⟩:=tyOfP_zero hv
 have hkl:=(List.getElem?_eq_some_iff.1 ht).1
 rw [lcs_len] at hkl
 obtain ⟨lc,hlc⟩:∃ lc,LL[k]?=some lc:=⟨_,List.getElem?_eq_getElem hkl⟩
 have ht2:=lcs_at hlc
 rw [ht] at ht2
 injection ht2 with ht2
 subst ht2
 rw [hg] at hv
 refine (RReferences_any (ct:=ct) (cl:=cl) h hk hlc hp0 hv).mono ?_
 rintro e w' ⟨A,m,c,rfl,_,_,hrow,hm,hb⟩
 refine ⟨A,m,c,refTo L (tys L) lc.ty x.ps x.ps.length,rfl,?_,?_,⟨Cells.of_own c5_len (by decide) hrow,fun y hy=>?_⟩,hb⟩
 ·
  rw [tys_refTo]
  unfold refP
  rw [hg,if_pos hv,hk,Int.toNat_natCast,List.getD_eq_getElem?_getD,ht]
  rfl
 ·
  have h1:=refTo_len L (tys L) lc.ty x.ps x.ps.length
  have h2:=(plErr_zero.1 hp0).2.1
  omega
 ·
  exact ((h.typs.one y (refTo_mem hy)).below hb).more hb.size
theorem RMutable_any {At Al:Option Addr} {nt ct nl cl:Nat} {L:List TyW} {LL:List LcW} {x:PlW} {r:Int} {w:World} (h:Pl8 w At Al nt nl L LL x r) :
    Calls Tryz.prog 61 #[.slice At nt ct,.slice Al nl cl,aggPl x] w fun e w'=>e=.returned (.bool (mutP (tys L) (lcs LL) x.l x.ps))∧Below w.heap.size w w':=by
  have hB0:=(Below.refl w.heap.size w).alloc (Nat.le_refl _) (.cells #[.int .i64 x.l,.slice x.A x.n x.c] 36)
  have HB0:=hide hB0
  obtain ⟨u,v,hv⟩:∃ u v,tyOfP (tys L) (lcs LL) x.l x.ps=(u,v):=⟨_,_,rfl⟩
  have HC:=hide (RTypeOf_is (ct:=ct) (cl:=cl) (h.up hB0) hv)
  have HBX:=hide (heap_alloc_new w (.cells #[.int .i64 x.l,.slice x.A x.n x.c] 36))
  obtain ⟨mm,hmm⟩:∃ mm,mutP (tys L) (lcs LL) x.l x.ps=mm:=⟨_,rfl⟩
  rw [hmm]
  by_cases hv0:v=0
  · subst hv0
    have HR:=hide fun w' (hb:Below w.heap.size w w')=>RRefs_typs (ct:=ct) (cl:=cl) (h.up hb) (by rw [hv])
    have HMM:=hide (show ∀ R:List TyW,tys R=refP (tys L) (lcs LL) x.l x.ps→R.all (fun y=>y.t.mut_)=mm from fun R hR=>by
      rw [←hmm]
      unfold mutP
      rw [hv,← hR,List.all_map]
      simp
      rfl)
    obtain ⟨l,A,n,c,ps⟩:=x
    clear h hB0 hv hmm
    go_enter Tryz.func61,Tryz.ntmps61
    go_wp2_with fail
    refine HC.out.mono ?_
    rintro e w1 ⟨rfl,hb1⟩
    have HB1:=hide (HB0.out.trans (hb1.mono HB0.out.size))
    have hbX:=(hb1.block w.heap.size (by simp)).trans HBX.out
    have z0:=cell_of_heap hbX 0
    have z1:=cell_of_heap hbX 1
    clear hb1 hbX
    go_wp2_with fail
    refine (HR.out _ HB1.out).mono ?_
    rintro e w2 ⟨A1,m,c1,R,rfl,hR,hm,hT,hb2⟩
    have HB2:=hide (HB1.out.trans (hb2.mono HB1.out.size))
    have HF:=hide (HMM.out R hR)
    have HT:=hide hT
    have HL:=hide hT.len
    clear hb2 hR hT
    go_wp2
    go_loop [10] (fun i=>∃ j:Nat,i=.int .i64 (j:Int)∧j≤m∧Hid (∀ t x,t < j→R[t]?=some x→x.t.mut_=true)) (fun i=>m - (intOf i).toNat)
    case atStart=>exact ⟨0,rfl,Nat.zero_le _,fun t x h=>absurd h (Nat.not_lt_zero _)⟩
    case round=>
      obtain ⟨j,rfl,hj,HE⟩:=hrel
      by_cases hlt:j < m
      · have hlt':(j:Int) < (m:Int):=by omega
        obtain ⟨y,hy⟩:∃ y,R[j]?=some y:=⟨_,List.getElem?_eq_getElem (by have:=HL.out;omega)⟩
        obtain ⟨b,o,rfl,_,_,d0,d1,d2,d3,d4⟩:=HT.out.at_ hy
        have HY:=hide hy
        obtain ⟨⟨k0,mu,r0,el,fs⟩,Af,nf,cf⟩:=y
        simp only [] at d0 d1 d2 d3 d4
        clear hy
        cases mu
        · have HF2:=hide (show mm=false from by
            rw [←HF.out,← Bool.not_eq_true,List.all_eq_true]
            exact fun h=>by cases h _ (List.mem_of_getElem? HY.out))
          go_wp2
          go_ret
          exact ⟨congrArg (fun v=>Ending.returned (.bool v)) HF2.out.symm,HB2.out⟩
        · have HN:=hide (show ∀ t x,t < j+1→R[t]?=some x→x.t.mut_=true from fun t x ht hx=>by
            rcases Nat.lt_or_ge t j with h1 | h1
            · exact HE.out t x h1 hx
            · obtain rfl:t=j:=by omega
              rw [HY.out] at hx
              injection hx with hx
              rw [←hx])
          go_wp2
          go_round
          case rel=>exact ⟨j+1,by go_num,by omega,HN.out⟩
          case measure=>simp [intOf];omega
      · obtain rfl:j=m:=by omega
        have HF2:=hide (show mm=true from by
          rw [←HF.out,List.all_eq_true]
          intro y hy
          obtain ⟨t,ht⟩:=List.getElem?_of_mem hy
          exact HE.out t y (by have:=(List.getElem?_eq_some_iff.1 ht).1;have:=HL.out;omega) ht)
        go_wp2
        go_ret
        exact ⟨congrArg (fun v=>Ending.returned (.bool v)) HF2.out.symm,HB2.out⟩
  · have tv:(v != 0)=true:=by rw [bne_iff_ne];exact hv0
    have HF:=hide (show mm=false from by
      rw [←hmm]
      unfold mutP
      simp [hv,hv0])
    obtain ⟨l,A,n,c,ps⟩:=x
    clear h hB0 hv hmm hv0
    go_enter Tryz.func61,Tryz.ntmps61
    go_wp2_with fail
    refine HC.out.mono ?_
    rintro e w1 ⟨rfl,hb1⟩
    have HB1:=hide (HB0.out.trans (hb1.mono HB0.out.size))
    clear hb1
    go_wp2
    go_ret
    exact ⟨congrArg (fun v=>Ending.returned (.bool v)) HF.out.symm,HB1.out⟩
theorem RMutable_is {At Al:Option Addr} {nt ct nl cl:Nat} {L:List TyW} {LL:List LcW} {x:PlW} {r:Int} {v:Bool} {w:World} (h:Pl8 w At Al nt nl L LL x r) (hv:mutP (tys L) (lcs LL) x.l x.ps=v) :
  Calls Tryz.prog 61 #[.slice At nt ct,.slice Al nl cl,aggPl x] w fun e w'=>e=.returned (.bool v)∧Below w.heap.size w w':=hv ▸ RMutable_any h
def wE (x:BdW):Env:=⟨tys x.types.L,lcs x.locals.L,x.outl.L,x.regions.L.length,x.blocks.L.length⟩
theorem wE_v (x:BdW):x.v.env=wE x:=by
 unfold BdV.env wE BdW.v lcs
 simp only [List.map_map,List.length_map]
 rfl
structure VB (w:World) (x:BdW):Prop where
 one:OneBd w w.heap.size x
 ok:DeOk x.v
theorem VB.up {w w':World} {x:BdW} (h:VB w x) (hb:Below w.heap.size w w'):VB w' x:=⟨h.one.up hb,h.ok⟩
theorem VB.pl8 {w:World} {x:BdW} (h:VB w x) {p:PlW} (hp:OnePl w w.heap.size p):Pl8 w x.types.A x.locals.A x.types.n x.locals.n x.types.L x.locals.L p (x.regions.L.length:Nat):=
 ⟨h.one.typs,h.one.locs,hp,h.one.types.nm,h.one.locals.nm,tyChk_iff.1 h.ok.ty,by
  have e:lcs x.locals.L=(x.v.locals.map LcV.ty):=by
   unfold lcs BdW.v
   rw [List.map_map]
   rfl
  rw [e]
  exact h.ok.lc⟩
theorem VB.nt65 {w:World} {x:BdW} (h:VB w x):x.types.n≤65535:=by
 have h1:=h.one.types.len
 have h2:=h.ok.ty
 unfold tyChk at h2
 split at h2
 ·
  cases h2
 ·
  rename_i h3
  have h4:x.v.types.length=x.types.L.length:=tys_len _
  omega
theorem VB.ty {w:World} {x:BdW} (h:VB w x) {p:PlV} (he:(tyV (wE x) p).2=0):∃ (i:Nat) (u:TyW),(tyV (wE x) p).1=(i:Int)∧x.types.L[i]?=some u:=by
 have hok:=tyChk_iff.1 h.ok.ty
 obtain ⟨h0,k,t,hk,ht,hg⟩:=tyOfP_zero (T:=tys x.types.L) (lc:=lcs x.locals.L) (l:=p.l) (ps:=p.ps) he
 have hlc:0≤t∧t < ((tys x.types.L).length:Int):=by
  have e:lcs x.locals.L=(x.v.locals.map LcV.ty):=by
   unfold lcs BdW.v
   rw [List.map_map]
   rfl
  exact h.ok.lc t (e ▸ List.mem_of_getElem? ht)
 have e1:(tyV (wE x) p)=goL (tys x.types.L) t p.ps:=hg
 have hS:Stp (tys x.types.L) t p.ps p.ps.length:=⟨Nat.le_refl _,by
  unfold erA
  rw [goL_take_all,← e1]
  exact he⟩
 obtain ⟨i,u,hi,hu⟩:=Stp.lt hok hlc.1 hlc.2 hS
 unfold tyA at hi
 rw [goL_take_all] at hi
 have hu':(x.types.L.map TyW.t)[i]?=some u:=hu
 rw [List.getElem?_map,Option.map_eq_some_iff] at hu'
 obtain ⟨y,hy,_⟩:=hu'
 exact ⟨i,y,by rw [e1];exact hi,hy⟩
def two (w:World) (cs:List Value) (T:TypeId) (ds:List Value) (U:TypeId):World:=(w.alloc (.cells cs.toArray T)).alloc (.cells ds.toArray U)
theorem two_below (w:World) (cs:List Value) (T:TypeId) (ds:List Value) (U:TypeId):Below w.heap.size w (two w cs T ds U):=((Below.refl _ w).alloc (Nat.le_refl _) _).alloc (by simp) _
theorem two_cells {w w':World} {cs ds:List Value} {T U:TypeId} (h:Below (two w cs T ds U).heap.size (two w cs T ds U) w'):(∀ (j:Nat) (u:Value),cs[j]?=some u→w'.cell? ⟨w.heap.size,j,none⟩=some u)∧(∀ (j:Nat) (u:Value),ds[j]?=some u→w'.cell? ⟨w.heap.size+1,j,none⟩=some u):=by
 have hs:(two w cs T ds U).heap.size=w.heap.size+2:=by simp [two]
 have e1:(w.alloc (.cells cs.toArray T)).heap.size=w.heap.size+1:=by simp
 have b1:w'.heap[w.heap.size]?=_:=(h.block w.heap.size (by omega)).trans ((((Below.refl (w.heap.size+1) _).alloc (by rw [e1];exact Nat.le_refl _) _).block w.heap.size (by omega)).trans (heap_alloc_new w _))
 have b3:=heap_alloc_new (w.alloc (.cells cs.toArray T)) (.cells ds.toArray U)
 rw [e1] at b3
 have b2:=(h.block (w.heap.size+1) (by omega)).trans b3
 exact ⟨fun j u hu=>(cell_of_heap b1 j).trans (by rw [List.getElem?_toArray];exact hu),fun j u hu=>(cell_of_heap b2 j).trans (by rw [List.getElem?_toArray];exact hu)⟩
theorem below1 (w:World) (o:Obj):Below w.heap.size w (w.alloc o):=(Below.refl w.heap.size w).alloc (Nat.le_refl _) o
theorem tw74 {w w':World} {a0 a1 a2 a3 a4 a5 a6 b0 b1 b2 b3:Value} {T U:TypeId} (h:Below ((w.alloc (.cells #[a0,a1,a2,a3,a4,a5,a6] T)).alloc (.cells #[b0,b1,b2,b3] U)).heap.size ((w.alloc (.cells #[a0,a1,a2,a3,a4,a5,a6] T)).alloc (.cells #[b0,b1,b2,b3] U)) w'):w'.cell? ⟨w.heap.size,0,none⟩=some a0∧w'.cell? ⟨w.heap.size,1,none⟩=some a1∧w'.cell? ⟨w.heap.size,2,none⟩=some a2∧w'.cell? ⟨w.heap.size,3,none⟩=some a3∧w'.cell? ⟨w.heap.size,4,none⟩=some a4∧w'.cell? ⟨w.heap.size,5,none⟩=some a5∧w'.cell? ⟨w.heap.size,6,none⟩=some a6∧w'.cell? ⟨w.heap.size+1,0,none⟩=some b0∧w'.cell? ⟨w.heap.size+1,1,none⟩=some b1∧w'.cell? ⟨w.heap.size+1,2,none⟩=some b2∧w'.cell? ⟨w.heap.size+1,3,none⟩=some b3:=by
 obtain ⟨c,d⟩:=two_cells (cs:=[a0,a1,a2,a3,a4,a5,a6]) (ds:=[b0,b1,b2,b3]) h
 exact ⟨c 0 _ rfl,c 1 _ rfl,c 2 _ rfl,c 3 _ rfl,c 4 _ rfl,c 5 _ rfl,c 6 _ rfl,d 0 _ rfl,d 1 _ rfl,d 2 _ rfl,d 3 _ rfl⟩
abbrev bp1 (w:World) (x:BdW) (p:PlW):World:=two w (cBd x) 28 [.int .i64 p.l,.slice p.A p.n p.c] 36
theorem Rnone_any (x:PlW) (w:World) (hx:OnePl w w.heap.size x) :
  Calls Tryz.prog 33 #[aggPl x] w fun e w'=>e=.returned (.bool (noP x.v))∧Below w.heap.size w w':=by
 obtain ⟨l,A,n,c,ps⟩:=x
 have hl:ps.length=n:=hx.prs.len
 have HB:=hide ((Below.refl w.heap.size w).alloc (Nat.le_refl _) (.cells #[.int .i64 l,.slice A n c] 36))
 have hv:noP (PlW.v ⟨l,A,n,c,ps⟩)=(decide (l=0) && decide (n=0)):=by
  unfold noP PlW.v
  simp only []
  rw [hl]
 rw [hv]
 clear hv hl hx
 by_cases h0:l=0
 ·
  have t0:(l == 0)=true:=by simpa using h0
  by_cases h1:n=0
  ·
   have t1:((n:Int) == 0)=true:=by simp [h1]
   have e:(decide (l=0) && decide (n=0))=true:=by simp [h0,h1]
   rw [e]
   clear e h0 h1
   go_enter Tryz.func33,Tryz.ntmps33
   go_wp2
   go_ret
   exact ⟨rfl,HB.out⟩
  ·
   have t1:((n:Int) == 0)=false:=by rw [beq_eq_false_iff_ne];omega
   have e:(decide (l=0) && decide (n=0))=false:=by simp [h1]
   rw [e]
   clear e h0 h1
   go_enter Tryz.func33,Tryz.ntmps33
   go_wp2
   go_ret
   exact ⟨rfl,HB.out⟩
 ·
  have t0:(l == 0)=false:=by simpa using h0
  have e:(decide (l=0) && decide (n=0))=false:=by simp [h0]
  rw [e]
  clear e h0
  go_enter Tryz.func33,Tryz.ntmps33
  go_wp2
  go_ret
  exact ⟨rfl,HB.out⟩
theorem Rnone_is {x:PlW} {v:Bool} (h:noP x.v=v) (w:World) (hx:OnePl w w.heap.size x) :
  Calls Tryz.prog 33 #[aggPl x] w fun e w'=>e=.returned (.bool v)∧Below w.heap.size w w':=h ▸ Rnone_any x w hx
theorem RtypeOf_is {x:BdW} {p:PlW} {u v:Int} {w:World} (h:VB w x) (hp:OnePl w w.heap.size p) (hv:tyV (wE x) p.v=(u,v)) :
  Calls Tryz.prog 34 #[aggBd x,aggPl p] w fun e w'=>e=.returned (.tuple #[.int .i64 u,.int .i64 v])∧Below w.heap.size w w':=by
 have HB:=hide (two_below w (cBd x) 28 [.int .i64 p.l,.slice p.A p.n p.c] 36)
 have HC:=hide (RTypeOf_is (ct:=x.types.c) (cl:=x.locals.c) ((h.pl8 hp).up HB.out) hv)
 obtain ⟨hcx,hco⟩:=two_cells (Below.refl (bp1 w x p).heap.size (bp1 w x p))
 have z3:=hcx 3 _ rfl
 have z4:=hcx 4 _ rfl
 have p0:=hco 0 _ rfl
 have p1:=hco 1 _ rfl
 clear h hp hv hcx hco
 obtain ⟨nm,⟨rA,rn,rc,rL⟩,⟨oA,on,oc,oL⟩,⟨tA,tn,tc,tL⟩,⟨lA,ln,lc,lL⟩,ar,⟨bA,bn,bc,bL⟩⟩:=x
 obtain ⟨l,A,n,c,ps⟩:=p
 simp only [] at z3 z4 p0 p1
 go_enter Tryz.func34,Tryz.ntmps34
 go_wp2_with fail
 refine HC.out.mono ?_
 rintro e w1 ⟨rfl,hb1⟩
 have HB1:=hide (HB.out.trans (hb1.mono HB.out.size))
 clear hb1
 go_wp2
 go_ret2
 exact ⟨rfl,HB1.out⟩
theorem Rmutable_is {x:BdW} {p:PlW} {v:Bool} {w:World} (h:VB w x) (hp:OnePl w w.heap.size p) (hv:muV (wE x) p.v=v) :
  Calls Tryz.prog 39 #[aggBd x,aggPl p] w fun e w'=>e=.returned (.bool v)∧Below w.heap.size w w':=by
 have HB:=hide (two_below w (cBd x) 28 [.int .i64 p.l,.slice p.A p.n p.c] 36)
 have HC:=hide (RMutable_is (ct:=x.types.c) (cl:=x.locals.c) ((h.pl8 hp).up HB.out) hv)
 obtain ⟨hcx,hco⟩:=two_cells (Below.refl (bp1 w x p).heap.size (bp1 w x p))
 have z3:=hcx 3 _ rfl
 have z4:=hcx 4 _ rfl
 have p0:=hco 0 _ rfl
 have p1:=hco 1 _ rfl
 clear h hp hv hcx hco
 obtain ⟨nm,⟨rA,rn,rc,rL⟩,⟨oA,on,oc,oL⟩,⟨tA,tn,tc,tL⟩,⟨lA,ln,lc,lL⟩,ar,⟨bA,bn,bc,bL⟩⟩:=x
 obtain ⟨l,A,n,c,ps⟩:=p
 simp only [] at z3 z4 p0 p1
 go_enter Tryz.func39,Tryz.ntmps39
 go_wp2_with fail
 refine HC.out.mono ?_
 rintro e w1 ⟨rfl,hb1⟩
 have HB1:=hide (HB.out.trans (hb1.mono HB.out.size))
 clear hb1
 go_wp2
 go_ret
 exact ⟨rfl,HB1.out⟩
theorem one_cells {w w':World} {cs:List Value} {T:TypeId} (h:Below (w.alloc (.cells cs.toArray T)).heap.size (w.alloc (.cells cs.toArray T)) w'):∀ (j:Nat) (u:Value),cs[j]?=some u→w'.cell? ⟨w.heap.size,j,none⟩=some u:=fun j u hu=>by
 have b1:=(h.block w.heap.size (by simp)).trans (heap_alloc_new w (.cells cs.toArray T))
 exact (cell_of_heap b1 j).trans (by rw [List.getElem?_toArray];exact hu)
theorem cells2 {w w':World} {a0 a1:Value} {T:TypeId} (h:Below (w.alloc (.cells #[a0,a1] T)).heap.size (w.alloc (.cells #[a0,a1] T)) w'):w'.cell? ⟨w.heap.size,0,none⟩=some a0∧w'.cell? ⟨w.heap.size,1,none⟩=some a1:=by
 have c:=one_cells (cs:=[a0,a1]) h
 exact ⟨c 0 _ rfl,c 1 _ rfl⟩
theorem cells6 {w w':World} {a0 a1 a2 a3 a4 a5:Value} {T:TypeId} (h:Below (w.alloc (.cells #[a0,a1,a2,a3,a4,a5] T)).heap.size (w.alloc (.cells #[a0,a1,a2,a3,a4,a5] T)) w'):w'.cell? ⟨w.heap.size,0,none⟩=some a0∧w'.cell? ⟨w.heap.size,1,none⟩=some a1∧w'.cell? ⟨w.heap.size,2,none⟩=some a2∧w'.cell? ⟨w.heap.size,3,none⟩=some a3∧w'.cell? ⟨w.heap.size,4,none⟩=some a4∧w'.cell? ⟨w.heap.size,5,none⟩=some a5:=by
 have c:=one_cells (cs:=[a0,a1,a2,a3,a4,a5]) h
 exact ⟨c 0 _ rfl,c 1 _ rfl,c 2 _ rfl,c 3 _ rfl,c 4 _ rfl,c 5 _ rfl⟩
theorem cells7 {w w':World} {a0 a1 a2 a3 a4 a5 a6:Value} {T:TypeId} (h:Below (w.alloc (.cells #[a0,a1,a2,a3,a4,a5,a6] T)).heap.size (w.alloc (.cells #[a0,a1,a2,a3,a4,a5,a6] T)) w'):w'.cell? ⟨w.heap.size,0,none⟩=some a0∧w'.cell? ⟨w.heap.size,1,none⟩=some a1∧w'.cell? ⟨w.heap.size,2,none⟩=some a2∧w'.cell? ⟨w.heap.size,3,none⟩=some a3∧w'.cell? ⟨w.heap.size,4,none⟩=some a4∧w'.cell? ⟨w.heap.size,5,none⟩=some a5∧w'.cell? ⟨w.heap.size,6,none⟩=some a6:=by
 have c:=one_cells (cs:=[a0,a1,a2,a3,a4,a5,a6]) h
 exact ⟨c 0 _ rfl,c 1 _ rfl,c 2 _ rfl,c 3 _ rfl,c 4 _ rfl,c 5 _ rfl,c 6 _ rfl⟩
theorem self6 (w:World) (a0 a1 a2 a3 a4 a5:Value) (T:TypeId):(w.alloc (.cells #[a0,a1,a2,a3,a4,a5] T)).cell? ⟨w.heap.size,0,none⟩=some a0∧(w.alloc (.cells #[a0,a1,a2,a3,a4,a5] T)).cell? ⟨w.heap.size,1,none⟩=some a1∧(w.alloc (.cells #[a0,a1,a2,a3,a4,a5] T)).cell? ⟨w.heap.size,2,none⟩=some a2∧(w.alloc (.cells #[a0,a1,a2,a3,a4,a5] T)).cell? ⟨w.heap.size,3,none⟩=some a3∧(w.alloc (.cells #[a0,a1,a2,a3,a4,a5] T)).cell? ⟨w.heap.size,4,none⟩=some a4∧(w.alloc (.cells #[a0,a1,a2,a3,a4,a5] T)).cell? ⟨w.heap.size,5,none⟩=some a5:=cells6 (Below.refl _ _)
end Go.Proofs.YtfgacmgjpikgaaaGreatDoor
