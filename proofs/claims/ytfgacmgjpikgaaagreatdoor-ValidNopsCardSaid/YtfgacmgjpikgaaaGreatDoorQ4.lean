/- Part 5 of the contracts and their mathematics. -/
import Derived.Test.YtfgacmgjpikgaaaGreatDoorQ3
import Derived.Deep.RegionHeld3
import Derived.Maps.AppendAt
set_option linter.unusedVariables false
set_option linter.unusedSimpArgs false
set_option maxRecDepth 100000
set_option maxHeartbeats 8000000
namespace Go.Proofs.YtfgacmgjpikgaaaGreatDoor
open Go.RowKit
def szOps (s:SlW OpW):Nat:=s.n+sumN (fun o=>o.pl.n) s.L
def szSt (s:StW):Nat:=s.pl.n+s.rv.pl.n+szOps s.rv.args
def szBk (b:BkW):Nat:=1+b.stmts.n+b.term.targets.n+b.term.pl.n+min b.term.name.size 9000+sumN szSt b.stmts.L+szOps b.term.args
def szR (s:ByteArray):Nat:=1+min s.size 9000
def szT (t:TyW):Nat:=1+min t.n 9000
def szL (l:LcW):Nat:=1+min l.name.size 9000
def szB (x:BdW):Nat:=min x.name.size 9000+x.outl.n+sumN szR x.regions.L+sumN szT x.types.L+sumN szL x.locals.L+sumN szBk x.blocks.L
def st1 (w:World) (x:StW):World:=w.alloc (.cells #[.int .i64 x.kind,.int .i64 x.pl.l,.slice x.pl.A x.pl.n x.pl.c,.int .i64 x.rv.kind,.int .i64 x.rv.op,.int .i64 x.rv.region,.bool x.rv.mut_,.int .i64 x.rv.pl.l,.slice x.rv.pl.A x.rv.pl.n x.rv.pl.c,.slice x.rv.args.A x.rv.args.n x.rv.args.c,.int .i64 x.loc] 46)
theorem st1_size (w:World) (x:StW):(st1 w x).heap.size=w.heap.size+1:=by simp [st1]
theorem st1_below (w:World) (x:StW):Below w.heap.size w (st1 w x):=(Below.refl _ w).alloc (Nat.le_refl _) _
theorem st1_cells {w w':World} {x:StW} (h:Below (st1 w x).heap.size (st1 w x) w'):∀ j u,(cSt x)[j]?=some u→w'.cell? ⟨w.heap.size,j,none⟩=some u:=by
 have hs:=st1_size w x
 intro j u hu
 refine (h.cell (show w.heap.size < (st1 w x).heap.size by omega)).trans ?_
 unfold st1
 simp only [cSt] at hu
 rw [←hu]
 rcases j with _ | _ | _ | _ | _ | _ | _ | _ | _ | _ | _ | j <;> simp [go_sem]
def LargeOut (w:World) (x:BdW) (e:Ending) (w':World):Prop:=(e=.returned (.int .i64 1)∨e=.returned (.int .i64 0)∧szB x≤3000)∧Below w.heap.size w w'
theorem BodVz1 {P:Prop} (h:P:=by
 have t1:IntKind.i64.wrap ((m:Int)+9001)=(m:Int)+9001:=wrapI9 _ (by omega) (by omega)
 have t2:IntKind.i64.wrap (1+9000)=1+9000:=wrapI9 _ (by omega) (by omega)
 clear c0 h1 hu hp
 go_wp2
 go_roundw
 case rel=>exact ⟨j+1,m+(1+9000),by go_num,congrArg (fun z:Int=>Value.int .i64 z) (by omega),by omega,by omega,HM2,HB2⟩
 case measure=>simp [intOf];omega):P:=h
theorem BodVz0 {P:Prop} (h:P:=by
 clear hq0
 go_enter Tryz.func16,Tryz.ntmps16
 go_wp2
 go_loopw [3,25] (fun v i wr=>∃ j m:Nat,i=.int .i64 (j:Int)∧v=.int .i64 (m:Int)∧j≤rn∧m≤140737488364328+9001*(0+j)∧Hid (m=q0+on+sumN szR (rL.take j))∧Hid (Below (bd1 w ⟨nm,⟨rA,rn,rc,rL⟩,⟨oA,on,oc,oL⟩,⟨tA,tn,tc,tL⟩,⟨lA,ln,lc,lL⟩,ar,⟨bA,bn,bc,bL⟩⟩).heap.size (bd1 w ⟨nm,⟨rA,rn,rc,rL⟩,⟨oA,on,oc,oL⟩,⟨tA,tn,tc,tL⟩,⟨lA,ln,lc,lL⟩,ar,⟨bA,bn,bc,bL⟩⟩) wr)) (fun _ i _=>rn - (intOf i).toNat)
 case atStart=>exact ⟨0,q0+on,rfl,congrArg (fun z:Int=>Value.int .i64 z) (by have:=hq.out;omega),Nat.zero_le _,by omega,hide (by simp [sumN]),hide (Below.refl _ _)⟩
 case round=>
  clear t0
  obtain ⟨j,m,rfl,rfl,hj,hm,HM,HR1⟩:=hrel
  have hsz:(bd1 w ⟨nm,⟨rA,rn,rc,rL⟩,⟨oA,on,oc,oL⟩,⟨tA,tn,tc,tL⟩,⟨lA,ln,lc,lL⟩,ar,⟨bA,bn,bc,bL⟩⟩).heap.size≤wr.heap.size:=HR1.out.size
  by_cases hlt:j < rn
  ·
   obtain ⟨p,hp⟩:=HX.out.regions.get hlt
   obtain ⟨g,o,hA,hg,h1,c0⟩:=HX.out.regions.at_ hp
   simp only [] at hA
   subst hA
   have hlt':(j:Int) < (rn:Int):=by omega
   have c0_:=(HR1.out.cell hg).trans (c0 0 _ rfl)
   simp only [Nat.mul_one,Nat.add_zero] at c0_
   have hu:=sumN_up (f:=szR) hp
   have HB2:=hide (HR1.out)
   by_cases hb:9000 < p.size
   ·
    have hb1:(9000:Int) < (p.size:Int):=by omega
    have hb2:(9000:Int)≤(p.size:Int):=by omega
    have HM2:=hide (show m+(1+9000)=q0+on+sumN szR (rL.take (j+1)) by rw [hu,HM.out,show szR p=1+9000 by unfold szR;omega,Nat.add_assoc])
    exact BodVz1
   ·
    have hb1:¬(9000:Int) < (p.size:Int):=by omega
    have hb2:(p.size:Int)≤9000:=by omega
    have HM2:=hide (show m+(1+p.size)=q0+on+sumN szR (rL.take (j+1)) by rw [hu,HM.out,show szR p=1+p.size by unfold szR;omega,Nat.add_assoc])
    have t1:IntKind.i64.wrap ((m:Int)+(1+(p.size:Int)))=(m:Int)+(1+(p.size:Int)):=wrapI9 _ (by omega) (by omega)
    have t2:IntKind.i64.wrap (1+(p.size:Int))=1+(p.size:Int):=wrapI9 _ (by omega) (by omega)
    clear c0 h1 hu hp
    go_wp2
    go_roundw
    case rel=>exact ⟨j+1,m+(1+p.size),by go_num,congrArg (fun z:Int=>Value.int .i64 z) (by omega),by omega,by omega,HM2,HB2⟩
    case measure=>simp [intOf];omega
  ·
   have hjn:rn=j:=by omega
   have hge:¬(j:Int) < (rn:Int):=by omega
   have HM1:=hide (show m=q0+on+S1 by rw [HM.out,← hjn,sumN_all _ HRL.out,HS1.out])
   have hm2:m≤140737488364328+9001*rn:=by omega
   clear hjn HM
   have v3:=hs.out _ HR1.out 3 _ rfl
   simp only [] at v3
   go_wp2
   clear v3 hge hlt hj hm hsz
   go_loopw [3,39] (fun v i wr=>∃ j m:Nat,i=.int .i64 (j:Int)∧v=.int .i64 (m:Int)∧j≤tn∧m≤140737488364328+9001*(rn+j)∧Hid (m=q0+on+S1+sumN szT (tL.take j))∧Hid (Below (bd1 w ⟨nm,⟨rA,rn,rc,rL⟩,⟨oA,on,oc,oL⟩,⟨tA,tn,tc,tL⟩,⟨lA,ln,lc,lL⟩,ar,⟨bA,bn,bc,bL⟩⟩).heap.size (bd1 w ⟨nm,⟨rA,rn,rc,rL⟩,⟨oA,on,oc,oL⟩,⟨tA,tn,tc,tL⟩,⟨lA,ln,lc,lL⟩,ar,⟨bA,bn,bc,bL⟩⟩) wr)) (fun _ i _=>tn - (intOf i).toNat)
   case atStart=>exact ⟨0,m,rfl,rfl,Nat.zero_le _,by omega,hide (by rw [HM1.out];simp [sumN]),HR1⟩
   case round=>
    clear hm2 HR1 HM1
    obtain ⟨j,m,rfl,rfl,hj,hm,HM,HR2⟩:=hrel
    have hsz:(bd1 w ⟨nm,⟨rA,rn,rc,rL⟩,⟨oA,on,oc,oL⟩,⟨tA,tn,tc,tL⟩,⟨lA,ln,lc,lL⟩,ar,⟨bA,bn,bc,bL⟩⟩).heap.size≤wr.heap.size:=HR2.out.size
    by_cases hlt:j < tn
    ·
     obtain ⟨p,hp⟩:=HX.out.types.get hlt
     obtain ⟨g,o,hA,hg,h1,c0⟩:=HX.out.types.at_ hp
     simp only [] at hA
     subst hA
     have hlt':(j:Int) < (tn:Int):=by omega
     have c0_:=(HR2.out.cell hg).trans (c0 0 _ rfl)
     have c1_:=(HR2.out.cell hg).trans (c0 1 _ rfl)
     have c2_:=(HR2.out.cell hg).trans (c0 2 _ rfl)
     have c3_:=(HR2.out.cell hg).trans (c0 3 _ rfl)
     have c4_:=(HR2.out.cell hg).trans (c0 4 _ rfl)
     simp only [Nat.mul_one,Nat.add_zero] at c0_ c1_ c2_ c3_ c4_
     have hu:=sumN_up (f:=szT) hp
     have HB2:=hide (HR2.out.alloc hsz (.cells #[.int .i64 p.t.kind,.bool p.t.mut_,.int .i64 p.t.region,.int .i64 p.t.elem,.slice p.A p.n p.c] 62))
     by_cases hb:9000 < p.n
     ·
      have hb1:(9000:Int) < (p.n:Int):=by omega
      have hb2:(9000:Int)≤(p.n:Int):=by omega
      have HM2:=hide (show m+(1+9000)=q0+on+S1+sumN szT (tL.take (j+1)) by rw [hu,HM.out,show szT p=1+9000 by unfold szT;omega,Nat.add_assoc])
      exact BodVz1
     ·
      have hb1:¬(9000:Int) < (p.n:Int):=by omega
      have hb2:(p.n:Int)≤9000:=by omega
      have HM2:=hide (show m+(1+p.n)=q0+on+S1+sumN szT (tL.take (j+1)) by rw [hu,HM.out,show szT p=1+p.n by unfold szT;omega,Nat.add_assoc])
      have t1:IntKind.i64.wrap ((m:Int)+(1+(p.n:Int)))=(m:Int)+(1+(p.n:Int)):=wrapI9 _ (by omega) (by omega)
      have t2:IntKind.i64.wrap (1+(p.n:Int))=1+(p.n:Int):=wrapI9 _ (by omega) (by omega)
      clear c0 h1 hu hp
      go_wp2
      go_roundw
      case rel=>exact ⟨j+1,m+(1+p.n),by go_num,congrArg (fun z:Int=>Value.int .i64 z) (by omega),by omega,by omega,HM2,HB2⟩
      case measure=>simp [intOf];omega
    ·
     have hjn:tn=j:=by omega
     have hge:¬(j:Int) < (tn:Int):=by omega
     have HM2:=hide (show m=q0+on+S1+S2 by rw [HM.out,← hjn,sumN_all _ HTL.out,HS2.out])
     have hm2:m≤140737488364328+9001*(rn+tn):=by omega
     clear hjn HM
     have v4:=hs.out _ HR2.out 4 _ rfl
     simp only [] at v4
     go_wp2
     clear v4 hge hlt hj hm hsz
     go_loopw [3,54] (fun v i wr=>∃ j m:Nat,i=.int .i64 (j:Int)∧v=.int .i64 (m:Int)∧j≤ln∧m≤140737488364328+9001*((rn+tn)+j)∧Hid (m=q0+on+S1+S2+sumN szL (lL.take j))∧Hid (Below (bd1 w ⟨nm,⟨rA,rn,rc,rL⟩,⟨oA,on,oc,oL⟩,⟨tA,tn,tc,tL⟩,⟨lA,ln,lc,lL⟩,ar,⟨bA,bn,bc,bL⟩⟩).heap.size (bd1 w ⟨nm,⟨rA,rn,rc,rL⟩,⟨oA,on,oc,oL⟩,⟨tA,tn,tc,tL⟩,⟨lA,ln,lc,lL⟩,ar,⟨bA,bn,bc,bL⟩⟩) wr)) (fun _ i _=>ln - (intOf i).toNat)
     case atStart=>exact ⟨0,m,rfl,rfl,Nat.zero_le _,by omega,hide (by rw [HM2.out];simp [sumN]),HR2⟩
     case round=>
      clear hm2 HR2 HM2
      obtain ⟨j,m,rfl,rfl,hj,hm,HM,HR3⟩:=hrel
      have hsz:(bd1 w ⟨nm,⟨rA,rn,rc,rL⟩,⟨oA,on,oc,oL⟩,⟨tA,tn,tc,tL⟩,⟨lA,ln,lc,lL⟩,ar,⟨bA,bn,bc,bL⟩⟩).heap.size≤wr.heap.size:=HR3.out.size
      by_cases hlt:j < ln
      ·
       obtain ⟨p,hp⟩:=HX.out.locals.get hlt
       obtain ⟨g,o,hA,hg,h1,c0⟩:=HX.out.locals.at_ hp
       simp only [] at hA
       subst hA
       have hlt':(j:Int) < (ln:Int):=by omega
       have c0_:=(HR3.out.cell hg).trans (c0 0 _ rfl)
       have c1_:=(HR3.out.cell hg).trans (c0 1 _ rfl)
       simp only [Nat.mul_one,Nat.add_zero] at c0_ c1_
       have hu:=sumN_up (f:=szL) hp
       have HB2:=hide (HR3.out.alloc hsz (.cells #[.string p.name,.int .i64 p.ty] 64))
       by_cases hb:9000 < p.name.size
       ·
        have hb1:(9000:Int) < (p.name.size:Int):=by omega
        have hb2:(9000:Int)≤(p.name.size:Int):=by omega
        have HM2:=hide (show m+(1+9000)=q0+on+S1+S2+sumN szL (lL.take (j+1)) by rw [hu,HM.out,show szL p=1+9000 by unfold szL;omega,Nat.add_assoc])
        exact BodVz1
       ·
        have hb1:¬(9000:Int) < (p.name.size:Int):=by omega
        have hb2:(p.name.size:Int)≤9000:=by omega
        have HM2:=hide (show m+(1+p.name.size)=q0+on+S1+S2+sumN szL (lL.take (j+1)) by rw [hu,HM.out,show szL p=1+p.name.size by unfold szL;omega,Nat.add_assoc])
        have t1:IntKind.i64.wrap ((m:Int)+(1+(p.name.size:Int)))=(m:Int)+(1+(p.name.size:Int)):=wrapI9 _ (by omega) (by omega)
        have t2:IntKind.i64.wrap (1+(p.name.size:Int))=1+(p.name.size:Int):=wrapI9 _ (by omega) (by omega)
        clear c0 h1 hu hp
        go_wp2
        go_roundw
        case rel=>exact ⟨j+1,m+(1+p.name.size),by go_num,congrArg (fun z:Int=>Value.int .i64 z) (by omega),by omega,by omega,HM2,HB2⟩
        case measure=>simp [intOf];omega
      ·
       have hjn:ln=j:=by omega
       have hge:¬(j:Int) < (ln:Int):=by omega
       have HM3:=hide (show m=q0+on+S1+S2+S3 by rw [HM.out,← hjn,sumN_all _ HLL.out,HS3.out])
       have hm2:m≤140737488364328+9001*(rn+tn+ln):=by omega
       clear hjn HM
       have v6:=hs.out _ HR3.out 6 _ rfl
       simp only [] at v6
       by_cases h30:3000 < m
       ·
        have hi30:(3000:Int) < (m:Int):=by omega
        go_wp2
        go_ret
        exact ⟨.inl rfl,HB.out.trans (HR3.out.mono HB.out.size)⟩
       have hi30:¬(3000:Int) < (m:Int):=by omega
       go_wp2
       clear v6 hge hlt hj hm hsz hm2 hi30
       go_loopw [3,71] (fun v i wr=>∃ j m:Nat,i=.int .i64 (j:Int)∧v=.int .i64 (m:Int)∧j≤bn∧m≤21000∧Hid (m≤3000→m=q0+on+S1+S2+S3+sumN szBk (bL.take j))∧Hid (Below (bd1 w ⟨nm,⟨rA,rn,rc,rL⟩,⟨oA,on,oc,oL⟩,⟨tA,tn,tc,tL⟩,⟨lA,ln,lc,lL⟩,ar,⟨bA,bn,bc,bL⟩⟩).heap.size (bd1 w ⟨nm,⟨rA,rn,rc,rL⟩,⟨oA,on,oc,oL⟩,⟨tA,tn,tc,tL⟩,⟨lA,ln,lc,lL⟩,ar,⟨bA,bn,bc,bL⟩⟩) wr)) (fun _ i _=>bn - (intOf i).toNat)
       case atStart=>exact ⟨0,m,rfl,rfl,Nat.zero_le _,by omega,hide (fun _=>by rw [HM3.out];simp [sumN]),HR3⟩
       case round=>
        clear HM3 HR3 h30
        rename World=>wo
        obtain ⟨j,m,rfl,rfl,hj,hm,HM,HR4⟩:=hrel
        by_cases hlt:j < bn
        ·
         obtain ⟨p,hp⟩:=HX.out.blocks.get hlt
         obtain ⟨g,o,hA,hg,h1,c0⟩:=HX.out.blocks.at_ hp
         have hfb:=HFB.out p (List.mem_of_getElem? hp)
         simp only [] at hA
         subst hA
         have hu:=sumN_up (f:=szBk) hp
         obtain ⟨⟨sA,sn,sc,sL⟩,⟨tk,⟨uA,un,uc,uL⟩,⟨gA,gn,gc,gL⟩,⟨pl,pA,pn,pc,ps⟩,tnm⟩⟩:=p
         have hlt':(j:Int) < (bn:Int):=by omega
         have f1:=hfb.stmts
         have f2:=hfb.targets
         have f3:=hfb.pl
         have HF4:=hide hfb.sts
         have HP:=hide h1
         have HSL:=hide h1.stmts.len
         have hsn:=h1.stmts.nm
         unfold maxLen at hsn
         have htz:tnm.size≤9223372036854775807:=h1.term.name
         simp only [] at f1 f2 f3 hsn
         clear hfb h1 hp
         have HU:=hide hu
         clear hu
         have c0_:=(HR4.out.cell hg).trans (c0 0 _ rfl)
         have c1_:=(HR4.out.cell hg).trans (c0 1 _ rfl)
         have c2_:=(HR4.out.cell hg).trans (c0 2 _ rfl)
         have c3_:=(HR4.out.cell hg).trans (c0 3 _ rfl)
         have c4_:=(HR4.out.cell hg).trans (c0 4 _ rfl)
         have c5_:=(HR4.out.cell hg).trans (c0 5 _ rfl)
         have c6_:=(HR4.out.cell hg).trans (c0 6 _ rfl)
         simp only [Nat.add_zero] at c0_ c1_ c2_ c3_ c4_ c5_ c6_
         clear c0
         have HBK:=hide (bk1_below wo ⟨⟨sA,sn,sc,sL⟩,⟨tk,⟨uA,un,uc,uL⟩,⟨gA,gn,gc,gL⟩,⟨pl,pA,pn,pc,ps⟩,tnm⟩⟩)
         by_cases hb:9000 < tnm.size
         ·
          have hb1:(9000:Int) < (tnm.size:Int):=by omega
          have hb2:(9000:Int)≤(tnm.size:Int):=by omega
          have k0:IntKind.i64.wrap (1+(sn:Int))=1+(sn:Int):=wrapI9 _ (by omega) (by omega)
          have k1:IntKind.i64.wrap (1+(sn:Int)+(un:Int))=1+(sn:Int)+(un:Int):=wrapI9 _ (by omega) (by omega)
          have k2:IntKind.i64.wrap (1+(sn:Int)+(un:Int)+(pn:Int))=1+(sn:Int)+(un:Int)+(pn:Int):=wrapI9 _ (by omega) (by omega)
          have k3:IntKind.i64.wrap (1+(sn:Int)+(un:Int)+(pn:Int)+9000)=1+(sn:Int)+(un:Int)+(pn:Int)+9000:=wrapI9 _ (by omega) (by omega)
          have k4:IntKind.i64.wrap ((m:Int)+(1+(sn:Int)+(un:Int)+(pn:Int)+9000))=(m:Int)+(1+(sn:Int)+(un:Int)+(pn:Int)+9000):=wrapI9 _ (by omega) (by omega)
          have h3:(3000:Int) < (m:Int)+(1+(sn:Int)+(un:Int)+(pn:Int)+9000):=by omega
          go_wp2
          go_ret
          exact ⟨.inl rfl,HB.out.trans ((HR4.out.trans (HBK.out.mono HR4.out.size)).mono HB.out.size)⟩
         have hb1:¬(9000:Int) < (tnm.size:Int):=by omega
         have hb2:(tnm.size:Int)≤9000:=by omega
         have k0:IntKind.i64.wrap (1+(sn:Int))=1+(sn:Int):=wrapI9 _ (by omega) (by omega)
         have k1:IntKind.i64.wrap (1+(sn:Int)+(un:Int))=1+(sn:Int)+(un:Int):=wrapI9 _ (by omega) (by omega)
         have k2:IntKind.i64.wrap (1+(sn:Int)+(un:Int)+(pn:Int))=1+(sn:Int)+(un:Int)+(pn:Int):=wrapI9 _ (by omega) (by omega)
         have k3:IntKind.i64.wrap (1+(sn:Int)+(un:Int)+(pn:Int)+(tnm.size:Int))=1+(sn:Int)+(un:Int)+(pn:Int)+(tnm.size:Int):=wrapI9 _ (by omega) (by omega)
         have k4:IntKind.i64.wrap ((m:Int)+(1+(sn:Int)+(un:Int)+(pn:Int)+(tnm.size:Int)))=(m:Int)+(1+(sn:Int)+(un:Int)+(pn:Int)+(tnm.size:Int)):=wrapI9 _ (by omega) (by omega)
         obtain ⟨m1,hm1⟩:∃ m1,m+(1+sn+un+pn+tnm.size)=m1:=⟨_,rfl⟩
         have hm1i:(m:Int)+(1+(sn:Int)+(un:Int)+(pn:Int)+(tnm.size:Int))=(m1:Int):=by omega
         replace k4:=k4.trans hm1i
         by_cases h30:3000 < m1
         ·
          have h3:(3000:Int) < (m1:Int):=by omega
          clear hm1i
          go_wp2
          go_ret
          exact ⟨.inl rfl,HB.out.trans ((HR4.out.trans (HBK.out.mono HR4.out.size)).mono HB.out.size)⟩
         have h3:¬(3000:Int) < (m1:Int):=by omega
         have HM1:=hide (show m1=q0+on+S1+S2+S3+sumN szBk (bL.take j)+(1+sn+un+pn+min tnm.size 9000) by rw [←HM.out (by omega),← hm1,Nat.min_eq_left (by omega)])
         clear hm1i hm1
         go_wp2
         clear c0_ c1_ c2_ c3_ c4_ c5_ c6_ h3 hb1 hb2 k0 k1 k2 k3 k4
         go_loopw [3,103] (fun v i wr=>∃ j2 m2:Nat,i=.int .i64 (j2:Int)∧v=.int .i64 (m2:Int)∧j2≤sn∧m2≤3000∧Hid (m2=m1+sumN szSt (sL.take j2))∧Hid (Below (bk1 wo ⟨⟨sA,sn,sc,sL⟩,⟨tk,⟨uA,un,uc,uL⟩,⟨gA,gn,gc,gL⟩,⟨pl,pA,pn,pc,ps⟩,tnm⟩⟩).heap.size (bk1 wo ⟨⟨sA,sn,sc,sL⟩,⟨tk,⟨uA,un,uc,uL⟩,⟨gA,gn,gc,gL⟩,⟨pl,pA,pn,pc,ps⟩,tnm⟩⟩) wr)) (fun _ i _=>sn - (intOf i).toNat)
         case atStart=>exact ⟨0,m1,rfl,rfl,Nat.zero_le _,by omega,hide (by simp [sumN]),hide (Below.refl _ _)⟩
         case round=>
          obtain ⟨j2,m2,rfl,rfl,hj2,hm2,HM2,HW2⟩:=hrel
          have HRC:=hide (HR4.out.trans ((HBK.out.trans (HW2.out.mono HBK.out.size)).mono HR4.out.size))
          by_cases hlt2:j2 < sn
          ·
           obtain ⟨s,hs2⟩:=HP.out.stmts.get hlt2
           obtain ⟨g3,o3,hA3,hg3,h13,c03⟩:=HP.out.stmts.at_ hs2
           have hf4:=HF4.out s (List.mem_of_getElem? hs2)
           have hu3:=sumN_up (f:=szSt) hs2
           simp only [] at hA3
           subst hA3
           have hlt2':(j2:Int) < (sn:Int):=by omega
           have f5:=hf4.1
           have f6:=hf4.2
           have c0_:=(HRC.out.cell hg3).trans (c03 0 _ rfl)
           have c1_:=(HRC.out.cell hg3).trans (c03 1 _ rfl)
           have c2_:=(HRC.out.cell hg3).trans (c03 2 _ rfl)
           have c3_:=(HRC.out.cell hg3).trans (c03 3 _ rfl)
           have c4_:=(HRC.out.cell hg3).trans (c03 4 _ rfl)
           have c5_:=(HRC.out.cell hg3).trans (c03 5 _ rfl)
           have c6_:=(HRC.out.cell hg3).trans (c03 6 _ rfl)
           have c7_:=(HRC.out.cell hg3).trans (c03 7 _ rfl)
           have c8_:=(HRC.out.cell hg3).trans (c03 8 _ rfl)
           have c9_:=(HRC.out.cell hg3).trans (c03 9 _ rfl)
           have c10_:=(HRC.out.cell hg3).trans (c03 10 _ rfl)
           simp only [Nat.add_zero] at c0_ c1_ c2_ c3_ c4_ c5_ c6_ c7_ c8_ c9_ c10_
           have HS2:=hide (st1_below wr s)
           have HA:=hide (h13.rv.args.up (HRC.out.trans (HS2.out.mono HRC.out.size)))
           have hcs:=hide fun (w':World) (h:Below (st1 wr s).heap.size (st1 wr s) w')=>(show w'.cell? ⟨wr.heap.size,2,none⟩=some (.slice s.pl.A s.pl.n s.pl.c)∧w'.cell? ⟨wr.heap.size,8,none⟩=some (.slice s.rv.pl.A s.rv.pl.n s.rv.pl.c)∧w'.cell? ⟨wr.heap.size,9,none⟩=some (.slice s.rv.args.A s.rv.args.n s.rv.args.c) from ⟨st1_cells h 2 _ rfl,st1_cells h 8 _ rfl,st1_cells h 9 _ rfl⟩)
           have hst:szSt s=s.pl.n+s.rv.pl.n+szOps s.rv.args:=rfl
           obtain ⟨T3,hT3⟩:∃ T,sumN szSt (List.take j2 sL)=T:=⟨_,rfl⟩
           obtain ⟨T4,hT4⟩:∃ T,sumN szSt (List.take (j2+1) sL)=T:=⟨_,rfl⟩
           obtain ⟨O3,hO3⟩:∃ T,szOps s.rv.args=T:=⟨_,rfl⟩
           have HN:=hide (show ∀ r,m2+(s.pl.n+s.rv.pl.n+r)≤3000→(r≤3000→O3=r)→m2+(s.pl.n+s.rv.pl.n+r)=m1+T4 from fun r h1 h2=>by
            have:=HM2.out
            have h3:=h2 (by omega)
            simp only [] at hu3
            rw [hT4,hT3,hst,hO3] at hu3
            rw [hT3] at this
            omega)
           have HO3:=hide hO3
           have HT4:=hide hT4
           have s1:IntKind.i64.wrap ((s.pl.n:Int)+(s.rv.pl.n:Int))=(s.pl.n:Int)+(s.rv.pl.n:Int):=wrapI9 _ (by omega) (by omega)
           clear c03 h13 hf4 hu3 hst hT3 hT4 hO3 hs2
           go_wp2
           clear c0_ c1_ c2_ c3_ c4_ c5_ c6_ c7_ c8_ c9_ c10_
           change Code.wp _ _ _ _ (st1 wr s)
           go_region_held3 (fun w'=>Below (st1 wr s).heap.size (st1 wr s) w'∧w'.cell? ⟨wr.heap.size,2,none⟩=some (.slice s.pl.A s.pl.n s.pl.c)∧w'.cell? ⟨wr.heap.size,8,none⟩=some (.slice s.rv.pl.A s.rv.pl.n s.rv.pl.c)∧w'.cell? ⟨wr.heap.size,9,none⟩=some (.slice s.rv.args.A s.rv.args.n s.rv.args.c))
            (first | exact ⟨by assumption,hcs.out _ (by assumption)⟩ | exact ⟨Below.refl _ _,hcs.out _ (Below.refl _ _)⟩ | exact ⟨(Below.refl _ _).drew,hcs.out _ (Below.refl _ _).drew⟩)
            (first | (go_at_call 37;go_split_ands;refine (LOperands_any s.rv.args _ (HA.out.up (by assumption))).mono ?_;rintro x9 w1 ⟨r,rfl,hr1,hr2,hb0⟩;have hb1:=Below.trans (by assumption:Below (st1 wr s).heap.size (st1 wr s) _) (hb0.mono (Below.size (by assumption:Below (st1 wr s).heap.size (st1 wr s) _)));have s2:IntKind.i64.wrap ((s.pl.n:Int)+(s.rv.pl.n:Int)+(r:Int))=(s.pl.n:Int)+(s.rv.pl.n:Int)+(r:Int):=wrapI9 _ (by omega) (by omega);have s3:IntKind.i64.wrap ((m2:Int)+((s.pl.n:Int)+(s.rv.pl.n:Int)+(r:Int)))=(m2:Int)+((s.pl.n:Int)+(s.rv.pl.n:Int)+(r:Int)):=wrapI9 _ (by omega) (by omega)))
           all_goals
            go_split_ands
            by_cases h4:3000 < m2+(s.pl.n+s.rv.pl.n+r)
            ·
             have h4i:(3000:Int) < (m2:Int)+((s.pl.n:Int)+(s.rv.pl.n:Int)+(r:Int)):=by omega
             go_wp2
             go_ret
             exact ⟨.inl rfl,HB.out.trans ((HRC.out.trans ((HS2.out.trans (Below.mono (by assumption) HS2.out.size)).mono HRC.out.size)).mono HB.out.size)⟩
            ·
             have h4i:¬(3000:Int) < (m2:Int)+((s.pl.n:Int)+(s.rv.pl.n:Int)+(r:Int)):=by omega
             go_wp2
             go_roundw
             case rel=>exact ⟨j2+1,m2+(s.pl.n+s.rv.pl.n+r),by go_num,congrArg (fun z:Int=>Value.int .i64 z) (by omega),by omega,by omega,hide (by rw [HT4.out];exact HN.out r (by omega) (fun h=>HO3.out ▸ hr2 h)),hide (HW2.out.trans (Below.mono (HS2.out.trans (Below.mono (by assumption) HS2.out.size)) HW2.out.size))⟩
             case measure=>simp [intOf];omega
          ·
           have hjn:sn=j2:=by omega
           have hge:¬(j2:Int) < (sn:Int):=by omega
           have HM5:=hide (show m2=m1+sumN szSt sL by rw [HM2.out,← hjn,sumN_all _ HSL.out])
           have v3:=bk1_cells HW2.out 3 _ rfl
           simp only [] at v3
           clear hjn HM2
           go_wp2_with fail
           refine (LOperands_any ⟨gA,gn,gc,gL⟩ _ (HP.out.term.args.up HRC.out)).mono ?_
           rintro e w3 ⟨r,rfl,hr1,hr2,hb⟩
           have HW3:=hide (HRC.out.trans (hb.mono HRC.out.size))
           have s1:IntKind.i64.wrap ((m2:Int)+(r:Int))=(m2:Int)+(r:Int):=wrapI9 _ (by omega) (by omega)
           have HFIN:=hide (show m2+r≤3000→m2+r=q0+on+S1+S2+S3+sumN szBk (bL.take (j+1)) from fun h=>by
            have h2:=hr2 (by omega)
            have h3:=HU.out
            simp only [] at h2 h3
            rw [h3,HM5.out,HM1.out,← h2]
            unfold szBk szOps
            simp only []
            omega)
           clear hb hr2 v3
           go_wp2
           go_roundw
           case rel=>exact ⟨j+1,m2+r,by go_num,congrArg (fun z:Int=>Value.int .i64 z) (by omega),by omega,by omega,HFIN,HW3⟩
           case measure=>simp [intOf];omega
        ·
         have hjn:bn=j:=by omega
         have hge:¬(j:Int) < (bn:Int):=by omega
         have HFIN:=hide (show m≤3000→szB ⟨nm,⟨rA,rn,rc,rL⟩,⟨oA,on,oc,oL⟩,⟨tA,tn,tc,tL⟩,⟨lA,ln,lc,lL⟩,ar,⟨bA,bn,bc,bL⟩⟩≤3000 from fun h=>HSZ.out 3000 (by have:=HM.out h;rw [←hjn,sumN_all _ HBL.out] at this;omega))
         clear hjn
         by_cases h4:3000 < m
         ·
          have h4i:(3000:Int) < (m:Int):=by omega
          go_wp2
          go_ret
          exact ⟨.inl rfl,HB.out.trans (HR4.out.mono HB.out.size)⟩
         ·
          have h4i:¬(3000:Int) < (m:Int):=by omega
          go_wp2
          go_ret
          exact ⟨.inr ⟨rfl,HFIN.out (by omega)⟩,HB.out.trans (HR4.out.mono HB.out.size)⟩):P:=h
theorem Large_any (x:BdW) (w:World) (hx:OneBd w w.heap.size x) (hF:FitBd x) :
 Calls Tryz.prog 16 #[aggBd x] w (LargeOut w x):=by
 have HB:=hide (bd1_below w x)
 have HX:=hide (hx.up HB.out)
 have HRL:=hide hx.regions.len
 have HTL:=hide hx.types.len
 have HLL:=hide hx.locals.len
 have HBL:=hide hx.blocks.len
 have hbn:=hx.blocks.nm
 have hs:=hide fun (w':World) (h:Below (bd1 w x).heap.size (bd1 w x) w')=>bd1_cells h
 have hr47:=hF.regions
 have ho47:=hF.outl
 have ht47:=hF.types
 have hl47:=hF.locals
 have HFB:=hide hF.blocks
 clear hF
 have hnm:=hx.name
 clear hx
 obtain ⟨nm,⟨rA,rn,rc,rL⟩,⟨oA,on,oc,oL⟩,⟨tA,tn,tc,tL⟩,⟨lA,ln,lc,lL⟩,ar,⟨bA,bn,bc,bL⟩⟩:=x
 simp only [] at hbn hr47 ho47 ht47 hl47 hnm
 unfold maxLen at hbn hnm
 obtain ⟨q0,hq0⟩:∃ q,min nm.size 9000=q:=⟨_,rfl⟩
 have hq9:q0≤9000:=by omega
 obtain ⟨S1,hS1⟩:∃ S,sumN szR rL=S:=⟨_,rfl⟩
 obtain ⟨S2,hS2⟩:∃ S,sumN szT tL=S:=⟨_,rfl⟩
 obtain ⟨S3,hS3⟩:∃ S,sumN szL lL=S:=⟨_,rfl⟩
 have HSZ:=hide (show ∀ r,q0+on+S1+S2+S3+sumN szBk bL≤r→szB ⟨nm,⟨rA,rn,rc,rL⟩,⟨oA,on,oc,oL⟩,⟨tA,tn,tc,tL⟩,⟨lA,ln,lc,lL⟩,ar,⟨bA,bn,bc,bL⟩⟩≤r from fun r h=>by unfold szB;simp only [hq0,hS1,hS2,hS3];exact h)
 have HS1:=hide hS1
 clear hS1
 have HS2:=hide hS2
 clear hS2
 have HS3:=hide hS3
 clear hS3
 by_cases h9:9000 < nm.size
 ·
  have hi1:(9000:Int) < (nm.size:Int):=by omega
  have hi2:(9000:Int)≤(nm.size:Int):=by omega
  have hq:=hide (show q0=9000 by omega)
  have t0:IntKind.i64.wrap (9000+(on:Int))=9000+(on:Int):=wrapI9 _ (by omega) (by omega)
  exact BodVz0
 ·
  have hi1:¬(9000:Int) < (nm.size:Int):=by omega
  have hi2:(nm.size:Int)≤9000:=by omega
  have hq:=hide (show q0=nm.size by omega)
  have t0:IntKind.i64.wrap ((nm.size:Int)+(on:Int))=(nm.size:Int)+(on:Int):=wrapI9 _ (by omega) (by omega)
  exact BodVz0
theorem two_alloc (w:World) (o p:Obj):Below w.heap.size w ((w.alloc o).alloc p):=((Below.refl _ _).alloc (Nat.le_refl _) _).alloc (by simp) _
theorem eqTy_no {a b:Ty} (h:a≠b):eqTy a b=false:=by simp [eqTy,h]
theorem EqT_any (x y:TyW) (w:World) (hx:OneT w w.heap.size x) (hy:OneT w w.heap.size y) :
  Calls Tryz.prog 106 #[aggT x,aggT y] w fun e w'=>e=.returned (.bool (eqTy x.t y.t))∧Below w.heap.size w w':=by
 obtain ⟨⟨k,m,r,el,fs⟩,A,n,c⟩:=x
 obtain ⟨⟨k',m',r',el',fs'⟩,A',n',c'⟩:=y
 have HB:=hide (two_alloc w (.cells #[.int .i64 k,.bool m,.int .i64 r,.int .i64 el,.slice A n c] 62) (.cells #[.int .i64 k',.bool m',.int .i64 r',.int .i64 el',.slice A' n' c'] 62))
 have HX:=hide (hx.rd.below HB.out)
 have HY:=hide (hy.rd.below HB.out)
 have h1n:n≤maxLen:=Nat.le_trans hx.ok.nc hx.ok.cm
 have h2n:n'≤maxLen:=Nat.le_trans hy.ok.nc hy.ok.cm
 clear hx hy
 by_cases h1:k=k'
 ·
  have e1:(k == k')=true:=beq_iff_eq.2 h1
  by_cases h2:m=m'
  ·
   have e2:(m == m')=true:=beq_iff_eq.2 h2
   by_cases h3:r=r'
   ·
    have e3:(r == r')=true:=beq_iff_eq.2 h3
    by_cases h4:el=el'
    ·
     have e4:(el == el')=true:=beq_iff_eq.2 h4
     have HF:Hid (eqTy ⟨k,m,r,el,fs⟩ ⟨k',m',r',el',fs'⟩=eqIs fs fs'):=by
      show _=_
      rw [Bool.eq_iff_iff,eqTy_iff,eqIs_iff,h1,h2,h3,h4]
      simp
     have HC:=hide (EqI_any A A' n n' c c' fs fs' _ _ _ HX.out HY.out h1n h2n)
     clear h1 h2 h3 h4 h1n h2n
     go_enter Tryz.func106,Tryz.ntmps106
     go_wp2_with fail
     refine HC.out.mono ?_
     rintro e w1 ⟨rfl,hb⟩
     have HB2:=hide (HB.out.trans (hb.mono HB.out.size))
     clear hb
     go_wp2_with fail
     go_ret
     exact ⟨congrArg (fun v=>Ending.returned (.bool v)) HF.out.symm,HB2.out⟩
    ·
     have e4:(el == el')=false:=beq_eq_false_iff_ne.2 h4
     have HF:=hide (eqTy_no (a:=⟨k,m,r,el,fs⟩) (b:=⟨k',m',r',el',fs'⟩) fun e=>h4 (congrArg Ty.elem e))
     clear h1 h2 h3 h4 h1n h2n
     go_enter Tryz.func106,Tryz.ntmps106
     go_wp2
     go_ret
     exact ⟨congrArg (fun v=>Ending.returned (.bool v)) HF.out.symm,HB.out⟩
   ·
    have e3:(r == r')=false:=beq_eq_false_iff_ne.2 h3
    have HF:=hide (eqTy_no (a:=⟨k,m,r,el,fs⟩) (b:=⟨k',m',r',el',fs'⟩) fun e=>h3 (congrArg Ty.region e))
    clear h1 h2 h3 h1n h2n
    go_enter Tryz.func106,Tryz.ntmps106
    go_wp2
    go_ret
    exact ⟨congrArg (fun v=>Ending.returned (.bool v)) HF.out.symm,HB.out⟩
  ·
   have e2:(m == m')=false:=beq_eq_false_iff_ne.2 h2
   have HF:=hide (eqTy_no (a:=⟨k,m,r,el,fs⟩) (b:=⟨k',m',r',el',fs'⟩) fun e=>h2 (congrArg Ty.mut_ e))
   clear h1 h2 h1n h2n
   go_enter Tryz.func106,Tryz.ntmps106
   go_wp2
   go_ret
   exact ⟨congrArg (fun v=>Ending.returned (.bool v)) HF.out.symm,HB.out⟩
 ·
  have e1:(k == k')=false:=beq_eq_false_iff_ne.2 h1
  have HF:=hide (eqTy_no (a:=⟨k,m,r,el,fs⟩) (b:=⟨k',m',r',el',fs'⟩) fun e=>h1 (congrArg Ty.kind e))
  clear h1 h1n h2n
  go_enter Tryz.func106,Tryz.ntmps106
  go_wp2
  go_ret
  exact ⟨congrArg (fun v=>Ending.returned (.bool v)) HF.out.symm,HB.out⟩
def FirstT (l:List Ty) (t:Ty) (k:Nat):Prop:=l[k]?=some t∧∀ i,i < k→l[i]?≠some t
theorem firstT_ex:∀ {l:List Ty} {t:Ty},t∈l→∃ k,FirstT l t k
  | [],_,h=>by cases h
  | x :: l,t,h=>by
    by_cases hx:x=t
    · exact ⟨0,by simp [hx],fun i hi=>absurd hi (by omega)⟩
    · have hm:t∈l:=by
        rcases List.mem_cons.1 h with e | h
        · exact absurd e.symm hx
        · exact h
      obtain ⟨k,h1,h2⟩:=firstT_ex hm
      refine ⟨k+1,by simpa using h1,fun i hi=>?_⟩
      cases i with
      | zero=>simp [hx]
      | succ i=>simpa using h2 i (by omega)
theorem EqT_is {x y:TyW} {b:Bool} (h:eqTy x.t y.t=b) (w:World) (hx:OneT w w.heap.size x) (hy:OneT w w.heap.size y) :
  Calls Tryz.prog 106 #[aggT x,aggT y] w fun e w'=>e=.returned (.bool b)∧Below w.heap.size w w':=h ▸ EqT_any x y w hx hy
theorem box_at {w wr:World} {cs:Array Value} {t:TypeId} (h:Below (w.heap.size+1) (w.alloc (.cells cs t)) wr) {j:Nat} {u:Value} (hj:cs[j]?=some u):wr.cell? ⟨w.heap.size,j,none⟩=some u:=by
 rw [h.cell (p:=⟨w.heap.size,j,none⟩) (Nat.lt_succ_self _),cell_of_row (w.alloc (.cells cs t)) w.heap.size j cs t (0,0) (heap_alloc_new w _),hj]
theorem box_below {w wr:World} {o:Obj} (h:Below (w.heap.size+1) (w.alloc o) wr):Below w.heap.size w wr:=((Below.refl _ _).alloc (Nat.le_refl _) o).trans (h.mono (Nat.le_succ _))
section
variable {P:Program} (w:World)
theorem run_append_nil (base:Nat) (t ty e:TypeId) (i:TypeInfo) (size:Nat) (ht:P.underlying t=some (.slice e)) (hi:P.info? e=some i)
  (v:Value) (n:Nat) (xs:List Value) (hown:w.ownsRow base e size v n xs) (c:Nat):(Builtin.append_ #[t,t] ty #[v,.slice none 0 c]).run P w=.ok v w:=by
 rcases hown.2 with ⟨rfl,rfl⟩ | ⟨g,cap,cur,rfl,_,_,hnc,_⟩
 ·
  simp [Builtin.append_,run_underlying ht,sizeOf,typeInfo,hi,Builtin.lenOf,Builtin.firstCells]
 ·
  simp [Builtin.append_,run_underlying ht,sizeOf,typeInfo,hi,Builtin.lenOf,Builtin.firstCells,hnc,storeCells]
theorem run_append_rd (base:Nat) (t ty e:TypeId) (i:TypeInfo) (z:Value) (bytes:Nat) (ht:P.underlying t=some (.slice e)) (hi:P.info? e=some i) (hz:i.zero=some z)
    (hsize:i.size=1) (hby:i.bytes=bytes) (hzs:z.cells.size=1)
    (v:Value) (n:Nat) (xs:List Value) (hown:w.ownsRow base e 1 v n xs)
    (B:Nat) (A:Option Addr) (m c:Nat) (news:List Value) (hr:Rd w B A m news) (h1:∀ u∈news,u.oneCell'=true)
    (h63:n+m≤maxLen) (hbytes:(n+m)*bytes≤140737488355328) (hbase:base≤w.heap.size) :
    ∃ v' w',(Builtin.append_ #[t,t] ty #[v,.slice A m c]).run P w=.ok v' w'∧w'.ownsRow base e 1 v' (n+m) (xs++news)∧w.grownBy w' v.ownBlock ∧
      (v'.ownBlock=v.ownBlock∨v'.ownBlock=some w.heap.size):=by
  rcases A with _ | ad
  · have hm:m=0:=by
      rcases Nat.eq_zero_or_pos m with h0 | h0
      · exact h0
      · obtain ⟨b,o,h,_⟩:=hr.2 h0
        cases h
    subst hm
    have hn:news=[]:=List.eq_nil_of_length_eq_zero hr.1
    subst hn
    exact ⟨v,w,run_append_nil w base t ty e i 1 ht hi v n xs hown c,by simpa using hown,World.grownBy.refl w _,.inl rfl⟩
  · have hcells:∀ j u,news[j]?=some u→w.cell? (ad.add j)=some u:=by
      intro j u hu
      have hj:j < news.length:=by
        rcases Nat.lt_or_ge j news.length with h' | h'
        · exact h'
        · rw [List.getElem?_eq_none h'] at hu;cases hu
      obtain ⟨b,o,h,_,hc⟩:=hr.2 (by have:=hr.1;omega)
      injection h with h
      subst h
      have hadd:(⟨b,o,none⟩:Addr).add j=⟨b,o+j,none⟩:=by unfold Addr.add;split <;> simp_all
      rw [hadd]
      exact hc j u hu
    obtain ⟨v',w',hrun,h2,h3,_,h5⟩:=run_append_own_at (P:=P) w base t ty e i z 1 bytes ht hi hz hsize hby hzs (by decide) v n xs hown ad m c news (by have:=hr.1;omega) hcells h1 h63 hbytes hbase
    exact ⟨v',w',hrun,h2,h3,h5⟩
theorem wp_append_rd {o:Oper} {a:Act} {K:Act→World→Prop} {Q:Exit→Act→World→Prop} (s x:Operand) (t:TypeId)
  (ho:o.op=.call { callee:=.builtin .append,args:=#[s,x],argTypes:=#[t,t] })
  (base:Nat) (e:TypeId) (i:TypeInfo) (z:Value) (bytes:Nat) (ht:P.underlying t=some (.slice e)) (hi:P.info? e=some i) (hz:i.zero=some z)
  (hsize:i.size=1) (hby:i.bytes=bytes) (hzs:z.cells.size=1)
  (v:Value) (n:Nat) (xs:List Value) (hs:a.eval s=v) (hown:w.ownsRow base e 1 v n xs)
  (B:Nat) (A:Option Addr) (m c:Nat) (news:List Value) (hx:a.eval x=.slice A m c) (hr:Rd w B A m news) (h1:∀ u∈news,u.oneCell'=true)
  (h63:n+m≤maxLen) (hbytes:(n+m)*bytes≤140737488355328) (hbase:base≤w.heap.size)
  (h:∀ v' w',w'.ownsRow base e 1 v' (n+m) (xs++news)→w.grownBy w' v.ownBlock→(v'.ownBlock=v.ownBlock∨v'.ownBlock=some w.heap.size)→K (a.put o.dst v') w'):o.wp P a w K Q:=by
 obtain ⟨v',w',hrun,h2,h3,h4⟩:=run_append_rd (P:=P) w base t o.type e i z bytes ht hi hz hsize hby hzs v n xs hown B A m c news hr h1 h63 hbytes hbase
 unfold Oper.wp execOp
 simp only [ho,resolve,invoke,builtin,Sem.run_bind,Sem.run_pure,Result.andThen_ok,List.map_toArray,List.map_cons,List.map_nil,hs,hx,hrun]
 exact h v' w' h2 h3 h4
theorem wpList_append_rd {ops:Array Oper} {rest:List Oper} {o:Oper} {a:Act} {Q:Exit→Act→World→Prop} (hgd:o.guard=none) (s x:Operand) (t:TypeId)
  (ho:o.op=.call { callee:=.builtin .append,args:=#[s,x],argTypes:=#[t,t] })
  (base:Nat) (e:TypeId) (i:TypeInfo) (z:Value) (bytes:Nat) (ht:P.underlying t=some (.slice e)) (hi:P.info? e=some i) (hz:i.zero=some z)
  (hsize:i.size=1) (hby:i.bytes=bytes) (hzs:z.cells.size=1)
  (v:Value) (n:Nat) (xs:List Value) (hs:a.eval s=v) (hown:w.ownsRow base e 1 v n xs)
  (B:Nat) (A:Option Addr) (m c:Nat) (news:List Value) (hx:a.eval x=.slice A m c) (hr:Rd w B A m news) (h1:∀ u∈news,u.oneCell'=true)
  (h63:n+m≤maxLen) (hbytes:(n+m)*bytes≤140737488355328) (hbase:base≤w.heap.size)
  (h:∀ v' w',w'.ownsRow base e 1 v' (n+m) (xs++news)→w.grownBy w' v.ownBlock→(v'.ownBlock=v.ownBlock∨v'.ownBlock=some w.heap.size)→wpList P ops Q rest (a.put o.dst v') w'):wpList P ops Q (o :: rest) a w:=
 wpList_plain hgd fun _ hK=>wp_append_rd w s x t ho base e i z bytes ht hi hz hsize hby hzs v n xs hs hown B A m c news hx hr h1 h63 hbytes hbase fun v' w' h2 h3 h4=>hK _ _ (h v' w' h2 h3 h4)
end
theorem below_app {w w0 w1:World} {base:Nat} {e:TypeId} {size n:Nat} {v:Value} {xs:List Value} (hb:Below base w0 w) (hown:w.ownsRow base e size v n xs) (hle:base≤w.heap.size) (hg:w.grownBy w1 v.ownBlock):Below base w0 w1:=
 hb.grown hg hle (fun k hk=>(hown.lt k hk).1)
def Part (w:World) (B:Nat) (v:Value) (xs:List Int):Prop:=∃ A c,v=.slice A xs.length c∧Rd w B A xs.length (u8s xs)
theorem Part.below {w w':World} {B:Nat} {v:Value} {xs:List Int} (h:Part w B v xs) (hb:Below B w w'):Part w' B v xs:=by
 obtain ⟨A,c,e,hr⟩:=h
 exact ⟨A,c,e,hr.below hb⟩
def Parts (w:World) (B:Nat):List Value→List (List Int)→Prop
 | [],[]=>True
 | v :: vs,xs :: xss=>Part w B v xs∧Parts w B vs xss
 | _,_=>False
theorem Parts.below {w w':World} {B:Nat} (hb:Below B w w'):∀ {vs:List Value} {xss:List (List Int)},Parts w B vs xss→Parts w' B vs xss
 | [],[],h=>h
 | _ :: _,_ :: _,h=>⟨h.1.below hb,Parts.below hb h.2⟩
theorem Parts.len {w:World} {B:Nat}:∀ {vs:List Value} {xss:List (List Int)},Parts w B vs xss→vs.length=xss.length
 | [],[],_=>rfl
 | _ :: _,_ :: _,h=>by simp [h.2.len]
theorem Parts.at_ {w:World} {B:Nat}:∀ {vs:List Value} {xss:List (List Int)},Parts w B vs xss→∀ k,k < vs.length→∃ v xs,vs[k]?=some v∧xss[k]?=some xs∧Part w B v xs
 | _ :: _,_ :: _,h,0,_=>⟨_,_,rfl,rfl,h.1⟩
 | _ :: _,_ :: _,h,k+1,hk=>by simpa using h.2.at_ k (by simpa using hk)
end Go.Proofs.YtfgacmgjpikgaaaGreatDoor
