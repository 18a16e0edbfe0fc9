import Derived.Test.YtnkjbjkoffgocaaGreatDoorQ33
set_option linter.unusedVariables false
set_option linter.unusedSimpArgs false
set_option maxRecDepth 100000
set_option maxHeartbeats 8000000
namespace Go.Proofs.YtnkjbjkoffgocaaGreatDoor
open Tryz Go.RowKit Go.Shelf
section
attribute [local go_sem] Oper.semAt_some
def sQ (x:FcW) (N R:Int) (k:Nat):Pr:=if k=0 then (N,N) else if k=3 then (R,N) else ((x.loans.n:Int),N)
def chE (x:FcW) (N R:Int) (k:Nat):Int:=if 4<=k then 0 else orE (pR (sQ x N R k).1 (sQ x N R k).2 (x.at_ (k+1)).L) (chE x N R (k+1))
termination_by 4 - k
theorem rR {x:FcW} {N R:Int} {k:Nat} (h:k < 4):chE x N R k=orE (pR (sQ x N R k).1 (sQ x N R k).2 (x.at_ (k+1)).L) (chE x N R (k+1)):=by
 rw [chE,if_neg bB]
theorem LV {x:FcW} {N R:Int}:chE x N R 4=0:=by rw [chE,if_pos bB]
theorem uBp (a:Int):orE a 0=a:=by unfold orE;split <;> simp [*]
theorem uGg {x:FcW} {N R:Int} (h:¬JQ x):fcE x N R=orE (lT N R x.loans.L) (chE x N R 0):=by
 rw [rR eW,rR eW,rR eW,rR eW,LV,uBp];exact if_neg h
theorem uBs {x:FcW} {N R:Int} (h:JQ x):fcE x N R=15:=if_pos h
theorem RG {x:FcW} {N R v:Int} (h:fcE x N R=v) (w:World) (hx:vO w w.heap.size x) (hN:uH N) (hR:uH R) :
 Calls prog 16 #[wG x,.int .i64 N,.int .i64 R] w fun e l=>e=.returned (.int .i64 v)/\Ab w l:=by
 refine (callsIn_wide (n:=12)).1 ?_;have HX:=uA hx;obtain ⟨vl,aa⟩:∃ b,decide (JQ x)=b:=⟨_,rfl⟩;obtain ⟨ln,F⟩:∃ e,lT N R x.loans.L=e:=⟨_,rfl⟩;have G:=uA (uHh aa);have b4:=uA fun (l:World) (y:Ab w l)=>F ▸ JU (c:=x.loans.c) N R l (hx.up y).loans
 have aj:=uA fun (hb:vl=true)=>(show (15:Int)=v from (uBs (of_decide_eq_true (aa.trans hb))).symm.trans h)
 have b5:=uA fun (hb:vl=false)=>(show orE ln (chE x N R 0)=v from (F ▸ (uGg (of_decide_eq_false (aa.trans hb))).symm).trans h)
 clear hx h aa F hN hR;obtain ⟨⟨A,m,c,L⟩,⟨T,U,V,eL⟩,⟨Z,kn,kc,kL⟩,⟨jA,jn,jc,jL⟩,⟨vA,vn,vc,vL⟩⟩:=x;have b1:=uB w (.cells #[.slice A m c,.slice T U V,.slice Z kn kc,.slice jA jn jc,.slice vA vn vc] 33);have hF:=Bx.new w [.slice A m c,.slice T U V,.slice Z kn kc,.slice jA jn jc,.slice vA vn vc] 33;have HB:=uA b1;have HF:=uA hF;have x0:=hF.q 0 rfl;have x1:=hF.q 1 rfl;have x2:=hF.q 2 rfl;have x3:=hF.q 3 rfl;have x4:=hF.q 4 rfl;clear b1 hF;refine callsIn_of_wp_marks func16 rfl trivial ?_ rfl;simp only [ntmps16,Bc,As,Br,Nat.reduceAdd,Nat.reduceSub,Ay,Az,Be,Ba,Bj,Bg];gi_wp2;refine wpIn_wide.2 (wp_scope_straight ((wpIn_wide (n:=12)).1 ?_));cases vl
 case' true=>
  gi_wp2_with (refine ⟨trivial,?_⟩;gi_at_call 45;refine (callsIn_wide.2 (G.o _)).mono ?_;rintro e w2 ⟨rfl,a0⟩)
  rw [Do];exact ⟨_,results_tmp rfl _ _ _,by rw [<-aj.o trivial];rfl,(Aa HB.o a0)⟩
 gi_wp2_with (refine ⟨trivial,?_⟩;gi_at_call 45;refine (callsIn_wide.2 (G.o _)).mono ?_;rintro e w2 ⟨rfl,a0⟩;have ao:=uA (Aa HB.o a0);have b6:=uA (HF.o.below a0);have x0:=b6.o.q 0 rfl;clear a0)
 refine ⟨trivial,(callsIn_wide.2 (b4.o _ ao.o)).mono ?_⟩;rintro e f ⟨rfl,ap⟩;have ab:=uA (Aa ao.o ap);have aq:=uA (b6.o.below ap);have ar:=uA (b5.o trivial);clear ap x0 x1 x2 x3 x4 aj b5 b4 G;by_cases he:ln=0
 case' neg=>
  have te:(ln != 0)=true:=by rw [bne_iff_ne];exact he
  have HV:Hdd (ln=v):=(jS rfl he).symm.trans ar.o;clear he;gi_wp2;rw [Do];exact ⟨_,results_tmp rfl _ _ _,by rw [<-HV.o];rfl,ab.o.trans ((uB f _).mono ab.o.size)⟩
 subst he;have bk:=uA ((BW rfl).symm.trans ar.o);have H:=uB f (.cells #[.int .i64 0] 34);have a1:=uB (f.alloc (.cells #[.int .i64 0] 34)) (.cells #[.int .i64 N,.int .i64 N,.int .i64 (m:Int),.int .i64 N,.int .i64 (m:Int),.int .i64 N,.int .i64 R,.int .i64 N] 97);have a2:=uB ((f.alloc (.cells #[.int .i64 0] 34)).alloc (.cells #[.int .i64 N,.int .i64 N,.int .i64 (m:Int),.int .i64 N,.int .i64 (m:Int),.int .i64 N,.int .i64 R,.int .i64 N] 97)) (.cells #[.pointer (some ⟨w.heap.size,0,none⟩)] 101);have x0:=(aq.o.below H).q 0 rfl;have hF:=((aq.o.below H).below a1).below a2;have hE:=((Bx.new f [.int .i64 0] 34).below a1).below a2;have hC:=(Bx.new (f.alloc (.cells #[.int .i64 0] 34)) [.int .i64 N,.int .i64 N,.int .i64 (m:Int),.int .i64 N,.int .i64 (m:Int),.int .i64 N,.int .i64 R,.int .i64 N] 97).below a2;have hO:=Bx.new ((f.alloc (.cells #[.int .i64 0] 34)).alloc (.cells #[.int .i64 N,.int .i64 N,.int .i64 (m:Int),.int .i64 N,.int .i64 (m:Int),.int .i64 N,.int .i64 R,.int .i64 N] 97)) [.pointer (some ⟨w.heap.size,0,none⟩)] 101;simp only [Ak] at hC hO;have a3:=uA (ab.o.trans ((H.trans ((Aa a1 a2).mono H.size)).mono ab.o.size));have hZ:f.heap.size+3<=(((f.alloc (.cells #[.int .i64 0] 34)).alloc (.cells #[.int .i64 N,.int .i64 N,.int .i64 (m:Int),.int .i64 N,.int .i64 (m:Int),.int .i64 N,.int .i64 R,.int .i64 N] 97)).alloc (.cells #[.pointer (some ⟨w.heap.size,0,none⟩)] 101)).heap.size:=by simp
 have b7:w.heap.size < f.heap.size:=(Ag.1 aq.o).1;have bl:=uA hF;have bm:=uA hE;have bn:=uA hC;have bo:=uA hO;have bp:=uA hZ;clear H a1 a2 ar hF hE hC hO hZ;gi_wp2;apply wpIn_label;gi_wp2_with (refine ⟨trivial,?_⟩;gi_at_call 47;refine (mQ _ _ _).mono ?_;rintro e w2 ⟨rfl,rfl⟩)
 generalize ((f.alloc (.cells #[.int .i64 0] 34)).alloc (.cells #[.int .i64 N,.int .i64 N,.int .i64 (m:Int),.int .i64 N,.int .i64 (m:Int),.int .i64 N,.int .i64 R,.int .i64 N] 97)).alloc (.cells #[.pointer (some ⟨w.heap.size,0,none⟩)] 101)=W4 at *;clear x0;refine wB eW (gf:=91) (lb:=#[.pointer (some ⟨f.heap.size+1+1,0,none⟩)]) rfl (enters_of func91 fL rfl)
  (zK (n₀:=0) (Ts:=[101]) (An.2 rfl) _ eW (f.heap.size+1+1) w.heap.size W4 bo.o) (Below.refl _ _) (fun _=>rfl)
  (fun r W=>(f.heap.size+3<=W.heap.size/\Bx W w.heap.size [.slice A m c,.slice T U V,.slice Z kn kc,.slice jA jn jc,.slice vA vn vc] 33/\Bx W (f.heap.size+1) [.int .i64 N,.int .i64 N,.int .i64 (m:Int),.int .i64 N,.int .i64 (m:Int),.int .i64 N,.int .i64 R,.int .i64 N] 97/\Bx W f.heap.size [.int .i64 0] 34/\chE ⟨⟨A,m,c,L⟩,⟨T,U,V,eL⟩,⟨Z,kn,kc,kL⟩,⟨jA,jn,jc,jL⟩,⟨vA,vn,vc,vL⟩⟩ N R r.length=v)/\Ab w W)
  (fun cd r W=>(cd=.exit 0/\Bx W f.heap.size [.int .i64 v] 34)/\Ab w W)
  (Dg (Ed (fun s X Y b8 hs hg hr=>⟨Ai hs.1 hg.size,hs.2.1.owns hg hr,hs.2.2.1.owns hg hr,hs.2.2.2.1.owns hg hr,hs.2.2.2.2⟩) _) (ownFrom_below (Ae _) a3.o.size))
  (fun _=>Dg (Ed (fun s X Y b8 hs hg hr=>⟨hs.1,hs.2.owns hg hr⟩) _) (ownFrom_below (Ae _) a3.o.size))
  ⟨⟨bp.o,bl.o,bn.o,bm.o,bk.o⟩,a3.o⟩
  (fun x a' W=>a'={ tmps:=#[wG ⟨⟨A,m,c,L⟩,⟨T,U,V,eL⟩,⟨Z,kn,kc,kL⟩,⟨jA,jn,jc,jL⟩,⟨vA,vn,vc,vL⟩⟩,.int .i64 N,.int .i64 R,.pointer (some ⟨w.heap.size,0,none⟩),undef,undef,.int .i64 0,.pointer (some ⟨f.heap.size,0,none⟩),.int .i64 (m:Int),.pointer (some ⟨f.heap.size+1,0,none⟩),.int .i64 x.1,.pointer (some ⟨w.heap.size,x.2,none⟩),undef,undef,undef,.agg #[.slice A m c,.slice T U V,.slice Z kn kc,.slice jA jn jc,.slice vA vn vc],.bool false,.pointer (some ⟨w.heap.size,0,none⟩),.slice A m c,.int .i64 N,.int .i64 R,.int .i64 0,.int .i64 0,.bool false,undef,.pointer (some ⟨w.heap.size,0,none⟩),.slice A m c,.int .i64 (m:Int),.int .i64 N,.int .i64 N,.agg #[.int .i64 N,.int .i64 N],.int .i64 (m:Int),.int .i64 N,.agg #[.int .i64 (m:Int),.int .i64 N],.int .i64 (m:Int),.int .i64 N,.agg #[.int .i64 (m:Int),.int .i64 N],.int .i64 R,.int .i64 N,.agg #[.int .i64 R,.int .i64 N],.agg #[.int .i64 N,.int .i64 N,.int .i64 (m:Int),.int .i64 N,.int .i64 (m:Int),.int .i64 N,.int .i64 R,.int .i64 N],.func (.func 91) #[] #[.pointer (some ⟨f.heap.size+1+1,0,none⟩)],.int .i64 x.1,.pointer (some ⟨w.heap.size,x.2,none⟩),undef,undef,undef,undef,undef,undef,undef,undef,undef,undef,undef,undef,undef,undef,undef,undef,undef,undef,undef,undef],defers:=[] })
  (fun x a' _ X Y b8 hs hg hr=>hs)
  ?assign ?body ?done ?stop
 case assign=>
  rintro l' r ⟨x1,x2⟩ g K hI ac M;have HK:=uA M;have HI:=uA hI;clear M hI ac;dsimp only;gi_wp2;exact HK.o _ _ ((KeepsOthers.refl _).from _) (uT.refl _ _ _) HI.o rfl
 case body=>
  rintro l' r ⟨x1,x2⟩ a' g ⟨⟨h1,h2,h3,h4,h5⟩,hB⟩ rfl ac;obtain ⟨hx,b9⟩:=pX ac;rw [Eh] at hx;obtain ⟨rfl,rfl⟩:=hx;have ak:(r++[((r.length:Int),r.length+1)]).length=r.length+1:=by simp
  have al:=uA ak;obtain ⟨k,hk⟩:∃ k,r.length=k:=⟨_,rfl⟩;simp only [hk] at h5 b9 al ⊢;clear ak ac;have z1:=FcW.cell_at (x:=⟨⟨A,m,c,L⟩,⟨T,U,V,eL⟩,⟨Z,kn,kc,kL⟩,⟨jA,jn,jc,jL⟩,⟨vA,vn,vc,vL⟩⟩) h2 (k:=k+1) bB;have a4:=FcW.at_ok HX.o (k+1);have a5:=rR (x:=⟨⟨A,m,c,L⟩,⟨T,U,V,eL⟩,⟨Z,kn,kc,kL⟩,⟨jA,jn,jc,jL⟩,⟨vA,vn,vc,vL⟩⟩) (N:=N) (R:=R) b9;rw [h5] at a5;have ad:g.cell? ⟨f.heap.size+1,k*2,none⟩=some (.int .i64 (sQ ⟨⟨A,m,c,L⟩,⟨T,U,V,eL⟩,⟨Z,kn,kc,kL⟩,⟨jA,jn,jc,jL⟩,⟨vA,vn,vc,vL⟩⟩ N R k).1)/\g.cell? ⟨f.heap.size+1,k*2+1,none⟩=some (.int .i64 (sQ ⟨⟨A,m,c,L⟩,⟨T,U,V,eL⟩,⟨Z,kn,kc,kL⟩,⟨jA,jn,jc,jL⟩,⟨vA,vn,vc,vL⟩⟩ N R k).2):=by
   obtain rfl | rfl | rfl | rfl:k=0\/k=1\/k=2\/k=3:=by omega
   all_goals exact ⟨h3.cell rfl,h3.cell rfl⟩
  obtain ⟨⟨ca,cb⟩,au⟩:∃ z,sQ ⟨⟨A,m,c,L⟩,⟨T,U,V,eL⟩,⟨Z,kn,kc,kL⟩,⟨jA,jn,jc,jL⟩,⟨vA,vn,vc,vL⟩⟩ N R k=z:=⟨_,rfl⟩;obtain ⟨⟨lA,ln,lc,lL⟩,av⟩:∃ z,FcW.at_ ⟨⟨A,m,c,L⟩,⟨T,U,V,eL⟩,⟨Z,kn,kc,kL⟩,⟨jA,jn,jc,jL⟩,⟨vA,vn,vc,vL⟩⟩ (k+1)=z:=⟨_,rfl⟩;obtain ⟨a6,I⟩:∃ z,chE ⟨⟨A,m,c,L⟩,⟨T,U,V,eL⟩,⟨Z,kn,kc,kL⟩,⟨jA,jn,jc,jL⟩,⟨vA,vn,vc,vL⟩⟩ N R (k+1)=z:=⟨_,rfl⟩;rw [au,av,I] at a5;rw [au] at ad;rw [av] at z1 a4;have F:=a4.len;have ba:=a4.nm;unfold maxLen at ba;simp only [] at a5 ad z1 F ba;have bb:=uA a4;have aw:=uA I;have bq:=uA F;have bc:=uA ad;have a7:=uA h1;have bd:=uA h2;have ax:=uA h3;have ae:=uA h4;have af:=uA hB;have br:Hdd (orE (oR (prE ca cb) (yN lL 0) (lL.drop 0)) a6=v):=a5.symm;clear h1 h2 h3 h4 h5 hB a4 a5 ad au av I F hk;have z1:=((uB g (.cells #[.int .i64 (-1),.int .i64 (-1)] 54)).cell (p:=⟨w.heap.size,k+1,none⟩) (Ag.1 bd.o).1).trans z1;gi_wp2;clear z1;gi_loopw [49] (fun i wr=>∃ j:Nat,i=.int .i64 (j:Int)/\j<=ln/\Hdd (orE (oR (prE ca cb) (yN lL j) (lL.drop j)) a6=v)/\Hdd (Turn (fun q=>q=f.heap.size) g wr)/\Hdd (Bx wr f.heap.size [.int .i64 0] 34)/\Hdd (g.heap.size < wr.heap.size/\Bx wr g.heap.size [.int .i64 ((yN lL j).getD (-1,-1)).1,.int .i64 ((yN lL j).getD (-1,-1)).2] 54)) (fun i _=>ln - (intOf i).toNat)
  case atStart=>exact ⟨0,rfl,Am _,br,uA ((Turn.refl _ _).alloc _),uA (ae.o.below (uB _ _)),uA ⟨nF,Bx.new g [.int .i64 (-1),.int .i64 (-1)] 54⟩⟩
  case round=>
   obtain ⟨j,rfl,hj,HT,u,be,ay⟩:=hrel;have az:Hdd (Ab w wr):=af.o.trans (u.o.below af.o.size (fun q hq=>by rw [hq];exact Co b7));by_cases bs:j < ln
   ·have bz:(j:Int) < (ln:Int):=bB;obtain ⟨⟨B,C⟩,hp⟩:=bb.o.get bs;obtain ⟨b,o,hA,hb,_,hc⟩:=bb.o.at_ hp;have hA:lA=some ⟨b,o,none⟩:=hA;subst hA;have z1:=(az.o.cell (p:=⟨b,o+j*2+0,none⟩) hb).trans (hc 0 _ rfl);have z2:=(az.o.cell (p:=⟨b,o+j*2+1,none⟩) hb).trans (hc 1 _ rfl);simp only [Dl] at z1 z2;have HP:=uA hp;obtain ⟨⟨q1,q2⟩,hq⟩:∃ z,(yN lL j).getD (-1,-1)=z:=⟨_,rfl⟩;rw [hq] at ay;obtain ⟨O,b0⟩:∃ z,ckP (B,C) (q1,q2) (ca,cb)=z:=⟨_,rfl⟩;have am:=uA (show prE ca cb (yN lL j) (B,C)=O by rw [<-uBy,hq];exact b0);have bt:=uA fun (l:World)=>b0 ▸ MT (B,C) (q1,q2) (ca,cb) l
    have bu:Hdd (Bx wr (f.heap.size+1) [.int .i64 N,.int .i64 N,.int .i64 (m:Int),.int .i64 N,.int .i64 (m:Int),.int .i64 N,.int .i64 R,.int .i64 N] 97):=(u.o.block (f.heap.size+1) (by have:=a7.o;omega) bB).trans ax.o;have bf:=uA fun (l:World) (h:Bx l (f.heap.size+1) [.int .i64 N,.int .i64 N,.int .i64 (m:Int),.int .i64 N,.int .i64 (m:Int),.int .i64 N,.int .i64 R,.int .i64 N] 97)=>(show l.cell? ⟨f.heap.size+1,k*2,none⟩=some (.int .i64 ca)/\l.cell? ⟨f.heap.size+1,k*2+1,none⟩=some (.int .i64 cb) from
     have e:∀ i,l.cell? ⟨f.heap.size+1,i,none⟩=g.cell? ⟨f.heap.size+1,i,none⟩:=fun i=>(uE h i).trans (uE ax.o i).symm
     ⟨(e _).trans bc.o.1,(e _).trans bc.o.2⟩)
    have ag:=uB wr (.cells #[.int .i64 B,.int .i64 C] 54);have bg:=uA ag;have bv:=uA (show Bx (wr.alloc (.cells #[.int .i64 B,.int .i64 C] 54)).drew wr.heap.size [.int .i64 B,.int .i64 C] 54/\Bx (wr.alloc (.cells #[.int .i64 B,.int .i64 C] 54)).drew g.heap.size [.int .i64 q1,.int .i64 q2] 54/\Bx (wr.alloc (.cells #[.int .i64 B,.int .i64 C] 54)).drew (f.heap.size+1) [.int .i64 N,.int .i64 N,.int .i64 (m:Int),.int .i64 N,.int .i64 (m:Int),.int .i64 N,.int .i64 R,.int .i64 N] 97 from
     ⟨Bx.new wr [.int .i64 B,.int .i64 C] 54,ay.o.2.below ag.drew,bu.o.below ag.drew⟩)
    have hcx:=uA fun (l:World) (h:Bx l wr.heap.size [.int .i64 B,.int .i64 C] 54/\Bx l g.heap.size [.int .i64 q1,.int .i64 q2] 54/\Bx l (f.heap.size+1) [.int .i64 N,.int .i64 N,.int .i64 (m:Int),.int .i64 N,.int .i64 (m:Int),.int .i64 N,.int .i64 R,.int .i64 N] 97)=>(show (l.cell? ⟨wr.heap.size,0,none⟩=some (.int .i64 B)/\l.cell? ⟨wr.heap.size,1,none⟩=some (.int .i64 C))/\(l.cell? ⟨g.heap.size,0,none⟩=some (.int .i64 q1)/\l.cell? ⟨g.heap.size,1,none⟩=some (.int .i64 q2))/\l.cell? ⟨f.heap.size+1,k*2,none⟩=some (.int .i64 ca)/\l.cell? ⟨f.heap.size+1,k*2+1,none⟩=some (.int .i64 cb) from
     ⟨⟨h.1.q 0 rfl,h.1.q 1 rfl⟩,⟨h.2.1.q 0 rfl,h.2.1.q 1 rfl⟩,bf.o _ h.2.2⟩)
    clear hp hc hb ag b0 hq;gi_wp2;refine nZ (S:=fun l=>Bx l wr.heap.size [.int .i64 B,.int .i64 C] 54/\Bx l g.heap.size [.int .i64 q1,.int .i64 q2] 54/\Bx l (f.heap.size+1) [.int .i64 N,.int .i64 N,.int .i64 (m:Int),.int .i64 N,.int .i64 (m:Int),.int .i64 N,.int .i64 R,.int .i64 N] 97) fL fL (by rintro ⟨_,_,h⟩;exact h) bv.o (fun hHeld=>?_);have c1:(k:Int) < 4:=bB;have c2:(0:Int)<=(k:Int):=Ch _;refine uJ [0,1,2,3,4] ?_;(iterate 5 refine pT hHeld rfl ?_);refine uK ?_;refine pC 5 rfl (fun KZ M=>?_);go_simp;refine (bt.o _).mono ?_;rintro e w7 ⟨rfl,J⟩;have bw:=hHeld;have ah:Bx w7 f.heap.size [.int .i64 0] 34:=(be.o.below bg.o.drew).below J;have an:=(u.o.trans (Turn.of_below bg.o.drew)).trans (Turn.of_below J);have ai:Hdd (Bx w7 wr.heap.size [.int .i64 B,.int .i64 C] 54/\Bx w7 g.heap.size [.int .i64 q1,.int .i64 q2] 54/\Bx w7 (f.heap.size+1) [.int .i64 N,.int .i64 N,.int .i64 (m:Int),.int .i64 N,.int .i64 (m:Int),.int .i64 N,.int .i64 R,.int .i64 N] 97):=⟨hHeld.1.below J,hHeld.2.1.below J,hHeld.2.2.below J⟩;have bh:f.heap.size≠wr.heap.size:=fun e=>by have h1:=u.o.size;have h2:=a7.o;omega
    have a8:f.heap.size≠g.heap.size:=by have h2:=a7.o;omega
    have E:=uA (show Bx (w7.setCell ⟨f.heap.size,0,none⟩ (.int .i64 O)) wr.heap.size [.int .i64 B,.int .i64 C] 54/\Bx (w7.setCell ⟨f.heap.size,0,none⟩ (.int .i64 O)) g.heap.size [.int .i64 q1,.int .i64 q2] 54/\Bx (w7.setCell ⟨f.heap.size,0,none⟩ (.int .i64 O)) (f.heap.size+1) [.int .i64 N,.int .i64 N,.int .i64 (m:Int),.int .i64 N,.int .i64 (m:Int),.int .i64 N,.int .i64 R,.int .i64 N] 97 from
     ⟨ai.o.1.other (a:=⟨f.heap.size,0,none⟩) bh _,ai.o.2.1.other (a:=⟨f.heap.size,0,none⟩) a8 _,ai.o.2.2.other (a:=⟨f.heap.size,0,none⟩) (show f.heap.size≠f.heap.size+1 by omega) _⟩)
    have b2:Hdd (Bx (w7.setCell ⟨f.heap.size,0,none⟩ (.int .i64 O)) f.heap.size [.int .i64 O] 34):=ah.set 0 (.int .i64 O);have a9:=uA (an.setCell (a:=⟨f.heap.size,0,none⟩) (.inl rfl) (.int .i64 O));have bi:=uA (show g.heap.size < (w7.setCell ⟨f.heap.size,0,none⟩ (.int .i64 O)).heap.size/\wr.heap.size < (w7.setCell ⟨f.heap.size,0,none⟩ (.int .i64 O)).heap.size by
     have h1:=J.size;have h2:=ay.o.1;rw [Db];have h3:(wr.alloc (.cells #[.int .i64 B,.int .i64 C] 54)).drew.heap.size=wr.heap.size+1:=Ak _ _;omega)
    refine M.out _ _ ai.o (fun hHeld=>?_);clear M KZ bw an J;try simp only [Ac]
    have z5:=ah.q 0 rfl;have z6:=ah.frozen 0;clear ah;refine pC 6 rfl (fun KZ M=>?_);go_simp;generalize w7.setCell ⟨f.heap.size,0,none⟩ (.int .i64 O)=w8 at *;refine M.out _ _ E.o (fun hHeld=>?_);clear M KZ z5 z6;refine wpAnyH_done fL ?_ _;have z5:=b2.o.q 0 rfl;by_cases h0:O=0
    ·subst h0;have z6:=E.o.1.q 0 rfl;have z7:=E.o.1.q 1 rfl;have z8:=E.o.2.1.q 0 rfl;have z9:=E.o.2.1.q 1 rfl;have y8:=E.o.2.1.frozen 0;have y9:=E.o.2.1.frozen 1;clear z1 z2;gi_wp2;have hs:=(lD (prE ca cb) HP.o).trans (if_pos am.o);have H:(yN lL (j+1)).getD (-1,-1)=(B,C):=by rw [fW,HP.o];rfl
     refine ⟨⟨j+1,by go_num,bB,uA (by rw [<-hs];exact HT.o),uA ((a9.o.setCell (a:=⟨g.heap.size,0,none⟩) (.inr (Ae _)) _).setCell (a:=⟨g.heap.size,1,none⟩) (.inr (Ae _)) _),uA ((b2.o.other (a:=⟨g.heap.size,0,none⟩) a8.symm _).other (a:=⟨g.heap.size,1,none⟩) a8.symm _),uA ⟨by rw [Db,Db];exact bi.o.1,?_⟩⟩,by simp [intOf];omega⟩;rw [H];exact (E.o.2.1.set 0 (.int .i64 B)).set 1 (.int .i64 C)
    ·have te:(O != 0)=true:=by rw [bne_iff_ne];exact h0
     have HV:Hdd (O=v):=((jS ((lD (prE ca cb) HP.o).trans (by rw [am.o,if_neg h0])) h0).symm.trans HT.o);have bj:Hdd (Bx w8 f.heap.size [.int .i64 v] 34):=HV.o ▸ b2.o;clear h0;gi_wp2;exact ⟨a9.o.keepsFrom (fun q hq=>⟨_,_,_,hq ▸ ae.o⟩) _,⟨rfl,bj.o⟩,af.o.trans (a9.o.below af.o.size (fun q hq=>by rw [hq];exact Co b7))⟩
   ·obtain rfl:j=ln:=by omega
    have HV:Hdd (a6=v):=((BW (fQ _ (Cw bq.o) _)).symm.trans HT.o);have hE:=a7.o;gi_wp2;exact ⟨u.o.keepsFrom (fun q hq=>⟨_,_,_,hq ▸ ae.o⟩) _,u.o.keepD (fun q hq=>⟨Am _,fun cs t fr h=>by
     subst hq;rw [show g.heap[f.heap.size]?=_ from ae.o] at h;injection h with h;injection h with _ h _;rw [<-h];decide⟩),⟨Ai a7.o u.o.size,(u.o.block _ bB bB).trans bd.o,(u.o.block _ bB bB).trans ax.o,be.o,by rw [al.o,aw.o];exact HV.o⟩,az.o⟩
 case done=>
  rintro D ys g hD bx ⟨⟨h1,h2,h3,h4,h5⟩,hB⟩ M;have hv:(0:Int)=v:=by
   rw [<-h5,bx];exact LV.symm
  have z4:=h4.q 0 rfl;have b3:w.heap.size<=D:=Ai a3.o.size hD;have HV:=uA hv;clear h1 h2 h3 h4 h5 hv;gi_wp2;rw [Do];refine ⟨nF,.inl ⟨_,_,rfl,run_takeDeferred M,?_⟩⟩;exact ⟨_,results_tmp rfl _ _ _,by rw [<-HV.o];rfl,hB.trans (belowK_b (w:=w) (Ae _) g D _ _ b3 M rfl rfl)⟩
 case stop=>
  rintro D cd r g hD c0 ⟨⟨rfl,h4⟩,hB⟩ M;have z4:=h4.q 0 rfl;have b3:w.heap.size<=D:=Ai a3.o.size hD;gi_wp2;rw [Do];refine ⟨nF,.inl ⟨_,_,rfl,run_takeDeferred M,?_⟩⟩;exact ⟨_,results_tmp rfl _ _ _,rfl,hB.trans (belowK_b (w:=w) (Ae _) g D _ _ b3 M rfl rfl)⟩
end
theorem uC3 {x y:LnW}:x.v=y.v↔x.region=y.region/\x.point=y.point/\x.mut_=y.mut_/\pU x.pl y.pl=true:=
 ⟨fun h=>⟨congrArg LnV.region h,congrArg LnV.point h,congrArg LnV.mut_ h,ZX h⟩,fun ⟨a,b,c,d⟩=>YA a b c d⟩
theorem uBc {x y:LnW} {v:Bool} (h:decide (x.v=y.v)=v) (w:World) (D:zP w w.heap.size x) (E:zP w w.heap.size y) :
 Calls prog 52 #[KY x,KY y] w fun e q=>e=.returned (.bool v)/\Ab w q:=by
 have c:=@uC3 x y;obtain ⟨u,s⟩:∃ u,pU x.pl y.pl=u:=⟨_,rfl⟩;have k:=uA fun (q:World) (b:Ab w q)=>UM s q (D.pl.up b) (E.pl.up b)
 rw [s] at c;have F:v=decide (x.region=y.region/\x.point=y.point/\x.mut_=y.mut_/\u=true):=by rw [<-h];exact decide_eq_decide.2 c
 have m:=uA F;clear c h F s D E;obtain ⟨n,o,r,⟨l,G,H,I,R⟩⟩:=x;obtain ⟨d,f,i,⟨L,t,z,A,M⟩⟩:=y;have B:=uB w (.cells #[.int .i64 n,.int .i64 o,.bool r,.int .i64 l,.slice G H I] 50);have J:=uB (w.alloc (.cells #[.int .i64 n,.int .i64 o,.bool r,.int .i64 l,.slice G H I] 50)) (.cells #[.int .i64 d,.int .i64 f,.bool i,.int .i64 L,.slice t z A] 50);have j:=uA (Aa B J);have p:=uA (k.o _ j.o);clear B J k;simp only [] at m p;go_enter func52,ntmps52
 by_cases a:n=d
 case' neg=>
  have N:(n == d)=false:=by simpa using a
  have g:=uA (show false=v by rw [m.o];symm;exact decide_eq_false fun h=>a h.1);clear a;go_wp2;go_ret;exact ⟨by rw [<-g.o];rfl,j.o⟩
 have N:(n == d)=true:=by simpa using a
 have O:=uA a;clear a;by_cases a:o=f
 case' neg=>
  have P:(o == f)=false:=by simpa using a
  have g:=uA (show false=v by rw [m.o];symm;exact decide_eq_false fun h=>a h.2.1);clear a;go_wp2;go_ret;exact ⟨by rw [<-g.o];rfl,j.o⟩
 have P:(o == f)=true:=by simpa using a
 have Q:=uA a;clear a;by_cases a:r=i
 case' neg=>
  have g:=uA (show false=v by rw [m.o];symm;exact decide_eq_false fun h=>a h.2.2.1);cases r <;> cases i
  ·exact absurd rfl a
  ·clear a;go_wp2;go_ret;exact ⟨by rw [<-g.o];rfl,j.o⟩
  ·clear a;go_wp2;go_ret;exact ⟨by rw [<-g.o];rfl,j.o⟩
  ·exact absurd rfl a
 subst a;have g:=uA (show u=v by rw [m.o];cases u <;> simp [O.o,Q.o]);go_wp2_with fail
 refine p.o.mono ?_;rintro e S ⟨rfl,K⟩;have C:=uA (Aa j.o K);clear K;go_wp2;go_ret;exact ⟨by rw [<-g.o];rfl,C.o⟩
theorem UD {s t:SlW LnW} {v:Bool} (K:eqL (s.L.map LnW.v) (t.L.map LnW.v)=v) (w:World) (H:SlH w w.heap.size 5 cLn (zP w w.heap.size) s) (I:SlH w w.heap.size 5 cLn (zP w w.heap.size) t) :
 Calls prog 51 #[.slice s.A s.n s.c,.slice t.A t.n t.c,.func (.func 52) #[] #[]] w fun e J=>e=.returned (.bool v)/\Ab w J:=by
 have T:=uA H;have U:=uA I;have k:=uA H.len;have r:=uA I.len;have V:=H.nm;have W:=I.nm;obtain ⟨A,n,c,xs⟩:=s;obtain ⟨B,m,d,ys⟩:=t;simp only [] at V W K k r;unfold maxLen at V W;have L:=uA K;clear H I K;by_cases C:n=m
 ·subst C;have e1:((n:Int) != (n:Int))=false:=by simp
  go_enter func51,ntmps51
  go_wp2;go_loopw [17] (fun i wr=>∃ j:Nat,i=.int .i64 (j:Int)/\j<=n/\Hdd (jR LnW.v xs ys j)/\Hdd (Ab w wr)) (fun i _=>n - (intOf i).toNat)
  case atStart=>exact ⟨0,rfl,Am _,uA (fC _ _ _),uA (Below.refl _ _)⟩
  case round=>
   obtain ⟨j,rfl,hj,X,z⟩:=hrel;by_cases D:j < n
   ·obtain ⟨p,M⟩:=T.o.get D;obtain ⟨q,N⟩:=U.o.get D;obtain ⟨g,o,O,hg,Y,c0,c1,c2,c3,c4⟩:=eC T.o z.o M;obtain ⟨g',o',x,a0,E,d0,d1,d2,d3,d4⟩:=eC U.o (z.o.trans ((uB wr (.cells #[.int .i64 p.region,.int .i64 p.point,.bool p.mut_,.int .i64 p.pl.l,.slice p.pl.A p.pl.n p.pl.c] 50)).mono z.o.size)) N;have O:A=some ⟨g,o,none⟩:=O;have x:B=some ⟨g',o',none⟩:=x;subst O;subst x;have Z:(j:Int) < (n:Int):=bB;obtain ⟨u,P⟩:∃ u,decide (p.v=q.v)=u:=⟨_,rfl⟩;have HC:=uA fun (J:World) (b:Ab w J)=>uBc P J ((Y.below b).more b.size) ((E.below b).more b.size)
    have HU:=uA P;have HP:=uA M;have HQ:=uA N;have Q:=uB wr (.cells #[.int .i64 p.region,.int .i64 p.point,.bool p.mut_,.int .i64 p.pl.l,.slice p.pl.A p.pl.n p.pl.c] 50);have b2:=uB (wr.alloc (.cells #[.int .i64 p.region,.int .i64 p.point,.bool p.mut_,.int .i64 p.pl.l,.slice p.pl.A p.pl.n p.pl.c] 50)) (.cells #[.int .i64 q.region,.int .i64 q.point,.bool q.mut_,.int .i64 q.pl.l,.slice q.pl.A q.pl.n q.pl.c] 50);have a:=uA (z.o.trans ((Aa Q b2).mono z.o.size));have F:=uA fun (h:u=true)=>rB X.o HP.o HQ.o (of_decide_eq_true (HU.o.trans h))
    have R:=uA fun (h:u=false)=>(show false=v from (NR HP.o HQ.o (of_decide_eq_false (HU.o.trans h))).symm.trans L.o)
    obtain ⟨rg,pt,mu,⟨l,pA,pn,pc,ps⟩⟩:=p;obtain ⟨a1,a2,a3,⟨l',a4,a5,a6,a7⟩⟩:=q;simp only [] at c0 c1 c2 c3 c4 d0 d1 d2 d3 d4;clear M N P Y E Q b2;cases u
    ·have G:=uA (R.o rfl);go_wp2_with fail
     refine (HC.o _ a.o).mono ?_;rintro e w1 ⟨rfl,f⟩;have y:=uA (Aa a.o f);clear f;go_wp2;go_ret;exact ⟨by rw [<-G.o];rfl,y.o⟩
    ·have S:=uA (F.o rfl);go_wp2_with fail
     refine (HC.o _ a.o).mono ?_;rintro e w1 ⟨rfl,f⟩;have y:=uA (Aa a.o f);clear f;go_wp2;go_roundw
     case rel=>exact ⟨j+1,by go_num,bB,S,y⟩
     case measure=>simp [intOf];omega
   ·obtain rfl:j=n:=by omega
    have G:Hdd (true=v):=(ET X.o k.o r.o).symm.trans L.o;go_wp2;go_ret;exact ⟨by rw [<-G.o];rfl,z.o⟩
 ·have e1:((n:Int) != (m:Int))=true:=by simp;omega
  have G:Hdd (false=v):=(EU k.o r.o C).symm.trans L.o;go_enter func51,ntmps51
  go_wp2;go_ret;exact ⟨by rw [<-G.o];rfl,Below.refl _ _⟩
section
attribute [local go_sem] Oper.semAt_some
def ceq (x y:FcW) (k:Nat):Bool:=if 4<=k then true else eqL (x.at_ (k+1)).L (y.at_ (k+1)).L && ceq x y (k+1)
termination_by 4 - k
theorem rX {x y:FcW} {k:Nat} (h:k < 4):ceq x y k=(eqL (x.at_ (k+1)).L (y.at_ (k+1)).L && ceq x y (k+1)):=by
 rw [ceq,if_neg bB]
theorem LP {x y:FcW}:ceq x y 4=true:=by rw [ceq,if_pos bB]
theorem uG2 (x y:FcW):oG x y=(uB8 x y && ceq x y 0):=by
 rw [rX eW,rX eW,rX eW,rX eW,LP,Bool.and_true];rfl
theorem lN {x y:FcW} {v:Bool} (h:oG x y=v) (w:World) (hx:vO w w.heap.size x) (hy:vO w w.heap.size y) :
 Calls prog 18 #[wG x,wG y] w fun e w'=>e=.returned (.bool v)/\Ab w w':=by
 refine (callsIn_wide (n:=12)).1 ?_;have HX:=uA hx;have HY:=uA hy;obtain ⟨u,hu⟩:∃ u,uB8 x y=u:=⟨_,rfl⟩;have am:=uA fun (w':World) (b:Ab w w')=>UD (s:=x.loans) (t:=y.loans) hu w' (hx.up b).loans (hy.up b).loans
 have HV:=uA (show (u && ceq x y 0)=v by rw [<-hu,<- uG2];exact h);clear hx hy h hu;obtain ⟨⟨A,m,c,L⟩,⟨eA,en,ec,eL⟩,⟨kA,kn,kc,kL⟩,⟨jA,jn,jc,jL⟩,⟨vA,vn,vc,vL⟩⟩:=x;obtain ⟨⟨A',m',c',L'⟩,⟨l,B,C,U⟩,⟨E,F,G,V⟩,⟨H,I,J,Z⟩,⟨M,N,O,a0⟩⟩:=y;have b1:=uB w (.cells #[.slice A m c,.slice eA en ec,.slice kA kn kc,.slice jA jn jc,.slice vA vn vc] 33);have b2:=uB (w.alloc (.cells #[.slice A m c,.slice eA en ec,.slice kA kn kc,.slice jA jn jc,.slice vA vn vc] 33)) (.cells #[.slice A' m' c',.slice l B C,.slice E F G,.slice H I J,.slice M N O] 33);have hF:=(Bx.new w [.slice A m c,.slice eA en ec,.slice kA kn kc,.slice jA jn jc,.slice vA vn vc] 33).below b2;have hG:=Bx.new (w.alloc (.cells #[.slice A m c,.slice eA en ec,.slice kA kn kc,.slice jA jn jc,.slice vA vn vc] 33)) [.slice A' m' c',.slice l B C,.slice E F G,.slice H I J,.slice M N O] 33;rw [Ak] at hG;have HB:=uA (Aa b1 b2);have HF:=uA hF;have HG:=uA hG;have x0:=hF.q 0 rfl;have y0:=hG.q 0 rfl;clear b1 b2 hF hG;refine callsIn_of_wp_marks func18 rfl trivial ?_ rfl;simp only [ntmps18,Bc,As,Br,Nat.reduceAdd,Nat.reduceSub,Ay,Az,Be,Ba,Bj,Bg];gi_wp2;refine wpIn_wide.2 (wp_scope_straight ((wpIn_wide (n:=12)).1 ?_));gi_wp2_with (refine ⟨trivial,?_⟩;gi_at_call 51;refine (callsIn_wide.2 (am.o _ HB.o)).mono ?_;rintro e f ⟨rfl,a3⟩)
 have b6:=uA (Aa HB.o a3);have an:w.heap.size+2<=f.heap.size:=by
  have h1:=a3.size;simp only [Ak] at h1;exact h1
 have bE:=uB f (.cells #[.bool u] 4);have bL:=uB (f.alloc (.cells #[.bool u] 4)) (.cells #[.pointer (some ⟨w.heap.size+1,0,none⟩)] 101);have a4:=uA (a3.trans ((Aa bE bL).mono a3.size));have ao:=uA ((Bx.new f [.bool u] 4).below bL);have a7:=Bx.new (f.alloc (.cells #[.bool u] 4)) [.pointer (some ⟨w.heap.size+1,0,none⟩)] 101;rw [Ak] at a7;have b7:=uA a7;have ap:=uA (AB (f.heap.size+1) (w.heap.size+1) ((f.alloc (.cells #[.bool u] 4)).alloc (.cells #[.pointer (some ⟨w.heap.size+1,0,none⟩)] 101)) a7);have ag:=uA (show ((f.alloc (.cells #[.bool u] 4)).alloc (.cells #[.pointer (some ⟨w.heap.size+1,0,none⟩)] 101)).heap.size=f.heap.size+1+1 by simp);clear a3 bE bL a7 x0 y0 am;refine ⟨trivial,(mQ _ _ _).mono ?_⟩;rintro e w4 ⟨rfl,rfl⟩;gi_wp2;refine ⟨trivial,(callsIn_wide.2 ap.o).mono ?_⟩;rintro e T ⟨rfl,a8,a9⟩;rw [ag.o] at a8;have bO:=uB T (.cells #[.map (some (f.heap.size+1+1))] 108);have bI:=uB (T.alloc (.cells #[.map (some (f.heap.size+1+1))] 108)) (.cells #[.pointer (some ⟨w.heap.size,0,none⟩)] 101);have a5:=a9.trans ((Aa bO bI).mono a9.size);have hF:=(HF.o.below a4.o).below a5;have hG:=(HG.o.below a4.o).below a5;have hE:=ao.o.below a5;have hM:=a8.below (Aa bO bI);have hO:=(Bx.new T [.map (some (f.heap.size+1+1))] 108).below bI;have hI:=Bx.new (T.alloc (.cells #[.map (some (f.heap.size+1+1))] 108)) [.pointer (some ⟨w.heap.size,0,none⟩)] 101;rw [Ak] at hI;have a6:=uA ((Aa HB.o a4.o).trans (a5.mono (Ai HB.o.size a4.o.size)));have aq:=a9.size;rw [ag.o] at aq;have ar:Hdd (T.heap.size+2<=((T.alloc (.cells #[.map (some (f.heap.size+1+1))] 108)).alloc (.cells #[.pointer (some ⟨w.heap.size,0,none⟩)] 101)).heap.size/\f.heap.size+1+1 < T.heap.size):=⟨nF,a8.lt⟩;have b8:=uA an;have b9:=uA hF;have ba:=uA hG;have bb:=uA hE;have bc:=uA hM;have bd:=uA hO;have be:=uA hI;clear bO bI a5 hF hG hE hM hO hI a8 a9 aq an a4 ap ag ao b7 b6;gi_wp2;apply wpIn_label;gi_wp2_with (refine ⟨trivial,?_⟩;gi_at_call 47;refine (mQ _ _ _).mono ?_;rintro e w5 ⟨rfl,rfl⟩)
 generalize ((T.alloc (.cells #[.map (some (f.heap.size+1+1))] 108)).alloc (.cells #[.pointer (some ⟨w.heap.size,0,none⟩)] 101))=W4 at *;refine wB eW (gf:=91) (lb:=#[.pointer (some ⟨T.heap.size+1,0,none⟩)]) rfl (enters_of func91 fL rfl)
  (zK (n₀:=0) (Ts:=[101]) (An.2 rfl) _ eW (T.heap.size+1) w.heap.size W4 be.o) (Below.refl _ _) (fun _=>rfl)
  (fun R W=>(T.heap.size+2<=W.heap.size/\Bx W w.heap.size [.slice A m c,.slice eA en ec,.slice kA kn kc,.slice jA jn jc,.slice vA vn vc] 33/\Bx W (w.heap.size+1) [.slice A' m' c',.slice l B C,.slice E F G,.slice H I J,.slice M N O] 33/\Bx W T.heap.size [.map (some (f.heap.size+1+1))] 108/\Bx W f.heap.size [.bool u] 4/\(u && ceq ⟨⟨A,m,c,L⟩,⟨eA,en,ec,eL⟩,⟨kA,kn,kc,kL⟩,⟨jA,jn,jc,jL⟩,⟨vA,vn,vc,vL⟩⟩ ⟨⟨A',m',c',L'⟩,⟨l,B,C,U⟩,⟨E,F,G,V⟩,⟨H,I,J,Z⟩,⟨M,N,O,a0⟩⟩ R.length)=v/\wV 3 W (f.heap.size+1+1) (fcS (w.heap.size+1)) (rO 4))/\Ab w W)
  (fun cd R W=>(cd=.exit 0/\Bx W f.heap.size [.bool v] 4)/\Ab w W)
  (fun s X Y au hs hg hr=>⟨⟨Ai hs.1.1 hg.size,hs.1.2.1.owns hg (fun r e=>(hr r e).2),hs.1.2.2.1.owns hg (fun r e=>(hr r e).2),hs.1.2.2.2.1.owns hg (fun r e=>(hr r e).2),hs.1.2.2.2.2.1.owns hg (fun r e=>(hr r e).2),hs.1.2.2.2.2.2.1,hs.1.2.2.2.2.2.2.blk (hg.block _ hs.1.2.2.2.2.2.2.lt (fun e=>by have:=(hr _ e.symm).1;have:=ar.o;omega))⟩,hs.2.grown hg hs.2.size (fun k e=>Ai a6.o.size (hr k e).1)⟩)
  (fun _=>Dg (Ed (fun s X Y au hs hg hr=>⟨hs.1,hs.2.owns hg hr⟩) _) (ownFrom_below (Ae _) a6.o.size))
  ⟨⟨ar.o.1,b9.o,ba.o,bd.o,bb.o,HV.o,bc.o⟩,a6.o⟩
  (fun x a' W=>a'={ tmps:=#[wG ⟨⟨A,m,c,L⟩,⟨eA,en,ec,eL⟩,⟨kA,kn,kc,kL⟩,⟨jA,jn,jc,jL⟩,⟨vA,vn,vc,vL⟩⟩,wG ⟨⟨A',m',c',L'⟩,⟨l,B,C,U⟩,⟨E,F,G,V⟩,⟨H,I,J,Z⟩,⟨M,N,O,a0⟩⟩,.pointer (some ⟨w.heap.size,0,none⟩),.pointer (some ⟨w.heap.size+1,0,none⟩),.bool false,.pointer (some ⟨f.heap.size,0,none⟩),.pointer (some ⟨T.heap.size,0,none⟩),.int .i64 x.1,.pointer (some ⟨w.heap.size,x.2,none⟩),.pointer (some ⟨w.heap.size,0,none⟩),.slice A m c,.pointer (some ⟨w.heap.size+1,0,none⟩),.slice A' m' c',.bool u,.func (.func 91) #[] #[.pointer (some ⟨f.heap.size+1,0,none⟩)],.map (some (f.heap.size+1+1)),.func (.func 91) #[] #[.pointer (some ⟨T.heap.size+1,0,none⟩)],.int .i64 x.1,.pointer (some ⟨w.heap.size,x.2,none⟩),undef,undef,undef,undef,undef,undef,undef,undef,undef,undef,undef],defers:=[] })
  (fun x a' _ X Y au hs hg hr=>hs)
  ?assign ?body ?done ?stop
 case assign=>
  rintro l' R ⟨x1,x2⟩ W5 K hI aa hK;have HK:=uA hK;have HI:=uA hI;clear hK hI aa;dsimp only;gi_wp2;exact HK.o _ _ ((KeepsOthers.refl _).from _) (uT.refl _ _ _) HI.o rfl
 case body=>
  rintro l' R ⟨x1,x2⟩ a' W5 ⟨⟨h1,h2,h3,h4,h5,h6,h7⟩,hB⟩ rfl aa;obtain ⟨hx,av⟩:=pX aa;rw [Eh] at hx;obtain ⟨rfl,rfl⟩:=hx;have af:=uA (show (R++[((R.length:Int),R.length+1)]).length=R.length+1 by simp);obtain ⟨k,hk⟩:∃ k,R.length=k:=⟨_,rfl⟩;simp only [hk] at h6 av af ⊢;clear aa hk;have z1:=FcW.cell_at (x:=⟨⟨A,m,c,L⟩,⟨eA,en,ec,eL⟩,⟨kA,kn,kc,kL⟩,⟨jA,jn,jc,jL⟩,⟨vA,vn,vc,vL⟩⟩) h2 (k:=k+1) bB;have z2:=FcW.cell_at (x:=⟨⟨A',m',c',L'⟩,⟨l,B,C,U⟩,⟨E,F,G,V⟩,⟨H,I,J,Z⟩,⟨M,N,O,a0⟩⟩) h3 (k:=k+1) bB;have z3:=h4.q 0 rfl;have ab:=FcW.at_ok HX.o (k+1);have ac:=FcW.at_ok HY.o (k+1);have ah:=rX (x:=⟨⟨A,m,c,L⟩,⟨eA,en,ec,eL⟩,⟨kA,kn,kc,kL⟩,⟨jA,jn,jc,jL⟩,⟨vA,vn,vc,vL⟩⟩) (y:=⟨⟨A',m',c',L'⟩,⟨l,B,C,U⟩,⟨E,F,G,V⟩,⟨H,I,J,Z⟩,⟨M,N,O,a0⟩⟩) av;obtain ⟨⟨lA,ln,lc,lL⟩,ai⟩:∃ z,FcW.at_ ⟨⟨A,m,c,L⟩,⟨eA,en,ec,eL⟩,⟨kA,kn,kc,kL⟩,⟨jA,jn,jc,jL⟩,⟨vA,vn,vc,vL⟩⟩ (k+1)=z:=⟨_,rfl⟩;obtain ⟨⟨rA,rn,rc,rL⟩,aj⟩:∃ z,FcW.at_ ⟨⟨A',m',c',L'⟩,⟨l,B,C,U⟩,⟨E,F,G,V⟩,⟨H,I,J,Z⟩,⟨M,N,O,a0⟩⟩ (k+1)=z:=⟨_,rfl⟩;obtain ⟨aw,a1⟩:∃ z,ceq ⟨⟨A,m,c,L⟩,⟨eA,en,ec,eL⟩,⟨kA,kn,kc,kL⟩,⟨jA,jn,jc,jL⟩,⟨vA,vn,vc,vL⟩⟩ ⟨⟨A',m',c',L'⟩,⟨l,B,C,U⟩,⟨E,F,G,V⟩,⟨H,I,J,Z⟩,⟨M,N,O,a0⟩⟩ (k+1)=z:=⟨_,rfl⟩;rw [ai,aj,a1] at ah;rw [ah] at h6;rw [ai] at z1 ab;rw [aj] at z2 ac;obtain ⟨r,hr⟩:∃ r,eqL lL rL=r:=⟨_,rfl⟩;have hE:=YG lA rA ln rn lc rc lL rL W5.drew _ _ ((ab.cells.below hB).below (Below.refl w.heap.size W5).drew) ((ac.cells.below hB).below (Below.refl w.heap.size W5).drew) ab.nm ac.nm;have ax:aU lL rL=r:=hr;rw [ax] at hE;simp only [hr] at h6;have HE:=uA hE;have ak:=uA a1;have H6:=uA h6;have bf:=uA h1;have ay:=uA h2;have az:=uA h3;have b0:=uA h4;have a2:=uA h5;have b3:=uA h7;have ad:=uA hB;have bg:=uA (wY (mE (show (-100:Int)<=(k:Int)/\(k:Int)<=100 by omega)));have bh:=uA (show Lit.int .i64 (k:Int)∈rO 4 by
   obtain rfl | rfl | rfl | rfl:k=0\/k=1\/k=2\/k=3:=by omega
   all_goals simp [rO])
  have hcx:=uA fun (w':World) (y:Ab W5 w')=>(show w'.cell? ⟨w.heap.size,k+1,none⟩=some (.slice lA ln lc)/\w'.cell? ⟨T.heap.size,0,none⟩=some (.map (some (f.heap.size+1+1)))/\w'.cell? ⟨(w.heap.size+1),k+1,none⟩=some (.slice rA rn rc)/\(Instr.lookup 108 (.map (some (f.heap.size+1+1))) (.int .i64 (k:Int)) false).run prog w'=.ok (.pointer (some ⟨(w.heap.size+1),k+1,none⟩)) w' from
   ⟨(y.cell (p:=⟨w.heap.size,k+1,none⟩) (Ag.1 ay.o).1).trans z1,(y.cell (p:=⟨T.heap.size,0,none⟩) (Ag.1 b0.o).1).trans z3,(y.cell (p:=⟨(w.heap.size+1),k+1,none⟩) (Ag.1 az.o).1).trans z2,
     (b3.o.below y).look zS uFe (uF8 w') bg.o trivial (fun _=>by simp [fcS]) (fun hn=>absurd bh.o hn)⟩)
  have HD:=uA (Below.refl W5.heap.size W5).drew;clear h1 h2 h3 h4 h5 h6 h7 hB ab ac ah ai aj a1 hr hE ax z1 z2 z3;gi_wp2;refine nZ (S:=fun w'=>Ab W5 w') fL fL (by rintro ⟨_,_,h⟩;exact h) HD.o (fun hHeld=>?_);refine uJ [0,1,2,3,4,5,6,7] ?_;(iterate 8 refine pT hHeld rfl ?_);refine uK ?_;refine pC 8 rfl (fun KZ hK=>?_);go_simp;refine HE.o.mono ?_;rintro e w7 ⟨rfl,b4⟩;have g:=uA (Aa HD.o b4);refine hK.out _ _ g.o (fun hHeld=>?_);clear hK KZ b4;refine uJ [9] ?_;refine pT hHeld rfl ?_;refine uK ?_;refine wpAnyH_done fL ?_ _;have ae:Turn (fun q=>q=f.heap.size) W5 w7:=Turn.of_below g.o;cases r
  ·have bi:=uA (show v=false by rw [<-H6.o];simp);have z5:=(a2.o.below g.o).q 0 rfl;have z6:=(a2.o.below g.o).frozen 0;have bj:=uA ((a2.o.below g.o).set 0 (.bool false));have b5:=uA (ae.setCell (a:=⟨f.heap.size,0,none⟩) (.inl rfl) (.bool false));clear ae;gi_wp2;exact ⟨b5.o.keepsFrom (fun q hq=>⟨_,_,_,hq ▸ a2.o⟩) _,⟨rfl,by rw [bi.o];exact bj.o⟩,ad.o.trans (b5.o.below ad.o.size (fun q hq=>by rw [hq];have:=b8.o;omega))⟩
  ·have HR:=uA (show (u && aw)=v by have h:=H6.o;rw [E3] at h;exact h);have bk:=uA ae;clear ae;gi_wp2;exact ⟨bk.o.keepsFrom (fun q hq=>⟨_,_,_,hq ▸ a2.o⟩) _,uT.below g.o,⟨Ai bf.o g.o.size,ay.o.below g.o,az.o.below g.o,b0.o.below g.o,a2.o.below g.o,by rw [af.o,ak.o];exact HR.o,b3.o.below g.o⟩,(Aa ad.o g.o)⟩
 case done=>
  rintro D ys W5 hD bl ⟨⟨h1,h2,h3,h4,h5,h6,h7⟩,hB⟩ hK;have hv:u=v:=by
   rw [bl] at h6;have e:ceq ⟨⟨A,m,c,L⟩,⟨eA,en,ec,eL⟩,⟨kA,kn,kc,kL⟩,⟨jA,jn,jc,jL⟩,⟨vA,vn,vc,vL⟩⟩ ⟨⟨A',m',c',L'⟩,⟨l,B,C,U⟩,⟨E,F,G,V⟩,⟨H,I,J,Z⟩,⟨M,N,O,a0⟩⟩ fcK.length=true:=LP;rw [e,Bool.and_true] at h6;exact h6
  have z4:=h5.q 0 rfl;have al:w.heap.size<=D:=Ai a6.o.size hD;have bm:=uA hv;clear h1 h2 h3 h4 h5 h6 h7 hv;gi_wp2;rw [Do];refine ⟨nF,.inl ⟨_,_,rfl,run_takeDeferred hK,?_⟩⟩;exact ⟨_,results_tmp rfl _ _ _,by rw [<-bm.o];rfl,hB.trans (belowK_b (w:=w) (Ae _) W5 D _ _ al hK rfl rfl)⟩
 case stop=>
  rintro D cd R W5 hD bn ⟨⟨rfl,h4⟩,hB⟩ hK;have z4:=h4.q 0 rfl;have al:w.heap.size<=D:=Ai a6.o.size hD;clear h4;gi_wp2;rw [Do];refine ⟨nF,.inl ⟨_,_,rfl,run_takeDeferred hK,?_⟩⟩;exact ⟨_,results_tmp rfl _ _ _,rfl,hB.trans (belowK_b (w:=w) (Ae _) W5 D _ _ al hK rfl rfl)⟩
def szK (x:FcW):Nat->Int
 | 0=>(x.loans.n:Int)
 | k+1=>szK x k+((x.at_ (k+1)).n:Int)
theorem uAi (x:FcW):szK x 4=PR x:=rfl
theorem uGt {x:FcW} (h:iK x):∀ k,k<=4->0<=szK x k/\szK x k<=200+2000*k:=by
 have d:=h.1;have e:=h.2;intro k f
 induction k with
 | zero=>exact ⟨Ch _,by show (x.loans.n:Int)<=_;omega⟩
 | succ k c=>
   obtain ⟨a,b⟩:=c bB;have g:(x.at_ (k+1)).n<=2000:=by
    unfold FcW.at_
    split
    ·omega
    split
    ·omega
    split
    ·omega
    omega
   show 0<=szK x k+_/\szK x k+_<=_;omega
theorem uA2 {x:FcW} {v:Int} (h:PR x=v) (w:World) (hx:vO w w.heap.size x) (f:iK x) :
 Calls prog 19 #[wG x] w fun e w'=>e=.returned (.int .i64 v)/\Ab w w':=by
 refine (callsIn_wide (n:=12)).1 ?_;have HV:=uA h;have U:=uA (uGt f);have N:=uA fun k=>(show szK x (k+1)=szK x k+((x.at_ (k+1)).n:Int) from rfl)
 have V:Hdd (szK x 0=(x.loans.n:Int)):=rfl;have O:=uA (uAi x);have Z:=uA fun (W:World) (F:Nat) (hb:Bx W F (cFc x) 33) (k:Nat) (hk:1<=k/\k<=4)=>FcW.cell_at hb hk
 clear h hx f;obtain ⟨s,f⟩:∃ s,szK x=s:=⟨_,rfl⟩;obtain ⟨a5,a0⟩:∃ a,x.at_=a:=⟨_,rfl⟩;rw [f] at U N V O;rw [a0] at N Z;rw [HV.o] at O;clear f a0 HV;obtain ⟨⟨A,m,c,L⟩,⟨i,l,o,eL⟩,⟨q,r,t,kL⟩,⟨u,y,B,jL⟩,⟨C,E,G,vL⟩⟩:=x;have b1:=uB w (.cells #[.slice A m c,.slice i l o,.slice q r t,.slice u y B,.slice C E G] 33);have b2:=uB (w.alloc (.cells #[.slice A m c,.slice i l o,.slice q r t,.slice u y B,.slice C E G] 33)) (.cells #[.int .i64 (m:Int)] 3);have hF:=(Bx.new w [.slice A m c,.slice i l o,.slice q r t,.slice u y B,.slice C E G] 33).below b2;have hC:=Bx.new (w.alloc (.cells #[.slice A m c,.slice i l o,.slice q r t,.slice u y B,.slice C E G] 33)) [.int .i64 (m:Int)] 3;rw [Ak] at hC;have HB:=uA (Aa b1 b2);have HF:=uA hF;have HC:=uA hC;clear b1 b2 hF hC;refine callsIn_of_wp_marks func19 rfl trivial ?_ rfl;simp only [ntmps19,Bc,As,Br,Nat.reduceAdd,Nat.reduceSub,Ay,Az,Be,Ba,Bj,Bg];gi_wp2_with (refine ⟨trivial,?_⟩;gi_at_call 47;refine (mQ _ _ _).mono ?_;rintro e w2 ⟨rfl,rfl⟩)
 have b3:=uB ((w.alloc (.cells #[.slice A m c,.slice i l o,.slice q r t,.slice u y B,.slice C E G] 33)).alloc (.cells #[.int .i64 (m:Int)] 3)) (.cells #[.pointer (some ⟨w.heap.size,0,none⟩)] 101);have a1:=Bx.new ((w.alloc (.cells #[.slice A m c,.slice i l o,.slice q r t,.slice u y B,.slice C E G] 33)).alloc (.cells #[.int .i64 (m:Int)] 3)) [.pointer (some ⟨w.heap.size,0,none⟩)] 101;simp only [Ak] at a1;have a6:=uA (Aa HB.o b3);have a7:=uA (HF.o.below b3);have a8:=uA (HC.o.below b3);have hZ:w.heap.size+3<=(((w.alloc (.cells #[.slice A m c,.slice i l o,.slice q r t,.slice u y B,.slice C E G] 33)).alloc (.cells #[.int .i64 (m:Int)] 3)).alloc (.cells #[.pointer (some ⟨w.heap.size,0,none⟩)] 101)).heap.size:=by simp
 generalize ((w.alloc (.cells #[.slice A m c,.slice i l o,.slice q r t,.slice u y B,.slice C E G] 33)).alloc (.cells #[.int .i64 (m:Int)] 3)).alloc (.cells #[.pointer (some ⟨w.heap.size,0,none⟩)] 101)=W3 at *;clear b3 HB HF HC;refine wB eW (gf:=91) (lb:=#[.pointer (some ⟨w.heap.size+1+1,0,none⟩)]) rfl (enters_of func91 fL rfl)
  (zK (n₀:=0) (Ts:=[101]) (An.2 rfl) _ eW (w.heap.size+1+1) w.heap.size W3 a1) (Below.refl _ _) (fun _=>rfl)
  (fun b W=>(w.heap.size+3<=W.heap.size/\Bx W w.heap.size [.slice A m c,.slice i l o,.slice q r t,.slice u y B,.slice C E G] 33/\Bx W (w.heap.size+1) [.int .i64 (s b.length)] 3)/\Ab w W)
  (fun _ _ _=>False)
  (Dg (Ed (fun s X Y a9 f hg J=>⟨Ai f.1 hg.size,f.2.1.owns hg J,f.2.2.owns hg J⟩) _) (ownFrom_below (Ae _) bB))
  (fun _ _ _ _ _ f _ _=>f)
  ⟨⟨hZ,a7.o,V.o ▸ a8.o⟩,a6.o⟩
  (fun x a' W=>a'={ tmps:=#[wG ⟨⟨A,m,c,L⟩,⟨i,l,o,eL⟩,⟨q,r,t,kL⟩,⟨u,y,B,jL⟩,⟨C,E,G,vL⟩⟩,.pointer (some ⟨w.heap.size,0,none⟩),.int .i64 0,.pointer (some ⟨w.heap.size+1,0,none⟩),undef,.pointer (some ⟨w.heap.size,x.2,none⟩),.pointer (some ⟨w.heap.size,0,none⟩),.slice A m c,.int .i64 (m:Int),.func (.func 91) #[] #[.pointer (some ⟨w.heap.size+1+1,0,none⟩)],.int .i64 x.1,.pointer (some ⟨w.heap.size,x.2,none⟩),undef,undef,undef,undef,undef,undef,undef],defers:=[] })
  (fun x a' _ X Y a9 f hg J=>f)
  ?assign ?body ?done ?stop
 case assign=>
  rintro l' b ⟨x1,x2⟩ P K ⟨⟨Q,M,d⟩,R⟩ H hK;have HK:=uA hK;have S:=uA (And.intro (And.intro Q (And.intro M d)) R);clear hK Q M d R H;dsimp only;gi_wp2;exact HK.o _ _ ((KeepsOthers.refl _).from _) (uT.refl _ _ _) S.o rfl
 case body=>
  rintro l' b ⟨x1,x2⟩ a' P ⟨⟨Q,M,d⟩,R⟩ rfl H;obtain ⟨hx,aa⟩:=pX H;have g:(b++[(x1,x2)]).length=b.length+1:=by simp
  rw [Eh] at hx;obtain ⟨_,a2⟩:=hx;obtain ⟨k,hk⟩:∃ k,b.length=k:=⟨_,rfl⟩;simp only [hk] at a2 d g aa;subst a2;have a3:=uA g;have S:=uA (And.intro (And.intro Q (And.intro M d)) R);have z1:=Z.o P w.heap.size M (k+1) bB;have I:=N.o k;have J:=U.o (k+1) bB;rw [I] at J;obtain ⟨⟨lA,ln,lc,lL⟩,a4⟩:∃ z,a5 (k+1)=z:=⟨_,rfl⟩;rw [a4] at z1 I J;have ab:=uA I;have z2:=d.q 0 rfl;have z3:=d.frozen 0;obtain ⟨sp,T⟩:∃ z,s k=z:=⟨_,rfl⟩;rw [T] at z2 J;have ac:=uA T;obtain ⟨ad,ae⟩:=J;simp only [] at ad ae z1;clear Q M d R a4 I T g H hk;have ai:IntKind.i64.wrap (sp+(ln:Int))=sp+(ln:Int):=vV _ bB bB;gi_wp2;gi_region;all_goals
   gi_wp2;refine ⟨aZ ((Bz P ⟨w.heap.size+1,0,none⟩ (.int .i64 (sp+(ln:Int)))).from _),(uT.setBx S.o.1.2.2 (Am _) eW _).drew,⟨by simpa using S.o.1.1,S.o.1.2.1.other (a:=⟨w.heap.size+1,0,none⟩) (show w.heap.size+1≠w.heap.size by omega) _,?_⟩,(S.o.2.setCell (p:=⟨w.heap.size+1,0,none⟩) (Cc _) _).drew⟩;rw [a3.o,ab.o,ac.o];exact S.o.1.2.2.set 0 _
 case done=>
  rintro D ys P hD af ⟨⟨Q,M,d⟩,R⟩ hK;have d:Bx P (w.heap.size+1) [.int .i64 v] 3:=by
   rw [<-O.o];rw [af] at d;exact d
  have z2:=d.q 0 rfl;have ag:w.heap.size<=D:=by omega
  clear Q M d;gi_wp2;refine ⟨nF,.inl ⟨_,_,rfl,run_takeDeferred hK,?_⟩⟩;exact ⟨_,results_tmp rfl _ _ _,rfl,R.trans (belowK_b (w:=w) (Ae _) P D _ _ ag hK rfl rfl)⟩
 case stop=>
  rintro D cd b P hD ah hF;exact hF.elim
end
structure pF (w:World) (lo:Nat) (t:FcW):Prop where
 loans:w.ownsRow lo 50 5 t.loans.val t.loans.n (t.loans.L.flatMap cLn)
 pl:∀ x∈t.loans.L,lU w lo x.pl
 edges:w.ownsRow lo 54 2 t.edges.val t.edges.n (t.edges.L.flatMap pV)
 killed:w.ownsRow lo 54 2 t.killed.val t.killed.n (t.killed.L.flatMap pV)
 invalid:w.ownsRow lo 54 2 t.invalid.val t.invalid.n (t.invalid.L.flatMap pV)
 live:w.ownsRow lo 54 2 t.live.val t.live.n (t.live.L.flatMap pV)
theorem pF.one {f w:World} {B lo:Nat} {x t:FcW} (a:pF w lo t) (b:vO f B x) (g:oG x t=true):vO w w.heap.size t:=by
 obtain ⟨h,i,j,k,l⟩:=iD.1 g;refine ⟨yX xX eW a.loans (fun y d=>?_),yX uY eW a.edges (i ▸ b.edges.all),yX uY eW a.killed (j ▸ b.killed.all),yX uY eW a.invalid (k ▸ b.invalid.all),yX uY eW a.live (l ▸ b.live.all)⟩;have m:y.v∈x.loans.L.map LnW.v:=h ▸ Bw.2 ⟨y,d,rfl⟩;obtain ⟨z,n,e⟩:=Bw.1 m;have c:=b.loans.all z n;unfold LnW.v at e;injection e with o p r q;exact ⟨o ▸ c.region,p ▸ c.point,c.pl.of_own q.symm (a.pl y d)⟩
end Go.Proofs.YtnkjbjkoffgocaaGreatDoor
