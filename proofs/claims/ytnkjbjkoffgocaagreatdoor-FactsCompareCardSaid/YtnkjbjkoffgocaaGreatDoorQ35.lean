import Derived.Test.YtnkjbjkoffgocaaGreatDoorQ34
import Derived.Test.YtnkjbjkoffgocaaGreatDoorRows
import Derived.LaidMore
import Derived.Stop.Joined
import Derived.Lib.SmallJoins
set_option linter.unusedVariables false
set_option linter.unusedSimpArgs false
set_option maxRecDepth 100000
set_option maxHeartbeats 8000000
namespace Go.Proofs.YtnkjbjkoffgocaaGreatDoor
open _root_.Go.Proofs.Tryz Go.RowKit
section
open Go.Shelf
attribute [local go_sem] Oper.semAt_some
def FcW.set_ (x:FcW) (k:Nat) (s:SlW Pr):FcW:=if k=1 then { x with edges:=s } else if k=2 then { x with killed:=s } else if k=3 then { x with invalid:=s } else { x with live:=s }
theorem FcW.set_loans (x:FcW) (k:Nat) (s:SlW Pr):(x.set_ k s).loans=x.loans:=by
 unfold FcW.set_
 split
 ·rfl
 split
 ·rfl
 split <;> rfl
theorem FcW.set_at {x:FcW} {k i:Nat} {s:SlW Pr} (a:1<=k/\k<=4) (b:1<=i/\i<=4):(x.set_ k s).at_ i=if i=k then s else x.at_ i:=by
 obtain rfl | rfl | rfl | rfl:k=1\/k=2\/k=3\/k=4:=by omega
 all_goals
  obtain rfl | rfl | rfl | rfl:i=1\/i=2\/i=3\/i=4:=by omega
  all_goals rfl
theorem FcW.set_c {x:FcW} {k:Nat} {s:SlW Pr} (a:1<=k/\k<=4):cFc (x.set_ k s)=(cFc x).set k (.slice s.A s.n s.c):=by
 obtain rfl | rfl | rfl | rfl:k=1\/k=2\/k=3\/k=4:=by omega
 all_goals rfl
theorem FcW.at_sm {x:FcW} (h:iK x) (k:Nat):(x.at_ k).n<=2 ^ 39:=by
 have b:=h.pairs;have a:(x.at_ k).n<=2000:=by
  unfold FcW.at_
  split
  ·omega
  split
  ·omega
  split <;> omega
 exact Ai a eW
def EE (w:World) (x:FcW) (s:SlW LnW) (lo k:Nat) (W:World):Prop:=∃ t:FcW,Bx W w.heap.size (cFc t) 33/\t.loans=s/\(∀ i,1<=i/\i<=4->if i<=k then W.ownsRow (w.heap.size+2) 54 2 (t.at_ i).val (t.at_ i).n ((t.at_ i).L.flatMap pV)/\(t.at_ i).L=(x.at_ i).L else t.at_ i=x.at_ i) /\
 W.ownsRow (w.heap.size+2) 50 5 s.val s.n (s.L.flatMap cLn)/\(∀ y∈s.L,lU W lo y.pl)/\w.heap.size+2<=W.heap.size/\Bx W (w.heap.size+1) [.slice none 0 0,.slice none 0 0,.slice none 0 0,.slice none 0 0,.slice none 0 0] 33
theorem EE.below {w W c:World} {x:FcW} {s:SlW LnW} {lo k:Nat} (h:EE w x s lo k W) (a:Ab W c):EE w x s lo k c:=by
 obtain ⟨t,d,e,f,g,j,l,m⟩:=h;refine ⟨t,d.below a,e,fun i n=>?_,uC g a,fun y o=>uC (j y o) a,Ai l a.size,m.below a⟩;have h:=f i n
 split
 ·rename_i b;rw [if_pos b] at h;exact ⟨uC h.1 a,h.2⟩
 ·rename_i b;rw [if_neg b] at h;exact h
theorem mB {W j:World} {row:Option Nat} {base:Nat} {e:TypeId} {a n:Nat} {v:Value} {xs:List Value} (h:W.ownsRow base e a v n xs) (k:W.grownBy j row) (l:∀ r,row=some r->∃ o:Obj,W.heap[r]?=some o/\o.isCells=false):j.ownsRow base e a v n xs:=by
 obtain ⟨m,d⟩:=h;refine ⟨m,?_⟩;rcases d with d | ⟨g,f,i,p,q,b,h⟩
 ·exact .inl d
 ·refine .inr ⟨g,f,i,p,q,(k.block g (Ag.1 b).1 (fun e=>?_)).trans b,h⟩;obtain ⟨o,c,s⟩:=l g e.symm;rw [b] at c;injection c with c;subst c;cases s
theorem EE.own {w:World} {x:FcW} {s:SlW LnW} {lo:Nat}:Own (fun (b:List (Int×Nat)) W=>EE w x s lo b.length W):=fun b W q e h a c=>by
 obtain ⟨t,f,g,j,k,l,m,n⟩:=h;refine ⟨t,f.owns a c,g,fun i o=>?_,mB k a c,fun y p=>mB (l y p) a c,Ai m a.size,n.owns a c⟩;have h:=j i o
 split
 ·rename_i d;rw [if_pos d] at h;exact ⟨mB h.1 a c,h.2⟩
 ·rename_i d;rw [if_neg d] at h;exact h
theorem pF.keep {w w':World} {lo:Nat} {t:FcW} (h:pF w lo t) (a:yJ lo w w'):pF w' lo t:=⟨vU h.loans a,fun x b=>vU (h.pl x b) a,vU h.edges a,vU h.killed a,vU h.invalid a,vU h.live a⟩
theorem pF.base {w:World} {lo b:Nat} {t:FcW} (h:pF w lo t) (a:b<=lo):pF w b t:=⟨uI h.loans a,fun x c=>uI (h.pl x c) a,uI h.edges a,uI h.killed a,uI h.invalid a,uI h.live a⟩
theorem pF.owns {W c:World} {row:Option Nat} {lo:Nat} {t:FcW} (h:pF W lo t) (a:W.grownBy c row) (b:∀ r,row=some r->∃ o:Obj,W.heap[r]?=some o/\o.isCells=false):pF c lo t:=⟨mB h.loans a b,fun x d=>mB (h.pl x d) a b,mB h.edges a b,mB h.killed a b,mB h.invalid a b,mB h.live a b⟩
theorem AP (x:FcW) (w:World) (hx:vO w w.heap.size x) (hs:iK x) :
 Calls prog 21 #[wG x] w fun e J=>∃ t:FcW,e=.returned (wG t)/\pF J w.heap.size t/\oG x t=true/\Ab w J:=by
 refine (callsIn_wide (n:=12)).1 ?_;have HX:=uA hx;have b3:=uA hs;have a8:=uA hx.loans.len;have b4:=hs.loans;clear hx hs;obtain ⟨⟨A,m,c,L⟩,⟨R,T,U,eL⟩,⟨V,Z,kc,kL⟩,⟨jA,jn,jc,jL⟩,⟨vA,vn,vc,vL⟩⟩:=x;simp only [] at b4 a8;have b1:=uB w (.cells #[.slice A m c,.slice R T U,.slice V Z kc,.slice jA jn jc,.slice vA vn vc] 33);have b2:=uB (w.alloc (.cells #[.slice A m c,.slice R T U,.slice V Z kc,.slice jA jn jc,.slice vA vn vc] 33)) (.cells #[.slice none 0 0,.slice none 0 0,.slice none 0 0,.slice none 0 0,.slice none 0 0] 33);have hF:=(Bx.new w [.slice A m c,.slice R T U,.slice V Z kc,.slice jA jn jc,.slice vA vn vc] 33).below b2;have hR:=Bx.new (w.alloc (.cells #[.slice A m c,.slice R T U,.slice V Z kc,.slice jA jn jc,.slice vA vn vc] 33)) [.slice none 0 0,.slice none 0 0,.slice none 0 0,.slice none 0 0,.slice none 0 0] 33;rw [Ak] at hR;have HB:=uA (Aa b1 b2);have a2:=uA (SQ ⟨A,m,c,L⟩ ((w.alloc (.cells #[.slice A m c,.slice R T U,.slice V Z kc,.slice jA jn jc,.slice vA vn vc] 33)).alloc (.cells #[.slice none 0 0,.slice none 0 0,.slice none 0 0,.slice none 0 0,.slice none 0 0] 33)) ((HX.o.up HB.o).loans) (show m<=2 ^ 39 from Ai b4 eW));have HF:=uA hF;have HR:=uA hR;have ar:=uA (show ((w.alloc (.cells #[.slice A m c,.slice R T U,.slice V Z kc,.slice jA jn jc,.slice vA vn vc] 33)).alloc (.cells #[.slice none 0 0,.slice none 0 0,.slice none 0 0,.slice none 0 0,.slice none 0 0] 33)).heap.size=w.heap.size+2 by simp);have x0:=hF.q 0 rfl;clear b1 b2 hF hR;refine callsIn_of_wp_marks func21 rfl trivial ?_ rfl;simp only [ntmps21,Bc,As,Br,Nat.reduceAdd,Nat.reduceSub,Ay,Az,Be,Ba,Bj,Bg];gi_wp2;refine ⟨trivial,(callsIn_wide.2 a2.o).mono ?_⟩;rintro e0 w1 ⟨⟨E,n',C,I⟩,h9,b5,b6,hb⟩;obtain rfl:e0=.returned (.slice E n' C):=h9;have bz:I=L:=b5;subst bz;have ho:w1.ownsRow ((w.alloc (.cells #[.slice A m c,.slice R T U,.slice V Z kc,.slice jA jn jc,.slice vA vn vc] 33)).alloc (.cells #[.slice none 0 0,.slice none 0 0,.slice none 0 0,.slice none 0 0,.slice none 0 0] 33)).heap.size 50 5 (.slice E n' C) n' (I.flatMap cLn):=b6;rw [ar.o] at ho;clear b6 b5;have c5:m=n':=by
  have h1:=vH (f:=cLn) xX eW ho;have h2:=a8.o;omega
 subst c5;have a9:=HF.o.below hb;have b7:=HR.o.below hb;have x0:=a9.q 0 rfl;have f0:=a9.frozen 0;have c6:Hdd (Bx (w1.setCell ⟨w.heap.size,0,none⟩ (.slice E m C)) w.heap.size [.slice E m C,.slice R T U,.slice V Z kc,.slice jA jn jc,.slice vA vn vc] 33):=a9.set 0 (.slice E m C);have c7:=uA (b7.other (a:=⟨w.heap.size,0,none⟩) (show w.heap.size≠w.heap.size+1 by omega) (.slice E m C));have c8:=uA ((Aa HB.o hb).setCell (p:=⟨w.heap.size,0,none⟩) (Ae _) (.slice E m C));have b8:=uA (vU ho (yJ.setCell (a:=⟨w.heap.size,0,none⟩) (show w.heap.size < w.heap.size+2 by omega) (.slice E m C)));have c9:=uA (show w.heap.size+2<=(w1.setCell ⟨w.heap.size,0,none⟩ (.slice E m C)).heap.size by rw [Db];have:=hb.size;rw [ar.o] at this;exact this);clear a9 b7 ho hb a2 ar;gi_wp2_with fail
 generalize w1.setCell ⟨w.heap.size,0,none⟩ (.slice E m C)=w2 at *;clear x0 f0;obtain ⟨F,au⟩:∃ F,w2.heap.size=F:=⟨_,rfl⟩;have b9:=uA au;have aj:w.heap.size+2<=F:=au ▸ c9.o;clear au;gi_loopw [14] (fun i wr=>∃ j:Nat,∃ M:List LnW,i=.int .i64 (j:Int)/\j<=m/\Hdd (M.length=j)/\Hdd (M.map LnW.v=(I.take j).map LnW.v)/\Hdd (wr.ownsRow (w.heap.size+2) 50 5 (.slice E m C) m ((M++I.drop j).flatMap cLn))/\Hdd (∀ x∈M,lU wr F x.pl)/\Hdd (F<=wr.heap.size)/\Hdd (Bx wr w.heap.size [.slice E m C,.slice R T U,.slice V Z kc,.slice jA jn jc,.slice vA vn vc] 33)/\Hdd (Bx wr (w.heap.size+1) [.slice none 0 0,.slice none 0 0,.slice none 0 0,.slice none 0 0,.slice none 0 0] 33)/\Hdd (Ab w wr)) (fun i _=>m - (intOf i).toNat)
 case atStart=>exact ⟨0,[],rfl,Am _,uA rfl,uA rfl,b8,uA (fun x hx=>by cases hx),uA (Cw b9.o.symm),c6,c7,c8⟩
 case round=>
  obtain ⟨j,M,rfl,hj,HM,HV,av,HA,HS,ba,bb,a1⟩:=hrel;by_cases ca:j < m
  ·obtain ⟨g,hA,cb,dg⟩:=bK av.o bB;subst hA;have dd:(j:Int) < (m:Int):=bB;have ak:I.length=m:=a8.o;obtain ⟨p,hp⟩:∃ p,I[j]?=some p:=⟨_,Ad bB⟩;have a3:I.drop j=p :: I.drop (j+1):=by
    rw [<-List.getElem_cons_drop (by omega:j < I.length)];rw [Ad bB] at hp;injection hp with hp;rw [hp]
   have bd:Hdd (wr.ownsRow (w.heap.size+2) 50 5 (.slice (some ⟨g,0,none⟩) m C) m ((M++p :: I.drop (j+1)).flatMap cLn)):=a3 ▸ av.o;have be:uM wr wr.heap.size 5 cLn (some ⟨g,0,none⟩) m (M++p :: I.drop (j+1)):=uM.of_own xX eW bd.o;obtain ⟨b,o,aw,_,cz⟩:=be.at_ (i:=j) (x:=p) (by rw [B4 (by have:=HM.o;omega),HM.o,D3];rfl);injection aw with aw;injection aw with N ce;subst N ce;have cf:g < F:=by
    rcases Bs g F with h | h
    ·exact h
    ·exfalso;obtain ⟨g',aa,_,de⟩:=bK b8.o bB;injection aa with aa;injection aa with aa;have:=b9.o;omega
   have h1:=(HX.o.loans.all p (Aj hp));have bf:=b3.o.pl p (Aj hp);have HP:=uA hp;have a4:=uB wr (.cells #[.int .i64 p.region,.int .i64 p.point,.bool p.mut_,.int .i64 p.pl.l,.slice p.pl.A p.pl.n p.pl.c] 50);have ax:=uA a4;have cg:=uA (Aa a1.o a4);have HC:=uA fun (J:World) (y:Ab w J)=>CL p J ((h1.below y).more y.size) (Ai bf eW)
   have ch:=uA (show (I.take (j+1)).map LnW.v=(I.take j).map LnW.v++[p.v] by rw [Bm,hp,By];rfl);obtain ⟨rg,pt,mu,⟨l,pA,pn,pc,ps⟩⟩:=p;have c0:wr.cell? ⟨g,j*5,none⟩=some (.int .i64 rg):=(by simpa using cz 0 _ rfl);have c1:wr.cell? ⟨g,j*5+1,none⟩=some (.int .i64 pt):=(by simpa using cz 1 _ rfl);have c2:wr.cell? ⟨g,j*5+2,none⟩=some (.bool mu):=(by simpa using cz 2 _ rfl);have c3:wr.cell? ⟨g,j*5+3,none⟩=some (.int .i64 l):=(by simpa using cz 3 _ rfl);have c4:wr.cell? ⟨g,j*5+4,none⟩=some (.slice pA pn pc):=(by simpa using cz 4 _ rfl);simp only [] at a4;clear hp a3 be cz h1 bf;have bg:=uA (ba.o.below a4.drew);have bh:Hdd (Bx (wr.alloc (.cells #[.int .i64 rg,.int .i64 pt,.bool mu,.int .i64 l,.slice pA pn pc] 50)).drew wr.heap.size [.int .i64 rg,.int .i64 pt,.bool mu,.int .i64 l,.slice pA pn pc] 50):=Bx.new wr [.int .i64 rg,.int .i64 pt,.bool mu,.int .i64 l,.slice pA pn pc] 50;have hcx:=uA fun (J:World) (h:Bx J w.heap.size [.slice (some ⟨g,0,none⟩) m C,.slice R T U,.slice V Z kc,.slice jA jn jc,.slice vA vn vc] 33/\Bx J wr.heap.size [.int .i64 rg,.int .i64 pt,.bool mu,.int .i64 l,.slice pA pn pc] 50)=>(show J.cell? ⟨w.heap.size,0,none⟩=some (.slice (some ⟨g,0,none⟩) m C)/\J.cell? ⟨wr.heap.size,0,none⟩=some (.int .i64 rg)/\J.cell? ⟨wr.heap.size,1,none⟩=some (.int .i64 pt)/\J.cell? ⟨wr.heap.size,2,none⟩=some (.bool mu)/\J.cell? ⟨wr.heap.size,3,none⟩=some (.int .i64 l)/\J.cell? ⟨wr.heap.size,4,none⟩=some (.slice pA pn pc) from
    ⟨h.1.q 0 rfl,h.2.q 0 rfl,h.2.q 1 rfl,h.2.q 2 rfl,h.2.q 3 rfl,h.2.q 4 rfl⟩)
   clear a4;gi_wp2;refine wpIn_mono (Q:=qT _) ?_ qT.le;refine wpIn_wide.2 ?_;refine wp_region_held_drew (S:=fun J=>Bx J w.heap.size [.slice (some ⟨g,0,none⟩) m C,.slice R T U,.slice V Z kc,.slice jA jn jc,.slice vA vn vc] 33/\Bx J wr.heap.size [.int .i64 rg,.int .i64 pt,.bool mu,.int .i64 l,.slice pA pn pc] 50) fL ⟨bg.o,bh.o⟩ (fun hHeld=>?_);refine uJ [0,1,2,3] ?_;(iterate 4 refine pT hHeld rfl ?_);refine uK ?_;refine pC 4 rfl (fun KZ hK=>?_);go_simp;refine (HC.o _ cg.o.drew).mono ?_;rintro e w3 ⟨q,rfl,bi,bj,ab⟩;have N:=(Aa ax.o.drew ab);have ci:=uA bi;have cj:=uA (Ai HS.o N.size);have al:=uA (bg.o.below ab);have a5:=uA (bh.o.below ab);have bk:=uA (bb.o.below N);have bm:=uA (vU bd.o (yJ.of_below (lo:=w.heap.size+2) N));have HQ:Hdd (lU w3 F q.pl):=uI bj (Ai HS.o ax.o.drew.size);have ck:=uA (Aa a1.o N);have cl:=uA (fun x hx=>(vU (HA.o x hx) (yJ.of_below (lo:=F) N):lU w3 F x.pl));have bo:=iS bm.o ca;have bp:=uA (all_oneCell_toArray (cs:=cLn q) (EG q));have bq:=uA (show (prog.info? 50).map (·.size)=some (cLn q).toArray.size by kernel_rfl);have cm:Hdd (w3.there g (j*5) (cLn q).toArray.size):=bo;have ay:=QT (f:=cLn) xX (q:=q) bm.o;rw [HM.o] at ay;have co:=uA ay;have a6:yJ F w3 (w3.setCells g (j*5) (cLn q)):=yJ.setCells cf _ _ _;have ad:=uA (RowKit.below_setCells9 (B:=w.heap.size) (g:=g) bB (cLn q) (j*5) ck.o);have az:Below (w.heap.size+2) w3 (w3.setCells g (j*5) (cLn q)):=RowKit.below_setCells9 cb (cLn q) (j*5) (Below.refl _ _);have am:Hdd (Bx (w3.setCells g (j*5) (cLn q)) w.heap.size [.slice (some ⟨g,0,none⟩) m C,.slice R T U,.slice V Z kc,.slice jA jn jc,.slice vA vn vc] 33):=(az.block w.heap.size bB).trans al.o;have br:Hdd (Bx (w3.setCells g (j*5) (cLn q)) (w.heap.size+1) [.slice none 0 0,.slice none 0 0,.slice none 0 0,.slice none 0 0,.slice none 0 0] 33):=(az.block (w.heap.size+1) bB).trans bk.o;have bs:Hdd (Bx (w3.setCells g (j*5) (cLn q)) wr.heap.size [.int .i64 rg,.int .i64 pt,.bool mu,.int .i64 l,.slice pA pn pc] 50):=(a6.block wr.heap.size HS.o (Ag.1 a5.o).1).trans a5.o;have cp:=uA (fun x hx=>(vU (cl.o x hx) a6:lU (w3.setCells g (j*5) (cLn q)) F x.pl));have cq:Hdd (lU (w3.setCells g (j*5) (cLn q)) F q.pl):=vU HQ.o a6;have cr:=uA (Ai cj.o a6.size);refine hK.out _ _ ⟨al.o,a5.o⟩ (fun hHeld=>?_);clear hK KZ bi bj ab N bo a6 az ay c0 c1 c2 c3 c4;try simp only [Ac]
   refine uJ [5] ?_;refine pT hHeld rfl ?_;refine uK ?_;refine pC 6 rfl (fun KZ hK=>?_);rw [if_pos (by rfl)];refine wp_store_mid 50 _ _ rfl g (j*5) (cLn q).toArray rfl rfl cm.o bq.o bp.o ?_;rw [List.toList_toArray];generalize w3.setCells g (j*5) (cLn q)=w4 at *;refine hK.out _ _ ⟨am.o,bs.o⟩ (fun hHeld=>?_);clear hK KZ;refine wpAnyH_done fL ?_ _;show Exit.inBlock 1 _ Exit.normal _ _;gi_wp2;refine ⟨⟨j+1,M++[q],by go_num,bB,uA ?_,uA ?_,uA ?_,uA ?_,cr,am,br,ad⟩,by simp [intOf];omega⟩
   ·rw [Aw,HM.o];rfl
   ·rw [By,HV.o,ch.o];simp [ci.o]
   ·have:=co.o;simpa using this
   ·intro x hx;rcases Aq.1 hx with hx | hx
    ·exact cp.o x hx
    ·obtain rfl:x=q:=by simpa using hx
     exact cq.o
  ·obtain rfl:j=m:=by omega
   have ak:I.length=j:=a8.o;have ct:=uA (show M.map LnW.v=I.map LnW.v by rw [HV.o,Au bB]);have cu:=uA (show wr.ownsRow (w.heap.size+2) 50 5 (.slice E j C) j (M.flatMap cLn) by
    have:=av.o;rw [Cs bB,B5] at this;exact this)
   clear ak;gi_wp2;obtain ⟨x,a0⟩:∃ x:FcW,x=⟨⟨A,j,c,I⟩,⟨R,T,U,eL⟩,⟨V,Z,kc,kL⟩,⟨jA,jn,jc,jL⟩,⟨vA,vn,vc,vL⟩⟩:=⟨_,rfl⟩;have cv:=uA (show vO w w.heap.size x by rw [a0];exact HX.o);have cw:=uA (show iK x by rw [a0];exact b3.o);have bt:Hdd (x=⟨⟨A,j,c,I⟩,⟨R,T,U,eL⟩,⟨V,Z,kc,kL⟩,⟨jA,jn,jc,jL⟩,⟨vA,vn,vc,vL⟩⟩):=a0;have cx:Hdd (EE w x ⟨E,j,C,M⟩ F 0 wr):=⟨⟨⟨E,j,C,M⟩,⟨R,T,U,eL⟩,⟨V,Z,kc,kL⟩,⟨jA,jn,jc,jL⟩,⟨vA,vn,vc,vL⟩⟩,ba.o,rfl,(fun i hi=>by
    rw [if_neg bB,a0];obtain rfl | rfl | rfl | rfl:i=1\/i=2\/i=3\/i=4:=by omega
    all_goals rfl),cu.o,HA.o,Ai aj HS.o,bb.o⟩
   have bl:=uB wr (.cells #[.pointer (some ⟨w.heap.size,0,none⟩)] 101);have hO:=Bx.new wr [.pointer (some ⟨w.heap.size,0,none⟩)] 101;have bu:=uA hO;have bv:=uA (cx.o.below bl);have ad:=uA (Aa a1.o bl);clear bl hO;refine ⟨trivial,(mQ _ _ _).mono ?_⟩;rintro e w5 ⟨rfl,rfl⟩;gi_wp2;generalize wr.alloc (.cells #[.pointer (some ⟨w.heap.size,0,none⟩)] 101)=W4 at *;have dh:=uA (Ag.1 bu.o).1;refine wB eW (gf:=91) (lb:=#[.pointer (some ⟨wr.heap.size,0,none⟩)]) rfl (enters_of func91 fL rfl)
    (zK (n₀:=0) (Ts:=[101]) (An.2 rfl) _ eW wr.heap.size w.heap.size W4 bu.o) (Below.refl _ _) (fun _=>rfl)
    (fun G W=>EE w x ⟨E,j,C,M⟩ F G.length W/\Ab w W)
    (fun _ _ _=>False)
    (Dg (Ed EE.own _) (ownFrom_below (Ae _) ad.o.size))
    (fun _ _ _ _ _ hs _ _=>hs)
    ⟨bv.o,ad.o⟩
    (fun x a' W=>a'={ tmps:=#[wG ⟨⟨A,j,c,I⟩,⟨R,T,U,eL⟩,⟨V,Z,kc,kL⟩,⟨jA,jn,jc,jL⟩,⟨vA,vn,vc,vL⟩⟩,.pointer (some ⟨w.heap.size,0,none⟩),.pointer (some ⟨w.heap.size+1,0,none⟩),u3,u4,undef,.pointer (some ⟨w.heap.size,x.2,none⟩),.pointer (some ⟨w.heap.size,0,none⟩),.slice A j c,.slice E j C,.pointer (some ⟨w.heap.size,0,none⟩),.pointer (some ⟨w.heap.size,0,none⟩),.slice E j C,.int .i64 (j:Int),.int .i64 (j:Int),.bool false,u16,u17,u18,u19,u20,u21,u22,u23,u24,u25,.func (.func 91) #[] #[.pointer (some ⟨wr.heap.size,0,none⟩)],.int .i64 x.1,.pointer (some ⟨w.heap.size,x.2,none⟩),undef,undef,undef,undef,undef,undef,undef],defers:=[] })
    (fun x a' _ X Y di hs hg hr=>hs)
    ?assign ?body ?done ?stop
   case assign=>
    rintro l' G ⟨x1,x2⟩ W5 K hI ae hK;have HK:=uA hK;have HI:=uA hI;clear hK hI ae a0;dsimp only;gi_wp2;exact HK.o _ _ ((KeepsOthers.refl _).from _) (uT.refl _ _ _) HI.o rfl
   case body=>
    rintro l' G ⟨x1,x2⟩ a' W5 ⟨hC,hB⟩ rfl ae;obtain ⟨hx,cy⟩:=pX ae;rw [Eh] at hx;obtain ⟨rfl,rfl⟩:=hx;have ao:=uA (show (G++[((G.length:Int),G.length+1)]).length=G.length+1 by simp);obtain ⟨k,hk⟩:∃ k,G.length=k:=⟨_,rfl⟩;simp only [hk] at hC cy ao ⊢;clear ae hk a0;obtain ⟨t,h1,h2,h3,h4,h5,h6,h7⟩:=hC;have z1:=FcW.cell_at h1 (k:=k+1) bB;have b0:=h3 (k+1) bB;rw [if_neg bB] at b0;rw [b0] at z1;have a2:=uA (SV (x.at_ (k+1)) W5 (((FcW.at_ok cv.o (k+1)).below hB).more hB.size) (FcW.at_sm cw.o (k+1)));have H1:=uA h1;have H2:=uA h2;have H3:=uA h3;have H4:=uA h4;have H5:=uA h5;have H6:=uA h6;have H7:=uA h7;have af:=uA hB;clear h1 h2 h3 h4 h5 h6 h7 hB b0;obtain ⟨⟨sA,sn,sc,sL⟩,hs⟩:∃ s,x.at_ (k+1)=s:=⟨_,rfl⟩;rw [hs] at z1 a2;have d6:=uA hs;clear hs;gi_wp2_with (refine ⟨trivial,?_⟩;gi_at_call 57;refine (CallsIn.inRound l' (callsIn_wide.2 a2.o)).mono ?_;rintro e w7 ⟨⟨qA,qn,qc,qL⟩,h9,hq,ho,ag⟩;obtain rfl:e=.returned (.slice qA qn qc):=h9;have HQ:=uA hq;have d7:=uA ho;have O:=uA ag;have z2:=(FcW.cell_at (H1.o.below ag) (k:=k+1) bB);have z3:=(H1.o.below ag).frozen (k+1);clear hq ho ag z1)
    have hT:=(Turn.of_below (S:=fun q=>q=w.heap.size) O.o).setCell (a:=⟨w.heap.size,k+1,none⟩) (.inl rfl) (.slice qA qn qc);have d8:=O.o.size;have ah:∀ {bw:Nat},w.heap.size < bw->yJ bw w7 (w7.setCell ⟨w.heap.size,k+1,none⟩ (.slice qA qn qc)):=fun h=>yJ.setCell (a:=⟨w.heap.size,k+1,none⟩) h _
    refine ⟨hT.keepsFrom (fun q hq=>⟨_,_,_,hq ▸ H1.o⟩) _,hT.keepD (fun q hq=>⟨Am _,fun cs u fr h=>by
     subst hq;rw [show W5.heap[w.heap.size]?=_ from H1.o] at h;injection h with h;injection h with _ h _;rw [<-h];decide⟩),?_,(Aa af.o O.o).setCell (p:=⟨w.heap.size,k+1,none⟩) (Ae _) _⟩
    rw [ao.o];refine ⟨t.set_ (k+1) ⟨qA,qn,qc,qL⟩,?_,(FcW.set_loans _ _ _).trans H2.o,fun i hi=>?_,vU (uC H4.o O.o) (ah bB),fun y hy=>vU (uC (H5.o y hy) O.o) (ah bB),by rw [Db];exact Ai H6.o d8,(H7.o.below O.o).other (a:=⟨w.heap.size,k+1,none⟩) (show w.heap.size≠w.heap.size+1 by omega) _⟩
    ·rw [FcW.set_c bB];exact (H1.o.below O.o).set (k+1) (.slice qA qn qc)
    ·rw [FcW.set_at bB hi];have h3:=H3.o i hi;by_cases e1:i=k+1
     ·rw [if_pos e1,if_pos bB,e1,d6.o];exact ⟨vU (uI (show w7.ownsRow W5.heap.size 54 2 (.slice qA qn qc) qn (qL.flatMap pV) from d7.o) H6.o) (ah bB),HQ.o⟩
     ·rw [if_neg e1];by_cases e2:i<=k
      ·rw [if_pos e2] at h3;rw [if_pos bB];exact ⟨vU (uC h3.1 O.o) (ah bB),h3.2⟩
      ·rw [if_neg e2] at h3;rw [if_neg bB];exact h3
   case done=>
    rintro D ys W5 hD bx ⟨hC,hB⟩ hK;rw [bx] at hC;obtain ⟨t,h1,h2,h3,h4,h5,h6,h7⟩:=(show EE w x ⟨E,j,C,M⟩ F 4 W5 from hC);have ap:pF W5 (w.heap.size+2) t/\oG x t=true:=by
     have e1:=h3 1 eW;have e2:=h3 2 eW;have e3:=h3 3 eW;have e4:=h3 4 eW;rw [if_pos eW] at e1 e2 e3 e4;refine ⟨⟨?_,?_,e1.1,e2.1,e3.1,e4.1⟩,iD.2 ⟨?_,e1.2.symm,e2.2.symm,e3.2.symm,e4.2.symm⟩⟩
     ·rw [h2];exact h4
     ·intro y hy;rw [h2] at hy;exact uI (h5 y hy) aj
     ·rw [h2,bt.o];exact ct.o.symm
    have aq:=uA ap;have H1:=uA h1;have H7:=uA h7;have af:=uA hB;have dj:w.heap.size+2<=D:=by
     obtain ⟨_,_,_,_,_,_,d9,_⟩:=bv.o;exact Ai d9 hD
    clear hC h1 h2 h3 h4 h5 h6 h7 hB ap a0 bx;obtain ⟨⟨tA,tn,tc,tL⟩,⟨aA,an,ac,aL⟩,⟨bA,bn,bc,bL⟩,⟨cA,cn,cc,cL⟩,⟨dA,dn,dc,dL⟩⟩:=t;have z0:=H1.o.q 0 rfl;have z1:=H1.o.q 1 rfl;have z2:=H1.o.q 2 rfl;have z3:=H1.o.q 3 rfl;have z4:=H1.o.q 4 rfl;have y0:=H7.o.q 0 rfl;have y1:=H7.o.q 1 rfl;have y2:=H7.o.q 2 rfl;have y3:=H7.o.q 3 rfl;have y4:=H7.o.q 4 rfl;have q0:=H7.o.frozen 0;have q1:=H7.o.frozen 1;have q2:=H7.o.frozen 2;have q3:=H7.o.frozen 3;have q4:=H7.o.frozen 4;have d0:=hK;have d1:=(Bz W5 ⟨w.heap.size+1,0,none⟩ (.slice tA tn tc)).same D _ d0 rfl;have d2:=(Bz (W5.setCell ⟨w.heap.size+1,0,none⟩ (.slice tA tn tc)) ⟨w.heap.size+1,1,none⟩ (.slice aA an ac)).same D _ d1 rfl;have d3:=(Bz ((W5.setCell ⟨w.heap.size+1,0,none⟩ (.slice tA tn tc)).setCell ⟨w.heap.size+1,1,none⟩ (.slice aA an ac)) ⟨w.heap.size+1,2,none⟩ (.slice bA bn bc)).same D _ d2 rfl;have d4:=(Bz (((W5.setCell ⟨w.heap.size+1,0,none⟩ (.slice tA tn tc)).setCell ⟨w.heap.size+1,1,none⟩ (.slice aA an ac)).setCell ⟨w.heap.size+1,2,none⟩ (.slice bA bn bc)) ⟨w.heap.size+1,3,none⟩ (.slice cA cn cc)).same D _ d3 rfl;have d5:=(Bz ((((W5.setCell ⟨w.heap.size+1,0,none⟩ (.slice tA tn tc)).setCell ⟨w.heap.size+1,1,none⟩ (.slice aA an ac)).setCell ⟨w.heap.size+1,2,none⟩ (.slice bA bn bc)).setCell ⟨w.heap.size+1,3,none⟩ (.slice cA cn cc)) ⟨w.heap.size+1,4,none⟩ (.slice dA dn dc)).same D _ d4 rfl;have ai:=uA d5;have a7:=uA (((((H7.o.set 0 (.slice tA tn tc)).set 1 (.slice aA an ac)).set 2 (.slice bA bn bc)).set 3 (.slice cA cn cc)).set 4 (.slice dA dn dc));have da:=uA (((((af.o.setCell (p:=⟨w.heap.size+1,0,none⟩) (Cc _) (.slice tA tn tc)).setCell (p:=⟨w.heap.size+1,1,none⟩) (Cc _) (.slice aA an ac)).setCell (p:=⟨w.heap.size+1,2,none⟩) (Cc _) (.slice bA bn bc)).setCell (p:=⟨w.heap.size+1,3,none⟩) (Cc _) (.slice cA cn cc)).setCell (p:=⟨w.heap.size+1,4,none⟩) (Cc _) (.slice dA dn dc));have db:=uA (aq.o.1.keep (((((yJ.setCell (lo:=w.heap.size+2) (w:=W5) (a:=⟨w.heap.size+1,0,none⟩) (show w.heap.size+1 < w.heap.size+2 by omega) (.slice tA tn tc)).trans (yJ.setCell (a:=⟨w.heap.size+1,1,none⟩) (show w.heap.size+1 < w.heap.size+2 by omega) (.slice aA an ac))).trans (yJ.setCell (a:=⟨w.heap.size+1,2,none⟩) (show w.heap.size+1 < w.heap.size+2 by omega) (.slice bA bn bc))).trans (yJ.setCell (a:=⟨w.heap.size+1,3,none⟩) (show w.heap.size+1 < w.heap.size+2 by omega) (.slice cA cn cc))).trans (yJ.setCell (a:=⟨w.heap.size+1,4,none⟩) (show w.heap.size+1 < w.heap.size+2 by omega) (.slice dA dn dc))));clear d0 d1 d2 d3 d4 d5;gi_wp2;generalize (((((W5.setCell ⟨w.heap.size+1,0,none⟩ (.slice tA tn tc)).setCell ⟨w.heap.size+1,1,none⟩ (.slice aA an ac)).setCell ⟨w.heap.size+1,2,none⟩ (.slice bA bn bc)).setCell ⟨w.heap.size+1,3,none⟩ (.slice cA cn cc)).setCell ⟨w.heap.size+1,4,none⟩ (.slice dA dn dc))=W6 at *;refine ⟨nF,.inl ⟨_,_,rfl,run_takeDeferred ai.o,?_⟩⟩;have hc:=fun (i:Nat) (v:Value) (h:W6.cell? ⟨w.heap.size+1,i,none⟩=some v)=>cell_kept h (grownBy_putObj' _ D (.deferred none)) (fun r e=>by cases e;exact ⟨_,ai.o,rfl⟩)
    have c0:=hc 0 _ (a7.o.q 0 rfl);have c1:=hc 1 _ (a7.o.q 1 rfl);have c2:=hc 2 _ (a7.o.q 2 rfl);have c3:=hc 3 _ (a7.o.q 3 rfl);have c4:=hc 4 _ (a7.o.q 4 rfl);refine ⟨wG ⟨⟨tA,tn,tc,tL⟩,⟨aA,an,ac,aL⟩,⟨bA,bn,bc,bL⟩,⟨cA,cn,cc,cL⟩,⟨dA,dn,dc,dL⟩⟩,(by simp [results,Tryz.results21,go_sem,c0,c1,c2,c3,c4]),⟨⟨tA,tn,tc,tL⟩,⟨aA,an,ac,aL⟩,⟨bA,bn,bc,bL⟩,⟨cA,cn,cc,cL⟩,⟨dA,dn,dc,dL⟩⟩,rfl,(db.o.owns (grownBy_putObj' _ D _) (fun r e=>by cases e;exact ⟨_,ai.o,rfl⟩)).base (C7 _ 2),?_,da.o.trans (belowK_b (w:=w) (Ae _) W6 D _ _ bB ai.o rfl rfl)⟩;have he:=aq.o.2;rw [bt.o] at he;exact he
   case stop=>
    rintro D cd G W5 hD df hF;exact hF.elim
end
theorem uEf (x:FcW) (w:World) (b:vO w w.heap.size x) (d:iK x) :
 Calls prog 21 #[wG x] w fun e a=>∃ t:FcW,e=.returned (wG t)/\vO a a.heap.size t/\oG x t=true/\Ab w a:=by
 refine (AP x w b d).mono ?_;rintro e a ⟨t,rfl,f,c,g⟩;exact ⟨t,rfl,f.one b c,c,g⟩
def IX (a:Bool) (w:World):List Obj:=[.cells #[.string ⟨#[102]⟩,.slice (some ⟨w.heap.size+1,0,none⟩) 1 1,.slice none 0 0,.slice (some ⟨w.heap.size+1+1,0,none⟩) 2 2,.slice (some ⟨w.heap.size+1+1+1,0,none⟩) 2 2,.int .i64 0,.slice (some ⟨w.heap.size+1+1+1+1+1,0,none⟩) 1 1] 28,.cells #[.string ⟨#[97]⟩] 9,.cells #[.int .i64 2,.bool false,.int .i64 0,.int .i64 0,.slice none 0 0,.int .i64 3,.bool a,.int .i64 0,.int .i64 0,.slice none 0 0] 123,.cells #[.string ⟨#[120]⟩,.int .i64 0,.string ⟨#[114]⟩,.int .i64 1] 125,.cells #[.int .i64 0,.int .i64 1,.slice none 0 0,.int .i64 1,.int .i64 0,.int .i64 0,.bool a,.int .i64 0,.slice none 0 0,.slice none 0 0,.int .i64 0] 69,.cells #[.slice (some ⟨w.heap.size+1+1+1+1,0,none⟩) 1 1,.int .i64 2,.slice none 0 0,.slice none 0 0,.int .i64 0,.slice none 0 0,.string .empty] 65]
theorem BY (a:Bool) (w:World):Calls prog 34 #[.bool a] w fun e c=>∃ g,e=.returned (vR (nC a g))/\uS c c.heap.size (nC a g)/\Ab w c:=by
 have d:=uA (jH (IX a w) w _ (Ae _));have f:=uA (IP (IX a w) w);have b:=uA fun (i:Nat) (cs:List Value) (T:TypeId) (h:(IX a w)[i]?=some (.cells cs.toArray T))=>WU (IX a w) w i cs T h
 go_enter func34,ntmps34
 go_wp2;have j:=b.o 0 [.string ⟨#[102]⟩,.slice (some ⟨w.heap.size+1,0,none⟩) 1 1,.slice none 0 0,.slice (some ⟨w.heap.size+1+1,0,none⟩) 2 2,.slice (some ⟨w.heap.size+1+1+1,0,none⟩) 2 2,.int .i64 0,.slice (some ⟨w.heap.size+1+1+1+1+1,0,none⟩) 1 1] 28 rfl;refine bodyPost_ret (results_cell_row rfl _ _ w.heap.size _ #[.string ⟨#[102]⟩,.slice (some ⟨w.heap.size+1,0,none⟩) 1 1,.slice none 0 0,.slice (some ⟨w.heap.size+1+1,0,none⟩) 2 2,.slice (some ⟨w.heap.size+1+1+1,0,none⟩) 2 2,.int .i64 0,.slice (some ⟨w.heap.size+1+1+1+1+1,0,none⟩) 1 1] (0,0) _ rfl j underlying28 rfl fL) rfl ?_;refine ⟨w.heap.size+1,rfl,?_,d.o⟩;exact ZA a (lay w (IX a w)) (w.heap.size+1) (Cw f.o.symm) (b.o 1 _ _ rfl) (b.o 2 _ _ rfl) (b.o 3 _ _ rfl) (b.o 4 _ _ rfl) (b.o 5 _ _ rfl)
structure mW (mu:Bool) (w:World) (t:FcW):Prop where
 one:vO w w.heap.size t
 ls:t.loans.L.map LnW.v=[⟨0,0,mu,⟨0,[]⟩⟩]
 es:t.edges.L=[(0,1)]
 ks:t.killed.L=[]
 js:t.invalid.L=if mu then [(0,0)] else []
 vs:t.live.L=[]
theorem mW.nums {a:Bool} {w:World} {t:FcW} (h:mW a w t):t.loans.n=1/\t.edges.n=1/\t.killed.n=0/\t.invalid.n=(if a then 1 else 0)/\t.live.n=0:=by
 refine ⟨?_,?_,?_,?_,?_⟩
 ·rw [<-h.one.loans.len,<- Ao,h.ls];rfl
 ·rw [<-h.one.edges.len,h.es];rfl
 ·rw [<-h.one.killed.len,h.ks];rfl
 ·rw [<-h.one.invalid.len,h.js];cases a <;> rfl
 ·rw [<-h.one.live.len,h.vs];rfl
theorem mW.loan {b:Bool} {w:World} {t:FcW} (h:mW b w t):∃ x:LnW,t.loans.L=[x]/\x.region=0/\x.point=0/\x.mut_=b/\x.pl.l=0/\x.pl.ps=[]:=by
 obtain ⟨x,d,c⟩:=List.map_eq_singleton_iff.1 h.ls;unfold LnW.v PlW.v at c;injection c with e f g a;injection a with a i;exact ⟨x,d,e,f,g,a,i⟩
theorem mW.up {a:Bool} {w w':World} {t:FcW} (h:mW a w t) (b:Ab w w'):mW a w' t:=⟨h.one.up b,h.ls,h.es,h.ks,h.js,h.vs⟩
theorem mW.sm {b:Bool} {w:World} {t:FcW} (h:mW b w t):iK t:=by
 obtain ⟨k,d,e,f,g⟩:=h.nums;refine ⟨?_,bB,fun l a=>?_⟩
 ·rw [d,e,f,g];cases b <;> decide
 ·obtain ⟨x,i,_,_,_,_,j⟩:=h.loan;have c:=(h.one.loans.all l a).pl.prs.len;rw [i] at a;rw [An.1 a,j] at c;rw [An.1 a,<- c];exact Am _
theorem mW.size {w:World} {t:FcW} (h:mW true w t):PR t=3:=by
 obtain ⟨a,b,c,d,e⟩:=h.nums;unfold PR;rw [a,b,c,d,e];rfl
theorem mW.check {w:World} {t:FcW} (h:mW true w t):fcE t 2 1=0:=by
 obtain ⟨c,d,e,f,g⟩:=h.nums;obtain ⟨x,i,a,b,m,j,k⟩:=h.loan;unfold fcE;rw [c,d,e,f,g,h.es,h.ks,h.js,h.vs,i,if_neg eW];have l:lT 2 1 [x]=0:=by
  unfold lT;rw [oR,if_pos,oR];exact OV (by rw [a];decide) (by rw [a];decide) (by rw [b];decide) (by rw [b];decide) (by rw [j,k];decide) rfl
 rw [l];decide
theorem uAj {w w':World} {s t:FcW} (h:mW false w s) (k:mW true w' t):oG s t=false:=by
 cases e:oG s t
 ·rfl
 ·have a:=(iD.1 e).1;rw [h.ls,k.ls] at a;injection a with a;injection a with _ _ a;cases a
theorem cC (w:World) (hT:gW w):Calls prog 11 #[] w fun e E=>e=.returned (.bool true)/\Ab w E:=by
 have ai:=uA fun (E:World)=>BY false E
 have aj:=uA fun (E:World)=>BY true E
 have HX:=uA fun (mu:Bool) (g:Nat) (E:World) (b:Ab w E) (h:uS E E.heap.size (nC mu g))=>uHs mu g E h (hT.up b)
 clear hT;go_enter func11,ntmps11
 go_wp2_with fail
 refine (ai.o _).mono ?_;rintro e w1 ⟨g1,rfl,ak,ab⟩;have H1:=uA ab;have al:=uA (HX.o false g1 w1 ab ak);clear ab ak;go_wp2_with fail
 refine al.o.mono ?_;rintro e w2 ⟨F,rfl,hF,l1,l2,l3,l4,l5,am⟩;have H2:=uA (Aa H1.o am);have HF:Hdd (mW false w2 F):=⟨hF,l1,l2,l3,l4,l5⟩;clear hF l1 l2 l3 l4 l5 am;obtain ⟨q1,q2,q3,q4,q5⟩:=HF.o.nums;obtain ⟨x,hx,r1,r2,r3,r4,r5⟩:=HF.o.loan;obtain ⟨b,o,hA,hb,_,z0,z1,_⟩:=eC HF.o.one.loans (Below.refl _ _) (i:=0) (x:=x) (by rw [hx];rfl);obtain ⟨X,Y,hE,a4,_,y0⟩:=HF.o.one.edges.at_ (i:=0) (x:=(0,1)) (by rw [HF.o.es];rfl);have y1:=y0 0 _ rfl;have y2:=y0 1 _ rfl;rw [r2] at z1;obtain ⟨⟨A,n,c,L⟩,⟨eA,en,ec,eL⟩,⟨kA,kn,kc,kL⟩,⟨jA,jn,jc,jL⟩,⟨vA,vn,vc,vL⟩⟩:=F;have hA:A=some ⟨b,o,none⟩:=hA;have hE:eA=some ⟨X,Y,none⟩:=hE;have q1:n=1:=q1;have q2:en=1:=q2;have q3:kn=0:=q3;have q4:jn=0:=q4;have q5:vn=0:=q5;subst hA hE q1 q2 q3 q4 q5;simp only [Fc,Dl] at z1 y1 y2;have bf:=uB w2 (.cells #[.slice (some ⟨b,o,none⟩) 1 c,.slice (some ⟨X,Y,none⟩) 1 ec,.slice kA 0 kc,.slice jA 0 jc,.slice vA 0 vc] 33);have an:=uA (Bx.new w2 [.slice (some ⟨b,o,none⟩) 1 c,.slice (some ⟨X,Y,none⟩) 1 ec,.slice kA 0 kc,.slice jA 0 jc,.slice vA 0 vc] 33);have ac:=uA bf;have H3:=uA (Aa H2.o bf);have ad:=uA (And.intro hb z1);have Z:=uA (And.intro a4 (And.intro y1 y2));clear bf hx r1 r2 r3 r4 r5 z0 z1 y0 y1 y2 hb a4;go_wp2_with fail
 refine (aj.o _).mono ?_;rintro e w4 ⟨g2,rfl,ao,ae⟩;have a5:=uA ae;have H4:=uA (Aa H3.o ae);have ap:=uA (HX.o true g2 w4 H4.o ao);clear ae ao;go_wp2_with fail
 refine ap.o.mono ?_;rintro e O ⟨G,rfl,hG,l1,l2,l3,l4,l5,af⟩;have ag:=uA af;have H5:=uA (Aa H4.o af);have HG:Hdd (mW true O G):=⟨hG,l1,l2,l3,l4,l5⟩;clear hG l1 l2 l3 l4 l5 af;obtain ⟨q1,q2,q3,q4,q5⟩:=HG.o.nums;obtain ⟨J,f,hJ,ah,_,x0⟩:=HG.o.one.invalid.at_ (i:=0) (x:=(0,0)) (by rw [HG.o.js];rfl);obtain ⟨xg,aq⟩:=HG.o.one.loans.get (i:=0) (by rw [q1];decide);obtain ⟨K,M,hA,hb,_⟩:=HG.o.one.loans.at_ aq;obtain ⟨yg,ar⟩:=HG.o.one.edges.get (i:=0) (by rw [q2];decide);obtain ⟨l,m,hE,a4,_⟩:=HG.o.one.edges.at_ ar;clear aq ar;have x1:=x0 0 _ rfl;have x2:=x0 1 _ rfl;clear x0;obtain ⟨bb,rfl⟩:∃ z,J=z:=⟨_,rfl⟩;obtain ⟨⟨A',n',R,L'⟩,⟨b1,b2,r,a0⟩,⟨s,b3,t,a1⟩,⟨b4,b5,B,a2⟩,⟨C,b6,D,a3⟩⟩:=G;have hA:A'=some ⟨K,M,none⟩:=hA;have hE:b1=some ⟨l,m,none⟩:=hE;have hJ:b4=some ⟨J,f,none⟩:=hJ;have q1:n'=1:=q1;have q2:b2=1:=q2;have q3:b3=0:=q3;have q4:b5=1:=q4;have q5:b6=0:=q5;subst hA hE hJ q1 q2 q3 q4 q5;simp only [Fc,Dl] at x1 x2;have bg:=uB O (.cells #[.slice (some ⟨K,M,none⟩) 1 R,.slice (some ⟨l,m,none⟩) 1 r,.slice s 0 t,.slice (some ⟨J,f,none⟩) 1 B,.slice C 0 D] 33);have au:=Bx.new O [.slice (some ⟨K,M,none⟩) 1 R,.slice (some ⟨l,m,none⟩) 1 r,.slice s 0 t,.slice (some ⟨J,f,none⟩) 1 B,.slice C 0 D] 33;have av:=((an.o.below a5.o).below ag.o).below bg;have a6:=ac.o.trans (((Aa a5.o ag.o).mono ac.o.size));have b7:=uA bg;have H6:=uA (Aa H5.o bg);have HZ:=uA (show (O.alloc (.cells #[.slice (some ⟨K,M,none⟩) 1 R,.slice (some ⟨l,m,none⟩) 1 r,.slice s 0 t,.slice (some ⟨J,f,none⟩) 1 B,.slice C 0 D] 33)).cell? ⟨b,o+1,none⟩=some (.int .i64 0)/\(O.alloc (.cells #[.slice (some ⟨K,M,none⟩) 1 R,.slice (some ⟨l,m,none⟩) 1 r,.slice s 0 t,.slice (some ⟨J,f,none⟩) 1 B,.slice C 0 D] 33)).cell? ⟨X,Y,none⟩=some (.int .i64 0)/\(O.alloc (.cells #[.slice (some ⟨K,M,none⟩) 1 R,.slice (some ⟨l,m,none⟩) 1 r,.slice s 0 t,.slice (some ⟨J,f,none⟩) 1 B,.slice C 0 D] 33)).cell? ⟨X,Y+1,none⟩=some (.int .i64 1)/\(O.alloc (.cells #[.slice (some ⟨K,M,none⟩) 1 R,.slice (some ⟨l,m,none⟩) 1 r,.slice s 0 t,.slice (some ⟨J,f,none⟩) 1 B,.slice C 0 D] 33)).cell? ⟨J,f,none⟩=some (.int .i64 0)/\(O.alloc (.cells #[.slice (some ⟨K,M,none⟩) 1 R,.slice (some ⟨l,m,none⟩) 1 r,.slice s 0 t,.slice (some ⟨J,f,none⟩) 1 B,.slice C 0 D] 33)).cell? ⟨J,f+1,none⟩=some (.int .i64 0) from
  have k:=(Aa a6 bg)
  ⟨(k.cell (p:=⟨b,o+1,none⟩) ad.o.1).trans ad.o.2,(k.cell (p:=⟨X,Y,none⟩) Z.o.1).trans Z.o.2.1,(k.cell (p:=⟨X,Y+1,none⟩) Z.o.1).trans Z.o.2.2,(bg.cell (p:=⟨J,f,none⟩) ah).trans x1,(bg.cell (p:=⟨J,f+1,none⟩) ah).trans x2⟩)
 have aw:=uA av;have ax:=uA au;have bc:=fun E=>DC (v:=true) 0 1 0 1 E nF
 have bd:=fun E=>DC (v:=true) 0 0 0 0 E nF
 have ay:=uA ((HF.o.up a6).up bg);have N:=uA (HG.o.up bg);have b8:=uA (Below.refl (O.alloc (.cells #[.slice (some ⟨K,M,none⟩) 1 R,.slice (some ⟨l,m,none⟩) 1 r,.slice s 0 t,.slice (some ⟨J,f,none⟩) 1 B,.slice C 0 D] 33)).heap.size (O.alloc (.cells #[.slice (some ⟨K,M,none⟩) 1 R,.slice (some ⟨l,m,none⟩) 1 r,.slice s 0 t,.slice (some ⟨J,f,none⟩) 1 B,.slice C 0 D] 33)));clear x1 x2 bg au av a6 ah hb a4 HX al ap ai aj HF HG;have hcx:=uA fun (E:World) (y:Ab (O.alloc (.cells #[.slice (some ⟨K,M,none⟩) 1 R,.slice (some ⟨l,m,none⟩) 1 r,.slice s 0 t,.slice (some ⟨J,f,none⟩) 1 B,.slice C 0 D] 33)) E)=>(show (E.cell? ⟨w2.heap.size,0,none⟩=some (.slice (some ⟨b,o,none⟩) 1 c)/\E.cell? ⟨w2.heap.size,1,none⟩=some (.slice (some ⟨X,Y,none⟩) 1 ec)/\E.cell? ⟨w2.heap.size,2,none⟩=some (.slice kA 0 kc)/\E.cell? ⟨w2.heap.size,3,none⟩=some (.slice jA 0 jc)/\E.cell? ⟨w2.heap.size,4,none⟩=some (.slice vA 0 vc))/\(E.cell? ⟨O.heap.size,0,none⟩=some (.slice (some ⟨K,M,none⟩) 1 R)/\E.cell? ⟨O.heap.size,1,none⟩=some (.slice (some ⟨l,m,none⟩) 1 r)/\E.cell? ⟨O.heap.size,2,none⟩=some (.slice s 0 t)/\E.cell? ⟨O.heap.size,3,none⟩=some (.slice (some ⟨J,f,none⟩) 1 B)/\E.cell? ⟨O.heap.size,4,none⟩=some (.slice C 0 D))/\E.cell? ⟨b,o+1,none⟩=some (.int .i64 0)/\E.cell? ⟨X,Y,none⟩=some (.int .i64 0)/\E.cell? ⟨X,Y+1,none⟩=some (.int .i64 1)/\E.cell? ⟨J,f,none⟩=some (.int .i64 0)/\E.cell? ⟨J,f+1,none⟩=some (.int .i64 0) from
  have p:=aw.o.below y;have q:=ax.o.below y;have hk:=fun (a:Addr) (v:Value) (h:(O.alloc (.cells #[.slice (some ⟨K,M,none⟩) 1 R,.slice (some ⟨l,m,none⟩) 1 r,.slice s 0 t,.slice (some ⟨J,f,none⟩) 1 B,.slice C 0 D] 33)).cell? a=some v)=>(y.cell (Cy _ _ h)).trans h
  ⟨⟨p.q 0 rfl,p.q 1 rfl,p.q 2 rfl,p.q 3 rfl,p.q 4 rfl⟩,⟨q.q 0 rfl,q.q 1 rfl,q.q 2 rfl,q.q 3 rfl,q.q 4 rfl⟩,hk _ _ HZ.o.1,hk _ _ HZ.o.2.1,hk _ _ HZ.o.2.2.1,hk _ _ HZ.o.2.2.2.1,hk _ _ HZ.o.2.2.2.2⟩)
 clear aw ax HZ an ad Z ac a5 ag b7;have HD:=uA b8.o.drew;go_wp2;refine wp_region_held_drew (S:=(fun E=>Ab (O.alloc (.cells #[.slice (some ⟨K,M,none⟩) 1 R,.slice (some ⟨l,m,none⟩) 1 r,.slice s 0 t,.slice (some ⟨J,f,none⟩) 1 B,.slice C 0 D] 33)) E)) fL HD.o (fun hHeld=>?_);refine uJ [0,1,2,3,4,5,6,7,8,9,10,11,12,13,14,15,16,17,18,19,20,21,22,23,24,25,26,27,28,29,30,31,32,33,34,35,36,37,38,39,40,41,42,43,44,45,46,47,48,49,50,51,52,53,54,55,56,57,58,59,60,61] ?_
 repeat' (first | refine pT hHeld rfl ?_ | refine pS hHeld rfl ?_)
 refine uK ?_;refine wpAnyH_ready (rs:=[62]) fL nF ?_;refine AllReadyH.cons rfl (fun KZ V=>?_) AllReadyH.nil;go_simp;refine (uA2 (x:=⟨⟨some ⟨K,M,none⟩,1,R,L'⟩,⟨some ⟨l,m,none⟩,1,r,a0⟩,⟨s,0,t,a1⟩,⟨some ⟨J,f,none⟩,1,B,a2⟩,⟨C,0,D,a3⟩⟩) N.o.size _ (N.o.up HD.o).one N.o.sm).mono ?_;rintro e w7 ⟨rfl,I⟩;have a7:=uA (Aa HD.o I);clear I;refine V.out _ _ a7.o (fun hHeld=>?_);clear V KZ;try simp only [Ac]
 refine uJ [63,64,65,66] ?_
 repeat' (first | refine pT hHeld rfl ?_ | refine pS hHeld rfl ?_)
 refine uK ?_;refine wpAnyH_ready (rs:=[67]) fL nF ?_;refine AllReadyH.cons rfl (fun KZ V=>?_) AllReadyH.nil;go_simp;refine (RG (x:=⟨⟨some ⟨K,M,none⟩,1,R,L'⟩,⟨some ⟨l,m,none⟩,1,r,a0⟩,⟨s,0,t,a1⟩,⟨some ⟨J,f,none⟩,1,B,a2⟩,⟨C,0,D,a3⟩⟩) N.o.check _ (N.o.up a7.o).one (mE eW) (mE eW)).mono ?_;rintro e w8 ⟨rfl,I⟩;have a8:=uA (Aa a7.o I);clear I;refine V.out _ _ a8.o (fun hHeld=>?_);clear V KZ;try simp only [Ac]
 refine uJ [68,69,70,71,72] ?_
 repeat' (first | refine pT hHeld rfl ?_ | refine pS hHeld rfl ?_)
 refine uK ?_;refine wpAnyH_ready (rs:=[73]) fL nF ?_;refine AllReadyH.cons rfl (fun KZ V=>?_) AllReadyH.nil;go_simp;refine (uEf ⟨⟨some ⟨K,M,none⟩,1,R,L'⟩,⟨some ⟨l,m,none⟩,1,r,a0⟩,⟨s,0,t,a1⟩,⟨some ⟨J,f,none⟩,1,B,a2⟩,⟨C,0,D,a3⟩⟩ _ (N.o.up a8.o).one N.o.sm).mono ?_;rintro e w9 ⟨T,rfl,az,b0,I⟩;have a9:=uA (Aa a8.o I);have b9:=uA az;have ba:=uA b0;clear az b0;clear I;refine V.out _ _ a9.o (fun hHeld=>?_);clear V KZ;try simp only [Ac]
 refine wpAnyH_ready (rs:=[74]) fL nF ?_;refine AllReadyH.cons rfl (fun KZ V=>?_) AllReadyH.nil;go_simp;refine (lN (x:=⟨⟨some ⟨K,M,none⟩,1,R,L'⟩,⟨some ⟨l,m,none⟩,1,r,a0⟩,⟨s,0,t,a1⟩,⟨some ⟨J,f,none⟩,1,B,a2⟩,⟨C,0,D,a3⟩⟩) ba.o _ (N.o.up a9.o).one b9.o).mono ?_;rintro e be ⟨rfl,I⟩;have U:=uA (Aa a9.o I);clear I;refine V.out _ _ U.o (fun hHeld=>?_);clear V KZ;try simp only [Ac]
 refine uJ [75,76,77,78] ?_
 repeat' (first | refine pT hHeld rfl ?_ | refine pS hHeld rfl ?_)
 refine uK ?_;refine wpAnyH_ready (rs:=[79]) fL nF ?_;refine AllReadyH.cons rfl (fun KZ V=>?_) AllReadyH.nil;go_simp;refine (lN (x:=⟨⟨some ⟨b,o,none⟩,1,c,L⟩,⟨some ⟨X,Y,none⟩,1,ec,eL⟩,⟨kA,0,kc,kL⟩,⟨jA,0,jc,jL⟩,⟨vA,0,vc,vL⟩⟩) (y:=⟨⟨some ⟨K,M,none⟩,1,R,L'⟩,⟨some ⟨l,m,none⟩,1,r,a0⟩,⟨s,0,t,a1⟩,⟨some ⟨J,f,none⟩,1,B,a2⟩,⟨C,0,D,a3⟩⟩) (uAj ay.o N.o) _ (ay.o.up U.o).one (N.o.up U.o).one).mono ?_;rintro e bh ⟨rfl,I⟩;have aa:=uA (Aa U.o I);clear I;refine V.out _ _ aa.o (fun hHeld=>?_);clear V KZ;try simp only [Ac]
 refine uJ [80,81,82] ?_
 repeat' (first | refine pT hHeld rfl ?_ | refine pS hHeld rfl ?_)
 refine uK ?_;refine wpAnyH_done fL ?_ _;go_wp2;go_ret;exact ⟨rfl,(Aa H6.o aa.o)⟩
section
open Go.ChangeShapes Go.WideShapes Go.ChangeAt
section
variable {H:Type} {enc:TypeId×Value->H} {W:World} {fuel:Nat} {cs:List Value} {u:Value} {z:DataW H×List MemPlace}
theorem uFy (c:cs.length=5) (h:DataW.trod enc prog W 0 (fun _=>true) true fuel 50 cs=some z):∃ x:LnW,cs=cLn x/\zP W W.heap.size x/\(Fit prog 50 z.1->x.pl.n<=2 ^ 47):=by
 match cs,c with
 | [u0,u1,u2,u3,u4],_=>
   obtain ⟨d,e,f,F⟩:=yE (j:=0) (off:=0) (k:=1) (t:=3) underlying50 fL h;obtain ⟨g,i,l,G⟩:=yE (j:=1) (off:=1) (k:=1) (t:=3) underlying50 fL h;obtain ⟨m,n,o,I⟩:=yE (j:=2) (off:=2) (k:=1) (t:=4) underlying50 fL h;obtain ⟨q,r,s,v⟩:=yE (j:=3) (off:=3) (k:=2) (t:=48) underlying50 fL h;obtain ⟨w,rfl,y⟩:=gR underlying3 (show DataW.trod enc prog W 0 (fun _=>true) true d 3 [u0]=some e from f);obtain ⟨A,rfl,B⟩:=gR underlying3 (show DataW.trod enc prog W 0 (fun _=>true) true g 3 [u1]=some i from l);obtain ⟨C,rfl⟩:=XR underlying4 (show DataW.trod enc prog W 0 (fun _=>true) true m 4 [u2]=some n from o);obtain ⟨p,a,D,E⟩:=uF9 (cs:=[u3,u4]) rfl (show DataW.trod enc prog W 0 (fun _=>true) true q 48 [u3,u4]=some r from s);injection a with a b;injection b with b _;subst a b;exact ⟨⟨w,A,C,p⟩,rfl,⟨y,B,D⟩,fun hF=>E (v hF)⟩
theorem lI (h:DataW.trod enc prog W 0 (fun _=>true) true fuel 23 [u]=some z):∃ s:SlW Pr,u=.slice s.A s.n s.c/\PrS W W.heap.size s/\(Fit prog 23 z.1->s.n<=2 ^ 47/\∀ x∈s.L,True):=
 AR pV xH (fun _=>True) eW uY underlying23 fL (of_decide_eq_true fL) (fun fuel cs z a h=>by
  obtain ⟨x,e,b⟩:=WF a h;exact ⟨x,e,b,fun _=>trivial⟩) h
theorem uHr (a:cs.length=5) (h:DataW.trod enc prog W 0 (fun _=>true) true fuel 33 cs=some z):∃ x:FcW,cs=cFc x/\vO W W.heap.size x/\(Fit prog 33 z.1->oJ x):=by
 match cs,a with
 | [u0,u1,u2,u3,u4],_=>
   obtain ⟨d,e,f,b⟩:=yE (j:=0) (off:=0) (k:=1) (t:=31) underlying33 fL h;obtain ⟨g,i,m,n⟩:=yE (j:=1) (off:=1) (k:=1) (t:=23) underlying33 fL h;obtain ⟨o,p,q,r⟩:=yE (j:=2) (off:=2) (k:=1) (t:=23) underlying33 fL h;obtain ⟨s,v,w,y⟩:=yE (j:=3) (off:=3) (k:=1) (t:=23) underlying33 fL h;obtain ⟨A,B,C,D⟩:=yE (j:=4) (off:=4) (k:=1) (t:=23) underlying33 fL h;obtain ⟨E,rfl,F,c⟩:=AR cLn (zP W W.heap.size) (fun l=>l.pl.n<=2 ^ 47) eW xX underlying31 fL (of_decide_eq_true fL) (fun fuel cs z a h=>uFy a h) (show DataW.trod enc prog W 0 (fun _=>true) true d 31 [u0]=some e from f);obtain ⟨G,rfl,I,J⟩:=lI (show DataW.trod enc prog W 0 (fun _=>true) true g 23 [u1]=some i from m);obtain ⟨K,rfl,L,M⟩:=lI (show DataW.trod enc prog W 0 (fun _=>true) true o 23 [u2]=some p from q);obtain ⟨N,rfl,O,P⟩:=lI (show DataW.trod enc prog W 0 (fun _=>true) true s 23 [u3]=some v from w);obtain ⟨Q,rfl,R,S⟩:=lI (show DataW.trod enc prog W 0 (fun _=>true) true A 23 [u4]=some B from C);exact ⟨⟨E,G,K,N,Q⟩,rfl,⟨F,I,L,O,R⟩,fun hF=>⟨(c (b hF)).1,(J (n hF)).1,(M (r hF)).1,(P (y hF)).1,(S (D hF)).1,(c (b hF)).2⟩⟩
end
theorem dM {H:Type} {enc:TypeId×Value->H} {W:World} {base:Nat} {v:Value} {d:DataW H} {p:List MemPlace} (b:Value.okWide prog W .any base 33 v) (h:DataW.Trod enc prog W 0 (fun _=>true) true 33 v d p):∃ x,v=wG x/\vO W W.heap.size x/\(Fit prog 33 d->oJ x):=by
 obtain ⟨cs,rfl,a⟩:=okWide_struct underlying33 b;obtain ⟨fuel,c⟩:=h;obtain ⟨l⟩:=cs;have f:prog.cellsOf 33=5:=by kernel_rfl
 obtain ⟨x,e,g⟩:=uHr (cs:=l) (a.trans f) (by simpa [Value.cells] using c);exact ⟨x,by rw [e];rfl,g⟩
end
section
open Go.Joins Go.ChangeShapes Go.WideShapes Go.ChangeAt Go.ChangeMaps Go.WideElems
theorem uIw:prog.globalNamed "mirtower/valid.operators"=some 0:=by kernel_rfl
theorem uJf:(prog.globals[0]?).map (·.type)=some 341:=by kernel_rfl
abbrev cW:List (String×DataW Unit):=[("mirtower/valid.operators",Rows.laid_mirtower_valid_operators)]
theorem rN (os:Os) (args:Array Value):laidMetH prog cW ((World.doorLaid prog 400 os).forCall (fun _ _=>0) ⟨#[],args,[]⟩).memory:=
 laidMetH_of_parts3 (fuel:=8) (laidMet_of_run' 8 fL fL) fL fL
theorem MD:prog.cellsOf 340=4:=by kernel_rfl
theorem YN:prog.cellsOf 341=32:=by kernel_rfl
theorem uG5:prog.cellsOf 3=1:=by kernel_rfl
theorem uDh {W:World} {n:Nat} {cs:List Value} {y:DataW Unit×List MemPlace} {a:Int} (h:DataW.trod (fun _=>()) prog W 0 (fun _=>true) false n 3 cs=some y) (b:y.1=.lit (.int .i64 a)):cs=[.int .i64 a]:=by
 obtain ⟨k,rfl,rfl,_⟩:=F6 underlying3 h;have e:(DataW.lit (.int .i64 k):DataW Unit)=.lit (.int .i64 a):=b;injection e with e;injection e with _ e;rw [e]
theorem uI4 {W:World} {n:Nat} {cs:List Value} {x:DataW Unit×List MemPlace} {a b c d:Int} (h:DataW.trod (fun _=>()) prog W 0 (fun _=>true) false n 340 cs=some x) (l:x.1=.agg [.lit (.int .i64 a),.lit (.int .i64 b),.lit (.int .i64 c),.lit (.int .i64 d)]):cs=[.int .i64 a,.int .i64 b,.int .i64 c,.int .i64 d]:=by
 obtain ⟨o,p,q,r,m,rfl,k,s,t,v,w⟩:=trod_struct4 underlying340 h;have e:(DataW.agg [o.1,p.1,q.1,r.1]:DataW Unit)=.agg [.lit (.int .i64 a),.lit (.int .i64 b),.lit (.int .i64 c),.lit (.int .i64 d)]:=l;injection e with e;injection e with y e;injection e with A e;injection e with B e;injection e with C _;rw [MD] at k;have f:=uDh s y;have g:=uDh t A;have i:=uDh v B;have j:=uDh w C;simp only [uG5] at f g i j
 match cs,k with
 | [D,E,F,G],_=>
   simp at f g i j;rw [f,g,i,j]
theorem FB {W:World} (h:laidMetH prog cW W):mV W:=by
 rw [MakeChecks.laidMetH_plain _ _ _ fL] at h;obtain ⟨Y,⟨Z,t0,n,f0,p0,C,s,y,A,B,_,_⟩,_,_⟩:=h;obtain rfl:=B8 (uIw.symm.trans s);obtain rfl:=B8 (uJf.symm.trans y);obtain ⟨t,m,_,E,q,hn,v⟩:=DataW.trod_array underlying341 B;rw [YN] at q;rw [MD] at v;have o:(Rows.laid_mirtower_valid_operators:DataW Unit)=.agg (t.map (·.1)):=by injection E
 unfold Rows.laid_mirtower_valid_operators at o;injection o with o;have f:∀ (j:Nat) (a b c d:Int),j < 8->t[j]?.map Prod.fst=some (.agg [.lit (.int .i64 a),.lit (.int .i64 b),.lit (.int .i64 c),.lit (.int .i64 d)])->(n.toList.drop (j*4)).take 4=[.int .i64 a,.int .i64 b,.int .i64 c,.int .i64 d]:=by
  intro j a b c d F p;cases hq:t[j]? with
  | none=>rw [hq] at p;cases p
  | some x=>
    rw [hq] at p;exact uI4 ((v j F).trans hq) (B8 p)
 have g:∀ j:Nat,t[j]?.map Prod.fst=(t.map (·.1))[j]?:=fun j=>by rw [Ar]
 have G:=f 0 2 0 2 2 bB (by rw [g,<- o];rfl);have I:=f 1 2 1 1 1 bB (by rw [g,<- o];rfl);have J:=f 2 3 0 2 2 bB (by rw [g,<- o];rfl);have K:=f 3 3 1 2 2 bB (by rw [g,<- o];rfl);have L:=f 4 3 2 2 2 bB (by rw [g,<- o];rfl);have M:=f 5 3 3 2 1 bB (by rw [g,<- o];rfl);have N:=f 6 3 4 2 1 bB (by rw [g,<- o];rfl);have O:=f 7 3 5 1 1 bB (by rw [g,<- o];rfl);have w:n.toList=yR:=by
  have r:∀ (l:List Value) (k:Nat),l.drop k=(l.drop k).take 4++l.drop (k+4):=fun l k=>by
   rw [<-List.drop_drop];exact (Fj 4 (l.drop k)).symm
  have e:n.toList=n.toList.drop 0:=rfl;rw [e,r _ 0,r _ (0+4),r _ (0+4+4),r _ (0+4+4+4),r _ (0+4+4+4+4),r _ (0+4+4+4+4+4),r _ (0+4+4+4+4+4+4),r _ (0+4+4+4+4+4+4+4)];rw [Cs (i:=0+4+4+4+4+4+4+4+4) (by rw [q];omega)];have C:(n.toList.drop 0).take 4=_:=G;have P:(n.toList.drop (0+4)).take 4=_:=I;have Q:(n.toList.drop (0+4+4)).take 4=_:=J;have R:(n.toList.drop (0+4+4+4)).take 4=_:=K;have S:(n.toList.drop (0+4+4+4+4)).take 4=_:=L;have T:(n.toList.drop (0+4+4+4+4+4)).take 4=_:=M;have U:(n.toList.drop (0+4+4+4+4+4+4)).take 4=_:=N;have V:(n.toList.drop (0+4+4+4+4+4+4+4)).take 4=_:=O;rw [C,P,Q,R,S,T,U,V];rfl
 intro j u D;have X:=World.var?_cell s A j;rw [<-w] at D;exact X.trans (by simpa using D)
end
end Go.Proofs.YtnkjbjkoffgocaaGreatDoor
