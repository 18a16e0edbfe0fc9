import Derived.Test.YtnkjbjkoffgocaaGreatDoorQ32
import Derived.BigRegionIn
set_option linter.unusedVariables false
set_option linter.unusedSimpArgs false
set_option maxRecDepth 100000
set_option maxHeartbeats 16000000
namespace Go.Proofs.YtnkjbjkoffgocaaGreatDoor
open Tryz Go.RowKit
def uDi (c:Bool) (w:World) (e:Ending) (w':World):Prop:=∃ t:FcW,e=.returned (.tuple #[wG t,.int .i64 0])/\vO w' w'.heap.size t/\t.loans.L.map LnW.v=[⟨0,0,c,⟨0,[]⟩⟩]/\t.edges.L=[(0,1)]/\t.killed.L=[]/\t.invalid.L=(if c then [(0,0)] else [])/\t.live.L=[]/\Ab w w'
abbrev gW (w:World):Prop:=mV w
theorem gW.up {w w':World} (h:gW w) (b:Ab w w'):gW w':=mV.up h b
theorem uJe (c:Bool) (g:Nat):GN (nC c g):=by
 refine ⟨⟨?_,?_,?_,?_,?_,?_⟩,uJh c g⟩
 ·rw [DI,oO];decide
 ·show 2<=20;decide
 ·show 1<=10;decide
 ·show 2<=1000;decide
 ·show szB (nC c 0)<=3000;cases c <;> decide
 ·show 1<=200;decide
theorem uB7 (c:Bool):xF (pQ c)=[(0,1)]:=by cases c <;> decide
theorem PD (d:Bool) {g:Nat} (w:World) (l:uS w w.heap.size (nC d g)) (m:gW w) (w':World) (b:Ab w w') :
 Calls prog 35 #[vR (nC d g)] w' fun e i=>∃ A c,e=.returned (.tuple #[.slice A 0 c,.int .i64 0])/\c<=maxLen/\Ab w' i:=by
 refine (uIf m l (uJe d g) w' b).mono ?_;rintro e i ⟨A,c,rfl,k,n⟩;rw [SJ] at k ⊢;exact ⟨A,c,rfl,(yX (s:=⟨A,0,c,[]⟩) (Q:=xH) uY eW k (fun _ h=>by cases h)).cm,n⟩
theorem MG (i:Bool) {g:Nat} (w:World) (I:uS w w.heap.size (nC i g)) :
 Calls prog 37 #[vR (nC i g)] w fun e t=>∃ D c k d,e=.returned (.slice (some ⟨D,0,none⟩) 1 c)/\t.ownsRow w.heap.size 50 5 (.slice (some ⟨D,0,none⟩) 1 c) 1 ([(⟨0,0,i,⟨0,k,0,d,[]⟩⟩:LnW)].flatMap cLn)/\d<=maxLen/\Ab w t:=by
 refine (KC i w I).mono ?_;rintro e t ⟨v,rfl,A,c,⟨S,T,m,⟨l,k,n,d,U⟩⟩,rfl,F,G,u,J⟩;unfold LnW.v PlW.v at G;injection G with o z B r;injection r with r H;simp only [] at o z B r H u;subst o z B r H;have K:0=n:=vH (f:=pV) (L:=[]) uY eW u;subst K;have C:=(yX (s:=⟨k,0,d,[]⟩) (Q:=xH) uY eW u (fun _ h=>by cases h)).cm;rcases F.2 with ⟨_,h⟩ | ⟨V,M,O,h,_⟩
 ·cases h
 ·have P:=h;injection P with o z B;subst o;exact ⟨_,c,k,d,rfl,F,C,J⟩
theorem IU (h:Bool) {g:Nat} (w:World) (l:uS w w.heap.size (nC h g)) :
 Calls prog 39 #[vR (nC h g)] w fun e i=>∃ A c,e=.returned (.slice A 1 c)/\i.ownsRow w.heap.size 54 2 (.slice A 1 c) 1 ([((0:Int),(1:Int))].flatMap pV)/\Ab w i:=by
 refine (tE (nC h g) w l (by rw [DI,oO];decide) (fun b d=>?_)).mono ?_
 ·rw [DI] at d;obtain rfl:=An.1 d;exact Am _
 ·rintro e i ⟨A,c,rfl,k,d⟩;rw [DI,uB7] at k ⊢;exact ⟨A,c,rfl,k,d⟩
theorem kD (base H:Nat) (s:SlW Int) (t:Bool) (w:World) (h:OY w base H s) (i:s.n<=1000) (k:s.L=if t then [0] else []) :
 Calls prog 40 #[.slice (some ⟨H,0,none⟩) 1 1] w fun e d=>∃ A n c,e=.returned (.slice A n c)/\d.ownsRow w.heap.size 54 2 (.slice A n c) n ((if t then [((0:Int),(0:Int))] else []).flatMap pV)/\Ab w d:=by
 refine (TK base H s w h i).mono ?_;rintro e d ⟨v,rfl,A,m,c,rfl,o,g,l⟩;rw [k] at g;refine ⟨A,m,c,rfl,?_,l⟩;cases t <;> exact g
theorem FsW.his {w:World} {g t:Bool} {a:FsA} (h:FsW w g t a):∃ c s,OY w c a.HI s/\s.n<=1000/\s.L=if t then [0] else []:=by
 rcases h.hi with ⟨e,d⟩ | ⟨e,b,s,d,i,k⟩ <;> subst e
 ·exact ⟨0,_,iN 0 d,Am _,rfl⟩
 ·exact ⟨b,s,d,bB,i⟩
theorem KF (k:Bool) (lb c:Nat) (l:Option Addr) (d base:Nat) (w:World) (n:w.ownsRow base 50 5 (.slice (some ⟨lb,0,none⟩) 1 c) 1 ([(⟨0,0,k,⟨0,l,0,d,[]⟩⟩:LnW)].flatMap cLn)) (g:d<=maxLen) :
 Calls prog 36 #[.slice (some ⟨lb,0,none⟩) 1 c] w fun e h=>∃ a:FsA,e=.returned (.pointer (some ⟨a.E,0,none⟩))/\a.lb=lb/\a.c=c/\FsW h k false a/\((w.heap.size<=a.N/\w.heap.size<=a.HI)/\w.heap.size<=a.E)/\Ab w h:=by
 have r:∀ i u,[Value.int .i64 0,.int .i64 0,.bool k,.int .i64 0,.slice l 0 d][i]?=some u->w.cell? ⟨lb,i,none⟩=some u:=fun i u s=>by
  obtain ⟨b,o,m,_,t⟩:=(uM.of_own (f:=cLn) xX eW n).at_ (i:=0) rfl;injection m with m;injection m with z A;subst z A;simpa using t i u s
 refine (TG k lb c 0 0 l d w (fun h B=>⟨nJ,nJ,ZPl.one (x:=⟨0,l,0,d,[]⟩) ⟨rfl,rfl,g,nJ⟩ h B⟩) r g).mono ?_;rintro e h ⟨rfl,a,⟨C,D,F⟩,_,G,H,I⟩;exact ⟨a,by rw [F],C,D,G,⟨H,bB⟩,I⟩
theorem gK {w:World} {base k n:Nat} {e:TypeId} {v:Value} {xs:List Value} (h:w.ownsRow base e k v n xs) {S:Nat->Prop} {w':World} (d:Turn S w w') (g:∀ b,base<=b->b < w.heap.size->¬S b):w'.ownsRow base e k v n xs:=
 yZ h d fun b c=>g b (h.lt b c).1 (h.lt b c).2
theorem uHs (n:Bool) (g:Nat) (w:World) (hx:uS w w.heap.size (nC n g)) (hT:gW w):Calls prog 12 #[vR (nC n g)] w (uDi n w):=by
 have b1:=uB w (.cells #[.string ⟨#[102]⟩,.slice (some ⟨g,0,none⟩) 1 1,.slice none 0 0,.slice (some ⟨g+1,0,none⟩) 2 2,.slice (some ⟨g+1+1,0,none⟩) 2 2,.int .i64 0,.slice (some ⟨g+1+1+1+1,0,none⟩) 1 1] 28);have b2:=uB (w.alloc (.cells #[.string ⟨#[102]⟩,.slice (some ⟨g,0,none⟩) 1 1,.slice none 0 0,.slice (some ⟨g+1,0,none⟩) 2 2,.slice (some ⟨g+1+1,0,none⟩) 2 2,.int .i64 0,.slice (some ⟨g+1+1+1+1,0,none⟩) 1 1] 28)) (.cells #[.slice none 0 0,.slice none 0 0,.slice none 0 0,.slice none 0 0,.slice none 0 0] 33);have hb:=(Aa b1 b2);have W:=(Bx.new w [.string ⟨#[102]⟩,.slice (some ⟨g,0,none⟩) 1 1,.slice none 0 0,.slice (some ⟨g+1,0,none⟩) 2 2,.slice (some ⟨g+1+1,0,none⟩) 2 2,.int .i64 0,.slice (some ⟨g+1+1+1+1,0,none⟩) 1 1] 28).below b2;have kf:=Bx.new (w.alloc (.cells #[.string ⟨#[102]⟩,.slice (some ⟨g,0,none⟩) 1 1,.slice none 0 0,.slice (some ⟨g+1,0,none⟩) 2 2,.slice (some ⟨g+1+1,0,none⟩) 2 2,.int .i64 0,.slice (some ⟨g+1+1+1+1,0,none⟩) 1 1] 28)) [.slice none 0 0,.slice none 0 0,.slice none 0 0,.slice none 0 0,.slice none 0 0] 33;have I:((w.alloc (.cells #[.string ⟨#[102]⟩,.slice (some ⟨g,0,none⟩) 1 1,.slice none 0 0,.slice (some ⟨g+1,0,none⟩) 2 2,.slice (some ⟨g+1+1,0,none⟩) 2 2,.int .i64 0,.slice (some ⟨g+1+1+1+1,0,none⟩) 1 1] 28)).alloc (.cells #[.slice none 0 0,.slice none 0 0,.slice none 0 0,.slice none 0 0,.slice none 0 0] 33)).heap.size=w.heap.size+2:=by simp
 rw [Ak] at kf;have ag:=uA (PD n w hx hT _ hb);have HX:=uA fun (s:World) (b:Ab w s)=>hx.up b
 obtain ⟨pb,bb,bo,ah,_,_,_,hA,ai,_,hc⟩:=tH hx (j:=0) Nat.zero_lt_one;obtain rfl:tD n g=pb:=B8 ah;have hA:(some ⟨g+1+1+1+1,0,none⟩:Option Addr)=some ⟨bb,bo,none⟩:=hA;injection hA with hA;injection hA with e1 e2;subst e1 e2;have bh:=uA ai;have HC:=uA hc;have x0:=W.q 0 rfl;have x1:=W.q 1 rfl;have x2:=W.q 2 rfl;have x3:=W.q 3 rfl;have x4:=W.q 4 rfl;have x5:=W.q 5 rfl;have x6:=W.q 6 rfl;have a5:=uA hb;have aj:=uA W;have ak:=uA kf;have HZ:=uA I;clear b1 b2 hb W kf I hx hT ah ai hc;go_enter func12,ntmps12
 go_wp2_with fail
 refine ag.o.mono ?_;rintro e w3 ⟨LA,lc,rfl,al,J⟩;have bi:=uA al;have a6:=uA (Aa a5.o J);have m:=aj.o.below J;have am:=ak.o.below J;have an:=uA m;have ao:=uA am;have ap:=uA (show w.heap.size+2<=w3.heap.size by have:=J.size;rw [HZ.o] at this;exact this);clear x0 x1 x2 x3 x4 x5 x6;have x0:=m.q 0 rfl;have x1:=m.q 1 rfl;have x2:=m.q 2 rfl;have x3:=m.q 3 rfl;have x4:=m.q 4 rfl;have x5:=m.q 5 rfl;have x6:=m.q 6 rfl;have aq:=uA (MG n w3 (HX.o _ a6.o));clear al J m am aj ak HZ ag a5;go_wp2_with fail
 refine aq.o.mono ?_;rintro e w4 ⟨lb,c,qA,qc,rfl,a7,a8,ar⟩;have au:=uA a7;have bj:=uA a8;have a9:=uA ar;have bk:=uA (KF n lb c qA qc _ w4 a7 a8);clear x0 x1 x2 x3 x4 x5 x6 a7 a8 ar aq;go_wp2_with fail
 refine bk.o.mono ?_;rintro e w5 ⟨a,rfl,rfl,rfl,hS,⟨⟨hN,hI⟩,hE⟩,aa⟩;have av:=uA hS;have D:=uA (And.intro hN hI);have bl:=uA hE;have aw:=uA aa;have K:=uA (Aa a9.o aa);have F:=uA (Aa a6.o K.o);have t:=uA (an.o.below K.o);have a2:=uA (ao.o.below K.o);have ax:=uA fun (b:Nat) (hb:b < w4.heap.size)=>(show ¬a.S b from fun h=>by rcases h with e | e <;> (have h1:=D.o.1;have h2:=D.o.2;omega))
 have M:Hdd (w.heap.size+2<=w4.heap.size):=Ai ap.o a9.o.size;have x6:=t.o.q 6 rfl;clear hS hN hI hE aa;go_wp2_with fail
 clear x6;go_loopw [7,27] (fun p i wr=>(i=.int .i64 0/\p=.int .i64 0/\wr=w5)\/(i=.int .i64 1/\Hdd (FsW wr n n a/\Turn a.S w5 wr))) (fun _ i _=>1 - (intOf i).toNat)
 case atStart=>exact .inl ⟨rfl,rfl,rfl⟩
 case round=>
  rcases hrel with ⟨rfl,rfl,rfl⟩ | ⟨rfl,HF⟩
  ·obtain ⟨X,rfl⟩:∃ z,z=wr:=⟨wr,rfl⟩;have I:∀ i u,(cBk (tD n g))[i]?=some u->X.cell? ⟨g+1+1+1+1,i,none⟩=some u:=fun i u hu=>by
    have h:=(F.o.cell (p:=⟨g+1+1+1+1,0+0*7+i,none⟩) bh.o).trans (HC.o i u hu)
    rwa [show 0+0*7+i=i by omega] at h
   have z0:=I 0 _ rfl;have z1:=I 1 _ rfl;have z2:=I 2 _ rfl;have z3:=I 3 _ rfl;have z4:=I 4 _ rfl;have z5:=I 5 _ rfl;have z6:=I 6 _ rfl;have x6:=t.o.q 6 rfl;have bm:=(t.o.below (uB X (.cells #[.slice (some ⟨g+1+1+1,0,none⟩) 1 1,.int .i64 2,.slice none 0 0,.slice none 0 0,.int .i64 0,.slice none 0 0,.string .empty] 65))).q 6 rfl;clear I;go_wp2_with fail
   clear z0 z1 z2 z3 z4 z5 z6 x6 bm;have d1:=uB X (.cells #[.slice (some ⟨g+1+1+1,0,none⟩) 1 1,.int .i64 2,.slice none 0 0,.slice none 0 0,.int .i64 0,.slice none 0 0,.string .empty] 65);have d2:=uB (X.alloc (.cells #[.slice (some ⟨g+1+1+1,0,none⟩) 1 1,.int .i64 2,.slice none 0 0,.slice none 0 0,.int .i64 0,.slice none 0 0,.string .empty] 65)) (.cells #[.string ⟨#[]⟩,.slice none 0 0,.slice none 0 0,.slice none 0 0,.slice none 0 0,.int .i64 0,.slice (some ⟨g+1+1+1+1,0,none⟩) 1 1] 28);have ab:=(Aa d1 d2);have Y:=Bx.new (X.alloc (.cells #[.slice (some ⟨g+1+1+1,0,none⟩) 1 1,.int .i64 2,.slice none 0 0,.slice none 0 0,.int .i64 0,.slice none 0 0,.string .empty] 65)) [.string ⟨#[]⟩,.slice none 0 0,.slice none 0 0,.slice none 0 0,.slice none 0 0,.int .i64 0,.slice (some ⟨g+1+1+1+1,0,none⟩) 1 1] 28;rw [Ak] at Y;generalize bn:(X.alloc (.cells #[.slice (some ⟨g+1+1+1,0,none⟩) 1 1,.int .i64 2,.slice none 0 0,.slice none 0 0,.int .i64 0,.slice none 0 0,.string .empty] 65)).alloc (.cells #[.string ⟨#[]⟩,.slice none 0 0,.slice none 0 0,.slice none 0 0,.slice none 0 0,.int .i64 0,.slice (some ⟨g+1+1+1+1,0,none⟩) 1 1] 28)=w7 at ab Y ⊢;clear bn d1 d2;have Z:=uA ab;have ay:=uA Y;have bp:Hdd (¬a.S (X.heap.size+1)):=(fun h=>by rcases h with e | e <;> (have h1:=av.o.hl;omega));clear ab Y;go_loopw [7,43] (fun p i wr=>∃ j:Nat,i=.int .i64 (j:Int)/\p=.int .i64 (j:Int)/\j<=2/\Hdd (FsW wr n (if j=0 then false else n) a/\Turn a.S w7 wr)) (fun _ i _=>2 - (intOf i).toNat)
   case atStart=>exact ⟨0,rfl,rfl,eW,uA ⟨av.o.below Z.o,Turn.refl _ _⟩⟩
   case round=>
    obtain ⟨j,rfl,rfl,hj,HP⟩:=hrel;have ha:=(HP.o.2.block _ ay.o.lt bp.o).trans ay.o;have ha:Bx wr (X.heap.size+1) [.string ⟨#[]⟩,.slice none 0 0,.slice none 0 0,.slice none 0 0,.slice none 0 0,.int .i64 0,.slice (some ⟨g+1+1+1+1,0,none⟩) 1 1] 28:=ha;have A:Hdd (Ab w wr):=F.o.trans (((Z.o.mono F.o.size)).trans (HP.o.2.below (Ai F.o.size Z.o.size) fun k hk=>by rcases hk with e | e <;> (have h1:=D.o.1;have h2:=D.o.2;have h3:=M.o;omega)));have y0:=ha.q 0 rfl;have y1:=ha.q 1 rfl;have y2:=ha.q 2 rfl;have y3:=ha.q 3 rfl;have y4:=ha.q 4 rfl;have y5:=ha.q 5 rfl;have y6:=ha.q 6 rfl;clear ha;rcases (by omega:j=2\/j=1\/j=0) with rfl | rfl | rfl
    ·have bq:Hdd (FsW wr n n a/\Turn a.S X wr):=⟨HP.o.1,(Turn.of_below Z.o).trans HP.o.2⟩;clear y0 y1 y2 y3 y4 y5 y6;go_wp2_with fail
     go_roundw
     case rel=>exact .inr ⟨by go_num,bq⟩
     case measure=>simp [intOf]
    ·have HV:=uA (OP n a.E wr (JK (HX.o _ A.o)));go_wp2_with fail
     refine HV.o.mono ?_;rintro e w8 ⟨⟨v,rfl⟩,ac⟩;have ad:Hdd (FsW w8 n n a/\Turn a.S w7 w8):=⟨FsW.below HP.o.1 ac,HP.o.2.trans (Turn.of_below ac)⟩;clear y0 y1 y2 y3 y4 y5 y6 ac;go_wp2_with fail
     go_roundw
     case rel=>exact ⟨2,by go_num,by go_num,eW,ad⟩
     case measure=>simp [intOf]
    ·have HV:=uA (OS n a wr (JK (HX.o _ A.o)) HP.o.1);go_wp2_with fail
     refine HV.o.mono ?_;rintro e w8 ⟨⟨v,rfl⟩,az,b0⟩;have ad:Hdd (FsW w8 n n a/\Turn a.S w7 w8):=⟨az,HP.o.2.trans b0⟩;clear y0 y1 y2 y3 y4 y5 y6 az b0;go_wp2_with fail
     go_roundw
     case rel=>exact ⟨1,by go_num,by go_num,eW,ad⟩
     case measure=>simp [intOf]
  ·obtain ⟨hS9,O⟩:=HF.o;have br:=uA hS9;have G:Hdd (Bx wr a.E [.slice (some ⟨a.lb,0,none⟩) 1 a.c,.map (some a.M),.slice (some ⟨a.HK,0,none⟩) 1 1,.slice (some ⟨a.HI,0,none⟩) 1 1] 88):=hS9.ex;have r:Hdd (Bx wr w.heap.size [.string ⟨#[102]⟩,.slice (some ⟨g,0,none⟩) 1 1,.slice none 0 0,.slice (some ⟨g+1,0,none⟩) 2 2,.slice (some ⟨g+1+1,0,none⟩) 2 2,.int .i64 0,.slice (some ⟨g+1+1+1+1,0,none⟩) 1 1] 28):=(O.block _ t.o.lt (ax.o _ (by have:=M.o;omega))).trans t.o;have a3:Hdd (Bx wr (w.heap.size+1) [.slice none 0 0,.slice none 0 0,.slice none 0 0,.slice none 0 0,.slice none 0 0] 33):=(O.block _ a2.o.lt (ax.o _ (by have:=M.o;omega))).trans a2.o;have A:Hdd (Ab w wr):=F.o.trans (O.below F.o.size fun k hk=>by rcases hk with e | e <;> (have h1:=D.o.1;have h2:=D.o.2;have h3:=M.o;omega));have b3:=uA (yZ (uC au.o aw.o) O fun b hb hs=>by
    have e:a.lb=b:=B8 hb;subst e;exact hs.elim hS9.d6.1 hS9.d6.2)
   obtain ⟨ib,is,hH,b4,b5⟩:=hS9.his;have HH:=uA hH;have bs:=uA b4;have bt:=uA b5;have hcx:=uA fun (s:World) (h:Bx s a.E [.slice (some ⟨a.lb,0,none⟩) 1 a.c,.map (some a.M),.slice (some ⟨a.HK,0,none⟩) 1 1,.slice (some ⟨a.HI,0,none⟩) 1 1] 88/\Bx s w.heap.size [.string ⟨#[102]⟩,.slice (some ⟨g,0,none⟩) 1 1,.slice none 0 0,.slice (some ⟨g+1,0,none⟩) 2 2,.slice (some ⟨g+1+1,0,none⟩) 2 2,.int .i64 0,.slice (some ⟨g+1+1+1+1,0,none⟩) 1 1] 28)=>(show s.cell? ⟨a.E,0,none⟩=some (.slice (some ⟨a.lb,0,none⟩) 1 a.c)/\s.cell? ⟨a.E,2,none⟩=some (.slice (some ⟨a.HK,0,none⟩) 1 1)/\s.cell? ⟨a.E,3,none⟩=some (.slice (some ⟨a.HI,0,none⟩) 1 1)/\s.cell? ⟨w.heap.size,0,none⟩=some (.string ⟨#[102]⟩)/\s.cell? ⟨w.heap.size,1,none⟩=some (.slice (some ⟨g,0,none⟩) 1 1)/\s.cell? ⟨w.heap.size,2,none⟩=some (.slice none 0 0)/\s.cell? ⟨w.heap.size,3,none⟩=some (.slice (some ⟨g+1,0,none⟩) 2 2)/\s.cell? ⟨w.heap.size,4,none⟩=some (.slice (some ⟨g+1+1,0,none⟩) 2 2)/\s.cell? ⟨w.heap.size,5,none⟩=some (.int .i64 0)/\s.cell? ⟨w.heap.size,6,none⟩=some (.slice (some ⟨g+1+1+1+1,0,none⟩) 1 1) from
    ⟨h.1.q 0 rfl,h.1.q 2 rfl,h.1.q 3 rfl,h.2.q 0 rfl,h.2.q 1 rfl,h.2.q 2 rfl,h.2.q 3 rfl,h.2.q 4 rfl,h.2.q 5 rfl,h.2.q 6 rfl⟩)
   have HD:=uA ((Below.refl wr.heap.size wr).drew);have bu:=uA (IU n wr.drew (HX.o wr.drew (Aa A.o HD.o)));clear hS9 O hH b4 b5;go_wp2_with fail
   refine wp_region_held_drew (S:=fun s=>Bx s a.E [.slice (some ⟨a.lb,0,none⟩) 1 a.c,.map (some a.M),.slice (some ⟨a.HK,0,none⟩) 1 1,.slice (some ⟨a.HI,0,none⟩) 1 1] 88/\Bx s w.heap.size [.string ⟨#[102]⟩,.slice (some ⟨g,0,none⟩) 1 1,.slice none 0 0,.slice (some ⟨g+1,0,none⟩) 2 2,.slice (some ⟨g+1+1,0,none⟩) 2 2,.int .i64 0,.slice (some ⟨g+1+1+1+1,0,none⟩) 1 1] 28) fL ⟨G.o.below HD.o,r.o.below HD.o⟩ (fun hHeld=>?_);refine uJ [0,1,2,3,4,6,7,8,9,11,12,13,14,16] ?_;(iterate 14 refine pT hHeld rfl ?_);refine uK ?_;refine pC 5 rfl (fun KZ T=>?_);go_simp;refine bu.o.mono ?_;rintro e ae ⟨eA,ec,rfl,b6,H⟩;have H:Ab wr ae:=HD.o.trans H;have a0:=uA H;have bv:=uA b6;refine T.out _ _ ⟨G.o.below H,r.o.below H⟩ (fun hHeld=>?_);clear T KZ b6 H;try simp only [Ac]
   have bw:=uA (kD 0 a.HK _ false ae (iN 0 (br.o.hk.below a0.o)) (Am _) rfl);refine pC 10 rfl (fun KZ T=>?_);go_simp;refine bw.o.mono ?_;rintro e b7 ⟨kA,kn,kc,rfl,b8,m⟩;have U:=uA m;have bx:=uA b8;have C:=uA (Aa a0.o m);refine T.out _ _ ⟨G.o.below C.o,r.o.below C.o⟩ (fun hHeld=>?_);clear T KZ b8 m;try simp only [Ac]
   have bz:=uA (kD ib a.HI is n b7 (HH.o.below C.o) bs.o bt.o);refine pC 15 rfl (fun KZ T=>?_);go_simp;refine bz.o.mono ?_;rintro e V ⟨jA,jn,jc,rfl,b9,af⟩;have ba:=uA af;have c5:=uA b9;have l:=uA (Aa C.o af);refine T.out _ _ ⟨G.o.below l.o,r.o.below l.o⟩ (fun hHeld=>?_);clear T KZ b9 af;try simp only [Ac]
   refine uJ [17] ?_;refine pT hHeld rfl ?_;refine uK ?_;refine pC 18 rfl (fun KZ T=>?_);have hf:=a3.o.below l.o;have c7:=uA hf;have y0:=hf.q 0 rfl;have y1:=hf.q 1 rfl;have y2:=hf.q 2 rfl;have y3:=hf.q 3 rfl;have y4:=hf.q 4 rfl;have f0:=hf.frozen 0;have f1:=hf.frozen 1;have f2:=hf.frozen 2;have f3:=hf.frozen 3;have f4:=hf.frozen 4;go_simp;have hr:Bx (((((V.setCell ⟨w.heap.size+1,0,none⟩ (.slice (some ⟨a.lb,0,none⟩) 1 a.c)).setCell ⟨w.heap.size+1,1,none⟩ (.slice eA 1 ec)).setCell ⟨w.heap.size+1,2,none⟩ (.slice kA kn kc)).setCell ⟨w.heap.size+1,3,none⟩ (.slice jA jn jc)).setCell ⟨w.heap.size+1,4,none⟩ (.slice LA 0 lc)) (w.heap.size+1) [.slice (some ⟨a.lb,0,none⟩) 1 a.c,.slice eA 1 ec,.slice kA kn kc,.slice jA jn jc,.slice LA 0 lc] 33:=(((((hf.set 0 (.slice (some ⟨a.lb,0,none⟩) 1 a.c)).set 1 (.slice eA 1 ec)).set 2 (.slice kA kn kc)).set 3 (.slice jA jn jc)).set 4 (.slice LA 0 lc));have ht:Turn (fun b=>b=w.heap.size+1) V (((((V.setCell ⟨w.heap.size+1,0,none⟩ (.slice (some ⟨a.lb,0,none⟩) 1 a.c)).setCell ⟨w.heap.size+1,1,none⟩ (.slice eA 1 ec)).setCell ⟨w.heap.size+1,2,none⟩ (.slice kA kn kc)).setCell ⟨w.heap.size+1,3,none⟩ (.slice jA jn jc)).setCell ⟨w.heap.size+1,4,none⟩ (.slice LA 0 lc)):=((((((Turn.refl (fun b=>b=w.heap.size+1) V).setCell (a:=⟨w.heap.size+1,0,none⟩) (.inl rfl) _).setCell (a:=⟨w.heap.size+1,1,none⟩) (.inl rfl) _).setCell (a:=⟨w.heap.size+1,2,none⟩) (.inl rfl) _).setCell (a:=⟨w.heap.size+1,3,none⟩) (.inl rfl) _).setCell (a:=⟨w.heap.size+1,4,none⟩) (.inl rfl) _);generalize (((((V.setCell ⟨w.heap.size+1,0,none⟩ (.slice (some ⟨a.lb,0,none⟩) 1 a.c)).setCell ⟨w.heap.size+1,1,none⟩ (.slice eA 1 ec)).setCell ⟨w.heap.size+1,2,none⟩ (.slice kA kn kc)).setCell ⟨w.heap.size+1,3,none⟩ (.slice jA jn jc)).setCell ⟨w.heap.size+1,4,none⟩ (.slice LA 0 lc))=bc at hr ht ⊢;have HR:=uA hr;have HT:=uA ht;have bd:Hdd (Bx bc a.E [.slice (some ⟨a.lb,0,none⟩) 1 a.c,.map (some a.M),.slice (some ⟨a.HK,0,none⟩) 1 1,.slice (some ⟨a.HI,0,none⟩) 1 1] 88):=(ht.block _ (G.o.below l.o).lt (by have h1:=bl.o;have h2:=M.o;omega)).trans (G.o.below l.o);have be:Hdd (Bx bc w.heap.size [.string ⟨#[102]⟩,.slice (some ⟨g,0,none⟩) 1 1,.slice none 0 0,.slice (some ⟨g+1,0,none⟩) 2 2,.slice (some ⟨g+1+1,0,none⟩) 2 2,.int .i64 0,.slice (some ⟨g+1+1+1+1,0,none⟩) 1 1] 28):=(ht.block _ (r.o.below l.o).lt bB).trans (r.o.below l.o);refine T.out _ _ ⟨bd.o,be.o⟩ (fun hHeld=>?_);clear T KZ y0 y1 y2 y3 y4 f0 f1 f2 f3 f4 hf ht;try simp only [Ac]
   refine uJ [19] ?_;refine pT hHeld rfl ?_;refine uK ?_;refine wpAnyH_done fL ?_ _;clear hHeld hcx;have c0:=hr.q 0 rfl;have c1:=hr.q 1 rfl;have c2:=hr.q 2 rfl;have c3:=hr.q 3 rfl;have c4:=hr.q 4 rfl;clear hr;go_wp2;refine bodyPost_ret (v:=.tuple #[.agg #[.slice (some ⟨a.lb,0,none⟩) 1 a.c,.slice eA 1 ec,.slice kA kn kc,.slice jA jn jc,.slice LA 0 lc],.int .i64 0]) (by rw [results_cell_tmp rfl];go_simp) rfl ?_;have a1:∀ {b B:Nat},B<=b->w.heap.size+2<=B->¬b=w.heap.size+1:=fun h1 h2=>by omega
   have c6:=ap.o;have bf:w.heap.size+2<=wr.heap.size:=by
    have h1:=(Ag.1 a3.o).1;omega
   have a4:w.heap.size+2<=ae.heap.size:=Ai bf a0.o.size;have bg:w.heap.size+2<=b7.heap.size:=Ai a4 U.o.size;have o1:=gK (uC b3.o l.o) HT.o fun b h _=>a1 h c6
   have o2:=gK (uC bv.o (Aa U.o ba.o)) HT.o fun b h _=>a1 h bf
   have o3:=gK (uC bx.o ba.o) HT.o fun b h _=>a1 h a4
   have o4:=gK c5.o HT.o fun b h _=>a1 h bg
   refine ⟨⟨⟨some ⟨a.lb,0,none⟩,1,a.c,[⟨0,0,n,⟨0,qA,0,qc,[]⟩⟩]⟩,⟨eA,1,ec,[((0:Int),(1:Int))]⟩,⟨kA,kn,kc,if false then [((0:Int),(0:Int))] else []⟩,⟨jA,jn,jc,if n then [((0:Int),(0:Int))] else []⟩,⟨LA,0,lc,[]⟩⟩,rfl,⟨yX xX eW o1 (fun y hy=>?_),yX uY eW o2 (fun y hy=>?_),yX uY eW o3 (fun y hy=>by cases hy),yX uY eW o4 (fun y hy=>?_),⟨Am _,bi.o,⟨rfl,fun h=>absurd h (Cg _)⟩,fun y hy=>by cases hy⟩⟩,rfl,rfl,rfl,rfl,rfl,?_⟩
   ·obtain rfl:=An.1 hy;exact ⟨nJ,nJ,ZPl.one (x:=⟨0,qA,0,qc,[]⟩) ⟨rfl,rfl,bj.o,nJ⟩ _ _⟩
   ·obtain rfl:=An.1 hy;exact ⟨nJ,mE (x:=1) eW⟩
   ·cases n
    ·cases hy
    ·obtain rfl:=An.1 hy;exact ⟨nJ,nJ⟩
   ·exact (Aa A.o l.o).trans (HT.o.below (Ai A.o.size l.o.size) fun k hk=>by rw [hk];exact Cc _)
theorem DL (i n:Int) (w:World):Calls prog 89 #[.int .i64 i,.int .i64 n] w fun e g=>e=.returned (.bool (decide (0<=i/\i < n)))/\g=w:=by
 by_cases c:0<=i
 ·by_cases d:i < n
  ·rw [decide_eq_true (⟨c,d⟩:0<=i/\i < n)];go_enter func89,ntmps89
   go_wp2;go_ret;exact ⟨rfl,rfl⟩
  ·rw [decide_eq_false (fun h:0<=i/\i < n=>d h.2)];go_enter func89,ntmps89
   go_wp2;go_ret;exact ⟨rfl,rfl⟩
 ·rw [decide_eq_false (fun h:0<=i/\i < n=>c h.1)];go_enter func89,ntmps89
  go_wp2;go_ret;exact ⟨rfl,rfl⟩
theorem oU {i n:Int} {v:Bool} (h:decide (0<=i/\i < n)=v) (w:World):Calls prog 89 #[.int .i64 i,.int .i64 n] w fun e c=>e=.returned (.bool v)/\c=w:=h ▸ DL i n w
def SX (p q:Pr):Int:=if aJ p.1 q.1=0 then aJ p.2 q.2 else aJ p.1 q.1
theorem uD1 {p q:Pr}:SX p q<=0↔p.1 < q.1\/(p.1=q.1/\p.2<=q.2):=by
 unfold SX aJ
 repeat' split
 all_goals omega
theorem tY (p q:Pr) (w:World) (g t c d:Nat) (k:w.cell? ⟨g,0,none⟩=some (.int .i64 p.1)) (O:w.cell? ⟨g,1,none⟩=some (.int .i64 p.2)) (P:w.cell? ⟨t,0,none⟩=some (.int .i64 q.1)) (Q:w.cell? ⟨t,1,none⟩=some (.int .i64 q.2)) :
 Calls prog 92 #[.slice (some ⟨g,0,none⟩) 2 c,.slice (some ⟨t,0,none⟩) 2 d] w fun e o=>e=.returned (.int .i64 (SX p q))/\o=w:=by
 obtain ⟨a,b⟩:=p;obtain ⟨z,A⟩:=q;obtain ⟨s,l⟩:∃ r,SX (a,b) (z,A)=r:=⟨_,rfl⟩;rw [l];obtain ⟨u,B⟩:∃ u,aJ a z=u:=⟨_,rfl⟩;obtain ⟨v,C⟩:∃ u,aJ b A=u:=⟨_,rfl⟩;have m:(if u=0 then v else u)=s:=by rw [<-l,<- B,<- C];rfl
 have K:=uA fun (o:World)=>(B ▸ DW a z o:Calls prog _ _ o fun e D=>e=.returned (.int .i64 u)/\D=o)
 have M:=uA fun (o:World)=>(C ▸ DW b A o:Calls prog _ _ o fun e D=>e=.returned (.int .i64 v)/\D=o)
 have F:=uA m;clear l B C m;simp only [] at k O P Q;go_enter func92,ntmps92
 go_wp2;go_loopw [11] (fun i wr=>∃ j:Nat,i=.int .i64 (j:Int)/\j<=2/\Hdd (1<=j->u=0)/\Hdd (j=2->v=0)/\wr=w) (fun i _=>2 - (intOf i).toNat)
 case atStart=>exact ⟨0,rfl,Am _,uA fun h=>absurd h eW,uA fun h=>absurd h eW,rfl⟩
 case round=>
  obtain ⟨j,rfl,T,G,H,rfl⟩:=hrel;rcases (show j=0\/j=1\/j=2 by omega) with rfl | rfl | rfl
  ·by_cases k:u=0
   ·subst k;go_wp2_with fail
    refine (K.o _).mono ?_;rintro e I ⟨rfl,rfl⟩;go_wp2;go_roundw
    case rel=>exact ⟨1,by go_num,bB,uA fun _=>(by trivial),uA fun h=>absurd h eW,(by trivial)⟩
    case measure=>simp [intOf]
   ·have J:(u != 0)=true:=by rw [bne_iff_ne];exact k
    have m:u=s:=(by rw [<-F.o,if_neg k]);have n:=uA m;clear k m;go_wp2_with fail
    refine (K.o _).mono ?_;rintro e I ⟨rfl,rfl⟩;go_wp2;go_ret;exact ⟨by rw [<-n.o];rfl,rfl⟩
  ·have m:v=s:=by rw [<-F.o,if_pos (G.o eW)]
   have n:=uA m;clear m;by_cases k:v=0
   ·have S:=uA k;subst k;go_wp2_with fail
    refine (M.o _).mono ?_;rintro e I ⟨rfl,rfl⟩;go_wp2;go_roundw
    case rel=>exact ⟨2,by go_num,bB,uA fun _=>G.o eW,uA fun _=>(by trivial),(by trivial)⟩
    case measure=>simp [intOf]
   ·have J:(v != 0)=true:=by rw [bne_iff_ne];exact k
    clear k;go_wp2_with fail
    refine (M.o _).mono ?_;rintro e I ⟨rfl,rfl⟩;go_wp2;go_ret;exact ⟨by rw [<-n.o];rfl,rfl⟩
  ·have m:(0:Int)=s:=by rw [<-F.o,if_pos (G.o eW),H.o rfl]
   have n:=uA m;clear m;go_wp2;go_ret;exact ⟨by rw [<-n.o];rfl,rfl⟩
def ckP (p q c:Pr):Int:=if p.1 < 0\/c.1<=p.1\/p.2 < 0\/c.2<=p.2 then 3 else if p.1 < q.1\/(p.1=q.1/\p.2<=q.2) then 21 else 0
theorem uBy {a b:Int} (q:Option Pr) (p:Pr):ckP p (q.getD (-1,-1)) (a,b)=prE a b q p:=by
 unfold ckP prE;cases q with
 | none=>
   show (if _ then (3:Int) else if p.1 < -1\/p.1=-1/\p.2<=-1 then 21 else 0)=_
   split
   ·rfl
   ·rename_i h;rw [if_neg bB]
 | some q=>rfl
abbrev uGe (p:Pr):Value:=.agg #[.int .i64 p.1,.int .i64 p.2]
theorem MT (p q c:Pr) (w:World) :
 Calls prog 48 #[uGe p,uGe q,uGe c] w fun e w'=>e=.returned (.int .i64 (ckP p q c))/\Ab w w':=by
 obtain ⟨d,g⟩:=p;obtain ⟨o,s⟩:=q;obtain ⟨n,t⟩:=c;obtain ⟨u,m⟩:∃ r,ckP (d,g) (o,s) (n,t)=r:=⟨_,rfl⟩;rw [m];obtain ⟨W,T⟩:∃ W,W=((w.alloc (.cells #[.int .i64 d,.int .i64 g] 54)).alloc (.cells #[.int .i64 o,.int .i64 s] 54)).alloc (.cells #[.int .i64 n,.int .i64 t] 54):=⟨_,rfl⟩;have U:=uB w (.cells #[.int .i64 d,.int .i64 g] 54);have Q:=uB (w.alloc (.cells #[.int .i64 d,.int .i64 g] 54)) (.cells #[.int .i64 o,.int .i64 s] 54);have J:=uB ((w.alloc (.cells #[.int .i64 d,.int .i64 g] 54)).alloc (.cells #[.int .i64 o,.int .i64 s] 54)) (.cells #[.int .i64 n,.int .i64 t] 54);have S:=((Bx.new w [.int .i64 d,.int .i64 g] 54).below Q).below J;have K:=(Bx.new (w.alloc (.cells #[.int .i64 d,.int .i64 g] 54)) [.int .i64 o,.int .i64 s] 54).below J;have M:=Bx.new ((w.alloc (.cells #[.int .i64 d,.int .i64 g] 54)).alloc (.cells #[.int .i64 o,.int .i64 s] 54)) [.int .i64 n,.int .i64 t] 54;simp only [Ak] at K M;rw [<-T] at S K M J;have l:=uA (U.trans ((Aa Q J).mono U.size));have x0:=S.q 0 rfl;have x1:=S.q 1 rfl;have y0:=K.q 0 rfl;have y1:=K.q 1 rfl;have z0:=M.q 0 rfl;have z1:=M.q 1 rfl;have A:=uA fun (k:Nat)=>tY (d,g) (o,s) (W.drewN k) w.heap.size (w.heap.size+1) 2 2 x0 x1 y0 y1
 have O:=uA T;clear U Q J S K M T;have i:=uA m;clear m;obtain ⟨v1,B⟩:∃ v,decide (0<=d/\d < n)=v:=⟨_,rfl⟩;obtain ⟨v2,C⟩:∃ v,decide (0<=g/\g < t)=v:=⟨_,rfl⟩;have D:=uA (oU B W);have F:=uA (oU C W);have G:=uA B;have H:=uA C;clear B C;go_enter func48,ntmps48
 cases v1
 ·go_wp2_with fail
  rw [<-O.o];refine D.o.mono ?_;rintro e V ⟨rfl,rfl⟩;go_wp2;go_ret;exact ⟨by
   have h:¬(0<=d/\d < n):=of_decide_eq_false G.o;rw [<-i.o];unfold ckP;rw [if_pos (by show d < 0\/n<=d\/_;omega)];rfl,l.o⟩
 ·go_wp2_with fail
  rw [<-O.o];refine D.o.mono ?_;rintro e V ⟨rfl,rfl⟩;cases v2
  ·go_wp2_with fail
   refine F.o.mono ?_;rintro e V ⟨rfl,rfl⟩;go_wp2;go_ret;exact ⟨by
    have h:¬(0<=g/\g < t):=of_decide_eq_false H.o;rw [<-i.o];unfold ckP;rw [if_pos (by show d < 0\/n<=d\/g < 0\/t<=g;omega)];rfl,l.o⟩
  ·go_wp2_with fail
   refine F.o.mono ?_;rintro e V ⟨rfl,rfl⟩;have h1:0<=d/\d < n:=of_decide_eq_true G.o;have h2:0<=g/\g < t:=of_decide_eq_true H.o;have hn:¬(d < 0\/n<=d\/g < 0\/t<=g):=bB;have X:(if SX (d,g) (o,s)<=0 then (21:Int) else 0)=u:=by
    rw [<-i.o];unfold ckP;rw [if_neg hn];simp only [uD1]
   obtain ⟨Y,P⟩:∃ z,SX (d,g) (o,s)=z:=⟨_,rfl⟩;simp only [P] at A X;have HK:=uA X;clear X hn h1 h2 P D F G H i;go_wp2;by_cases I:Y<=0
   ·have Z:decide (Y<=0)=true:=decide_eq_true I;have HR:=uA (show (21:Int)=u by rw [<-HK.o,if_pos I]);clear I;go_quiet ((exact Calls.quiet_of_same (A.o _)))
    go_wp2;go_ret;exact ⟨by rw [<-HR.o];rfl,⟨l.o.os,l.o.tape,l.o.output,l.o.size,l.o.block⟩⟩
   ·have Z:decide (Y<=0)=false:=decide_eq_false I;have HR:=uA (show (0:Int)=u by rw [<-HK.o,if_neg I]);clear I;go_quiet ((exact Calls.quiet_of_same (A.o _)))
    go_wp2;go_ret;exact ⟨by rw [<-HR.o];rfl,⟨l.o.os,l.o.tape,l.o.output,l.o.size,l.o.block⟩⟩
section
variable {α:Type} {f:Option α->α->Int} {L:List α} {j:Nat} {p:α} {E v:Int}
theorem zX (c:L[j]?=some p) (h:f (yN L j) p=v) (d:v≠0) (e:E=oR f (yN L j) (L.drop j)):E=v:=by rw [e,lD f c,if_neg (by rw [h];exact d),h]
theorem dK (c:L[j]?=some p) (h:f (yN L j) p=0) (d:E=oR f (yN L j) (L.drop j)):E=oR f (yN L (j+1)) (L.drop (j+1)):=by rw [d,lD f c,if_pos h]
end
section
variable {a b x y:Int} {q:Option Pr}
end
section
variable {N R:Int} {x:LnW} {q:Option LnW}
theorem QW (h:x.region < 0\/R<=x.region\/x.point < 0\/N<=x.point):lnE N R q x=3:=if_pos h
theorem ZC (d:¬x.region < 0) (g:¬R<=x.region) (i:¬x.point < 0) (k:¬N<=x.point) {e:Int} (h:vS x.pl.l x.pl.ps=e) (c:e≠0):lnE N R q x=e:=by
 unfold lnE;rw [if_neg bB,if_neg (by rw [h];exact c),h]
theorem OV (d:¬x.region < 0) (g:¬R<=x.region) (i:¬x.point < 0) (k:¬N<=x.point) (h:vS x.pl.l x.pl.ps=0) {e:Int} (c:(match q with | none=>0 | some q=>if x.point<=q.point then 21 else 0)=e):lnE N R q x=e:=by
 unfold lnE;rw [if_neg bB,if_pos h];exact c
end
theorem jS {a b v:Int} (h:a=v) (c:v≠0):orE a b=v:=by unfold orE;rw [if_neg (by rw [h];exact c),h]
theorem BW {a b:Int} (h:a=0):orE a b=b:=if_pos h
theorem JU {A:Option Addr} {n c:Nat} {L:List LnW} (N R:Int) (w:World) (hx:SlH w w.heap.size 5 cLn (zP w w.heap.size) ⟨A,n,c,L⟩) :
 Calls prog 46 #[.slice A n c,.int .i64 N,.int .i64 R] w fun e w'=>e=.returned (.int .i64 (lT N R L))/\Ab w w':=by
 have HX:=uA hx;have a4:=uA hx.len;have V:=hx.nm;unfold maxLen at V;simp only [] at V;obtain ⟨z,hz⟩:∃ z,lT N R L=z:=⟨_,rfl⟩;rw [hz];have a5:Hdd (z=oR (lnE N R) (yN L 0) (L.drop 0)):=hz.symm;have a6:=uA (Below.refl w.heap.size w);clear hx hz;go_enter func46,ntmps46
 go_wp2;go_loopw [12] (fun i wr=>∃ k:Nat,i=.int .i64 (k:Int)/\k<=n/\Hdd (z=oR (lnE N R) (yN L k) (L.drop k))/\Hdd (Ab w wr)) (fun i _=>n - (intOf i).toNat)
 case atStart=>exact ⟨0,rfl,Am _,a5,a6⟩
 case round=>
  obtain ⟨k,rfl,hk,S,HR⟩:=hrel;by_cases a7:k < n
  ·obtain ⟨p,hp⟩:=HX.o.get a7;have W:=uA hp;obtain ⟨b,o,X,Y,T,c0,c1,c2,c3,c4⟩:=eC HX.o HR.o hp;have X:A=some ⟨b,o,none⟩:=X;subst X;have Z:=uA T.pl;have a9:(k:Int) < (n:Int):=bB;have d:=uA (HR.o.trans ((uB wr (.cells #[.int .i64 p.region,.int .i64 p.point,.bool p.mut_,.int .i64 p.pl.l,.slice p.pl.A p.pl.n p.pl.c] 50)).mono HR.o.size));have t:=uA fun (h:p.region < 0\/R<=p.region\/p.point < 0\/N<=p.point)=>(show z=3 from zX W.o (QW h) eW S.o)
   have B:=uA fun (T:¬p.region < 0) (h2:¬R<=p.region) (h3:¬p.point < 0) (h4:¬N<=p.point) (e:Int) (h:vS p.pl.l p.pl.ps=e) (r:e≠0)=>(show z=e from zX W.o (ZC T h2 h3 h4 h r) r S.o)
   have C:=uA fun (T:¬p.region < 0) (h2:¬R<=p.region) (h3:¬p.point < 0) (h4:¬N<=p.point) (h:vS p.pl.l p.pl.ps=0) (e:Int) (r:(match yN L k with | none=>0 | some q=>if p.point<=q.point then 21 else 0)=e)=>(show lnE N R (yN L k) p=e from OV T h2 h3 h4 h r)
   obtain ⟨u,g,mu,⟨l,pA,pn,pc,ps⟩⟩:=p;simp only [] at c0 c1 c2 c3 c4 t B C Z;clear T hp Y;obtain ⟨v1,D⟩:∃ v,decide (0<=u/\u < R)=v:=⟨_,rfl⟩;obtain ⟨v2,F⟩:∃ v,decide (0<=g/\g < N)=v:=⟨_,rfl⟩;have G:=uA (oU D);have H:=uA (oU F);have I:=uA D;have J:=uA F;clear D F;cases v1
   ·have m:Hdd ((3:Int)=z):=(t.o (by have h:¬(0<=u/\u < R):=of_decide_eq_false I.o;omega)).symm;go_wp2_with fail
    refine (G.o _).mono ?_;rintro e w1 ⟨rfl,rfl⟩;go_wp2;go_ret;exact ⟨by rw [<-m.o];rfl,d.o⟩
   go_wp2_with fail
   refine (G.o _).mono ?_;rintro e w1 ⟨rfl,rfl⟩;cases v2
   ·have m:Hdd ((3:Int)=z):=(t.o (by have h:¬(0<=g/\g < N):=of_decide_eq_false J.o;omega)).symm;go_wp2_with fail
    refine (H.o _).mono ?_;rintro e w1 ⟨rfl,rfl⟩;go_wp2;go_ret;exact ⟨by rw [<-m.o];rfl,d.o⟩
   have b1:0<=u/\u < R:=of_decide_eq_true I.o;have b2:0<=g/\g < N:=of_decide_eq_true J.o;have a0:=uA (B.o bB bB bB bB);have a1:=uA (C.o bB bB bB bB);obtain ⟨ev,a2⟩:∃ e,vS l ps=e:=⟨_,rfl⟩;have K:=uA a2;clear B C t a2 b1 b2 I J G;go_wp2_with fail
   refine (H.o _).mono ?_;rintro e w1 ⟨rfl,M⟩;have O:=uA fun (w':World) (y:Ab (wr.alloc (.cells #[.int .i64 u,.int .i64 g,.bool mu,.int .i64 l,.slice pA pn pc] 50)) w')=>aH y
   obtain ⟨k0,k1,k2,k3,k4⟩:=O.o _ (Below.refl _ _);rw [<-M] at k0 k1 k2 k3 k4 d O;clear M H;go_wp2_with fail
   refine (iJ K.o _ (Z.o.up d.o)).mono ?_;rintro e w2 ⟨rfl,Y⟩;have a8:=uA Y;have s:=uA (Aa d.o Y);clear Y c0 c1 c2 c3 c4 k0 k1 k2 k3 k4;by_cases r:ev=0
   case' neg=>
    have te:(ev != 0)=true:=by rw [bne_iff_ne];exact r
    have m:=uA (a0.o _ K.o r);clear r;go_wp2;go_ret;exact ⟨by rw [m.o];rfl,s.o⟩
   subst r;have P:=uA (a1.o K.o);clear a0 a1;obtain ⟨k0,k1,k2,k3,k4⟩:=O.o _ a8.o;rcases Ca k with h0 | h0
   ·have m:=uA (dK W.o (P.o 0 (by rw [h0];rfl)) S.o);have tk:decide ((0:Int) < (k:Int))=false:=by simp;omega
    have aa:decide (0 < k)=false:=by simp;omega
    clear h0;go_wp2;go_quiet (fail)
    go_wp2;go_roundw
    case rel=>exact ⟨k+1,by go_num,bB,m,uA (tyN s.o _)⟩
    case measure=>simp [intOf];omega
   ·obtain ⟨j,rfl⟩:∃ j,k=j+1:=⟨k - 1,bB⟩;obtain ⟨q,hq⟩:=HX.o.get (show j < n by omega);obtain ⟨b',o',X,_,_,_,d1,_,_,_⟩:=eC HX.o s.o hq;cases X;have a3:Hdd (yN L (j+1)=some q):=(fW L j).trans hq;have tk:decide ((0:Int) < (j:Int)+1)=true:=by rw [decide_eq_true_iff];omega
    have ab:(0:Int)<=(j:Int):=Ch _;have ac:(j:Int) < (n:Int):=bB;have M:IntKind.i64.wrap ((j:Int)+1 - 1)=(j:Int):=by rw [De];omega
    have ad:IntKind.i64.wrap (j:Int)=(j:Int):=by rw [De];omega
    have Q:=uA (fun (e:Int) (r:(if g<=q.point then 21 else 0)=e)=>(show lnE N R (yN L (j+1)) ⟨u,g,mu,⟨l,pA,pn,pc,ps⟩⟩=e from P.o e (by rw [a3.o];exact r)));obtain ⟨rq,pq,mq,lq⟩:=q;simp only [] at d1 Q;clear hq P a3;by_cases U:g<=pq
    ·have m:Hdd (z=21):=zX W.o (Q.o 21 (if_pos U)) eW S.o;have t7:decide (g<=pq)=true:=decide_eq_true U;clear U;go_wp2;go_quiet (fail)
     go_wp2;go_ret;exact ⟨by rw [m.o];rfl,tyN s.o _⟩
    ·have m:=uA (dK W.o (Q.o 0 (if_neg U)) S.o);have t7:decide (g<=pq)=false:=decide_eq_false U;clear U;go_wp2;go_quiet (fail)
     go_wp2;go_roundw
     case rel=>exact ⟨j+1+1,by go_num,bB,m,uA (tyN s.o _)⟩
     case measure=>simp [intOf];omega
  ·obtain rfl:k=n:=by omega
   have m:Hdd ((0:Int)=z):=(S.o.trans (fQ _ (Cw a4.o) _)).symm;go_wp2;go_ret;exact ⟨by rw [<-m.o];rfl,HR.o⟩
section
open Go.Shelf
attribute [local go_sem] Oper.semAt_some
def mxK (x:FcW):Nat->Int
 | 0=>(x.loans.n:Int)
 | k+1=>if mxK x k < ((x.at_ (k+1)).n:Int) then ((x.at_ (k+1)).n:Int) else mxK x k
def JQ (x:FcW):Prop:=16777216 < x.loans.n\/16777216 < x.edges.n\/16777216 < x.killed.n\/16777216 < x.invalid.n\/16777216 < x.live.n
instance (x:FcW):Decidable (JQ x):=by unfold JQ;infer_instance
theorem DV {a b c:Int}:c < (if a < b then b else a)↔c < a\/c < b:=by
 split <;> omega
theorem XP (x:FcW):16777216 < mxK x 4↔JQ x:=by
 show 16777216 < (if mxK x 3 < (x.live.n:Int) then (x.live.n:Int) else mxK x 3)↔_;rw [DV];show 16777216 < (if mxK x 2 < (x.invalid.n:Int) then (x.invalid.n:Int) else mxK x 2)\/_↔_;rw [DV];show (16777216 < (if mxK x 1 < (x.killed.n:Int) then (x.killed.n:Int) else mxK x 1)\/_)\/_↔_;rw [DV];show ((16777216 < (if (x.loans.n:Int) < (x.edges.n:Int) then (x.edges.n:Int) else (x.loans.n:Int))\/_)\/_)\/_↔_;rw [DV];unfold JQ;omega
theorem uHh {x:FcW} {v:Bool} (h:decide (JQ x)=v) (w:World) :
 Calls prog 45 #[wG x] w fun e w'=>e=.returned (.bool v)/\Ab w w':=by
 refine (callsIn_wide (n:=12)).1 ?_;have T:=uA fun k=>(show mxK x (k+1)=if mxK x k < ((x.at_ (k+1)).n:Int) then ((x.at_ (k+1)).n:Int) else mxK x k from rfl)
 have a2:Hdd (mxK x 0=(x.loans.n:Int)):=rfl;have a3:=uA (show decide (16777216 < mxK x 4)=v by rw [<-h];exact decide_eq_decide.2 (XP x));have a4:=uA fun (W:World) (F:Nat) (hb:Bx W F (cFc x) 33) (k:Nat) (hk:1<=k/\k<=4)=>FcW.cell_at hb hk
 clear h;obtain ⟨s,l⟩:∃ s,mxK x=s:=⟨_,rfl⟩;obtain ⟨ac,a5⟩:∃ a,x.at_=a:=⟨_,rfl⟩;rw [l] at T a2 a3;rw [a5] at T a4;clear l a5;obtain ⟨⟨A,m,c,L⟩,⟨o,r,t,eL⟩,⟨u,B,C,kL⟩,⟨G,H,I,jL⟩,⟨J,M,O,vL⟩⟩:=x;have b1:=uB w (.cells #[.slice A m c,.slice o r t,.slice u B C,.slice G H I,.slice J M O] 33);have b2:=uB (w.alloc (.cells #[.slice A m c,.slice o r t,.slice u B C,.slice G H I,.slice J M O] 33)) (.cells #[.int .i64 (m:Int)] 3);have hF:=(Bx.new w [.slice A m c,.slice o r t,.slice u B C,.slice G H I,.slice J M O] 33).below b2;have hC:=Bx.new (w.alloc (.cells #[.slice A m c,.slice o r t,.slice u B C,.slice G H I,.slice J M O] 33)) [.int .i64 (m:Int)] 3;rw [Ak] at hC;have HB:=uA (Aa b1 b2);have HF:=uA hF;have HC:=uA hC;clear b1 b2 hF hC;refine callsIn_of_wp_marks func45 rfl trivial ?_ rfl;simp only [ntmps45,Bc,As,Br,Nat.reduceAdd,Nat.reduceSub,Ay,Az,Be,Ba,Bj,Bg];gi_wp2_with (refine ⟨trivial,?_⟩;gi_at_call 47;refine (mQ _ _ _).mono ?_;rintro e w2 ⟨rfl,rfl⟩)
 have b3:=uB ((w.alloc (.cells #[.slice A m c,.slice o r t,.slice u B C,.slice G H I,.slice J M O] 33)).alloc (.cells #[.int .i64 (m:Int)] 3)) (.cells #[.pointer (some ⟨w.heap.size,0,none⟩)] 101);have a6:=Bx.new ((w.alloc (.cells #[.slice A m c,.slice o r t,.slice u B C,.slice G H I,.slice J M O] 33)).alloc (.cells #[.int .i64 (m:Int)] 3)) [.pointer (some ⟨w.heap.size,0,none⟩)] 101;simp only [Ak] at a6;have ad:=uA (Aa HB.o b3);have ae:=uA (HF.o.below b3);have af:=uA (HC.o.below b3);have hZ:w.heap.size+3<=(((w.alloc (.cells #[.slice A m c,.slice o r t,.slice u B C,.slice G H I,.slice J M O] 33)).alloc (.cells #[.int .i64 (m:Int)] 3)).alloc (.cells #[.pointer (some ⟨w.heap.size,0,none⟩)] 101)).heap.size:=by simp
 generalize ((w.alloc (.cells #[.slice A m c,.slice o r t,.slice u B C,.slice G H I,.slice J M O] 33)).alloc (.cells #[.int .i64 (m:Int)] 3)).alloc (.cells #[.pointer (some ⟨w.heap.size,0,none⟩)] 101)=W3 at *;clear b3 HB HF HC;refine wB eW (gf:=91) (lb:=#[.pointer (some ⟨w.heap.size+1+1,0,none⟩)]) rfl (enters_of func91 fL rfl)
  (zK (n₀:=0) (Ts:=[101]) (An.2 rfl) _ eW (w.heap.size+1+1) w.heap.size W3 a6) (Below.refl _ _) (fun _=>rfl)
  (fun d W=>(w.heap.size+3<=W.heap.size/\Bx W w.heap.size [.slice A m c,.slice o r t,.slice u B C,.slice G H I,.slice J M O] 33/\Bx W (w.heap.size+1) [.int .i64 (s d.length)] 3)/\Ab w W)
  (fun _ _ _=>False)
  (Dg (Ed (fun s X Y ag l hg hr=>⟨Ai l.1 hg.size,l.2.1.owns hg hr,l.2.2.owns hg hr⟩) _) (ownFrom_below (Ae _) bB))
  (fun _ _ _ _ _ l _ _=>l)
  ⟨⟨hZ,ae.o,a2.o ▸ af.o⟩,ad.o⟩
  (fun x a' W=>a'={ tmps:=#[wG ⟨⟨A,m,c,L⟩,⟨o,r,t,eL⟩,⟨u,B,C,kL⟩,⟨G,H,I,jL⟩,⟨J,M,O,vL⟩⟩,.pointer (some ⟨w.heap.size,0,none⟩),.bool false,.pointer (some ⟨w.heap.size+1,0,none⟩),undef,.pointer (some ⟨w.heap.size,x.2,none⟩),.pointer (some ⟨w.heap.size,0,none⟩),.slice A m c,.int .i64 (m:Int),.func (.func 91) #[] #[.pointer (some ⟨w.heap.size+1+1,0,none⟩)],.int .i64 x.1,.pointer (some ⟨w.heap.size,x.2,none⟩),undef,undef,undef,undef,undef,undef,undef,undef],defers:=[] })
  (fun x a' _ X Y ag l hg hr=>l)
  ?assign ?body ?done ?stop
 case assign=>
  rintro l' d ⟨x1,x2⟩ W4 K ⟨⟨U,S,g⟩,V⟩ P hK;have HK:=uA hK;have Z:=uA (And.intro (And.intro U (And.intro S g)) V);clear hK U S g V P;dsimp only;gi_wp2;exact HK.o _ _ ((KeepsOthers.refl _).from _) (uT.refl _ _ _) Z.o rfl
 case body=>
  rintro l' d ⟨x1,x2⟩ a' W4 ⟨⟨U,S,g⟩,V⟩ rfl P;obtain ⟨hx,ah⟩:=pX P;have i:(d++[(x1,x2)]).length=d.length+1:=by simp
  rw [Eh] at hx;obtain ⟨_,a7⟩:=hx;obtain ⟨k,hk⟩:∃ k,d.length=k:=⟨_,rfl⟩;simp only [hk] at a7 g i ah;subst a7;have a8:=uA i;have Z:=uA (And.intro (And.intro U (And.intro S g)) V);have z1:=a4.o W4 w.heap.size S (k+1) bB;have a0:=T.o k;obtain ⟨⟨lA,ln,lc,lL⟩,a9⟩:∃ z,ac (k+1)=z:=⟨_,rfl⟩;rw [a9] at z1 a0;have ai:=uA a0;have z2:=g.q 0 rfl;have z3:=g.frozen 0;obtain ⟨sp,a1⟩:∃ z,s k=z:=⟨_,rfl⟩;rw [a1] at z2;have aj:=uA a1;simp only [] at z1;clear U S g V a9 a0 a1 i P hk;gi_wp2;gi_region;all_goals
   generalize aa:max sp (ln:Int)=mx;have ak:=uA (show (if sp < (ln:Int) then (ln:Int) else sp)=mx by rw [<-aa];split<;>omega);clear aa;gi_wp2;refine ⟨aZ ((Bz W4 ⟨w.heap.size+1,0,none⟩ (.int .i64 mx)).from _),(uT.setBx Z.o.1.2.2 (Am _) eW _).drew,⟨by simpa using Z.o.1.1,Z.o.1.2.1.other (a:=⟨w.heap.size+1,0,none⟩) (show w.heap.size+1≠w.heap.size by omega) _,?_⟩,(Z.o.2.setCell (p:=⟨w.heap.size+1,0,none⟩) (Cc _) _).drew⟩;rw [a8.o,ai.o,aj.o,ak.o];exact Z.o.1.2.2.set 0 _
 case done=>
  rintro D ys W4 hD ab ⟨⟨U,S,g⟩,V⟩ hK;obtain ⟨s4,Q⟩:∃ z,s ys.length=z:=⟨_,rfl⟩;rw [Q] at g;have HR:=uA (show decide (16777216 < s4)=v from by
   rw [ab] at Q;rw [<-Q];exact a3.o)
  have z2:=g.q 0 rfl;clear Q ab;have al:w.heap.size<=D:=by omega
  clear U S g;gi_wp2;refine ⟨nF,.inl ⟨_,_,rfl,run_takeDeferred hK,?_⟩⟩;exact ⟨_,results_tmp rfl _ _ _,by rw [<-HR.o];rfl,V.trans (belowK_b (w:=w) (Ae _) W4 D _ _ al hK rfl rfl)⟩
 case stop=>
  rintro D cd d W4 hD am hF;exact hF.elim
end
end Go.Proofs.YtnkjbjkoffgocaaGreatDoor
