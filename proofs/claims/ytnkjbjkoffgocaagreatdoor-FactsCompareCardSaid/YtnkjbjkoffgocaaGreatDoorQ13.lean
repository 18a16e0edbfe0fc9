import Derived.Test.YtnkjbjkoffgocaaGreatDoorQ12
import Derived.OpenShut
import Derived.ProofKit
import Derived.ShutString
import Derived.ChangeOld
import Derived.SizedLaws
import Derived.Deep.Slices
import Derived.Deep.Fields
import Derived.ChangeMaps5
set_option linter.unusedVariables false
set_option linter.unusedSimpArgs false
set_option maxRecDepth 100000
set_option maxHeartbeats 8000000
namespace Go.Proofs.YtnkjbjkoffgocaaGreatDoor
open Tryz Go.RowKit
theorem EG (x:LnW):∀ u∈cLn x,u.oneCell'=true:=by intro u a;simp only [cLn,Av,Cd,or_false] at a;rcases a with rfl | rfl | rfl | rfl | rfl <;> rfl
theorem RJ:(prog.info? 50).map (fun i=>(i.zero,i.size,i.bytes))=some (some (.agg #[.int .i64 0,.int .i64 0,.bool false,.int .i64 0,.slice none 0 0]),5,56):=by kernel_rfl
theorem SQ (s:SlW LnW) (w:World) (q:SlH w w.heap.size 5 cLn (zP w w.heap.size) s) (j:s.n<=2 ^ 39) :
 Calls prog 55 #[s.val] w (PF w 50 5 cLn s.L):=by
 obtain ⟨x,y,k,l,m⟩:=info_parts RJ;have f:=q.cells;obtain ⟨A,n,c,g⟩:=s;simp only [] at j f;clear q;have i:g.length=n:=f.1;show Calls prog 55 #[.slice A n c] w _;rcases A with _ | ad
 ·have h0:n=0:=by
   rcases Ca n with h0 | h0
   ·exact h0
   ·obtain ⟨b,o,h,_⟩:=f.2 h0;cases h
  subst h0;obtain rfl:g=[]:=Bu i;clear i f;have d:=fun w:World=>run_eql_slice_nil (P:=prog) w 31 50 none 0 c underlying31
  simp only [F4] at d;go_enter func55,ntmps55
  go_wp2;go_ret;exact ⟨⟨none,0,0,[]⟩,rfl,rfl,Bv _ _ _ _,Below.refl _ _⟩
 ·have B:=uA f;have G:=uA i;have r:=uA j;clear f i j;have d:=fun w:World=>run_eql_slice_nil (P:=prog) w 31 50 (some ad) n c underlying31
  simp only [F5] at d;go_enter func55,ntmps55
  go_wp2_with (at_builtin;refine xG _ rfl _ _ 31 rfl xX eW EG w.heap.size 50 x _ 56 underlying31 y k l m rfl _ 0 [] rfl (nA w 50 5) w.heap.size (some ad) n c g rfl (B.o.below ((Below.refl w.heap.size w).alloc (Ae _) _)) (by have:=r.o;unfold maxLen;omega) (by have:=r.o;omega) nF ?_;intro C D e p v)
  go_ret;have a:D.ownsRow w.heap.size 50 5 C n (g.flatMap cLn):=by simpa using e
  obtain ⟨E,F,rfl⟩:=wU a;exact ⟨⟨E,n,F,g⟩,rfl,rfl,a,mM ((Below.refl w.heap.size w).alloc (Ae _) _) (nA w 50 5) nF p⟩
theorem CL (x:LnW) (w:World) (V:zP w w.heap.size x) (X:x.pl.n<=2 ^ 39) :
 Calls prog 56 #[KY x] w fun e Y=>∃ q:LnW,e=.returned (KY q)/\q.v=x.v/\lU Y w.heap.size q.pl/\Ab w Y:=by
 have o:=V.pl;obtain ⟨i,k,m,⟨l,A,n,c,Z⟩⟩:=x;simp only [] at o;obtain ⟨W,E⟩:∃ W,W=(w.alloc (.cells #[.int .i64 i,.int .i64 k,.bool m,.int .i64 l,.slice A n c] 50)).alloc (.cells #[.int .i64 0,.int .i64 0,.bool false,.int .i64 0,.slice none 0 0] 50):=⟨_,rfl⟩;have K:=uB w (.cells #[.int .i64 i,.int .i64 k,.bool m,.int .i64 l,.slice A n c] 50);have F:=uB (w.alloc (.cells #[.int .i64 i,.int .i64 k,.bool m,.int .i64 l,.slice A n c] 50)) (.cells #[.int .i64 0,.int .i64 0,.bool false,.int .i64 0,.slice none 0 0] 50);have G:=(Bx.new w [.int .i64 i,.int .i64 k,.bool m,.int .i64 l,.slice A n c] 50).below F;have I:=Bx.new (w.alloc (.cells #[.int .i64 i,.int .i64 k,.bool m,.int .i64 l,.slice A n c] 50)) [.int .i64 0,.int .i64 0,.bool false,.int .i64 0,.slice none 0 0] 50;rw [Ak] at I;rw [<-E] at G I F;have L:=uA (Aa K F);have s:W.heap.size=w.heap.size+2:=by rw [E];simp
 have M:=uA (CB ⟨A,n,c,Z⟩ W ((o.up L.o).sl) X);have HL:=uA G;have HR:=uA I;have N:=uA E;have r:=uA s;have x4:=G.q 4 rfl;clear K F G I E s V o X;go_enter func56,ntmps56
 go_wp2_with fail
 rw [<-N.o];refine M.o.mono ?_;rintro e1 w1 ⟨⟨f,d,h,O⟩,h9,Q,ho,J⟩;obtain rfl:e1=.returned (.slice f d h):=h9;have R:O=Z:=Q;subst R;have HO:Hdd (w1.ownsRow W.heap.size 52 2 (.slice f d h) d (O.flatMap pV)):=ho;have b:=HL.o.below J;have v:=HR.o.below J;have f4:=b.frozen 4;have x0:=b.q 0 rfl;have x1:=b.q 1 rfl;have x2:=b.q 2 rfl;have x3:=b.q 3 rfl;have x4:=b.q 4 rfl;have y:=b.set 4 (.slice f d h);have B:=v.other (a:=⟨w.heap.size,4,none⟩) (show w.heap.size≠w.heap.size+1 by omega) (.slice f d h);have S:=uA ((Aa L.o J).setCell (p:=⟨w.heap.size,4,none⟩) (Ae _) (.slice f d h));have T:=uA (vU HO.o (yJ.setCell (a:=⟨w.heap.size,4,none⟩) (show w.heap.size < W.heap.size by have:=r.o;omega) (.slice f d h)));have a0:=uA y;have C:=uA B;clear ho J b v y B;have D:=uA (all_oneCell_toArray (cs:=[.int .i64 i,.int .i64 k,.bool m,.int .i64 l,.slice f d h]) (fun u hu=>by simp only [Av,Cd,or_false] at hu;rcases hu with rfl | rfl | rfl | rfl | rfl <;> rfl));have U:=uA (show (prog.info? 50).map (·.size)=some 5 by kernel_rfl);go_wp2_with (refine wpList_store_row rfl 50 _ _ rfl (w.heap.size+1) #[.int .i64 i,.int .i64 k,.bool m,.int .i64 l,.slice f d h] rfl rfl 50 #[.int .i64 0,.int .i64 0,.bool false,.int .i64 0,.slice none 0 0] ?_ ?_ ?_ ?_ ?_;exact C.o;exact U.o;rfl;exact D.o)
 refine bodyPost_ret (results_cell_row rfl _ _ (w.heap.size+1) _ #[.int .i64 i,.int .i64 k,.bool m,.int .i64 l,.slice f d h] (0,0) _ rfl (setRow_heap _ _ _ _ _ _ C.o) underlying50 rfl fL) rfl ⟨⟨i,k,m,⟨l,f,d,h,O⟩⟩,rfl,rfl,?_,xS S.o (Cc _) _⟩;have hz:=vU T.o (yJ.setRow9 (g:=w.heap.size+1) (lo:=W.heap.size) (by have:=r.o;omega) #[.int .i64 i,.int .i64 k,.bool m,.int .i64 l,.slice f d h] (w1.setCell ⟨w.heap.size,4,none⟩ (.slice f d h)));exact uI hz (by have:=r.o;omega)
def QP (a:Bool) (w:World) (v:Value) (wr:World):Prop:=∃ A c,∃ q:LnW,v=.slice A 1 c/\wr.ownsRow w.heap.size 50 5 (.slice A 1 c) 1 ([q].flatMap cLn)/\q.v=⟨0,0,a,⟨0,[]⟩⟩/\lU wr w.heap.size q.pl/\Ab w wr
theorem KC (d:Bool) {g:Nat} (w:World) (hx:uS w w.heap.size (nC d g)) :
 Calls prog 37 #[vR (nC d g)] w fun e w'=>∃ v,e=.returned v/\QP d w v w':=by
 obtain ⟨i0,hi,a6,a7,a8⟩:=info_parts RJ;obtain ⟨pb,b,o,N,a9,aa,ab,O,hb,Q,hc⟩:=tH hx (j:=0) Nat.zero_lt_one;obtain rfl:tD d g=pb:=B8 N;have O:(some ⟨g+1+1+1+1,0,none⟩:Option Addr)=some ⟨b,o,none⟩:=O;injection O with O;injection O with e1 e2;subst e1 e2;obtain ⟨b',o',r,R,_,S⟩:=Q.stmts.at_ (i:=0) (x:=TA d) rfl;have r:(some ⟨g+1+1+1,0,none⟩:Option Addr)=some ⟨b',o',none⟩:=r;injection r with r;injection r with e1 e2;subst e1 e2;have HC:=uA hc;have ac:=uA S;have ad:=uA hb;have T:=uA R;have U:=uB w (.cells #[.string ⟨#[102]⟩,.slice (some ⟨g,0,none⟩) 1 1,.slice none 0 0,.slice (some ⟨g+1,0,none⟩) 2 2,.slice (some ⟨g+1+1,0,none⟩) 2 2,.int .i64 0,.slice (some ⟨g+1+1+1+1,0,none⟩) 1 1] 28);have y:=uA U;have V:=uA (Bx.new w [.string ⟨#[102]⟩,.slice (some ⟨g,0,none⟩) 1 1,.slice none 0 0,.slice (some ⟨g+1,0,none⟩) 2 2,.slice (some ⟨g+1+1,0,none⟩) 2 2,.int .i64 0,.slice (some ⟨g+1+1+1+1,0,none⟩) 1 1] 28);have x6:=V.o.q 6 rfl;clear N a9 aa ab hb Q hc R S hx U;go_enter func37,ntmps37
 go_wp2_with fail
 clear x6;generalize ae:w.alloc (.cells #[.string ⟨#[102]⟩,.slice (some ⟨g,0,none⟩) 1 1,.slice none 0 0,.slice (some ⟨g+1,0,none⟩) 2 2,.slice (some ⟨g+1+1,0,none⟩) 2 2,.int .i64 0,.slice (some ⟨g+1+1+1+1,0,none⟩) 1 1] 28)=E at y V ⊢;clear ae;go_loopw [3,4,13] (fun v f i wr=>(i=.int .i64 0/\v=.slice none 0 0/\f=.int .i64 0/\E=wr)\/(i=.int .i64 1/\Hdd (QP d w v wr))) (fun _ _ i _=>1 - (intOf i).toNat)
 case atStart=>exact .inl ⟨rfl,rfl,rfl,rfl⟩
 case round=>
  rcases hrel with ⟨rfl,rfl,rfl,rfl⟩ | ⟨rfl,K⟩
  ·have a:∀ i u,(cBk (tD d g))[i]?=some u->E.cell? ⟨g+1+1+1+1,i,none⟩=some u:=fun i u hu=>by
    have h:=(y.o.cell (p:=⟨g+1+1+1+1,0+0*7+i,none⟩) ad.o).trans (HC.o i u hu)
    rwa [show 0+0*7+i=i by omega] at h
   have z0:=a 0 _ rfl;have z1:=a 1 _ rfl;have z2:=a 2 _ rfl;have z3:=a 3 _ rfl;have z4:=a 4 _ rfl;have z5:=a 5 _ rfl;have z6:=a 6 _ rfl;clear a;go_wp2_with fail
   clear z0 z1 z2 z3 z4 z5 z6;have X:=uB E (.cells #[.slice (some ⟨g+1+1+1,0,none⟩) 1 1,.int .i64 2,.slice none 0 0,.slice none 0 0,.int .i64 0,.slice none 0 0,.string .empty] 65);have s:=uA (Aa y.o X);have HK:=uA (Bx.new E [.slice (some ⟨g+1+1+1,0,none⟩) 1 1,.int .i64 2,.slice none 0 0,.slice none 0 0,.int .i64 0,.slice none 0 0,.string .empty] 65);clear X;generalize af:E.alloc (.cells #[.slice (some ⟨g+1+1+1,0,none⟩) 1 1,.int .i64 2,.slice none 0 0,.slice none 0 0,.int .i64 0,.slice none 0 0,.string .empty] 65)=Y at s HK ⊢;clear af;go_loopw [3,20] (fun v i wr=>(i=.int .i64 0/\v=.slice none 0 0/\Y=wr)\/(i=.int .i64 1/\Hdd (QP d w v wr/\Bx wr E.heap.size [.slice (some ⟨g+1+1+1,0,none⟩) 1 1,.int .i64 2,.slice none 0 0,.slice none 0 0,.int .i64 0,.slice none 0 0,.string .empty] 65))) (fun _ i _=>1 - (intOf i).toNat)
   case atStart=>exact .inl ⟨rfl,rfl,rfl⟩
   case round=>
    rcases hrel with ⟨rfl,rfl,rfl⟩ | ⟨rfl,K⟩
    ·have a:∀ i u,(cSt (TA d))[i]?=some u->Y.cell? ⟨g+1+1+1,i,none⟩=some u:=fun i u hu=>by
      have h:=(s.o.cell (p:=⟨g+1+1+1,0+0*11+i,none⟩) T.o).trans (ac.o i u hu)
      rwa [show 0+0*11+i=i by omega] at h
     have z0:=a 0 _ rfl;have z1:=a 1 _ rfl;have z2:=a 2 _ rfl;have z3:=a 3 _ rfl;have z4:=a 4 _ rfl;have z5:=a 5 _ rfl;have z6:=a 6 _ rfl;have z7:=a 7 _ rfl;have z8:=a 8 _ rfl;have z9:=a 9 _ rfl;have ag:=a 10 _ rfl;clear a;go_wp2_with fail
     clear z0 z1 z2 z3 z4 z5 z6 z7 z8 z9 ag;have b3:=uB Y (.cells #[.int .i64 0,.int .i64 1,.slice none 0 0,.int .i64 1,.int .i64 0,.int .i64 0,.bool d,.int .i64 0,.slice none 0 0,.slice none 0 0,.int .i64 0] 69);have b4:=uB (Y.alloc (.cells #[.int .i64 0,.int .i64 1,.slice none 0 0,.int .i64 1,.int .i64 0,.int .i64 0,.bool d,.int .i64 0,.slice none 0 0,.slice none 0 0,.int .i64 0] 69)) (.cells #[.int .i64 1,.int .i64 0,.int .i64 0,.bool d,.int .i64 0,.slice none 0 0,.slice none 0 0] 67);have m:=(Aa b3 b4);clear b3 b4;generalize (Y.alloc (.cells #[.int .i64 0,.int .i64 1,.slice none 0 0,.int .i64 1,.int .i64 0,.int .i64 0,.bool d,.int .i64 0,.slice none 0 0,.slice none 0 0,.int .i64 0] 69)).alloc (.cells #[.int .i64 1,.int .i64 0,.int .i64 0,.bool d,.int .i64 0,.slice none 0 0,.slice none 0 0] 67)=w4 at m ⊢;refine (CL ⟨0,0,d,⟨0,none,0,0,[]⟩⟩ w4 ⟨nJ,nJ,uB6 _ _ eW⟩ (Am _)).mono ?_;rintro e w5 ⟨⟨L,M,mt,⟨l,B,C,D,ps⟩⟩,rfl,Z,a0,F⟩;have ah:=uA Z;have G:=s.o.trans ((Aa m F).mono s.o.size);have a1:=HK.o.below (Aa m F);have b6:=uB w5 (.cells #[.int .i64 L,.int .i64 M,.bool mt,.int .i64 l,.slice B C D] 50);have ai:Hdd (lU (w5.alloc (.cells #[.int .i64 L,.int .i64 M,.bool mt,.int .i64 l,.slice B C D] 50)) w.heap.size ⟨l,B,C,D,ps⟩):=uI (uC a0 b6) (Ai s.o.size m.size);have a2:=uA (a1.below b6);have I:=uA (Aa G b6);have a3:=Bd (heap_alloc_new w5 (.cells #[.int .i64 L,.int .i64 M,.bool mt,.int .i64 l,.slice B C D] 50));clear Z a0 m F G a1 b6;go_wp2_with (at_builtin;first | (refine wpList_append_own_at _ rfl _ _ 31 rfl w.heap.size 50 i0 (.agg #[.int .i64 0,.int .i64 0,.bool false,.int .i64 0,.slice none 0 0]) 5 56 underlying31 hi a6 a7 a8 rfl eW _ 0 [] rfl (Bv _ _ _ _) ⟨w5.heap.size,0,none⟩ 1 1 [.int .i64 L,.int .i64 M,.bool mt,.int .i64 l,.slice B C D] rfl rfl a3 (EG ⟨L,M,mt,⟨l,B,C,D,ps⟩⟩) eW eW I.o.size ?_;intro v6 w6 n a4 _ a5;obtain ⟨A6,k6,rfl⟩:=wU n;have aj:=uA n;have J:Hdd (World.grownBy _ w6 none):=a4;clear a5 n a4) | (trace_state;exact test))
     have ak:=uA (show QP d w (.slice A6 (0+1) k6) w6/\Bx w6 E.heap.size [.slice (some ⟨g+1+1+1,0,none⟩) 1 1,.int .i64 2,.slice none 0 0,.slice none 0 0,.int .i64 0,.slice none 0 0,.string .empty] 65 from
      ⟨⟨A6,k6,⟨L,M,mt,⟨l,B,C,D,ps⟩⟩,rfl,aj.o,ah.o,World.ownsRow.kept ai.o J.o (by cases h:(Value.slice B C D).ownBlock <;> simp [h]),I.o.grown J.o I.o.size (fun k e=>by cases e)⟩,(J.o.block _ (Ag.1 a2.o).1 (fun e=>by cases e)).trans a2.o⟩)
     clear a3;go_roundw
     case rel=>exact .inr ⟨by go_num,ak⟩
     case measure=>simp [intOf]
    ·obtain ⟨⟨A,c,q,rfl,h1,h2,h3,h4⟩,hk⟩:=K.o;have k0:=hk.q 0 rfl;have al:=uA K.o.1;clear h1 h2 h3 h4 hk K;go_wp2_with fail
     go_roundw
     case rel=>exact .inr ⟨by go_num,al⟩
     case measure=>simp [intOf]
  ·obtain ⟨A,c,q,rfl,h1,h2,h3,h4⟩:=K.o;clear h1 h2 h3 h4;go_wp2_with fail
   go_ret;exact ⟨_,rfl,K.o⟩
def VK (L:List Int):List Pr:=L.map fun z=>((0:Int),z)
def lC (w:World) (L:List Int) (v:Value) (wr:World):Prop:=∃ A m c,v=.slice A m c/\m=L.length/\wr.ownsRow w.heap.size 54 2 (.slice A m c) m ((VK L).flatMap pV)/\Ab w wr
theorem ZI (p:Pr):∀ u∈pV p,u.oneCell'=true:=by
 intro u a;simp only [pV,Av,Cd,or_false] at a;rcases a with rfl | rfl <;> rfl
theorem TK (base H:Nat) (s:SlW Int) (w:World) (h:OY w base H s) (hn:s.n<=1000) :
 Calls prog 40 #[.slice (some ⟨H,0,none⟩) 1 1] w fun e w'=>∃ v,e=.returned v/\lC w s.L v w':=by
 obtain ⟨i0,hi,L,M,N⟩:=info_parts lH;have d:=h.own 0 s rfl;have l:=uA d;have hH:=h.lt;have HH:=uA hH;have O:Hdd (w.cell? ⟨H,0,none⟩=some (.slice s.A s.n s.c)):=h.q 0 rfl;have n:s.L.length=s.n:=vH vN eW d;have q:=uA n;obtain ⟨sA,x,sc,r⟩:=s;simp only [] at n hn O q l ⊢;clear h d hH;go_enter func40,ntmps40
 go_wp2_with fail
 go_loopw [3,10] (fun v i wr=>(i=.int .i64 0/\v=.slice none 0 0/\w=wr)\/(i=.int .i64 1/\Hdd (lC w r v wr))) (fun _ i _=>1 - (intOf i).toNat)
 case atStart=>exact .inl ⟨rfl,rfl,rfl⟩
 case round=>
  rcases hrel with ⟨rfl,rfl,rfl⟩ | ⟨rfl,y⟩
  ·have x0:=O.o;go_wp2_with fail
   go_loopw [3,17] (fun v i Q=>∃ j:Nat,i=.int .i64 (j:Int)/\j<=x/\Hdd (lC w (r.take j) v Q)) (fun _ i _=>x - (intOf i).toNat)
   case atStart=>exact ⟨0,rfl,Am _,none,0,0,rfl,rfl,Bv _ _ _ _,Below.refl _ _⟩
   case round=>
    obtain ⟨j,rfl,hj,y⟩:=hrel;obtain ⟨A,m,c,rfl,E,F,D⟩:=y.o;by_cases a3:j < x
    ·have a2:(j:Int) < (x:Int):=bB;have a4:(0:Int)<=(j:Int):=bB;obtain ⟨z,R⟩:∃ z,r[j]?=some z:=⟨_,Ad bB⟩;have G:=uA (show r.take (j+1)=r.take j++[z] by rw [Bm,R];rfl);obtain ⟨b,o,S,T,hc⟩:=(uM.of_own (f:=uX) vN eW (show w.ownsRow base 3 1 (.slice sA x sc) x (r.flatMap uX) from l.o)).at_ (i:=j) R;have S:sA=some ⟨b,o,none⟩:=S;subst S;have z0:=(D.cell (p:=⟨b,o+j*1+0,none⟩) T).trans (hc 0 _ rfl);simp only [Ey,Dl] at z0;have U:m=j:=by rw [E,B9];omega
     subst U;have V:=uA D;have g:=uB wr (.cells #[.int .i64 0,.int .i64 z] 54);have B:=uC F g;have I:=Bd (heap_alloc_new wr (.cells #[.int .i64 0,.int .i64 z] 54));have C:w.heap.size<=(wr.alloc (.cells #[.int .i64 0,.int .i64 z] 54)).heap.size:=Ai V.o.size g.size;have X:=uA g;have a5:=q.o;clear D F hc R g x0 O E y;go_wp2_with (at_builtin;refine wpList_append_own_at _ rfl _ _ 23 rfl w.heap.size 54 i0 (.agg #[.int .i64 0,.int .i64 0]) 2 16 underlying23 hi L M N rfl eW _ m ((VK (r.take m)).flatMap pV) rfl B ⟨wr.heap.size,0,none⟩ 1 1 (pV ((0:Int),z)) rfl rfl I (ZI _) (by unfold maxLen;omega) bB C ?_;intro v6 w6 a J _ K;obtain ⟨A6,k6,rfl⟩:=wU a;have Y:=uA a;have Z:Hdd (World.grownBy _ w6 (Value.slice A m c).ownBlock):=J;clear K a J)
     have a0:Hdd (Ab w w6):=(Aa V.o X.o).grown Z.o C (fun k e=>(B.lt k e).1);clear B I C;go_roundw
     case rel=>
      refine ⟨m+1,by go_num,bB,A6,m+1,k6,rfl,by rw [G.o,Aw];simp;omega,?_,a0.o⟩;rw [G.o];have h:=Y.o;unfold VK at h ⊢;rw [By,Bk];exact h
     case measure=>simp [intOf];omega
    ·obtain rfl:j=x:=by omega
     have a1:=uA (show lC w r (.slice A m c) wr by have h:=y.o;rwa [Au bB] at h);clear E F D y;go_wp2_with fail
     go_roundw
     case rel=>exact .inr ⟨by go_num,a1⟩
     case measure=>simp [intOf]
  ·obtain ⟨A,m,c,rfl,E,F,D⟩:=y.o;clear E F D;go_wp2_with fail
   go_ret;exact ⟨_,rfl,y.o⟩
section
open Go.ChangeShapes Go.WideShapes Go.ChangeAt
theorem uFw {w:World} {a:Addr} {v:Value} (h:w.cell? a=some v):a.block < w.heap.size:=by
 rcases Bs a.block w.heap.size with h' | h'
 ·exact h'
 ·unfold World.cell? at h;rw [Dd h'] at h;simp at h
theorem ID {α:Type} {Q:Nat->α->Prop}:∀ n:Nat,(∀ i,i < n->∃ a,Q i a)->∃ L:List α,L.length=n/\∀ i a,L[i]?=some a->Q i a
 | 0,_=>⟨[],rfl,fun i a h=>by simp at h⟩
 | n+1,h=>by
   obtain ⟨L,e,f⟩:=ID n fun i hi=>h i bB
   obtain ⟨a,g⟩:=h n bB;refine ⟨L++[a],by simp [e],fun i b c=>?_⟩;rcases Bs i L.length with hi | hi
   ·rw [Cr hi] at c;exact f i b c
   ·rw [B4 hi] at c;have d:i - L.length=0:=by
     rcases Ca (i - L.length) with h0 | h0
     ·exact h0
     ·rw [Bh (by simp;omega)] at c;cases c
    rw [d] at c;simp at c;subst c;rw [show i=n by omega];exact g
theorem uGd {x:Int} (h:(Lit.int .i64 x).wf=true):uH x:=by simpa [uH,Lit.wf,IntKind.min,IntKind.max,IntKind.signed,IntKind.bits] using h
theorem MM {H:Type} {enc:TypeId×Value->H} {P:Program} {W:World} {e:TypeId} {d:Array Field} {fuel:Nat} {cs:List Value} {z:DataW H×List MemPlace} (o:P.underlying e=some (.struct d)) (b:Go.Deep.oneCellFields P d=true) (m:cs.length=d.size)
 (h:DataW.trod enc P W 0 (fun _=>true) true fuel e cs=some z):∃ k,∀ (j:Nat) (f:Field),d[j]?=some f->∃ u y,cs[j]?=some u/\DataW.trod enc P W 0 (fun _=>true) true k f.type [u]=some y:=by
 obtain ⟨p,k,_,_,_,g,c⟩:=DataW.trod_struct o h;refine ⟨k,fun j f i=>?_⟩;obtain ⟨q,l⟩:=Go.Deep.hone_of b j f i;have n:=c j f i;have a:j < cs.length:=by rw [m];exact (Ag.1 i).1
 rw [q,l,Go.Deep.take1_drop cs j (.int .i64 0) a] at n;refine ⟨cs.getD j (.int .i64 0),p[j]'(by rw [g];rw [<-m];exact a),by simp [Bn,Ad a],?_⟩;rw [n];exact Ad _
theorem NM {H:Type} {enc:TypeId×Value->H} {P:Program} {W:World} {e:TypeId} {b c:Field} {fuel:Nat} {cs:List Value} {z:DataW H×List MemPlace} (m:P.underlying e=some (.struct #[b,c])) (a:Go.Deep.oneCellFields P #[b,c]=true)
 (n:P.underlying b.type=some (.int .i64)) (o:P.underlying c.type=some (.int .i64)) (j:cs.length=2) (h:DataW.trod enc P W 0 (fun _=>true) true fuel e cs=some z):∃ p:Pr,cs=pV p/\xH p:=by
 obtain ⟨k,l⟩:=MM m a (by rw [j];rfl) h
 match cs,j with
 | [u0,u1],_=>
   obtain ⟨y,A,d,q⟩:=l 0 b rfl;obtain ⟨B,C,f,r⟩:=l 1 c rfl;injection d with d;injection f with f;subst d f;obtain ⟨s,g,_,v⟩:=F6 n q;obtain ⟨w,i,_,x⟩:=F6 o r;injection g with g;injection i with i;subst g i;exact ⟨(s,w),rfl,uGd v,uGd x⟩
def QC (P:Program) (a:Array Field) (j off k:Nat) (t:TypeId):Bool:=match a[j]? with
 | some f=>f.offset == off && P.cellsOf f.type == k && f.type == t
 | none=>false
def Fit {H:Type} (P:Program) (t:TypeId) (d:DataW H):Prop:=(d.weights P t).all (·<=reachBytes)=true
theorem Fit.of_sub {H:Type} {P:Program} {t a:TypeId} {d b:DataW H} (h:Fit P t d) (c:∀ n∈b.weights P a,n∈d.weights P t):Fit P a b:=by
 unfold Fit at *;rw [Cb] at *;exact fun n e=>h n (c n e)
theorem Fit.part {H:Type} {P:Program} {e:TypeId} {b:Array Field} (c:P.underlying e=some (.struct b)) {a:List (DataW H)} (h:Fit P e (.agg a)) {j:Nat} {f:Field} {d:DataW H} (g:b[j]?=some f) (i:a[j]?=some d):Fit P f.type d:=by
 refine h.of_sub fun n k=>?_
 have l:(DataW.agg a).weights P e=DataW.weightsEach P (b.toList.map (·.type)) a:=by simp [DataW.weights,c]
 rw [l];exact D5 (by rw [Ar,Et,g];rfl) i n k
theorem aO {H:Type} {P:Program} {e:TypeId}:∀ {a:List (DataW H)} {d:DataW H},d∈a->∀ n∈d.weights P e,n∈DataW.weightsAll P e a
 | x :: r,d,h,n,b=>by
   rw [DataW.weightsAll];rcases Av.1 h with rfl | h
   ·exact Ee _ b
   ·exact Gx _ (aO h n b)
theorem Fit.elem {H:Type} {P:Program} {t e:TypeId} (c:P.underlying t=some (.slice e)) {a b:List (DataW H)} (h:Fit P t (.slice a b)) {d:DataW H} (f:d∈a):Fit P e d:=by
 refine h.of_sub fun n g=>?_
 have i:(DataW.slice a b).weights P t=(a.length+b.length)*P.bytesOf e :: (DataW.weightsAll P e a++DataW.weightsAll P e b):=by simp [DataW.weights,c]
 rw [i];exact Cj _ (Ee _ (aO f n g))
theorem Fit.len {H:Type} {P:Program} {t e:TypeId} (c:P.underlying t=some (.slice e)) {a b:List (DataW H)} (h:Fit P t (.slice a b)) (d:0 < P.bytesOf e):a.length<=2 ^ 47:=by
 have f:(DataW.slice a b).weights P t=(a.length+b.length)*P.bytesOf e :: (DataW.weightsAll P e a++DataW.weightsAll P e b):=by simp [DataW.weights,c]
 unfold Fit at h;rw [f,G3,En] at h;have g:=of_decide_eq_true h.1;have i:a.length+b.length<=(a.length+b.length)*P.bytesOf e:=Nat.le_mul_of_pos_right _ d;unfold reachBytes at g;omega
theorem yE {H:Type} {enc:TypeId×Value->H} {P:Program} {W:World} {e:TypeId} {l:Array Field} {fuel:Nat} {cs:List Value} {z:DataW H×List MemPlace} (n:P.underlying e=some (.struct l)) {j off k:Nat} {t:TypeId} (b:QC P l j off k t=true)
 (h:DataW.trod enc P W 0 (fun _=>true) true fuel e cs=some z):∃ m y,DataW.trod enc P W 0 (fun _=>true) true m t ((cs.drop off).take k)=some y/\(Fit P e z.1->Fit P t y.1):=by
 obtain ⟨i,m,_,r,_,a,c⟩:=DataW.trod_struct n h;unfold QC at b
 split at b
 ·rename_i f g;simp only [En,beq_iff_eq] at b;obtain ⟨⟨s,v⟩,o⟩:=b;have p:=c j f g;rw [s,v] at p;have q:i[j]?=some (i[j]'(by rw [a];exact (Ag.1 g).1)):=Ad _;refine ⟨m,i[j]'(by rw [a];exact (Ag.1 g).1),?_,fun hF=>?_⟩
  ·rw [<-o,p];exact q
  ·subst r;have:=Fit.part n hF g (d:=(i[j]'(by rw [a];exact (Ag.1 g).1)).1) (by rw [Ar,q];rfl)
   rwa [o] at this
 ·cases b
theorem tS {H:Type} {enc:TypeId×Value->H} {P:Program} {W:World} {t e:TypeId} {fuel:Nat} {u:Value} {z:DataW H×List MemPlace} {α:Type} (f:α->List Value) (Q R:α->Prop) {k:Nat} (Z:0 < k) (U:∀ x,(f x).length=k)
 (F:P.underlying t=some (.slice e)) (hC:P.cellsOf e=k) (hB:0 < P.bytesOf e) (y:∀ (fuel:Nat) (cs:List Value) (z:DataW H×List MemPlace),cs.length=k->DataW.trod enc P W 0 (fun _=>true) true fuel e cs=some z->∃ x,cs=f x/\Q x/\(Fit P e z.1->R x))
 (h:DataW.trod enc P W 0 (fun _=>true) true fuel t [u]=some z):∃ A n c L,u=.slice A n c/\n<=c/\c<=maxLen/\uM W W.heap.size k f A n L/\(∀ x∈L,Q x)/\(Fit P t z.1->n<=2 ^ 47/\∀ x∈L,R x):=by
 rcases Go.Deep.open_slice F h with ⟨d,_⟩ | ⟨a,g,a0,m,nn,D,Pl,d,_,G,I,V,hz,J⟩
 ·injection d with d;subst d;exact ⟨none,0,0,[],rfl,Ae _,Am _,⟨rfl,fun h=>absurd h bB⟩,(fun x l=>by cases l),fun _=>⟨bB,fun x l=>by cases l⟩⟩
 ·injection d with d;subst d;simp only [if_true] at V;subst V;have p:Fit P t z.1->g<=2 ^ 47/\∀ i,i < g->Fit P e (D i):=fun hF=>by
   rw [hz] at hF;refine ⟨by simpa using hF.len F hB,fun i J=>hF.elem F (Bw.2 ⟨i,B1.2 J,rfl⟩)⟩
  have K:∀ i,i < g->∃ x:α,(Q x/\(Fit P t z.1->R x))/\∀ j v,(f x)[j]?=some v->W.cell? ((a.add (i*k)).add j)=some v:=by
   intro i M;obtain ⟨cs,d,N⟩:=J i bB;rw [hC] at d;obtain ⟨_,B,O⟩:=World.cells?_some d;obtain ⟨x,rfl,w,hr⟩:=y nn cs _ B N;refine ⟨x,⟨w,fun hF=>hr ((p hF).2 i M)⟩,fun j v X=>?_⟩;have hj:j < k:=by have:=(Ah.1 X).1;rwa [U] at this
   exact (O j hj).trans X
  obtain ⟨L,hL,w⟩:=ID g K;refine ⟨some a,g,m,L,rfl,G,I,⟨hL,fun hn=>?_⟩,fun x l=>?_,fun hF=>⟨(p hF).1,fun x l=>?_⟩⟩
  ·obtain ⟨Y,S⟩:∃ x,L[0]?=some x:=⟨_,Ad bB⟩;obtain ⟨v0,T⟩:∃ v,(f Y)[0]?=some v:=⟨_,Ad (by rw [U];exact Z)⟩;obtain ⟨b,o,C⟩:=a;have E:=(w 0 Y S).2 0 v0 T;have r:C=none:=by
    have:=World.cell?_spot E;simpa [Addr.add] using this
   subst r;have q:∀ i j,((⟨b,o,none⟩:Addr).add i).add j=⟨b,o+i+j,none⟩:=fun i j=>by unfold Addr.add;split <;> split <;> simp_all
   refine ⟨b,o,rfl,?_,fun i x l j u hu=>?_⟩
   ·have:=uFw E;rw [q] at this;exact this
   ·have:=(w i x l).2 j u hu
    rwa [q] at this
  ·obtain ⟨i,s⟩:=B2 l;exact (w i x s).1.1
  ·obtain ⟨i,s⟩:=B2 l;exact (w i x s).1.2 hF
section
variable {H:Type} {enc:TypeId×Value->H} {P:Program} {W:World} {fuel:Nat} {u:Value} {t:TypeId} {z:DataW H×List MemPlace}
theorem gR (a:P.underlying t=some (.int .i64)) (h:DataW.trod enc P W 0 (fun _=>true) true fuel t [u]=some z):∃ x:Int,u=.int .i64 x/\uH x:=by
 obtain ⟨x,q,_,w⟩:=F6 a h;injection q with q;exact ⟨x,q,uGd w⟩
theorem XR (a:P.underlying t=some .bool) (h:DataW.trod enc P W 0 (fun _=>true) true fuel t [u]=some z):∃ b:Bool,u=.bool b:=by
 obtain ⟨b,q,_⟩:=DataW.trod_bool a h;injection q with q;exact ⟨b,q⟩
theorem AR {e:TypeId} {α:Type} (f:α->List Value) (Q R:α->Prop) {k:Nat} (b:0 < k) (d:∀ x,(f x).length=k) (g:P.underlying t=some (.slice e)) (i:P.cellsOf e=k) (j:0 < P.bytesOf e)
 (a:∀ (fuel:Nat) (cs:List Value) (z:DataW H×List MemPlace),cs.length=k->DataW.trod enc P W 0 (fun _=>true) true fuel e cs=some z->∃ x,cs=f x/\Q x/\(Fit P e z.1->R x)) (h:DataW.trod enc P W 0 (fun _=>true) true fuel t [u]=some z):∃ s:SlW α,u=.slice s.A s.n s.c/\SlH W W.heap.size k f Q s/\(Fit P t z.1->s.n<=2 ^ 47/\∀ x∈s.L,R x):=by
 obtain ⟨A,n,c,L,rfl,l,m,o,p,q⟩:=tS f Q R b d g i j a h;exact ⟨⟨A,n,c,L⟩,rfl,⟨l,m,o,p⟩,q⟩
end
section
variable {H:Type} {enc:TypeId×Value->H} {W:World} {fuel:Nat} {cs:List Value} {u:Value} {z:DataW H×List MemPlace}
theorem uF9 (a:cs.length=2) (h:DataW.trod enc prog W 0 (fun _=>true) true fuel 48 cs=some z):∃ x:PlW,cs=[.int .i64 x.l,.slice x.A x.n x.c]/\uL W W.heap.size x/\(Fit prog 48 z.1->x.n<=2 ^ 47):=by
 match cs,a with
 | [u0,u1],_=>
   obtain ⟨b,d,f,B⟩:=yE (j:=0) (off:=0) (k:=1) (t:=3) underlying48 fL h;obtain ⟨g,i,m,o⟩:=yE (j:=1) (off:=1) (k:=1) (t:=46) underlying48 fL h;obtain ⟨l,rfl,a⟩:=gR underlying3 (show DataW.trod enc prog W 0 (fun _=>true) true b 3 [u0]=some d from f);obtain ⟨A,n,c,L,rfl,q,r,s,v,w⟩:=tS pV xH (fun _=>True) eW uY underlying46 fL (of_decide_eq_true fL) (fun fuel cs z a h=>by
    obtain ⟨p,e,y⟩:=NM underlying52 fL underlying3 underlying3 a h;exact ⟨p,e,y,fun _=>trivial⟩) (show DataW.trod enc prog W 0 (fun _=>true) true g 46 [u1]=some i from m)
   exact ⟨⟨l,A,n,c,L⟩,rfl,⟨q,r,a,s,v⟩,fun hF=>(w (o hF)).1⟩
theorem WF (f:cs.length=2) (h:DataW.trod enc prog W 0 (fun _=>true) true fuel 54 cs=some z):∃ p:Pr,cs=pV p/\xH p:=by
 obtain ⟨b,m,_,_,c,g,a⟩:=DataW.trod_array underlying54 h
 match cs,f with
 | [u0,u1],_=>
   have i:prog.cellsOf 3=1:=fL;have d:=a 0 bB;have e:=a 1 bB;rw [i] at d e;have j:DataW.trod enc prog W 0 (fun _=>true) true m 3 [u0]=some (b[0]'bB):=by
    have:=d.trans (Ad bB);simpa [Value.cells] using this
   have k:DataW.trod enc prog W 0 (fun _=>true) true m 3 [u1]=some (b[1]'bB):=by
    have:=e.trans (Ad bB);simpa [Value.cells] using this
   obtain ⟨l,rfl,n⟩:=gR underlying3 j;obtain ⟨o,rfl,q⟩:=gR underlying3 k;exact ⟨(l,o),rfl,n,q⟩
end
end
def XW (s:SlW OpW):Nat:=s.n+oS (fun o=>o.pl.n) s.L
def uGk (s:StW):Nat:=s.pl.n+s.rv.pl.n+XW s.rv.args
def uDd (b:BkW):Nat:=1+b.stmts.n+b.term.targets.n+b.term.pl.n+min b.term.name.size 9000+oS uGk b.stmts.L+XW b.term.args
def szR (s:ByteArray):Nat:=1+min s.size 9000
def szT (t:TyW):Nat:=1+min t.n 9000
def szL (l:LcW):Nat:=1+min l.name.size 9000
def szB (x:BdW):Nat:=min x.name.size 9000+x.outl.n+oS szR x.regions.L+oS szT x.types.L+oS szL x.locals.L+oS uDd x.blocks.L
def st1 (w:World) (x:StW):World:=w.alloc (.cells #[.int .i64 x.kind,.int .i64 x.pl.l,.slice x.pl.A x.pl.n x.pl.c,.int .i64 x.rv.kind,.int .i64 x.rv.op,.int .i64 x.rv.region,.bool x.rv.mut_,.int .i64 x.rv.pl.l,.slice x.rv.pl.A x.rv.pl.n x.rv.pl.c,.slice x.rv.args.A x.rv.args.n x.rv.args.c,.int .i64 x.loc] 69)
section
open Go.Shelf
attribute [local go_sem] Oper.semAt_some
theorem oH {W b:World} {row:Option Nat} {B:Nat} {cs:Array Value} {t:TypeId} {c:Nat×Nat} (h:W.heap[B]?=some (.cells cs t c)) (d:W.grownBy b row) (e:∀ r,row=some r->∃ o:Obj,W.heap[r]?=some o/\o.isCells=false):b.heap[B]?=some (.cells cs t c):=
 (d.block B (Ag.1 h).1 (fun f=>by
  obtain ⟨o,a,g⟩:=e B f.symm;rw [h] at a;injection a with a;subst a;cases g)).trans h
theorem jM (w:World) (a:Addr) (v:Value):(w.setCell a v).heap.size=w.heap.size:=by simp
theorem yS {W a:World} {B:Nat} {t:TypeId} {u:Value} (h:Boxed W B t u) (b:Ab W a):Boxed a B t u:=(b.block B h.lt).trans h
def eR {T:List Ty} {t:Int} {ps:List Pr} (pre:List (StX T t ps)):Nat×Int:=match pre.getLast? with
 | none=>(0,0)
 | some y=>(y.1,tyA T t ps y.1)
theorem kI {T:List Ty} {t:Int} {ps:List Pr} {pre:List (StX T t ps)} {y:StX T t ps}:eR (pre++[y])=(y.1,tyA T t ps y.1):=by
 unfold eR;rw [List.getLast?_concat]
theorem NY {T:List Ty} {t:Int} {ps:List Pr} {ys:List (StX T t ps)} {m:Nat} (h:ys.map (·.1)=List.range (m+1)):eR ys=(m,tyA T t ps m):=by
 rcases List.eq_nil_or_concat ys with rfl | ⟨l,y,rfl⟩
 ·rw [Dx] at h;simp at h
 ·rw [List.concat_eq_append] at h ⊢;rw [kI];rw [By,Dx] at h;have a:=List.append_inj_right' h rfl;have:y.1=m:=by simpa using a
  rw [this]
structure Pl8 (w:World) (At Al:Option Addr) (nt nl:Nat) (L:List TyW) (LL:List LcW) (x:PlW) (r:Int):Prop where
 typs:yH w w.heap.size At nt L
 locs:cG w w.heap.size Al nl LL
 one:uL w w.heap.size x
 nt:nt<=maxLen
 nl:nl<=maxLen
 ok:TyOk (tys L) r
 lc:uCq (tys L) (lcs LL)
theorem Pl8.up {w w':World} {b c:Option Addr} {nt d:Nat} {L:List TyW} {e:List LcW} {x:PlW} {r:Int} (h:Pl8 w b c nt d L e x r) (a:Ab w w'):Pl8 w' b c nt d L e x r:=⟨h.typs.up a,h.locs.up a,h.one.up a,h.nt,h.nl,h.ok,h.lc⟩
theorem Pl8.way {w:World} {b c:Option Addr} {nt d:Nat} {L:List TyW} {a:List LcW} {x:PlW} {r:Int} (h:Pl8 w b c nt d L a x r) {k:Nat} {lc:LcW} (f:x.l=(k:Int)) (e:a[k]?=some lc):uH9 b c nt d L a x k lc r:=by
 have:=h.lc lc.ty (List.mem_map_of_mem (Aj e));exact ⟨h.ok,h.nt,h.nl,h.one.nc,h.one.cm,f,e,this.1,by rw [<-zE];exact this.2⟩
theorem NB {j q:Option Addr} {nt ct g cl:Nat} {L:List TyW} {LL:List LcW} {x:PlW} {r:Int} {w:World} (h:Pl8 w j q nt g L LL x r) {k:Nat} {lc:LcW} (hk:x.l=(k:Int)) (T:LL[k]?=some lc) (U:vS x.l x.ps=0) :
 CallsIn Fence.wide 9 prog 258 #[.slice j nt ct,.slice q g cl,uV x] w fun e w'=>e=.returned (.tuple #[.int .i64 (goL (tys L) lc.ty x.ps).1,.int .i64 (goL (tys L) lc.ty x.ps).2])/\Ab w w':=by
 have V:=(Below.refl w.heap.size w).alloc (Ae _) (.cells #[.int .i64 x.l,.slice x.A x.n x.c] 48);have a0:=uA V;have HW:=uA (h.way hk T);have HC:=uA (iJ U _ (h.one.up V));have av:=(Ah.1 T).1;have aq:=h.locs.len;have ad:Hdd (vD (k:Int) (g:Int)=true):=uW.2 ⟨bB,bB⟩;have H:=uA fun w' (hb:Ab w w')=>h.up hb
 have a1:x.ps.length=x.n:=h.one.prs.len;have ae:=h.one.nc;have a2:=h.one.cm;have a3:=(oF.1 U).2.1;have af:=uA (heap_alloc_new w (.cells #[.int .i64 x.l,.slice x.A x.n x.c] 48));obtain ⟨l,A,n,c,f⟩:=x;simp only [] at hk a1 ae a2 a3;subst hk;unfold maxLen at a2;clear h V T U;refine callsIn_of_wp_marks func258 rfl trivial ?_ rfl;simp only [ntmps258,Bc,As,Br,Nat.reduceAdd,Nat.reduceSub,Ay,Az,Be,Ba,Bj,Bg];gi_wp2_with (first
  | (refine ⟨trivial,?_⟩;gi_at_call 90;refine (callsIn_wide.2 HC.o).mono ?_;rintro e a ⟨rfl,M⟩;have a4:=uA M;have E:=(M.block w.heap.size nF).trans af.o;have z0:=uE E 0;have z1:=uE E 1;have y0:=uE ((((Below.refl a.heap.size a).alloc (Ae _) (.cells #[.int .i64 0] 3)).alloc nF (.cells #[.int .i64 0] 3)).block w.heap.size (by have:=M.size;simp at this;omega) |>.trans E) 0;have y1:=uE ((((Below.refl a.heap.size a).alloc (Ae _) (.cells #[.int .i64 0] 3)).alloc nF (.cells #[.int .i64 0] 3)).block w.heap.size (by have:=M.size;simp at this;omega) |>.trans E) 1)
  | (refine ⟨trivial,?_⟩;gi_at_call 278;refine (callsIn_wide.2 (nY ad.o _)).mono ?_;rintro e w2 ⟨rfl,rfl⟩)
  | (refine ⟨trivial,?_⟩;gi_at_call 279;refine (JE _ j q nt ct g cl ⟨(k:Int),A,n,c,f⟩ _).mono ?_;rintro e w2 ⟨rfl,rfl⟩))
 have bR:=((((Du a 3 (.int .i64 0)).alloc (.cells #[.int .i64 0] 3)).alloc (.cells #[.slice j nt ct] 24)).alloc (.cells #[.slice q g cl] 25)).alloc (.cells #[.int .i64 (k:Int),.slice A n c] 48);have bT:=(((Du (a.alloc (.cells #[.int .i64 0] 3)) 3 (.int .i64 0)).alloc (.cells #[.slice j nt ct] 24)).alloc (.cells #[.slice q g cl] 25)).alloc (.cells #[.int .i64 (k:Int),.slice A n c] 48);have bA:=((Du ((a.alloc (.cells #[.int .i64 0] 3)).alloc (.cells #[.int .i64 0] 3)) 24 (.slice j nt ct)).alloc (.cells #[.slice q g cl] 25)).alloc (.cells #[.int .i64 (k:Int),.slice A n c] 48);have bL:=(Du (((a.alloc (.cells #[.int .i64 0] 3)).alloc (.cells #[.int .i64 0] 3)).alloc (.cells #[.slice j nt ct] 24)) 25 (.slice q g cl)).alloc (.cells #[.int .i64 (k:Int),.slice A n c] 48);have bP:=heap_alloc_new ((((a.alloc (.cells #[.int .i64 0] 3)).alloc (.cells #[.int .i64 0] 3)).alloc (.cells #[.slice j nt ct] 24)).alloc (.cells #[.slice q g cl] 25)) (.cells #[.int .i64 (k:Int),.slice A n c] 48);simp only [Ak] at bT bA bL bP;have G:Ab a (((((a.alloc (.cells #[.int .i64 0] 3)).alloc (.cells #[.int .i64 0] 3)).alloc (.cells #[.slice j nt ct] 24)).alloc (.cells #[.slice q g cl] 25)).alloc (.cells #[.int .i64 (k:Int),.slice A n c] 48)):=(((((Below.refl _ a).alloc (Ae _) _).alloc nF _).alloc (by simp;omega) _).alloc (by simp;omega) _).alloc (by simp;omega) _;have ag:(((((a.alloc (.cells #[.int .i64 0] 3)).alloc (.cells #[.int .i64 0] 3)).alloc (.cells #[.slice j nt ct] 24)).alloc (.cells #[.slice q g cl] 25)).alloc (.cells #[.int .i64 (k:Int),.slice A n c] 48)).heap.size=a.heap.size+5:=by simp
 obtain ⟨W0,a5⟩:∃ W0,(((((a.alloc (.cells #[.int .i64 0] 3)).alloc (.cells #[.int .i64 0] 3)).alloc (.cells #[.slice j nt ct] 24)).alloc (.cells #[.slice q g cl] 25)).alloc (.cells #[.int .i64 (k:Int),.slice A n c] 48))=W0:=⟨_,rfl⟩;rw [a5] at bR bT bA bL bP G ag ⊢;clear a5 y0 y1 z0 z1;have I:=uA (Aa a0.o a4.o);have h1:=H.o _ I.o;have ah:w.heap.size < a.heap.size:=by have:=a4.o.size;simp at this;omega
 have ai:=uA (h1.typs.below G);have aj:=uA (h1.locs.below G);have ak:=uA (h1.one.prs.below G);have v:a.heap[w.heap.size]?=some (.cells #[.int .i64 (k:Int),.slice A n c] 48 (0,0)):=E;have a6:=uA v;clear E v h1;refine wpIn_rangeFunc_ownH rfl bB (gf:=292) (lb:=#[.pointer (some ⟨a.heap.size+1+1+2,0,none⟩),.pointer (some ⟨a.heap.size+1+1+1,0,none⟩),.pointer (some ⟨a.heap.size+1+1,0,none⟩)]) rfl trivial (enters_of func292 fL rfl)
  (kK _ bB (a.heap.size+1+1) (a.heap.size+1+1+1) (a.heap.size+1+1+2) a.heap.size a.heap.size j q nt ct g cl L LL ⟨(k:Int),A,n,c,f⟩ k lc r HW.o W0 bA bL bP bB bB bB bB ai.o aj.o ak.o bB) KN (KD bB) (Below.refl _ _) (fun _=>rfl)
  (fun B W=>(a.heap.size+5<=W.heap.size/\Boxed W a.heap.size 3 (.int .i64 ((eR B).1:Int))/\Boxed W (a.heap.size+1) 3 (.int .i64 (eR B).2))/\Ab a W)
  (fun _ _ _=>False)
  (Dg (Ed (fun s X Y al F hg hr=>⟨Ai F.1 hg.size,oH F.2.1 hg hr,oH F.2.2 hg hr⟩) _) (ownFrom_below (Ae _) bB))
  (fun _ _ _ _ _ F _ _=>F)
  ⟨⟨bB,bR,bT⟩,G⟩
  (fun y a' W=>∃ Bq,a.heap.size+5<=Bq/\W.heap[Bq]?=some (.cells #[.int .i64 (k:Int),.slice A y.1 c] 48 (0,0))/\a'={ tmps:=#[.slice j nt ct,.slice q g cl,uV ⟨(k:Int),A,n,c,f⟩,undef,undef,.pointer (some ⟨w.heap.size,0,none⟩),.int .i64 0,.int .i64 0,.int .i64 0,.pointer (some ⟨a.heap.size,0,none⟩),.pointer (some ⟨a.heap.size+1,0,none⟩),.pointer (some ⟨Bq,0,none⟩),.int .i64 (tyA (tys L) lc.ty f y.1),.agg #[.int .i64 (k:Int),.slice A n c],.int .i64 0,.int .i64 0,.bool false,undef,.pointer (some ⟨w.heap.size,0,none⟩),.int .i64 (k:Int),.slice q g cl,.int .i64 (g:Int),.bool true,.bool false,.slice j nt ct,.slice q g cl,.agg #[.int .i64 (k:Int),.slice A n c],.func (.func 292) #[] #[.pointer (some ⟨a.heap.size+1+1+2,0,none⟩),.pointer (some ⟨a.heap.size+1+1+1,0,none⟩),.pointer (some ⟨a.heap.size+1+1,0,none⟩)],.agg #[.int .i64 (k:Int),.slice A y.1 c],.int .i64 (tyA (tys L) lc.ty f y.1),undef,undef,undef,undef,undef,undef,undef,undef,undef,undef,undef,undef,undef,undef,undef,undef,undef,undef,undef,undef],defers:=[] })
  (fun y a' _ X Y al F hg hr=>by obtain ⟨Bq,h1,Q,h3⟩:=F;exact ⟨Bq,h1,oH Q hg (fun r e=>(hr r e).2),h3⟩)
  ?assign ?body ?done ?stop
 case assign=>
  rintro l B y W K ⟨⟨F,J,N⟩,O⟩ R;have hb:=(Below.refl W.heap.size W).alloc (Nat.le_refl _) (.cells #[.int .i64 (k:Int),.slice A y.1 c] 48);have am:vJ a.heap.size jC a.heap.size W _:=vJ.of_below hb bB;have HK:=uA R;clear R;dsimp only [RZ];gi_wp2;exact HK.o _ _ ((KeepsOthers.alloc _ _).from _) am ⟨⟨by simp;omega,J.alloc _,N.alloc _⟩,(Aa O hb)⟩ ⟨W.heap.size,F,heap_alloc_new W _,rfl⟩
 case body=>
  rintro l B y a' W hl aw ⟨⟨F,J,N⟩,O⟩ ⟨Bq,ax,bX,rfl⟩ ay;have d0:=uE bX 0;have d1:=uE bX 1;have k1:=J.cell;have k2:=N.cell;have f1:=J.frozen;have f2:=N.frozen;have c1:=J.set (.int .i64 (y.1:Int));have c2:=N.other (B':=a.heap.size) bB (.int .i64 (y.1:Int));have a7:=uA ((vQ.box (Ts:=jC) J (Ae _) eW (.int .i64 (y.1:Int))).trans (vQ.box c2 bB eW (.int .i64 (tyA (tys L) lc.ty f y.1))));have HI:=uA (show (a.heap.size+5<=((W.setCell ⟨a.heap.size,0,none⟩ (.int .i64 (y.1:Int))).setCell ⟨a.heap.size+1,0,none⟩ (.int .i64 (tyA (tys L) lc.ty f y.1))).heap.size/\Boxed ((W.setCell ⟨a.heap.size,0,none⟩ (.int .i64 (y.1:Int))).setCell ⟨a.heap.size+1,0,none⟩ (.int .i64 (tyA (tys L) lc.ty f y.1))) a.heap.size 3 (.int .i64 ((eR (B++[y])).1:Int))/\Boxed ((W.setCell ⟨a.heap.size,0,none⟩ (.int .i64 (y.1:Int))).setCell ⟨a.heap.size+1,0,none⟩ (.int .i64 (tyA (tys L) lc.ty f y.1))) (a.heap.size+1) 3 (.int .i64 (eR (B++[y])).2)) from by
   rw [kI];exact ⟨by rw [jM,jM];exact F,c1.other (B':=a.heap.size+1) bB _,c2.set _⟩)
  have HB:=uA O;clear c1 c2 O;gi_wp2;exact ⟨((Bz W ⟨a.heap.size,0,none⟩ (.int .i64 (y.1:Int))).trans (Bz _ ⟨a.heap.size+1,0,none⟩ (.int .i64 (tyA (tys L) lc.ty f y.1)))).from _,vJ.of_t a7.o,HI.o,HB.o.trans a7.o.1⟩
 case done=>
  rintro D ys W hD ⟨m,hS,hm,a8⟩ ⟨⟨F,J,N⟩,O⟩ R;rw [NY hm] at J N;have k1:=J.cell;have k2:=N.cell;have v:=(O.block w.heap.size ah).trans a6.o;have z0:=uE v 0;have z1:=uE v 1;have C:=uA (Aa I.o O);have HD:=uA fun d (h:Ab W d)=>(h.block D (Ag.1 R).1).trans R
  have az:=uA O;have a9:w.heap.size<=D:=by omega
  simp only [] at k1 k2;rcases a8 with rfl | ⟨p,hp,he⟩
  ·have HG:=uA (show goL (tys L) lc.ty f=(tyA (tys L) lc.ty f f.length,0) from by
    have Q:=hS.ok;unfold erA at Q;unfold tyA;rw [nS] at Q ⊢;rw [<-Q])
   rw [a1] at k1 HG;gi_wp2;refine ⟨nF,.inl ⟨_,_,rfl,run_takeDeferred R,?_⟩⟩;refine ⟨_,results_tmp2 rfl _ _ _,?_,C.o.trans (belowK_b (w:=w) (Ae _) W D _ _ a9 R rfl rfl)⟩;exact congrArg (fun z:Int×Int=>Ending.returned (.tuple #[.int .i64 z.1,.int .i64 z.2])) HG.o.symm
  ·have b0:m < n:=by have:m < f.length:=(Ah.1 hp).1;omega
   have ar:(m:Int) < (n:Int):=bB;have HG:=uA (LW hS hp he);obtain ⟨i,u,Z,hu⟩:=hS.lt HW.o.ok HW.o.t0 (by rw [zE];exact HW.o.t1);obtain ⟨y,hy,aa⟩:=bH hu;have ab:uR (tys L) (tyA (tys L) lc.ty f m)=y.t:=by rw [Z,aa];exact mH hu
   rw [ab] at HG he;have an:=uA fun d (h:Ab W d)=>(show Calls prog 280 #[.slice j nt ct,.int .i64 (tyA (tys L) lc.ty f m),AF p] d fun e w'=>e=.returned (.tuple #[.int .i64 0,.int .i64 (vK y.t p).2])/\Ab d w' from by
    rw [Z];have Q:=jV (c:=ct) hy p d (H.o d (Aa C.o h)).typs HW.o.nt;rw [iI he] at Q;exact Q)
   have ao:=uA fun d (h:Ab W d)=>(H.o d (Aa C.o h)).one.prs
   obtain ⟨b,o,hA,_,hi,d0,d1⟩:=(ao.o W (Below.refl _ _)).at_ hp;simp only [] at hA;subst hA;obtain ⟨pk,pf⟩:=p;simp only [] at d0 d1;have HS:=uA fun d (h:Ab W d)=>show Ab W d/\d.cell? ⟨a.heap.size+1,0,none⟩=some (.int .i64 (tyA (tys L) lc.ty f m))/\d.cell? ⟨w.heap.size,1,none⟩=some (.slice (some ⟨b,o,none⟩) n c)/\d.cell? ⟨a.heap.size,0,none⟩=some (.int .i64 (m:Int))/\d.cell? ⟨b,o+m*2,none⟩=some (.int .i64 pk)/\d.cell? ⟨b,o+m*2+1,none⟩=some (.int .i64 pf) from
    ⟨h,(yS N h).cell,uE ((h.block w.heap.size bB).trans v) 1,(yS J h).cell,(h.cell (p:=⟨b,o+m*2,none⟩) (Cy W _ d0)).trans d0,(h.cell (p:=⟨b,o+m*2+1,none⟩) (Cy W _ d1)).trans d1⟩
   clear Z hu hy aa ab hi v;gi_wp2;refine wpIn_wide.2 ?_;go_region_held3 (fun d=>Ab W d/\d.cell? ⟨a.heap.size+1,0,none⟩=some (.int .i64 (tyA (tys L) lc.ty f m))/\d.cell? ⟨w.heap.size,1,none⟩=some (.slice (some ⟨b,o,none⟩) n c)/\d.cell? ⟨a.heap.size,0,none⟩=some (.int .i64 (m:Int))/\d.cell? ⟨b,o+m*2,none⟩=some (.int .i64 pk)/\d.cell? ⟨b,o+m*2+1,none⟩=some (.int .i64 pf))
    (first | exact HS.o _ (by assumption) | exact HS.o _ (Below.refl _ _) | exact HS.o _ (Below.refl _ _).drew)
    (first
     | (go_at_call 280;go_split_ands;refine (an.o _ (by assumption)).mono ?_;rintro e w4 ⟨rfl,ap⟩;have b3:=Below.trans (by assumption:Ab W _) (ap.mono (Below.size (by assumption:Ab W _)))))
   all_goals
    go_split_ands;have S:=(by assumption:Ab W w4);have ac:=HD.o _ S;gi_wp2;refine ⟨nF,.inl ⟨_,_,rfl,run_takeDeferred ac,?_⟩⟩;refine ⟨_,results_tmp2 rfl _ _ _,?_,(Aa C.o S).trans (belowK_b (w:=w) (Ae _) w4 D _ _ a9 ac rfl rfl)⟩;exact congrArg (fun z:Int×Int=>Ending.returned (.tuple #[.int .i64 z.1,.int .i64 z.2])) HG.o.symm
 case stop=>
  rintro D cd B W hD au h R;exact h.elim
theorem ND {C D:Option Addr} {nt ct o cl:Nat} {L:List TyW} {j:List LcW} {x:PlW} {r:Int} {w:World} (h:Pl8 w C D nt o L j x r) :
 Calls prog 258 #[.slice C nt ct,.slice D o cl,uV x] w fun e G=>e=.returned (.tuple #[.int .i64 (zO (tys L) (lcs j) x.l x.ps).1,.int .i64 (zO (tys L) (lcs j) x.l x.ps).2])/\Ab w G:=by
 obtain ⟨v,g⟩:∃ v,vS x.l x.ps=v:=⟨_,rfl⟩;have b:=(Below.refl w.heap.size w).alloc (Ae _) (.cells #[.int .i64 x.l,.slice x.A x.n x.c] 48);have d:=uA b;have E:=uA (iJ g _ (h.one.up b));by_cases f:v=0
 ·subst f;by_cases q:x.l < (o:Int)
  ·have M:=(oF.1 g).1;have I:=h.locs.len;obtain ⟨p,k⟩:∃ p,j[x.l.toNat]?=some p:=⟨_,Ad bB⟩;have F:x.l=((x.l.toNat:Nat):Int):=bB;rw [tT g F (DH k)];exact callsIn_wide.1 (NB h F k g)
  ·have s:=uA (BQ (T:=tys L) (lc:=lcs j) g (by rw [PV,h.locs.len];exact q));have y:Hdd (vD x.l (o:Int)=false):=wP.2 fun h=>q h.2;have B:=uA (heap_alloc_new w (.cells #[.int .i64 x.l,.slice x.A x.n x.c] 48));obtain ⟨l,A,n,c,J⟩:=x;clear h b q g;go_enter func258,ntmps258
   go_wp2_with fail
   refine E.o.mono ?_;rintro e K ⟨rfl,a⟩;have i:=uA (Aa d.o a);have m:=(a.block w.heap.size nF).trans B.o;have N:=uE m 0;clear a m;go_wp2_with fail
   refine (nY y.o _).mono ?_;rintro e O ⟨rfl,rfl⟩;go_wp2;go_ret2
   exact ⟨congrArg (fun z:Int×Int=>Ending.returned (.tuple #[.int .i64 z.1,.int .i64 z.2])) s.o.symm,i.o⟩
 ·have Q:(v != 0)=true:=by rw [bne_iff_ne];exact f
  have s:=uA (BE (T:=tys L) (lc:=lcs j) g f);obtain ⟨l,A,n,c,J⟩:=x;clear h b g f;go_enter func258,ntmps258
  go_wp2_with fail
  refine E.o.mono ?_;rintro e K ⟨rfl,a⟩;have i:=uA (Aa d.o a);clear a;go_wp2;go_ret2
  exact ⟨congrArg (fun z:Int×Int=>Ending.returned (.tuple #[.int .i64 z.1,.int .i64 z.2])) s.o.symm,i.o⟩
theorem iT {a b:Option Addr} {nt ct c cl:Nat} {L:List TyW} {d:List LcW} {x:PlW} {r u v:Int} {w:World} (h:Pl8 w a b nt c L d x r) (f:zO (tys L) (lcs d) x.l x.ps=(u,v)) :
 Calls prog 258 #[.slice a nt ct,.slice b c cl,uV x] w fun e g=>e=.returned (.tuple #[.int .i64 u,.int .i64 v])/\Ab w g:=by
 have:=ND (ct:=ct) (cl:=cl) h;rw [f] at this;exact this
end
end Go.Proofs.YtnkjbjkoffgocaaGreatDoor
