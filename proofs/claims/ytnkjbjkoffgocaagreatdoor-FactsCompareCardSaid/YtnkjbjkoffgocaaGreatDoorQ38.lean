import Derived.Test.YtnkjbjkoffgocaaGreatDoorQ35
import Derived.Test.YtnkjbjkoffgocaaGreatDoorQ37
set_option linter.unusedVariables false
set_option linter.unusedSimpArgs false
set_option maxRecDepth 100000
set_option maxHeartbeats 8000000
namespace Go.Proofs.YtnkjbjkoffgocaaGreatDoor
open _root_.Go.Proofs.Tryz Go.RowKit
theorem KO (x:FcW) (w:World) (h:iK x):Calls prog 20 #[wG x] w fun e s=>e=.returned (.int .i64 (PR x))/\Ab w s:=by
 have t:x.loans.n<=200:=h.loans;have g:x.edges.n+x.killed.n+x.invalid.n+x.live.n<=2000:=h.pairs;obtain ⟨v,i⟩:∃ v,PR x=v:=⟨_,rfl⟩;rw [i];obtain ⟨⟨A,n,c,L⟩,⟨j,a,k,z⟩,⟨l,b,m,B⟩,⟨o,d,p,C⟩,⟨q,f,r,D⟩⟩:=x;simp only [] at t g;have u:Hdd ((n:Int)+(a:Int)+(b:Int)+(d:Int)+(f:Int)=v):=i;have y:=uA (uB w (.cells #[.slice A n c,.slice j a k,.slice l b m,.slice o d p,.slice q f r] 33));obtain ⟨E,F,G,H,I⟩:=aH (Below.refl (w.alloc (.cells #[.slice A n c,.slice j a k,.slice l b m,.slice o d p,.slice q f r] 33)).heap.size (w.alloc (.cells #[.slice A n c,.slice j a k,.slice l b m,.slice o d p,.slice q f r] 33)));have J:IntKind.i64.wrap ((n:Int)+(a:Int))=(n:Int)+(a:Int):=vV _ bB bB;have K:IntKind.i64.wrap ((n:Int)+(a:Int)+(b:Int))=(n:Int)+(a:Int)+(b:Int):=vV _ bB bB;have M:IntKind.i64.wrap ((n:Int)+(a:Int)+(b:Int)+(d:Int))=(n:Int)+(a:Int)+(b:Int)+(d:Int):=vV _ bB bB;have N:IntKind.i64.wrap ((n:Int)+(a:Int)+(b:Int)+(d:Int)+(f:Int))=(n:Int)+(a:Int)+(b:Int)+(d:Int)+(f:Int):=vV _ bB bB;clear i h;go_enter func20,ntmps20
 go_wp2;go_ret;exact ⟨congrArg (fun v=>Ending.returned (.int .i64 v)) u.o,y.o⟩
theorem SD (x:FcW):oG x x=true:=iD.2 ⟨rfl,rfl,rfl,rfl,rfl⟩
theorem PB (k G:FcW) (w:World) (K:vO w w.heap.size k) (J:vO w w.heap.size G) (s0:oJ k) (s1:oJ G) (hT:gW w) :
 Calls prog 5 #[wG k,wG G] w fun e f=>e=.returned (.bool true)/\Ab w f:=by
 have M:=uA fun (f:World) (y:Ab w f)=>cC f (hT.up y)
 have a2:=uA fun (f:World) (y:Ab w f)=>zY k f (K.up y) s0
 have a3:=uA fun (f:World) (y:Ab w f)=>zY G f (J.up y) s1
 obtain ⟨v,hv⟩:∃ v,oG k G=v:=⟨_,rfl⟩;obtain ⟨z,hz⟩:∃ z,PR k=z:=⟨_,rfl⟩;have a4:=uA fun (f:World) (y:Ab w f)=>lN hv f (K.up y) (J.up y)
 have a5:=uA fun (f:World) (y:Ab w f)=>jQ hv f (K.up y) (J.up y)
 have a6:=uA fun (f:World) (y:Ab w f)=>lN (SD k) f (K.up y) (K.up y)
 have a7:=uA fun (hs:iK k) (f:World) (y:Ab w f)=>uA2 hz f (K.up y) hs
 have a8:=uA fun (hs:iK k) (f:World) (y:Ab w f)=>hz ▸ KO k f hs
 have aa:(v == v)=true:=by simp
 have ab:(z == z)=true:=by simp
 obtain ⟨⟨A,n,c,L⟩,⟨U,V,W,eL⟩,⟨X,Y,Z,kL⟩,⟨jA,jn,jc,jL⟩,⟨vA,vn,vc,vL⟩⟩:=k;obtain ⟨⟨A',n',c',L'⟩,⟨m,o,p,ac⟩,⟨q,r,s,ad⟩,⟨t,u,x,ae⟩,⟨B,C,D,af⟩⟩:=G;have b1:=uB w (.cells #[.slice A n c,.slice U V W,.slice X Y Z,.slice jA jn jc,.slice vA vn vc] 33);have g:=uA (b1.trans ((uB (w.alloc (.cells #[.slice A n c,.slice U V W,.slice X Y Z,.slice jA jn jc,.slice vA vn vc] 33)) (.cells #[.slice A' n' c',.slice m o p,.slice q r s,.slice t u x,.slice B C D] 33)).mono b1.size));have hcx:=uA fun (f:World) (y:Ab ((w.alloc (.cells #[.slice A n c,.slice U V W,.slice X Y Z,.slice jA jn jc,.slice vA vn vc] 33)).alloc (.cells #[.slice A' n' c',.slice m o p,.slice q r s,.slice t u x,.slice B C D] 33)) f)=>FR y
 clear K J s0 s1 hT hv hz b1;obtain ⟨⟨k,G,x2,x3,x4⟩,y0,y1,y2,y3,y4⟩:=hcx.o _ (Below.refl _ _);go_enter func5,ntmps5
 go_wp2_with fail
 refine (a2.o _ g.o).mono ?_;rintro e1 w1 ⟨J,N⟩;have O:=uA N;have H:=uA (Aa g.o N);clear N k G x2 x3 x4 y0 y1 y2 y3 y4;obtain ⟨⟨k,G,x2,x3,x4⟩,y0,y1,y2,y3,y4⟩:=hcx.o _ O.o;rcases J with rfl | ⟨rfl,I⟩
 case inl=>
  have l:=H;go_wp2_with fail
  refine (M.o _ l.o).mono ?_;rintro e w9 ⟨rfl,E⟩;have R:=uA (Aa l.o E);clear E;go_wp2;go_ret;exact ⟨rfl,R.o⟩
 have a0:=uA I;clear I;go_wp2_with fail
 refine (a3.o _ H.o).mono ?_;rintro e2 w2 ⟨J,T⟩;have a9:=uA (Aa O.o T);have l:=uA (Aa H.o T);clear T k G x2 x3 x4 y0 y1 y2 y3 y4;rcases J with rfl | ⟨rfl,I⟩
 case inl=>
  go_wp2_with fail
  refine (M.o _ l.o).mono ?_;rintro e w9 ⟨rfl,E⟩;have R:=uA (Aa l.o E);clear E;go_wp2;go_ret;exact ⟨rfl,R.o⟩
 clear I;go_wp2;have HD:=uA (a9.o.drew);refine wp_region_held_drew (S:=(fun f=>Ab ((w.alloc (.cells #[.slice A n c,.slice U V W,.slice X Y Z,.slice jA jn jc,.slice vA vn vc] 33)).alloc (.cells #[.slice A' n' c',.slice m o p,.slice q r s,.slice t u x,.slice B C D] 33)) f)) fL HD.o (fun hHeld=>?_);refine wpAnyH_ready (rs:=[0]) fL nF ?_;refine AllReadyH.cons rfl (fun F j=>?_) AllReadyH.nil;go_simp;refine (M.o _ (Aa g.o HD.o)).mono ?_;rintro e w5 ⟨rfl,b⟩;have H5:=uA (Aa HD.o b);clear b;refine j.out _ _ H5.o (fun hHeld=>?_);clear j F;try simp only [Ac]
 refine uJ [1,2,3,5,6] ?_
 repeat' (first | refine pT hHeld rfl ?_ | refine pS hHeld rfl ?_)
 refine uK ?_;refine wpAnyH_ready (rs:=[4]) fL nF ?_;refine AllReadyH.cons rfl (fun F j=>?_) AllReadyH.nil;go_simp;refine (a4.o _ (Aa g.o H5.o)).mono ?_;rintro e w6 ⟨rfl,b⟩;have H6:=uA (Aa H5.o b);clear b;refine j.out _ _ H6.o (fun hHeld=>?_);clear j F;try simp only [Ac]
 refine wpAnyH_ready (rs:=[7]) fL nF ?_;refine AllReadyH.cons rfl (fun F j=>?_) AllReadyH.nil;go_simp;refine (a5.o _ (Aa g.o H6.o)).mono ?_;rintro e w7 ⟨rfl,b⟩;have H7:=uA (Aa H6.o b);clear b;refine j.out _ _ H7.o (fun hHeld=>?_);clear j F;try simp only [Ac]
 refine uJ [8,9,10,11,12] ?_
 repeat' (first | refine pT hHeld rfl ?_ | refine pS hHeld rfl ?_)
 refine uK ?_;refine wpAnyH_ready (rs:=[13]) fL nF ?_;refine AllReadyH.cons rfl (fun F j=>?_) AllReadyH.nil;go_simp;refine (a6.o _ (Aa g.o H7.o)).mono ?_;rintro e w8 ⟨rfl,b⟩;have H8:=uA (Aa H7.o b);clear b;refine j.out _ _ H8.o (fun hHeld=>?_);clear j F;try simp only [Ac]
 refine uJ [14,15,16,18] ?_
 repeat' (first | refine pT hHeld rfl ?_ | refine pS hHeld rfl ?_)
 refine uK ?_;refine wpAnyH_ready (rs:=[17]) fL nF ?_;refine AllReadyH.cons rfl (fun F j=>?_) AllReadyH.nil;go_simp;refine (a7.o a0.o _ (Aa g.o H8.o)).mono ?_;rintro e ag ⟨rfl,b⟩;have H9:=uA (Aa H8.o b);clear b;refine j.out _ _ H9.o (fun hHeld=>?_);clear j F;try simp only [Ac]
 refine wpAnyH_ready (rs:=[19]) fL nF ?_;refine AllReadyH.cons rfl (fun F j=>?_) AllReadyH.nil;go_simp;refine (a8.o a0.o _ (Aa g.o H9.o)).mono ?_;rintro e ah ⟨rfl,b⟩;have a1:=uA (Aa H9.o b);clear b;refine j.out _ _ a1.o (fun hHeld=>?_);clear j F;try simp only [Ac]
 refine uJ [20,21,22] ?_
 repeat' (first | refine pT hHeld rfl ?_ | refine pS hHeld rfl ?_)
 refine uK ?_;refine wpAnyH_done fL ?_ _;go_wp2;go_ret;exact ⟨rfl,(Aa g.o a1.o)⟩
end Go.Proofs.YtnkjbjkoffgocaaGreatDoor
