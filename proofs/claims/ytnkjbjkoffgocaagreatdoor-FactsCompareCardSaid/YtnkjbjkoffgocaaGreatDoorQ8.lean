import Derived.Test.YtnkjbjkoffgocaaGreatDoorQ6
import Derived.Test.YtnkjbjkoffgocaaGreatDoorQ7
set_option linter.unusedVariables false
set_option linter.unusedSimpArgs false
set_option maxRecDepth 100000
set_option maxHeartbeats 8000000
namespace Go.Proofs.YtnkjbjkoffgocaaGreatDoor
open Tryz Go.RowKit
theorem cZ {l:List BkV} {x:Int} {p:Nat}:zC l x p↔x∈mJ l (p:Int)\/UF l (p:Int)≠some x/\∃ q∈nxN l (p:Int),zC l x q:=by
 constructor
 ·rintro ⟨q,f,d⟩;have j:q=p\/∃ r∈lvN l x p,kT (lvN l x) [r] q:=kT.closed (S:=fun q=>q=p\/∃ r∈lvN l x p,kT (lvN l x) [r] q)
   (fun y c=>.inl (An.1 c))
   (fun y c z e=>by
    rcases c with rfl | ⟨r,a,h⟩
    ·exact .inr ⟨z,e,.base (An.2 rfl)⟩
    ·exact .inr ⟨r,a,.step h e⟩) f
  rcases j with rfl | ⟨r,a,h⟩
  ·exact .inl d
  ·refine .inr ?_;unfold lvN at a
   split at a
   ·cases a
   ·rename_i g;exact ⟨g,r,a,q,h,d⟩
 ·rintro (h | ⟨g,q,f,r,a,d⟩)
  ·exact ⟨p,.base (An.2 rfl),h⟩
  ·refine ⟨r,?_,d⟩;refine kT.closed (S:=fun y=>kT (lvN l x) [p] y) (fun y c=>?_) (fun y c z e=>.step c e) a;rw [An.1 c];refine .step (.base (An.2 rfl)) ?_;unfold lvN;rw [if_neg g];exact f
section
variable {l:List BkV} {i k:Nat} {b:BkV} {x:Int}
end
section
variable {E:Env}
end
theorem GU {b:BdV} (h:BP b=0):XX b/\∀ c∈b.blocks,(∀ s∈c.stmts,yC b.env s=0)/\aK b.env c.term=0:=by
 unfold BP at h;by_cases a:aM b=0
 ·rw [if_neg bB] at h;refine ⟨GA a,fun c d=>?_⟩;exact (tJ.1 (cI.1 h c d)).2
 ·rw [if_pos a] at h;exact absurd h a
abbrev TA (a:Bool):StW:=⟨0,⟨1,none,0,0,[]⟩,⟨1,0,0,a,⟨0,none,0,0,[]⟩,⟨none,0,0,[]⟩⟩,0⟩
abbrev tD (a:Bool) (g:Nat):BkW:=⟨⟨some ⟨g+1+1+1,0,none⟩,1,1,[TA a]⟩,⟨2,⟨none,0,0,[]⟩,⟨none,0,0,[]⟩,⟨0,none,0,0,[]⟩,.empty⟩⟩
abbrev nC (a:Bool) (g:Nat):BdW:=⟨⟨#[102]⟩,⟨some ⟨g,0,none⟩,1,1,[⟨#[97]⟩]⟩,⟨none,0,0,[]⟩,⟨some ⟨g+1,0,none⟩,2,2,[⟨⟨2,false,0,0,[]⟩,none,0,0⟩,⟨⟨3,a,0,0,[]⟩,none,0,0⟩]⟩,⟨some ⟨g+1+1,0,none⟩,2,2,[⟨⟨#[120]⟩,0⟩,⟨⟨#[114]⟩,1⟩]⟩,0,⟨some ⟨g+1+1+1+1,0,none⟩,1,1,[tD a g]⟩⟩
theorem ZA (d:Bool) (w:World) (g:Nat) (j:g+5<=w.heap.size) (m:Bx w (g) ([(⟨#[97]⟩:ByteArray)].flatMap uHa) 9) (n:Bx w (g+1) ([(⟨⟨2,false,0,0,[]⟩,none,0,0⟩:TyW),⟨⟨3,d,0,0,[]⟩,none,0,0⟩].flatMap c5) 123) (o:Bx w (g+1+1) ([(⟨⟨#[120]⟩,0⟩:LcW),⟨⟨#[114]⟩,1⟩].flatMap cLc) 125) (p:Bx w (g+1+1+1) ([TA d].flatMap cSt) 69) (q:Bx w (g+1+1+1+1) ([tD d g].flatMap cBk) 65):uS w w.heap.size (nC d g):=by
 have a:(1:Nat)<=maxLen:=by decide
 have c:(2:Nat)<=maxLen:=by decide
 have r:uH 1:=mE eW;have e:aN w w.heap.size (TA d):=⟨nJ,uB6 _ _ eW,⟨r,nJ,nJ,uB6 _ _ eW,kH _ _ _ _ _⟩,nJ⟩;have f:aP w w.heap.size (tD d g):=by
  refine ⟨⟨Ae _,a,cR uEi p bB,fun x hx=>?_⟩,⟨uI3,kH _ _ _ _ _,kH _ _ _ _ _,uB6 _ _ eW,(show (0:Nat)<=maxLen by decide)⟩⟩;obtain rfl:=An.1 hx;exact e
 refine ⟨a,⟨Ae _,a,cR YU m bB,fun x hx=>?_⟩,kH _ _ _ _ _,⟨Ae _,c,cR VJ n bB,fun x hx=>?_⟩,⟨Ae _,c,cR uBu o bB,fun x hx=>?_⟩,nJ,⟨Ae _,a,cR uB4 q bB,fun x hx=>?_⟩⟩
 ·obtain rfl:=An.1 hx;exact a
 ·rcases Av.1 hx with rfl | hx
  ·exact ⟨⟨Ae _,Am _,rfl,mE eW,mE eW,mE eW,fun x hx=>by cases hx⟩,⟨rfl,fun h=>absurd h (Cg 0)⟩⟩
  ·obtain rfl:=An.1 hx;exact ⟨⟨Ae _,Am _,rfl,mE (show (-100:Int)<=3/\(3:Int)<=100 by decide),nJ,nJ,fun x hx=>by cases hx⟩,⟨rfl,fun h=>absurd h (Cg 0)⟩⟩
 ·rcases Av.1 hx with rfl | hx
  ·exact ⟨mE eW,a⟩
  ·obtain rfl:=An.1 hx;exact ⟨mE eW,a⟩
 ·obtain rfl:=An.1 hx;exact f
def pQ (a:Bool):List BkV:=[⟨[⟨0,⟨1,[]⟩,⟨1,0,0,a,⟨0,[]⟩,[]⟩,0⟩],⟨2,[],[],⟨0,[]⟩,.empty⟩⟩]
theorem DI (a:Bool) (g:Nat):(nC a g).v.blocks=pQ a:=rfl
theorem oO (a:Bool):uF (pQ a)=2:=by cases a <;> decide
theorem uDk (a:Bool):mJ (pQ a) (0:Nat)=[0]:=by cases a <;> decide
theorem uCj (a:Bool):mJ (pQ a) (1:Nat)=[]:=by cases a <;> decide
theorem uCd (a:Bool):nxN (pQ a) (0:Nat)=[1]:=by cases a <;> decide
theorem uD8 (a:Bool):nxN (pQ a) (1:Nat)=[]:=by cases a <;> decide
theorem QJ (c:Bool) (x:Int):¬zC (pQ c) x 1:=fun h=>by
 rcases cZ.1 h with h | ⟨_,q,a,_⟩
 ·rw [uCj] at h;cases h
 ·rw [uD8] at a;cases a
theorem uEc (a:Bool) (x:Int) (h:zC (pQ a) x 0):x=0:=by
 rcases cZ.1 h with h | ⟨d,q,c,h⟩
 ·rw [uDk] at h;simpa using h
 ·rw [uCd] at c;rw [An.1 c] at h;exact absurd h (QJ a x)
theorem uIc (a:Bool) {s:Nat} (h:wO (tys [(⟨⟨2,false,0,0,[]⟩,none,0,0⟩:TyW),⟨⟨3,a,0,0,[]⟩,none,0,0⟩]) 0 (s:Int)):False:=by
 have c:TyOk [⟨2,false,0,0,[]⟩,⟨3,a,0,0,[]⟩] 1:=yM.1 (show xY [⟨2,false,0,0,[]⟩,⟨3,a,0,0,[]⟩] 1=0 by cases a <;> decide);rcases (c.men_at (j:=0) rfl (s:Int)).1 h with ⟨h,_⟩ | ⟨p,d,_⟩
 ·revert h;decide
 ·cases d
theorem SJ (a:Bool) (g:Nat):BX (nC a g)=[]:=by
 refine Fm.2 fun z e=>?_
 unfold BX at e;obtain ⟨r,q,m,f,h,_⟩:=VL.1 e;obtain ⟨y,c,s,n,j,_⟩:=EL.1 h;rw [show jU (nC a g).v.blocks (nC a g).locals.n=[lvI (pQ a) 0 2,lvI (pQ a) 1 2] from by
  show jU (pQ a) 2=_;unfold jU;rw [oO];rfl] at f c
 have d:y=0:=by
  match q,f with
  | 0,_=>exact uEc a y (lK.1 c).2
  | 1,_=>exact absurd (lK.1 c).2 (QJ a y)
 subst d;exact uIc a j
theorem uHx:vE ⟨#[114]⟩=true:=uDc (c:=114) rfl rfl rfl
theorem uH1:vE ⟨#[97]⟩=true:=uDc (c:=97) rfl rfl rfl
theorem uI8 (a:Bool) (g:Nat):aM (nC a g).v=0:=by
 have c:(⟨#[114]⟩:ByteArray)≠⟨#[120]⟩:=fun h=>by injection h with h;revert h;decide
 have d:aI [] (⟨#[97]⟩:ByteArray)=false:=iC.2 nF;have e:aI [] (⟨#[120]⟩:ByteArray)=false:=iC.2 nF;have f:aI [⟨#[120]⟩] (⟨#[114]⟩:ByteArray)=false:=iC.2 nF;have j:nO [] [⟨#[97]⟩]=0:=by
  show (if vE ⟨#[97]⟩=false then (12:Int) else if aI [] ⟨#[97]⟩=true then 21 else 0)=0;rw [d,uH1];decide
 have m:zV 2 [] [⟨⟨#[120]⟩,0⟩,⟨⟨#[114]⟩,1⟩]=0:=by
  show (if vE ⟨#[120]⟩=false then (12:Int) else if aI [] ⟨#[120]⟩=true then 21 else if (0:Int) < 0\/((2:Nat):Int)<=0 then 3 else if vE ⟨#[114]⟩=false then (12:Int) else if aI [⟨#[120]⟩] ⟨#[114]⟩=true then 21 else if (1:Int) < 0\/((2:Nat):Int)<=1 then 3 else 0)=0;rw [e,f,uH8,uHx];decide
 have n:xY [⟨2,false,0,0,[]⟩,⟨3,a,0,0,[]⟩] 1=0:=by cases a <;> decide
 unfold aM;exact (if_neg (show ¬vE ⟨#[102]⟩=false by rw [uH4];decide)).trans ((if_neg (show ¬65535 < 1 by decide)).trans ((if_neg (show ¬nO [] [⟨#[97]⟩]≠0 by rw [j];decide)).trans ((if_neg (show ¬xP [] ((1:Nat):Int)≠0 by decide)).trans ((if_neg (show ¬xY [⟨2,false,0,0,[]⟩,⟨3,a,0,0,[]⟩] ((1:Nat):Int)≠0 by rw [show ((1:Nat):Int)=1 from rfl,n];decide)).trans ((if_neg (show ¬65535 < 2 by decide)).trans ((if_neg (show ¬zV 2 [] [⟨⟨#[120]⟩,0⟩,⟨⟨#[114]⟩,1⟩]≠0 by rw [m];decide)).trans ((if_neg (show ¬((0:Int) < 0\/((2:Nat):Int) < 0) by decide)).trans (if_neg (show ¬((1:Nat)=0\/65535 < 1) by decide)))))))))
def E14 (a:Bool):Env:=⟨[⟨2,false,0,0,[]⟩,⟨3,a,0,0,[]⟩],[0,1],[],1,1⟩
theorem uHz (a:Bool) (g:Nat):(nC a g).v.env=E14 a:=rfl
theorem uIx (a:Bool):aK (E14 a) ⟨2,[],[],⟨0,[]⟩,.empty⟩=0:=by
 unfold aK;rw [if_neg eW,if_neg eW,if_neg (show ¬yU (E14 a) []≠0 from fun h=>h rfl),if_neg eW,if_neg eW,if_neg (show ¬vG (E14 a) []≠0 from fun h=>h rfl),if_neg (fun h=>absurd h.1 (show ¬(2:Int)=1 by decide))];exact if_pos (show (2:Int)≠3/\(2:Int)≠4 by decide)
theorem uIi (a:Bool):yC (E14 a) ⟨0,⟨1,[]⟩,⟨1,0,0,a,⟨0,[]⟩,[]⟩,0⟩=0:=by
 have c:∀ l:Int,l=0\/l=1->(tyV (E14 a) ⟨l,[]⟩).2=0/\muV (E14 a) ⟨l,[]⟩=true/\(tyV (E14 a) ⟨l,[]⟩).1=l:=fun l h=>by rcases h with rfl | rfl <;> cases a <;> decide
 obtain ⟨d,e,f⟩:=c 1 (.inr rfl);obtain ⟨g,j,m⟩:=c 0 (.inl rfl);unfold yC;rw [if_pos rfl,if_neg (fun h=>h rfl),if_neg (show ¬(tyV (E14 a) ⟨1,[]⟩).2≠0 by rw [d];decide),if_neg (show ¬muV (E14 a) ⟨1,[]⟩=false by rw [e];decide),show (tyV (E14 a) (StV.pl ⟨0,⟨1,[]⟩,⟨1,0,0,a,⟨0,[]⟩,[]⟩,0⟩)).1=1 from f];unfold nN;rw [if_neg (by cases a <;> decide),if_pos rfl];unfold IQ;rw [if_neg (show ¬(tyV (E14 a) ⟨0,[]⟩).2≠0 by rw [g];decide),if_neg (by cases a <;> decide),if_neg,if_pos]
 ·cases a <;> decide
 ·show ¬((uR (E14 a).T 1).kind≠3\/(uR (E14 a).T 1).region≠0\/(uR (E14 a).T 1).mut_≠a\/(uR (E14 a).T 1).elem≠(tyV (E14 a) ⟨0,[]⟩).1\/(a=true/\muV (E14 a) ⟨0,[]⟩=false));rw [j,m];cases a <;> decide
theorem uJh (a:Bool) (g:Nat):BP (nC a g).v=0:=by
 unfold BP;rw [if_neg (show ¬aM (nC a g).v≠0 by rw [uI8];decide),uHz];refine cI.2 fun b c=>?_
 obtain rfl:b=(tD a g).v:=An.1 c;refine tJ.2 ⟨(show 1<=65535 by decide),(fun s d=>?_),uIx a⟩;obtain rfl:=An.1 d;exact uIi a
structure AcW where
 pl:PlW
 wr:Bool
 deep:Bool
def cAc (x:AcW):List Value:=[.int .i64 x.pl.l,.slice x.pl.A x.pl.n x.pl.c,.bool x.wr,.bool x.deep]
theorem iB (x:AcW):(cAc x).length=4:=rfl
theorem FP (x:AcW):∀ u∈cAc x,u.oneCell'=true:=by intro u a;simp only [cAc,Av,Cd,or_false] at a;rcases a with rfl | rfl | rfl | rfl <;> rfl
abbrev tM (x:AcW):Value:=.agg #[.int .i64 x.pl.l,.slice x.pl.A x.pl.n x.pl.c,.bool x.wr,.bool x.deep]
def ZR (x y:PlW):Bool:=yI x y || yI y x
def KS (x y:PlW):Bool:=yI y x && aT x.ps (y.n:Int)
def uEg (a:AcW) (m:Bool) (l:PlW):Bool:=(a.wr || m) && (ZR a.pl l && (a.deep || !KS l a.pl))
theorem KM (x:PlW) (w:World):Calls prog 229 #[uV x] w fun e a=>e=.returned (tM ⟨x,true,false⟩)/\Ab w a:=by
 obtain ⟨l,A,n,c,f⟩:=x;go_enter func229,ntmps229
 go_wp2;have d:((w.alloc (.cells #[.int .i64 l,.slice A n c] 48)).alloc (.cells #[.int .i64 l,.slice A n c,.bool true,.bool false] 145)).heap[w.heap.size+1]?=some (.cells #[.int .i64 l,.slice A n c,.bool true,.bool false] 145):=by
  have h:=heap_alloc_new (w.alloc (.cells #[.int .i64 l,.slice A n c] 48)) (.cells #[.int .i64 l,.slice A n c,.bool true,.bool false] 145)
  rwa [Ak] at h
 refine bodyPost_ret (results_cell_row rfl _ _ (w.heap.size+1) _ #[.int .i64 l,.slice A n c,.bool true,.bool false] (0,0) _ rfl d underlying145 rfl fL) rfl ?_;exact ⟨rfl,(uB w _).trans ((uB _ _).mono (uB w _).size)⟩
theorem EO (x y:PlW) (w:World) (q:uL w w.heap.size x) (r:uL w w.heap.size y) :
 Calls prog 133 #[uV x,uV y] w fun e g=>e=.returned (.bool (KS x y))/\Ab w g:=by
 have d:=uA (mR w x y);have s:=uA (q.up d.o);have G:=uA (r.up d.o);have t:=uA fun (g:World) (h:Ab (yW w x y) g)=>aE h
 obtain ⟨v,j⟩:∃ v,yI y x=v:=⟨_,rfl⟩;obtain ⟨u,m⟩:∃ u,aT x.ps (y.n:Int)=u:=⟨_,rfl⟩;have z:=uA (show KS x y=(v && u) by rw [<-j,<- m];rfl);have H:=uA j;have I:=uA m;have o:=uA (Below.refl (yW w x y).heap.size (yW w x y));clear q r j m;obtain ⟨l,A,n,c,K⟩:=x;obtain ⟨L,M,N,O,J⟩:=y;obtain ⟨B,C,D,F⟩:=t.o _ o.o;go_enter func133,ntmps133
 go_wp2_with fail
 refine (cM H.o _ G.o s.o).mono ?_;rintro e P ⟨rfl,f⟩;have a:=uA f;clear f B C D F;obtain ⟨B,C,D,F⟩:=t.o _ a.o;cases v
 ·go_wp2;go_ret;exact ⟨congrArg (fun v=>Ending.returned (.bool v)) z.o.symm,(Aa d.o a.o)⟩
 ·go_wp2_with fail
  refine (oW I.o _ (s.o.up a.o)).mono ?_;rintro e Q ⟨rfl,f⟩;have p:=uA (Aa a.o f);clear f;go_wp2;go_ret;exact ⟨congrArg (fun v=>Ending.returned (.bool v)) z.o.symm,(Aa d.o p.o)⟩
theorem KR {x y:PlW} {v:Bool} (h:KS x y=v) (w:World) (a:uL w w.heap.size x) (c:uL w w.heap.size y) :
 Calls prog 133 #[uV x,uV y] w fun e d=>e=.returned (.bool v)/\Ab w d:=h ▸ EO x y w a c
theorem tC (x y:PlW) (w:World) (q:uL w w.heap.size x) (r:uL w w.heap.size y) :
 Calls prog 132 #[uV x,uV y] w fun e g=>e=.returned (.bool (ZR x y))/\Ab w g:=by
 have d:=uA (mR w x y);have s:=uA (q.up d.o);have t:=uA (r.up d.o);have z:=uA fun (g:World) (h:Ab (yW w x y) g)=>aE h
 obtain ⟨v,j⟩:∃ v,yI x y=v:=⟨_,rfl⟩;obtain ⟨u,m⟩:∃ u,yI y x=u:=⟨_,rfl⟩;have B:=uA (show ZR x y=(v || u) by rw [<-j,<- m];rfl);have H:=uA j;have I:=uA m;have o:=uA (Below.refl (yW w x y).heap.size (yW w x y));clear q r j m;obtain ⟨l,A,n,c,K⟩:=x;obtain ⟨L,M,N,O,J⟩:=y;obtain ⟨C,D,F,G⟩:=z.o _ o.o;go_enter func132,ntmps132
 go_wp2_with fail
 refine (cM H.o _ s.o t.o).mono ?_;rintro e P ⟨rfl,f⟩;have a:=uA f;clear f C D F G;obtain ⟨C,D,F,G⟩:=z.o _ a.o;cases v
 ·go_wp2_with fail
  refine (cM I.o _ (t.o.up a.o) (s.o.up a.o)).mono ?_;rintro e Q ⟨rfl,f⟩;have p:=uA (Aa a.o f);clear f;go_wp2;go_ret;exact ⟨congrArg (fun v=>Ending.returned (.bool v)) B.o.symm,(Aa d.o p.o)⟩
 ·go_wp2;go_ret;exact ⟨congrArg (fun v=>Ending.returned (.bool v)) B.o.symm,(Aa d.o a.o)⟩
theorem AC {x y:PlW} {v:Bool} (h:ZR x y=v) (w:World) (a:uL w w.heap.size x) (c:uL w w.heap.size y) :
 Calls prog 132 #[uV x,uV y] w fun e d=>e=.returned (.bool v)/\Ab w d:=h ▸ tC x y w a c
theorem OT (a:AcW) (rg pt:Int) (m:Bool) (y:PlW) (w:World) (L:uL w w.heap.size a.pl) (M:uL w w.heap.size y) :
 Calls prog 80 #[tM a,.agg #[.int .i64 rg,.int .i64 pt,.bool m,.int .i64 y.l,.slice y.A y.n y.c]] w fun e q=>e=.returned (.bool (uEg a m y))/\Ab w q:=by
 obtain ⟨x,wr,p⟩:=a;obtain ⟨v,B⟩:∃ v,ZR x y=v:=⟨_,rfl⟩;obtain ⟨u,C⟩:∃ u,KS y x=u:=⟨_,rfl⟩;have s:=uA (show uEg ⟨x,wr,p⟩ m y=((wr || m) && (v && (p || !u))) by rw [<-B,<- C];rfl);have HV:=uA B;have HU:=uA C;have N:Hdd (uL w w.heap.size x):=L;have O:=uA M;have T:=uA fun (q:World) (b:Ab w q)=>AC B q (N.o.up b) (O.o.up b)
 have U:=uA fun (q:World) (b:Ab w q)=>KR C q (O.o.up b) (N.o.up b)
 clear L M B C;obtain ⟨l,A,n,c,ps⟩:=x;obtain ⟨D,F,G,H,V⟩:=y;have I:=uB w (.cells #[.int .i64 l,.slice A n c,.bool wr,.bool p] 145);have J:=uB (w.alloc (.cells #[.int .i64 l,.slice A n c,.bool wr,.bool p] 145)) (.cells #[.int .i64 rg,.int .i64 pt,.bool m,.int .i64 D,.slice F G H] 50);have o:=uA (Aa I J);have h:=(Bx.new w [.int .i64 l,.slice A n c,.bool wr,.bool p] 145).below J;have f:=Bx.new (w.alloc (.cells #[.int .i64 l,.slice A n c,.bool wr,.bool p] 145)) [.int .i64 rg,.int .i64 pt,.bool m,.int .i64 D,.slice F G H] 50;rw [Ak] at f;have r:=uA h;have t:=uA f;have W:=uA (Below.refl ((w.alloc (.cells #[.int .i64 l,.slice A n c,.bool wr,.bool p] 145)).alloc (.cells #[.int .i64 rg,.int .i64 pt,.bool m,.int .i64 D,.slice F G H] 50)).heap.size ((w.alloc (.cells #[.int .i64 l,.slice A n c,.bool wr,.bool p] 145)).alloc (.cells #[.int .i64 rg,.int .i64 pt,.bool m,.int .i64 D,.slice F G H] 50)));have X:=h.q 2 rfl;have Y:=f.q 2 rfl;have P:=h.q 0 rfl;have Q:=h.q 1 rfl;have R:=f.q 3 rfl;have S:=f.q 4 rfl;clear I J h f;go_enter func80,ntmps80
 by_cases g:(wr || m)=false
 ·obtain ⟨rfl,rfl⟩:wr=false/\m=false:=by simpa using g
  clear g;go_wp2;go_ret;exact ⟨congrArg (fun v=>Ending.returned (.bool v)) s.o.symm,o.o⟩
 have g:(wr || m)=true:=eq_true_of_ne_false g;rw [g,E3] at s;have Z:wr=true\/m=true:=by cases wr <;> simp_all
 clear g;rcases Z with rfl | rfl
 case' inr=>cases wr
 all_goals
  go_wp2_with fail
  refine (T.o _ o.o).mono ?_;rintro e w1 ⟨rfl,z⟩;have d:=uA z;clear z P Q X Y R S;cases v
  ·go_wp2;go_ret;exact ⟨congrArg (fun v=>Ending.returned (.bool v)) s.o.symm,(Aa o.o d.o)⟩
  ·have P:=(r.o.below d.o).q 0 rfl;have Q:=(r.o.below d.o).q 1 rfl;have x3:=(r.o.below d.o).q 3 rfl;have R:=(t.o.below d.o).q 3 rfl;have S:=(t.o.below d.o).q 4 rfl;cases p
   ·go_wp2_with fail
    refine (U.o _ (Aa o.o d.o)).mono ?_;rintro e w2 ⟨rfl,z⟩;have K:=uA (Aa d.o z);clear z;go_wp2;go_ret;exact ⟨congrArg (fun v=>Ending.returned (.bool v)) s.o.symm,(Aa o.o K.o)⟩
   ·go_wp2;go_ret;exact ⟨congrArg (fun v=>Ending.returned (.bool v)) s.o.symm,(Aa o.o d.o)⟩
theorem VC {a:AcW} {rg pt:Int} {m:Bool} {y:PlW} {v:Bool} (h:uEg a m y=v) (w:World) (c:uL w w.heap.size a.pl) (d:uL w w.heap.size y) :
 Calls prog 80 #[tM a,.agg #[.int .i64 rg,.int .i64 pt,.bool m,.int .i64 y.l,.slice y.A y.n y.c]] w fun e f=>e=.returned (.bool v)/\Ab w f:=h ▸ OT a rg pt m y w c d
structure uIs where
 args:SlW OpW
 own:SlW AcW
 asn:Bool
 pl:PlW
abbrev OI (a:uIs):Value:=.agg #[.slice a.args.A a.args.n a.args.c,.slice a.own.A a.own.n a.own.c,.bool a.asn,.int .i64 a.pl.l,.slice a.pl.A a.pl.n a.pl.c]
def pE (w:World) (args:SlW OpW) (a:List AcW) (d:Bool) (f:PlW) (e:Ending) (w':World):Prop:=∃ A n c,e=.returned (OI ⟨args,⟨A,n,c,a⟩,d,f⟩)/\w'.ownsRow w.heap.size 145 4 (.slice A n c) n (a.flatMap cAc)/\Ab w w'
abbrev uJa {α:Type}:SlW α:=⟨none,0,0,[]⟩
abbrev uIv:PlW:=⟨0,none,0,0,[]⟩
theorem uCo (w:World) (a:Obj) (cs:List Value) (T:TypeId):((w.alloc a).alloc (.cells cs.toArray T)).heap[w.heap.size+1]?=some (.cells cs.toArray T):=by
 have h:=heap_alloc_new (w.alloc a) (.cells cs.toArray T)
 rwa [Ak] at h
theorem uGs:(prog.info? 145).map (fun i=>(i.zero,i.size,i.bytes))=some (some (.agg #[.int .i64 0,.slice none 0 0,.bool false,.bool false]),4,40):=by kernel_rfl
theorem NS (x:TmW) (w:World) (a:x.kind=2):Calls prog 177 #[fZ x] w (pE w uJa [] false uIv):=by
 obtain ⟨c,⟨e,f,g,h⟩,⟨j,m,n,o⟩,⟨l,p,q,r,s⟩,d⟩:=x;have a:c=2:=a;subst a;go_enter func177,ntmps177
 go_wp2;refine bodyPost_ret (results_cell_row rfl _ _ (w.heap.size+1) _ #[.slice none 0 0,.slice none 0 0,.bool false,.int .i64 0,.slice none 0 0] (0,0) _ rfl (uCo _ _ _ _) underlying223 rfl fL) rfl ?_;exact ⟨none,0,0,rfl,Bv _ _ _ _,(uB w _).trans ((uB _ _).mono (uB w _).size)⟩
theorem NF (x:StW) (w:World) (hk:x.kind=0) (hr:x.rv.kind=1):Calls prog 176 #[KV x] w (pE w x.rv.args [⟨x.rv.pl,x.rv.mut_,true⟩,⟨x.pl,true,false⟩] true x.pl):=by
 obtain ⟨kd,⟨f,m,n,q,qs⟩,⟨rk,J,K,B,⟨C,D,F,G,ts⟩,⟨s,t,z,dL⟩⟩,A⟩:=x;have hk:kd=0:=hk;have hr:rk=1:=hr;subst hk hr;have a4:(((w.alloc (.cells #[.int .i64 0,.int .i64 f,.slice m n q,.int .i64 1,.int .i64 J,.int .i64 K,.bool B,.int .i64 C,.slice D F G,.slice s t z,.int .i64 A] 69)).alloc (.cells #[.slice none 0 0,.slice none 0 0,.bool false,.int .i64 0,.slice none 0 0] 223)).alloc (.cells #[.slice s t z,.slice none 0 0,.bool true,.int .i64 f,.slice m n q] 223)).heap.size=w.heap.size+3:=by simp
 have b1:=uB w (.cells #[.int .i64 0,.int .i64 f,.slice m n q,.int .i64 1,.int .i64 J,.int .i64 K,.bool B,.int .i64 C,.slice D F G,.slice s t z,.int .i64 A] 69);have b3:Ab w (((w.alloc (.cells #[.int .i64 0,.int .i64 f,.slice m n q,.int .i64 1,.int .i64 J,.int .i64 K,.bool B,.int .i64 C,.slice D F G,.slice s t z,.int .i64 A] 69)).alloc (.cells #[.slice none 0 0,.slice none 0 0,.bool false,.int .i64 0,.slice none 0 0] 223)).alloc (.cells #[.slice s t z,.slice none 0 0,.bool true,.int .i64 f,.slice m n q] 223)):=b1.trans (((uB (w.alloc (.cells #[.int .i64 0,.int .i64 f,.slice m n q,.int .i64 1,.int .i64 J,.int .i64 K,.bool B,.int .i64 C,.slice D F G,.slice s t z,.int .i64 A] 69)) (.cells #[.slice none 0 0,.slice none 0 0,.bool false,.int .i64 0,.slice none 0 0] 223)).trans ((uB ((w.alloc (.cells #[.int .i64 0,.int .i64 f,.slice m n q,.int .i64 1,.int .i64 J,.int .i64 K,.bool B,.int .i64 C,.slice D F G,.slice s t z,.int .i64 A] 69)).alloc (.cells #[.slice none 0 0,.slice none 0 0,.bool false,.int .i64 0,.slice none 0 0] 223)) (.cells #[.slice s t z,.slice none 0 0,.bool true,.int .i64 f,.slice m n q] 223)).mono (uB (w.alloc (.cells #[.int .i64 0,.int .i64 f,.slice m n q,.int .i64 1,.int .i64 J,.int .i64 K,.bool B,.int .i64 C,.slice D F G,.slice s t z,.int .i64 A] 69)) (.cells #[.slice none 0 0,.slice none 0 0,.bool false,.int .i64 0,.slice none 0 0] 223)).size)).mono b1.size);have ab:∀ j u,(cAc ⟨⟨C,D,F,G,ts⟩,B,true⟩)[j]?=some u->((((w.alloc (.cells #[.int .i64 0,.int .i64 f,.slice m n q,.int .i64 1,.int .i64 J,.int .i64 K,.bool B,.int .i64 C,.slice D F G,.slice s t z,.int .i64 A] 69)).alloc (.cells #[.slice none 0 0,.slice none 0 0,.bool false,.int .i64 0,.slice none 0 0] 223)).alloc (.cells #[.slice s t z,.slice none 0 0,.bool true,.int .i64 f,.slice m n q] 223)).alloc (.cells #[.int .i64 C,.slice D F G,.bool B,.bool true] 145)).cell? ((⟨w.heap.size+3,0,none⟩:Addr).add j)=some u:=a4 ▸ Bd (heap_alloc_new (((w.alloc (.cells #[.int .i64 0,.int .i64 f,.slice m n q,.int .i64 1,.int .i64 J,.int .i64 K,.bool B,.int .i64 C,.slice D F G,.slice s t z,.int .i64 A] 69)).alloc (.cells #[.slice none 0 0,.slice none 0 0,.bool false,.int .i64 0,.slice none 0 0] 223)).alloc (.cells #[.slice s t z,.slice none 0 0,.bool true,.int .i64 f,.slice m n q] 223)) (.cells #[.int .i64 C,.slice D F G,.bool B,.bool true] 145));have a2:=(Bv ((((w.alloc (.cells #[.int .i64 0,.int .i64 f,.slice m n q,.int .i64 1,.int .i64 J,.int .i64 K,.bool B,.int .i64 C,.slice D F G,.slice s t z,.int .i64 A] 69)).alloc (.cells #[.slice none 0 0,.slice none 0 0,.bool false,.int .i64 0,.slice none 0 0] 223)).alloc (.cells #[.slice s t z,.slice none 0 0,.bool true,.int .i64 f,.slice m n q] 223)).alloc (.cells #[.int .i64 C,.slice D F G,.bool B,.bool true] 145)) (w.heap.size+3) 145 4);have av:((((w.alloc (.cells #[.int .i64 0,.int .i64 f,.slice m n q,.int .i64 1,.int .i64 J,.int .i64 K,.bool B,.int .i64 C,.slice D F G,.slice s t z,.int .i64 A] 69)).alloc (.cells #[.slice none 0 0,.slice none 0 0,.bool false,.int .i64 0,.slice none 0 0] 223)).alloc (.cells #[.slice s t z,.slice none 0 0,.bool true,.int .i64 f,.slice m n q] 223)).alloc (.cells #[.int .i64 C,.slice D F G,.bool B,.bool true] 145)).heap.size=w.heap.size+4:=by rw [Ak,a4]
 have ac:=uA (b3.trans ((uB _ (.cells #[.int .i64 C,.slice D F G,.bool B,.bool true] 145)).mono b3.size));have s0:=(Bx.new w [.int .i64 0,.int .i64 f,.slice m n q,.int .i64 1,.int .i64 J,.int .i64 K,.bool B,.int .i64 C,.slice D F G,.slice s t z,.int .i64 A] 69).below (uB (w.alloc (.cells #[.int .i64 0,.int .i64 f,.slice m n q,.int .i64 1,.int .i64 J,.int .i64 K,.bool B,.int .i64 C,.slice D F G,.slice s t z,.int .i64 A] 69)) (.cells #[.slice none 0 0,.slice none 0 0,.bool false,.int .i64 0,.slice none 0 0] 223));have s1:=Bx.new (w.alloc (.cells #[.int .i64 0,.int .i64 f,.slice m n q,.int .i64 1,.int .i64 J,.int .i64 K,.bool B,.int .i64 C,.slice D F G,.slice s t z,.int .i64 A] 69)) [.slice none 0 0,.slice none 0 0,.bool false,.int .i64 0,.slice none 0 0] 223;have s2:=Bx.new ((w.alloc (.cells #[.int .i64 0,.int .i64 f,.slice m n q,.int .i64 1,.int .i64 J,.int .i64 K,.bool B,.int .i64 C,.slice D F G,.slice s t z,.int .i64 A] 69)).alloc (.cells #[.slice none 0 0,.slice none 0 0,.bool false,.int .i64 0,.slice none 0 0] 223)) [.slice s t z,.slice none 0 0,.bool true,.int .i64 f,.slice m n q] 223;have s0:=(s0.below (uB ((w.alloc (.cells #[.int .i64 0,.int .i64 f,.slice m n q,.int .i64 1,.int .i64 J,.int .i64 K,.bool B,.int .i64 C,.slice D F G,.slice s t z,.int .i64 A] 69)).alloc (.cells #[.slice none 0 0,.slice none 0 0,.bool false,.int .i64 0,.slice none 0 0] 223)) (.cells #[.slice s t z,.slice none 0 0,.bool true,.int .i64 f,.slice m n q] 223))).below (uB (((w.alloc (.cells #[.int .i64 0,.int .i64 f,.slice m n q,.int .i64 1,.int .i64 J,.int .i64 K,.bool B,.int .i64 C,.slice D F G,.slice s t z,.int .i64 A] 69)).alloc (.cells #[.slice none 0 0,.slice none 0 0,.bool false,.int .i64 0,.slice none 0 0] 223)).alloc (.cells #[.slice s t z,.slice none 0 0,.bool true,.int .i64 f,.slice m n q] 223)) (.cells #[.int .i64 C,.slice D F G,.bool B,.bool true] 145));have s1:=(s1.below (uB ((w.alloc (.cells #[.int .i64 0,.int .i64 f,.slice m n q,.int .i64 1,.int .i64 J,.int .i64 K,.bool B,.int .i64 C,.slice D F G,.slice s t z,.int .i64 A] 69)).alloc (.cells #[.slice none 0 0,.slice none 0 0,.bool false,.int .i64 0,.slice none 0 0] 223)) (.cells #[.slice s t z,.slice none 0 0,.bool true,.int .i64 f,.slice m n q] 223))).below (uB (((w.alloc (.cells #[.int .i64 0,.int .i64 f,.slice m n q,.int .i64 1,.int .i64 J,.int .i64 K,.bool B,.int .i64 C,.slice D F G,.slice s t z,.int .i64 A] 69)).alloc (.cells #[.slice none 0 0,.slice none 0 0,.bool false,.int .i64 0,.slice none 0 0] 223)).alloc (.cells #[.slice s t z,.slice none 0 0,.bool true,.int .i64 f,.slice m n q] 223)) (.cells #[.int .i64 C,.slice D F G,.bool B,.bool true] 145));have s2:=s2.below (uB (((w.alloc (.cells #[.int .i64 0,.int .i64 f,.slice m n q,.int .i64 1,.int .i64 J,.int .i64 K,.bool B,.int .i64 C,.slice D F G,.slice s t z,.int .i64 A] 69)).alloc (.cells #[.slice none 0 0,.slice none 0 0,.bool false,.int .i64 0,.slice none 0 0] 223)).alloc (.cells #[.slice s t z,.slice none 0 0,.bool true,.int .i64 f,.slice m n q] 223)) (.cells #[.int .i64 C,.slice D F G,.bool B,.bool true] 145));simp only [Ak] at s1 s2;have aw:=uA s0;have ax:=uA s1;have a5:=uA s2;have a6:=uA av;obtain ⟨i0,hi,ad,ae,af⟩:=info_parts uGs;clear b1 b3 a4 s0 s1 s2;go_enter func176,ntmps176
 go_wp2_with (at_builtin;refine wpList_append_lies _ rfl (.tmp 19) (.tmp 27) 143 rfl (w.heap.size+3) 145 i0 _ 4 40 underlying143 hi ad ae af rfl eW (.slice none 0 0) 0 [] rfl a2 ⟨w.heap.size+3,0,none⟩ 1 1 (cAc ⟨⟨C,D,F,G,ts⟩,B,true⟩) rfl rfl ab (FP _) eW eW eW (by rw [a6.o];omega) _ a6.o ?_;intro g I w5 W ag ah ay;have N:=(Below.refl _ _).grown ag (Ae _) (fun k e=>by cases e);have x1:=(a5.o.below N).q 1 rfl;have z1:=(a5.o.below N).frozen 1)
 have ai:=uA ((aw.o.below N).other (a:=⟨w.heap.size+1+1,1,none⟩) (show w.heap.size+1+1≠w.heap.size by omega) (.slice (some ⟨g,0,none⟩) 1 I));have az:=uA ((ax.o.below N).other (a:=⟨w.heap.size+1+1,1,none⟩) (show w.heap.size+1+1≠w.heap.size+1 by omega) (.slice (some ⟨g,0,none⟩) 1 I));have b0:=uA ((a5.o.below N).set 1 (.slice (some ⟨g,0,none⟩) 1 I));have b2:=uA ((Aa ac.o N).setCell (p:=⟨w.heap.size+1+1,1,none⟩) (show w.heap.size<=w.heap.size+1+1 by omega) (.slice (some ⟨g,0,none⟩) 1 I));have b4:=uA (ownsRow_setCell_below W (a:=⟨w.heap.size+1+1,1,none⟩) (show w.heap.size+1+1 < w.heap.size+3 by omega) (.slice (some ⟨g,0,none⟩) 1 I));have b5:=uA (show w.heap.size+3<=(w5.setCell ⟨w.heap.size+1+1,1,none⟩ (.slice (some ⟨g,0,none⟩) 1 I)).heap.size by have h1:=N.size;rw [a6.o] at h1;rw [Db];omega);generalize w5.setCell ⟨w.heap.size+1+1,1,none⟩ (.slice (some ⟨g,0,none⟩) 1 I)=w6 at *;have hcx:=uA fun (w':World) (y:Below (w.heap.size+2) w6 w')=>(show w'.cell? ⟨w.heap.size,1,none⟩=some (.int .i64 f)/\w'.cell? ⟨w.heap.size,2,none⟩=some (.slice m n q) from ⟨(y.cell (p:=⟨w.heap.size,1,none⟩) (show w.heap.size < w.heap.size+2 by omega)).trans (ai.o.q 1 rfl),(y.cell (p:=⟨w.heap.size,2,none⟩) (show w.heap.size < w.heap.size+2 by omega)).trans (ai.o.q 2 rfl)⟩)
 have HD:=uA ((Below.refl (w.heap.size+2) w6).drew);have U:Hdd (Bx w6.drew (w.heap.size+1+1) [.slice s t z,.slice (some ⟨g,0,none⟩) 1 I,.bool true,.int .i64 f,.slice m n q] 223):=b0.o;have aj:Hdd (w6.drew.ownsRow (w.heap.size+3) 145 4 (.slice (some ⟨g,0,none⟩) 1 I) 1 (cAc ⟨⟨C,D,F,G,ts⟩,B,true⟩)):=b4.o;have O:Hdd (w.heap.size+3<=w6.drew.heap.size):=b5.o;clear W ag ah ay N x1 z1 ab a2;refine wp_region_held_drew (S:=(fun w'=>Below (w.heap.size+2) w6 w')) fL HD.o (fun hHeld=>?_);generalize w6.drew=wd at *;refine uJ [0,2,3] ?_
 repeat' (first | refine pT hHeld rfl ?_ | refine pS hHeld rfl ?_)
 refine uK ?_;have d1:=U.o.q 1 rfl;have ak:=uA (KM ⟨f,m,n,q,qs⟩ wd);refine wpAnyH_ready (rs:=[1,4]) fL nF ?_;refine AllReadyH.cons rfl (fun L H=>?_) (AllReadyH.cons rfl (fun L H=>?_) AllReadyH.nil);all_goals
  first
  | (go_simp
     refine H.out _ _ hHeld (fun hHeld=>?_);clear H L;try simp only [Ac]
     refine pC 4 rfl (fun L H=>?_);go_simp;refine ak.o.mono ?_;rintro e w7 ⟨rfl,M⟩;have R:=uA M;have X:=uA (hHeld.trans (M.mono (Ai bB O.o)));clear M;refine H.out _ _ X.o (fun hHeld=>?_);clear H L;have T:=uB w7 (.cells #[.int .i64 f,.slice m n q,.bool true,.bool false] 145);have Y:=uA T;have Z:=uA (X.o.trans (T.mono (Ai (by have:=O.o;omega) R.o.size)));clear T;try simp only [Ac]
     refine pC 5 rfl (fun L H=>?_);go_simp;refine H.out _ _ Z.o (fun hHeld=>?_);clear H L)
  | (go_simp
     refine ak.o.mono ?_;rintro e w7 ⟨rfl,M⟩;have R:=uA M;have X:=uA (hHeld.trans (M.mono (Ai bB O.o)));have d2:=(U.o.below M).q 1 rfl;have d3:=((U.o.below M).below (uB w7 (.cells #[.int .i64 f,.slice m n q,.bool true,.bool false] 145))).q 1 rfl;clear M;refine H.out _ _ X.o (fun hHeld=>?_);clear H L;have T:=uB w7 (.cells #[.int .i64 f,.slice m n q,.bool true,.bool false] 145);have Y:=uA T;have Z:=uA (X.o.trans (T.mono (Ai (by have:=O.o;omega) R.o.size)));clear T;try simp only [Ac]
     refine wpAnyH_ready (rs:=[1,5]) fL nF ?_;refine AllReadyH.cons rfl (fun L H=>?_) (AllReadyH.cons rfl (fun L H=>?_) AllReadyH.nil);all_goals
      first
      | (go_simp
         refine H.out _ _ hHeld (fun hHeld=>?_);clear H L;try simp only [Ac]
         refine pC 5 rfl (fun L H=>?_);go_simp;refine H.out _ _ Z.o (fun hHeld=>?_);clear H L d2 d3)
      | (go_simp
         refine H.out _ _ Z.o (fun hHeld=>?_);clear H L;try simp only [Ac]
         refine pC 1 rfl (fun L H=>?_);go_simp;refine H.out _ _ hHeld (fun hHeld=>?_);clear H L d2 d3))
 all_goals
  try simp only [Ac]
  clear d1;refine pC 6 rfl (fun L H=>?_);have al:=uA (uC (uC aj.o R.o) Y.o);refine step_append_lies (w7.alloc (.cells #[.int .i64 f,.slice m n q,.bool true,.bool false] 145)) rfl (.tmp 31) (.tmp 35) 143 rfl (w.heap.size+3) 145 i0 _ 4 40 underlying143 hi ad ae af rfl eW (.slice (some ⟨g,0,none⟩) 1 I) 1 (cAc ⟨⟨C,D,F,G,ts⟩,B,true⟩) rfl al.o ⟨w7.heap.size,0,none⟩ 1 1 (cAc ⟨⟨f,m,n,q,qs⟩,true,false⟩) rfl rfl (Bd (heap_alloc_new w7 (.cells #[.int .i64 f,.slice m n q,.bool true,.bool false] 145))) (FP _) eW eW eW (by have h1:=O.o;have h2:=R.o.size;have h3:=Y.o.size;omega) _ rfl ?_;intro V r w9 a0 am an b6;have ao:=uA ((Below.refl (w.heap.size+3) (w7.alloc (.cells #[.int .i64 f,.slice m n q,.bool true,.bool false] 145))).grown am (by have h1:=O.o;have h2:=R.o.size;have h3:=Y.o.size;omega) (fun k e=>(al.o.lt k e).1));have b7:=uA (((R.o.mono O.o).trans (Y.o.mono (Ai O.o R.o.size))).trans ao.o);have a7:=uA (Z.o.trans (ao.o.mono bB));have a8:Hdd (Bx w9 (w.heap.size+1+1) _ _):=(b7.o.block (w.heap.size+1+1) bB).trans U.o;have a1:=uA ((a8.o.set 1 (.slice (some ⟨V,0,none⟩) 2 r)));have ap:=uA ((show Bx w9 (w.heap.size+1) _ _ from (a7.o.block (w.heap.size+1) bB).trans az.o).other (a:=⟨w.heap.size+1+1,1,none⟩) (show w.heap.size+1+1≠w.heap.size+1 by omega) (.slice (some ⟨V,0,none⟩) 2 r));have a3:=uA (a7.o.setCell (p:=⟨w.heap.size+1+1,1,none⟩) (show w.heap.size+2<=w.heap.size+1+1 by omega) (.slice (some ⟨V,0,none⟩) 2 r));have aq:=uA (ownsRow_setCell_below a0 (a:=⟨w.heap.size+1+1,1,none⟩) (show w.heap.size+1+1 < w.heap.size+3 by omega) (.slice (some ⟨V,0,none⟩) 2 r));clear a0 am an b6;refine H.out _ _ a7.o (fun hHeld=>?_);clear H L;try simp only [Ac]
  refine uJ [7] ?_
  repeat' (first | refine pT hHeld rfl ?_ | refine pS hHeld rfl ?_)
  refine uK ?_;have x1:=a8.o.q 1 rfl;have z1:=a8.o.frozen 1;refine pC 8 rfl (fun L H=>?_);go_simp;generalize w9.setCell ⟨w.heap.size+1+1,1,none⟩ (.slice (some ⟨V,0,none⟩) 2 r)=a9 at *;refine H.out _ _ a3.o (fun hHeld=>?_);clear H L x1 z1;refine wpAnyH_done fL ?_ _;have y0:=a1.o.q 0 rfl;have y1:=a1.o.q 1 rfl;have y2:=a1.o.q 2 rfl;have y3:=a1.o.q 3 rfl;have y4:=a1.o.q 4 rfl;have ar:=uA (all_oneCell_toArray (cs:=[.slice s t z,.slice (some ⟨V,0,none⟩) 2 r,.bool true,.int .i64 f,.slice m n q]) (fun u hu=>by simp only [Av,Cd,or_false] at hu;rcases hu with rfl | rfl | rfl | rfl | rfl <;> rfl));have b8:=uA (show (prog.info? 223).map (·.size)=some 5 by kernel_rfl);go_wp2_with (refine wpList_store_row rfl 223 _ _ rfl (w.heap.size+1) #[.slice s t z,.slice (some ⟨V,0,none⟩) 2 r,.bool true,.int .i64 f,.slice m n q] rfl rfl 223 #[.slice none 0 0,.slice none 0 0,.bool false,.int .i64 0,.slice none 0 0] ?_ ?_ ?_ ?_ ?_;exact ap.o;exact b8.o;rfl;exact ar.o)
  refine bodyPost_ret (results_cell_row rfl _ _ (w.heap.size+1) _ #[.slice s t z,.slice (some ⟨V,0,none⟩) 2 r,.bool true,.int .i64 f,.slice m n q] (0,0) _ rfl (setRow_heap _ _ _ _ _ _ ap.o) underlying223 rfl fL) rfl ?_;have au:Hdd (Ab w a9):=b2.o.trans (a3.o.mono bB);have b9:=xS au.o (Cc w.heap.size) #[.slice s t z,.slice (some ⟨V,0,none⟩) 2 r,.bool true,.int .i64 f,.slice m n q];have aa:=vU aq.o (yJ.setRow9 (g:=w.heap.size+1) (lo:=w.heap.size+3) bB #[.slice s t z,.slice (some ⟨V,0,none⟩) 2 r,.bool true,.int .i64 f,.slice m n q] a9);have aa:(a9.setRow (w.heap.size+1) #[.slice s t z,.slice (some ⟨V,0,none⟩) 2 r,.bool true,.int .i64 f,.slice m n q]).ownsRow (w.heap.size+3) 145 4 (.slice (some ⟨V,0,none⟩) 2 r) 2 ([⟨⟨C,D,F,G,ts⟩,B,true⟩,⟨⟨f,m,n,q,qs⟩,true,false⟩].flatMap cAc):=aa;exact ⟨some ⟨V,0,none⟩,2,r,rfl,uI aa (C7 _ 3),b9⟩
def inR (i n:Int):Bool:=decide (0<=i/\i < n)
theorem uBv {i n:Int} (h:0<=i/\i < n):inR i n=true:=decide_eq_true h
theorem uAt {i n:Int} (h:¬(0<=i/\i < n)):inR i n=false:=decide_eq_false h
theorem JC (i n:Int) (w:World):Calls prog 182 #[.int .i64 i,.int .i64 n] w fun e d=>e=.returned (.bool (inR i n))/\d=w:=by
 by_cases a:0<=i
 ·by_cases c:i < n
  ·rw [uBv ⟨a,c⟩];go_enter func182,ntmps182
   go_wp2;go_ret;exact ⟨rfl,rfl⟩
  ·rw [uAt (fun h=>c h.2)];go_enter func182,ntmps182
   go_wp2;go_ret;exact ⟨rfl,rfl⟩
 ·rw [uAt (fun h=>a h.1)];go_enter func182,ntmps182
  go_wp2;go_ret;exact ⟨rfl,rfl⟩
theorem PP {i n:Int} {v:Bool} (h:inR i n=v) (w:World):Calls prog 182 #[.int .i64 i,.int .i64 n] w fun e a=>e=.returned (.bool v)/\a=w:=h ▸ JC i n w
theorem iZ (p:BkW) (w:World) (u:p.stmts.n<=2 ^ 62):Calls prog 134 #[uFi p] w fun e v=>e=.returned (.int .i64 ((p.stmts.n+1:Nat):Int))/\Ab w v:=by
 obtain ⟨⟨d,c,f,z⟩,⟨g,⟨h,j,m,A⟩,⟨n,o,q,B⟩,⟨l,r,s,t,C⟩,a⟩⟩:=p;have u:c<=2 ^ 62:=u;have y:=uA (uB w (.cells #[.slice d c f,.int .i64 g,.slice h j m,.slice n o q,.int .i64 l,.slice r s t,.string a] 65));obtain ⟨D,F,G,H,I,J,K⟩:=xB (Below.refl (w.alloc (.cells #[.slice d c f,.int .i64 g,.slice h j m,.slice n o q,.int .i64 l,.slice r s t,.string a] 65)).heap.size (w.alloc (.cells #[.slice d c f,.int .i64 g,.slice h j m,.slice n o q,.int .i64 l,.slice r s t,.string a] 65)));have L:IntKind.i64.wrap ((c:Int)+1)=(c:Int)+1:=vV _ bB bB;go_enter func134,ntmps134
 go_wp2;go_ret;exact ⟨rfl,y.o⟩
theorem NT {w:World} {B:Nat} {x:BdW} (h:uS w B x) {j:Nat} (a:j < x.blocks.n):∃ p b o,x.blocks.L[j]?=some p/\x.v.blocks[j]?=some p.v/\p.v.stmts.length=p.stmts.n/\x.blocks.A=some ⟨b,o,none⟩/\b < B/\aP w B p/\∀ i u,(cBk p)[i]?=some u->w.cell? ⟨b,o+j*7+i,none⟩=some u:=by
 obtain ⟨p,b,o,c,d,e,_,f,g,m,n⟩:=tH h a;exact ⟨p,b,o,c,d,e,f,g,m,n⟩
theorem MO (x:BdW) (w:World) (T:uS w w.heap.size x) (hN:uF x.v.blocks<=2 ^ 62) :
 Calls prog 118 #[vR x] w fun e u=>e=.returned (.int .i64 (uF x.v.blocks:Nat))/\Ab w u:=by
 obtain ⟨h,q⟩:∃ l,x.v.blocks=l:=⟨_,rfl⟩;have r:=eT T;have s:=T.blocks.nm;unfold maxLen at s;rw [q] at hN r ⊢;have a0:=uA q;have HN:=uA hN;obtain ⟨v,⟨A,B,C,rL⟩,⟨D,on,F,oL⟩,⟨G,H,I,tL⟩,⟨J,K,L,lL⟩,M,⟨t,a,N,bL⟩⟩:=x;have a1:=uA r;have s:a<=2 ^ 63 - 1:=s;have HB:=uA (uB w (.cells #[.string v,.slice A B C,.slice D on F,.slice G H I,.slice J K L,.int .i64 M,.slice t a N] 28));have HX:=uA (T.up HB.o);have HC:=uA fun (u:World) (y:Ab (w.alloc (.cells #[.string v,.slice A B C,.slice D on F,.slice G H I,.slice J K L,.int .i64 M,.slice t a N] 28)) u)=>xB y
 obtain ⟨x0,x1,x2,x3,x4,x5,x6⟩:=HC.o _ (Below.refl _ _);clear q r hN T;go_enter func118,ntmps118
 go_wp2;clear x0 x1 x2 x3 x4 x5 x6;go_loopw [3,9] (fun n i wr=>∃ j:Nat,i=.int .i64 (j:Int)/\n=.int .i64 (uD h j:Nat)/\j<=a/\Hdd (Ab (w.alloc (.cells #[.string v,.slice A B C,.slice D on F,.slice G H I,.slice J K L,.int .i64 M,.slice t a N] 28)) wr)) (fun _ i _=>a - (intOf i).toNat)
 case atStart=>exact ⟨0,rfl,by rw [mI];rfl,Am _,uA (Below.refl _ _)⟩
 case round=>
  obtain ⟨j,rfl,rfl,hj,U⟩:=hrel;by_cases a2:j < a
  ·have O:(j:Int) < (a:Int):=bB;obtain ⟨p,b,o,_,d,P,hA,hb,a3,g⟩:=NT (HX.o.up U.o) a2;have hA:t=some ⟨b,o,none⟩:=hA;subst hA;have d:h[j]?=some p.v:=a0.o ▸ d;have hu:=vW d;unfold ptN at hu;rw [P] at hu;have a4:=yL h (j+1);obtain ⟨m,hm⟩:∃ m,uD h j=m:=⟨_,rfl⟩;have Q:m+(p.stmts.n+1)<=2 ^ 62:=by
    have:=HN.o;omega
   have HU:=uA (show uD h (j+1)=m+(p.stmts.n+1) by omega);have a5:=uA fun (u:World)=>iZ p u bB
   rw [hm];obtain ⟨⟨V,c,W,sL⟩,⟨X,⟨Y,Z,xc,xL⟩,⟨gA,gn,gc,gL⟩,⟨l,pA,pn,pc,ps⟩,f⟩⟩:=p;have Q:m+(c+1)<=2 ^ 62:=Q;have c0:wr.cell? ⟨b,o+j*7,none⟩=some (.slice V c W):=g 0 _ rfl;have c1:wr.cell? ⟨b,o+j*7+1,none⟩=some (.int .i64 X):=g 1 _ rfl;have c2:wr.cell? ⟨b,o+j*7+2,none⟩=some (.slice Y Z xc):=g 2 _ rfl;have c3:wr.cell? ⟨b,o+j*7+3,none⟩=some (.slice gA gn gc):=g 3 _ rfl;have c4:wr.cell? ⟨b,o+j*7+4,none⟩=some (.int .i64 l):=g 4 _ rfl;have c5:wr.cell? ⟨b,o+j*7+5,none⟩=some (.slice pA pn pc):=g 5 _ rfl;have c6:wr.cell? ⟨b,o+j*7+6,none⟩=some (.string f):=g 6 _ rfl;have a6:=uA (uB wr (.cells #[.slice V c W,.int .i64 X,.slice Y Z xc,.slice gA gn gc,.int .i64 l,.slice pA pn pc,.string f] 65));have R:=uA (Aa U.o a6.o);obtain ⟨y0,y1,y2,y3,y4,y5,y6⟩:=xB (Below.refl (wr.alloc (.cells #[.slice V c W,.int .i64 X,.slice Y Z xc,.slice gA gn gc,.int .i64 l,.slice pA pn pc,.string f] 65)).heap.size (wr.alloc (.cells #[.slice V c W,.int .i64 X,.slice Y Z xc,.slice gA gn gc,.int .i64 l,.slice pA pn pc,.string f] 65)));clear d P g hu a4 hm a3;have s2:IntKind.i64.wrap ((m:Int)+((c+1:Nat):Int))=(m:Int)+((c+1:Nat):Int):=vV _ bB bB;have e2:(((c:Nat)+1:Nat):Int)=(c:Int)+1:=bB;go_wp2_with fail
   refine (a5.o _).mono ?_;rintro e w1 ⟨rfl,S⟩;have a7:=uA (Aa R.o S);clear S c0 c1 c2 c3 c4 c5 c6 y0 y1 y2 y3 y4 y5 y6;have s3:IntKind.i64.wrap ((m:Int)+((c:Int)+1))=(m:Int)+((c:Int)+1):=vV _ bB bB;go_wp2;go_roundw
   case rel=>exact ⟨j+1,by go_num,by rw [HU.o];exact congrArg (fun z:Int=>Value.int .i64 z) bB,bB,a7⟩
   case measure=>simp [intOf];omega
  ·have O:¬(j:Int) < (a:Int):=bB;have HF:Hdd (uD h j=uF h):=zM (by rw [a1.o];omega);go_wp2;go_ret;exact ⟨congrArg (fun z:Nat=>Ending.returned (.int .i64 (z:Int))) HF.o,(Aa HB.o U.o)⟩
def stI (l:List BkV) (j:Nat):List Int:=(List.range j).map fun (i:Nat)=>(uD l i:Int)
theorem dN (l:List BkV) (j:Nat):(stI l j).length=j:=by unfold stI;rw [Ao,C0]
theorem uA5 (l:List BkV) (j:Nat):stI l (j+1)=stI l j++[(uD l j:Int)]:=by
 unfold stI;rw [Dx,By];rfl
theorem sF (l:List BkV) {j k:Nat} (h:k < j):(stI l j)[k]?=some (uD l k:Int):=by
 unfold stI;rw [Ar,List.getElem?_range h];rfl
theorem qJ:∀ l:List Int,l.flatMap uX=l.map (Value.int .i64)
 | []=>rfl
 | x :: l=>by rw [Ct,qJ l];rfl
theorem Bx.own1 {w:World} {g base:Nat} {L:List Int} (h:Bx w g (L.map (Value.int .i64)) 3) (a:base<=g) (c:L.length<=maxLen):w.ownsRow base 3 1 (.slice (some ⟨g,0,none⟩) L.length L.length) L.length (L.flatMap uX):=by
 rw [qJ];refine ⟨nF,.inr ⟨g,L.length,(L.map (Value.int .i64)).toArray,rfl,a,h,Ae _,c,nF,?_⟩⟩;rw [Au nF]
theorem uG0 (l:List BkV) (n j:Nat) (c:j < n):((stI l j++List.replicate (n - j) 0).map (Value.int .i64)).set j (.int .i64 (uD l j:Int))=(stI l (j+1)++List.replicate (n - (j+1)) 0).map (Value.int .i64):=by
 rw [<-Fx,uA5];congr 1;obtain ⟨d,a⟩:∃ d,n - j=d+1:=⟨n - j - 1,bB⟩;have e:n - (j+1)=d:=by omega
 rw [a,e,List.replicate_succ,Eu _ _ (by rw [dN];exact Ae _),dN,D3,List.set_cons_zero,C2];rfl
theorem LN (x:BdW) (w:World) (hx:uS w w.heap.size x) (hN:uF x.v.blocks<=2 ^ 62) (a4:x.blocks.n<=1000000) :
 Calls prog 83 #[vR x] w (qN w (stI x.v.blocks x.blocks.n)):=by
 obtain ⟨g,N⟩:∃ l,x.v.blocks=l:=⟨_,rfl⟩;have O:=eT hx;rw [N] at hN O ⊢;have a5:=uA N;have HN:=uA hN;obtain ⟨r,⟨s,t,u,rL⟩,⟨v,on,A,oL⟩,⟨B,C,D,tL⟩,⟨F,G,H,lL⟩,I,⟨q,c,J,bL⟩⟩:=x;have ai:Hdd (g.length=c):=O;have aj:c<=1000000:=a4;have HB:=uA (uB w (.cells #[.string r,.slice s t u,.slice v on A,.slice B C D,.slice F G H,.int .i64 I,.slice q c J] 28));have HX:=uA (hx.up HB.o);have HC:=uA fun (w':World) (y:Ab (w.alloc (.cells #[.string r,.slice s t u,.slice v on A,.slice B C D,.slice F G H,.int .i64 I,.slice q c J] 28)) w')=>xB y
 have P:(w.alloc (.cells #[.string r,.slice s t u,.slice v on A,.slice B C D,.slice F G H,.int .i64 I,.slice q c J] 28)).heap.size=w.heap.size+1:=by simp
 have a6:=uA P;obtain ⟨i1,a7,a8,a9,aa⟩:=info_parts qQ;have U:=uB (w.alloc (.cells #[.string r,.slice s t u,.slice v on A,.slice B C D,.slice F G H,.int .i64 I,.slice q c J] 28)) (.cells (Array.replicate c (.int .i64 0)) 3);have V:=uA U;have W:=uA (show Bx ((w.alloc (.cells #[.string r,.slice s t u,.slice v on A,.slice B C D,.slice F G H,.int .i64 I,.slice q c J] 28)).alloc (.cells (Array.replicate c (.int .i64 0)) 3)) (w.heap.size+1) ((stI g 0++List.replicate (c - 0) 0).map (Value.int .i64)) 3 from by
  have h:=Bx.new (w.alloc (.cells #[.string r,.slice s t u,.slice v on A,.slice B C D,.slice F G H,.int .i64 I,.slice q c J] 28)) ((List.replicate c (0:Int)).map (Value.int .i64)) 3;rw [P] at h;simpa [List.map_replicate,stI] using h)
 obtain ⟨x0,x1,x2,x3,x4,x5,x6⟩:=HC.o _ (Below.refl _ _);clear N O hN hx P U;go_enter func83,ntmps83
 go_wp2_with (at_make;refine nR _ rfl _ _ _ rfl 3 i1 _ underlying60 a7 a8 a9 rfl c rfl rfl (by rw [aa];omega) bB ?_)
 clear x0 x1 x2 x3 x4 x5 x6;obtain ⟨x0,x1,x2,x3,x4,x5,x6⟩:=HC.o _ V.o;go_wp2;clear x0 x1 x2 x3 x4 x5 x6;go_loopw [4,14] (fun n i wr=>∃ j:Nat,i=.int .i64 (j:Int)/\n=.int .i64 (uD g j:Nat)/\j<=c/\Hdd (Bx wr (w.heap.size+1) ((stI g j++List.replicate (c - j) 0).map (Value.int .i64)) 3)/\Hdd (Ab (w.alloc (.cells #[.string r,.slice s t u,.slice v on A,.slice B C D,.slice F G H,.int .i64 I,.slice q c J] 28)) wr)) (fun _ i _=>c - (intOf i).toNat)
 case atStart=>exact ⟨0,rfl,by rw [mI];rfl,Am _,W,V⟩
 case round=>
  obtain ⟨j,rfl,rfl,hj,Q,HW⟩:=hrel;by_cases X:j < c
  ·have Y:(j:Int) < (c:Int):=bB;obtain ⟨p,b,o,_,K,Z,hA,hb,ab,M⟩:=NT (HX.o.up HW.o) X;have hA:q=some ⟨b,o,none⟩:=hA;subst hA;have K:g[j]?=some p.v:=a5.o ▸ K;have hu:=vW K;unfold ptN at hu;rw [Z] at hu;have ac:=yL g (j+1);have ad:=uA (uG0 g c j X);obtain ⟨m,hm⟩:∃ m,uD g j=m:=⟨_,rfl⟩;have ae:=uA hm;have a0:m+(p.stmts.n+1)<=2 ^ 62:=by
    have:=HN.o;omega
   have HU:=uA (show uD g (j+1)=m+(p.stmts.n+1) by omega);have af:=uA fun (w':World)=>iZ p w' bB
   rw [hm];obtain ⟨⟨sA,R,sc,sL⟩,⟨bk,⟨xA,xn,xc,xL⟩,⟨gA,gn,gc,gL⟩,⟨l,pA,pn,pc,ps⟩,L⟩⟩:=p;have a0:m+(R+1)<=2 ^ 62:=a0;have c0:wr.cell? ⟨b,o+j*7,none⟩=some (.slice sA R sc):=M 0 _ rfl;have c1:wr.cell? ⟨b,o+j*7+1,none⟩=some (.int .i64 bk):=M 1 _ rfl;have c2:wr.cell? ⟨b,o+j*7+2,none⟩=some (.slice xA xn xc):=M 2 _ rfl;have c3:wr.cell? ⟨b,o+j*7+3,none⟩=some (.slice gA gn gc):=M 3 _ rfl;have c4:wr.cell? ⟨b,o+j*7+4,none⟩=some (.int .i64 l):=M 4 _ rfl;have c5:wr.cell? ⟨b,o+j*7+5,none⟩=some (.slice pA pn pc):=M 5 _ rfl;have c6:wr.cell? ⟨b,o+j*7+6,none⟩=some (.string L):=M 6 _ rfl;have S:=uB wr (.cells #[.slice sA R sc,.int .i64 bk,.slice xA xn xc,.slice gA gn gc,.int .i64 l,.slice pA pn pc,.string L] 65);have f:=Q.o.below S;have ag:wr.heap.size≠w.heap.size+1:=by have:=Q.o.lt;omega
   have z1:(wr.alloc (.cells #[.slice sA R sc,.int .i64 bk,.slice xA xn xc,.slice gA gn gc,.int .i64 l,.slice pA pn pc,.string L] 65)).cell? ⟨w.heap.size+1,j,none⟩=some (.int .i64 0):=f.cell (by
    rw [Ar,B4 (by rw [dN];exact Ae _),dN,D3,Gj,if_pos bB];rfl)
   have ff:=f.frozen j;have d:=(Bx.new wr [.slice sA R sc,.int .i64 bk,.slice xA xn xc,.slice gA gn gc,.int .i64 l,.slice pA pn pc,.string L] 65).other (a:=⟨w.heap.size+1,j,none⟩) (G6 ag) (.int .i64 (m:Int));have y0:=d.q 0 rfl;have y1:=d.q 1 rfl;have y2:=d.q 2 rfl;have y3:=d.q 3 rfl;have y4:=d.q 4 rfl;have y5:=d.q 5 rfl;have y6:=d.q 6 rfl;have a1:=uA (f.set j (.int .i64 (m:Int)));have a2:=uA ((Aa HW.o S).setCell (p:=⟨w.heap.size+1,j,none⟩) (by rw [a6.o];exact Ae _) (.int .i64 (m:Int)));have ak:(0:Int)<=(j:Int):=bB;clear K Z M hu ac hm ab S f d;have s3:IntKind.i64.wrap ((m:Int)+((R:Int)+1))=(m:Int)+((R:Int)+1):=vV _ bB bB;go_wp2_with fail
   refine (af.o _).mono ?_;rintro e w1 ⟨rfl,T⟩;have ah:=uA (Aa a2.o T);have a3:=uA (a1.o.below T);clear T c0 c1 c2 c3 c4 c5 c6 y0 y1 y2 y3 y4 y5 y6 z1 ff;go_wp2;go_roundw
   case rel=>exact ⟨j+1,by go_num,by rw [HU.o];exact congrArg (fun z:Int=>Value.int .i64 z) bB,bB,uA (by rw [<-ad.o,ae.o];exact a3.o),ah⟩
   case measure=>simp [intOf];omega
  ·have Y:¬(j:Int) < (c:Int):=bB;obtain rfl:c=j:=by omega
   have hl:=dN g c;have HO:=uA (show wr.ownsRow w.heap.size 3 1 (.slice (some ⟨w.heap.size+1,0,none⟩) c c) c ((stI g c).flatMap uX) from by
    have h:=Q.o;rw [D3,List.replicate_zero,B5] at h;have h2:=h.own1 (base:=w.heap.size) (Cc _) (by rw [hl];unfold maxLen;omega);rw [hl] at h2;exact h2)
   go_wp2;go_ret;refine ⟨some ⟨w.heap.size+1,0,none⟩,c,?_,?_,(Aa HB.o HW.o)⟩
   ·rw [hl];rfl
   ·rw [hl];exact HO.o
end Go.Proofs.YtnkjbjkoffgocaaGreatDoor
