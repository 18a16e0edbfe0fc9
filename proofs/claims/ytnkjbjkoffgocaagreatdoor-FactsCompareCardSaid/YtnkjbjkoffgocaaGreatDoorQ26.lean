import Derived.Test.YtnkjbjkoffgocaaGreatDoorQ25
import Derived.Deep.LoopGhost
set_option linter.unusedVariables false
set_option linter.unusedSimpArgs false
set_option maxRecDepth 100000
set_option maxHeartbeats 8000000
namespace Go.Proofs.YtnkjbjkoffgocaaGreatDoor
open Tryz Go.RowKit
theorem RY {l:List BkV} (h:DQ l) {b:BkV} (d:b∈l) (k:Nat):(zZ b k).length<=900002:=by
 have a:=h b d;unfold zZ;cases hs:b.stmts[k]? with
 | none=>
   have e:=cY b.term.args;have f:=a.2;show (mN b.term.args++_).length<=_;rw [Aw]
   split <;> simp <;> omega
 | some s=>
   have e:=cY s.rv.args;have f:=a.1 s (Aj hs);show (stU s).length<=_;unfold stU
   split
   ·rw [Aw,Aw]
    split <;> split <;> simp <;> omega
   ·exact Am _
section
open Go.Shelf
attribute [local go_sem] Oper.semAt_some
def edP (a:List BkV) (pre:List (SpX a)):List Pr:=pre.flatMap fun s=>(mG a (s.1.1:Int)).map fun q=>((s.1.1:Int),q)
theorem uF7 (a:List BkV) (pre:List (SpX a)) (s:SpX a):edP a (pre++[s])=edP a pre++(mG a (s.1.1:Int)).map fun q=>((s.1.1:Int),q):=by
 unfold edP;rw [Bk];simp
theorem uEd {a:List BkV} {ys:List (SpX a)} (h:ys.map spP=List.range' 0 (uF a)):edP a ys=xF a:=by
 unfold edP xF edI;have e:(ys.flatMap fun s=>(mG a (s.1.1:Int)).map fun q=>((s.1.1:Int),q))=(ys.map spP).flatMap fun (k:Nat)=>(mG a (k:Int)).map fun q=>((k:Int),q):=by
  rw [List.flatMap_map];rfl
 rw [e,h,<- Fq]
theorem sE (l:List BkV) (p:Int):(mG l p).length<=uF l:=uC2 l p _
theorem uBw (a:List BkV) (pre:List (SpX a)):(edP a pre).length<=pre.length*uF a:=by
 induction pre with
 | nil=>simp [edP]
 | cons s pre b=>
   have e:edP a (s :: pre)=((mG a (s.1.1:Int)).map fun q=>((s.1.1:Int),q))++edP a pre:=by
    unfold edP;rw [Ct]
   rw [e,Aw,Ao,As,E9,Nat.one_mul];have:=sE a (s.1.1:Int);omega
def K2 (W W':World):Prop:=∀ (k:Nat) (a:Array Value) (t:TypeId) (b:Nat×Nat),W.heap[k]?=some (.cells a t b)->t≠54->t≠23->W'.heap[k]?=some (.cells a t b)
theorem K2.of_below {W W':World} (h:Ab W W'):K2 W W':=fun k b t d a _ _=>(h.block k (Ag.1 a).1).trans a
theorem K2.trans {A B C:World} (h:K2 A B) (k:K2 B C):K2 A C:=fun j a t b f d e=>k j a t b (h j a t b f d e) d e
theorem WX {W W':World} {lo k n:Nat} {e:TypeId} {v:Value} {xs:List Value} (h:W.ownsRow lo e k v n xs) (f:K2 W W') (j:e≠54) (o:e≠23):W'.ownsRow lo e k v n xs:=by
 refine ⟨h.1,?_⟩;rcases h.2 with a | ⟨g,b,d,a,q,s,r⟩
 ·exact .inl a
 ·exact .inr ⟨g,b,d,a,q,f _ _ _ _ s j o,r⟩
structure EdW (lo e0 f0 bn fc:Nat) (fA:Option Addr) (st:List Int) (L:List Pr) (W:World):Prop where
 row:∃ A c,Boxed W e0 23 (.slice A L.length c)/\W.ownsRow lo 54 2 (.slice A L.length c) L.length (L.flatMap pV)
 fb:Boxed W f0 60 (.slice fA bn fc)
 fr:W.ownsRow lo 3 1 (.slice fA bn fc) bn (st.flatMap uX)
section
variable {lo e0 f0 bn fc:Nat} {fA:Option Addr} {st:List Int} {L:List Pr} {W W':World}
theorem EdW.below (h:EdW lo e0 f0 bn fc fA st L W) (a:Ab W W'):EdW lo e0 f0 bn fc fA st L W':=by
 obtain ⟨A,c,b,d⟩:=h.row;exact ⟨⟨A,c,(a.block _ b.lt).trans b,uC d a⟩,(a.block _ h.fb.lt).trans h.fb,uC h.fr a⟩
theorem jF {row:Option Nat} {base k n:Nat} {e:TypeId} {v:Value} {xs:List Value} (h:W.ownsRow base e k v n xs) (d:W.grownBy W' row) (f:∀ r,row=some r->∃ o:Obj,W.heap[r]?=some o/\o.isCells=false):W'.ownsRow base e k v n xs:=by
 refine h.kept d ?_;rcases h.2 with ⟨rfl,_⟩ | ⟨g,j,q,rfl,_,b,_⟩
 ·exact .inl rfl
 ·refine .inr fun s=>?_
  obtain ⟨o,a,t⟩:=f g (by rw [<-s];rfl);rw [b] at a;injection a with a;subst a;cases t
theorem EdW.own {row:Option Nat} (h:EdW lo e0 f0 bn fc fA st L W) (a:W.grownBy W' row) (b:∀ r,row=some r->∃ o:Obj,W.heap[r]?=some o/\o.isCells=false):EdW lo e0 f0 bn fc fA st L W':=by
 obtain ⟨A,c,d,e⟩:=h.row;exact ⟨⟨A,c,wQ d a b,jF e a b⟩,wQ h.fb a b,jF h.fr a b⟩
theorem zU {B:Nat} (a:Ab W W'):KeepsFrom B W W':=⟨a.size,fun k o _ b _=>(a.block k (Ag.1 b).1).trans b⟩
theorem kW {B:Nat} {base k n:Nat} {e:TypeId} {v:Value} {xs:List Value} (f:W.grownBy W' v.ownBlock) (b:W.ownsRow base e k v n xs):KeepsFrom B W W':=⟨f.size,fun q o _ d j=>(f.block q (Ag.1 d).1 (fun h=>by
 rcases b.2 with ⟨rfl,_⟩ | ⟨g,r,s,rfl,_,a,_⟩
 ·cases h
 ·have:q=g:=by simpa [Value.ownBlock] using h
  subst this;rw [d] at a;injection a with a;subst a;cases j)).trans d⟩
theorem EdW.step {n₀ B:Nat} {A b:Option Addr} {c d:Nat} {y:Pr} {a:World} (h:EdW lo e0 f0 bn fc fA st L W) (D:Boxed W e0 23 (.slice A L.length c)) (s:W.ownsRow lo 54 2 (.slice A L.length c) L.length (L.flatMap pV))
 (j:a.ownsRow lo 54 2 (.slice b (L.length+1) d) (L.length+1) (L.flatMap pV++pV y)) (f:W.grownBy a (Value.slice A L.length c).ownBlock) (r:lo<=W.heap.size) (E:lo<=e0) (v:n₀<=lo) :
 Boxed a e0 23 (.slice A L.length c)/\EdW lo e0 f0 bn fc fA st (L++[y]) (a.setCell ⟨e0,0,none⟩ (.slice b (L.length+1) d))/\K2 W (a.setCell ⟨e0,0,none⟩ (.slice b (L.length+1) d))/\Below lo W (a.setCell ⟨e0,0,none⟩ (.slice b (L.length+1) d))/\vQ n₀ iW W (a.setCell ⟨e0,0,none⟩ (.slice b (L.length+1) d))/\KeepsFrom B W (a.setCell ⟨e0,0,none⟩ (.slice b (L.length+1) d)):=by
 have x:KT 54 W a:=KT.of_grown f s;have g:Boxed a e0 23 (.slice A L.length c):=(x _ _ _ _ D eW).trans D;have F:KT 23 a (a.setCell ⟨e0,0,none⟩ (.slice b (L.length+1) d)):=KT.of_set (cs:=[.slice A L.length c]) g 0 _;have o:K2 W (a.setCell ⟨e0,0,none⟩ (.slice b (L.length+1) d)):=fun k u t z q G H=>(F k u t z ((x k u t z q G).trans q) H).trans ((x k u t z q G).trans q)
 have C:vQ n₀ iW W (a.setCell ⟨e0,0,none⟩ (.slice b (L.length+1) d)):=(vQ.row f s v (Ai v r) eW).trans (vQ.box g (Ai v E) eW _);refine ⟨g,⟨⟨b,d,?_,?_⟩,o _ _ _ _ h.fb eW eW,WX h.fr o eW eW⟩,o,?_,C,(kW f s).trans ((Bz a ⟨e0,0,none⟩ (.slice b (L.length+1) d)).from _)⟩
 ·have e:(L++[y]).length=L.length+1:=by simp
  rw [e];exact g.set _
 ·have e:(L++[y]).length=L.length+1:=by simp
  rw [e,Bk];have I:=xV j F eW;simpa using I
 ·exact ((Below.refl lo W).grown f r (fun k q=>(s.lt k q).1)).setCell (p:=⟨e0,0,none⟩) E _
end
theorem tE (x:BdW) (w:World) (hx:uS w w.heap.size x) (hN:uF x.v.blocks<=100000) (hT:∀ b∈x.v.blocks,b.term.targets.length<=100000) :
 Calls prog 39 #[vR x] w (uD5 w (xF x.v.blocks)):=by
 refine (callsIn_wide (n:=9)).1 ?_;obtain ⟨G,a0⟩:∃ l,x.v.blocks=l:=⟨_,rfl⟩;obtain ⟨C,hC⟩:∃ n,uF G=n:=⟨_,rfl⟩;have bd:=eT hx;have d4:x.blocks.n<=100000:=by
  have:=nW x.v.blocks;omega
 rw [a0] at bd;have be:uF x.v.blocks<=2 ^ 62:=Ai hN eW;have bx:=uA fun (w':World) (q i k:Nat) (b:BkV) (hb:G[i]?=some b) (y:Ab w w')=>FV x q i k w' b (hx.up y) (a0 ▸ hb)
 have bz:=uA fun (w':World) (y:Ab w w')=>LN x w' (hx.up y) be bB
 have HJ:=uA fun (w':World) (i:Nat) (b:BkV) (hb:G[i]?=some b) (fA:Option Addr) (fc:Nat) (y:Ab w w') (hF:uM w' w'.heap.size 1 uX fA x.blocks.n (stI x.v.blocks x.blocks.n))=>MW x i b fA fc w' (hx.up y) (a0 ▸ hb) (Ai (hT b (a0 ▸ Aj hb)) eW) be hF
 rw [a0] at hN hT bz HJ ⊢;rw [hC] at hN;have d5:C<=2 ^ 62:=Ai hN eW;have HX:=uA hx;have d6:=uA bd;have du:=uA a0;have aq:=uA hC;have d7:=uA (dN G x.blocks.n);have bf:=uA fun (n:Nat) (hn:1<=n) (Bb Bf:Nat) (w':World) (d8:w'.heap[Bb]?=some (.cells (cBd x).toArray 28 (0,0))) (d9:Boxed w' Bf 3 (.int .i64 0)) (hx:uS w' w.heap.size x) (da:w.heap.size<=w'.heap.size)=>fY n hn Bb Bf w.heap.size x G a0 0 C hC d5 ⟨bB,bB⟩ w' d8 d9 hx da
 clear hx a0 hC be;obtain ⟨I,⟨J,N,O,rL⟩,⟨P,on,Q,oL⟩,⟨R,S,T,tL⟩,⟨U,V,Z,lL⟩,ar,⟨bA,bn,bc,bL⟩⟩:=x;have db:=uA fun (n:Nat) (w':World)=>(show CallsIn Fence.wide n prog 84 #[.agg #[.string I,.slice J N O,.slice P on Q,.slice R S T,.slice U V Z,.int .i64 ar,.slice bA bn bc],.int .i64 0] w' fun e w2=>e=.returned (.func (.func 135) #[] #[.pointer (some ⟨w'.heap.size,0,none⟩),.pointer (some ⟨w'.heap.size+1,0,none⟩)]) /\
  w2=(w'.alloc (.cells #[.string I,.slice J N O,.slice P on Q,.slice R S T,.slice U V Z,.int .i64 ar,.slice bA bn bc] 28)).alloc (.cells #[.int .i64 0] 3) from CM n ⟨I,⟨J,N,O,rL⟩,⟨P,on,Q,oL⟩,⟨R,S,T,tL⟩,⟨U,V,Z,lL⟩,ar,⟨bA,bn,bc,bL⟩⟩ 0 w')
 have HB:=uA (uB w (.cells #[.string I,.slice J N O,.slice P on Q,.slice R S T,.slice U V Z,.int .i64 ar,.slice bA bn bc] 28));have b0:(w.alloc (.cells #[.string I,.slice J N O,.slice P on Q,.slice R S T,.slice U V Z,.int .i64 ar,.slice bA bn bc] 28)).heap.size=w.heap.size+1:=by simp
 have aa:=uA b0;have ab:=uA fun (w':World) (y:Ab (w.alloc (.cells #[.string I,.slice J N O,.slice P on Q,.slice R S T,.slice U V Z,.int .i64 ar,.slice bA bn bc] 28)) w')=>xB y
 have dc:=uA (Bx.new w [.string I,.slice J N O,.slice P on Q,.slice R S T,.slice U V Z,.int .i64 ar,.slice bA bn bc] 28);obtain ⟨W1,bg⟩:∃ W1,W1=(w.alloc (.cells #[.string I,.slice J N O,.slice P on Q,.slice R S T,.slice U V Z,.int .i64 ar,.slice bA bn bc] 28)):=⟨_,rfl⟩;rw [<-bg] at HB aa ab dc;have c1:(W1.alloc (.cells #[] 54)).ownsRow (w.heap.size+1) 54 2 (.slice (some ⟨w.heap.size+1,0,none⟩) 0 0) 0 []:=by
  have h:=nA W1 54 2;rw [aa.o] at h;exact h
 have b1:=uB W1 (.cells #[] 54);have bh:(W1.alloc (.cells #[] 54)).heap.size=w.heap.size+2:=by rw [Ak,aa.o]
 have b2:=uB (W1.alloc (.cells #[] 54)) (.cells #[.slice (some ⟨w.heap.size+1,0,none⟩) 0 0] 23);have e2:=Du (W1.alloc (.cells #[] 54)) 23 (.slice (some ⟨w.heap.size+1,0,none⟩) 0 0);rw [bh] at e2;have au:((W1.alloc (.cells #[] 54)).alloc (.cells #[.slice (some ⟨w.heap.size+1,0,none⟩) 0 0] 23)).heap.size=w.heap.size+3:=by rw [Ak,bh]
 have bi:=uC c1 b2;obtain ⟨W2,av⟩:∃ W2,W2=(W1.alloc (.cells #[] 54)).alloc (.cells #[.slice (some ⟨w.heap.size+1,0,none⟩) 0 0] 23):=⟨_,rfl⟩;have aw:Hdd (Ab W1 W2):=av ▸ (Aa b1 b2);rw [<-av] at e2 au bi;have c2:=uA e2;have c3:=uA au;have dd:=uA bi;have c4:=uA bg;have c5:=uA av;have c7:=ab.o _ aw.o;obtain ⟨x0,x1,x2,x3,x4,x5,x6⟩:=c7;clear b1 b2 e2 bh au c1 bi bg av b0 bd d4;refine callsIn_of_wp_marks func39 rfl trivial ?_ rfl;simp only [ntmps39,Bc,As,Br,Nat.reduceAdd,Nat.reduceSub,Ay,Az,Be,Ba,Bj,Bg];gi_wp2_with fail
 rw [<-c4.o];rw [<-c5.o];refine ⟨trivial,(callsIn_wide.2 (bz.o W2 (Aa HB.o aw.o))).mono ?_⟩;rintro e d ⟨fA,fc,rfl,E,ac⟩;rw [d7.o] at E ⊢;have E:d.ownsRow (w.heap.size+1) 3 1 (.slice fA bn fc) bn ((stI G bn).flatMap uX):=uI E (by rw [c3.o];omega);have c6:=uA (Aa aw.o ac);have ad:=uB d (.cells #[.slice fA bn fc] 60);have bj:=uA (Aa c6.o ad);have bk:=(ac.block _ c2.o.lt).trans c2.o;have c9:EdW (w.heap.size+1) (w.heap.size+2) d.heap.size bn fc fA (stI G bn) [] (d.alloc (.cells #[.slice fA bn fc] 60)):=⟨⟨_,0,(ad.block _ (Ag.1 bk).1).trans bk,uC (uC dd.o ac) ad⟩,Du d 60 _,uC E ad⟩;have de:(d.alloc (.cells #[.slice fA bn fc] 60)).heap.size=d.heap.size+1:=by simp
 have au:w.heap.size+3<=d.heap.size:=by rw [<-c3.o];exact ac.size
 have c7:=ab.o _ bj.o;obtain ⟨x0,x1,x2,x3,x4,x5,x6⟩:=c7;clear ac bk E;gi_wp2_with (refine ⟨trivial,?_⟩;gi_at_call 84;refine (db.o _ _).mono ?_;rintro e w4 ⟨rfl,rfl⟩)
 have b5:=uB (d.alloc (.cells #[.slice fA bn fc] 60)) (.cells #[.string I,.slice J N O,.slice P on Q,.slice R S T,.slice U V Z,.int .i64 ar,.slice bA bn bc] 28);have bC:=(Bx.new (d.alloc (.cells #[.slice fA bn fc] 60)) [.string I,.slice J N O,.slice P on Q,.slice R S T,.slice U V Z,.int .i64 ar,.slice bA bn bc] 28).below (uB _ (.cells #[.int .i64 0] 3));have bP:=Bx.new ((d.alloc (.cells #[.slice fA bn fc] 60)).alloc (.cells #[.string I,.slice J N O,.slice P on Q,.slice R S T,.slice U V Z,.int .i64 ar,.slice bA bn bc] 28)) [.int .i64 0] 3;have b6:=uB ((d.alloc (.cells #[.slice fA bn fc] 60)).alloc (.cells #[.string I,.slice J N O,.slice P on Q,.slice R S T,.slice U V Z,.int .i64 ar,.slice bA bn bc] 28)) (.cells #[.int .i64 0] 3);have bl:=(c9.below b5).below b6;have ax:=bj.o.trans ((Aa b5 b6).mono bj.o.size);have ca:(((d.alloc (.cells #[.slice fA bn fc] 60)).alloc (.cells #[.string I,.slice J N O,.slice P on Q,.slice R S T,.slice U V Z,.int .i64 ar,.slice bA bn bc] 28)).alloc (.cells #[.int .i64 0] 3)).heap.size=d.heap.size+3:=by simp
 simp only [Ak] at bC bP;obtain ⟨W0,cb⟩:∃ W0,W0=((d.alloc (.cells #[.slice fA bn fc] 60)).alloc (.cells #[.string I,.slice J N O,.slice P on Q,.slice R S T,.slice U V Z,.int .i64 ar,.slice bA bn bc] 28)).alloc (.cells #[.int .i64 0] 3):=⟨_,rfl⟩;rw [<-cb] at bC bP bl ax ca ⊢;have ae:=uA bl;have a1:=uA ax;have cc:=uA (Aa HB.o ax);have df:=uA (HX.o.below cc.o);clear cb bl ax c9 b5 b6 ad x0 x1 x2 x3 x4 x5 x6 de;obtain ⟨i0,hi,ce,cf,cg⟩:=info_parts lH;have ch:W1.heap.size<=W0.heap.size:=a1.o.size;refine wpIn_rangeFunc_ownH rfl bB (gf:=135) (lb:=#[.pointer (some ⟨d.heap.size+1,0,none⟩),.pointer (some ⟨d.heap.size+1+1,0,none⟩)]) rfl trivial (enters_of func135 fL rfl)
  (bf.o _ bB (d.heap.size+1) (d.heap.size+1+1) W0 bC bP df.o bB) QA (FT bB) (Below.refl _ _) (fun _=>rfl)
  (fun a4 W=>(EdW (w.heap.size+1) (w.heap.size+1+1) d.heap.size bn fc fA (stI G bn) (edP G a4) W/\d.heap.size+3<=W.heap.size)/\Ab W1 W)
  (fun _ _ _=>False)
  (Dg (Ed (fun s X Y dg hs hg hr=>⟨hs.1.own hg hr,Ai hs.2 hg.size⟩) _) (ownFrom_below (Ae _) ch))
  (fun _ _ _ _ _ hs _ _=>hs)
  ⟨⟨ae.o,bB⟩,a1.o⟩
  (fun s a' W=>∃ Bq,d.heap.size+3<=Bq/\W.heap[Bq]?=some (.cells #[.int .i64 (s.1.1:Int),.int .i64 (s.1.2.1:Int),.int .i64 (s.1.2.2:Int)] 159 (0,0))/\a'={ tmps:=#[vR ⟨I,⟨J,N,O,rL⟩,⟨P,on,Q,oL⟩,⟨R,S,T,tL⟩,⟨U,V,Z,lL⟩,ar,⟨bA,bn,bc,bL⟩⟩,.pointer (some ⟨w.heap.size,0,none⟩),.slice none 0 0,.pointer (some ⟨w.heap.size+1+1,0,none⟩),.pointer (some ⟨d.heap.size,0,none⟩),.pointer (some ⟨Bq,0,none⟩),undef,undef,.slice (some ⟨w.heap.size+1,0,none⟩) 0 0,.agg #[.string I,.slice J N O,.slice P on Q,.slice R S T,.slice U V Z,.int .i64 ar,.slice bA bn bc],.slice fA bn fc,.agg #[.string I,.slice J N O,.slice P on Q,.slice R S T,.slice U V Z,.int .i64 ar,.slice bA bn bc],.func (.func 135) #[] #[.pointer (some ⟨d.heap.size+1,0,none⟩),.pointer (some ⟨d.heap.size+1+1,0,none⟩)],RH s.1.1 s.1.2.1 s.1.2.2,undef,undef,undef,undef,undef,undef,undef,undef,undef,undef,undef,undef,undef,undef,undef,undef,undef,undef,undef,undef,undef,undef,undef,undef,undef,undef,undef,undef,undef,undef,undef],defers:=[] })
  (fun s a' _ X Y dg hs hg hr=>by obtain ⟨Bq,h1,h2,h3⟩:=hs;exact ⟨Bq,h1,wQ h2 hg (fun r e=>(hr r e).2),h3⟩)
  ?assign ?body ?done ?stop
 case assign=>
  rintro l a4 s W K ⟨⟨hE,hs⟩,hB⟩ hK;obtain ⟨⟨o,si,sk⟩,bm⟩:=s;have hb:=uB W (.cells #[.int .i64 (o:Int),.int .i64 (si:Int),.int .i64 (sk:Int)] 159);have dh:vQ w.heap.size iW W _:=vQ.of_below hb bB;have HK:=uA hK;clear hK;dsimp only [IB];gi_wp2;exact HK.o _ _ ((KeepsOthers.alloc _ _).from _) dh ⟨⟨hE.below hb,by rw [World.size_alloc];omega⟩,(Aa hB hb)⟩ ⟨W.heap.size,hs,heap_alloc_new W _,rfl⟩
 case body=>
  rintro l a4 s a' W hl di ⟨⟨hE,hs⟩,hB⟩ ⟨Bq,dv,bX,rfl⟩ dw;have bo:=uA (uF7 G a4 s);obtain ⟨⟨o,si,sk⟩,bm⟩:=s;obtain ⟨b,hb,hk,ci⟩:=vI bm;have af:=aQ hb hk;rw [aq.o] at af;have ay:vB G (o:Int)=some (si,sk):=by
   unfold vB;rw [if_neg bB,A3];exact bm
  have a6:=uBw G a4;rw [aq.o] at a6;obtain ⟨L,hL⟩:∃ L,edP G a4=L:=⟨_,rfl⟩;rw [hL] at a6 hE bo;have dx:L.length<=100000*100000:=Ai a6 (Eo bB hN);have b3:=uA (Aa HB.o hB);obtain ⟨x0,x1,x2,x3,x4,x5,x6⟩:=ab.o _ hB;have d0:=uE bX 0;have d1:=uE bX 1;have d2:=uE bX 2;have ds:=(Ag.1 bX).1;have b4:Hdd (Bx W Bq [.int .i64 (o:Int),.int .i64 (si:Int),.int .i64 (sk:Int)] 159):=bX;have HE:=uA hE;have a7:=uA hB;have dy:w.heap.size+1<=W.heap.size:=by omega
  clear hE hB bX a6 hL di;by_cases a9:sk < b.stmts.length
  ·have HV:=uA (CC ay hb a9);have a2:=uA fun (w':World) (y:Ab w w')=>bx.o w' o si sk b hb y
   rw [decide_eq_true a9] at a2;have s1:IntKind.i64.wrap ((o:Int)+1)=(o:Int)+1:=vV _ bB bB;clear a9 hb hk ci ay af;gi_wp2_with fail
   refine ⟨trivial,(callsIn_wide.2 (a2.o W b3.o)).mono ?_⟩;rintro e w5 ⟨rfl,f⟩;obtain ⟨A,c,u,t⟩:=(HE.o.below f).row;have k0:=u.cell;have cj:=b4.o.below f;have d0:=cj.q 0 rfl;have F:=uB w5 (.cells #[.int .i64 (o:Int),.int .i64 ((o:Int)+1)] 54);have bp:=uA ((HE.o.below f).below F);have bq:=uA ((F.block _ u.lt).trans u:Boxed _ _ _ _);have ag:=uA (uC t F);have a3:=uA (Aa f F);have dz:W.heap.size<=w5.heap.size:=f.size;clear x0 x1 x2 x3 x4 x5 x6 d1 d2 u t cj F f;gi_wp2_with (gi_at_builtin;refine wpListIn_append_own_at _ rfl _ _ 23 rfl (w.heap.size+1) 54 i0 (.agg #[.int .i64 0,.int .i64 0]) 2 16 underlying23 hi ce cf cg rfl eW _ L.length (L.flatMap pV) rfl ag.o ⟨w5.heap.size,0,none⟩ 1 1 (pV ((o:Int),((o:Int)+1))) rfl rfl (Bd (heap_alloc_new w5 (.cells #[.int .i64 (o:Int),.int .i64 ((o:Int)+1)] 54))) (gO _) (by unfold maxLen;omega) bB (by rw [Ak];omega) ?_;intro v6 w6 a ah _ ai;obtain ⟨A6,k6,rfl⟩:=wU a;obtain ⟨a5,aj,ak,al,am,an⟩:=EdW.step (n₀:=w.heap.size) (B:=W0.heap.size) bp.o bq.o ag.o a ah (by rw [Ak];omega) (show w.heap.size+1<=w.heap.size+1+1 by omega) (Cc _);have q6:=a5.cell;have f6:=a5.frozen;have ae:=uA aj;have ck:=uA ak;have a1:=uA al;have br:=uA am;have bs:=uA an;clear a5 aj ak al am an a ah ai)
   have cl:W.heap.size<=(w6.setCell ⟨w.heap.size+1+1,0,none⟩ (.slice A6 (L.length+1) k6)).heap.size:=by
    have h1:=a1.o.size;rw [Ak] at h1;omega
   exact ⟨(zU a3.o).trans bs.o,(vQ.of_below a3.o bB).trans br.o,⟨by rw [bo.o,HV.o];exact ae.o,bB⟩,a7.o.trans ((a3.o.mono a7.o.size).trans (a1.o.mono (Cw aa.o)))⟩
  ·have HV:=uA (show mG G (o:Int)=jmI G bn b.term.targets by rw [CH ay hb a9,show G.length=bn from d6.o]);have a2:=uA fun (w':World) (y:Ab w w')=>bx.o w' o si sk b hb y
   rw [decide_eq_false a9] at a2;have dj:=uA fun (w':World) (fA:Option Addr) (fc:Nat)=>HJ.o w' si b hb fA fc
   clear a9 hb hk ci ay af;gi_wp2_with fail
   refine ⟨trivial,(callsIn_wide.2 (a2.o W b3.o)).mono ?_⟩;rintro e w5 ⟨rfl,f⟩;have bt:=uA (HE.o.below f);have b7:=uA (b4.o.below f);have d1:=b7.o.q 1 rfl;have k1:=bt.o.fb.cell;have cm:=uA f;have bu:=(Aa a7.o f);have ao:=uA bu;clear f x0 x1 x2 x3 x4 x5 x6 d0 d2;obtain ⟨x0,x1,x2,x3,x4,x5,x6⟩:=ab.o _ bu;clear bu;gi_wp2_with fail
   refine ⟨trivial,(callsIn_wide.2 (dj.o w5 fA fc (Aa HB.o ao.o) (uM.of_own vN eW bt.o.fr))).mono ?_⟩;rintro e w7 ⟨A8,c8,rfl,H,ap⟩;obtain ⟨K,hK⟩:∃ K,jmI G bn b.term.targets=K:=⟨_,rfl⟩;rw [hK] at H HV ⊢;have dk:K.length<=100000:=by
    have:=sE G (o:Int);rw [HV.o,aq.o] at this;omega
   obtain ⟨m,hm⟩:∃ m,K.length=m:=⟨_,rfl⟩;have cn:=uA hm;rw [hm] at H dk ⊢;have co:=uA (uI H (Am _));have cp:=uA (bt.o.below ap);have b8:=uA (b7.o.below ap);have b9:=uA (Aa ao.o ap);have a8:=uA (Aa cm.o ap);have cq:=uA (vQ.of_below (n₀:=w.heap.size) (Ts:=iW) a8.o bB);have cr:=uA (zU (B:=W0.heap.size) a8.o);have cs:d.heap.size+3<=w7.heap.size:=Ai hs a8.o.size;clear hm H ap x0 x1 x2 x3 x4 x5 x6 d1 k1 hK;gi_wp2;gi_loopw [32] (fun v wr=>∃ q:Nat,v=.int .i64 (q:Int)/\q<=m/\Hdd (EdW (w.heap.size+1) (w.heap.size+1+1) d.heap.size bn fc fA (stI G bn) (L++(K.take q).map fun z=>((o:Int),z)) wr)/\Hdd (wr.ownsRow 0 3 1 (.slice A8 m c8) m (K.flatMap uX))/\Hdd (Bx wr Bq [.int .i64 (o:Int),.int .i64 (si:Int),.int .i64 (sk:Int)] 159)/\Hdd (Ab W1 wr)/\Hdd (vQ w.heap.size iW W wr)/\Hdd (KeepsFrom W0.heap.size W wr)/\d.heap.size+3<=wr.heap.size) (fun v _=>m - (intOf v).toNat)
   case atStart=>exact ⟨0,rfl,Am _,uA (by simpa using cp.o),co,b8,b9,cq,cr,cs⟩
   case round=>
    clear co cp b8 b9 a8 cq cr cs;obtain ⟨q,rfl,hq,az,ct,ba,bv,cu,cv,dl⟩:=hrel;by_cases dm:q < m
    ·have cw:(q:Int) < (m:Int):=bB;obtain ⟨z,hz⟩:∃ z,K[q]?=some z:=⟨_,Ad (by rw [cn.o];exact dm)⟩;obtain ⟨g,z',dn,_,cx⟩:=(uM.of_own vN eW ct.o).at_ hz;subst dn;have c0:wr.cell? ⟨g,z'+q,none⟩=some (.int .i64 z):=(by simpa using cx 0 _ rfl);have bw:=uA (show (K.take (q+1)).map (fun z=>((o:Int),z))=(K.take q).map (fun z=>((o:Int),z))++[((o:Int),z)] by rw [Bm,hz,By];rfl);have dp:(L++(K.take q).map fun z=>((o:Int),z)).length<=100000*100000+100000:=by
      rw [Aw,Ao,B9];omega
     obtain ⟨M,hM⟩:∃ M,(L++(K.take q).map fun z=>((o:Int),z))=M:=⟨_,rfl⟩;rw [hM] at az dp;have HM:=uA hM;obtain ⟨A,c,u,t⟩:=az.o.row;have k0:=u.cell;have d0:=ba.o.q 0 rfl;have F:=uB wr (.cells #[.int .i64 (o:Int),.int .i64 z] 54);have bp:=uA (az.o.below F);have bq:=uA ((F.block _ u.lt).trans u:Boxed _ _ _ _);have ag:=uA (uC t F);have a3:=uA F;clear u t F cx hz hM;gi_wp2_with (gi_at_builtin;refine wpListIn_append_own_at _ rfl _ _ 23 rfl (w.heap.size+1) 54 i0 (.agg #[.int .i64 0,.int .i64 0]) 2 16 underlying23 hi ce cf cg rfl eW _ M.length (M.flatMap pV) rfl ag.o ⟨wr.heap.size,0,none⟩ 1 1 (pV ((o:Int),z)) rfl rfl (Bd (heap_alloc_new wr (.cells #[.int .i64 (o:Int),.int .i64 z] 54))) (gO _) (by unfold maxLen;omega) bB (by rw [Ak];omega) ?_;intro v6 w6 a ah _ ai;obtain ⟨A6,k6,rfl⟩:=wU a;obtain ⟨a5,aj,ak,al,am,an⟩:=EdW.step (n₀:=w.heap.size) (B:=W0.heap.size) bp.o bq.o ag.o a ah (by rw [Ak];omega) (show w.heap.size+1<=w.heap.size+1+1 by omega) (Cc _);have q6:=a5.cell;have f6:=a5.frozen;have ae:=uA aj;have ck:=uA ak;have a1:=uA al;have br:=uA am;have bs:=uA an;clear a5 aj ak al am an a ah ai)
     have cl:wr.heap.size<=(w6.setCell ⟨w.heap.size+1+1,0,none⟩ (.slice A6 (M.length+1) k6)).heap.size:=by
      have h1:=a1.o.size;rw [Ak] at h1;omega
     have cy:=uA ((K2.of_below a3.o).trans ck.o);exact ⟨⟨q+1,by go_num,bB,uA (by rw [bw.o,<- C2,HM.o];exact ae.o),uA (WX ct.o cy.o eW eW),uA (cy.o _ _ _ _ ba.o eW eW),uA (bv.o.trans ((a3.o.mono bv.o.size).trans (a1.o.mono (Cw aa.o)))),uA (cu.o.trans ((vQ.of_below a3.o bB).trans br.o)),uA (cv.o.trans ((zU a3.o).trans bs.o)),bB⟩,by simp [intOf];omega⟩
    ·have cw:¬(q:Int) < (m:Int):=bB;obtain rfl:m=q:=by omega
     have bw:Hdd (K.take m=K):=Au (Cw cn.o);gi_wp2;exact ⟨by rw [<-ca];exact cv.o,cu.o,⟨by rw [bo.o,HV.o];exact bw.o ▸ az.o,dl⟩,bv.o⟩
 case done=>
  rintro D ys W hD cz ⟨⟨hE,hs⟩,hB⟩ hK;have HV:Hdd (edP G ys=xF G):=uEd (by rw [aq.o];exact cz);rw [HV.o] at hE;obtain ⟨A,c,u,t⟩:=hE.row;have k0:=u.cell;have d3:=uA t;have dq:=uA (Aa HB.o hB);have dr:w.heap.size<=D:=by omega
  clear hE u t cz;gi_wp2;refine ⟨nF,.inl ⟨_,_,rfl,run_takeDeferred hK,?_⟩⟩;refine ⟨_,results_tmp rfl _ _ _,A,c,rfl,uI (jF d3.o (grownBy_putObj' W D (.deferred none)) (fun r e=>by cases e;exact ⟨_,hK,rfl⟩)) (Cc _),dq.o.trans (belowK_b (w:=w) (Ae _) W D _ _ dr hK rfl rfl)⟩
 case stop=>
  rintro D cd a4 W hD dt h hK;exact h.elim
end
theorem GY {l:List BkV} {p i k:Nat} {b:BkV} (h:wA l p=some (i,k)) (f:l[i]?=some b) (q:Int):vF l q (p+1)=vF l q p++DM p (zZ b k) (oY b k) q:=by
 have g:∀ z,z∈mJ l (p:Int)↔z∈zZ b k:=fun z=>by unfold mJ;rw [LH (oI h) f];exact cJ
 have j:UF l (p:Int)=oY b k:=by unfold UF;exact LH (oI h) f
 rw [CE];congr 1;unfold zW DM;rw [j];by_cases a:q∈zZ b k
 ·rw [if_pos ((g q).2 a),if_pos a]
 ·rw [if_neg fun e=>a ((g q).1 e),if_neg a];by_cases d:oY b k=some q
  ·rw [if_pos d,if_pos d]
  ·rw [if_neg d,if_neg d]
theorem YY {p:Nat} {U:List Int} {D:Option Int} {q:Int}:DM p U D q≠[]↔q∈U\/D=some q:=by
 unfold DM;by_cases a:q∈U
 ·simp [a]
 ·by_cases b:D=some q <;> simp [a,b]
structure oM (w:World) (l:List BkV) (fb bb m n:Nat) (A:Option Addr) (c i p:Nat):Prop where
 box:Bx w fb [.slice A i c,.slice (some ⟨bb,0,none⟩) n n,.map (some m)] 258
 st:w.ownsRow m 3 1 (.slice A i c) i ((stI l i).flatMap uX)
 sit:∃ S K,dY w m m S K/\(∀ q,(S q).L=vF l q p)/\(∀ q,q∈K↔vF l q p≠[])/\K.length<=p*900003
section
variable {w w' w7 wp:World} {l:List BkV} {fb bb m n:Nat} {A:Option Addr} {c i p:Nat}
theorem oM.below (h:oM w l fb bb m n A c i p) (a:Ab w w'):oM w' l fb bb m n A c i p:=by
 obtain ⟨S,K,b,d⟩:=h.sit;exact ⟨h.box.below a,uC h.st a,S,K,b.below a,d⟩
theorem oM.note {S:Int->SlW (Nat×Bool)} {K:List Int} {k j:Nat} {b:BkV} (h:oM w l fb bb m n A c i p) (g:KT 272 w w') (s:∀ q,(S q).L=vF l q p) (t:∀ q,q∈K↔vF l q p≠[]) (f:K.length<=p*900003)
 (o:wA l p=some (j,k)) (r:l[j]?=some b) (B:(zZ b k).length<=900002) (u:∃ d a,dY w' m m d a/\(∀ q,(d q).L=(S q).L++DM p (zZ b k) (oY b k) q)/\(∀ q,q∈a↔q∈K\/q∈zZ b k\/oY b k=some q)/\a.length<=K.length+(zZ b k).length+1):oM w' l fb bb m n A c i (p+1):=by
 obtain ⟨d,a,v,x,y,C⟩:=u;refine ⟨h.box.kt g eW,xV h.st g eW,d,a,v,fun q=>?_,fun q=>?_,bB⟩
 ·rw [x,s,GY o r]
 ·rw [y,t,GY o r,<- YY (p:=p)];constructor
  ·rintro (e | e) h
   ·exact e (Gs.1 h).1
   ·exact e (Gs.1 h).2
  ·intro e;by_cases f:vF l q p=[]
   ·refine .inr fun z=>e ?_
    rw [f,z];rfl
   ·exact .inl f
theorem oM.noted {a:World} {f k j:Nat} {b:BkV} {U:List Int} {D:Option Int} (h:oM a l fb bb m n A c i p) (v:wC a f U) (g:f≠m) (x:wA l p=some (j,k)) (y:l[j]?=some b) (z:zZ b k=U) (B:oY b k=D) (o:∀ d,D=some d->uH d) (C:(zZ b k).length<=900002) (I:p<=1000) :
 Calls prog 161 #[.pointer (some ⟨fb,0,none⟩),.int .i64 (p:Int),.agg #[.map (some f),.int .i64 (D.getD 0),.bool D.isSome]] a fun e w'=>e=.returned (.tuple #[])/\oM w' l fb bb m n A c i (p+1)/\KT 272 a w'/\Below m a w':=by
 obtain ⟨S,K,s,t,E,F⟩:=h.sit;subst z B;refine (VG fb m m f p S K _ _ _ a h.box rfl s v g (Ae _) bB bB bB (fun q=>?_) o).mono ?_
 ·have G:=s.len q;have J:=fM l q p;rw [t q] at G;omega
 ·rintro e w' ⟨rfl,H,u,r⟩;exact ⟨rfl,h.note u t E F x y C H,u,r⟩
theorem oM.start {g cap:Nat} (h:oM w l fb bb m n A c i p) (o:Ab w wp) (v:wp.grownBy w7 (Value.slice A i c).ownBlock) (q:w7.ownsRow m 3 1 (.slice (some ⟨g,0,none⟩) (i+1) cap) (i+1) ((stI l i).flatMap uX++[.int .i64 (uD l i:Int)])) :
 w7.cell? ⟨fb,0,none⟩=some (.slice A i c)/\w7.frozen? ⟨fb,0,none⟩=false/\oM (w7.setCell ⟨fb,0,none⟩ (.slice (some ⟨g,0,none⟩) (i+1) cap)) l fb bb m n (some ⟨g,0,none⟩) cap (i+1) p/\∀ lo,lo<=m->lo<=fb->lo<=w.heap.size->Below lo w (w7.setCell ⟨fb,0,none⟩ (.slice (some ⟨g,0,none⟩) (i+1) cap)):=by
 obtain ⟨S,K,x,H⟩:=h.sit;have u:=KT.of_grown v (uC h.st o);have r:∀ b,(Value.slice A i c).ownBlock=some b->m<=b:=fun b u=>(h.st.lt b u).1
 have d:=(h.box.below o).kt u eW;have s:=KT.of_set d 0 (.slice (some ⟨g,0,none⟩) (i+1) cap);have I:=h.box.lt;have J:=o.size;have t:∀ b,(Value.slice A i c).ownBlock=some b->b≠m:=fun b y e=>by
  subst e;obtain ⟨Q,G⟩:=zQ h.st y;obtain ⟨_,⟨M,k,z,_⟩,_⟩:=x.own;rw [z] at G;cases G
 have B:Turn (fun b=>b≠m/\m<=b) wp w7:=(Turn.refl _ _).grown v fun b f=>.inl ⟨t b f,r b f⟩
 have C:=(x.below o).kt u eW B (fun e=>e.1 rfl);have D:fb≠m:=fun e=>by
  subst e;obtain ⟨_,⟨M,k,z,_⟩,_⟩:=x.own;have E:=h.box;unfold Bx at E;rw [z] at E;cases E
 have F:Turn (fun b=>b=fb) w7 (w7.setCell ⟨fb,0,none⟩ (.slice (some ⟨g,0,none⟩) (i+1) cap)):=Turn.setCell (a:=⟨fb,0,none⟩) (Turn.refl (fun b=>b=fb) w7) (.inl rfl) _;refine ⟨d.q 0 rfl,d.frozen 0,⟨d.set 0 _,xV (by rw [uA5,Bk];exact q) s eW,S,K,C.kt s eW F (fun e=>D e.symm),H⟩,fun lo N O P=>?_⟩;exact (((o.mono P).grown v bB fun b f=>Ai N (r b f))).setCell O _
end
theorem wJ.of_nil {w:World} {g n:Nat} {T:TypeId} (h:Bx w g (List.replicate n (.slice none 0 0)) T) (base:Nat) (e:TypeId) (k:Nat) {α:Type} (f:α->List Value):wJ w base g T e k f (List.replicate n ⟨none,0,0,[]⟩):=by
 have a:∀ (j:Nat) s,(List.replicate n (⟨none,0,0,[]⟩:SlW α))[j]?=some s->s=⟨none,0,0,[]⟩:=fun j s h=>Ei (Aj h)
 refine ⟨?_,fun j s h=>?_,fun i j s t _ h k g b=>?_⟩
 ·unfold Bx at h;rw [h];simp
 ·rw [a j s h];exact Bv _ _ _ _
 ·rw [a i s h] at b;cases b
theorem OQ {l:List BkV} {n y:Nat} (b:n < uF l) (a:y∈nxN l (n:Int)):(∃ i k,wA l n=some (i,k)/\PS l (n:Int)=i)/\y < uF l:=by
 have d:=(nX.1 (aG.1 a)).1;cases hl:wA l n with
 | none=>have:=mP hl;omega
 | some z=>
   obtain ⟨i,k⟩:=z;exact ⟨⟨i,k,rfl,DO hl⟩,bB⟩
theorem YX {l:List BkV} {y:Nat} (b:y < uF l) (h:(stI l (l.length+1)).contains (y:Int)=true):∃ j,j < l.length/\y=uD l j:=by
 rw [Fk] at h;unfold stI at h;obtain ⟨j,a,e⟩:=Bw.1 h;have a:=B1.1 a;have e:uD l j=y:=by omega
 refine ⟨j,?_,e.symm⟩;refine Dw fun d=>?_
 rw [zM bB] at e;omega
theorem ZE {l:List BkV} {y j:Nat} (h:(stI l (l.length+1)).contains (y:Int)=false) (a:j < l.length):¬((y:Int)=(uD l j:Int)):=fun e=>by
 rw [<-Gk,Fk] at h;refine h ?_;unfold stI;exact Bw.2 ⟨j,B1.2 bB,e.symm⟩
end Go.Proofs.YtnkjbjkoffgocaaGreatDoor
